import PyProof.Rows.All
import Wide.All
import OpenK.AllK
import Wide.FinOn
import Lean
import PyProof.EqAt
import PyProof.EqKinds
import PyProof.TupleCall
import PyProof.NeKinds
import PyProof.Rows.SetFrom
import KE.KRevIter
import PyProof.ZipIter
import PyProof.TupleOfGen
import PyProof.Rows.ZipGen
import PyProof.EnumMake
import PyProof.EnumFor
import PyProof.ListRange
import PyProof.LayNew
import KE.KDictOf
import KE.KIntText
import KE.IntTextLaws
import PyProof.StrCalls2
import PyProof.Rows.StrNews2
import PyProof.StrLawsTight
import PyProof.FactsAll.object
import PyProof.IsiStr
import KE.KIsAll
import KE.KLam
import KE.KNestM
import PyProof.ListMulRight
import PyProof.AttrMissHeap
import PyProof.AutoListH
import PyProof.CallFns
import PyProof.ExcArgsOwn
import PyProof.ExcAttrAll.ValueError
import PyProof.IsInstanceT
import PyProof.RulesAs
import PyProof.Rows.Tup
import OpenK.KOwn
import PyProof.ExcInit
import OpenK.KCls
import OpenK.KMake
import PyProof.InstStoreFacts
import PyProof.RaisesMany
import PyProof.RulesTry
import PyProof.NsDelKeeps
import PyProof.Rows.FStr
import OpenK.KWalk
import PyProof.Rows.SortStr
import KE.KDictSum
import PyProof.Draws
import PyProof.SliceList
import PySem.Challenge.RW_graphpack_k36_parts_read_alone
set_option Elab.async false
set_option linter.all false
set_option maxRecDepth 100000
namespace KfT
open PySem
theorem sl:Slot "function" "__getattribute__" "object.__getattribute__" := by
 refine .of (owner := "object") (n := "__getattribute__") ?_ (by decide +kernel) (by decide +kernel) (by decide +kernel) ?_ ?_
 ·rw [typeLookup_type,builtinLookup_eq_fast]; kernel_rfl
 ·first | exact .inl (by decide +kernel) | exact .inr (by decide +kernel)
 ·rw [isSubtype_type]; kernel_rfl
theorem lk:typeLookup (.type "function") "__class__" = pure (some (.builtin "object.__class__")):=by
 rw [typeLookup_type,builtinLookup_eq_fast]
 kernel_rfl
theorem ow:isSubtype (.type "function") (.type (".".intercalate ("object.__class__".cutAt '.').dropLast)) = pure true:=by
 rw [F.owner_object_class,isSubtype_type]
 kernel_rfl
section
variable {P:Program} {W:World} {A:Around} {X:Value → Shared → Prop} {s:Shared} {f:Addr} {y:Obj}
theorem gs {R:Result → Shared → Prop} (e:s.heap.get? f = some y) (c:y.cls = .type "function") (q:R (.ok (.ret (.type "function"))) s) :
  codeAny (model P W) A (.call (.builtin "getset_descriptor.__get__") ⟨[.builtin "object.__class__",.ref f,.type "function"],[]⟩) R s:=by
 obtain ⟨hh,gg,dd,tt,oo⟩:=s
 have z1:(⟨hh,gg,dd,tt,oo⟩:Shared).TypeIs (.ref f) "function" := ⟨_,e,c⟩
 have z2:=ow
 refine codeAny_call_builtin F.slot_gs_get.plain F.entry_gs_get (F.slot_gs_get.check _ _ _ _ _ _ _ _ F.typeOf_object_class (F.args_gs_get _ _ _) ?_)
 repeat (any_goals (first | assumption | wp_step))
 refine ⟨Code.quiet_builtin _ (by decide +kernel),codeAny_builtin F.entry_object_class ?_⟩
 repeat (any_goals (first | assumption | wp_step))
theorem ga {tk:Tok} {R:Fin → Shared → Prop} (e:s.heap.get? f = some y) (c:y.cls = .type "function") (q:R (.done (.ret (.type "function"))) s) :
  wpAny (model P W) A (Builtin.«object.__getattribute__» ⟨[.ref f,.str "__class__" tk],[]⟩) R X s:=by
 obtain ⟨hh,gg,dd,tt,oo⟩:=s
 have z1:(⟨hh,gg,dd,tt,oo⟩:Shared).TypeIs (.ref f) "function" := ⟨_,e,c⟩
 have z2:(⟨hh,gg,dd,tt,oo⟩:Shared).TypeIs (.builtin "object.__class__") "getset_descriptor" := F.typeOf_object_class
 have z3:=lk
 have z4:=F.typeOf_object_class
 have z5:=F.slot_gs_get.lookup
 have z6:=F.slot_gs_set.lookup
 repeat (any_goals (first | assumption | wp_step))
 refine gs e c ?_
 repeat (any_goals (first | assumption | wp_step))
variable {hh:Heap} {gg:Array GenState} {dd:Drawn} {tt:Nat} {oo:OsState}
theorem by' {tk:Tok} {R:Value → Shared → Prop} (e:hh.get? f = some y) (c:y.cls = .type "function") (q:R (.type "function") ⟨hh,gg,dd,tt,oo⟩):wpAny (model P W) A (getAttrBy (.ref f) (.str "__class__" tk) false) R X ⟨hh,gg,dd,tt,oo⟩:=by
 have z1:(⟨hh,gg,dd,tt,oo⟩:Shared).TypeIs (.ref f) "function" := ⟨_,e,c⟩
 have z2:=sl.lookup
 have z3:=sl.bind (.ref f)
 repeat (any_goals (first | assumption | wp_step))
 refine codeAny_call_builtin sl.plain F.entry_object_getattribute (sl.check _ _ _ _ _ _ _ _ z1 (F.args_object_getattribute_2 _ _) (ga e c ?_))
 repeat (any_goals (first | assumption | wp_step))
theorem at' {R:Option Value → Shared → Prop} (e:hh.get? f = some y) (c:y.cls = .type "function") (q:R (some (.type "function")) ⟨hh,gg,dd,tt + 1,oo⟩):wpAny (model P W) A (getAttr? (.ref f) "__class__") R X ⟨hh,gg,dd,tt,oo⟩:=by
 unfold getAttr? getAttrBy?
 repeat (any_goals (first | assumption | with_reducible apply by' e c | wp_step))
end
theorem kit {K:W.Frag} {f:Addr}:W.KitX K (.ref f) (.type "function") (W.KitAt f "function"):=W.kitx_of W.kitAt_ty fun {_ _ _ _ _ s} p k=>by
 obtain ⟨hh,gg,dd,tt,oo⟩:=s
 obtain ⟨_,e,c⟩:=p
 exact at' e c k
end KfT
namespace L2
open PySem PySem.Spec PyProof.Rows
noncomputable abbrev Key:=Sum Int Str
noncomputable def keyIs:Key → Value → Bool
 | .inl k,v=>Value.isInt k v
 | .inr x,v=>Value.isStrOf x v
noncomputable def keyH (w:World):Key → Int
 | .inl k=>hashInt k
 | .inr x=>hashStr w x
theorem keyIs_shape:∀ {k:Key} {v:Value},keyIs k v = true → (∃ i t,k = Sum.inl i ∧ v = Value.int i t) ∨ (∃ x t,k = Sum.inr x ∧ v = Value.str x t)
 | .inl i,v,h=>by
  obtain ⟨t,e⟩:=Value.isInt_shape (k:=i) (v:=v) h
  exact .inl ⟨i,t,rfl,e⟩
 | .inr x,v,h=>by
  obtain ⟨t,e⟩:=Value.isStrOf_shape (x:=x) (v:=v) h
  exact .inr ⟨x,t,rfl,e⟩
theorem keyIs_int (i:Int) (t:Tok):keyIs (.inl i) (.int i t) = true:=by simp [keyIs,Value.isInt]
theorem keyIs_str (x:Str) (t:Tok):keyIs (.inr x) (.str x t) = true:=by simp [keyIs,Value.isStrOf]
theorem key_ll (a b:Int):decide ((Sum.inl a:Key) = Sum.inl b) = (a == b):=by
 by_cases e:a = b
 ·subst e; simp
 ·have h:¬ (Sum.inl a:Key) = Sum.inl b:=fun q=>e (Sum.inl.inj q)
  rw [decide_eq_false h]
  exact (beq_eq_false_iff_ne.mpr e).symm
theorem key_rr (a b:Str):decide ((Sum.inr a:Key) = Sum.inr b) = decide (a = b):=by
 by_cases e:a = b
 ·subst e; simp
 ·have h:¬ (Sum.inr a:Key) = Sum.inr b:=fun q=>e (Sum.inr.inj q)
  rw [decide_eq_false h,decide_eq_false e]
theorem key_lr (a:Int) (b:Str):decide ((Sum.inl a:Key) = Sum.inr b) = false:=decide_eq_false (fun q=>nomatch q)
theorem key_rl (a:Str) (b:Int):decide ((Sum.inr a:Key) = Sum.inl b) = false:=decide_eq_false (fun q=>nomatch q)
noncomputable def mixKind (prog:Program) (w:World):PySem.KeyKind prog w Key where
 is:=keyIs
 hash:=keyH w
 inj:=fun v a b ha hb=>by
  rcases keyIs_shape ha with ⟨i,t,rfl,rfl⟩ | ⟨x,t,rfl,rfl⟩
  ·rcases keyIs_shape hb with ⟨j,u,rfl,e⟩ | ⟨y,u,rfl,e⟩
   ·injection e with e1 _; rw [e1]
   ·exact nomatch e
  ·rcases keyIs_shape hb with ⟨j,u,rfl,e⟩ | ⟨y,u,rfl,e⟩
   ·exact nomatch e
   ·injection e with e1 _; rw [e1]
 byValue:=fun k v h=>by
  rcases keyIs_shape h with ⟨i,t,rfl,rfl⟩ | ⟨x,t,rfl,rfl⟩ <;> rfl
 pyHash:=fun hv h=>by
  rcases keyIs_shape hv with ⟨i,t,rfl,rfl⟩ | ⟨x,t,rfl,rfl⟩
  ·exact wpAny_pyHash_int h
  ·exact wpAny_pyHash_str h
 eqBool:=fun hu hv h=>by
  rcases keyIs_shape hu with ⟨i,t,rfl,rfl⟩ | ⟨x,t,rfl,rfl⟩
  ·rcases keyIs_shape hv with ⟨j,u,rfl,rfl⟩ | ⟨y,u,rfl,rfl⟩
   ·rw [key_ll] at h; exact wpAny_eqBool_int h
   ·rw [key_lr] at h; exact SeqAt.EqAt.int_str i t y u _ _ _ _ h
  ·rcases keyIs_shape hv with ⟨j,u,rfl,rfl⟩ | ⟨y,u,rfl,rfl⟩
   ·rw [key_rl] at h; exact SeqAt.EqAt.str_int x t j u _ _ _ _ h
   ·rw [key_rr] at h; exact wpAny_eqBool_str h
 «strs»:=fun k x t v h=>by
  rcases keyIs_shape h with ⟨i,u,rfl,e⟩ | ⟨y,u,rfl,e⟩
  ·exact nomatch e
  ·injection e with e1 _
   subst e1
   cases v <;> rfl
theorem mixKind_int (prog:Program) (w:World) (i:Int) (t:Tok):(mixKind prog w).is (.inl i) (.int i t) = true:=keyIs_int i t
theorem mixKind_str (prog:Program) (w:World) (x:Str) (t:Tok):(mixKind prog w).is (.inr x) (.str x t) = true:=keyIs_str x t
inductive V where
 | non | bl (b:Bool) | int (i:Int) | str (x:Str) | byt (b:Array UInt8) | flt (b:UInt64) | ref (a:Addr) | ty (n:String)
 deriving DecidableEq
noncomputable def RelV:V → Value → Prop
 | .non,u=>u = Value.none
 | .bl b,u=>u = Value.bool b
 | .int i,u=>∃ t,u = Value.int i t
 | .str x,u=>∃ t,u = Value.str x t
 | .byt b,u=>∃ t,u = Value.bytes b t
 | .flt b,u=>∃ t,u = Value.float b t
 | .ref a,u=>u = Value.ref a
 | .ty n,u=>u = Value.type n
noncomputable abbrev Vals:List V → List Value → Prop:=Paired RelV
theorem Vals.length {xs:List V} {us:List Value} (r:Vals xs us):xs.length = us.length:=Paired.length r
theorem Vals.get:∀ {xs:List V} {us:List Value} {i:Nat} {x:V},Vals xs us → xs[i]? = some x → ∃ u,us[i]? = some u ∧ RelV x u
 | _,_,_,_,.nil,e=>by simp at e
 | _,_,0,_,.cons r _,e=>by simp at e; subst e; exact ⟨_,rfl,r⟩
 | _,_,i + 1,x,.cons _ t,e=>by
  obtain ⟨u,h1,h2⟩:=Vals.get (i:=i) (x:=x) t (by simpa using e)
  exact ⟨u,by simpa using h1,h2⟩
theorem Vals.append:∀ {xs ys:List V} {us ws:List Value},Vals xs us → Vals ys ws → Vals (xs ++ ys) (us ++ ws)
 | _,_,_,_,.nil,s=>s
 | _,_,_,_,.cons r t,s=>.cons r (Vals.append t s)
theorem Vals.take:∀ {xs:List V} {us:List Value} (n:Nat),Vals xs us → Vals (xs.take n) (us.take n)
 | _,_,0,_=>.nil
 | _,_,_ + 1,.nil=>.nil
 | _,_,n + 1,.cons r t=>.cons r (Vals.take n t)
theorem Vals.drop:∀ {xs:List V} {us:List Value} (n:Nat),Vals xs us → Vals (xs.drop n) (us.drop n)
 | _,_,0,r=>r
 | _,_,_ + 1,.nil=>.nil
 | _,_,n + 1,.cons _ t=>Vals.drop n t
theorem Vals.none_of:∀ {xs:List V} {us:List Value} {i:Nat},Vals xs us → xs[i]? = none → us[i]? = none:=fun {xs us i} r e=>by
 have h1:=r.length
 have h2:xs.length ≤ i:=List.getElem?_eq_none_iff.mp e
 exact List.getElem?_eq_none_iff.mpr (by omega)
noncomputable def RelO:Option V → Option Value → Prop
 | some v,some u=>RelV v u
 | none,none=>True
 | _,_=>False
noncomputable def KV {κ:Type}:List (κ × V) → List (κ × Value) → Prop:=Paired fun (p:κ × V) (q:κ × Value)=>p.1 = q.1 ∧ RelV p.2 q.2
noncomputable def kV:Key → V
 | .inl i=>.int i
 | .inr x=>.str x
inductive HO where
 | lst (xs:List V)
 | tup (xs:List V)
 | dK (kvs:List (Key × V)) | dT (kvs:List (List Key × V))
 | set (S:Int → Bool) (n:Nat)
 | ins (C dx:Addr) (fs:List (Str × V))
 | own (x:Addr)
 | xd (fs:List (Str × V))
 | met (f x:Addr)
 | rng (lo hi:Int)
 | frz (o:Obj) (u:HO)
 | tbl (ps:Array Value)
 | ext (φ:Heap → Prop)
noncomputable abbrev Hp:=Addr → Option HO
noncomputable def upd (H:Hp) (a:Addr) (o:HO):Hp:=fun b=>if b = a then some o else H b
theorem upd_same {H:Hp} {a:Addr} {o:HO}:upd H a o a = some o:=by unfold upd; rw [if_pos rfl]
theorem upd_ne {H:Hp} {a b:Addr} {o:HO} (h:b ≠ a):upd H a o b = H b:=by unfold upd; rw [if_neg h]
theorem ne_of {H:Hp} {a b:Addr} {o u:HO} (h:H a = some o) (h':H b = some u) (d:o ≠ u):a ≠ b:=by
 intro e; subst e; rw [h] at h'; exact d (Option.some.inj h')
theorem ne_of_none {H:Hp} {a b:Addr} {o:HO} (h:H a = some o) (h':H b = none):a ≠ b:=by
 intro e; subst e; rw [h] at h'; cases h'
noncomputable def IsTupN (h:Heap) (a:Addr) (items:Array Value):Prop:=∃ o,h.get? a = some o ∧ o.cls = .type "tuple" ∧ ∃ n,o.data = .seq items n ∧ o.dict = none
theorem IsTupN.tup {h:Heap} {a:Addr} {items:Array Value} (x:IsTupN h a items):IsTup h a items:=let ⟨o,e,c,n,d,_⟩:=x; ⟨o,e,c,n,d⟩
theorem IsTupN.new (h:Heap) (items:Array Value):IsTupN (h.push { cls:=.type "tuple",data:=.seq items }) h.objs.size items:=⟨_,Heap.get?_push_size _ rfl,rfl,_,rfl,rfl⟩
noncomputable def qOf (ps:Array Value):Str:=match (ps[0]?:Option Value) with
 | some (.str q _)=>q
 | _ => ""
noncomputable def TabOk (H:Hp) (h:Heap) (a:Addr) (q:Str):Prop:=∃ cont:Array Value,h.get? a = some { cls:=.none,data:=.fields cont } ∧ TriplesOk cont.toList ∧
 ∀ pos cv,codeAmong pos cont.toList = some cv → ∃ c oc vs tq,cv = .ref c ∧ H c = some (.frz oc (.own c)) ∧ oc.data = .fields vs ∧ vs[1]? = some (.str q tq)
section
variable (P:Program) (w:World)
noncomputable def ObjOk (H:Hp) (h:Heap) (a:Addr):HO → Prop
 | .lst xs=>xs.length ≤ sizeLine ∧ ∃ (its:List Value) (n:Nat),Vals xs its ∧ h.get? a = some { cls:=.type "list",data:=.seq its.toArray n }
 | .tup xs=>xs.length ≤ sizeLine ∧ ∃ its:List Value,Vals xs its ∧ IsTupN h a its.toArray
 | .dK kvs=>kvs.length ≤ sizeLine ∧ (a == sysModules) = false ∧ ∃ vs,KV kvs vs ∧ h.DictOf (mixKind P w) a vs
 | .dT kvs=>kvs.length ≤ sizeLine ∧ (a == sysModules) = false ∧ ∃ xs:List (List Key × Addr × Value),
   Paired (fun (p:List Key × V) (q:List Key × Addr × Value)=>p.1 = q.1 ∧ H q.2.1 = some (.tup (p.1.map kV)) ∧ RelV p.2 q.2.2) kvs xs ∧
   ∃ o es ep,h.get? a = some o ∧ o.ExactDict ∧ o.data = .dict es ep ∧ es.toList = xs.map (entryOfKey (tupleKind (mixKind P w))) ∧ (xs.map (·.1)).Nodup
 | .set S n=>h.SetOf (intKind P w) a S n
 | .ins C dx fs=>H dx = some (.own a) ∧ fs.length ≤ 1000 ∧ dx ≠ a ∧ h.get? a = some (W.instObj C dx) ∧
   ∃ mA,h.Ns1 dx mA ∧ (∀ f,RelO (fs.lookup f) (mA f)) ∧ PySem.Within mA (fs.map (·.1))
 | .own _=>∃ o,h.get? a = some o
 | .xd fs=>∃ mA,h.Ns1 a mA ∧ ∀ f,RelO (fs.lookup f) (mA f)
 | .rng lo hi=>∃ t u v,h.get? a = some { cls:=.type "range",data:=.fields #[.int lo t,.int hi u,.int 1 v] }
 | .frz o u=>h.get? a = some o ∧ ObjOk H h a u
 | .tbl ps=>TabOk H h a (qOf ps)
 | .met f x=>h.get? a = some (W.methodObj (.ref f) (.ref x))
 | .ext φ=>φ h ∧ (∃ o,h.get? a = some o) ∧ ∀ h1 h2:Heap,φ h1 → (∀ o,h1.get? a = some o → h2.get? a = some o) → φ h2
noncomputable def HOk (H:Hp) (h:Heap):Prop:=∀ a o,H a = some o → ObjOk P w H h a o
end
section
variable {P:Program} {w:World} {H H':Hp} {h h':Heap} {a:Addr} {o:HO}
theorem ObjOk.lt (x:ObjOk P w H h a o):a < h.objs.size:=by
 cases o with
 | lst xs=>obtain ⟨_,_,_,_,e⟩:=x; exact Heap.lt_size e
 | tup xs=>obtain ⟨_,_,_,p⟩:=x; exact p.tup.lt
 | dK kvs=>obtain ⟨_,_,_,_,o,_,_,e,_⟩:=x; exact Heap.lt_size e
 | dT kvs=>obtain ⟨_,_,_,_,o,_,_,e,_⟩:=x; exact Heap.lt_size e
 | set S n=>obtain ⟨o,_,_,_,e,_⟩:=x; exact Heap.lt_size e
 | ins C dx fs=>obtain ⟨_,_,_,e,_⟩:=x; exact Heap.lt_size e
 | own y=>obtain ⟨_,e⟩:=x; exact Heap.lt_size e
 | xd fs=>obtain ⟨_,⟨_,_,_,e,_⟩,_⟩:=x; exact Heap.lt_size e
 | rng lo hi=>obtain ⟨_,_,_,e⟩:=x; exact Heap.lt_size e
 | frz ob u=>obtain ⟨e,_⟩:=x; exact Heap.lt_size e
 | tbl ps=>obtain ⟨_,e,_⟩:=(show TabOk H h a (qOf ps) from x); exact Heap.lt_size e
 | met f y=>exact Heap.lt_size (show h.get? a = some _ from x)
 | ext φ=>obtain ⟨_,⟨_,e⟩,_⟩:=x; exact Heap.lt_size e
theorem Paired.mapP {α β:Type} {F G:α → β → Prop}:∀ {l₁:List α} {l₂:List β},Paired F l₁ l₂ → (∀ a b,F a b → G a b) → Paired G l₁ l₂
 | _,_,.nil,_=>.nil
 | _,_,.cons r t,f=>.cons (f _ _ r) (Paired.mapP t f)
theorem ObjOk.stay (x:ObjOk P w H h a o) (k:∀ b u,(b = a ∨ H b = some (.own a)) → h.get? b = some u → h'.get? b = some u)
  (ho:∀ b,H b = some (.own a) → H' b = some (.own a)) (ht:∀ b xs,H b = some (.tup xs) → H' b = some (.tup xs)) (hf:∀ b ob u,H b = some (.frz ob u) → H' b = some (.frz ob u)):ObjOk P w H' h' a o:=by
 induction o with
 | lst xs=>obtain ⟨z,its,n,r,e⟩:=x; exact ⟨z,its,n,r,k _ _ (.inl rfl) e⟩
 | tup xs=>obtain ⟨z,its,r,ob,e,c⟩:=x; exact ⟨z,its,r,ob,k _ _ (.inl rfl) e,c⟩
 | dK kvs=>obtain ⟨z,y,vs,r,ob,es,ep,e,c⟩:=x; exact ⟨z,y,vs,r,ob,es,ep,k _ _ (.inl rfl) e,c⟩
 | dT kvs =>
  obtain ⟨z,y,xs,r,ob,es,ep,e,c⟩:=x
  exact ⟨z,y,xs,Paired.mapP r fun p q z=>⟨z.1,ht _ _ z.2.1,z.2.2⟩,ob,es,ep,k _ _ (.inl rfl) e,c⟩
 | set S n=>obtain ⟨ob,es,ep,t,e,c⟩:=x; exact ⟨ob,es,ep,t,k _ _ (.inl rfl) e,c⟩
 | ins C dx fs =>
  obtain ⟨d,z,ne,e,mA,⟨od,es,ep,e2,c⟩,r⟩:=x
  exact ⟨ho _ d,z,ne,k _ _ (.inl rfl) e,mA,⟨od,es,ep,k _ _ (.inr d) e2,c⟩,r⟩
 | own y=>obtain ⟨ob,e⟩:=x; exact ⟨ob,k _ _ (.inl rfl) e⟩
 | xd fs=>obtain ⟨mA,⟨od,es,ep,e,c⟩,r⟩:=x; exact ⟨mA,⟨od,es,ep,k _ _ (.inl rfl) e,c⟩,r⟩
 | rng lo hi=>obtain ⟨t,u,v,e⟩:=x; exact ⟨t,u,v,k _ _ (.inl rfl) e⟩
 | frz ob u ih=>obtain ⟨e,q⟩:=x; exact ⟨k _ _ (.inl rfl) e,ih q⟩
 | tbl ps =>
  obtain ⟨cont,e,t,c⟩:=(show TabOk H h a (qOf ps) from x)
  exact ⟨cont,k a _ (.inl rfl) e,t,fun pos cv q=>let ⟨c',oc,vs,tq,z1,z2,z3⟩:=c pos cv q; ⟨c',oc,vs,tq,z1,hf _ _ _ z2,z3⟩⟩
 | met f y =>
  have e:h.get? a = some (W.methodObj (.ref f) (.ref y)):=x
  show h'.get? a = some (W.methodObj (.ref f) (.ref y))
  exact k a _ (.inl rfl) e
 | ext φ=>obtain ⟨p,⟨o,e⟩,st⟩:=x; exact ⟨st _ _ p fun o q=>k _ _ (.inl rfl) q,⟨o,k _ _ (.inl rfl) e⟩,st⟩
theorem HOk.lt (x:HOk P w H h) (e:H a = some o):a < h.objs.size:=(x a o e).lt
theorem HOk.fresh (x:HOk P w H h) (e:h.objs.size ≤ a):H a = none:=by
 cases q:H a with
 | none=>rfl
 | some u=>exact absurd (Nat.lt_of_lt_of_le (x.lt q) e) (Nat.lt_irrefl _)
theorem HOk.kept (x:HOk P w H h) (k:∀ b u,h.get? b = some u → h'.get? b = some u):HOk P w H h':=fun a o e =>
 (x a o e).stay (fun b u _ q=>k b u q) (fun _ q=>q) (fun _ _ q=>q) fun _ _ _ q=>q
theorem HOk.laid (x:HOk P w H h) (k:∀ b u,h.get? b = some u → h'.get? b = some u) (hp:h.objs.size ≤ a) (new:ObjOk P w (upd H a o) h' a o):HOk P w (upd H a o) h':=fun b u e=>by
 have hn:=x.fresh hp
 by_cases hb:b = a
 ·subst hb; rw [upd_same] at e; cases e; exact new
 ·rw [upd_ne hb] at e
  exact (x b u e).stay (fun c v _ q=>k c v q) (fun c q=>by rw [upd_ne (ne_of_none q hn)]; exact q) (fun c xs q=>by rw [upd_ne (ne_of_none q hn)]; exact q) fun c ob u' q=>by rw [upd_ne (ne_of_none q hn)]; exact q
end
noncomputable def Rd (H:Hp) (a:Addr) (u:HO):Prop:=H a = some u ∨ ∃ o,H a = some (.frz o u)
theorem Rd.ok {P:Program} {w:World} {H:Hp} {h:Heap} {a:Addr} {u:HO} (r:Rd H a u) (x:HOk P w H h):ObjOk P w H h a u:=by
 rcases r with r | ⟨o,r⟩
 ·exact x a u r
 ·obtain ⟨_,q⟩:=x a _ r
  exact q
noncomputable def Mut:Option HO → Prop
 | some (.lst _)=>True
 | some (.dK _)=>True
 | some (.dT _)=>True
 | some (.set _ _)=>True
 | some (.ins _ _ _)=>True
 | some (.ext _)=>True
 | _=>False
section
variable {P:Program} {w:World} {H:Hp} {h h':Heap} {x e:Addr} {o':HO}
theorem HOk.write (ok:HOk P w H h) (mu:Mut (H x)) (he:e = x ∨ H e = some (.own x)) (k:∀ b u,b ≠ e → h.get? b = some u → h'.get? b = some u) (heo:∃ u,h'.get? e = some u)
  (new:ObjOk P w (upd H x o') h' x o'):HOk P w (upd H x o') h':=fun b u q=>by
 have nown:∀ c y,H c = some (.own y) → c ≠ x:=fun c y r z=>by subst z; rw [r] at mu; exact mu
 have ntup:∀ c xs,H c = some (.tup xs) → c ≠ x:=fun c xs r z=>by subst z; rw [r] at mu; exact mu
 have nfrz:∀ c ob u',H c = some (.frz ob u') → c ≠ x:=fun c ob u' r z=>by subst z; rw [r] at mu; exact mu
 by_cases hb:b = x
 ·subst hb; rw [upd_same] at q; cases q; exact new
 ·rw [upd_ne hb] at q
  by_cases hbe:b = e
  ·have q':H b = some (.own x):=by
    rcases he with z | z
    ·exact absurd (hbe.trans z) hb
    ·rw [hbe]; exact z
   rw [q] at q'; cases q'
   obtain ⟨v,hv⟩:=heo
   exact ⟨v,by rw [hbe]; exact hv⟩
  ·refine (ok b u q).stay (fun c v hc r=>k c v ?_ r) (fun c r=>by rw [upd_ne (nown c b r)]; exact r) (fun c xs r=>by rw [upd_ne (ntup c xs r)]; exact r) fun c ob u' r=>by rw [upd_ne (nfrz c ob u' r)]; exact r
   rcases hc with rfl | hc
   ·exact hbe
   ·rintro rfl
    rcases he with z | z
    ·exact nown c b hc z
    ·rw [hc] at z; cases z; exact hb rfl
end
structure Un (fs ex:List Addr) (H H':Hp) (h h':Heap):Prop where
 keep:∀ b o,h.get? b = some o → H b = none → b ∉ fs → b ∉ ex → h'.get? b = some o
 slot:∀ b o,h.get? b = some o → H b = none → b ∈ fs → b ∉ ex → ∃ sl,h'.get? b = some { o with slots:=sl }
 free:∀ b o,h.get? b = some o → H b = none → b ∉ ex → H' b = none
 there:∀ b o,h.get? b = some o → b ∉ ex → ∃ o',h'.get? b = some o'
 tups:∀ b xs,H b = some (.tup xs) → H' b = some (.tup xs)
 frzs:∀ b o u,H b = some (.frz o u) → H' b = some (.frz o u)
 tbls:∀ b ps,H b = some (.tbl ps) → ∃ more,H' b = some (.tbl (ps ++ more))
section
variable {fs fs' ex ex':List Addr} {H H1 H2:Hp} {h h1 h2 h':Heap} {a x e:Addr} {o:HO}
theorem Un.any (u:Un fs ex H H1 h h1) {b:Addr} {ob:Obj} (q:h.get? b = some ob) (n:H b = none) (hx:b ∉ ex):∃ sl,h1.get? b = some { ob with slots:=sl }:=by
 by_cases hb:b ∈ fs
 ·exact u.slot b ob q n hb hx
 ·exact ⟨ob.slots,u.keep b ob q n hb hx⟩
theorem Un.kept (k:∀ b u,h.get? b = some u → h'.get? b = some u):Un fs ex H H h h' :=
 ⟨fun b ob q _ _ _=>k b ob q,fun b ob q _ _ _=>⟨ob.slots,k b ob q⟩,fun _ _ _ n _=>n,fun b ob q _=>⟨ob,k b ob q⟩,fun _ _ q=>q,fun _ _ _ q=>q,fun _ ps q=>⟨#[],by rw [q]; simp⟩⟩
theorem Un.refl:Un fs ex H H h h:=Un.kept fun _ _ q=>q
theorem Un.laid (k:∀ b u,h.get? b = some u → h'.get? b = some u) (hp:h.objs.size ≤ a) (hn:H a = none):Un fs ex H (upd H a o) h h' where
 keep:=fun b u q _ _ _=>k b u q
 slot:=fun b u q _ _ _=>⟨u.slots,k b u q⟩
 free:=fun b u q n _=>by rw [upd_ne (Nat.ne_of_lt (Nat.lt_of_lt_of_le (Heap.lt_size q) hp))]; exact n
 there:=fun b u q _=>⟨u,k b u q⟩
 tups:=fun b xs q=>by rw [upd_ne (ne_of_none q hn)]; exact q
 frzs:=fun b u xs q=>by rw [upd_ne (ne_of_none q hn)]; exact q
 tbls:=fun b ps q=>⟨#[],by rw [upd_ne (ne_of_none q hn),q]; simp⟩
theorem Un.write (mu:Mut (H x)) (he:e = x ∨ H e = some (.own x)) (k:∀ b u,b ≠ e → h.get? b = some u → h'.get? b = some u) (heo:∃ u,h'.get? e = some u):Un fs ex H (upd H x o) h h':=by
 have hx:∀ b,H b = none → b ≠ x:=fun b n z=>by subst z; rw [n] at mu; exact mu
 have hb:∀ b,H b = none → b ≠ e:=fun b n z=>by
  subst z
  rcases he with r | r
  ·exact hx b n r
  ·rw [n] at r; cases r
 have hm:∀ b u,H b = some u → ¬ Mut (some u) → b ≠ x:=fun b u q nm z=>by subst z; rw [q] at mu; exact nm mu
 refine ⟨fun b u q n _ _=>k b u (hb b n) q,fun b u q n _ _=>⟨u.slots,k b u (hb b n) q⟩,fun b u q n _=>by rw [upd_ne (hx b n)]; exact n,fun b u q _=>?_,
  fun b xs q=>by rw [upd_ne (hm b _ q fun z=>z)]; exact q,fun b u xs q=>by rw [upd_ne (hm b _ q fun z=>z)]; exact q,fun b ps q=>⟨#[],by rw [upd_ne (hm b _ q fun z=>z),q]; simp⟩⟩
 by_cases hbe:b = e
 ·subst hbe; exact heo
 ·exact ⟨u,k b u hbe q⟩
end
noncomputable def trk (h:Heap) (H:Hp):List Addr:=(List.range h.objs.size).filter fun a=>(H a).isSome
noncomputable def hidT (h:Heap) (H:Hp):Heap:=W.hideAll h (trk h H)
theorem hidT_size (h:Heap) (H:Hp):(hidT h H).objs.size = h.objs.size:=W.hideAll_size _ _
theorem hidT_get {h:Heap} {H:Hp} {b:Addr} {o:Obj} (e:h.get? b = some o) (n:H b = none):(hidT h H).get? b = some o :=
 W.hideAll_get _ e fun hm=>by
  have q:(H b).isSome = true:=(List.mem_filter.mp hm).2
  rw [n] at q; simp at q
theorem of_hidT {h:Heap} {H:Hp} {b:Addr} {o:Obj} (e:(hidT h H).get? b = some o):h.get? b = some o ∧ H b = none:=by
 have e':h.get? b = some o:=W.of_hideAll (trk h H) e
 refine ⟨e',?_⟩
 cases q:H b with
 | none=>rfl
 | some x =>
  have hm:b ∈ trk h H:=List.mem_filter.mpr ⟨List.mem_range.mpr (Heap.lt_size e'),by simp [q]⟩
  have z:(hidT h H).get? b = none:=W.hideAll_none (trk h H) hm
  rw [z] at e; cases e
structure Mod (K:W.Frag) (mg:Str → Option Value) (base:Heap):Prop where
 kin:K.In base
 glob:base.Ns mainGlobals mg
 blt:∃ mb,base.Ns builtinsNs mb ∧ ∀ x:Str,x ≠ "__name__" → mb x = bootBuiltins x
 nolimit:base.NoLimit
structure Cx where
 prog:Program
 w:World
 K:W.Frag
 mg:Str → Option Value
 base:Heap
 A:Around
 N:List Str
 s₀:Shared
 H₀:Hp
 env:Env
 outer:List Env
 stack:List Env
 ex:List Addr
 fn:Str → Bool
 calm:Bool
 pn:List (Addr × Obj)
 xe:Value → Shared → Prop
noncomputable def frs (l:List Env):List Addr:=l.filterMap (·.frame)
noncomputable abbrev Cx.fs (X:Cx):List Addr:=frs X.outer
noncomputable def Vis (sc:Scope) (x:Str):Prop:=sc.names.lookup x = some .local ∨ sc.names.lookup x = some .cell ∨ sc.names.lookup x = some .free
noncomputable def Loc (sc:Scope) (x:Str):Prop:=sc.names.lookup x = some .local ∨ sc.names.lookup x = some .cell
noncomputable def Look (env:Env) (h:Heap) (m:Str → Option Value) (x:Str) (u:Value):Prop :=
 (env.kindOf x = some .local ∧ m x = some u) ∨ ((env.kindOf x = some .cell ∨ env.kindOf x = some .free) ∧ ∃ c,env.cells.lookup x = some c ∧ h.IsCell c (some u))
structure Cx.Ok (X:Cx):Prop where
 mod:Mod X.K X.mg X.base
 kind:X.env.scope.kind = .function
 glob:X.env.globals = mainGlobals
 blt:X.env.builtins = builtinsNs
 above:X.s₀.heap.objs.size ≤ X.env.locals
 inj:∀ x y c,X.env.cells.lookup x = some c → X.env.cells.lookup y = some c → x = y
 has:∀ x,(X.env.kindOf x = some .cell ∨ X.env.kindOf x = some .free) → ∃ c,X.env.cells.lookup x = some c
 cab:∀ x c,X.fn x = true → X.env.cells.lookup x = some c → X.s₀.heap.objs.size ≤ c
 hd:X.calm = true → X.A.handled = none
 frames:X.A.frames = some X.stack
 stk:X.stack = X.outer ∨ (X.stack = X.env :: X.outer ∧ X.env.frame = some X.env.locals)
 exf:∀ b ∈ X.ex,b ≠ X.env.locals ∧ ∀ x c,X.env.cells.lookup x = some c → c ≠ b
 bs:∀ b o,X.base.get? b = some o → X.s₀.heap.get? b = some o ∧ X.H₀ b = none
 bsz:X.base.objs.size ≤ X.s₀.heap.objs.size
 noex:∀ b o,X.base.get? b = some o → b ∉ X.ex
 exfs:∀ b ∈ X.ex,b ∉ X.fs
 funs:X.s₀.heap.FunFrames X.base X.outer
 frf:∀ b ∈ X.fs,X.H₀ b = none
structure Inv (X:Cx) (pins:List (Addr × Obj)) (σ:List (Option V)) (H:Hp) (s:Shared):Prop where
 ok:X.Ok
 os:s.os = X.s₀.os
 bare:AllBare s.gens
 base:Un X.fs X.ex X.H₀ H X.s₀.heap s.heap
 loc:∃ m,s.heap.Ns X.env.locals m ∧ ∀ (i:Nat) (x:Str) (v:V),X.N[i]? = some x → σ[i]? = some (some v) → Vis X.env.scope x → ∃ u,RelV v u ∧ Look X.env s.heap m x u
 cell:∀ x c,X.env.cells.lookup x = some c → ∃ v,s.heap.IsCell c v
 free:H X.env.locals = none
 freeC:∀ x c,X.env.cells.lookup x = some c → H c = none
 pin:∀ p ∈ X.pn ++ pins,s.heap.get? p.1 = some p.2 ∧ H p.1 = none ∧ p.1 ≠ X.env.locals ∧ p.1 ∉ X.fs ∧ ∀ v,p.2.data ≠ .cell v
 hok:HOk X.prog X.w H s.heap
 len:σ.length = X.N.length
section
variable {X:Cx} {pins:List (Addr × Obj)} {σ:List (Option V)} {H H':Hp} {s:Shared} {h':Heap}
theorem Cx.Ok.nofr (ok:X.Ok) {b:Addr} {o:Obj} (e:X.base.get? b = some o):b ∉ X.fs:=fun hb=>by
 have:=(ok.funs.mem hb).1
 rw [e] at this; cases this
theorem Inv.bs (I:Inv X pins σ H s):∀ b o,X.base.get? b = some o → s.heap.get? b = some o ∧ H b = none:=fun b o e =>
 ⟨I.base.keep b o (I.ok.bs b o e).1 (I.ok.bs b o e).2 (I.ok.nofr e) (I.ok.noex b o e),I.base.free b o (I.ok.bs b o e).1 (I.ok.bs b o e).2 (I.ok.noex b o e)⟩
theorem Inv.bk (I:Inv X pins σ H s):∀ b o,X.base.get? b = some o → s.heap.get? b = some o:=fun b o e=>(I.bs b o e).1
theorem Inv.mod (I:Inv X pins σ H s):Mod X.K X.mg X.base:=I.ok.mod
theorem Inv.kIn (I:Inv X pins σ H s):X.K.In s.heap:=I.ok.mod.kin.keeps I.bk
theorem Inv.nolimit (I:Inv X pins σ H s):s.heap.NoLimit:=I.ok.mod.nolimit.keeps I.bk
theorem Inv.lt (I:Inv X pins σ H s):X.env.locals < s.heap.objs.size:=let ⟨_,hn,_⟩:=I.loc; hn.lt
theorem Inv.sz (I:Inv X pins σ H s):X.s₀.heap.objs.size ≤ s.heap.objs.size:=Nat.le_trans I.ok.above (Nat.le_of_lt I.lt)
theorem Inv.nofs (I:Inv X pins σ H s) {a:Addr} (h:s.heap.objs.size ≤ a):a ∉ X.fs:=fun hb=>by
 obtain ⟨_,o,ho,_⟩:=I.ok.funs.mem hb
 exact absurd (Nat.lt_of_lt_of_le (Heap.lt_size ho) (Nat.le_trans I.sz h)) (Nat.lt_irrefl _)
theorem Inv.cne (I:Inv X pins σ H s):∀ x c,X.env.cells.lookup x = some c → c ≠ X.env.locals:=fun x c e z=>by
 obtain ⟨v,o,ho,hd⟩:=I.cell x c e
 obtain ⟨m,⟨o',es,ep,ho',hd',_⟩,_⟩:=I.loc
 rw [z,ho'] at ho; cases ho; rw [hd'] at hd; cases hd
theorem Inv.funs (I:Inv X pins σ H s):s.heap.FunFrames X.base X.outer:=by
 have all:∀ (l:List Env),(∀ b ∈ frs l,b ∈ X.fs) → X.s₀.heap.FunFrames X.base l → s.heap.FunFrames X.base l:=by
  intro l
  induction l with
  | nil=>intro _ _; trivial
  | cons env r ih =>
   intro hs hl
   obtain ⟨hk,⟨L,o,hf,hn,ho,hd⟩,hr⟩:=hl
   have hL:L ∈ X.fs:=hs L (by unfold frs; rw [List.filterMap_cons,hf]; exact List.mem_cons_self)
   obtain ⟨sl,e⟩:=I.base.slot L o ho (I.ok.frf L hL) hL fun z=>I.ok.exfs L z hL
   exact ⟨hk,⟨L,_,hf,hn,e,hd⟩,ih (fun b hb=>hs b (by unfold frs; rw [List.filterMap_cons,hf]; exact List.mem_cons_of_mem _ hb)) hr⟩
 exact all X.outer (fun _ hb=>hb) I.ok.funs
theorem Inv.stack (I:Inv X pins σ H s):s.heap.FunFrames X.base X.stack:=by
 rcases I.ok.stk with e | ⟨e,hf⟩
 ·rw [e]; exact I.funs
 ·rw [e]
  obtain ⟨m,hn,_⟩:=I.loc
  refine .cons (by rw [I.ok.kind]; decide) hf hn ?_ I.funs
  exact Heap.get?_none_of_le (Nat.le_trans I.ok.bsz I.ok.above)
theorem Inv.stkSub (I:Inv X pins σ H s):∀ b ∈ frs X.stack,b ∈ X.env.locals :: X.fs:=fun b hb=>by
 rcases I.ok.stk with e | ⟨e,hf⟩
 ·rw [e] at hb; exact List.mem_cons_of_mem _ hb
 ·rw [e] at hb
  unfold frs at hb
  rw [List.filterMap_cons,hf] at hb
  exact hb
theorem Inv.stkFree (I:Inv X pins σ H s):∀ b ∈ frs X.stack,H b = none:=fun b hb=>by
 rcases List.mem_cons.mp (I.stkSub b hb) with e | hb
 ·rw [e]; exact I.free
 ·obtain ⟨_,o,ho,_⟩:=I.ok.funs.mem hb
  exact I.base.free b o ho (I.ok.frf b hb) fun z=>I.ok.exfs b z hb
theorem Inv.step {g':Array GenState} {t':Nat} {d':Drawn} {ch:List Addr} (I:Inv X pins σ H s)
  (hch:∀ b ∈ ch,(b ∈ X.ex ∨ X.s₀.heap.objs.size ≤ b) ∧ b ≠ X.env.locals ∧ (∀ x c,X.env.cells.lookup x = some c → c ≠ b) ∧ ∀ p ∈ X.pn ++ pins,p.1 ≠ b)
  (keep:∀ b o,b ≠ X.env.locals → b ∉ X.fs → b ∉ ch → s.heap.get? b = some o → H b = none → h'.get? b = some o)
  (slot:∀ b o,b ≠ X.env.locals → b ∈ X.fs → b ∉ ch → s.heap.get? b = some o → H b = none → ∃ sl,h'.get? b = some { o with slots:=sl }) (free:∀ b o,b ∉ ch → s.heap.get? b = some o → H b = none → H' b = none)
  (there:∀ b o,b ∉ ch → s.heap.get? b = some o → ∃ o',h'.get? b = some o')
  (tups:∀ b xs,H b = some (.tup xs) → H' b = some (.tup xs)) (frzs:∀ b o u,H b = some (.frz o u) → H' b = some (.frz o u)) (tbls:∀ b ps,H b = some (.tbl ps) → ∃ more,H' b = some (.tbl (ps ++ more)))
  (ns:∀ m,s.heap.Ns X.env.locals m → h'.Ns X.env.locals m) (hok:HOk X.prog X.w H' h') (hg:AllBare g') :
  Inv X pins σ H' { s with heap:=h',gens:=g',drawn:=d',toks:=t' }:=by
 have neL:∀ b o,X.s₀.heap.get? b = some o → b ≠ X.env.locals:=fun b o e=>Nat.ne_of_lt (Nat.lt_of_lt_of_le (Heap.lt_size e) I.ok.above)
 have neC:∀ b o,X.s₀.heap.get? b = some o → b ∉ X.ex → b ∉ ch:=fun b o e hx hb=>by
  rcases (hch b hb).1 with z | z
  ·exact hx z
  ·exact absurd (Nat.lt_of_lt_of_le (Heap.lt_size e) z) (Nat.lt_irrefl _)
 have cellK:∀ x c,X.env.cells.lookup x = some c → ∀ v,s.heap.IsCell c v → h'.IsCell c v:=fun x c e v ⟨o,ho,hd⟩=>by
  have nch:c ∉ ch:=fun z=>(hch c z).2.2.1 x c e rfl
  by_cases hc:c ∈ X.fs
  ·obtain ⟨sl,q⟩:=slot c o (I.cne x c e) hc nch ho (I.freeC x c e)
   exact ⟨_,q,hd⟩
  ·exact ⟨o,keep c o (I.cne x c e) hc nch ho (I.freeC x c e),hd⟩
 refine ⟨I.ok,I.os,hg,⟨fun b o e n hb hx=>?_,fun b o e n hb hx=>?_,fun b o e n hx=>?_,fun b o e hx=>?_,fun b xs e=>tups b xs (I.base.tups b xs e),fun b o xs e=>frzs b o xs (I.base.frzs b o xs e),fun b ps e=>?_⟩,?_,fun x c e=>?_,?_,fun x c e=>?_,fun p hp=>?_,hok,I.len⟩
 ·exact keep b o (neL b o e) hb (neC b o e hx) (I.base.keep b o e n hb hx) (I.base.free b o e n hx)
 ·obtain ⟨sl,e1⟩:=I.base.slot b o e n hb hx
  obtain ⟨sl',e2⟩:=slot b _ (neL b o e) hb (neC b o e hx) e1 (I.base.free b o e n hx)
  exact ⟨sl',e2⟩
 ·obtain ⟨o',e1⟩:=I.base.there b o e hx
  exact free b o' (neC b o e hx) e1 (I.base.free b o e n hx)
 ·obtain ⟨o',e1⟩:=I.base.there b o e hx
  exact there b o' (neC b o e hx) e1
 ·obtain ⟨m1,e1⟩:=I.base.tbls b ps e
  obtain ⟨m2,e2⟩:=tbls b _ e1
  exact ⟨m1 ++ m2,by rw [e2,Array.append_assoc]⟩
 ·obtain ⟨m,hn,hl⟩:=I.loc
  refine ⟨m,ns m hn,fun i x v e1 e2 e3=>?_⟩
  obtain ⟨u,r,l⟩:=hl i x v e1 e2 e3
  refine ⟨u,r,?_⟩
  rcases l with l | ⟨k,c,e,z⟩
  ·exact .inl l
  ·exact .inr ⟨k,c,e,cellK x c e _ z⟩
 ·obtain ⟨v,z⟩:=I.cell x c e
  exact ⟨v,cellK x c e v z⟩
 ·obtain ⟨m,⟨o,_,_,ho,_⟩,_⟩:=I.loc
  exact free _ o (fun z=>(hch _ z).2.1 rfl) ho I.free
 ·obtain ⟨v,o,ho,hd⟩:=I.cell x c e
  exact free c o (fun z=>(hch c z).2.2.1 x c e rfl) ho (I.freeC x c e)
 ·obtain ⟨e,n,ne,nf,d⟩:=I.pin p hp
  have nch:p.1 ∉ ch:=fun z=>(hch p.1 z).2.2.2 p hp rfl
  exact ⟨keep p.1 p.2 ne nf nch e n,free p.1 p.2 nch e n,ne,nf,d⟩
theorem Inv.un {t':Nat} (I:Inv X pins σ H s) (u:Un X.fs [] H H' s.heap h') (hok:HOk X.prog X.w H' h'):Inv X pins σ H' { s with heap:=h',toks:=t' }:=by
 obtain ⟨m,⟨o,es,ep,ho,r⟩,_⟩:=id I.loc
 obtain ⟨sl,hL⟩:=u.any ho I.free (by simp)
 exact I.step (g':=s.gens) (d':=s.drawn) (ch:=[]) (fun _ z=>nomatch z) (fun b o _ hb _ e n=>u.keep b o e n hb (by simp)) (fun b o _ hb _ e n=>u.slot b o e n hb (by simp)) (fun b o _ e n=>u.free b o e n (by simp)) (fun b o _ e=>u.there b o e (by simp)) u.tups u.frzs u.tbls (fun m' hm=>by
  obtain ⟨o',es',ep',ho',r'⟩:=hm
  rw [ho] at ho'; cases ho'
  exact ⟨_,es',ep',hL,r'⟩) hok I.bare
theorem Inv.call {g':Array GenState} {t':Nat} {d':Drawn} {ch:List Addr} (I:Inv X pins σ H s) (u:Un (frs X.stack) ch H H' s.heap h') (hok:HOk X.prog X.w H' h') (hg:AllBare g')
  (hch:∀ b ∈ ch,(b ∈ X.ex ∨ X.s₀.heap.objs.size ≤ b) ∧ b ≠ X.env.locals ∧ (∀ x c,X.env.cells.lookup x = some c → c ≠ b) ∧ ∀ p ∈ X.pn ++ pins,p.1 ≠ b) :
  Inv X pins σ H' { s with heap:=h',gens:=g',drawn:=d',toks:=t' }:=by
 obtain ⟨m,⟨o,es,ep,ho,r⟩,_⟩:=id I.loc
 obtain ⟨sl,hL⟩:=u.any ho I.free fun z=>(hch _ z).2.1 rfl
 exact I.step (ch:=ch) hch (fun b o hL hb hc e n=>u.keep b o e n (fun z=>(List.mem_cons.mp (I.stkSub b z)).elim hL hb) hc) (fun b o _ _ hc e n=>u.any e n hc) (fun b o hc e n=>u.free b o e n hc) (fun b o hc e=>u.there b o e hc) u.tups u.frzs u.tbls (fun m' hm=>by
  obtain ⟨o',es',ep',ho',r'⟩:=hm
  rw [ho] at ho'; cases ho'
  exact ⟨_,es',ep',hL,r'⟩) hok hg
theorem Inv.turned {t':Nat} {it:Addr} (I:Inv X pins σ H s) (k:∀ b o,b ≠ it → s.heap.get? b = some o → h'.get? b = some o) (hn:H it = none) (hL:it ≠ X.env.locals)
  (h1:it ∈ X.ex ∨ X.s₀.heap.objs.size ≤ it) (h2:∀ x c,X.env.cells.lookup x = some c → c ≠ it) (h3:∀ p ∈ X.pn ++ pins,p.1 ≠ it):Inv X pins σ H { s with heap:=h',toks:=t' }:=by
 have nit:∀ b u,H b = some u → b ≠ it:=fun b u e z=>by rw [z,hn] at e; cases e
 refine I.step (g':=s.gens) (d':=s.drawn) (ch:=[it]) (fun b hb=>?_) (fun b o _ _ hc e _=>k b o (fun z=>hc (by simp [z])) e) (fun b o _ _ hc e _=>⟨o.slots,k b o (fun z=>hc (by simp [z])) e⟩) (fun _ _ _ _ n=>n)
  (fun b o hc e=>⟨o,k b o (fun z=>hc (by simp [z])) e⟩) (fun _ _ e=>e) (fun _ _ _ e=>e) (fun b ps e=>⟨#[],by rw [e]; simp⟩) (fun m hm=>?_) (fun b u e=>?_) I.bare
 ·have e:b = it:=by simpa using hb
  subst e
  exact ⟨h1,hL,h2,h3⟩
 ·obtain ⟨o,es,ep,ho,r⟩:=hm
  exact ⟨o,es,ep,k _ o (Ne.symm hL) ho,r⟩
 ·refine (I.hok b u e).stay (fun c v hc q=>k c v ?_ q) (fun _ q=>q) (fun _ _ q=>q) fun _ _ _ q=>q
  rcases hc with z | z
  ·rw [z]; exact nit b u e
  ·exact nit c _ z
theorem Inv.tok (I:Inv X pins σ H s) (t:Nat):Inv X pins σ H { s with toks:=t }:=I.un (h':=s.heap) (t':=t) Un.refl I.hok
theorem Inv.kept {t':Nat} (I:Inv X pins σ H s) (k:∀ b u,s.heap.get? b = some u → h'.get? b = some u):Inv X pins σ H { s with heap:=h',toks:=t' }:=I.un (Un.kept k) (I.hok.kept k)
theorem Inv.laid {a:Addr} {o:HO} {t':Nat} (I:Inv X pins σ H s) (k:∀ b u,s.heap.get? b = some u → h'.get? b = some u) (hp:s.heap.objs.size ≤ a) (new:ObjOk X.prog X.w (upd H a o) h' a o) :
  Inv X pins σ (upd H a o) { s with heap:=h',toks:=t' }:=I.un (Un.laid k hp (I.hok.fresh hp)) (I.hok.laid k hp new)
theorem Inv.write {x e:Addr} {o:HO} {t':Nat} (I:Inv X pins σ H s) (mu:Mut (H x)) (he:e = x ∨ H e = some (.own x)) (k:∀ b u,b ≠ e → s.heap.get? b = some u → h'.get? b = some u) (heo:∃ u,h'.get? e = some u)
  (new:ObjOk X.prog X.w (upd H x o) h' x o):Inv X pins σ (upd H x o) { s with heap:=h',toks:=t' }:=I.un (Un.write mu he k heo) (I.hok.write mu he k heo new)
theorem Inv.weak {σ':List (Option V)} (I:Inv X pins σ H s) (hl:σ'.length = σ.length) (w:∀ (i:Nat) v,σ'[i]? = some (some v) → σ[i]? = some (some v)):Inv X pins σ' H s :=
 ⟨I.ok,I.os,I.bare,I.base,let ⟨m,hn,hl'⟩:=I.loc; ⟨m,hn,fun i x v e1 e2 e3=>hl' i x v e1 (w i v e2) e3⟩,I.cell,I.free,I.freeC,I.pin,I.hok,hl.trans I.len⟩
theorem Inv.pins_of {pins':List (Addr × Obj)} (I:Inv X pins σ H s) (h:∀ p ∈ pins',s.heap.get? p.1 = some p.2 ∧ H p.1 = none ∧ p.1 ≠ X.env.locals ∧ p.1 ∉ X.fs ∧ ∀ v,p.2.data ≠ .cell v):Inv X pins' σ H s :=
 ⟨I.ok,I.os,I.bare,I.base,I.loc,I.cell,I.free,I.freeC,fun p hp=>(List.mem_append.mp hp).elim (fun z=>I.pin p (List.mem_append_left _ z)) (h p),I.hok,I.len⟩
theorem nodup_ix {N:List Str} (hN:N.Nodup) {i j:Nat} {x:Str} (a:N[i]? = some x) (b:N[j]? = some x):i = j:=by
 obtain ⟨h1,e1⟩:=List.getElem?_eq_some_iff.mp a
 obtain ⟨h2,e2⟩:=List.getElem?_eq_some_iff.mp b
 exact (List.getElem_inj hN).mp (e1.trans e2.symm)
theorem store_ok2 {M:Model} {A:Around} {E:Value → Shared → Prop} {i:Nat} {x:Str} {v:V} {u:Value} {Q:Unit → Shared → Prop} (I:Inv X pins σ H s) (hN:X.N.Nodup) (hi:X.N[i]? = some x) (hx:Loc X.env.scope x) (r:RelV v u)
  (h:∀ s',Inv X pins (σ.set i (some v)) H s' → (∃ a,Heap.SameBut a s.heap s'.heap ∧ (a = X.env.locals ∨ X.env.cells.lookup x = some a)) → Q () s') (hf:X.fn x = true ∨ X.env.scope.names.lookup x = some .local:=by first | exact .inl rfl | exact .inr rfl | assumption):wpAny M A (storeName X.env x u) Q E s:=by
 obtain ⟨m,hn,hl⟩:=id I.loc
 have hcls:(X.env.scope.kind == .class || (X.env.scope.kind == .module && X.env.locals != X.env.globals)) = false:=by rw [I.ok.kind]; rfl
 have hiσ:i < σ.length:=by rw [I.len]; exact (List.getElem?_eq_some_iff.mp hi).1
 have cne:=I.cne
 have tracked:∀ {a:Addr} {h':Heap},(∃ o,s.heap.get? a = some o ∧ H a = none) → Heap.SameBut a s.heap h' → HOk X.prog X.w H h':=fun {a h'} ha hs b ob e=>by
  obtain ⟨_,_,hfree⟩:=ha
  refine (I.hok b ob e).stay (fun c w' hc q=>(hs.2 c ?_).trans q) (fun _ q=>q) (fun _ _ q=>q) fun _ _ _ q=>q
  rintro rfl
  rcases hc with rfl | hc
  ·rw [hfree] at e; cases e
  ·rw [hfree] at hc; cases hc
 rcases hx with hk | hk
 ·refine wpAny_storeName_local hk hn (fun h' hn' hs=>?_) hcls
  obtain ⟨oL,_,_,hoL,_⟩:=id hn
  refine h _ ⟨I.ok,I.os,I.bare,⟨fun b o e n hb hx=>?_,fun b o e n hb hx=>?_,I.base.free,fun b o e hx=>?_,I.base.tups,I.base.frzs,I.base.tbls⟩,⟨_,hn',fun j y v' e1 e2 e3=>?_⟩,fun y c e=>?_,I.free,I.freeC,fun p hp=>?_,tracked ⟨oL,hoL,I.free⟩ hs,by simpa using I.len⟩ ⟨_,hs,.inl rfl⟩
  ·exact (hs.2 b (Nat.ne_of_lt (Nat.lt_of_lt_of_le (Heap.lt_size e) I.ok.above))).trans (I.base.keep b o e n hb hx)
  ·obtain ⟨sl,e1⟩:=I.base.slot b o e n hb hx
   exact ⟨sl,(hs.2 b (Nat.ne_of_lt (Nat.lt_of_lt_of_le (Heap.lt_size e) I.ok.above))).trans e1⟩
  ·obtain ⟨o',e1⟩:=I.base.there b o e hx
   exact ⟨o',(hs.2 b (Nat.ne_of_lt (Nat.lt_of_lt_of_le (Heap.lt_size e) I.ok.above))).trans e1⟩
  ·by_cases hj:j = i
   ·subst hj
    rw [hi] at e1; cases e1
    rw [List.getElem?_set_self hiσ] at e2
    cases e2
    exact ⟨u,r,.inl ⟨hk,by simp⟩⟩
   ·rw [List.getElem?_set_ne (Ne.symm hj)] at e2
    obtain ⟨u',r',q⟩:=hl j y v' e1 e2 e3
    refine ⟨u',r',?_⟩
    rcases q with ⟨k,e⟩ | ⟨k,c,e,z⟩
    ·refine .inl ⟨k,?_⟩
     have:y ≠ x:=fun e=>hj (nodup_ix hN e1 (e ▸ hi))
     simp [this,e]
    ·exact .inr ⟨k,c,e,z.sameBut hs (cne y c e)⟩
  ·obtain ⟨w',z⟩:=I.cell y c e
   exact ⟨w',z.sameBut hs (cne y c e)⟩
  ·obtain ⟨e,n,ne,nf,d⟩:=I.pin p hp
   exact ⟨(hs.2 p.1 ne).trans e,n,ne,nf,d⟩
 ·have hfn:X.fn x = true:=by
   rcases hf with z | z
   ·exact z
   ·rw [z] at hk; cases hk
  obtain ⟨c,hc⟩:=I.ok.has x (.inl hk)
  obtain ⟨w',z⟩:=I.cell x c hc
  refine wpAny_storeName_cell I.ok.kind hk hc z (fun h' hc' hs=>?_)
  obtain ⟨oc,hoc,hocd⟩:=id z
  refine h { s with heap:=h' } ⟨I.ok,I.os,I.bare,⟨fun b o e n hb hx=>?_,fun b o e n hb hx=>?_,I.base.free,fun b o e hx=>?_,I.base.tups,I.base.frzs,I.base.tbls⟩,⟨m,hn.sameBut hs (Ne.symm (cne x c hc)),fun j y v' e1 e2 e3=>?_⟩,fun y c' e=>?_,I.free,I.freeC,fun p hp=>?_,tracked ⟨oc,hoc,I.freeC x c hc⟩ hs,by simpa using I.len⟩ ⟨c,hs,.inr hc⟩
  ·exact (hs.2 b (Nat.ne_of_lt (Nat.lt_of_lt_of_le (Heap.lt_size e) (I.ok.cab x c hfn hc)))).trans (I.base.keep b o e n hb hx)
  ·obtain ⟨sl,e1⟩:=I.base.slot b o e n hb hx
   exact ⟨sl,(hs.2 b (Nat.ne_of_lt (Nat.lt_of_lt_of_le (Heap.lt_size e) (I.ok.cab x c hfn hc)))).trans e1⟩
  ·obtain ⟨o',e1⟩:=I.base.there b o e hx
   exact ⟨o',(hs.2 b (Nat.ne_of_lt (Nat.lt_of_lt_of_le (Heap.lt_size e) (I.ok.cab x c hfn hc)))).trans e1⟩
  ·by_cases hj:j = i
   ·subst hj
    rw [hi] at e1; cases e1
    rw [List.getElem?_set_self hiσ] at e2
    cases e2
    exact ⟨u,r,.inr ⟨.inl hk,c,hc,hc'⟩⟩
   ·rw [List.getElem?_set_ne (Ne.symm hj)] at e2
    obtain ⟨u',r',q⟩:=hl j y v' e1 e2 e3
    refine ⟨u',r',?_⟩
    rcases q with q | ⟨k,c',e,z'⟩
    ·exact .inl q
    ·refine .inr ⟨k,c',e,z'.sameBut hs ?_⟩
     rintro rfl
     exact hj (nodup_ix hN e1 (I.ok.inj _ _ _ e hc ▸ hi))
  ·by_cases hcc:c' = c
   ·subst hcc; exact ⟨_,hc'⟩
   ·obtain ⟨w2,z2⟩:=I.cell y c' e
    exact ⟨w2,z2.sameBut hs hcc⟩
  ·obtain ⟨e,n,ne,nf,d⟩:=I.pin p hp
   refine ⟨(hs.2 p.1 ?_).trans e,n,ne,nf,d⟩
   intro q
   rw [q,hoc] at e
   have q':oc = p.2:=Option.some.inj e
   exact d w' (by rw [← q']; exact hocd)
theorem store_ok {M:Model} {A:Around} {E:Value → Shared → Prop} {i:Nat} {x:Str} {v:V} {u:Value} {Q:Unit → Shared → Prop} (I:Inv X pins σ H s) (hN:X.N.Nodup) (hi:X.N[i]? = some x) (hx:Loc X.env.scope x) (r:RelV v u)
  (h:∀ s',Inv X pins (σ.set i (some v)) H s' → Q () s') (hf:X.fn x = true ∨ X.env.scope.names.lookup x = some .local:=by first | exact .inl rfl | exact .inr rfl | assumption):wpAny M A (storeName X.env x u) Q E s :=
 store_ok2 I hN hi hx r (fun s' I' _=>h s' I') hf
theorem Inv.call' {s':Shared} {ch:List Addr} (I:Inv X pins σ H s) (ho:s'.os = s.os) (u:Un (frs X.stack) ch H H' s.heap s'.heap) (hok:HOk X.prog X.w H' s'.heap) (hg:AllBare s'.gens)
  (hch:∀ b ∈ ch,(b ∈ X.ex ∨ X.s₀.heap.objs.size ≤ b) ∧ b ≠ X.env.locals ∧ (∀ x c,X.env.cells.lookup x = some c → c ≠ b) ∧ ∀ p ∈ X.pn ++ pins,p.1 ≠ b):Inv X pins σ H' s':=by
 obtain ⟨h',g',d',t',o'⟩:=s'
 have e:o' = s.os:=ho
 subst e
 exact I.call (g':=g') (t':=t') (d':=d') u hok hg hch
end
noncomputable abbrev XK:=Value → Option Addr → Hp → Prop
noncomputable abbrev St:=List (Option V)
noncomputable abbrev VK:=V → Hp → Prop
noncomputable abbrev TE:=St → Hp → VK → Prop
noncomputable abbrev TT:=St → Hp → (Bool → Hp → Prop) → Prop
noncomputable abbrev TA:=St → Hp → (List V → Hp → Prop) → Prop
structure Ends where
 nx:St → Hp → Prop
 rt:VK
 bk:St → Hp → Prop:=fun _ _=>False
 ct:St → Hp → Prop:=fun _ _=>False
noncomputable abbrev TS:=Ends → St → Hp → Prop
noncomputable def EP (X:Cx) (pins:List (Addr × Obj)) (σ:St) (Q:VK) (u:Value) (s':Shared):Prop:=∃ v H',Inv X pins σ H' s' ∧ RelV v u ∧ Q v H'
noncomputable def TP (X:Cx) (pins:List (Addr × Obj)) (σ:St) (Q:Bool → Hp → Prop) (b:Bool) (s':Shared):Prop:=∃ H',Inv X pins σ H' s' ∧ Q b H'
noncomputable def AP (X:Cx) (pins:List (Addr × Obj)) (σ:St) (Q:List V → Hp → Prop) (us:List Value) (s':Shared):Prop:=∃ vs H',Inv X pins σ H' s' ∧ Vals vs us ∧ Q vs H'
noncomputable def SP (X:Cx) (pins:List (Addr × Obj)) (D:Ends) (f:Flow) (s':Shared):Prop :=
 match f with
 | .next=>∃ σ' H',Inv X pins σ' H' s' ∧ D.nx σ' H'
 | .brk=>∃ σ' H',Inv X pins σ' H' s' ∧ D.bk σ' H'
 | .cont=>∃ σ' H',Inv X pins σ' H' s' ∧ D.ct σ' H'
 | .ret u=>∃ v σ' H',Inv X pins σ' H' s' ∧ RelV v u ∧ D.rt v H'
noncomputable def PE (X:Cx) (e:Expr) (t:TE):Prop :=
 ∀ (pins:List (Addr × Obj)) (s:Shared) (σ:St) (H:Hp) (Q:VK),Inv X pins σ H s → t σ H Q → wpAny (model X.prog X.w) X.A (eval e X.env) (EP X pins σ Q) X.xe s
noncomputable def PT (X:Cx) (e:Expr) (t:TT):Prop :=
 ∀ (pins:List (Addr × Obj)) (s:Shared) (σ:St) (H:Hp) (Q:Bool → Hp → Prop),Inv X pins σ H s → t σ H Q → wpAny (model X.prog X.w) X.A (isTrue e X.env (eval e X.env)) (TP X pins σ Q) X.xe s
noncomputable def PW (X:Cx) (e:Expr) (t:TT):Prop :=
 ∀ (whole:Sem Value) (pins:List (Addr × Obj)) (s:Shared) (σ:St) (H:Hp) (Q:Bool → Hp → Prop),Inv X pins σ H s → t σ H Q → wpAny (model X.prog X.w) X.A (isTrue e X.env whole) (TP X pins σ Q) X.xe s
theorem PW.pt {X:Cx} {e:Expr} {t:TT} (h:PW X e t):PT X e t:=h _
noncomputable def PA (X:Cx) (es:List Expr) (t:TA):Prop :=
 ∀ (pos:Pos) (pins:List (Addr × Obj)) (s:Shared) (σ:St) (H:Hp) (Q:List V → Hp → Prop),Inv X pins σ H s → t σ H Q → wpAny (model X.prog X.w) X.A (spliced (backTo pos (starEach es X.env))) (AP X pins σ Q) X.xe s
noncomputable def PS (X:Cx) (st:Stmt) (t:TS):Prop :=
 ∀ (pins:List (Addr × Obj)) (s:Shared) (σ:St) (H:Hp) (D:Ends),Inv X pins σ H s → t D σ H → wpAny (model X.prog X.w) X.A (exec st X.env) (SP X pins D) X.xe s
noncomputable def PSs (X:Cx) (st:List Stmt) (t:TS):Prop :=
 ∀ (pins:List (Addr × Obj)) (s:Shared) (σ:St) (H:Hp) (D:Ends),Inv X pins σ H s → t D σ H → wpAny (model X.prog X.w) X.A (execs st X.env) (SP X pins D) X.xe s
theorem thn {α:Type} {t:Sem α} {Q Q':α → Shared → Prop} {M:Model} {A:Around} {E:Value → Shared → Prop} {s:Shared} (h:wpAny M A t Q E s) (hQ:∀ a s,Q a s → Q' a s):wpAny M A t Q' E s:=wpAny_mono h hQ fun _ _ x=>x
section
variable {X:Cx}
noncomputable def tVar (i:Nat):TE:=fun σ H Q=>∃ v,σ[i]? = some (some v) ∧ Q v H
noncomputable def tC (v:V):TE:=fun _ H Q=>Q v H
theorem pe_var {i:Nat} {x:Str} {pos:Pos} (hN:X.N[i]? = some x) (hv:Vis X.env.scope x) (hd:(x == ("__debug__" : Str)) = false:=by decide) (hcd:(x == ("__classdict__" : Str)) = false:=by decide):PE X (.Name x pos) (tVar i):=by
 intro pins s σ H Q I h
 obtain ⟨v,e,h⟩:=h
 obtain ⟨m,hn,hl⟩:=I.loc
 obtain ⟨u,r,l⟩:=hl i x v hN e hv
 have fin:EP X pins σ Q u s:=⟨v,H,I,r,h⟩
 rcases l with ⟨hk,hm⟩ | ⟨hk,c,hc,hcell⟩
 ·exact wpAny_Name (wpAny_loadName_local I.ok.kind hk hn hm fin) hd
 ·rcases hk with hk | hk
  ·exact wpAny_Name (wpAny_loadName_cell I.ok.kind hk hc hcell fin) hd
  ·exact wpAny_Name (wpAny_loadName_free I.ok.kind hk hc hcell fin hcd) hd
theorem pe_int {i j pos}:PE X (.Constant (.int i) j pos) (tC (.int i)):=fun _ _ _ H _ I h=>wpAny_Constant_int ⟨.int i,H,I.tok _,⟨_,rfl⟩,h⟩
theorem pe_bl {b j pos}:PE X (.Constant (.bool b) j pos) (tC (.bl b)):=fun _ _ _ H _ I h=>Constant_bool ⟨.bl b,H,I,rfl,h⟩
theorem pe_non {j pos}:PE X (.Constant .none j pos) (tC .non):=fun _ _ _ H _ I h=>Constant_none ⟨.non,H,I,rfl,h⟩
theorem pe_str {x j pos}:PE X (.Constant (.str x) j pos) (tC (.str x)):=fun _ _ _ H _ I h=>Calls.Constant_str ⟨.str x,H,I.tok _,⟨_,rfl⟩,h⟩
noncomputable def Gl (X:Cx) (x:Str):Prop:=X.env.kindOf x = some .globalImplicit
theorem ld_glob {E:Value → Shared → Prop} {pins:List (Addr × Obj)} {s:Shared} {σ:St} {H:Hp} {x:Str} {u:Value} {pos:Pos} {Q:Value → Shared → Prop} (I:Inv X pins σ H s) (hg:Gl X x) (hm:X.mg x = some u) (h:Q u s)
  (hd:(x == ("__debug__" : Str)) = false:=by decide):wpAny (model X.prog X.w) X.A (eval (.Name x pos) X.env) Q E s :=
 Calls.Name_function_global I.ok.kind hg (Calls.loadGlobal_global (by rw [I.ok.glob]; exact I.mod.glob.keeps I.bk) hm h) hd
theorem ld_blt {E:Value → Shared → Prop} {pins:List (Addr × Obj)} {s:Shared} {σ:St} {H:Hp} {x:Str} {u:Value} {pos:Pos} {Q:Value → Shared → Prop} (I:Inv X pins σ H s) (hg:Gl X x) (hm:X.mg x = none) (hv:bootBuiltins x = some u) (h:Q u s)
  (hn:x ≠ "__name__" := by decide) (hd:(x == ("__debug__" : Str)) = false:=by decide):wpAny (model X.prog X.w) X.A (eval (.Name x pos) X.env) Q E s:=by
 obtain ⟨mb,h1,h2⟩:=I.mod.blt
 exact Calls.Name_function_global I.ok.kind hg (Calls.loadGlobal_builtin (by rw [I.ok.glob]; exact I.mod.glob.keeps I.bk) hm (by rw [I.ok.blt]; exact h1.keeps I.bk) ((h2 x hn).trans hv) h) hd
theorem pe_glob {x:Str} {v:V} {u:Value} {pos:Pos} (hg:Gl X x) (hm:X.mg x = some u) (r:RelV v u) (hd:(x == ("__debug__" : Str)) = false:=by decide):PE X (.Name x pos) (tC v) :=
 fun _ _ _ H _ I h=>ld_glob I hg hm ⟨v,H,I,r,h⟩ hd
theorem pe_bltn {x:Str} {v:V} {u:Value} {pos:Pos} (hg:Gl X x) (hm:X.mg x = none) (hv:bootBuiltins x = some u) (r:RelV v u) (hn:x ≠ "__name__" := by decide) (hd:(x == ("__debug__" : Str)) = false:=by decide):PE X (.Name x pos) (tC v) :=
 fun _ _ _ H _ I h=>ld_blt I hg hm hv ⟨v,H,I,r,h⟩ hn hd
variable {a b:Expr} {ta tb:TE} {pos:Pos}
noncomputable def tB (t:TE):TT:=fun σ H Q=>t σ H fun x H1=>∃ c,x = .bl c ∧ Q c H1
theorem pt_val {e:Expr} {t:TE} (h:PE X e t) (he:∀ whole,isTrue e X.env whole = (do let v ← whole; standAt e.pos; holding [v] (truthy v)):=by intro _; rfl):PT X e (tB t):=by
 intro pins s σ H Q I hw
 refine isTrue_plain (thn (h pins s σ H _ I hw) fun v s1 ⟨x,H1,I1,r1,q1⟩=>?_) (he _)
 obtain ⟨d,rfl,q⟩:=q1
 cases r1
 exact wpAny_truthy_bool ⟨H1,I1,q⟩
variable {tA tB':TT} {rest:List Expr}
noncomputable def tOr (t u:TT):TT:=fun σ H Q=>t σ H fun c H1=>if c = true then Q true H1 else u σ H1 Q
noncomputable def tNot (t:TT):TT:=fun σ H Q=>t σ H fun c H1=>Q (!c) H1
theorem pw_or1 (ha:PT X a tA):PW X (.BoolOp .Or [a] pos) tA:=by
 intro wh pins s σ H Q I h
 refine isTrue_or (thn (ha pins s σ H Q I h) fun c s1 e=>?_)
 cases c with
 | false=>exact isTrue_or_nil e
 | true=>exact e
theorem pw_or (ha:PT X a tA) (hb:PW X (.BoolOp .Or (b :: rest) pos) tB'):PW X (.BoolOp .Or (a :: b :: rest) pos) (tOr tA tB'):=by
 intro wh pins s σ H Q I h
 refine isTrue_or (thn (ha pins s σ H _ I h) fun c s1 ⟨H1,I1,q1⟩=>?_)
 cases c with
 | true=>exact ⟨H1,I1,q1⟩
 | false=>exact hb wh pins s1 σ H1 Q I1 q1
theorem pt_not (ha:PT X a tA):PT X (.UnaryOp .Not a pos) (tNot tA):=by
 intro pins s σ H Q I h
 exact isTrue_not (ha pins s σ H (fun c H1=>Q (!c) H1) I h)
noncomputable def tAndV (ta tb:TE):TE:=fun σ H Q=>ta σ H fun x H1=>∃ c,x = .bl c ∧ if c = true then tb σ H1 Q else Q (.bl false) H1
noncomputable def tNotV (ta:TE):TE:=fun σ H Q=>ta σ H fun x H1=>∃ c,x = .bl c ∧ Q (.bl (!c)) H1
theorem pe_one {op} {t:TE} (h:PE X a t):PE X (.BoolOp op [a] pos) t:=fun pins s σ H Q I hw=>BoolOp_one (h pins s σ H Q I hw)
theorem pe_and (ha:PE X a ta) (hb:PE X (.BoolOp .And (b :: rest) pos) tb):PE X (.BoolOp .And (a :: b :: rest) pos) (tAndV ta tb):=by
 intro pins s σ H Q I h
 refine BoolOp_and (thn (ha pins s σ H _ I h) fun v s1 ⟨x,H1,I1,r1,q1⟩=>?_)
 obtain ⟨c,rfl,q1⟩:=q1
 cases r1
 refine wpAny_truthy_bool ?_
 cases c with
 | true=>exact hb pins s1 σ H1 Q I1 q1
 | false=>exact ⟨.bl false,H1,I1,rfl,q1⟩
theorem pe_not (ha:PE X a ta):PE X (.UnaryOp .Not a pos) (tNotV ta):=by
 intro pins s σ H Q I h
 refine UnaryOp_ (thn (ha pins s σ H _ I h) fun v s1 ⟨x,H1,I1,r1,q1⟩=>?_)
 obtain ⟨c,rfl,q1⟩:=q1
 cases r1
 exact not_of (wpAny_truthy_bool ⟨.bl (!c),H1,I1,rfl,q1⟩)
end
noncomputable def SqL (K:W.Frag) (H:Hp) (a:Addr) (xs:List V):Prop :=
 Rd H a (.lst xs) ∨
  ∃ (o:Obj) (its:Array Value) (n:Nat),K.lookup a = some o ∧ o.cls = .type "list" ∧ o.dict = none ∧ o.data = .seq its n ∧ its.size ≤ sizeLine ∧ Vals xs its.toList
noncomputable def SqT (K:W.Frag) (H:Hp) (a:Addr) (xs:List V):Prop :=
 Rd H a (.tup xs) ∨
  ∃ (o:Obj) (its:Array Value) (n:Nat),K.lookup a = some o ∧ o.cls = .type "tuple" ∧ o.data = .seq its n ∧ its.size ≤ sizeLine ∧ Vals xs its.toList
noncomputable def absV:Value → Option V
 | .none=>some .non
 | .bool b=>some (.bl b)
 | .int i _=>some (.int i)
 | .str x _=>some (.str x)
 | .bytes b _=>some (.byt b)
 | .float b _=>some (.flt b)
 | .ref a=>some (.ref a)
 | .type n=>some (.ty n)
 | _=>none
theorem RelV.abs {x:V} {u:Value} (r:RelV x u):absV u = some x:=by
 cases x with
 | non=>cases r; rfl
 | bl _=>cases r; rfl
 | int _=>obtain ⟨t,rfl⟩:=r; rfl
 | str _=>obtain ⟨t,rfl⟩:=r; rfl
 | byt _=>obtain ⟨t,rfl⟩:=r; rfl
 | flt _=>obtain ⟨t,rfl⟩:=r; rfl
 | ref _=>cases r; rfl
 | ty _=>cases r; rfl
theorem RelV.inj {x y:V} {u:Value} (r:RelV x u) (q:RelV y u):x = y:=Option.some.inj (r.abs.symm.trans q.abs)
theorem Vals.inj:∀ {xs ys:List V} {us:List Value},Vals xs us → Vals ys us → xs = ys
 | _,_,_,.nil,.nil=>rfl
 | _,_,_,.cons r t,.cons r' t'=>by rw [r.inj r',Vals.inj t t']
section
variable {X:Cx} {pins:List (Addr × Obj)} {σ:St} {H:Hp} {s:Shared} {a:Addr} {xs ys:List V}
theorem Inv.list (I:Inv X pins σ H s) (h:SqL X.K H a xs):∃ its:List Value,Vals xs its ∧ PlainL s.heap a its.toArray ∧ xs.length ≤ sizeLine:=by
 rcases h with h | ⟨o,its,n,hk,hc,hd,hs,hz,r⟩
 ·obtain ⟨z,its,n,r,e⟩:=h.ok I.hok
  exact ⟨its,r,⟨_,n,e,rfl,rfl,rfl⟩,z⟩
 ·refine ⟨its.toList,r,⟨o,n,I.kIn a o hk,hc,hd,by simpa using hs⟩,?_⟩
  have e:=r.length
  simp only [Array.length_toList] at e
  omega
theorem Inv.tuple (I:Inv X pins σ H s) (h:SqT X.K H a xs):∃ its:List Value,Vals xs its ∧ IsTup s.heap a its.toArray ∧ xs.length ≤ sizeLine:=by
 rcases h with h | ⟨o,its,n,hk,hc,hs,hz,r⟩
 ·obtain ⟨z,its,r,p⟩:=h.ok I.hok
  exact ⟨its,r,p.tup,z⟩
 ·refine ⟨its.toList,r,⟨o,I.kIn a o hk,hc,n,by simpa using hs⟩,?_⟩
  have e:=r.length
  simp only [Array.length_toList] at e
  omega
theorem Inv.list_inj (I:Inv X pins σ H s) (h:SqL X.K H a xs) (h':SqL X.K H a ys):xs = ys:=by
 obtain ⟨its,r,⟨o,n,e,_,_,d⟩,_⟩:=I.list h
 obtain ⟨its',r',⟨o',n',e',_,_,d'⟩,_⟩:=I.list h'
 rw [e] at e'; cases e'
 rw [d] at d'
 injection d' with d1 _
 have:its = its':=by simpa using congrArg Array.toList d1
 subst this
 exact r.inj r'
theorem Inv.tuple_inj (I:Inv X pins σ H s) (h:SqT X.K H a xs) (h':SqT X.K H a ys):xs = ys:=by
 obtain ⟨its,r,⟨o,e,_,n,d⟩,_⟩:=I.tuple h
 obtain ⟨its',r',⟨o',e',_,n',d'⟩,_⟩:=I.tuple h'
 rw [e] at e'; cases e'
 rw [d] at d'
 injection d' with d1 _
 have:its = its':=by simpa using congrArg Array.toList d1
 subst this
 exact r.inj r'
end
noncomputable abbrev Cx.wish (X:Cx) (E:Value → Shared → Prop):Cx:={ X with xe:=E }
noncomputable abbrev Cx.nox (X:Cx):Cx:=X.wish fun _ _=>False
theorem Cx.Ok.wish {X:Cx} (ok:X.Ok) (E:Value → Shared → Prop):(X.wish E).Ok :=
 ⟨ok.mod,ok.kind,ok.glob,ok.blt,ok.above,ok.inj,ok.has,ok.cab,ok.hd,ok.frames,ok.stk,ok.exf,ok.bs,ok.bsz,ok.noex,ok.exfs,ok.funs,ok.frf⟩
theorem Cx.Ok.unwish {X:Cx} {E:Value → Shared → Prop} (ok:(X.wish E).Ok):X.Ok :=
 ⟨ok.mod,ok.kind,ok.glob,ok.blt,ok.above,ok.inj,ok.has,ok.cab,ok.hd,ok.frames,ok.stk,ok.exf,ok.bs,ok.bsz,ok.noex,ok.exfs,ok.funs,ok.frf⟩
section
variable {X:Cx} {pins:List (Addr × Obj)} {σ:St} {H:Hp} {s:Shared} {E:Value → Shared → Prop}
theorem Inv.wish (I:Inv X pins σ H s) (E:Value → Shared → Prop):Inv (X.wish E) pins σ H s:=⟨I.ok.wish E,I.os,I.bare,I.base,I.loc,I.cell,I.free,I.freeC,I.pin,I.hok,I.len⟩
theorem Inv.unwish (I:Inv (X.wish E) pins σ H s):Inv X pins σ H s:=⟨I.ok.unwish,I.os,I.bare,I.base,I.loc,I.cell,I.free,I.freeC,I.pin,I.hok,I.len⟩
theorem SP.unwish {D:Ends} {f:Flow} {s':Shared} (h:SP (X.wish E) pins D f s'):SP X pins D f s':=by
 cases f with
 | next=>obtain ⟨σ',H',I,q⟩:=h; exact ⟨σ',H',I.unwish,q⟩
 | brk=>obtain ⟨σ',H',I,q⟩:=h; exact ⟨σ',H',I.unwish,q⟩
 | cont=>obtain ⟨σ',H',I,q⟩:=h; exact ⟨σ',H',I.unwish,q⟩
 | ret u=>obtain ⟨v,σ',H',I,r,q⟩:=h; exact ⟨v,σ',H',I.unwish,r,q⟩
theorem PSs.nox {st:List Stmt} {t:TS} (h:PSs X.nox st t):PSs X st t:=fun pins s σ H D I hw =>
 wpAny_mono (h pins s σ H D (I.wish _) hw) (fun _ _ q=>q.unwish) fun _ _ z=>False.elim z
end
section
variable {X:Cx} {st:Stmt} {rest:List Stmt} {t u:TS} {e:Expr} {te:TE} {pos:Pos}
noncomputable def tNext:TS:=fun D σ H=>D.nx σ H
noncomputable def tSeq (t u:TS):TS:=fun D σ H=>t { D with nx:=u D } σ H
theorem pss_nil:PSs X [] tNext:=fun _ _ σ H _ I h=>wpAny_execs_nil ⟨σ,H,I,h⟩
theorem pss_cons (h1:PS X st t) (h2:PSs X rest u):PSs X (st :: rest) (tSeq t u):=by
 intro pins s σ H D I h
 refine wpAny_execs_cons (thn (h1 pins s σ H { D with nx:=u D } I h) fun f s1 q=>?_)
 cases f with
 | next =>
  obtain ⟨σ',H',I',q⟩:=q
  exact h2 pins s1 σ' H' D I' q
 | ret v=>exact q
 | brk=>exact q
 | cont=>exact q
theorem Inv.quiet {pins:List (Addr × Obj)} {σ:St} {H:Hp} {s:Shared} (I:Inv X pins σ H s):interactive X.env = false:=by simp [interactive,I.ok.kind]
noncomputable def tDrop (te:TE):TS:=fun D σ H=>te σ H fun _ H1=>D.nx σ H1
theorem ps_expr (he:PE X e te) (hs:swapsWith e none pos.line X.env = pure false:=by rfl):PS X (.Expr e pos) (tDrop te):=by
 intro pins s σ H D I h
 exact wpAny_Expr_any (thn (he pins s σ H _ I h) fun v s1 ⟨x,H1,I1,r1,q1⟩=>⟨σ,H1,I1,q1⟩) I.quiet hs
noncomputable def tRet (te:TE):TS:=fun D σ H=>te σ H D.rt
theorem ps_ret (he:PE X e te):PS X (.Return (some e) pos) (tRet te):=by
 intro pins s σ H D I h
 exact wpAny_Return_some (thn (he pins s σ H _ I h) fun v s1 ⟨x,H1,I1,r1,q1⟩=>⟨x,σ,H1,I1,r1,q1⟩)
noncomputable def tIfS (c:TT) (t u:TS):TS:=fun D σ H=>c σ H fun b H1=>if b = true then t D σ H1 else u D σ H1
theorem ps_if {c:Expr} {a b:List Stmt} {tc:TT} (hc:PT X c tc) (ha:PSs X a t) (hb:PSs X b u):PS X (.If c a b pos) (tIfS tc t u):=by
 intro pins s σ H D I h
 refine wpAny_If (thn (hc pins s σ H _ I h) fun d s1 ⟨H1,I1,q1⟩=>?_)
 cases d with
 | true=>exact ha pins s1 σ H1 D I1 q1
 | false=>exact hb pins s1 σ H1 D I1 q1
noncomputable def tNever:TS:=fun _ _ _=>False
theorem pss_never {sts:List Stmt}:PSs X sts tNever:=fun _ _ _ _ _ _ h=>h.elim
end
noncomputable abbrev TG:=V → St → Hp → (St → Hp → Prop) → Prop
noncomputable abbrev TGs:=List V → St → Hp → (St → Hp → Prop) → Prop
noncomputable def PG (X:Cx) (target:Expr) (t:TG):Prop :=
 ∀ (pins:List (Addr × Obj)) (s:Shared) (σ:St) (H:Hp) (v:V) (u:Value) (Q:St → Hp → Prop),Inv X pins σ H s → RelV v u → t v σ H Q →
  wpAny (model X.prog X.w) X.A (assign target X.env u) (fun _ s'=>∃ σ' H',Inv X pins σ' H' s' ∧ Q σ' H') X.xe s
noncomputable def PGs (X:Cx) (ts:List Expr) (t:TGs):Prop :=
 ∀ (pins:List (Addr × Obj)) (s:Shared) (σ:St) (H:Hp) (vs:List V) (us:List Value) (Q:St → Hp → Prop),Inv X pins σ H s → Vals vs us → t vs σ H Q →
  wpAny (model X.prog X.w) X.A (assignInOrder ((assignEach ts X.env).map (·.2)) us) (fun _ s'=>∃ σ' H',Inv X pins σ' H' s' ∧ Q σ' H') X.xe s
noncomputable abbrev TSet:=V → V → V → Hp → (Hp → Prop) → Prop
noncomputable def PSet (X:Cx) (t:TSet):Prop :=
 ∀ (pins:List (Addr × Obj)) (s:Shared) (σ:St) (H:Hp) (o i v:V) (ov iv u:Value) (Q:Hp → Prop),Inv X pins σ H s → RelV o ov → RelV i iv → RelV v u → t o i v H Q →
  wpAny (model X.prog X.w) X.A (setItem ov iv u) (fun _ s'=>∃ H',Inv X pins σ H' s' ∧ Q H') X.xe s
noncomputable abbrev TIp:=V → V → Hp → VK → Prop
noncomputable def PIp (X:Cx) (op:Operator) (t:TIp):Prop :=
 ∀ (pins:List (Addr × Obj)) (s:Shared) (σ:St) (H:Hp) (x y:V) (v u:Value) (Q:VK),Inv X pins σ H s → RelV x v → RelV y u → t x y H Q →
  wpAny (model X.prog X.w) X.A (inplaceOp op v u) (EP X pins σ Q) X.xe s
section
variable {X:Cx} {pos:Pos}
noncomputable def gName (i:Nat):TG:=fun v σ H Q=>Q (σ.set i (some v)) H
theorem pg_name {i:Nat} {x:Str} (hN:X.N.Nodup) (hi:X.N[i]? = some x) (hx:Loc X.env.scope x) (hf:X.fn x = true ∨ X.env.scope.names.lookup x = some .local:=by first | exact .inl rfl | exact .inr rfl | assumption):PG X (.Name x pos) (gName i):=by
 intro pins s σ H v u Q I r h
 exact wpAny_assign_Name (store_ok I hN hi hx r (fun s' I'=>⟨_,H,I',h⟩) hf)
noncomputable def gNil:TGs:=fun vs σ H Q=>vs = [] ∧ Q σ H
noncomputable def gCons (t:TG) (u:TGs):TGs:=fun vs σ H Q=>∃ v r,vs = v :: r ∧ t v σ H fun σ' H'=>u r σ' H' Q
theorem pgs_nil:PGs X [] gNil:=by
 intro pins s σ H vs us Q I r h
 obtain ⟨e,h⟩:=h
 subst e
 cases r
 exact assignInOrder_nil ⟨σ,H,I,h⟩
theorem pgs_cons {e:Expr} {es:List Expr} {t:TG} {u:TGs} (h1:PG X e t) (h2:PGs X es u)
  (hs:(assignEach (e :: es) X.env).map (·.2) = assign e X.env :: (assignEach es X.env).map (·.2):=by rfl):PGs X (e :: es) (gCons t u):=by
 intro pins s σ H vs us Q I r h
 obtain ⟨v,vr,e1,h⟩:=h
 subst e1
 cases r with
 | cons r rr =>
  rw [hs]
  refine assignInOrder_cons (thn (h1 pins s σ H _ _ _ I r h) fun _ s1 ⟨σ1,H1,I1,q1⟩=>?_)
  exact h2 pins s1 σ1 H1 _ _ Q I1 rr q1
noncomputable def gTup (K:W.Frag) (n:Nat) (t:TGs):TG:=fun v σ H Q=>∃ a xs,v = .ref a ∧ SqT K H a xs ∧ xs.length = n ∧ t xs σ H Q
theorem pg_tup {es:List Expr} {k:Nat} {t:TGs} {n:Nat} (hc:X.calm = true) (h:PGs X es t)
  (hn:(assignEach es X.env).length = n:=by rfl) (hst:(assignEach es X.env).findIdx? (·.1) = none:=by rfl):PG X (.Tuple es k pos) (gTup X.K n t):=by
 intro pins s σ H v u Q I r hw
 obtain ⟨a,xs,e1,hq,hl,hw⟩:=hw
 subst e1
 cases r
 obtain ⟨its,rv,ht,hz⟩:=I.tuple hq
 refine assign_Tuple_tuple (I.ok.hd hc) ht (by simp [hn,← hl,rv.length]) hst fun h' hx=>?_
 have I1:Inv X pins σ H { s with heap:=h' }:=I.kept (t':=s.toks) fun b o e=>hx b o (Nat.ne_of_lt (Heap.lt_size e)) e
 exact h pins _ σ H xs _ Q I1 (by simpa using rv) hw
noncomputable def gSub (to ti:TE) (t:TSet):TG:=fun v σ H Q=>to σ H fun o H1=>ti σ H1 fun i H2=>t o i v H2 fun H3=>Q σ H3
theorem pg_sub {o i:Expr} {to ti:TE} {t:TSet} (ho:PE X o to) (hi:PE X i ti) (hs:PSet X t)
  (ha:∀ v,assign (.Subscript o i pos) X.env v = (do
   let ov ← holding [v] (eval o X.env)
   let iv ← holding [v,ov] (eval i X.env)
   standAt pos
   holding [v,ov,iv] (setItem ov iv v)
   release [v,ov,iv] []):=by intro _; rfl):PG X (.Subscript o i pos) (gSub to ti t):=by
 intro pins s σ H v u Q I r h
 rw [ha]
 refine wpAny_bind (wpAny_holding (thn (ho pins s σ H _ I h) fun ov s1 ⟨x,H1,I1,r1,q1⟩=>?_))
 refine wpAny_bind (wpAny_holding (thn (hi pins s1 σ H1 _ I1 q1) fun iv s2 ⟨y,H2,I2,r2,q2⟩=>?_))
 refine wpAny_bind (wpAny_standAt (wpAny_bind (wpAny_holding (thn (hs pins s2 σ H2 x y v ov iv u _ I2 r1 r2 r q2) fun _ s3 ⟨H3,I3,q3⟩=>?_))))
 exact wpAny_release ⟨σ,H3,I3,q3⟩
noncomputable def tAsg (te:TE) (g:TG):TS:=fun D σ H=>te σ H fun x H1=>g x σ H1 D.nx
theorem ps_asg {tg e:Expr} {te:TE} {g:TG} (he:PE X e te) (hg:PG X tg g) (hs:swapsWithSole [tg] e pos.line X.env = pure false:=by rfl) (hw:swappedStores [tg] e X.env = pure none:=by rfl)
  (h1:(assignEach [tg] X.env).map (·.2) = [assign tg X.env]:=by rfl):PS X (.Assign [tg] e pos) (tAsg te g):=by
 intro pins s σ H D I h
 refine wpAny_Assign_stores (thn (he pins s σ H _ I h) fun v s1 ⟨x,H1,I1,r1,q1⟩=>?_) hs hw
 rw [h1]
 exact thn (hg pins s1 σ H1 x v _ I1 r1 q1) fun _ s2 q=>q
noncomputable def tAug (i:Nat) (te:TE) (ti:TIp):TS:=fun D σ H=>∃ x,σ[i]? = some (some x) ∧ te σ H fun y H1=>ti x y H1 fun z H2=>D.nx (σ.set i (some z)) H2
theorem ps_aug {i:Nat} {x:Str} {e:Expr} {te:TE} {op:Operator} {ti:TIp} {pos':Pos} (hN:X.N.Nodup) (hi:X.N[i]? = some x) (hx:Loc X.env.scope x) (he:PE X e te) (ho:PIp X op ti) (hf:X.fn x = true ∨ X.env.scope.names.lookup x = some .local:=by first | exact .inl rfl | exact .inr rfl | assumption) :
  PS X (.AugAssign (.Name x pos') op e pos) (tAug i te ti):=by
 intro pins s σ H D I h
 obtain ⟨v,e1,h⟩:=h
 obtain ⟨m,hn,hl⟩:=I.loc
 have vis:Vis X.env.scope x:=by rcases hx with k | k; exact .inl k; exact .inr (.inl k)
 obtain ⟨u,r,l⟩:=hl i x v hi e1 vis
 refine wpAny_AugAssign_Name ?_
 have go:wpAny (model X.prog X.w) X.A (eval e X.env) (fun w s₂=>wpAny (model X.prog X.w) X.A (inplaceOp op u w) (fun r s₃=>wpAny (model X.prog X.w) X.A (storeName X.env x r) (fun _=>SP X pins D .next) X.xe s₃) X.xe s₂) X.xe s:=by
  refine thn (he pins s σ H _ I h) fun w s1 ⟨y,H1,I1,r1,q1⟩=>?_
  refine thn (ho pins s1 σ H1 v y u w _ I1 r r1 q1) fun z s2 ⟨zv,H2,I2,r2,q2⟩=>?_
  exact store_ok I2 hN hi hx r2 (fun s3 I3=>⟨_,H2,I3,q2⟩) hf
 rcases l with ⟨hk,hm⟩ | ⟨hk,c,hc,hcell⟩
 ·exact wpAny_loadName_local I.ok.kind hk hn hm go
 ·rcases hk with hk | hk
  ·exact wpAny_loadName_cell I.ok.kind hk hc hcell go
  ·rcases hx with k | k
   ·have:X.env.scope.names.lookup x = some .free:=hk
    rw [k] at this; cases this
   ·have:X.env.scope.names.lookup x = some .free:=hk
    rw [k] at this; cases this
noncomputable def ipI (f:Int → Int → Int):TIp:=fun x y H Q=>∃ i j,x = .int i ∧ y = .int j ∧ Q (.int (f i j)) H
theorem ip_add:PIp X .Add (ipI fun i j=>i + j):=by
 intro pins s σ H x y v u Q I r1 r2 h
 obtain ⟨i,j,e1,e2,q⟩:=h
 subst e1; subst e2
 obtain ⟨t,rfl⟩:=r1
 obtain ⟨t',rfl⟩:=r2
 exact iadd_int ⟨.int _,H,I.tok _,⟨_,rfl⟩,q⟩
end
section
variable {X:Cx} {pos:Pos}
noncomputable def tWhile (c:TT) (tb:TS):TS:=fun D σ H=>∃ W:Nat → St → Hp → Prop,(∃ m,W m σ H) ∧ ∀ m σ H,W m σ H →
 c σ H fun b H1=>if b = true then ∃ N:St → Hp → Prop,(∀ σ' H',N σ' H' → ∃ m',m' < m ∧ W m' σ' H') ∧ tb { D with nx:=N,ct:=N,bk:=D.nx } σ H1 else D.nx σ H1
theorem ps_while {c:Expr} {body:List Stmt} {tc:TT} {tb:TS} (hp:PassesOwn (model X.prog X.w) X.A X.env X.xe) (hc:PT X c tc) (hb:PSs X body tb):PS X (.While c body [] pos) (tWhile tc tb):=by
 intro pins s σ H D I h
 obtain ⟨W,⟨m0,w0⟩,turn⟩:=h
 refine wpAny_While (codeAny_whileLoop (fun n s'=>∃ σ' H',Inv X pins σ' H' s' ∧ W n σ' H') ?_ m0 ⟨σ,H,I,w0⟩)
 rintro n s1 ⟨σ1,H1,I1,w1⟩
 refine wpAny_passesOwn hp (thn (hc pins s1 σ1 H1 _ I1 (turn n σ1 H1 w1)) fun b s2 ⟨H2,I2,q2⟩=>?_)
 cases b with
 | true =>
  obtain ⟨N,hN,q2⟩:=q2
  rw [if_pos rfl]
  refine wpAny_passesOwn hp (thn (hb pins s2 σ1 H2 _ I2 q2) fun f s3 q3=>?_)
  cases f with
  | next =>
   obtain ⟨σ3,H3,I3,n3⟩:=q3
   obtain ⟨m',hm,w3⟩:=hN σ3 H3 n3
   exact ⟨m',hm,σ3,H3,I3,w3⟩
  | cont =>
   obtain ⟨σ3,H3,I3,n3⟩:=q3
   obtain ⟨m',hm,w3⟩:=hN σ3 H3 n3
   exact ⟨m',hm,σ3,H3,I3,w3⟩
  | brk=>exact q3
  | ret v=>exact q3
 | false =>
  rw [if_neg Bool.false_ne_true]
  exact wpAny_execs_nil ⟨σ1,H2,I2,q2⟩
end
structure It where
 go:Nat → Hp → Prop
 yld:Nat → Hp → V → Hp → Prop
 stop:Nat → Hp → Prop
noncomputable def FpOk (X:Cx) (pins:List (Addr × Obj)) (H:Hp) (b:Addr):Prop :=
 H b = none ∧ b ≠ X.env.locals ∧ b ∉ X.fs ∧ (b ∈ X.ex ∨ X.s₀.heap.objs.size ≤ b) ∧ (∀ x c,X.env.cells.lookup x = some c → c ≠ b) ∧ ∀ p ∈ X.pn ++ pins,p.1 ≠ b
theorem Inv.fpOk {X:Cx} {pins:List (Addr × Obj)} {σ:St} {H H':Hp} {s:Shared} {b:Addr} (I:Inv X pins σ H s) (hb:s.heap.objs.size ≤ b) (hn:H' b = none):FpOk X pins H' b:=by
 refine ⟨hn,Nat.ne_of_gt (Nat.lt_of_lt_of_le I.lt hb),I.nofs hb,.inr (Nat.le_trans I.sz hb),fun x c e z=>?_,fun p hp z=>?_⟩
 ·obtain ⟨v,q⟩:=I.cell x c e
  exact absurd (Nat.lt_of_lt_of_le q.lt (by rw [z]; exact hb)) (Nat.lt_irrefl _)
 ·exact absurd (Nat.lt_of_lt_of_le (Heap.lt_size (I.pin p hp).1) (by rw [z]; exact hb)) (Nat.lt_irrefl _)
structure Turn (P:Program) (w:World) (K:W.Frag) (tg:Expr) (J:It) (fp:List Addr) (it:Addr) (tn:Nat → Heap → Prop):Prop where
 mem:it ∈ fp
 obj:∀ i h,tn i h → ∀ b ∈ fp,∃ o,h.get? b = some o ∧ ∀ v,o.data ≠ .cell v
 keep:∀ i h h',tn i h → (∀ b ∈ fp,∀ o,h.get? b = some o → h'.get? b = some o) → tn i h'
 item:∀ (X:Cx),X.prog = P → X.w = w → X.K = K → X.calm = true → ∀ (i:Nat) (pins:List (Addr × Obj)) (s:Shared) (σ:St) (H:Hp) (E:Value → Shared → Prop),Inv X pins σ H s → (∀ b ∈ fp,FpOk X pins H b) → tn i s.heap → J.go i H →
  wpAny (model P w) X.A (pyNext (.ref it)) (fun r s1=>∃ u,r = some u ∧
   wpAny (model P w) X.A (letOwnedTupleGo tg (.ref it) u) (fun _ s2=>∃ x H',Inv X pins σ H' s2 ∧ RelV x u ∧ J.yld i H x H' ∧ tn (i + 1) s2.heap ∧ ∀ b ∈ fp,H' b = none) E s1) E s
 done:∀ (X:Cx),X.prog = P → X.w = w → X.K = K → X.calm = true → ∀ (i:Nat) (pins:List (Addr × Obj)) (s:Shared) (σ:St) (H:Hp) (E:Value → Shared → Prop),Inv X pins σ H s → (∀ b ∈ fp,FpOk X pins H b) → tn i s.heap → J.stop i H →
  wpAny (model P w) X.A (pyNext (.ref it)) (fun r s1=>r = none ∧ Inv X pins σ H s1) E s
 self:∀ (A:Around) (i:Nat) (s:Shared) (Q:Value → Shared → Prop) (E:Value → Shared → Prop),tn i s.heap → Q (.ref it) s → wpAny (model P w) A (pyIter (.ref it)) Q E s
noncomputable abbrev TI:=St → Hp → (It → Hp → Prop) → Prop
noncomputable def PIE (X:Cx) (pins:List (Addr × Obj)) (σ:St) (tg:Expr) (R:It → Hp → Prop) (itv:Value) (s2:Shared):Prop :=
 ∃ (it:Addr) (fp:List Addr) (tn:Nat → Heap → Prop) (J:It) (H':Hp),itv = .ref it ∧ Inv X pins σ H' s2 ∧ Turn X.prog X.w X.K tg J fp it tn ∧ tn 0 s2.heap ∧ (∀ b ∈ fp,FpOk X pins H' b) ∧ R J H'
noncomputable def PI (X:Cx) (tg iter:Expr) (wi:TI):Prop :=
 ∀ (pins:List (Addr × Obj)) (s:Shared) (σ:St) (H:Hp) (R:It → Hp → Prop),Inv X pins σ H s → wi σ H R →
  wpAny (model X.prog X.w) X.A (eval iter X.env) (fun v s1=>wpAny (model X.prog X.w) X.A (pyIter v) (PIE X pins σ tg R) X.xe s1) X.xe s
theorem go_of {M:Model} {A:Around} {E:Value → Shared → Prop} {s:Shared} {tg:Expr} {it:Addr} {u:Value} {o:Obj} {n:String} {vs:Array Value} {Q:Unit → Shared → Prop} (ho:s.heap.get? it = some o) (hc:o.cls = .type n) (hd:o.data = .fields vs)
  (hn:["enumerate", "zip", "dict_itemiterator", "dict_reverseitemiterator", "odict_iterator", "itertools.zip_longest", "itertools.pairwise"].contains n = false) (hQ:Q () s):wpAny M A (letOwnedTupleGo tg (.ref it) u) Q E s:=by
 unfold letOwnedTupleGo
 cases tg <;> first
  | exact wpAny_pure hQ
  | (cases u <;> first
    | exact wpAny_pure hQ
    | (refine wpAny_bind (wpAny_load ho ?_)
       rw [hc,hd]
       show wpAny M A (if (["enumerate", "zip", "dict_itemiterator", "dict_reverseitemiterator", "odict_iterator", "itertools.zip_longest", "itertools.pairwise"].contains n && vs[0]? == some (rawInt _)) = true then _ else _) Q E s
       rw [if_neg (by intro h; rw [hn,Bool.false_and] at h; cases h)]
       exact wpAny_pure hQ))
noncomputable def Itl (K:W.Frag) (a:Addr):It :=
 ⟨fun i H=>∃ xs x,SqL K H a xs ∧ xs[i]? = some x,fun i H x H'=>H' = H ∧ ∀ xs,SqL K H a xs → xs[i]? = some x,fun i H=>∃ xs,SqL K H a xs ∧ xs.length ≤ i⟩
noncomputable def Itt (K:W.Frag) (a:Addr):It :=
 ⟨fun i H=>∃ xs x,SqT K H a xs ∧ xs[i]? = some x,fun i H x H'=>H' = H ∧ ∀ xs,SqT K H a xs → xs[i]? = some x,fun i H=>∃ xs,SqT K H a xs ∧ xs.length ≤ i⟩
noncomputable def Itr (lo:Int) (n:Nat):It:=⟨fun i _=>i < n,fun i H x H'=>H' = H ∧ x = .int (lo + i),fun i _=>n ≤ i⟩
theorem turn_list {P:Program} {w:World} {K:W.Frag} {tg:Expr} (a it:Addr):Turn P w K tg (Itl K a) [it] it (fun i h=>h.IsListIter it a i) where
 mem:=by simp
 obj:=fun i h st b hb=>by
  have e:b = it:=by simpa using hb
  subst e
  obtain ⟨o,e,c,d⟩:=st
  exact ⟨o,e,fun v z=>by rw [d] at z; cases z⟩
 keep:=fun i h h' st k=>st.at fun o e=>k it (by simp) o e
 item:=by
  intro X hP hw hK hc i pins s σ H E I hf st hg
  subst hP hw hK
  obtain ⟨xs,x,hq,hx⟩:=hg
  obtain ⟨its,rv,p,hz⟩:=I.list hq
  obtain ⟨u,hu,ru⟩:=rv.get hx
  obtain ⟨f0,f1,f2,f3,f4,f5⟩:=hf it (by simp)
  refine wpAny_pyNext_list_item st p.isList (x:=u) (by simpa using hu) fun h' st' sb=>?_
  have I1:Inv X pins σ H { s with heap:=h' }:=I.turned (t':=s.toks) (fun b o hb e=>(sb.2 b hb).trans e) f0 f1 f3 f4 f5
  obtain ⟨o,e,c,d⟩:=id st'
  exact ⟨u,rfl,go_of (s:={ s with heap:=h' }) e c d (by decide) ⟨x,H,I1,ru,⟨rfl,fun ys hy=>by rw [I.list_inj hy hq]; exact hx⟩,st',fun b hb=>(hf b hb).1⟩⟩
 done:=by
  intro X hP hw hK hc i pins s σ H E I hf st hg
  subst hP hw hK
  obtain ⟨xs,hq,hx⟩:=hg
  obtain ⟨its,rv,p,hz⟩:=I.list hq
  obtain ⟨f0,f1,f2,f3,f4,f5⟩:=hf it (by simp)
  have hl:=rv.length
  exact wpAny_pyNext_list_end (I.ok.hd hc) st p.isList (by simp; omega) fun h' eb=>⟨rfl,I.turned (t':=s.toks) (fun b o hb e=>eb b o hb e) f0 f1 f3 f4 f5⟩
 self:=fun _ _ _ _ _ st h=>wpAny_pyIter_listiter st h
theorem turn_tuple {P:Program} {w:World} {K:W.Frag} {tg:Expr} (a it:Addr):Turn P w K tg (Itt K a) [it] it (fun i h=>h.IsTupleIter it a i) where
 mem:=by simp
 obj:=fun i h st b hb=>by
  have e:b = it:=by simpa using hb
  subst e
  obtain ⟨o,e,c,d⟩:=st
  exact ⟨o,e,fun v z=>by rw [d] at z; cases z⟩
 keep:=fun i h h' st k=>st.at fun o e=>k it (by simp) o e
 item:=by
  intro X hP hw hK hc i pins s σ H E I hf st hg
  subst hP hw hK
  obtain ⟨xs,x,hq,hx⟩:=hg
  obtain ⟨its,rv,p,hz⟩:=I.tuple hq
  obtain ⟨u,hu,ru⟩:=rv.get hx
  obtain ⟨f0,f1,f2,f3,f4,f5⟩:=hf it (by simp)
  refine wpAny_pyNext_tuple_item st (show s.heap.IsTuple a its.toArray from p) (x:=u) (by simpa using hu) fun h' st' sb=>?_
  have I1:Inv X pins σ H { s with heap:=h' }:=I.turned (t':=s.toks) (fun b o hb e=>(sb.2 b hb).trans e) f0 f1 f3 f4 f5
  obtain ⟨o,e,c,d⟩:=id st'
  exact ⟨u,rfl,go_of (s:={ s with heap:=h' }) e c d (by decide) ⟨x,H,I1,ru,⟨rfl,fun ys hy=>by rw [I.tuple_inj hy hq]; exact hx⟩,st',fun b hb=>(hf b hb).1⟩⟩
 done:=by
  intro X hP hw hK hc i pins s σ H E I hf st hg
  subst hP hw hK
  obtain ⟨xs,hq,hx⟩:=hg
  obtain ⟨its,rv,p,hz⟩:=I.tuple hq
  obtain ⟨f0,f1,f2,f3,f4,f5⟩:=hf it (by simp)
  have hl:=rv.length
  exact wpAny_pyNext_tuple_end (I.ok.hd hc) st (show s.heap.IsTuple a its.toArray from p) (by simp; omega) fun h' eb=>⟨rfl,I.turned (t':=s.toks) (fun b o hb e=>eb b o hb e) f0 f1 f3 f4 f5⟩
 self:=fun _ _ _ _ _ st h=>wpAny_pyIter_tupleiter st h
theorem turn_range {P:Program} {w:World} {K:W.Frag} {tg:Expr} (it:Addr) (lo:Int) (n:Nat):Turn P w K tg (Itr lo n) [it] it (fun i h=>IsRangeIter h it (lo + (i:Nat) * 1) ((n:Int) - (i:Nat)) 1) where
 mem:=by simp
 obj:=fun i h st b hb=>by
  have e:b = it:=by simpa using hb
  subst e
  exact ⟨_,st,fun v z=>by
   have z':Data.fields _ = Data.cell v:=z
   cases z'⟩
 keep:=fun i h h' st k=>k it (by simp) _ st
 item:=by
  intro X hP hw hK hc i pins s σ H E I hf st hg
  subst hP hw hK
  obtain ⟨f0,f1,f2,f3,f4,f5⟩:=hf it (by simp)
  have W:=Walks.range (prog:=X.prog) (w:=X.w) (I.ok.hd hc) it lo 1 n
  refine W.item i s _ _ hg st fun v h' tk hv st' kk=>?_
  obtain ⟨t,rfl⟩:=hv
  have I1:Inv X pins σ H { s with heap:=h',toks:=tk }:=I.turned (fun b o hb e=>kk b o (by simpa using hb) e) f0 f1 f3 f4 f5
  refine ⟨_,rfl,go_of (s:={ s with heap:=h',toks:=tk }) (n := "range_iterator") st' rfl rfl (by decide) ⟨.int (lo + i),H,I1,⟨t,?_⟩,⟨rfl,rfl⟩,st',fun b hb=>(hf b hb).1⟩⟩
  rw [Int.mul_one]
 done:=by
  intro X hP hw hK hc i pins s σ H E I hf st hg
  subst hP hw hK
  obtain ⟨f0,f1,f2,f3,f4,f5⟩:=hf it (by simp)
  exact wpAny_pyNext_range_end (I.ok.hd hc) st (by have:n ≤ i:=hg; omega) fun h' eb=>⟨rfl,I.turned (t':=s.toks) (fun b o hb e=>eb b o hb e) f0 f1 f3 f4 f5⟩
 self:=fun _ _ _ _ _ st h=>wpAny_pyIter_rangeiter st h
section
variable {X:Cx} {tg:Expr}
noncomputable def iList (K:W.Frag) (tl:TE):TI:=fun σ H R=>tl σ H fun x H1=>∃ a,x = .ref a ∧ (∃ xs,SqL K H1 a xs) ∧ R (Itl K a) H1
noncomputable def iTup (K:W.Frag) (tl:TE):TI:=fun σ H R=>tl σ H fun x H1=>∃ a,x = .ref a ∧ (∃ xs,SqT K H1 a xs) ∧ R (Itt K a) H1
theorem pi_list {l:Expr} {tl:TE} (hl:PE X l tl):PI X tg l (iList X.K tl):=by
 intro pins s σ H R I h
 refine thn (hl pins s σ H _ I h) fun v s1 ⟨x,H1,I1,r1,q1⟩=>?_
 obtain ⟨a,e,⟨xs,hq⟩,q⟩:=q1
 subst e
 cases r1
 obtain ⟨its,rv,p,hz⟩:=I1.list hq
 refine wpAny_pyIter_list p.isList ?_
 refine ⟨s1.heap.objs.size,[s1.heap.objs.size],_,_,H1,rfl,I1.kept (t':=s1.toks) fun b o e=>Heap.get?_push_of_some _ e,turn_list a _,⟨_,Heap.get?_push_size _ rfl,rfl,rfl⟩,fun b hb=>?_,q⟩
 have e:b = s1.heap.objs.size:=by simpa using hb
 subst e
 exact I1.fpOk (Nat.le_refl _) (I1.hok.fresh (Nat.le_refl _))
theorem pi_tup {l:Expr} {tl:TE} (hl:PE X l tl):PI X tg l (iTup X.K tl):=by
 intro pins s σ H R I h
 refine thn (hl pins s σ H _ I h) fun v s1 ⟨x,H1,I1,r1,q1⟩=>?_
 obtain ⟨a,e,⟨xs,hq⟩,q⟩:=q1
 subst e
 cases r1
 obtain ⟨its,rv,p,hz⟩:=I1.tuple hq
 refine wpAny_pyIter_tuple (show s1.heap.IsTuple a its.toArray from p) ?_
 refine ⟨s1.heap.objs.size,[s1.heap.objs.size],_,_,H1,rfl,I1.kept (t':=s1.toks) fun b o e=>Heap.get?_push_of_some _ e,turn_tuple a _,⟨_,Heap.get?_push_size _ rfl,rfl,rfl⟩,fun b hb=>?_,q⟩
 have e:b = s1.heap.objs.size:=by simpa using hb
 subst e
 exact I1.fpOk (Nat.le_refl _) (I1.hok.fresh (Nat.le_refl _))
theorem range_it {pins:List (Addr × Obj)} {σ:St} {H:Hp} {s:Shared} {R:It → Hp → Prop} {E:Value → Shared → Prop} {lo hi:Int} {t u v:Tok} {tk:Nat} (I:Inv X pins σ H s) (h1:-(2 ^ 62) ≤ lo) (h2:lo < 2 ^ 62) (h3:-(2 ^ 62) ≤ hi) (h4:hi < 2 ^ 62)
  (q:R (Itr lo (hi - lo).toNat) H):wpAny (model X.prog X.w) X.A (pyIter (.ref s.heap.objs.size)) (PIE X pins σ tg R) E { s with heap:=s.heap.push { cls:=.type "range",data:=.fields #[.int lo t,.int hi u,.int 1 v] },toks:=tk }:=by
 refine wpAny_pyIter_range (IsRange.new ..) (small_one h1 h2 h3 h4) ?_
 have I1:Inv X pins σ H { s with heap:=s.heap.push { cls:=.type "range",data:=.fields #[.int lo t,.int hi u,.int 1 v] },toks:=tk }:=I.kept fun b o e=>Heap.get?_push_of_some _ e
 refine ⟨(s.heap.push { cls:=.type "range",data:=.fields #[.int lo t,.int hi u,.int 1 v] }).objs.size,[(s.heap.push { cls:=.type "range",data:=.fields #[.int lo t,.int hi u,.int 1 v] }).objs.size],_,_,H,rfl,
  I1.kept (t':=tk) fun b o e=>Heap.get?_push_of_some _ e,turn_range _ lo (hi - lo).toNat,?_,fun b hb=>?_,q⟩
 ·have e1:lo + ((0:Nat):Int) * 1 = lo:=by simp
  have e2:(((hi - lo).toNat:Nat):Int) - ((0:Nat):Int) = Builtin.Range.rangeSize lo hi 1:=by rw [rangeSize_one]; split <;> omega
  show IsRangeIter _ _ (lo + ((0:Nat):Int) * 1) ((((hi - lo).toNat:Nat):Int) - ((0:Nat):Int)) 1
  rw [e1,e2]
  exact Heap.get?_push_size _ rfl
 ·have e:b = (s.heap.push { cls:=.type "range",data:=.fields #[.int lo t,.int hi u,.int 1 v] }).objs.size:=by simpa using hb
  subst e
  exact I1.fpOk (Nat.le_refl _) (I1.hok.fresh (Nat.le_refl _))
noncomputable def iRng1 (ta:TA):TI:=fun σ H R=>ta σ H fun vs H1=>∃ j:Int,vs = [.int j] ∧ -(2 ^ 62) ≤ j ∧ j < 2 ^ 62 ∧ R (Itr 0 j.toNat) H1
noncomputable def iRng2 (ta:TA):TI:=fun σ H R=>ta σ H fun vs H1=>∃ i j:Int,vs = [.int i,.int j] ∧ (-(2 ^ 62) ≤ i ∧ i < 2 ^ 62 ∧ -(2 ^ 62) ≤ j ∧ j < 2 ^ 62) ∧ R (Itr i (j - i).toNat) H1
theorem pi_range1 {a:Expr} {ta:TA} {p pos:Pos} (hg:Gl X "range") (hm:X.mg "range" = none) (ha:PA X [a] ta) (hs:starEach [a] X.env = [(false,eval a X.env)]:=by rfl):PI X tg (.Call (.Name "range" p) [a] [] pos) (iRng1 ta):=by
 intro pins s σ H R I h
 refine Call_ (ld_blt I hg hm boot_range (PyProof.Rows.callWith_type1 (thn (ha pos pins s σ H _ I h) fun us s1 ⟨vs,H1,I1,r1,q1⟩=>?_) hs rfl))
 obtain ⟨j,e,q1,q2,q⟩:=q1
 subst e
 cases r1 with
 | cons r rr =>
  cases rr
  obtain ⟨t,rfl⟩:=r
  exact call_range_1 (range_it I1 (by omega) (by omega) q1 q2 (by simpa using q))
theorem pi_range2 {a b:Expr} {ta:TA} {p pos:Pos} (hg:Gl X "range") (hm:X.mg "range" = none) (ha:PA X [a,b] ta) (hs:starEach [a,b] X.env = [(false,eval a X.env),(false,eval b X.env)]:=by rfl) (hs2:starEach [b] X.env = [(false,eval b X.env)]:=by rfl) :
  PI X tg (.Call (.Name "range" p) [a,b] [] pos) (iRng2 ta):=by
 intro pins s σ H R I h
 refine Call_ (ld_blt I hg hm boot_range (PyProof.Rows.callWith_type1 (thn (ha pos pins s σ H _ I h) fun us s1 ⟨vs,H1,I1,r1,q1⟩=>?_) (by rw [hs,hs2]) (by rw [hs2]; rfl)))
 obtain ⟨i,j,e,⟨q1,q2,q3,q4⟩,q⟩:=q1
 subst e
 cases r1 with
 | cons r rr =>
  cases rr with
  | cons r' rr =>
   cases rr
   obtain ⟨t,rfl⟩:=r
   obtain ⟨t',rfl⟩:=r'
   exact call_range_2 (range_it I1 q1 q2 q3 q4 q)
noncomputable def tFor (wi:TI) (g:TG) (tb:TS):TS:=fun D σ H=>wi σ H fun J H1=>∃ W:Nat → Nat → St → Hp → Prop,(∃ m,W 0 m σ H1) ∧ ∀ i m σ H,W i m σ H →
 (J.stop i H ∧ D.nx σ H) ∨ (J.go i H ∧ ∃ N:St → Hp → Prop,(∀ σ' H',N σ' H' → ∃ m',m' < m ∧ W (i + 1) m' σ' H') ∧ ∀ x H',J.yld i H x H' → g x σ H' fun σ2 H2=>tb { D with nx:=N,ct:=N,bk:=D.nx } σ2 H2)
noncomputable def pinsAt (fp:List Addr) (h:Heap):List (Addr × Obj):=fp.filterMap fun b=>(h.get? b).map fun o=>(b,o)
theorem mem_pinsAt {fp:List Addr} {h:Heap} {b:Addr} {o:Obj} (hb:b ∈ fp) (e:h.get? b = some o):(b,o) ∈ pinsAt fp h:=List.mem_filterMap.mpr ⟨b,hb,by rw [e]; rfl⟩
theorem of_pinsAt {fp:List Addr} {h:Heap} {p:Addr × Obj} (hp:p ∈ pinsAt fp h):p.1 ∈ fp ∧ h.get? p.1 = some p.2:=by
 obtain ⟨b,hb,e⟩:=List.mem_filterMap.mp hp
 cases q:h.get? b with
 | none=>rw [q] at e; cases e
 | some o =>
  rw [q] at e
  have e':(b,o) = p:=Option.some.inj e
  subst e'
  exact ⟨hb,q⟩
theorem Inv.pinned {pins:List (Addr × Obj)} {σ:St} {H:Hp} {s:Shared} {fp:List Addr} (I:Inv X pins σ H s) (hf:∀ b ∈ fp,FpOk X pins H b) (ho:∀ b ∈ fp,∃ o,s.heap.get? b = some o ∧ ∀ v,o.data ≠ .cell v):Inv X (pins ++ pinsAt fp s.heap) σ H s :=
 I.pins_of fun p hp=>(List.mem_append.mp hp).elim (fun z=>I.pin p (List.mem_append_right _ z)) fun z=>by
  obtain ⟨hb,e⟩:=of_pinsAt z
  obtain ⟨f0,f1,f2,_⟩:=hf p.1 hb
  obtain ⟨o,e',d⟩:=ho p.1 hb
  rw [e] at e'; cases e'
  exact ⟨e,f0,f1,f2,d⟩
theorem Inv.unpinned {pins pl:List (Addr × Obj)} {σ:St} {H:Hp} {s:Shared} (I:Inv X (pins ++ pl) σ H s):Inv X pins σ H s:=I.pins_of fun p hp=>I.pin p (List.mem_append_right _ (List.mem_append_left _ hp))
theorem ps_for {iter:Expr} {body:List Stmt} {wi:TI} {g:TG} {tb:TS} {pos:Pos} (hp:PassesOwn (model X.prog X.w) X.A X.env X.xe) (hc:X.calm = true) (hi:PI X tg iter wi) (hg:PG X tg g) (hb:PSs X body tb)
  (hs:∀ x,foldedSetIterable iter X.env x = pure x:=by intro _; rfl):PS X (.For tg iter body [] pos) (tFor wi g tb):=by
 intro pins s σ H D I h
 refine wpAny_For (thn (hi pins s σ H _ I h) fun v s1 h1=>thn h1 fun itv s2 h2=>?_) hs
 obtain ⟨it,fp,tn,J,H2,e,I2,T,st2,f2,W,⟨m0,w0⟩,turn⟩:=h2
 subst e
 have stat:∀ {H':Hp},(∀ b ∈ fp,H' b = none) → ∀ b ∈ fp,FpOk X pins H' b:=fun hn b hb=>⟨hn b hb,(f2 b hb).2⟩
 refine codeAny_forLoop_any (fun n s'=>∃ i σ' H',Inv X pins σ' H' s' ∧ tn i s'.heap ∧ (∀ b ∈ fp,H' b = none) ∧ W i n σ' H') ?_ m0 ⟨0,σ,H2,I2,st2,fun b hb=>(f2 b hb).1,w0⟩
 rintro n s3 ⟨i,σ3,H3,I3,st3,fr3,w3⟩
 rcases turn i n σ3 H3 w3 with ⟨stop,qn⟩ | ⟨go,N,hN,step⟩
 ·refine wpAny_passesOwn hp (thn (T.done X rfl rfl rfl hc i pins s3 σ3 H3 X.xe I3 (stat fr3) st3 stop) fun r s4 ⟨hr,I4⟩=>?_)
  subst hr
  exact wpAny_execs_nil ⟨σ3,H3,I4,qn⟩
 ·refine wpAny_passesOwn hp (thn (T.item X rfl rfl rfl hc i pins s3 σ3 H3 X.xe I3 (stat fr3) st3 go) fun r s4 ⟨u,hr,h4⟩=>?_)
  subst hr
  refine wpAny_passesOwn hp (thn h4 fun _ s5 ⟨x,H5,I5,r5,y5,st5,fr5⟩=>?_)
  have I5':=I5.pinned (stat fr5) (T.obj _ _ st5)
  refine wpAny_passesOwn hp (thn (hg _ s5 σ3 H5 x u _ I5' r5 (step x H5 y5)) fun _ s6 ⟨σ6,H6,I6,q6⟩=>?_)
  refine wpAny_passesOwn hp (thn (hb _ s6 σ6 H6 _ I6 q6) fun f s7 q7=>?_)
  have again:∀ {σ7:St} {H7:Hp},Inv X (pins ++ pinsAt fp s5.heap) σ7 H7 s7 → N σ7 H7 → ∃ m,m < n ∧ ∃ i σ' H',Inv X pins σ' H' s7 ∧ tn i s7.heap ∧ (∀ b ∈ fp,H' b = none) ∧ W i m σ' H':=fun {σ7 H7} I7 n7=>by
   obtain ⟨m',hm,w7⟩:=hN σ7 H7 n7
   refine ⟨m',hm,i + 1,σ7,H7,I7.unpinned,T.keep _ _ _ st5 fun b hb o e=>(I7.pin (b,o) (List.mem_append_right _ (List.mem_append_right _ (mem_pinsAt hb e)))).1,fun b hb=>?_,w7⟩
   obtain ⟨o,e,d⟩:=T.obj _ _ st5 b hb
   exact (I7.pin (b,o) (List.mem_append_right _ (List.mem_append_right _ (mem_pinsAt hb e)))).2.1
  cases f with
  | next=>obtain ⟨σ7,H7,I7,n7⟩:=q7; exact again I7 n7
  | cont=>obtain ⟨σ7,H7,I7,n7⟩:=q7; exact again I7 n7
  | brk=>obtain ⟨σ7,H7,I7,q7⟩:=q7; exact ⟨σ7,H7,I7.unpinned,q7⟩
  | ret v=>obtain ⟨x7,σ7,H7,I7,r7,q7⟩:=q7; exact ⟨x7,σ7,H7,I7.unpinned,r7,q7⟩
end
noncomputable abbrev R2:=V → V → Hp → VK → Prop
noncomputable def OpR (X:Cx) (f:Value → Value → Sem Value) (r:R2):Prop :=
 ∀ (pins:List (Addr × Obj)) (s:Shared) (σ:St) (H:Hp) (x y:V) (v u:Value) (Q:VK),Inv X pins σ H s → RelV x v → RelV y u → r x y H Q →
  wpAny (model X.prog X.w) X.A (f v u) (EP X pins σ Q) X.xe s
noncomputable def UnR (X:Cx) (f:Value → Sem Value) (r:V → Hp → VK → Prop):Prop :=
 ∀ (pins:List (Addr × Obj)) (s:Shared) (σ:St) (H:Hp) (x:V) (v:Value) (Q:VK),Inv X pins σ H s → RelV x v → r x H Q →
  wpAny (model X.prog X.w) X.A (f v) (EP X pins σ Q) X.xe s
noncomputable def CallR (X:Cx) (f:Value) (r:List V → Hp → VK → Prop):Prop :=
 ∀ (pins:List (Addr × Obj)) (s:Shared) (σ:St) (H:Hp) (xs:List V) (us:List Value) (Q:VK),Inv X pins σ H s → Vals xs us → r xs H Q →
  wpAny (model X.prog X.w) X.A (call f us) (EP X pins σ Q) X.xe s
noncomputable def tOp (r:R2) (ta tb:TE):TE:=fun σ H Q=>ta σ H fun x H1=>tb σ H1 fun y H2=>r x y H2 Q
noncomputable def tUn (r:V → Hp → VK → Prop) (ta:TE):TE:=fun σ H Q=>ta σ H fun x H1=>r x H1 Q
noncomputable def rI (C:Int → Int → Prop) (g:Int → Int → V):R2:=fun x y H Q=>∃ i j,x = .int i ∧ y = .int j ∧ C i j ∧ Q (g i j) H
noncomputable def rI0 (g:Int → Int → V):R2:=fun x y H Q=>∃ i j,x = .int i ∧ y = .int j ∧ Q (g i j) H
noncomputable def rU (g:Int → V):V → Hp → VK → Prop:=fun x H Q=>∃ i,x = .int i ∧ Q (g i) H
section
variable {X:Cx} {a b c:Expr} {ta tb tc:TE} {pos:Pos}
theorem binT (ha:PE X a ta) (hb:PE X b tb) {pins:List (Addr × Obj)} {s:Shared} {σ:St} {H:Hp} {R:V → V → Hp → Prop} (I:Inv X pins σ H s)
  (h:ta σ H fun x H1=>tb σ H1 fun y H2=>R x y H2) {Q:Value → Shared → Prop} {f:Value → Value → Sem Value}
  (hf:∀ v u s2 x y H2,Inv X pins σ H2 s2 → RelV x v → RelV y u → R x y H2 → wpAny (model X.prog X.w) X.A (f v u) Q X.xe s2) :
  wpAny (model X.prog X.w) X.A (eval a X.env) (fun v s₁=>wpAny (model X.prog X.w) X.A (eval b X.env) (fun u s₂=>wpAny (model X.prog X.w) X.A (f v u) Q X.xe s₂) X.xe s₁) X.xe s:=by
 refine thn (ha pins s σ H _ I h) fun v s1 ⟨x,H1,I1,r1,q1⟩=>?_
 refine thn (hb pins s1 σ H1 _ I1 q1) fun u s2 ⟨y,H2,I2,r2,q2⟩=>?_
 exact hf v u s2 x y H2 I2 r1 r2 q2
theorem pe_op {op:Operator} {r:R2} (ho:OpR X (binaryOp op) r) (ha:PE X a ta) (hb:PE X b tb):PE X (.BinOp a op b pos) (tOp r ta tb):=by
 intro pins s σ H Q I h
 exact wpAny_BinOp (binT ha hb I h fun v u s2 x y H2 I2 rx ry q=>ho pins s2 σ H2 x y v u Q I2 rx ry q)
theorem pe_un {op:UnaryOp} {r:V → Hp → VK → Prop} (ho:UnR X (unaryOp op) r) (ha:PE X a ta):PE X (.UnaryOp op a pos) (tUn r ta):=by
 intro pins s σ H Q I h
 exact UnaryOp_ (thn (ha pins s σ H _ I h) fun v s1 ⟨x,H1,I1,r1,q1⟩=>ho pins s1 σ H1 x v Q I1 r1 q1)
theorem opI {f:Value → Value → Sem Value} {C:Int → Int → Prop} {g:Int → Int → Int}
  (rule:∀ (i j:Int) (t u:Tok) (s:Shared) (Q:Value → Shared → Prop) (E:Value → Shared → Prop),C i j → Q (.int (g i j) s.toks) { s with toks:=s.toks + 1 } → wpAny (model X.prog X.w) X.A (f (.int i t) (.int j u)) Q E s) :
  OpR X f (rI C fun i j=>.int (g i j)):=by
 intro pins s σ H x y v u Q I rx ry h
 obtain ⟨i,j,rfl,rfl,hc,q⟩:=h
 obtain ⟨t,rfl⟩:=rx
 obtain ⟨t',rfl⟩:=ry
 exact rule i j t t' s _ _ hc ⟨.int (g i j),H,I.tok _,⟨_,rfl⟩,q⟩
theorem opI0 {f:Value → Value → Sem Value} {g:Int → Int → Int}
  (rule:∀ (i j:Int) (t u:Tok) (s:Shared) (Q:Value → Shared → Prop) (E:Value → Shared → Prop),Q (.int (g i j) s.toks) { s with toks:=s.toks + 1 } → wpAny (model X.prog X.w) X.A (f (.int i t) (.int j u)) Q E s) :
  OpR X f (rI0 fun i j=>.int (g i j)):=by
 intro pins s σ H x y v u Q I rx ry h
 obtain ⟨i,j,rfl,rfl,q⟩:=h
 obtain ⟨t,rfl⟩:=rx
 obtain ⟨t',rfl⟩:=ry
 exact rule i j t t' s _ _ ⟨.int (g i j),H,I.tok _,⟨_,rfl⟩,q⟩
theorem opB0 {f:Value → Value → Sem Value} {g:Int → Int → Bool}
  (rule:∀ (i j:Int) (t u:Tok) (s:Shared) (Q:Value → Shared → Prop) (E:Value → Shared → Prop),Q (.bool (g i j)) s → wpAny (model X.prog X.w) X.A (f (.int i t) (.int j u)) Q E s) :
  OpR X f (rI0 fun i j=>.bl (g i j)):=by
 intro pins s σ H x y v u Q I rx ry h
 obtain ⟨i,j,rfl,rfl,q⟩:=h
 obtain ⟨t,rfl⟩:=rx
 obtain ⟨t',rfl⟩:=ry
 exact rule i j t t' s _ _ ⟨.bl (g i j),H,I,rfl,q⟩
noncomputable def CDiv (i j:Int):Prop:=0 < j ∧ j < 1073741824
noncomputable def CPow (i j:Int):Prop:=0 ≤ j ∧ j ≤ 1000000 ∧ i.natAbs < 2 ^ 64
noncomputable def CMul (i j:Int):Prop:=(-(2 ^ 64) < i ∧ i < 2 ^ 64) ∨ (-(2 ^ 64) < j ∧ j < 2 ^ 64)
theorem CMul.ok {i j:Int} (h:CMul i j):IntMulOk i j:=by
 rcases h with ⟨h1,h2⟩ | ⟨h1,h2⟩
 ·exact .of_left (intBits_le_64 h1 h2)
 ·exact .of_right (intBits_le_64 h1 h2)
theorem op_add:OpR X (binaryOp .Add) (rI0 fun i j=>.int (i + j)):=opI0 fun _ _ _ _ _ _ _ q=>add_int q
theorem op_sub:OpR X (binaryOp .Sub) (rI0 fun i j=>.int (i - j)):=opI0 fun _ _ _ _ _ _ _ q=>sub_int q
theorem op_mul:OpR X (binaryOp .Mult) (rI CMul fun i j=>.int (i * j)):=opI fun _ _ _ _ _ _ _ hc q=>mul_int q hc.ok
theorem op_fdiv:OpR X (binaryOp .FloorDiv) (rI CDiv fun i j=>.int (i / j)):=opI fun i j _ _ _ _ _ hc q=>by
 have h1:(0:Int) < j:=hc.1
 have h2:j < 1073741824:=hc.2
 exact floordiv_int (by omega) (by rw [Int.fdiv_eq_ediv_of_nonneg i (by omega)]; exact q) (.inl (PyProof.noPylong_small (by omega)))
theorem op_mod:OpR X (binaryOp .Mod) (rI (fun _ j=>0 < j) fun i j=>.int (i % j)):=opI fun i j _ _ _ _ _ hc q=>by
 have h1:(0:Int) < j:=hc
 exact mod_int' (by omega) (by rw [Int.fmod_eq_emod_of_nonneg i (by omega)]; exact q)
theorem op_pow:OpR X (binaryOp .Pow) (rI CPow fun i j=>.int (i ^ j.toNat)):=opI fun _ _ _ _ _ _ _ hc q=>pow_int_small hc.1 hc.2.1 hc.2.2 q
theorem unI {f:Value → Sem Value} {g:Int → Int}
  (rule:∀ (i:Int) (t:Tok) (s:Shared) (Q:Value → Shared → Prop) (E:Value → Shared → Prop),Q (.int (g i) s.toks) { s with toks:=s.toks + 1 } → wpAny (model X.prog X.w) X.A (f (.int i t)) Q E s) :
  UnR X f (rU fun i=>.int (g i)):=by
 intro pins s σ H x v Q I rx h
 obtain ⟨i,rfl,q⟩:=h
 obtain ⟨t,rfl⟩:=rx
 exact rule i t s _ _ ⟨.int (g i),H,I.tok _,⟨_,rfl⟩,q⟩
theorem un_neg:UnR X (unaryOp .USub) (rU fun i=>.int (-i)):=unI fun _ _ _ _ _ q=>neg_int q
end
noncomputable def scal:V → V → Bool
 | .non,.non=>true | .non,.int _=>true | .int _,.non=>true | .non,.bl _=>true | .bl _,.non=>true | .non,.str _=>true | .str _,.non=>true
 | .int _,.int _=>true | .bl _,.bl _=>true | .str _,.str _=>true | .byt _,.byt _=>true
 | .int _,.str _=>true | .str _,.int _=>true | .bl _,.str _=>true | .str _,.bl _=>true
 | _,_=>false
noncomputable def rEq:R2:=fun x y H Q=>scal x y = true ∧ Q (.bl (decide (x = y))) H
noncomputable def rNe:R2:=fun x y H Q=>scal x y = true ∧ Q (.bl (!decide (x = y))) H
theorem dec_int {i j:Int}:decide (V.int i = V.int j) = (i == j):=by
 rw [Bool.eq_iff_iff]
 simp
theorem dec_bl {i j:Bool}:decide (V.bl i = V.bl j) = (i == j):=by
 rw [Bool.eq_iff_iff]
 simp
theorem dec_str {i j:Str}:decide (V.str i = V.str j) = (i == j):=by
 rw [Bool.eq_iff_iff]
 simp
theorem dec_byt {i j:Array UInt8}:decide (V.byt i = V.byt j) = (i.toList == j.toList):=by
 rw [Bool.eq_iff_iff]
 cases i
 cases j
 simp
section
variable {X:Cx} {a b c:Expr} {ta tb tc:TE} {pos:Pos}
theorem fin_bl {pins:List (Addr × Obj)} {σ:St} {H:Hp} {s:Shared} {Q:VK} {k k':Bool} (I:Inv X pins σ H s) (q:Q (.bl k) H) (e:k = k'):EP X pins σ Q (.bool k') s:=by
 subst e
 exact ⟨.bl k,H,I,rfl,q⟩
theorem op_eq:OpR X (compareOp .Eq) rEq:=by
 intro pins s σ H x y v u Q I rx ry h
 obtain ⟨hs,q⟩:=h
 cases x with
 | non =>
  cases rx
  cases y with
  | non=>cases ry; exact PySem.EqNone.eq_none_none (fin_bl I q (by simp))
  | bl j=>cases ry; exact PySem.EqNone.eq_none_bool (fin_bl I q (by simp))
  | int j=>obtain ⟨t',rfl⟩:=ry; exact PySem.EqNone.eq_none_int (fin_bl I q (by simp))
  | str j=>obtain ⟨t',rfl⟩:=ry; exact PySem.EqNone.eq_none_str (fin_bl I q (by simp))
  | _=>exact absurd (show false = true from hs) Bool.false_ne_true
 | bl i =>
  cases rx
  cases y with
  | non=>cases ry; exact PySem.EqNone.eq_bool_none (fin_bl I q (by simp))
  | bl j=>cases ry; exact eq_bool (fin_bl I q dec_bl)
  | str j=>obtain ⟨t',rfl⟩:=ry; exact PySem.EqMixed.eq_bool_str (fin_bl I q (by simp))
  | _=>exact absurd (show false = true from hs) Bool.false_ne_true
 | int i =>
  obtain ⟨t,rfl⟩:=rx
  cases y with
  | non=>cases ry; exact PySem.EqNone.eq_int_none (fin_bl I q (by simp))
  | int j=>obtain ⟨t',rfl⟩:=ry; exact eq_int (fin_bl I q dec_int)
  | str j=>obtain ⟨t',rfl⟩:=ry; exact PySem.EqMixed.eq_int_str (fin_bl I q (by simp))
  | _=>exact absurd (show false = true from hs) Bool.false_ne_true
 | str i =>
  obtain ⟨t,rfl⟩:=rx
  cases y with
  | non=>cases ry; exact PySem.EqNone.eq_str_none (fin_bl I q (by simp))
  | bl j=>cases ry; exact PySem.EqMixed.eq_str_bool (fin_bl I q (by simp))
  | int j=>obtain ⟨t',rfl⟩:=ry; exact PySem.EqMixed.eq_str_int (fin_bl I q (by simp))
  | str j=>obtain ⟨t',rfl⟩:=ry; exact eq_str (fin_bl I q dec_str)
  | _=>exact absurd (show false = true from hs) Bool.false_ne_true
 | byt i =>
  obtain ⟨t,rfl⟩:=rx
  cases y with
  | byt j=>obtain ⟨t',rfl⟩:=ry; exact W.eq_bytes (fin_bl I q dec_byt)
  | _=>exact absurd (show false = true from hs) Bool.false_ne_true
 | _=>cases y <;> exact absurd (show false = true from hs) Bool.false_ne_true
theorem op_ne:OpR X (compareOp .NotEq) rNe:=by
 intro pins s σ H x y v u Q I rx ry h
 obtain ⟨hs,q⟩:=h
 cases x with
 | non =>
  cases rx
  cases y with
  | non=>cases ry; exact PySem.EqNone.ne_none_none (fin_bl I q (by simp))
  | bl j=>cases ry; exact PySem.EqNone.ne_none_bool (fin_bl I q (by simp))
  | int j=>obtain ⟨t',rfl⟩:=ry; exact PySem.EqNone.ne_none_int (fin_bl I q (by simp))
  | str j=>obtain ⟨t',rfl⟩:=ry; exact PySem.EqNone.ne_none_str (fin_bl I q (by simp))
  | _=>exact absurd (show false = true from hs) Bool.false_ne_true
 | bl i =>
  cases rx
  cases y with
  | non=>cases ry; exact PySem.EqNone.ne_bool_none (fin_bl I q (by simp))
  | bl j=>cases ry; exact ne_bool (fin_bl I q (congrArg not dec_bl))
  | str j=>obtain ⟨t',rfl⟩:=ry; exact PySem.EqMixed.ne_bool_str (fin_bl I q (by simp))
  | _=>exact absurd (show false = true from hs) Bool.false_ne_true
 | int i =>
  obtain ⟨t,rfl⟩:=rx
  cases y with
  | non=>cases ry; exact PySem.EqNone.ne_int_none (fin_bl I q (by simp))
  | int j=>obtain ⟨t',rfl⟩:=ry; exact ne_int (fin_bl I q (congrArg not dec_int))
  | str j=>obtain ⟨t',rfl⟩:=ry; exact PySem.EqMixed.ne_int_str (fin_bl I q (by simp))
  | _=>exact absurd (show false = true from hs) Bool.false_ne_true
 | str i =>
  obtain ⟨t,rfl⟩:=rx
  cases y with
  | non=>cases ry; exact PySem.EqNone.ne_str_none (fin_bl I q (by simp))
  | bl j=>cases ry; exact PySem.EqMixed.ne_str_bool (fin_bl I q (by simp))
  | int j=>obtain ⟨t',rfl⟩:=ry; exact PySem.EqMixed.ne_str_int (fin_bl I q (by simp))
  | str j=>obtain ⟨t',rfl⟩:=ry; exact ne_str (fin_bl I q (congrArg not dec_str))
  | _=>exact absurd (show false = true from hs) Bool.false_ne_true
 | byt i =>
  obtain ⟨t,rfl⟩:=rx
  cases y with
  | byt j=>obtain ⟨t',rfl⟩:=ry; exact W.ne_bytes (fin_bl I q (congrArg not dec_byt))
  | _=>exact absurd (show false = true from hs) Bool.false_ne_true
 | _=>cases y <;> exact absurd (show false = true from hs) Bool.false_ne_true
theorem op_lt:OpR X (compareOp .Lt) (rI0 fun i j=>.bl (decide (i < j))):=opB0 fun _ _ _ _ _ _ _ q=>lt_int q
theorem op_gt:OpR X (compareOp .Gt) (rI0 fun i j=>.bl (decide (j < i))):=opB0 fun _ _ _ _ _ _ _ q=>gt_int q
theorem op_ge:OpR X (compareOp .GtE) (rI0 fun i j=>.bl (decide (j ≤ i))):=opB0 fun _ _ _ _ _ _ _ q=>ge_int q
theorem op_isN:OpR X (compareOp .Is) (fun x y H Q=>y = .non ∧ Q (.bl (decide (x = .non))) H):=by
 intro pins s σ H x y v u Q I rx ry h
 obtain ⟨rfl,q⟩:=h
 cases ry
 refine is_none_gen (fin_bl I q ?_)
 cases x <;> first
  | (cases rx; rfl)
  | (obtain ⟨t,rfl⟩:=rx; rfl)
theorem OpR.or {f:Value → Value → Sem Value} {r r':R2} (h:OpR X f r) (h':OpR X f r'):OpR X f (fun x y H Q=>r x y H Q ∨ r' x y H Q):=by
 intro pins s σ H x y v u Q I rx ry q
 rcases q with q | q
 ·exact h pins s σ H x y v u Q I rx ry q
 ·exact h' pins s σ H x y v u Q I rx ry q
theorem nomark (b:Expr) {op:CmpOp} (h:op ≠ .In:=by decide) (h2:op ≠ .NotIn:=by decide):behindInMarks op b = false:=by
 have e1:(op == CmpOp.In) = false:=by cases op <;> first | rfl | exact absurd rfl h
 have e2:(op == CmpOp.NotIn) = false:=by cases op <;> first | rfl | exact absurd rfl h2
 cases b <;> simp [behindInMarks,e1,e2]
theorem pe_cmpR {op:CmpOp} {r:R2} (ho:OpR X (compareOp op) r) (ha:PE X a ta) (hb:PE X b tb) (hm:behindInMarks op b = false):PE X (.Compare a [op] [b] pos) (tOp r ta tb):=by
 intro pins s σ H Q I h
 exact wpAny_Compare1 (binT ha hb I h fun v u s2 x y H2 I2 rx ry q=>ho pins s2 σ H2 x y v u Q I2 rx ry q) hm
noncomputable def tTest (t:TE):TT:=fun σ H Q=>t σ H fun x H'=>∃ k,x = .bl k ∧ Q k H'
theorem pt_cmpR {op:CmpOp} {r:R2} (ho:OpR X (compareOp op) r) (ha:PE X a ta) (hb:PE X b tb) (hm:behindInMarks op b = false):PT X (.Compare a [op] [b] pos) (tTest (tOp r ta tb)):=by
 intro pins s σ H Q I h
 refine wpAny_isTrue_Compare1 (thn (ha pins s σ H _ I h) fun v s1 ⟨x,H1,I1,r1,q1⟩=>thn (hb pins s1 σ H1 _ I1 q1) fun u s2 ⟨y,H2,I2,r2,q2⟩ =>
  thn (ho pins s2 σ H2 x y v u _ I2 r1 r2 q2) fun c s3 ⟨z,H3,I3,r3,k,e,q3⟩=>?_) hm
 subst e
 cases r3
 exact wpAny_truthy_bool ⟨H3,I3,q3⟩
theorem line63:(sizeLine:Nat) < 2 ^ 63:=by rw [sizeLine_eq]; decide
theorem op_add_str:OpR X (binaryOp .Add) (fun x y H Q=>∃ i j,x = .str i ∧ y = .str j ∧ i.length + j.length ≤ sizeLine ∧ Q (.str (i ++ j)) H):=by
 intro pins s σ H x y v u Q I rx ry h
 obtain ⟨i,j,rfl,rfl,hz,q⟩:=h
 obtain ⟨t,rfl⟩:=rx
 obtain ⟨t',rfl⟩:=ry
 exact add_str (fun t' tk=>⟨.str (i ++ j),H,I.tok _,⟨_,rfl⟩,q⟩) hz
theorem vals1 {x:V} {us:List Value} (r:Vals [x] us):∃ u,us = [u] ∧ RelV x u:=by
 cases r with
 | cons r1 r2=>cases r2; exact ⟨_,rfl,r1⟩
theorem call_ord:CallR X (.builtin "ord") (fun xs H Q=>∃ x,xs = [.str x] ∧ x.length = 1 ∧ Q (.int (x.cps.getD 0 0:Nat)) H):=by
 intro pins s σ H xs us Q I r h
 obtain ⟨x,rfl,hz,q⟩:=h
 obtain ⟨u,rfl,t,rfl⟩:=vals1 r
 exact ord_of_one hz ⟨.int _,H,I.tok _,⟨_,rfl⟩,q⟩
end
section
variable {prog:Program} {w:World} {A:Around} {E:Value → Shared → Prop} {s:Shared} {K:W.Frag} {x dx C f:Addr} {mA:Str → Option Value} {name:Str} {v:Value}
end
theorem RelO.some_of {v:V} {o:Option Value} (r:RelO (some v) o):∃ u,o = some u ∧ RelV v u:=by
 cases o with
 | none=>exact (show False from r).elim
 | some u=>exact ⟨u,rfl,r⟩
section
variable {P:Program} {w:World} {H H':Hp} {h h':Heap} {a C dx:Addr} {fs fs':List (Str × V)}
end
section
variable {X:Cx} {pins:List (Addr × Obj)} {σ:St} {H:Hp} {s:Shared} {a C dx:Addr} {fs:List (Str × V)} {f:Str} {v:V} {A:Around} {E:Value → Shared → Prop}
end
section
variable {X:Cx} {o e value:Expr} {f:Str} {pos pos' tpos:Pos} {ta tv:TE}
end
section
variable {X:Cx} {pins:List (Addr × Obj)} {σ:St} {H:Hp} {s:Shared} {A:Around} {E:Value → Shared → Prop} {Q:Value → Shared → Prop} {c:Value} {b:Bool}
end
structure Room (k:Nat) (A:Around):Prop where
 hd:A.handled = none
 dp:A.depth + 3 * k + 5 < recursionLimit
 un:A.units + 16 * k + 200 < cLine
theorem Room.mono {j k:Nat} {A:Around} (r:Room k A) (h:j ≤ k):Room j A:=⟨r.hd,by have:=r.dp; omega,by have:=r.un; omega⟩
theorem Room.deeper {k:Nat} {A:Around} (r:Room (k + 1) A) (env:Env):Room k (A.deeper env) :=
 ⟨r.hd,by have:=r.dp; show A.depth + 1 + 3 * k + 5 < _; omega,by have:=r.un; show A.units + 3 + 16 * k + 200 < _; omega⟩
theorem Room.depth {k:Nat} {A:Around} (r:Room k A):A.depth < recursionLimit:=by have:=r.dp; omega
theorem Room.units {k:Nat} {A:Around} (r:Room k A):A.units + 64 < cLine:=by have:=r.un; omega
noncomputable def tNil:TA:=fun _ H Q=>Q [] H
noncomputable def tCons (ta:TE) (tr:TA):TA:=fun σ H Q=>ta σ H fun x H1=>tr σ H1 fun xs H2=>Q (x :: xs) H2
section
variable {X:Cx} {e:Expr} {es:List Expr} {te:TE} {t:TA} {pos:Pos}
theorem pa_nil:PA X [] tNil:=fun _ _ _ _ H Q I h=>Calls.spliced_nil ⟨[],H,I,.nil,h⟩
theorem pa_cons (ha:PE X e te) (hr:PA X es t) (hs:starEach (e :: es) X.env = (false,eval e X.env) :: starEach es X.env:=by rfl):PA X (e :: es) (tCons te t):=by
 intro pos pins s σ H Q I h
 rw [hs]
 show wpAny _ _ (spliced ((false,eval e X.env) :: backTo pos (starEach es X.env))) _ _ s
 refine Calls.spliced_cons (thn (ha pins s σ H _ I h) fun u s1 ⟨x,H1,I1,r1,q1⟩=>?_)
 exact thn (hr pos pins s1 σ H1 _ I1 q1) fun us s2 ⟨xs,H2,I2,r2,q2⟩=>⟨x :: xs,H2,I2,.cons r1 r2,q2⟩
noncomputable def tTup (t:TA):TE:=fun σ H Q=>t σ H fun xs H1=>xs.length ≤ sizeLine ∧ ∀ p,H1 p = none → Q (.ref p) (upd H1 p (.tup xs))
noncomputable def tLst (t:TA):TE:=fun σ H Q=>t σ H fun xs H1=>xs.length ≤ sizeLine ∧ ∀ p,H1 p = none → Q (.ref p) (upd H1 p (.lst xs))
theorem pe_tup {x1} (h:PA X es t):PE X (.Tuple es x1 pos) (tTup t):=by
 intro pins s σ H Q I hq
 refine wpAny_Tuple_spliced (thn (h pos pins s σ H _ I hq) fun us s1 ⟨xs,H1,I1,r,z,q⟩=>⟨by rw [← r.length]; exact z,?_⟩)
 have hf:H1 s1.heap.objs.size = none:=I1.hok.fresh (Nat.le_refl _)
 refine ⟨.ref s1.heap.objs.size,upd H1 s1.heap.objs.size (.tup xs),I1.laid (t':=s1.toks) (fun b u e=>Heap.get?_push_of_some _ e) (Nat.le_refl _) ?_,rfl,q _ hf⟩
 exact ⟨z,us,r,⟨_,Heap.get?_push_size _ rfl,rfl,_,rfl,rfl⟩⟩
theorem pe_lst (h:PA X es t):PE X (.List es pos) (tLst t):=by
 intro pins s σ H Q I hq
 refine wpAny_List_spliced (thn (h pos pins s σ H _ I hq) fun us s1 ⟨xs,H1,I1,r,z,q⟩=>⟨by rw [← r.length]; exact z,?_⟩)
 have hf:H1 s1.heap.objs.size = none:=I1.hok.fresh (Nat.le_refl _)
 refine ⟨.ref s1.heap.objs.size,upd H1 s1.heap.objs.size (.lst xs),I1.laid (t':=s1.toks) (fun b u e=>Heap.get?_push_of_some _ e) (Nat.le_refl _) ?_,rfl,q _ hf⟩
 exact ⟨z,us,0,r,Heap.get?_push_size _ rfl⟩
end
noncomputable abbrev Sp:=List V → Hp → VK → XK → Prop
noncomputable abbrev CXT:=List Env → Hp → Shared → XK → Value → Shared → Prop
structure Env0 (P:Program) (w:World) (K:W.Frag) (mg:Str → Option Value) (base:Heap) (A:Around) (outer:List Env) (s:Shared) (H:Hp):Prop where
 frames:A.frames = some outer
 mod:Mod K mg base
 bs:∀ b o,base.get? b = some o → s.heap.get? b = some o ∧ H b = none
 bsz:base.objs.size ≤ s.heap.objs.size
 funs:s.heap.FunFrames base outer
 frf:∀ b ∈ frs outer,H b = none
 hok:HOk P w H s.heap
 bare:AllBare s.gens
noncomputable def CE (outer:List Env) (P:Program) (w:World) (H:Hp) (s:Shared) (Q:VK) (u:Value) (s':Shared):Prop :=
 ∃ v H',s'.os = s.os ∧ AllBare s'.gens ∧ Un (frs outer) [] H H' s.heap s'.heap ∧ HOk P w H' s'.heap ∧ RelV v u ∧ Q v H'
noncomputable def CR (CX:CXT) (outer:List Env) (P:Program) (w:World) (H:Hp) (s:Shared) (Q:VK) (E:XK) (r:Result) (s':Shared):Prop :=
 match r with
 | .ok (.ret u)=>CE outer P w H s Q u s'
 | .ok _=>False
 | .error e=>CX outer H s E e s'
structure FnOk (P:Program) (w:World) (K:W.Frag) (mg:Str → Option Value) (base:Heap) (CX:CXT) (k:Nat) (f:Addr) (fd:FuncData) (ps:List Str) (sp:Sp):Prop where
 len:∀ vs H Q E,sp vs H Q E → vs.length = ps.length
 run:∀ (A:Around) (outer:List Env) (s:Shared) (H:Hp) (args:Args) (us:List Value) (vs:List V) (Q:VK) (E:XK),Room k A → Env0 P w K mg base A outer s H → BindsTo s fd args (ps.zip us) → Vals vs us → sp vs H Q E →
  codeAny (model P w) A (.call (.ref f) args) (CR CX outer P w H s Q E) s
section
variable {X:Cx} {pins:List (Addr × Obj)} {σ:St} {H:Hp} {s s':Shared}
theorem Inv.env0 (I:Inv X pins σ H s):Env0 X.prog X.w X.K X.mg X.base X.A X.stack s H :=
 ⟨I.ok.frames,I.ok.mod,I.bs,Nat.le_trans I.ok.bsz I.sz,I.stack,I.stkFree,I.hok,I.bare⟩
theorem Inv.after {Q:VK} {u:Value} (I:Inv X pins σ H s) (h:CE X.stack X.prog X.w H s Q u s'):EP X pins σ Q u s':=by
 obtain ⟨v,H',os,bare,un,hok,r,q⟩:=h
 obtain ⟨hh,g,d,t,os'⟩:=s'
 obtain rfl:os' = s.os:=os
 exact ⟨v,H',I.call (h':=hh) (g':=g) (d':=d) (t':=t) (ch:=[]) un hok bare (fun b z=>absurd z (by simp)),r,q⟩
end
noncomputable def tCall (sp:Sp) (dvs:List V) (E:XK) (t:TA):TE:=fun σ H Q=>t σ H fun vs H1=>sp (vs ++ dvs) H1 Q E
noncomputable def Binds (K:W.Frag) (fd:FuncData) (ps:List Str) (ds:List Value):Prop :=
 ∀ (s:Shared) (us:List Value),K.In s.heap → (us ++ ds).length = ps.length → BindsTo s fd ⟨us,[]⟩ (ps.zip (us ++ ds))
theorem Binds.all {K:W.Frag} {fd:FuncData} {ps:List Str} (h:∀ us:List Value,us.length = ps.length → bindArgs fd ⟨us,[]⟩ = pure (ps.zip us)):Binds K fd ps []:=fun s us _ hl=>by
 rw [List.append_nil] at hl ⊢
 exact .of_eq (h us hl)
noncomputable def Passes (CX:CXT) (X:Cx) (E:XK):Prop:=∀ (pins:List (Addr × Obj)) (σ:St) (H:Hp) (s:Shared) (e:Value) (s':Shared),Inv X pins σ H s → CX X.stack H s E e s' → X.xe e s'
section
variable {X:Cx} {CX:CXT} {k:Nat} {f C:Addr} {fd:FuncData} {ps:List Str} {sp:Sp} {dvs:List V} {ds:List Value} {E:XK} {x m:Str} {p pos apos:Pos} {e o:Expr} {es:List Expr} {ta:TE} {t:TA}
theorem run_fn {pins:List (Addr × Obj)} {σ:St} {H:Hp} {s:Shared} {Q:VK} {us:List Value} {vs:List V} (F:FnOk X.prog X.w X.K X.mg X.base CX k f fd ps sp) (hr:Room k X.A) (hb:Binds X.K fd ps ds) (hd:Vals dvs ds) (hx:Passes CX X E)
  (I:Inv X pins σ H s) (r:Vals vs us) (h:sp (vs ++ dvs) H Q E):wpAny (model X.prog X.w) X.A (call (.ref f) us) (EP X pins σ Q) X.xe s:=by
 have r2:Vals (vs ++ dvs) (us ++ ds):=r.append hd
 have hl:(us ++ ds).length = ps.length:=by rw [← r2.length]; exact F.len _ _ _ _ h
 refine wpAny_call (codeAny_mono (F.run X.A X.stack s H ⟨us,[]⟩ (us ++ ds) (vs ++ dvs) Q E hr I.env0 (hb s us I.kIn hl) r2 h) fun r s' hq=>?_)
 cases r with
 | error e=>exact hx pins σ H s e s' I hq
 | ok fl =>
  cases fl with
  | ret u=>exact I.after hq
  | next=>exact False.elim hq
  | brk=>exact False.elim hq
  | cont=>exact False.elim hq
theorem pe_call (F:FnOk X.prog X.w X.K X.mg X.base CX k f fd ps sp) (hr:Room k X.A) (hg:Gl X x) (hm:X.mg x = some (.ref f)) (hk:W.keepIn X.K (.ref f) = true) (hb:Binds X.K fd ps ds) (hd:Vals dvs ds) (hx:Passes CX X E)
  (ha:PA X (e :: es) t) (hdb:(x == ("__debug__" : Str)) = false:=by decide) (he:starEach (e :: es) X.env = (false,eval e X.env) :: starEach es X.env:=by rfl) (hpl:(backTo pos (starEach es X.env)).any (·.1) = false:=by rfl) :
  PE X (.Call (.Name x p) (e :: es) [] pos) (tCall sp dvs E t):=by
 intro pins s σ H Q I h
 refine wpAny_Call_Name_kw (ld_glob I hg hm ?_ hdb)
 refine W.callWith_K (h₀:=X.base) I.ok.mod.kin hk (thn (ha pos pins s σ H _ I h) fun us s1 ⟨vs,H1,I1,r,q⟩=>⟨I1.kIn,?_⟩) he hpl
 exact run_fn F hr hb hd hx I1 r q
end
section
variable {X:Cx} {CX:CXT} {k:Nat} {f C:Addr} {fd:FuncData} {ps ks:List Str} {sp:Sp} {E:XK} {x m:Str} {p pos apos kpos:Pos} {e o:Expr} {es:List Expr} {kws:List Keyword} {te ta:TE} {t tk:TA} {nm:Option Str}
variable {g:List Value → List Value → List Value} {gV:List V → List V → List V}
end
structure FnScope (N P:List Str) (sc:Scope):Prop where
 kind:sc.kind = .function
 co:sc.isCoroutine = false
 gen:sc.isGenerator = false
 nd:N.Nodup
 pre:N.take P.length = P
 par:∀ x ∈ P,sc.names.lookup x = some .local ∨ sc.names.lookup x = some .cell
 nofree:∀ y ∈ sc.names,y.2 ≠ .free
theorem bindL_out {kindOf:Str → Option NameKind} {x:Str}:∀ {binds:List (Str × Value)} {m:Str → Option Value},(∀ v,(x,v) ∉ binds) → bindL kindOf binds m x = m x
 | [],_,_=>rfl
 | (n,v) :: r,m,h=>by
  unfold bindL
  rw [bindL_out fun w hw=>h w (List.mem_cons_of_mem _ hw)]
  split
  ·have:x ≠ n:=by rintro rfl; exact h v List.mem_cons_self
   simp [this]
  ·rfl
theorem bindC_out {kindOf:Str → Option NameKind} {x:Str}:∀ {binds:List (Str × Value)} {m:Str → Option Value},(∀ v,(x,v) ∉ binds) → bindC kindOf binds m x = m x
 | [],_,_=>rfl
 | (n,v) :: r,m,h=>by
  unfold bindC
  rw [bindC_out fun w hw=>h w (List.mem_cons_of_mem _ hw)]
  split
  ·rfl
  ·have:x ≠ n:=by rintro rfl; exact h v List.mem_cons_self
   simp [this]
theorem bindL_get {kindOf:Str → Option NameKind} {x:Str} {v:Value}:∀ {P:List Str} {vs:List Value} {i:Nat} {m:Str → Option Value},P.Nodup → P[i]? = some x → vs[i]? = some v → kindOf x = some .local →
  bindL kindOf (P.zip vs) m x = some v
 | [],_,_,_,_,h,_,_=>by simp at h
 | _ :: _,[],_,_,_,_,h,_=>by simp at h
 | p :: P,w :: vs,0,m,nd,h1,h2,hk=>by
  simp at h1 h2; subst h1; subst h2
  show bindL kindOf ((p,w) :: P.zip vs) m p = _
  unfold bindL
  rw [bindL_out fun v hv=>(List.nodup_cons.mp nd).1 (List.of_mem_zip hv).1,if_pos hk]
  simp
 | p :: P,w :: vs,i + 1,m,nd,h1,h2,hk=>by
  show bindL kindOf ((p,w) :: P.zip vs) m x = _
  unfold bindL
  exact bindL_get (i:=i) (List.nodup_cons.mp nd).2 (by simpa using h1) (by simpa using h2) hk
theorem bindC_get {kindOf:Str → Option NameKind} {x:Str} {v:Value}:∀ {P:List Str} {vs:List Value} {i:Nat} {m:Str → Option Value},P.Nodup → P[i]? = some x → vs[i]? = some v → kindOf x ≠ some .local →
  bindC kindOf (P.zip vs) m x = some v
 | [],_,_,_,_,h,_,_=>by simp at h
 | _ :: _,[],_,_,_,_,h,_=>by simp at h
 | p :: P,w :: vs,0,m,nd,h1,h2,hk=>by
  simp at h1 h2; subst h1; subst h2
  show bindC kindOf ((p,w) :: P.zip vs) m p = _
  unfold bindC
  rw [bindC_out fun v hv=>(List.nodup_cons.mp nd).1 (List.of_mem_zip hv).1,if_neg hk]
  simp
 | p :: P,w :: vs,i + 1,m,nd,h1,h2,hk=>by
  show bindC kindOf ((p,w) :: P.zip vs) m x = _
  unfold bindC
  exact bindC_get (i:=i) (List.nodup_cons.mp nd).2 (by simpa using h1) (by simpa using h2) hk
noncomputable def start (N:List Str) (vs:List V):St:=vs.map some ++ List.replicate (N.length - vs.length) none
noncomputable def cxOf (CX:CXT) (P:Program) (w:World) (K:W.Frag) (mg:Str → Option Value) (base:Heap) (N:List Str) (qual:Str) (scope:Scope) (f:Addr) (cd:Value) (A:Around) (outer:List Env) (s:Shared) (H:Hp) (E:XK):Cx where
 prog:=P
 w:=w
 K:=K
 mg:=mg
 base:=base
 A:=A.deeper (envOfC qual scope s.heap.objs.size f cd)
 N:=N
 s₀:=s
 H₀:=H
 env:=envOfC qual scope s.heap.objs.size f cd
 outer:=outer
 stack:=envOfC qual scope s.heap.objs.size f cd :: outer
 ex:=[]
 calm:=true
 fn:=fun _=>true
 pn:=[]
 xe:=fun e s'=>wpAny (model P w) (A.deeper (envOfC qual scope s.heap.objs.size f cd)) (leaving (envOfC qual scope s.heap.objs.size f cd) e) (fun _ s''=>CX outer H s E e s'') (fun e' s''=>CX outer H s E e' s'') s'
theorem cell_has {sc:Scope} {n:Nat} {x:Str} (h:sc.names.lookup x = some .cell):∃ c,(cellsFrom n sc.names []).lookup x = some c:=by
 have q:=W.cellsFrom_some sc.names n [] (.inl h)
 exact Option.isSome_iff_exists.mp q
theorem inv_start {CX:CXT} {P:Program} {w:World} {K:W.Frag} {mg:Str → Option Value} {base:Heap} {N ps:List Str} {qual:Str} {scope:Scope} {f:Addr} {cd:Value} {A:Around} {outer:List Env} {s s1:Shared} {H:Hp} {E:XK} {us:List Value} {vs:List V}
  (S:FnScope N ps scope) (hd:A.handled = none) (e0:Env0 P w K mg base A outer s H) (hl:vs.length = ps.length) (r:Vals vs us)
  (x:InCallC s s.heap.objs.size (bindL (envOfC qual scope s.heap.objs.size f cd).kindOf (ps.zip us) fun _=>none) (cellsFrom (s.heap.objs.size + 1) scope.names []) (bindC (envOfC qual scope s.heap.objs.size f cd).kindOf (ps.zip us) fun _=>none) s1) :
  Inv (cxOf CX P w K mg base N qual scope f cd A outer s H E) [] (start N vs) H s1:=by
 have hpl:ps.length ≤ N.length:=by have:=congrArg List.length S.pre; rw [List.length_take] at this; omega
 obtain ⟨h1,tk,rfl,hk⟩:=x.done
 have noA:∀ b:Addr,b ∉ (cxOf CX P w K mg base N qual scope f cd A outer s H E).ex:=fun b z=>absurd (show b ∈ ([]:List Addr) from z) (by simp)
 refine ⟨⟨e0.mod,S.kind,rfl,rfl,Nat.le_refl _,fun y z c h1 h2=>?_,fun y hy=>?_,fun y c _ h=>?_,fun _=>hd,Around.frames_deeper e0.frames,.inr ⟨rfl,rfl⟩,fun b z=>absurd z (noA b),e0.bs,e0.bsz,fun b _ _=>noA b,fun b z=>absurd z (noA b),e0.funs,e0.frf⟩,
  rfl,e0.bare,Un.kept hk,⟨_,x.toInCall.ns,fun i y v h1 h2 h3=>?_⟩,fun y c h=>⟨_,x.cell y c h⟩,e0.hok.fresh (Nat.le_refl _),fun y c h=>?_,fun p hp=>absurd (show p ∈ ([]:List (Addr × Obj)) from hp) (by simp),e0.hok.kept hk,?_⟩
 ·exact name_of_addr x.apart (PySem.mem_of_lookup h1) (PySem.mem_of_lookup h2)
 ·have hy:scope.names.lookup y = some .cell ∨ scope.names.lookup y = some .free:=hy
  rcases hy with hy | hy
  ·exact cell_has hy
  ·exact absurd rfl (S.nofree _ (PySem.mem_of_lookup hy))
 ·exact Nat.le_of_lt (x.above y c (PySem.mem_of_lookup h))
 ·have hi:i < vs.length:=by
   unfold start at h2
   by_cases hi:i < vs.length
   ·exact hi
   ·rw [List.getElem?_append_right (by simpa using hi)] at h2
    rw [List.getElem?_replicate] at h2
    split at h2 <;> cases h2
  have ha:vs[i]? = some v:=by
   unfold start at h2
   rw [List.getElem?_append_left (by simpa using hi),List.getElem?_map] at h2
   cases e:vs[i]? with
   | none=>rw [e] at h2; cases h2
   | some a=>rw [e] at h2; cases h2; rfl
  obtain ⟨u,hu,rv⟩:=r.get ha
  have hp:ps[i]? = some y:=by
   rw [← S.pre,List.getElem?_take_of_lt (by omega)]; exact h1
  have ndP:ps.Nodup:=by rw [← S.pre]; exact S.nd.sublist (List.take_sublist _ _)
  refine ⟨u,rv,?_⟩
  rcases S.par y (List.mem_of_getElem? hp) with k | k
  ·exact .inl ⟨k,bindL_get ndP hp hu k⟩
  ·obtain ⟨c,e⟩:=cell_has (n:=s.heap.objs.size + 1) k
   refine .inr ⟨.inl k,c,e,?_⟩
   have q:=x.cell y c e
   rw [bindC_get ndP hp hu (by show scope.names.lookup y ≠ _; rw [k]; decide)] at q
   exact q
 ·exact e0.hok.fresh (Nat.le_of_lt (x.above y c (PySem.mem_of_lookup h)))
 ·unfold start
  show _ = N.length
  rw [List.length_append,List.length_map,List.length_replicate]
  omega
theorem fn_of {CX:CXT} {P:Program} {w:World} {K:W.Frag} {mg:Str → Option Value} {base:Heap} {k:Nat} {f:Addr} {name qual:Str} {params:Arguments} {body:List Stmt} {scope:Scope} {dV kV doc pm cdv ct oc:Value} {an od:Option Addr}
  {osl:Array (Option Value)} {N ps:List Str} {sp:Sp} (lk:K.lookup f = some ⟨oc,od,.func (W.fnOf name qual params body scope dV kV doc pm an cdv ct),osl⟩) (hcd:W.codeIn K cdv qual = true) (S:FnScope N ps scope)
  (len:∀ vs H Q E,sp vs H Q E → vs.length = ps.length)
  (hbody:∀ (A:Around) (outer:List Env) (s:Shared) (H:Hp) (vs:List V) (Q:VK) (E:XK),Room k (A.deeper (envOfC qual scope s.heap.objs.size f cdv)) → sp vs H Q E →
   ∃ t,PSs (cxOf CX P w K mg base N qual scope f cdv A outer s H E) body t ∧ t { nx:=fun _ H'=>Q .non H',rt:=Q } (start N vs) H) :
  FnOk P w K mg base CX (k + 1) f (W.fnOf name qual params body scope dV kV doc pm an cdv ct) ps sp:=by
 refine ⟨len,fun A outer s H args us vs Q E hr e0 hb r hsp=>?_⟩
 have hl:=len _ _ _ _ hsp
 have KX:K.In s.heap:=e0.mod.kin.keeps fun b o e=>(e0.bs b o e).1
 have lim:s.heap.NoLimit:=e0.mod.nolimit.keeps fun b o e=>(e0.bs b o e).1
 have hkind:∀ y ∈ ps.zip us,scope.names.lookup y.1 = some .local ∨ (scope.names.lookup y.1 = some .cell ∧ ((cellsFrom (s.heap.objs.size + 1) scope.names []).lookup y.1).isSome = true):=fun ⟨n,v⟩ hy=>by
  rcases S.par n (List.of_mem_zip hy).1 with q | q
  ·exact .inl q
  ·exact .inr ⟨q,W.cellsFrom_some _ _ _ (.inl q)⟩
 refine codeAny_call_function hr.depth (KX _ _ lk) rfl S.co S.gen rfl (W.codeRec_of KX hcd) (hb _ _ _ _ ?_)
 refine wpAny_newFunctionEnv_cells S.kind hkind fun env he s1 x=>?_
 subst he
 refine ⟨lim.keeps x.toInCall.keep,codeAny_func ?_⟩
 obtain ⟨t,ht,hq⟩:=hbody A outer s H vs Q E (hr.deeper _) hsp
 have I:Inv (cxOf CX P w K mg base N qual scope f cdv A outer s H E) [] (start N vs) H s1:=inv_start S hr.hd e0 hl r x
 refine wpAny_mono (ht [] s1 (start N vs) H _ I hq) (fun fl s' hs=>?_) fun e s' hs=>hs
 have fin:∀ {σ':St} {H':Hp} {v:V} {u:Value},Inv (cxOf CX P w K mg base N qual scope f cdv A outer s H E) [] σ' H' s' → RelV v u → Q v H' → CE outer P w H s Q u s' :=
  fun {σ' H' v u} J rv q=>⟨v,H',J.os,J.bare,J.base,J.hok,rv,q⟩
 cases fl with
 | ret u =>
  obtain ⟨v,σ',H',J,rv,q⟩:=hs
  exact fin J rv q
 | next =>
  obtain ⟨σ',H',J,q⟩:=hs
  exact fin (v:=V.non) (u:=Value.none) J rfl q
 | brk =>
  obtain ⟨_,_,_,q⟩:=hs
  exact False.elim q
 | cont =>
  obtain ⟨_,_,_,q⟩:=hs
  exact False.elim q
section
variable {X:Cx} {x:Str} {p pos:Pos} {e:Expr} {es:List Expr} {t:TA} {id T:String} {r:List V → Hp → VK → Prop}
noncomputable def tCB (r:List V → Hp → VK → Prop) (t:TA):TE:=fun σ H Q=>t σ H fun vs H1=>r vs H1 Q
theorem pe_callB (hc:CallR X (.builtin id) r) (hg:Gl X x) (hm:X.mg x = none) (hv:bootBuiltins x = some (.builtin id)) (ha:PA X (e :: es) t) (hn:x ≠ "__name__" := by decide) (hdb:(x == ("__debug__" : Str)) = false:=by decide)
  (he:starEach (e :: es) X.env = (false,eval e X.env) :: starEach es X.env:=by rfl) (hpl:(backTo pos (starEach es X.env)).any (·.1) = false:=by rfl):PE X (.Call (.Name x p) (e :: es) [] pos) (tCB r t):=by
 intro pins s σ H Q I h
 refine wpAny_Call_Name_kw (ld_blt I hg hm hv ?_ hn hdb)
 exact PyProof.Rows.callWith_builtin1 (thn (ha pos pins s σ H _ I h) fun us s1 ⟨vs,H1,I1,r1,q1⟩=>hc pins s1 σ H1 vs us Q I1 r1 q1) he hpl
theorem pe_callTy (hc:CallR X (.type T) r) (hg:Gl X x) (hm:X.mg x = none) (hv:bootBuiltins x = some (.type T)) (ha:PA X (e :: es) t) (hn:x ≠ "__name__" := by decide) (hdb:(x == ("__debug__" : Str)) = false:=by decide)
  (he:starEach (e :: es) X.env = (false,eval e X.env) :: starEach es X.env:=by rfl) (hpl:(backTo pos (starEach es X.env)).any (·.1) = false:=by rfl):PE X (.Call (.Name x p) (e :: es) [] pos) (tCB r t):=by
 intro pins s σ H Q I h
 refine wpAny_Call_Name_kw (ld_blt I hg hm hv ?_ hn hdb)
 exact PyProof.Rows.callWith_type1 (thn (ha pos pins s σ H _ I h) fun us s1 ⟨vs,H1,I1,r1,q1⟩=>hc pins s1 σ H1 vs us Q I1 r1 q1) he hpl
end
end L2
namespace HT
open PySem PyProof.Rows
section
open PySem.SeqAt
open PySem.AutoSeq1 (wpAny_loadPart')
open PySem.MeetsSeq PySem.MeetsSeq2 PySem.MeetsSeq3
end
section
variable {prog:Program} {w:World} {A:Around} {E:Value → Shared → Prop} {s:Shared}
theorem cat_tup {t b:Addr} {vs ws:List Value} {Q:Value → Shared → Prop} (ht:IsTup s.heap t vs.toArray) (hb:IsTup s.heap b ws.toArray) (hv:vs ≠ [])
  (h1:ws = [] → Q (.ref t) s) (h2:ws ≠ [] → Q (.ref s.heap.objs.size) { s with heap:=s.heap.push { cls:=.type "tuple",data:=.seq (vs ++ ws).toArray } })
  (hsz:vs.length + ws.length ≤ sizeLine):wpAny (model prog w) A (binaryOp .Add (.ref t) (.ref b)) Q E s:=by
 obtain ⟨⟨cls,dd,data,sl⟩,ho,hc,n,hd⟩:=id ht
 obtain ⟨⟨cls2,dd2,data2,sl2⟩,ho2,hc2,n2,hd2⟩:=id hb
 simp only at hc hd hc2 hd2
 subst hc hd hc2 hd2
 have e:vs.toArray ++ ws.toArray = (vs ++ ws).toArray:=by simp
 by_cases hw:ws = []
 ·exact concat_meets ⟨_,ho,rfl⟩ ⟨_,ho2,rfl⟩ noFill_tuple_add seq_tuple_add PySem.F.slot_tuple_add PySem.F.entry_tuple_add (PySem.F.args_tuple_add_2 _ _)
   (tuple_addW1 t b vs.toArray ws.toArray n n2 dd dd2 sl sl2 (by simpa using hv) (by simp [hw])) ⟨ho,ho2,h1 hw⟩
 ·refine concat_meets ⟨_,ho,rfl⟩ ⟨_,ho2,rfl⟩ noFill_tuple_add seq_tuple_add PySem.F.slot_tuple_add PySem.F.entry_tuple_add (PySem.F.args_tuple_add_2 _ _)
   (tuple_addW2 t b vs.toArray ws.toArray n n2 dd dd2 sl sl2 (by simpa using hv) (by simpa using hw) (by rw [List.size_toArray,List.size_toArray]; exact hsz)) ⟨ho,ho2,?_⟩
  rw [e]
  exact h2 hw
noncomputable def sIx (n d:Nat):Option Int → Nat
 | none=>d
 | some v=>if v < 0 then (v + (n:Int)).toNat else min v.toNat n
theorem sIx_le (n d:Nat) (hd:d ≤ n) (o:Option Int):sIx n d o ≤ n:=by
 cases o with
 | none=>exact hd
 | some v =>
  show (if v < 0 then (v + (n:Int)).toNat else min v.toNat n) ≤ n
  by_cases hv:v < 0
  ·rw [if_pos hv]; omega
  ·rw [if_neg hv]; exact Nat.min_le_right _ _
theorem clip_eq (v:Int) (n d:Nat):(if v < 0 then max (v + (n:Int)) 0 else min v (n:Int)) = ((sIx n d (some v):Nat):Int):=by
 show (if v < 0 then max (v + (n:Int)) 0 else min v (n:Int)) = (((if v < 0 then (v + (n:Int)).toNat else min v.toNat n):Nat):Int)
 by_cases hv:v < 0
 ·simp only [if_pos hv]; omega
 ·simp only [if_neg hv]; omega
theorem adjust_gen (lo hi:Option Int) (n:Nat):Builtin.Slice.sliceAdjust lo hi 1 (n:Int) = (((sIx n 0 lo:Nat):Int),((sIx n n hi:Nat):Int)):=by
 have h1:¬ ((1:Int) < 0):=by omega
 unfold Builtin.Slice.sliceAdjust
 simp only [h1,if_false]
 refine Prod.ext ?_ ?_
 ·cases lo with
  | none=>rfl
  | some v=>exact clip_eq v n 0
 ·cases hi with
  | none=>rfl
  | some v=>exact clip_eq v n n
theorem places_gen (i j:Nat):Builtin.Slice.slicePlaces (i:Int) (j:Int) 1 = j - i:=by
 unfold Builtin.Slice.slicePlaces
 have h1:(1:Int) > 0:=by omega
 simp only [h1,if_true,Int.ediv_one]
 split <;> omega
theorem slicePart_ {v:Value} {o:Option Int} {Q:Option Int → Shared → Prop} (p:IsPart v o) (h:Q o s):wpAny (model prog w) A (Builtin.Slice.slicePartIndex v) Q E s:=by
 cases p with
 | none=>exact slicePart_none h
 | int i t=>exact slicePart_int h
theorem sliceApplied_gen {sl:Addr} {vl vu:Value} {lo hi:Option Int} {n:Nat} {Q:Int × Int × Nat → Shared → Prop} (hs:s.heap.IsSliceOf sl vl vu .none) (pl:IsPart vl lo) (pu:IsPart vu hi)
  (h:Q (((sIx n 0 lo:Nat):Int),1,sIx n n hi - sIx n 0 lo) s):wpAny (model prog w) A (Builtin.Slice.sliceApplied (.ref sl) (pure (n:Int))) Q E s:=by
 obtain ⟨os,hos,hcs,hds⟩:=id hs
 unfold Builtin.Slice.sliceApplied Builtin.Slice.sliceFields
 refine wpAny_bind (wpAny_bind (wpAny_field hos hds (x:=vl) rfl (wpAny_bind (wpAny_field hos hds (x:=vu) rfl (wpAny_bind (wpAny_field hos hds (x:=.none) rfl (wpAny_pure ?_)))))))
 refine wpAny_bind (slicePart_none ?_)
 show wpAny _ _ (if ((1:Int) == 0) = true then _ else _) _ _ s
 rw [if_neg (by decide)]
 refine wpAny_bind (slicePart_ pl (wpAny_bind (slicePart_ pu (wpAny_bind (wpAny_pure ?_)))))
 show wpAny _ _ (match Builtin.Slice.sliceAdjust lo hi 1 (n:Int) with | (lo,hi)=>pure (lo,(1:Int),Builtin.Slice.slicePlaces lo hi 1)) _ _ s
 rw [adjust_gen lo hi n]
 show wpAny _ _ (pure (((sIx n 0 lo:Nat):Int),(1:Int),Builtin.Slice.slicePlaces ((sIx n 0 lo:Nat):Int) ((sIx n n hi:Nat):Int) 1)) _ _ s
 rw [places_gen]
 exact wpAny_pure h
theorem pick_gen (xs:Array Value) (i k:Nat):((List.range k).filterMap fun (m:Nat)=>xs[((i:Int) + (m:Int) * 1).toNat]?).toArray = ((xs.toList.drop i).take k).toArray:=by
 have e:(fun (m:Nat)=>xs[((i:Int) + (m:Int) * 1).toNat]?) = fun m=>xs[i + m]?:=by
  funext m
  have:((i:Int) + (m:Int) * 1).toNat = i + m:=by omega
  rw [this]
 rw [e]
 have:=pick_run xs i k
 rw [List.filterMap_map] at this
 have e2:((fun x=>xs[x]?) ∘ fun x=>i + x) = fun m=>xs[i + m]?:=rfl
 rw [e2] at this
 rw [this]
theorem getItem_tuple_cut {t sl:Addr} {items:Array Value} {vl vu:Value} {lo hi:Option Int} {Q:Value → Shared → Prop} (ht:IsTup s.heap t items) (hs:s.heap.IsSliceOf sl vl vu .none) (pl:IsPart vl lo) (pu:IsPart vu hi)
  (hw:¬ (sIx items.size 0 lo = 0 ∧ sIx items.size items.size hi = items.size))
  (h:Q (.ref s.heap.objs.size) { s with heap:=s.heap.push { cls:=.type "tuple",data:=.seq ((items.toList.drop (sIx items.size 0 lo)).take (sIx items.size items.size hi - sIx items.size 0 lo)).toArray } })
  (hsz:items.size ≤ sizeLine):wpAny (model prog w) A (getItem (.ref t) (.ref sl)) Q E s:=by
 have htake:sizeOk (.seq ((items.toList.drop (sIx items.size 0 lo)).take (sIx items.size items.size hi - sIx items.size 0 lo)).toArray):=by
  show ((items.toList.drop (sIx items.size 0 lo)).take (sIx items.size items.size hi - sIx items.size 0 lo)).toArray.size ≤ sizeLine
  rw [List.size_toArray,List.length_take,List.length_drop,Array.length_toList]
  omega
 have hj:sIx items.size items.size hi ≤ items.size:=sIx_le _ _ (Nat.le_refl _) hi
 obtain ⟨os,hos,hcs,hds⟩:=id hs
 have hTs:s.TypeIs (.ref sl) "slice" := ⟨os,hos,hcs⟩
 unfold getItem
 try with_reducible refine wpAny_holding ?_
 first | refine wpAny_bind (wpAny_pure ?_) | skip
 refine wpAny_bind (wpAny_sequenceKey ht.typeIs (by decide) ?_)
 refine wpAny_bind (wpAny_callSpecial?_slot (name:=Str.ofString "__getitem__") ht.typeIs PyProof.Rows.slot_tuple_getitem
  (wpAny_call_entry PyProof.Rows.slot_tuple_getitem ht.typeIs entry_tuple_getitem ?_ (args_tuple_getitem _ _)))
 show wpAny _ _ (Builtin.Tuple.tupleItemsOf (.ref t) >>= _) _ _ s
 refine wpAny_bind (tupleItemsOf_ ht ?_)
 refine wpAny_bind (wpAny_typeOf hTs ?_)
 rw [if_pos (by decide)]
 refine wpAny_bind (sliceApplied_gen hs pl pu ?_)
 have hno:¬ ((((sIx items.size 0 lo:Nat):Int) == 0 && (1:Int) == 1 && (sIx items.size items.size hi - sIx items.size 0 lo) == items.size) = true):=by
  intro q
  rw [Bool.and_eq_true,Bool.and_eq_true] at q
  have q1:((sIx items.size 0 lo:Nat):Int) = 0:=eq_of_beq q.1.1
  have q2:sIx items.size items.size hi - sIx items.size 0 lo = items.size:=eq_of_beq q.2
  exact hw ⟨by omega,by omega⟩
 show wpAny _ _ (if (((sIx items.size 0 lo:Nat):Int) == 0 && (1:Int) == 1 && (sIx items.size items.size hi - sIx items.size 0 lo) == items.size) = true then _ else _) _ _ s
 rw [if_neg hno,pick_gen]
 first
  | exact wpAny_bind (m:=Builtin.Tuple.tupleExact _) (wpAny_newObj_type (wpAny_pure ⟨_,rfl,wpAny_pure h⟩) htake)
  | exact wpAny_bind (m:=Builtin.Tuple.tupleExact _) (wpAny_newObj_type (wpAny_bind (wpAny_pure (wpAny_pure ⟨_,rfl,wpAny_pure h⟩))) htake)
  | exact wpAny_bind (wpAny_bind (m:=Builtin.Tuple.tupleExact _) (wpAny_newObj_type (wpAny_pure (wpAny_pure ⟨_,rfl,wpAny_pure h⟩)) htake))
  | exact wpAny_bind (wpAny_bind (m:=Builtin.Tuple.tupleExact _) (wpAny_newObj_type (wpAny_pure ⟨_,rfl,wpAny_pure h⟩) htake))
end
end HT
namespace L2
open PySem PySem.Spec PyProof.Rows
noncomputable abbrev TO:=St → Hp → (Option Int → Hp → Prop) → Prop
noncomputable def PO (X:Cx) (e:Option Expr) (t:TO):Prop :=
 ∀ (pins:List (Addr × Obj)) (s:Shared) (σ:St) (H:Hp) (Q:Option Int → Hp → Prop),Inv X pins σ H s → t σ H Q →
  wpAny (model X.prog X.w) X.A (evalPart e X.env) (fun u s'=>∃ o H',Inv X pins σ H' s' ∧ IsPart u o ∧ Q o H') X.xe s
noncomputable def tNoPart:TO:=fun _ H Q=>Q none H
noncomputable def tPart (t:TE):TO:=fun σ H Q=>t σ H fun x H1=>∃ i,x = .int i ∧ Q (some i) H1
section
variable {X:Cx} {e:Expr} {te:TE} {lo hi:Option Expr} {tl th:TO} {pos p2:Pos}
theorem po_none:PO X none tNoPart:=by
 intro pins s σ H Q I h
 rw [evalPart_none]
 exact wpAny_pure ⟨none,H,I,.none,h⟩
theorem po_some (h:PE X e te):PO X (some e) (tPart te):=by
 intro pins s σ H Q I hw
 rw [evalPart_some]
 refine thn (h pins s σ H _ I hw) fun u s1 ⟨x,H1,I1,r1,q1⟩=>?_
 obtain ⟨i,rfl,q⟩:=q1
 obtain ⟨t,rfl⟩:=r1
 exact ⟨some i,H1,I1,.int i t,q⟩
noncomputable def SlR (X:Cx) (r:V → Option Int → Option Int → Hp → VK → Prop):Prop :=
 ∀ (pins:List (Addr × Obj)) (s:Shared) (σ:St) (H:Hp) (x:V) (v vl vu:Value) (lo hi:Option Int) (sl:Addr) (Q:VK),Inv X pins σ H s → RelV x v → s.heap.IsSliceOf sl vl vu .none → IsPart vl lo → IsPart vu hi → r x lo hi H Q →
  ∃ T id,typeLookup (.type T) "__getitem__" = pure (some (.builtin id)) ∧ s.TypeIs v T ∧ wpAny (model X.prog X.w) X.A (getItem v (.ref sl)) (EP X pins σ Q) X.xe s
theorem SlR.or {r r':V → Option Int → Option Int → Hp → VK → Prop} (h:SlR X r) (h':SlR X r'):SlR X (fun x lo hi H Q=>r x lo hi H Q ∨ r' x lo hi H Q):=by
 intro pins s σ H x v vl vu lo hi sl Q I rx hs pl pu q
 rcases q with q | q
 ·exact h pins s σ H x v vl vu lo hi sl Q I rx hs pl pu q
 ·exact h' pins s σ H x v vl vu lo hi sl Q I rx hs pl pu q
noncomputable def tSl (r:V → Option Int → Option Int → Hp → VK → Prop) (te:TE) (tl th:TO):TE:=fun σ H Q=>te σ H fun x H1=>tl σ H1 fun l H2=>th σ H2 fun u H3=>r x l u H3 Q
theorem pe_slice {r:V → Option Int → Option Int → Hp → VK → Prop} (hr:SlR X r) (he:PE X e te) (hl:PO X lo tl) (hu:PO X hi th):PE X (.Subscript e (.Slice lo hi none p2) pos) (tSl r te tl th):=by
 intro pins s σ H Q I h
 refine Subscript_ (thn (he pins s σ H _ I h) fun v s1 ⟨x,H1,I1,r1,q1⟩=>?_)
 refine wpAny_Slice (thn (hl pins s1 σ H1 _ I1 q1) fun vl s2 ⟨l,H2,I2,pl,q2⟩=>thn (hu pins s2 σ H2 _ I2 q2) fun vu s3 ⟨u,H3,I3,pu,q3⟩=>?_)
 rw [evalPart_none]
 refine wpAny_pure ?_
 have I4:Inv X pins σ H3 { s3 with heap:=s3.heap.push { cls:=.type "slice",data:=.fields #[vl,vu,.none] } }:=I3.kept (t':=s3.toks) fun b ob q=>Heap.get?_push_of_some _ q
 obtain ⟨T,id,hT,ht,hg⟩:=hr pins { s3 with heap:=s3.heap.push { cls:=.type "slice",data:=.fields #[vl,vu,.none] } } σ H3 x v vl vu l u s3.heap.objs.size Q I4 r1 (Heap.IsSliceOf.new ..) pl pu q3
 show wpAny (model X.prog X.w) X.A (subscriptTail e (.Slice lo hi none p2) v (.ref s3.heap.objs.size)) (EP X pins σ Q) X.xe { s3 with heap:=s3.heap.push { cls:=.type "slice",data:=.fields #[vl,vu,.none] } }
 exact tail_any (ops:=[.ref s3.heap.objs.size,v]) ht hT hg (by with_unfolding_all rfl)
noncomputable def cutV (xs:List V) (lo hi:Option Int):List V:=(xs.drop (HT.sIx xs.length 0 lo)).take (HT.sIx xs.length xs.length hi - HT.sIx xs.length 0 lo)
theorem cutV_length (xs:List V) (lo hi:Option Int):(cutV xs lo hi).length ≤ xs.length:=by
 unfold cutV
 rw [List.length_take,List.length_drop]
 omega
noncomputable def rSlT (K:W.Frag):V → Option Int → Option Int → Hp → VK → Prop:=fun x lo hi H Q=>∃ a xs,x = .ref a ∧ SqT K H a xs ∧
 ¬ (HT.sIx xs.length 0 lo = 0 ∧ HT.sIx xs.length xs.length hi = xs.length) ∧ ∀ p,H p = none → Q (.ref p) (upd H p (.tup (cutV xs lo hi)))
theorem sl_tup:SlR X (rSlT X.K):=by
 intro pins s σ H x v vl vu lo hi sl Q I rx hs pl pu h
 obtain ⟨a,xs,rfl,hx,hw,q⟩:=h
 cases rx
 obtain ⟨its,r,ht,hz⟩:=I.tuple hx
 have hlen:its.toArray.size = xs.length:=by rw [List.size_toArray]; exact r.length.symm
 refine ⟨"tuple",_,PyProof.Rows.slot_tuple_getitem.lookup,ht.typeIs,?_⟩
 refine HT.getItem_tuple_cut ht hs pl pu (by rw [hlen]; exact hw) ?_ (by rw [hlen]; exact hz)
 rw [hlen]
 refine ⟨.ref s.heap.objs.size,_,I.laid (t':=s.toks) (o:=.tup (cutV xs lo hi)) (fun b ob q=>Heap.get?_push_of_some _ q) (Nat.le_refl _) ?_,rfl,q _ (I.hok.fresh (Nat.le_refl _))⟩
 exact ⟨Nat.le_trans (cutV_length xs lo hi) hz,_,(r.drop (HT.sIx xs.length 0 lo)).take (HT.sIx xs.length xs.length hi - HT.sIx xs.length 0 lo),IsTupN.new _ _⟩
noncomputable def rCatT (K:W.Frag):R2:=fun x y H Q=>∃ a b xs ys,x = .ref a ∧ y = .ref b ∧ SqT K H a xs ∧ SqT K H b ys ∧ xs ≠ [] ∧ xs.length + ys.length ≤ sizeLine ∧
 (ys = [] → Q (.ref a) H) ∧ (ys ≠ [] → ∀ p,H p = none → Q (.ref p) (upd H p (.tup (xs ++ ys))))
theorem Vals.nil_iff {xs:List V} {us:List Value} (r:Vals xs us):us = [] ↔ xs = []:=by
 cases r with
 | nil=>simp
 | cons _ _=>simp
theorem op_catT:OpR X (binaryOp .Add) (rCatT X.K):=by
 intro pins s σ H x y v u Q I rx ry h
 obtain ⟨a,b,xs,ys,rfl,rfl,ha,hb,hx,hz,q1,q2⟩:=h
 cases rx
 cases ry
 obtain ⟨its,r1,p1,_⟩:=I.tuple ha
 obtain ⟨its2,r2,p2,_⟩:=I.tuple hb
 refine HT.cat_tup p1 p2 (fun z=>hx (r1.nil_iff.mp z)) (fun z=>⟨.ref a,H,I,rfl,q1 (r2.nil_iff.mp z)⟩) (fun z=>?_) (by rw [← r1.length,← r2.length]; exact hz)
 refine ⟨.ref s.heap.objs.size,_,I.laid (t':=s.toks) (o:=.tup (xs ++ ys)) (fun b ob q=>Heap.get?_push_of_some _ q) (Nat.le_refl _) ?_,rfl,q2 (fun w=>z (r2.nil_iff.mpr w)) _ (I.hok.fresh (Nat.le_refl _))⟩
 exact ⟨by rw [List.length_append]; exact hz,_,r1.append r2,IsTupN.new _ _⟩
end
noncomputable def ixN (n:Nat) (i:Int):Option Nat:=if 0 ≤ i then (if i < n then some i.toNat else none) else if -(n:Int) ≤ i then some (i + n).toNat else none
noncomputable def atI {α:Type} (xs:List α) (i:Int):Option α:=(ixN xs.length i).bind fun j=>xs[j]?
theorem ixN_seq {n:Nat} {i:Int} {j:Nat} (h:ixN n i = some j):seqIndex? i n = some j ∧ j < n ∧ -(n:Int) ≤ i ∧ i < n:=by
 unfold ixN at h
 by_cases h0:0 ≤ i
 ·rw [if_pos h0] at h
  by_cases h1:i < n
  ·rw [if_pos h1] at h
   have e:i.toNat = j:=Option.some.inj h
   exact ⟨by rw [seqIndex_of h0 h1,e],by omega,by omega,h1⟩
  ·rw [if_neg h1] at h; cases h
 ·rw [if_neg h0] at h
  by_cases h1:-(n:Int) ≤ i
  ·rw [if_pos h1] at h
   have e:(i + n).toNat = j:=Option.some.inj h
   exact ⟨by rw [seqIndex_neg (by omega) h1,e],by omega,h1,by omega⟩
  ·rw [if_neg h1] at h; cases h
theorem atI_get {α:Type} {xs:List α} {i:Int} {v:α} (h:atI xs i = some v):∃ j,seqIndex? i xs.length = some j ∧ xs[j]? = some v ∧ j < xs.length ∧ -(xs.length:Int) ≤ i ∧ i < xs.length:=by
 unfold atI at h
 cases e:ixN xs.length i with
 | none=>rw [e] at h; cases h
 | some j =>
  rw [e] at h
  obtain ⟨h1,h2,h3,h4⟩:=ixN_seq e
  exact ⟨j,h1,h,h2,h3,h4⟩
noncomputable def PlainIx (b:Expr):Prop:=∀ o i,subscripted b false o i = operate [o,i] (getItem o i)
noncomputable def IxR (X:Cx) (r:R2):Prop :=
 ∀ (value slice:Expr) (pins:List (Addr × Obj)) (s:Shared) (σ:St) (H:Hp) (x y:V) (v u:Value) (Q:VK),Inv X pins σ H s → RelV x v → RelV y u → r x y H Q →
  subscripted slice false v u = operate [v,u] (getItem v u) → wpAny (model X.prog X.w) X.A (subscriptTail value slice v u) (EP X pins σ Q) X.xe s
noncomputable def MtR (X:Cx) (id:String) (r:V → List V → Hp → VK → Prop):Prop :=
 ∀ (pins:List (Addr × Obj)) (s:Shared) (σ:St) (H:Hp) (x:V) (xs:List V) (v:Value) (us:List Value) (Q:VK),Inv X pins σ H s → RelV x v → Vals xs us → r x xs H Q →
  wpAny (model X.prog X.w) X.A (call (.builtin id) (v :: us)) (EP X pins σ Q) X.xe s
section
variable {X:Cx} {a b:Expr} {ta tb:TE} {pos:Pos}
theorem IxR.or {r r':R2} (h:IxR X r) (h':IxR X r'):IxR X (fun x y H Q=>r x y H Q ∨ r' x y H Q):=by
 intro value slice pins s σ H x y v u Q I rx ry q hs
 rcases q with q | q
 ·exact h value slice pins s σ H x y v u Q I rx ry q hs
 ·exact h' value slice pins s σ H x y v u Q I rx ry q hs
theorem pe_ix {r:R2} (hr:IxR X r) (ha:PE X a ta) (hb:PE X b tb) (hs:PlainIx b):PE X (.Subscript a b pos) (tOp r ta tb):=by
 intro pins s σ H Q I h
 exact Subscript_ (binT ha hb I h fun v u s2 x y H2 I2 rx ry q=>hr a b pins s2 σ H2 x y v u Q I2 rx ry q (hs _ _))
noncomputable def rIxL (K:W.Frag):R2:=fun x y H Q=>∃ p xs i v,x = .ref p ∧ y = .int i ∧ SqL K H p xs ∧ atI xs i = some v ∧ Q v H
noncomputable def rIxT (K:W.Frag):R2:=fun x y H Q=>∃ p xs i v,x = .ref p ∧ y = .int i ∧ SqT K H p xs ∧ atI xs i = some v ∧ Q v H
noncomputable def rIxS:R2:=fun x y H Q=>∃ z i c,x = .str z ∧ y = .int i ∧ z.length ≤ sizeLine ∧ atI z.cps.toList i = some c ∧ Q (.str ⟨#[c]⟩) H
theorem ix_list:IxR X (rIxL X.K):=by
 intro value slice pins s σ H x y v u Q I rx ry h hs
 obtain ⟨p,xs,i,z,rfl,rfl,hq,he,q⟩:=h
 cases rx
 obtain ⟨t,rfl⟩:=ry
 obtain ⟨its,r,pl,hz⟩:=I.list hq
 obtain ⟨j,h1,h2,h3,h4,h5⟩:=atI_get he
 obtain ⟨w,ew,rw'⟩:=r.get h2
 have hl:=r.length
 have hn:=line63
 have fin:EP X pins σ Q w s:=⟨z,H,I,rw',q⟩
 by_cases h0:0 ≤ i
 ·have hj:i.toNat = j:=by
   rw [seqIndex_of h0 h5] at h1
   exact Option.some.inj h1
  exact item_listR pl.isList h0 (by omega) (by rw [hj]; simpa using ew) fin hs
 ·have hj:(i + (its.toArray.size:Int)).toNat = j:=by
   rw [seqIndex_neg (by omega) h4] at h1
   rw [List.size_toArray,← hl]
   exact Option.some.inj h1
  exact subscriptTail_builtinR (x:=w) pl.isList.typeIs slot_list_getitem.lookup
   (wpAny_getItem_list_neg (Q:=fun r s'=>r = w ∧ EP X pins σ Q r s') pl.isList (by omega) (by rw [List.size_toArray] <;> omega) (by omega) (by rw [hj]; simpa using ew) ⟨rfl,fin⟩) hs
theorem ix_tup:IxR X (rIxT X.K):=by
 intro value slice pins s σ H x y v u Q I rx ry h hs
 obtain ⟨p,xs,i,z,rfl,rfl,hq,he,q⟩:=h
 cases rx
 obtain ⟨t,rfl⟩:=ry
 obtain ⟨its,r,pl,hz⟩:=I.tuple hq
 obtain ⟨j,h1,h2,h3,h4,h5⟩:=atI_get he
 obtain ⟨w,ew,rw'⟩:=r.get h2
 have hl:=r.length
 have hn:=line63
 have fin:EP X pins σ Q w s:=⟨z,H,I,rw',q⟩
 exact subscriptTail_builtinR (x:=w) pl.typeIs slot_tuple_getitem.lookup
  (getItem_tuple (j:=j) (Q:=fun r s'=>r = w ∧ EP X pins σ Q r s') pl (by omega) (by omega) (by rw [List.size_toArray,← hl]; exact h1) (by simpa using ew) ⟨rfl,fin⟩) hs
theorem ix_str:IxR X rIxS:=by
 intro value slice pins s σ H x y v u Q I rx ry h hs
 obtain ⟨z,i,c,rfl,rfl,hz,he,q⟩:=h
 obtain ⟨t,rfl⟩:=rx
 obtain ⟨t',rfl⟩:=ry
 obtain ⟨j,h1,h2,h3,h4,h5⟩:=atI_get he
 have hl:z.cps.toList.length = z.length:=by simp [Str.length]
 rw [hl] at h1 h4 h5
 have hn:=line63
 exact tail_any (typeIs_str s z t) slot_str_getitem.lookup (getItem_str (c:=c) (by
  have e1:decide (i < -(2 ^ 63:Int)) = false:=decide_eq_false (by omega)
  have e2:decide (i ≥ 2 ^ 63) = false:=decide_eq_false (by omega)
  rw [e1,e2,Bool.or_false]) (by rw [h1]; simpa using h2) ⟨.str ⟨#[c]⟩,H,I.tok _,⟨_,rfl⟩,q⟩) hs
noncomputable def rIx (K:W.Frag):R2:=fun x y H Q=>rIxL K x y H Q ∨ rIxT K x y H Q ∨ rIxS x y H Q
theorem ix_seq:IxR X (rIx X.K):=ix_list.or (ix_tup.or ix_str)
theorem slice_bounds (lo hi:Option Int) (n:Nat):(sliceBounds lo hi none n).1 = ((HT.sIx n 0 lo:Nat):Int) ∧ (sliceBounds lo hi none n).2.1 = ((HT.sIx n n hi:Nat):Int) ∧ (sliceBounds lo hi none n).2.2 = 1:=by
 refine ⟨?_,?_,rfl⟩
 ·cases lo with
  | none=>simp [sliceBounds,HT.sIx]
  | some i =>
   simp only [sliceBounds,HT.sIx,Option.getD_none,show (1:Int) > 0 by decide,if_true]
   by_cases h:i < 0
   ·simp only [h,if_true] <;> omega
   ·simp only [h,if_false] <;> omega
 ·cases hi with
  | none=>simp [sliceBounds,HT.sIx]
  | some i =>
   simp only [sliceBounds,HT.sIx,Option.getD_none,show (1:Int) > 0 by decide,if_true]
   by_cases h:i < 0
   ·simp only [h,if_true] <;> omega
   ·simp only [h,if_false] <;> omega
theorem slicePick_cut (its:List Value) (lo hi:Option Int):slicePick its.toArray lo hi none = ((its.drop (HT.sIx its.length 0 lo)).take (HT.sIx its.length its.length hi - HT.sIx its.length 0 lo)).toArray:=by
 obtain ⟨h1,h2,h3⟩:=slice_bounds lo hi its.toArray.size
 unfold slicePick
 rw [h1,h2,h3]
 simp only [sliceRange_one,pick_run,List.size_toArray] <;> rfl
noncomputable def rSlL (K:W.Frag):V → Option Int → Option Int → Hp → VK → Prop:=fun x lo hi H Q=>∃ a xs,x = .ref a ∧ SqL K H a xs ∧ ∀ p,H p = none → Q (.ref p) (upd H p (.lst (cutV xs lo hi)))
theorem sl_list:SlR X (rSlL X.K):=by
 intro pins s σ H x v vl vu lo hi sl Q I rx hs pl pu h
 obtain ⟨a,xs,rfl,hx,q⟩:=h
 cases rx
 obtain ⟨its,r,ht,hz⟩:=I.list hx
 have hlen:=r.length
 refine ⟨"list",_,slot_list_getitem.lookup,ht.isList.typeIs,?_⟩
 refine wpAny_getItem_list_slice ht.isList hs pl pu .none (by simp) ?_ (by rw [List.size_toArray] <;> omega)
 rw [slicePick_cut,← hlen]
 refine ⟨.ref s.heap.objs.size,_,I.laid (t':=s.toks) (o:=.lst (cutV xs lo hi)) (fun b ob q=>Heap.get?_push_of_some _ q) (Nat.le_refl _) ?_,rfl,q _ (I.hok.fresh (Nat.le_refl _))⟩
 exact ⟨Nat.le_trans (cutV_length xs lo hi) hz,_,0,(r.drop (HT.sIx xs.length 0 lo)).take (HT.sIx xs.length xs.length hi - HT.sIx xs.length 0 lo),Heap.get?_push_size _ rfl⟩
noncomputable def flatV:V → Bool
 | .non=>true
 | .bl _=>true
 | .int _=>true
 | .str _=>true
 | _=>false
noncomputable def eqV:V → V → Bool
 | .non,.non=>true
 | .bl a,.bl b=>a == b
 | .bl a,.int b=>(if a then 1 else 0) == b
 | .int a,.bl b=>a == (if b then 1 else 0)
 | .int a,.int b=>a == b
 | .str a,.str b=>a == b
 | _,_=>false
theorem eqAt_V {A:Around} {s:Shared} {y x:V} {u v:Value} (ry:RelV y u) (rx:RelV x v) (fy:flatV y = true) (fx:flatV x = true):SeqAt.EqAt A s u v (eqV y x):=by
 cases y with
 | non =>
  cases ry
  cases x with
  | non=>cases rx; exact SeqAt.EqAt.same _
  | bl b=>cases rx; exact SeqAt.EqAt.none_bool b
  | int b=>obtain ⟨t,rfl⟩:=rx; exact SeqAt.EqAt.none_int b t
  | str b=>obtain ⟨t,rfl⟩:=rx; exact SeqAt.EqAt.none_str b t
  | _=>exact absurd (show false = true from fx) Bool.false_ne_true
 | bl a =>
  cases ry
  cases x with
  | non=>cases rx; exact SeqAt.EqAt.bool_none a
  | bl b=>cases rx; exact SeqAt.EqAt.bool_bool a b
  | int b=>obtain ⟨t,rfl⟩:=rx; exact SeqAt.EqAt.bool_int a b t
  | str b=>obtain ⟨t,rfl⟩:=rx; exact SeqAt.EqAt.bool_str a b t
  | _=>exact absurd (show false = true from fx) Bool.false_ne_true
 | int a =>
  obtain ⟨t',rfl⟩:=ry
  cases x with
  | non=>cases rx; exact SeqAt.EqAt.int_none a t'
  | bl b=>cases rx; exact SeqAt.EqAt.int_bool a t' b
  | int b=>obtain ⟨t,rfl⟩:=rx; exact SeqAt.EqAt.int_int a t' b t
  | str b=>obtain ⟨t,rfl⟩:=rx; exact SeqAt.EqAt.int_str a t' b t
  | _=>exact absurd (show false = true from fx) Bool.false_ne_true
 | str a =>
  obtain ⟨t',rfl⟩:=ry
  cases x with
  | non=>cases rx; exact SeqAt.EqAt.str_none a t'
  | bl b=>cases rx; exact SeqAt.EqAt.str_bool a t' b
  | int b=>obtain ⟨t,rfl⟩:=rx; exact SeqAt.EqAt.str_int a t' b t
  | str b=>obtain ⟨t,rfl⟩:=rx; exact SeqAt.EqAt.str_str a t' b t
  | _=>exact absurd (show false = true from fx) Bool.false_ne_true
 | _=>exact absurd (show false = true from fy) Bool.false_ne_true
noncomputable def eqU (x:V) (u:Value):Bool:=match u with
 | .none=>eqV .non x
 | .bool b=>eqV (.bl b) x
 | .int i _=>eqV (.int i) x
 | .str z _=>eqV (.str z) x
 | _=>false
theorem eqU_of {x y:V} {u:Value} (r:RelV y u) (f:flatV y = true):eqU x u = eqV y x:=by
 cases y with
 | non=>cases r; rfl
 | bl b=>cases r; rfl
 | int i=>obtain ⟨t,rfl⟩:=r; rfl
 | str z=>obtain ⟨t,rfl⟩:=r; rfl
 | _=>exact absurd (show false = true from f) Bool.false_ne_true
theorem mem_eqAt {A:Around} {s:Shared} {x:V} {v:Value} (rx:RelV x v) (fx:flatV x = true):∀ {xs:List V} {us:List Value},Vals xs us → xs.all flatV = true → ∀ u ∈ us,SeqAt.EqAt A s u v (eqU x u)
 | _,_,.nil,_=>fun u hu=>by cases hu
 | y :: xs,u :: us,.cons r t,f=>fun u' hu=>by
  rw [List.all_cons,Bool.and_eq_true] at f
  rcases List.mem_cons.mp hu with rfl | hu
  ·rw [eqU_of r f.1]; exact eqAt_V r rx f.1 fx
  ·exact mem_eqAt rx fx t f.2 u' hu
theorem call_len_seq:CallR X (.builtin "len") (fun xs H Q=>∃ p ys,xs = [.ref p] ∧ (SqL X.K H p ys ∨ SqT X.K H p ys) ∧ Q (.int ys.length) H):=by
 intro pins s σ H xs us Q I r h
 obtain ⟨p,ys,rfl,hq,q⟩:=h
 obtain ⟨u,rfl,rx⟩:=vals1 r
 cases rx
 have hn:=line63
 rcases hq with hq | hq
 ·obtain ⟨its,r',pl,hz⟩:=I.list hq
  have hlen:=r'.length
  exact Calls.call_len_list pl.isList (by simp only [List.size_toArray] <;> omega) ⟨.int ys.length,H,I.tok _,⟨s.toks + 1,by rw [List.size_toArray,hlen]⟩,q⟩
 ·obtain ⟨its,r',pl,hz⟩:=I.tuple hq
  have hlen:=r'.length
  exact len_tuple pl (by simp only [List.size_toArray] <;> omega) ⟨.int ys.length,H,I.tok _,⟨s.toks + 1,by rw [List.size_toArray,hlen]⟩,q⟩
theorem call_len_str:CallR X (.builtin "len") (fun xs H Q=>∃ z,xs = [.str z] ∧ z.length ≤ sizeLine ∧ Q (.int z.length) H):=by
 intro pins s σ H xs us Q I r h
 obtain ⟨z,rfl,hz,q⟩:=h
 obtain ⟨u,rfl,t,rfl⟩:=vals1 r
 have hn:=line63
 exact len_str (by omega) ⟨.int z.length,H,I.tok _,⟨_,rfl⟩,q⟩
theorem CallR.or {f:Value} {r r':List V → Hp → VK → Prop} (h:CallR X f r) (h':CallR X f r'):CallR X f (fun xs H Q=>r xs H Q ∨ r' xs H Q):=by
 intro pins s σ H xs us Q I rs q
 rcases q with q | q
 ·exact h pins s σ H xs us Q I rs q
 ·exact h' pins s σ H xs us Q I rs q
theorem call_list_of:CallR X (.type "list") (fun xs H Q=>∃ p ys,xs = [.ref p] ∧ (SqL X.K H p ys ∨ SqT X.K H p ys) ∧ ∀ l,H l = none → Q (.ref l) (upd H l (.lst ys))):=by
 intro pins s σ H xs us Q I r h
 obtain ⟨p,ys,rfl,hq,q⟩:=h
 obtain ⟨u,rfl,rx⟩:=vals1 r
 cases rx
 have fin:∀ (its:List Value),Vals ys its → ys.length ≤ sizeLine → ∀ (h':Heap) (c':Nat),(∀ b o',s.heap.get? b = some o' → h'.get? b = some o') →
   h'.get? s.heap.objs.size = some { cls:=.type "list",dict:=none,data:=.seq its.toArray c',slots:=#[] } → EP X pins σ Q (.ref s.heap.objs.size) { s with heap:=h' }:=fun its r' hz h' c' kp e =>
  ⟨.ref s.heap.objs.size,_,I.laid (t':=s.toks) kp (Nat.le_refl _) (show ObjOk X.prog X.w _ h' _ (.lst ys) from ⟨hz,its,c',r',e⟩),rfl,q _ (I.hok.fresh (Nat.le_refl _))⟩
 rcases hq with hq | hq
 ·obtain ⟨its,r',pl,hz⟩:=I.list hq
  have hlen:=r'.length
  obtain ⟨o,ho,hc,n,hd⟩:=pl.isList
  exact call_list_seq p (.inl rfl) ho hc hd (fun h' c' kp e=>fin its r' hz h' c' kp e) (by simp only [List.size_toArray] <;> omega)
 ·obtain ⟨its,r',pl,hz⟩:=I.tuple hq
  have hlen:=r'.length
  obtain ⟨o,ho,hc,n,hd⟩:=pl
  exact call_list_seq p (.inr rfl) ho hc hd (fun h' c' kp e=>fin its r' hz h' c' kp e) (by simp only [List.size_toArray] <;> omega)
theorem call_tuple_of:CallR X (.type "tuple") (fun xs H Q=>∃ p ys,xs = [.ref p] ∧ ((SqL X.K H p ys ∧ ∀ l,H l = none → Q (.ref l) (upd H l (.tup ys))) ∨ (SqT X.K H p ys ∧ Q (.ref p) H))):=by
 intro pins s σ H xs us Q I r h
 obtain ⟨p,ys,rfl,h⟩:=h
 obtain ⟨u,rfl,rx⟩:=vals1 r
 cases rx
 rcases h with ⟨hq,q⟩ | ⟨hq,q⟩
 ·obtain ⟨its,r',pl,hz⟩:=I.list hq
  have hlen:=r'.length
  refine call_tuple_list pl.isList (fun h' kp=>?_) (by simp only [List.size_toArray] <;> omega)
  have I1:Inv X pins σ H { s with heap:=h' }:=I.kept (t':=s.toks) kp
  have I2:Inv X pins σ (upd H h'.objs.size (.tup ys)) { s with heap:=h'.push { cls:=.type "tuple",data:=.seq its.toArray } } :=
   I1.laid (t':=s.toks) (fun b o e=>Heap.get?_push_of_some _ e) (Nat.le_refl _) (show ObjOk X.prog X.w _ _ _ (.tup ys) from ⟨hz,its,r',IsTupN.new _ _⟩)
  exact ⟨.ref h'.objs.size,_,I2,rfl,q _ (I1.hok.fresh (Nat.le_refl _))⟩
 ·obtain ⟨its,r',pl,hz⟩:=I.tuple hq
  exact call_tuple_same pl ⟨.ref p,H,I,rfl,q⟩
noncomputable def tyV (K:W.Frag) (T:String) (x:V) (H:Hp):Prop:=match x with
 | .str _=>T = "str"
 | .int _=>T = "int"
 | .ref p=>(T = "list" ∧ ∃ xs,SqL K H p xs) ∨ (T = "tuple" ∧ ∃ o,K.lookup p = some o ∧ o.cls = .type "tuple" ∧ o.dict = none) ∨
   (T = "dict" ∧ ((∃ kvs,H p = some (.dK kvs)) ∨ ∃ kvs,H p = some (.dT kvs))) ∨ (T = "set" ∧ ∃ S n,H p = some (.set S n))
 | _=>False
theorem tyV_is {pins:List (Addr × Obj)} {σ:St} {H:Hp} {s:Shared} {T:String} {x:V} {v:Value} (I:Inv X pins σ H s) (r:RelV x v) (ty:tyV X.K T x H) :
  s.TypeIs v T ∧ ∀ a,v = .ref a → ∃ ob,s.heap.get? a = some ob ∧ ob.dict = none:=by
 cases x with
 | str z =>
  obtain ⟨t,rfl⟩:=r
  cases (show T = "str" from ty)
  exact ⟨typeIs_str s z t,fun _ e=>nomatch e⟩
 | int i =>
  obtain ⟨t,rfl⟩:=r
  cases (show T = "int" from ty)
  exact ⟨typeIs_int s i t,fun _ e=>nomatch e⟩
 | ref p =>
  cases r
  rcases ty with ⟨rfl,xs,hq⟩ | ⟨rfl,o,hk,hc,hd⟩ | ⟨rfl,hk⟩ | ⟨rfl,S,n,hk⟩
  ·obtain ⟨its,_,pl,_⟩:=I.list hq
   refine ⟨pl.isList.typeIs,fun a e=>?_⟩
   cases e
   obtain ⟨o,n,e,c,hd,_⟩:=pl
   exact ⟨o,e,hd⟩
  ·refine ⟨⟨o,I.kIn p o hk,hc⟩,fun a e=>?_⟩
   cases e
   exact ⟨o,I.kIn _ o hk,hd⟩
  ·have z:∃ o,s.heap.get? p = some o ∧ o.ExactDict:=by
    rcases hk with ⟨kvs,hk⟩ | ⟨kvs,hk⟩
    ·obtain ⟨_,_,_,_,o,_,_,e,ex,_⟩:=I.hok p _ hk
     exact ⟨o,e,ex⟩
    ·obtain ⟨_,_,_,_,o,_,_,e,ex,_⟩:=I.hok p _ hk
     exact ⟨o,e,ex⟩
   obtain ⟨o,e,ex⟩:=z
   refine ⟨⟨o,e,ex.1⟩,fun a e2=>?_⟩
   cases e2
   exact ⟨o,e,ex.2.1⟩
  ·obtain ⟨o,_,_,_,e,ex,_⟩:=I.hok p _ hk
   refine ⟨⟨o,e,ex.1⟩,fun a e2=>?_⟩
   cases e2
   exact ⟨o,e,ex.2.1⟩
 | _=>exact False.elim ty
noncomputable def tBM (K:W.Frag) (T:String) (r:V → List V → Hp → VK → Prop) (to:TE) (t:TA):TE:=fun σ H Q=>to σ H fun x H1=>tyV K T x H1 ∧ t σ H1 fun xs H2=>r x xs H2 Q
variable {o e:Expr} {es:List Expr} {to:TE} {t:TA} {name:Str} {apos cpos:Pos} {T id:String} {r:V → List V → Hp → VK → Prop}
theorem pe_bm (pa:PlainAttrs T) (slot:Slot T name id) (hty:typeOf (.builtin id) = pure (.type "method_descriptor")) (hm:MtR X id r) (ho:PE X o to) (ha:PA X (e :: es) t)
  (hbase:attributeBase o name X.env (eval o X.env) = eval o X.env:=by rfl)
  (hfew:((backTo cpos (starEach (e :: es) X.env)).all (fun x=>!x.1) && (backToKw cpos (keywordEach [] X.env)).all (fun x=>x.1.isSome)
   && decide ((e :: es).length + ([]:List Keyword).length + (if ([]:List Keyword).isEmpty then 0 else 1) < 30)) = true:=by rfl)
  (hline:(apos.endLine == cpos.line) = true:=by rfl) (hs:starEach (e :: es) X.env = (false,eval e X.env) :: starEach es X.env:=by rfl) (hplain:(backTo cpos (starEach es X.env)).any (·.1) = false:=by rfl) :
  PE X (.Call (.Attribute o name apos) (e :: es) [] cpos) (tBM X.K T r to t):=by
 intro pins s σ H Q I h
 refine wpAny_Call_method_late hbase hfew hline rfl (thn (ho pins s σ H _ I h) fun v s1 ⟨x,H1,I1,r1,ty,q1⟩=>?_)
 obtain ⟨h1,h2⟩:=tyV_is I1 r1 ty
 refine ⟨T,id,pa,slot,hty,h1,h2,?_⟩
 have hA:=ha cpos pins s1 σ H1 _ I1 q1
 rw [hs] at hA ⊢
 refine Calls.callWith_builtin (by show (false || (backTo cpos (starEach es X.env)).any (·.1)) = false; rw [hplain] <;> rfl) (Calls.evalArgs_plain ?_)
 exact thn hA fun us s2 ⟨vs,H2,I2,r2,q2⟩=>hm pins s2 σ H2 x vs v us Q I2 r1 r2 q2
end
noncomputable def MtM (X:Cx) (id:String) (r:V → List V → Hp → VK → Prop):Prop :=
 ∀ (pins:List (Addr × Obj)) (s:Shared) (σ:St) (H:Hp) (x:V) (xs:List V) (v:Value) (us:List Value) (Q:VK),Inv X pins σ H s → RelV x v → Vals xs us → r x xs H Q →
  wpAny (model X.prog X.w) X.A (call (.builtin id) (v :: us)) (EP X pins σ Q) X.xe s
theorem Vals.one:∀ {x:V} {us:List Value},Vals [x] us → ∃ u,us = [u] ∧ RelV x u
 | _,_,.cons r .nil=>⟨_,rfl,r⟩
theorem Vals.two:∀ {x y:V} {us:List Value},Vals [x,y] us → ∃ u v,us = [u,v] ∧ RelV x u ∧ RelV y v
 | _,_,_,.cons r (.cons q .nil)=>⟨_,_,rfl,r,q⟩
theorem Vals.zero:∀ {us:List Value},Vals [] us → us = []
 | _,.nil=>rfl
theorem Vals.rep {xs:List V} {us:List Value} (h:Vals xs us):∀ k:Nat,Vals (List.replicate k xs).flatten (List.replicate k us).flatten
 | 0=>.nil
 | k + 1=>by
  rw [List.replicate_succ,List.replicate_succ,List.flatten_cons,List.flatten_cons]
  exact Vals.append h (Vals.rep h k)
theorem foldl_rep (its:List Value):∀ (k:Nat) (acc:List Value),
  List.foldl (fun x1 x2=>x1 ++ x2) acc.toArray (List.replicate k its.toArray) = (acc ++ (List.replicate k its).flatten).toArray
 | 0,acc=>by simp
 | k + 1,acc=>by
  have e:acc.toArray ++ its.toArray = (acc ++ its).toArray:=by simp
  have e2:(acc ++ its) ++ (List.replicate k its).flatten = acc ++ (List.replicate (k + 1) its).flatten:=by
   rw [List.replicate_succ,List.flatten_cons,List.append_assoc]
  rw [← e2,← foldl_rep its k (acc ++ its),← e,List.replicate_succ,List.foldl_cons]
section
variable {X:Cx} {pins:List (Addr × Obj)} {σ:St} {H:Hp} {s:Shared} {l b:Addr} {xs ys zs:List V}
theorem Inv.lset {its its':List Value} {n:Nat} {f:Array Value → Array Value} {t':Nat} (I:Inv X pins σ H s) (hH:H l = some (.lst xs))
  (e:s.heap.get? l = some { cls:=.type "list",data:=.seq its.toArray n }) (hf:f its.toArray = its'.toArray) (hv:Vals ys its') (hz:ys.length ≤ sizeLine) :
  Inv X pins σ (upd H l (.lst ys)) { s with heap:=s.heap.update l (Obj.mapSeq f),toks:=t' }:=by
 have q:=PySem.IsL.update e f
 rw [hf] at q
 refine I.write (x:=l) (e:=l) (by rw [hH]; exact trivial) (.inl rfl) (fun b' u hb hu=>(Heap.get?_update_other s.heap (Obj.mapSeq f) (Ne.symm hb)).trans hu) ⟨_,q⟩ ?_
 exact ⟨hz,its',_,hv,q⟩
theorem Inv.lnew {its:List Value} {t':Nat} (I:Inv X pins σ H s) (hv:Vals ys its) (hz:ys.length ≤ sizeLine) :
  Inv X pins σ (upd H s.heap.objs.size (.lst ys)) { s with heap:=s.heap.push { cls:=.type "list",data:=.seq its.toArray },toks:=t' } :=
 I.laid (fun _ _ q=>Heap.get?_push_of_some _ q) (Nat.le_refl _) ⟨hz,its,0,hv,Heap.get?_push_size _ rfl⟩
theorem Inv.fresh (I:Inv X pins σ H s):H s.heap.objs.size = none:=I.hok.fresh (Nat.le_refl _)
theorem Inv.lstM (I:Inv X pins σ H s) (hH:H l = some (.lst xs)):xs.length ≤ sizeLine ∧ ∃ (its:List Value) (n:Nat),Vals xs its ∧ xs.length = its.length ∧ s.heap.get? l = some { cls:=.type "list",data:=.seq its.toArray n }:=by
 obtain ⟨z,its,n,r,e⟩:=I.hok l _ hH
 exact ⟨z,its,n,r,r.length,e⟩
theorem notLongL {n:Nat} (h:n ≤ sizeLine):Builtin.List.listTooLong n = false:=by
 unfold Builtin.List.listTooLong
 exact decide_eq_false (by omega)
end
section
variable {X:Cx}
noncomputable def rAppend:V → List V → Hp → VK → Prop:=fun x vs H Q=>∃ l xs y,x = .ref l ∧ vs = [y] ∧ H l = some (.lst xs) ∧ xs.length < sizeLine ∧ Q .non (upd H l (.lst (xs ++ [y])))
theorem mt_append:MtM X "list.append" rAppend:=by
 intro pins s σ H x vs v us Q I rx rv h
 obtain ⟨l,xs,y,rfl,rfl,hH,hz,q⟩:=h
 cases rx
 obtain ⟨u,rfl,ru⟩:=rv.one
 obtain ⟨z,its,n,r,hl,e⟩:=I.lstM hH
 refine call_meets F.slot_list_append ⟨_,e,rfl⟩ F.entry_list_append (F.args_list_append_2 _ _) (PySem.list_append l its.toArray n u (by rw [List.size_toArray]; omega)) ⟨e,?_⟩
 refine ⟨.non,_,I.lset (its':=its ++ [u]) hH e (by simp) (r.append (.cons ru .nil)) ?_,rfl,q⟩
 rw [List.length_append,List.length_singleton]
 omega
theorem len_rep {α:Type} (xs:List α) (k:Nat):(List.replicate k xs).flatten.length = k * xs.length:=by
 induction k with
 | zero=>simp
 | succ k ih=>rw [List.replicate_succ,List.flatten_cons,List.length_append,ih,Nat.succ_mul,Nat.add_comm]
end
section
variable {prog:Program} {w:World} {A:Around} {E:Value → Shared → Prop} {s:Shared}
end
section
variable {X:Cx}
end
end L2
namespace Att
open PySem PySem.W PySem.Calls PyProof.Rows
theorem ints_of_wellAll {P:Params} {h:Heap}:∀ (ns:List Int) (vs:List Value),WellAll P h vs (ns.map WData.int) → IntsAre vs ns:=by
 intro ns
 induction ns with
 | nil =>
  intro vs w
  rw [List.map_nil] at w
  cases w
  exact .nil
 | cons n ns ih =>
  intro vs w
  rw [List.map_cons] at w
  cases w with
  | cons a b =>
   cases a
   exact .cons _ _ (ih _ b)
theorem script_of {l:OpenLaw} {n:Nat} (hn:l.most = some n) {P:Params} {h:Heap} {args:List WData} {vals:List Value}
  (hpre:l.row.toRowW.claim.pre args = true) (hwl:WellAll P h vals args) :
  ∃ a vs ns,vals = [Value.ref a] ∧ args = [WData.list (ns.map WData.int)] ∧ h.get? a = some { cls:=.type "list",data:=.seq vs.toArray } ∧ IntsAre vs ns ∧ ns.length ≤ n:=by
 have hsh:WShape.hasAll [] args [.list .int] = true:=(pre_splitW hpre).1
 have hc:l.pre.holds [] { args:=args } = true:=(pre_splitW hpre).2
 obtain ⟨d,r,rfl,h1,h2⟩:=hasAllW_cons hsh
 obtain rfl:=hasAllW_nil h2
 obtain ⟨xs,rfl,h3⟩:=hasW_list h1
 obtain ⟨ns,rfl⟩:=items_int h3
 have hlen:ns.length ≤ n:=by
  unfold OpenLaw.pre at hc
  have h4:(WTm.not (.lt (.lit (.int (n:Int))) (.len (.arg 0)))).holds [] { args:=[.list (ns.map .int)] } = true:=by
   have h4:=(holds_andW hc).1
   rw [hn] at h4
   exact h4
  have h5:=condW_of h4 (w_not (w_lt w_lit (w_len_list (w_arg rfl))))
  rw [List.length_map] at h5
  refine Nat.le_of_not_lt fun q=>?_
  have q':(n:Int) < ((ns.length:Nat):Int):=by omega
  first
   | (rw [decide_eq_true q'] at h5; exact absurd h5 (by decide))
   | (simp at h5; omega)
 cases hwl with
 | cons w1 w2 =>
  cases w2
  cases w1 with
  | list ho hall=>exact ⟨_,_,ns,rfl,rfl,ho,ints_of_wellAll ns _ hall,hlen⟩
theorem post_true (l:OpenLaw) (args:List WData):l.row.toRowW.claim.post args (.bool true) args = true :=
 postW_of (r:=l.row.toRowW) (X:=(true == true))
  (show WShape.has [] (.bool true) .bool = true by first | rfl | decide | simp [WShape.has,WShape.arms,WShape.armsAll])
  (show (WTm.eq .res (.lit (.bool true))).value [] { args:=args,res:=some (.bool true),after:=args } = some (.bool (true == true)) from w_eq_bool (w_res rfl) w_lit) rfl
section
variable {prog:Program} {w:World} {A:Around} {E:Value → Shared → Prop} {s:Shared} {K:Frag}
end
end Att
namespace L2
open PySem PySem.Spec PyProof.Rows
theorem vals_ints:∀ {vs:List Value} {ns:List Int},IntsAre vs ns → Vals (ns.map V.int) vs
 | _,_,.nil=>.nil
 | _,_,.cons n t h=>.cons ⟨t,rfl⟩ (vals_ints h)
noncomputable def defArgs (s:Stmt):Arguments:=match s with
 | .FunctionDef _ a _ _ _ _ _ _ _ _=>a
 | _=>{ posonlyargs:=[],args:=[],vararg:=none,kwonlyargs:=[],kw_defaults:=[],kwarg:=none,defaults:=[] }
noncomputable def defBody (s:Stmt):List Stmt:=match s with
 | .FunctionDef _ _ b _ _ _ _ _ _ _=>b
 | _=>[]
noncomputable def defScope (s:Stmt):Scope:=match s with
 | .FunctionDef _ _ _ _ _ _ sc _ _ _=>sc
 | _=>{ kind:=.function,names:=[],isGenerator:=false,isCoroutine:=false }
noncomputable abbrev CX0:CXT:=fun _ _ _ _ _ _=>False
noncomputable abbrev E0:XK:=fun _ _ _=>False
theorem pass0 {X:Cx}:Passes CX0 X E0:=fun _ _ _ _ _ _ _ h=>h.elim
structure Fun (K:W.Frag) (x qual:Str) (st:Stmt) (f:Addr) (fd:FuncData):Prop where
 ex:∃ (oc:Value) (od:Option Addr) (kV doc pm:Value) (an:Option Addr) (cdv ct:Value) (osl:Array (Option Value)),
  fd = W.fnOf x qual (defArgs st) (defBody st) (defScope st) .none kV doc pm an cdv ct ∧ K.lookup f = some ⟨oc,od,.func fd,osl⟩ ∧ W.codeIn K cdv qual = true
 kp:W.keepIn K (.ref f) = true
section
variable {P:Program} {w:World} {K:W.Frag} {mg:Str → Option Value} {base:Heap}
theorem Fun.ok {x qual:Str} {st:Stmt} {f:Addr} {fd:FuncData} {N ps:List Str} {k:Nat} {sp:Sp} (F:Fun K x qual st f fd) (S:FnScope N ps (defScope st)) (len:∀ vs H Q E,sp vs H Q E → vs.length = ps.length)
  (hbody:∀ (cdv:Value) (A:Around) (outer:List Env) (s:Shared) (H:Hp) (vs:List V) (Q:VK) (E:XK),Room k (A.deeper (envOfC qual (defScope st) s.heap.objs.size f cdv)) → sp vs H Q E →
   ∃ t,PSs (cxOf CX0 P w K mg base N qual (defScope st) f cdv A outer s H E).nox (defBody st) t ∧ t { nx:=fun _ H'=>Q .non H',rt:=Q } (start N vs) H):FnOk P w K mg base CX0 (k + 1) f fd ps sp:=by
 obtain ⟨oc,od,kV,doc,pm,an,cdv,ct,osl,rfl,lk,hcd⟩:=F.ex
 refine fn_of lk hcd S len fun A outer s H vs Q E hr hsp=>?_
 obtain ⟨t,h,q⟩:=hbody cdv A outer s H vs Q E hr hsp
 exact ⟨t,h.nox,q⟩
theorem Fun.binds {x qual:Str} {st:Stmt} {f:Addr} {fd:FuncData} {ps:List Str} (F:Fun K x qual st f fd)
  (h:∀ (kV doc pm:Value) (an:Option Addr) (cdv ct:Value) (us:List Value),us.length = ps.length → bindArgs (W.fnOf x qual (defArgs st) (defBody st) (defScope st) .none kV doc pm an cdv ct) ⟨us,[]⟩ = pure (ps.zip us)):Binds K fd ps []:=by
 obtain ⟨oc,od,kV,doc,pm,an,cdv,ct,osl,rfl,lk,hcd⟩:=F.ex
 exact .all (h kV doc pm an cdv ct)
theorem fun_mk {x qual:Str} {st:Stmt} {f:Addr} {oc:Value} {od an:Option Addr} {osl:Array (Option Value)} {kV doc pm cdv ct:Value} (l:K.lookup f = some ⟨oc,od,.func (W.fnOf x qual (defArgs st) (defBody st) (defScope st) .none kV doc pm an cdv ct),osl⟩)
  (c:W.codeIn K cdv qual = true) (k:W.keepIn K (.ref f) = true):Fun K x qual st f (W.fnOf x qual (defArgs st) (defBody st) (defScope st) .none kV doc pm an cdv ct):=⟨⟨oc,od,kV,doc,pm,an,cdv,ct,osl,rfl,l,c⟩,k⟩
end
theorem hu_of {A:Around} {k:Nat} (hr:Room k A):A.units + 1 < cLine:=Nat.lt_of_le_of_lt (Nat.add_le_add_left (by decide:1 ≤ 64) _) hr.units
section
variable {X:Cx}
end
noncomputable def Same (H H':Hp):Prop:=∀ b o,H b = some o → H' b = some o
theorem Same.refl (H:Hp):Same H H:=fun _ _ h=>h
theorem Same.trans {H H1 H2:Hp} (a:Same H H1) (b:Same H1 H2):Same H H2:=fun c o h=>b c o (a c o h)
theorem Same.free {H H':Hp} (e:Same H H') {l:Addr} (h:H' l = Option.none):H l = Option.none:=by
 cases q:H l with
 | none=>rfl
 | some o =>
  rw [e l o q] at h
  cases h
noncomputable def Its (x:Str):It:=⟨fun i _=>i < x.cps.size,fun i H v H'=>H' = H ∧ ∃ c,x.cps[i]? = some c ∧ v = .str ⟨#[c]⟩,fun i _=>x.cps.size ≤ i⟩
theorem turn_str {P:Program} {w:World} {K:W.Frag} {tg:Expr} (it:Addr) (T:String) (hT:T = "str_ascii_iterator" ∨ T = "str_iterator") (x:Str) (t:Tok) :
  Turn P w K tg (Its x) [it] it (fun i h=>h.IsStrIter it T x t i) where
 mem:=by simp
 obj:=fun i h st b hb=>by
  have e:b = it:=by simpa using hb
  subst e
  obtain ⟨o,e,c,d⟩:=st
  exact ⟨o,e,fun v z=>by rw [d] at z; cases z⟩
 keep:=fun i h h' st k=>by
  obtain ⟨o,e,r⟩:=st
  exact ⟨o,k it (by simp) o e,r⟩
 item:=by
  intro X hP hw hK hc i pins s σ H E I hf st hg
  subst hP hw hK
  have hlt:i < x.cps.size:=hg
  have hx:x.cps[i]? = some x.cps[i]:=by simp [hlt]
  obtain ⟨f0,f1,f2,f3,f4,f5⟩:=hf it (by simp)
  have fin:∀ h',h'.IsStrIter it T x t (i + 1) → Heap.SameBut it s.heap h' →
    ∃ u,(some (Value.str ⟨#[x.cps[i]]⟩ s.toks)) = some u ∧ wpAny (model X.prog X.w) X.A (letOwnedTupleGo tg (.ref it) u) (fun _ s2=>∃ x_1 H',Inv X pins σ H' s2 ∧ RelV x_1 u ∧ (Its x).yld i H x_1 H' ∧ s2.heap.IsStrIter it T x t (i + 1) ∧ ∀ b ∈ [it],H' b = none) E { s with heap:=h',toks:=s.toks + 1 }:=by
   intro h' st' sb
   have I1:Inv X pins σ H { s with heap:=h',toks:=s.toks + 1 }:=I.turned (fun b o hb e=>(sb.2 b hb).trans e) f0 f1 f3 f4 f5
   obtain ⟨o,e,c,d⟩:=id st'
   refine ⟨_,rfl,go_of (s:={ s with heap:=h',toks:=s.toks + 1 }) (n:=T) e c d (by rcases hT with rfl | rfl <;> decide) ⟨.str ⟨#[x.cps[i]]⟩,H,I1,⟨_,rfl⟩,⟨rfl,_,hx,rfl⟩,st',fun b hb=>(hf b hb).1⟩⟩
  rcases hT with rfl | rfl
  ·exact wpAny_pyNext_ascii_item st hx fun h' st' sb=>fin h' st' sb
  ·exact wpAny_pyNext_wide_item st hx fun h' st' sb=>fin h' st' sb
 done:=by
  intro X hP hw hK hc i pins s σ H E I hf st hg
  subst hP hw hK
  have hge:x.cps.size ≤ i:=hg
  have hx:x.cps[i]? = none:=by simp [hge]
  obtain ⟨f0,f1,f2,f3,f4,f5⟩:=hf it (by simp)
  rcases hT with rfl | rfl
  ·exact wpAny_pyNext_ascii_end (I.ok.hd hc) st hx fun h' eb=>⟨rfl,I.turned (t':=s.toks) (fun b o hb e=>eb b o hb e) f0 f1 f3 f4 f5⟩
  ·exact wpAny_pyNext_wide_end (I.ok.hd hc) st hx fun h' eb=>⟨rfl,I.turned (t':=s.toks) (fun b o hb e=>eb b o hb e) f0 f1 f3 f4 f5⟩
 self:=fun _ _ _ _ _ st h=>by
  rcases hT with rfl | rfl
  ·exact wpAny_pyIter_striter_ascii st h
  ·exact wpAny_pyIter_striter_wide st h
noncomputable def iStr (te:TE):TI:=fun σ H R=>te σ H fun v H1=>∃ x,v = .str x ∧ R (Its x) H1
theorem pi_str {X:Cx} {tg e:Expr} {te:TE} (he:PE X e te):PI X tg e (iStr te):=by
 intro pins s σ H R I h
 refine thn (he pins s σ H _ I h) fun v s1 ⟨y,H1,I1,r1,q1⟩=>?_
 obtain ⟨x,rfl,q⟩:=q1
 obtain ⟨t,rfl⟩:=r1
 have fp:∀ (o:Obj),∀ b ∈ [s1.heap.objs.size],FpOk X pins H1 b:=fun o b hb=>by
  have e:b = s1.heap.objs.size:=by simpa using hb
  subst e
  exact I1.fpOk (Nat.le_refl _) (I1.hok.fresh (Nat.le_refl _))
 cases ha:x.cps.all (· < 128) with
 | true =>
  exact wpAny_pyIter_ascii ha ⟨s1.heap.objs.size,[s1.heap.objs.size],_,_,H1,rfl,I1.kept (t':=s1.toks) fun b o e=>Heap.get?_push_of_some _ e,turn_str _ "str_ascii_iterator" (.inl rfl) x t,⟨_,Heap.get?_push_size _ rfl,rfl,rfl⟩,fp default,q⟩
 | false =>
  exact wpAny_pyIter_wide ha ⟨s1.heap.objs.size,[s1.heap.objs.size],_,_,H1,rfl,I1.kept (t':=s1.toks) fun b o e=>Heap.get?_push_of_some _ e,turn_str _ "str_iterator" (.inr rfl) x t,⟨_,Heap.get?_push_size _ rfl,rfl,rfl⟩,fp default,q⟩
noncomputable def cxComp (X:Cx) (scope:Scope) (cl:List (Str × Addr)) (N':List Str) (s:Shared) (H:Hp) (ex:List Addr):Cx :=
 { X with N:=N',s₀:=s,H₀:=H,env:=compEnvC scope cl s.heap.objs.size X.env,outer:=X.stack,ex:=ex,fn:=fun _=>false,pn:=[],xe:=fun _ _=>False }
structure CompOk (sc scope:Scope) (N N':List Str) (n:Nat) (caps:List Nat):Prop where
 kind:scope.kind = .function
 nocell:∀ y ∈ scope.names,y.2 ≠ .cell
 loc:∀ y ∈ scope.names,y.2 = .local → scope.names.lookup y.1 = some .local
 free:∀ y ∈ scope.names,y.2 = .free → sc.names.lookup y.1 = some .cell ∨ sc.names.lookup y.1 = some .free
 nd:N'.Nodup
 len:N'.length = n + caps.length
 cap:∀ k ∈ List.range caps.length,N'[n + k]? = (caps[k]?).bind (N[·]?) ∧ (N'[n + k]?).all (fun y=>scope.names.lookup y == some .free) = true
noncomputable def sComp (n:Nat) (caps:List Nat) (σ:St):St:=List.replicate n none ++ caps.map fun j=>(σ[j]?).join
theorem sComp_len (n:Nat) (caps:List Nat) (σ:St):(sComp n caps σ).length = n + caps.length:=by simp [sComp]
theorem closure_some {env:Env}:∀ (names:List (Str × NameKind)),(∀ x ∈ names,x.2 = .free → ∃ c,env.cells.lookup x.1 = some c) → ∀ acc:List (Str × Addr),
  ∃ cl:List (Str × Addr),(forIn names acc (fun (x:Str × NameKind) (cs:List (Str × Addr))=>if (x.2 == .free) = true then do let a ← cellOf env x.1; pure (ForInStep.yield ((x.1,a) :: cs)) else pure (ForInStep.yield cs)):Sem (List (Str × Addr))) = pure cl ∧
   (∀ y c,cl.lookup y = some c → env.cells.lookup y = some c ∨ acc.lookup y = some c) ∧ (∀ x ∈ names,x.2 = .free → ∃ c,cl.lookup x.1 = some c) ∧ (∀ y c,acc.lookup y = some c → ∃ c',cl.lookup y = some c')
 | [],_,acc=>⟨acc,rfl,fun _ _ h=>.inr h,(fun _ h=>nomatch h),fun _ c h=>⟨c,h⟩⟩
 | (n,k) :: r,h,acc=>by
  cases hk:(k == NameKind.free) with
  | true =>
   have hk':k = .free:=by simpa using hk
   obtain ⟨c,hc⟩:=h (n,k) List.mem_cons_self hk'
   obtain ⟨cl,e,h1,h2,h3⟩:=closure_some r (fun x hx=>h x (List.mem_cons_of_mem _ hx)) ((n,c) :: acc)
   refine ⟨cl,?_,fun y d hy=>?_,fun x hx hf=>?_,fun y d hy=>?_⟩
   ·rw [List.forIn_cons]
    simp only [hk,if_true,cellOf,hc,pure_bind]
    exact e
   ·rcases h1 y d hy with z | z
    ·exact .inl z
    ·rw [List.lookup_cons] at z
     cases q:(y == n) with
     | true =>
      rw [q] at z
      cases z
      have:y = n:=by simpa using q
      subst this
      exact .inl hc
     | false =>
      rw [q] at z
      exact .inr z
   ·rcases List.mem_cons.mp hx with rfl | hx
    ·exact h3 n c (by simp [List.lookup_cons])
    ·exact h2 x hx hf
   ·by_cases q:y = n
    ·subst q
     exact h3 y c (by simp [List.lookup_cons])
    ·refine h3 y d ?_
     have:(y == n) = false:=by simpa using q
     rw [List.lookup_cons,this]
     exact hy
  | false =>
   obtain ⟨cl,e,h1,h2,h3⟩:=closure_some r (fun x hx=>h x (List.mem_cons_of_mem _ hx)) acc
   refine ⟨cl,?_,h1,fun x hx hf=>?_,h3⟩
   ·rw [List.forIn_cons]
    simp only [hk,Bool.false_eq_true,if_false,pure_bind]
    exact e
   ·rcases List.mem_cons.mp hx with rfl | hx
    ·have:k = .free:=hf
     rw [this] at hk
     exact absurd hk (by decide)
    ·exact h2 x hx hf
theorem closureFor_some {env:Env} {scope:Scope} (h:∀ x ∈ scope.names,x.2 = .free → ∃ c,env.cells.lookup x.1 = some c) :
  ∃ cl:List (Str × Addr),closureFor scope env = pure cl ∧ (∀ y c,cl.lookup y = some c → env.cells.lookup y = some c) ∧ ∀ x ∈ scope.names,x.2 = .free → ∃ c,cl.lookup x.1 = some c:=by
 obtain ⟨cl,e,h1,h2,_⟩:=closure_some scope.names h []
 refine ⟨cl,?_,fun y c hy=>(h1 y c hy).elim id (fun z=>nomatch z),h2⟩
 simp only [closureFor]
 rw [← bind_pure (forIn _ _ _)] at e
 first
  | exact e
  | (refine Eq.trans ?_ e; rfl)
theorem lookup_relabel {env:Env}:∀ (names:List (Str × NameKind)) (x:Str),
  (names.map fun (n,k)=>if (k == NameKind.free && env.scope.kind == .function && env.kindOf n == some .cell) then (n,NameKind.cell) else (n,k)).lookup x =
   (names.lookup x).map fun k=>if (k == NameKind.free && env.scope.kind == .function && env.kindOf x == some .cell) = true then NameKind.cell else k
 | [],_=>rfl
 | (n,k) :: r,x=>by
  have ih:=@lookup_relabel env r x
  have l1:List.lookup x (((n,k) :: r).map fun (n,k)=>if (k == NameKind.free && env.scope.kind == .function && env.kindOf n == some .cell) then (n,NameKind.cell) else (n,k)) =
    List.lookup x ((if (k == NameKind.free && env.scope.kind == .function && env.kindOf n == some .cell) = true then (n,NameKind.cell) else (n,k)) :: r.map fun (n,k)=>if (k == NameKind.free && env.scope.kind == .function && env.kindOf n == some .cell) then (n,NameKind.cell) else (n,k)):=rfl
  rw [l1,List.lookup_cons (as:=r)]
  by_cases hc:(k == NameKind.free && env.scope.kind == .function && env.kindOf n == some .cell) = true
  ·rw [if_pos hc,List.lookup_cons]
   cases hx:x == n with
   | true =>
    have e:x = n:=by simpa using hx
    subst e
    show some NameKind.cell = some (if (k == NameKind.free && env.scope.kind == .function && env.kindOf x == some .cell) = true then NameKind.cell else k)
    rw [if_pos hc]
   | false=>exact ih
  ·rw [if_neg hc,List.lookup_cons]
   cases hx:x == n with
   | true =>
    have e:x = n:=by simpa using hx
    subst e
    show some k = some (if (k == NameKind.free && env.scope.kind == .function && env.kindOf x == some .cell) = true then NameKind.cell else k)
    rw [if_neg hc]
   | false=>exact ih
section
variable {prog:Program} {w:World} {A:Around} {R:Result → Shared → Prop} {s:Shared}
theorem compLoop_any {elt target iter:Expr} {ifs:List Expr} {scope:Scope} {pos:Pos} {it acc:Value} {env:Env} (I:Nat → Shared → Prop)
  (turn:∀ n s,I n s → wpAny (model prog w) A (pyNext it) (fun r s₁=>match r with
   | none=>R (.ok .next) s₁
   | some v=>wpAny (model prog w) A (letOwnedTupleGo target it v) (fun _ s₁'=>wpAny (model prog w) A (assign target env v) (fun _ s₂ =>
     wpAny (model prog w) A (forIn ifs true fun c r=>if r = true then do let ok ← isTrue c env (eval c env); pure (ForInStep.yield ok) else pure (ForInStep.yield r)) (fun ok s₃ =>
      if ok = true then wpAny (model prog w) A (eval elt env) (fun x s₄ =>
       wpAny (model prog w) A (call (.builtin "list.append") [acc,x]) (fun _ s₅=>∃ m,m < n ∧ I m s₅) (fun _ _=>False) s₄) (fun _ _=>False) s₃
      else ∃ m,m < n ∧ I m s₃) (fun _ _=>False) s₂) (fun _ _=>False) s₁') (fun _ _=>False) s₁) (fun _ _=>False) s)
  (n:Nat) (h:I n s) :
  codeAny (model prog w) A (.compLoop (.ListComp elt [⟨target,iter,ifs,0⟩] scope pos) 0 it acc env) R s:=by
 refine codeAny_loop rfl I (fun n s hI=>?_) n h
 show wpAny _ A ((compTurn (.ListComp elt [⟨target,iter,ifs,0⟩] scope pos) 0 it acc env).onRaise (fun x=>do noteFrame x env; theTreesLotGoes x)) _ _ s
 refine wpAny_noted ?_
 rw [compTurn_list]
 refine wpAny_bind (wpAny_standAt (wpAny_bind (wpAny_mono (turn n s hI) (fun r s₁ h₁=>?_) fun _ _ h'=>h'.elim)))
 cases r with
 | none=>exact wpAny_pure h₁
 | some v =>
  refine wpAny_bind (wpAny_mono h₁ (fun _ s₁' h₁'=>?_) fun _ _ h'=>h'.elim)
  refine wpAny_bind (wpAny_mono h₁' (fun _ s₂ h₂=>wpAny_bind (wpAny_mono h₂ (fun ok s₃ h₃=>?_) fun _ _ h'=>h'.elim)) fun _ _ h'=>h'.elim)
  cases ok with
  | false=>exact wpAny_pure ⟨rfl,h₃⟩
  | true =>
   exact wpAny_bind (wpAny_bind (wpAny_mono h₃ (fun x s₄ h₄=>wpAny_bind (wpAny_mono h₄ (fun _ s₅ h₅=>wpAny_pure (wpAny_pure ⟨rfl,h₅⟩)) fun _ _ h'=>h'.elim)) fun _ _ h'=>h'.elim))
end
noncomputable def PF (X:Cx) (ifs:List Expr) (t:TT):Prop :=
 ∀ (pins:List (Addr × Obj)) (s:Shared) (σ:St) (H:Hp) (Q:Bool → Hp → Prop),Inv X pins σ H s → t σ H Q →
  wpAny (model X.prog X.w) X.A (forIn ifs true fun c r=>if r = true then do let ok ← isTrue c X.env (eval c X.env); pure (ForInStep.yield ok) else pure (ForInStep.yield r)) (TP X pins σ Q) X.xe s
theorem pf_nil {X:Cx}:PF X [] fun _ H Q=>Q true H:=fun _ _ _ H _ I h=>wpAny_tests_nil ⟨H,I,h⟩
noncomputable def Wk (σ σ':St):Prop:=σ'.length = σ.length ∧ ∀ (j:Nat) (v:V),σ[j]? = some (some v) → σ'[j]? = some (some v)
noncomputable def tComp (n:Nat) (caps:List Nat) (wi:TI) (g:TG) (tt:TT) (te:TE):TE:=fun σ H Q=>wi σ H fun J H1=>∀ D,H1 D = none →
 ∃ W:Nat → Nat → List V → Hp → Prop,(∃ m,W 0 m [] (upd H1 D (.lst []))) ∧ ∀ i m ys H2,W i m ys H2 →
  (J.stop i H2 ∧ Q (.ref D) H2) ∨ (J.go i H2 ∧ ∀ x H3,J.yld i H2 x H3 → g x (sComp n caps σ) H3 fun σ4 H4=>Wk (sComp n caps σ) σ4 ∧ tt σ4 H4 fun b H5 =>
   if b = true then te σ4 H5 fun y H6=>H6 D = some (.lst ys) ∧ ys.length < sizeLine ∧ ∃ m',m' < m ∧ W (i + 1) m' (ys ++ [y]) (upd H6 D (.lst (ys ++ [y]))) else ∃ m',m' < m ∧ W (i + 1) m' ys H5)
section
variable {X:Cx} {sc:Scope} {elt iter tg:Expr} {ifs:List Expr} {scope:Scope} {pos:Pos} {N':List Str} {n:Nat} {caps:List Nat} {wi:TI} {g:TG} {tt:TT} {te:TE}
noncomputable def Aside (X:Cx) (pins:List (Addr × Obj)) (H:Hp) (C:Addr):Prop :=
 H C = none ∧ C ≠ X.env.locals ∧ X.s₀.heap.objs.size ≤ C ∧ (∀ x c,X.env.cells.lookup x = some c → c ≠ C) ∧ ∀ p ∈ X.pn ++ pins,p.1 ≠ C
theorem comp_core {pins:List (Addr × Obj)} {σ:St} {H2:Hp} {s2:Shared} {it:Addr} {fp:List Addr} {tn:Nat → Heap → Prop} {J:It} {cl:List (Str × Addr)} {Q:VK} {RR:Value → Addr → Result → Shared → Prop} {E:Value → Shared → Prop}
  (hc:X.calm = true) (hsc:X.env.scope = sc) (ok:CompOk sc scope X.N N' n caps)
  (hcl1:∀ y c,cl.lookup y = some c → X.env.cells.lookup y = some c) (hcl2:∀ x ∈ scope.names,x.2 = .free → ∃ c,cl.lookup x.1 = some c)
  (hg:∀ s H ex,PG (cxComp X scope cl N' s H ex) tg g) (ht:∀ s H ex,PF (cxComp X scope cl N' s H ex) ifs tt) (he:∀ s H ex,PE (cxComp X scope cl N' s H ex) elt te)
  (I2:Inv X pins σ H2 s2) (T:Turn X.prog X.w X.K tg J fp it tn) (st2:tn 0 s2.heap) (f2:∀ b ∈ fp,FpOk X pins H2 b)
  (q:∀ D,H2 D = none → ∃ W:Nat → Nat → List V → Hp → Prop,(∃ m,W 0 m [] (upd H2 D (.lst []))) ∧ ∀ i m ys H2,W i m ys H2 →
   (J.stop i H2 ∧ Q (.ref D) H2) ∨ (J.go i H2 ∧ ∀ x H3,J.yld i H2 x H3 → g x (sComp n caps σ) H3 fun σ4 H4=>Wk (sComp n caps σ) σ4 ∧ tt σ4 H4 fun b H5 =>
    if b = true then te σ4 H5 fun y H6=>H6 D = some (.lst ys) ∧ ys.length < sizeLine ∧ ∃ m',m' < m ∧ W (i + 1) m' (ys ++ [y]) (upd H6 D (.lst (ys ++ [y]))) else ∃ m',m' < m ∧ W (i + 1) m' ys H5))
  (hend:∀ (D C:Addr) (H':Hp) (s':Shared) (m:Str → Option Value),Inv X pins σ H' s' → Aside X pins H' C → s'.heap.Ns C m → Q (.ref D) H' → RR (.ref D) C (.ok .next) s') :
  wpAny (model X.prog X.w) X.A (newList []) (fun acc s₃=>wpAny (model X.prog X.w) X.A (newFunctionEnv scope X.env.globals cl [] X.env.qual none .none (some X.env)) (fun cenv s₄ =>
   codeAny (model X.prog X.w) X.A (.compStart (.ListComp elt [⟨tg,iter,ifs,0⟩] scope pos) 0 (.ref it) acc { cenv with scope:=relabel scope X.env }) (RR acc cenv.locals) s₄) E s₃) E s2:=by
 refine wpAny_newObj_type (wpAny_newFunctionEnv ok.nocell (by intro y hy; simp at hy) (fun h₁ hns₁ hsb₁=>?_) ok.kind)
 dsimp only at hns₁ hsb₁ ⊢
 obtain ⟨D,hD⟩:∃ D,D = s2.heap.objs.size:=⟨_,rfl⟩
 have I3:Inv X pins σ (upd H2 s2.heap.objs.size (.lst [])) { s2 with heap:=s2.heap.push { cls:=.type "list",data:=.seq ([]:List Value).toArray } }:=I2.lnew (its:=[]) (t':=s2.toks) .nil (Nat.zero_le _)
 have hfD:H2 s2.heap.objs.size = none:=I2.fresh
 obtain ⟨W,⟨m0,w0⟩,turn⟩:=q s2.heap.objs.size hfD
 generalize hs3:({ s2 with heap:=s2.heap.push { cls:=.type "list",data:=.seq ([]:List Value).toArray } }:Shared) = s3 at *
 have hs3h:s2.heap.push { cls:=.type "list",data:=.seq ([]:List Value).toArray } = s3.heap:=by rw [← hs3]
 have hs3t:s2.toks = s3.toks:=by rw [← hs3]
 rw [hs3h] at hns₁ hsb₁ ⊢
 generalize hH3:upd H2 s2.heap.objs.size (HO.lst []) = H3 at *
 rw [← hD] at turn hH3 hfD ⊢
 have old:∀ b o,s3.heap.get? b = some o → h₁.get? b = some o:=fun b o e=>hsb₁.extBut b o (Nat.ne_of_lt (Heap.lt_size e)) (Heap.get?_push_of_some _ e)
 have old2:∀ b o,s2.heap.get? b = some o → s3.heap.get? b = some o:=fun b o e=>by rw [← hs3h]; exact Heap.get?_push_of_some _ e
 have fpl:∀ b ∈ fp,b < s3.heap.objs.size:=fun b hb=>by
  obtain ⟨o,e,_⟩:=T.obj _ _ st2 b hb
  exact Heap.lt_size (old2 b o e)
 have fpD:∀ b ∈ fp,b ≠ D:=fun b hb z=>by
  obtain ⟨o,e,_⟩:=T.obj _ _ st2 b hb
  rw [z,hD] at e
  exact absurd (Heap.lt_size e) (Nat.lt_irrefl _)
 obtain ⟨X',hX'⟩:∃ X',X' = cxComp X scope cl N' s3 H3 fp:=⟨_,rfl⟩
 have okX:X'.Ok:=by
  subst hX'
  refine ⟨I3.ok.mod,ok.kind,I3.ok.glob,I3.ok.blt,Nat.le_refl _,fun x y c h1 h2=>I3.ok.inj x y c (hcl1 x c h1) (hcl1 y c h2),fun x hx=>?_,fun x c h _=>absurd h (by simp [cxComp]),I3.ok.hd,I3.ok.frames,.inl rfl,
   fun b hb=>⟨Nat.ne_of_lt (fpl b hb),fun x c e=>(f2 b hb).2.2.2.2.1 x c (hcl1 x c e)⟩,fun b o e=>I3.bs b o e,Nat.le_trans I3.ok.bsz I3.sz,fun b o e hb=>?_,fun b hb hf=>?_,I3.stack,I3.stkFree⟩
  ·have hx':((relabel scope X.env).names.lookup x = some .cell) ∨ ((relabel scope X.env).names.lookup x = some .free):=hx
   have q2:=lookup_relabel (env:=X.env) scope.names x
   have q3:(relabel scope X.env).names.lookup x = (scope.names.lookup x).map fun k=>if (k == NameKind.free && X.env.scope.kind == .function && X.env.kindOf x == some .cell) = true then NameKind.cell else k:=q2
   cases e:scope.names.lookup x with
   | none =>
    rw [q3,e] at hx'
    rcases hx' with z | z <;> cases z
   | some k =>
    have hk:k = .free:=by
     rw [q3,e] at hx'
     have nc:=ok.nocell (x,k) (PySem.mem_of_lookup e)
     cases k <;> first
      | rfl
      | exact absurd rfl nc
      | (rcases hx' with z | z <;> simp at z)
    subst hk
    exact hcl2 (x,.free) (PySem.mem_of_lookup e) rfl
  ·rcases (f2 b hb).2.2.2.1 with z | z
   ·exact I3.ok.noex b o e z
   ·exact absurd (Nat.lt_of_lt_of_le (Heap.lt_size (I3.ok.bs b o e).1) z) (Nat.lt_irrefl _)
  ·rcases List.mem_cons.mp (I3.stkSub b hf) with z | z
   ·exact (f2 b hb).2.1 z
   ·exact (f2 b hb).2.2.1 z
 have I4:Inv X' [] (sComp n caps σ) H3 { s3 with heap:=h₁,toks:=s2.toks + ([]:List (Str × Value)).length }:=by
  refine ⟨okX,?_,?_,?_,?_,fun x c e=>?_,?_,fun x c e=>?_,fun p hp=>?_,(by subst hX'; exact I3.hok.kept old),?_⟩
  ·subst hX'; rfl
  ·exact I3.bare
  ·subst hX'; exact Un.kept old
  ·subst hX'
   refine ⟨_,hns₁,fun i x v e1 e2 e3=>?_⟩
   have hi:n ≤ i:=by
    by_cases hi:i < n
    ·unfold sComp at e2
     rw [List.getElem?_append_left (by simpa using hi),List.getElem?_replicate,if_pos hi] at e2
     cases e2
    ·omega
   obtain ⟨k,rfl⟩:∃ k,i = n + k:=⟨i - n,by omega⟩
   have hk:k < caps.length:=by
    have:=(List.getElem?_eq_some_iff.mp e1).1
    have e5:(cxComp X scope cl N' s3 H3 fp).N.length = n + caps.length:=ok.len
    omega
   obtain ⟨c1,c2⟩:=ok.cap k (List.mem_range.mpr hk)
   have e1':N'[n + k]? = some x:=e1
   unfold sComp at e2
   rw [List.getElem?_append_right (by simp),List.length_replicate,Nat.add_sub_cancel_left,List.getElem?_map] at e2
   obtain ⟨j,hj⟩:∃ j,caps[k]? = some j:=⟨caps[k],by simp [hk]⟩
   rw [hj] at e2 c1
   have hj2:X.N[j]? = some x:=by rw [← e1',c1]; rfl
   have e2':(σ[j]?).join = some v:=Option.some.inj e2
   have e2'':σ[j]? = some (some v):=by
    cases q:σ[j]? with
    | none=>rw [q] at e2'; cases e2'
    | some o=>rw [q] at e2'; rw [show o = some v from e2']
   rw [e1'] at c2
   have hfree:scope.names.lookup x = some .free:=by simpa using c2
   have hvis:=ok.free (x,.free) (PySem.mem_of_lookup hfree) rfl
   obtain ⟨m,hn,hl⟩:=I3.loc
   obtain ⟨u,ru,l⟩:=hl j x v hj2 e2'' (by
    rcases hvis with z | z
    ·exact .inr (.inl (by rw [hsc]; exact z))
    ·exact .inr (.inr (by rw [hsc]; exact z)))
   refine ⟨u,ru,.inr ⟨?_,?_⟩⟩
   ·have q3:(relabel scope X.env).names.lookup x = (scope.names.lookup x).map fun k=>if (k == NameKind.free && X.env.scope.kind == .function && X.env.kindOf x == some .cell) = true then NameKind.cell else k:=lookup_relabel scope.names x
    rw [hfree] at q3
    show (relabel scope X.env).names.lookup x = _ ∨ (relabel scope X.env).names.lookup x = _
    rw [q3]
    by_cases hcc:(NameKind.free == NameKind.free && X.env.scope.kind == .function && X.env.kindOf x == some .cell) = true
    ·left; simp only [Option.map_some,if_pos hcc]
    ·right; simp only [Option.map_some,if_neg hcc]
   ·obtain ⟨c',hc'⟩:=hcl2 (x,.free) (PySem.mem_of_lookup hfree) rfl
    rcases l with ⟨hkk,_⟩ | ⟨_,c,hc2,hcell⟩
    ·have hkk':X.env.scope.names.lookup x = some .local:=hkk
     rw [hsc] at hkk'
     rcases hvis with z | z <;> (rw [hkk'] at z; cases z)
    ·have:=hcl1 x c' hc'
     rw [hc2] at this
     cases this
     obtain ⟨o,ho,hd⟩:=hcell
     exact ⟨_,hc',o,old _ o ho,hd⟩
  ·have e':cl.lookup x = some c:=by subst hX'; exact e
   obtain ⟨v,o,ho,hd⟩:=I3.cell x c (hcl1 x c e')
   exact ⟨v,o,old _ o ho,hd⟩
  ·subst hX'; exact I3.hok.fresh (Nat.le_refl _)
  ·have e':cl.lookup x = some c:=by subst hX'; exact e
   exact I3.freeC x c (hcl1 x c e')
  ·subst hX'; exact absurd hp (by simp [cxComp])
  ·subst hX'
   show _ = N'.length
   rw [sComp_len,ok.len]
 have hX'c:X'.calm = true:=by subst hX'; exact hc
 have hfpX:∀ {H':Hp},(∀ b ∈ fp,H' b = none) → ∀ b ∈ fp,FpOk X' [] H' b:=fun {H'} hn b hb=>by
  subst hX'
  refine ⟨hn b hb,Nat.ne_of_lt (fpl b hb),fun hf=>?_,.inl hb,fun x c e=>(f2 b hb).2.2.2.2.1 x c (hcl1 x c e),fun p hp=>absurd hp (by simp [cxComp])⟩
  rcases List.mem_cons.mp (I3.stkSub b hf) with z | z
  ·exact (f2 b hb).2.1 z
  ·exact (f2 b hb).2.2.1 z
 have fr3:∀ b ∈ fp,H3 b = none:=fun b hb=>by rw [← hH3,upd_ne (fpD b hb)]; exact (f2 b hb).1
 have st4:tn 0 h₁:=T.keep _ _ _ st2 fun b hb o e=>old b o (old2 b o e)
 have loop:∀ s4:Shared,s4 = { s3 with heap:=h₁,toks:=s2.toks + ([]:List (Str × Value)).length } →
   codeAny (model X.prog X.w) X.A (.compLoop (.ListComp elt [⟨tg,iter,ifs,0⟩] scope pos) 0 (.ref it) (.ref D) X'.env) (RR (.ref D) s3.heap.objs.size) s4:=by
  rintro s4 rfl
  refine compLoop_any (fun k s'=>∃ i ys H',Inv X' [] (sComp n caps σ) H' s' ∧ tn i s'.heap ∧ (∀ b ∈ fp,H' b = none) ∧ W i k ys H') ?_ m0 ⟨0,[],H3,I4,st4,fr3,w0⟩
  rintro k s5 ⟨i,ys,H5,I5,st5,fr5,w5⟩
  have eP:X'.prog = X.prog:=by subst hX'; rfl
  have ew:X'.w = X.w:=by subst hX'; rfl
  have eK:X'.K = X.K:=by subst hX'; rfl
  have eA:X'.A = X.A:=by subst hX'; rfl
  rcases turn i k ys H5 w5 with ⟨stop,qe⟩ | ⟨go,step⟩
  ·have T':=T.done X' eP ew eK hX'c i [] s5 (sComp n caps σ) H5 (fun _ _=>False) I5 (hfpX fr5) st5 stop
   rw [eA] at T'
   refine thn T' fun r s6 ⟨hr,I6⟩=>?_
   subst hr
   have un6:Un (frs X.stack) fp H3 H5 s3.heap s6.heap:=by have:=I6.base; subst hX'; exact this
   have hos:s6.os = s3.os:=by have:=I6.os; subst hX'; exact this
   have hok6:HOk X.prog X.w H5 s6.heap:=by have:=I6.hok; subst hX'; exact this
   have IX:Inv X pins σ H5 s6:=I3.call' hos un6 hok6 I6.bare fun b hb=>⟨(f2 b hb).2.2.2.1,(f2 b hb).2.1,(f2 b hb).2.2.2.2.1,(f2 b hb).2.2.2.2.2⟩
   obtain ⟨m6,hn6,_⟩:=I6.loc
   have hn6':s6.heap.Ns s3.heap.objs.size m6:=by subst hX'; exact hn6
   refine hend D s3.heap.objs.size H5 s6 m6 IX ⟨by have:=I6.free; subst hX'; exact this,Nat.ne_of_gt I3.lt,I3.sz,fun x c e z=>?_,fun p hp z=>?_⟩ hn6' qe
   ·obtain ⟨v,qc⟩:=I3.cell x c e
    exact absurd (Nat.lt_of_lt_of_le qc.lt (Nat.le_of_eq z.symm)) (Nat.lt_irrefl _)
   ·exact absurd (Nat.lt_of_lt_of_le (Heap.lt_size (I3.pin p hp).1) (Nat.le_of_eq z.symm)) (Nat.lt_irrefl _)
  ·have T':=T.item X' eP ew eK hX'c i [] s5 (sComp n caps σ) H5 (fun _ _=>False) I5 (hfpX fr5) st5 go
   rw [eA] at T'
   refine thn T' fun r s6 ⟨u,hr,h6⟩=>?_
   subst hr
   refine thn h6 fun _ s7 ⟨x,H7,I7,r7,y7,st7,fr7⟩=>?_
   have I7':=I7.pinned (hfpX fr7) (T.obj _ _ st7)
   have hg':=hg s3 H3 fp
   have ht':=ht s3 H3 fp
   have he':=he s3 H3 fp
   rw [← hX'] at hg' ht' he'
   have g1:=hg' _ s7 (sComp n caps σ) H7 x u _ I7' r7 (step x H7 y7)
   rw [eP,ew,eA] at g1
   have exe:X'.xe = fun _ _=>False:=by subst hX'; rfl
   rw [exe] at g1
   refine thn g1 fun _ s8 ⟨σ8,H8,I8,wk8,q8⟩=>?_
   have t1:=ht' _ s8 σ8 H8 _ I8 q8
   rw [eP,ew,eA,exe] at t1
   refine thn t1 fun b s9 ⟨H9,I9,q9⟩=>?_
   have back:∀ {σa:St} {Ha:Hp} {sa:Shared} {ysa:List V} {ma:Nat},Inv X' ([] ++ pinsAt fp s7.heap) σa Ha sa → σa.length = (sComp n caps σ).length → (∀ (j:Nat) v,(sComp n caps σ)[j]? = some (some v) → σa[j]? = some (some v)) → W (i + 1) ma ysa Ha →
     ∃ i ys H',Inv X' [] (sComp n caps σ) H' sa ∧ tn i sa.heap ∧ (∀ b ∈ fp,H' b = none) ∧ W i ma ys H':=fun {σa Ha sa ysa ma} Ia hl hw wa=>by
    refine ⟨i + 1,ysa,Ha,(Ia.weak hl.symm hw).unpinned,T.keep _ _ _ st7 fun b hb o e=>(Ia.pin (b,o) (List.mem_append_right _ (List.mem_append_right _ (mem_pinsAt hb e)))).1,fun b hb=>?_,wa⟩
    obtain ⟨o,e,d⟩:=T.obj _ _ st7 b hb
    exact (Ia.pin (b,o) (List.mem_append_right _ (List.mem_append_right _ (mem_pinsAt hb e)))).2.1
   cases b with
   | false =>
    rw [if_neg Bool.false_ne_true]
    rw [if_neg Bool.false_ne_true] at q9
    obtain ⟨m',hm,w9⟩:=q9
    exact ⟨m',hm,back I9 wk8.1 wk8.2 w9⟩
   | true =>
    rw [if_pos rfl]
    rw [if_pos rfl] at q9
    have e1:=he' _ s9 σ8 H9 _ I9 q9
    rw [eP,ew,eA,exe] at e1
    refine thn e1 fun v s10 ⟨y,H10,I10,r10,hD10,hlen,m',hm,w10⟩=>?_
    have a1:=mt_append (X:=X') _ s10 σ8 H10 (.ref D) [y] (.ref D) [v] (fun _ H'=>W (i + 1) m' (ys ++ [y]) H') I10 rfl (.cons r10 .nil) ⟨D,ys,y,rfl,rfl,hD10,hlen,w10⟩
    rw [eP,ew,eA,exe] at a1
    refine thn a1 fun _ s11 ⟨_,H11,I11,_,w11⟩=>?_
    exact ⟨m',hm,back I11 wk8.1 wk8.2 w11⟩
 subst hX'
 exact codeAny_compStart_list (loop _ (by rw [← hs3])) (T.self X.A 0 _ _ _ st4 (loop _ (by rw [← hs3])))
theorem pe_comp (hc:X.calm = true) (hsc:X.env.scope = sc) (ok:CompOk sc scope X.N N' n caps) (hi:PI X tg iter wi)
  (hg:∀ cl s H ex,PG (cxComp X scope cl N' s H ex) tg g) (ht:∀ cl s H ex,PF (cxComp X scope cl N' s H ex) ifs tt) (he:∀ cl s H ex,PE (cxComp X scope cl N' s H ex) elt te)
  (hs:∀ x,foldedSetIterable iter X.env x = pure x:=by intro _; rfl) :
  PE X (.ListComp elt [⟨tg,iter,ifs,0⟩] scope pos) (tComp n caps wi g tt te):=by
 intro pins s σ H Q I h
 obtain ⟨cl,hclos,hcl1,hcl2⟩:=closureFor_some (env:=X.env) (scope:=scope) fun x hx hf=>I.ok.has x.1 (by
  rcases ok.free x hx hf with z | z
  ·exact .inl (by show X.env.scope.names.lookup x.1 = _; rw [hsc]; exact z)
  ·exact .inr (by show X.env.scope.names.lookup x.1 = _; rw [hsc]; exact z))
 rw [eval_ListComp]
 refine wpAny_comprehension_free (use:=none) rfl hs hclos ok.kind ok.loc (thn (hi pins s σ H _ I h) fun v s1 h1=>thn h1 fun itv s2 h2=>?_)
 obtain ⟨it,fp,tn,J,H2,rfl,I2,T,st2,f2,q2⟩:=h2
 refine comp_core (Q:=Q) (RR:=fun acc C=>compPost (model X.prog X.w) X.A X.xe none (EP X pins σ Q) acc C) hc hsc ok hcl1 hcl2 (hg cl) (ht cl) (he cl) I2 T st2 f2 q2 ?_
 intro D C H' s' m IX as hn qe
 refine ⟨m,hn,fun h' sb=>⟨.ref D,H',IX.turned (t':=s'.toks) (fun b o hb e=>(sb.2 b hb).trans e) as.1 as.2.1 (.inr as.2.2.1) as.2.2.2.1 as.2.2.2.2,rfl,qe⟩⟩
theorem ps_setComp {i:Nat} {y:Str} {py spos:Pos} (hN:X.N.Nodup) (hiN:X.N[i]? = some y) (hy:Loc X.env.scope y) (hc:X.calm = true) (hsc:X.env.scope = sc) (ok:CompOk sc scope X.N N' n caps) (hi:PI X tg iter wi)
  (hg:∀ cl s H ex,PG (cxComp X scope cl N' s H ex) tg g) (ht:∀ cl s H ex,PF (cxComp X scope cl N' s H ex) ifs tt) (he:∀ cl s H ex,PE (cxComp X scope cl N' s H ex) elt te)
  (hsw:swapsWith (.ListComp elt [⟨tg,iter,ifs,0⟩] scope pos) (some (.Name y py)) spos.line X.env = pure true:=by rfl)
  (hs:∀ x,foldedSetIterable iter X.env x = pure x:=by intro _; rfl)
  (hf:X.fn y = true ∨ X.env.scope.names.lookup y = some .local:=by first | exact .inl rfl | exact .inr rfl | assumption) :
  PS X (.Assign [.Name y py] (.ListComp elt [⟨tg,iter,ifs,0⟩] scope pos) spos) (fun D σ H=>tComp n caps wi g tt te σ H fun v H'=>D.nx (σ.set i (some v)) H'):=by
 intro pins s σ H D I h
 obtain ⟨cl,hclos,hcl1,hcl2⟩:=closureFor_some (env:=X.env) (scope:=scope) fun x hx hf=>I.ok.has x.1 (by
  rcases ok.free x hx hf with z | z
  ·exact .inl (by show X.env.scope.names.lookup x.1 = _; rw [hsc]; exact z)
  ·exact .inr (by show X.env.scope.names.lookup x.1 = _; rw [hsc]; exact z))
 rw [exec_Assign_Name_used _ _ _ _ hsw]
 refine wpAny_bind (wpAny_standAt (wpAny_bind ?_))
 show wpAny _ X.A (do let _ ← comprehension (.ListComp elt [⟨tg,iter,ifs,0⟩] scope pos) scope X.env _ (newList []) false (eval iter X.env) (some (assign (.Name y py) X.env))) _ _ s
 refine wpAny_bind (wpAny_mono (wpAny_comprehension_free (use:=some (assign (.Name y py) X.env)) (Q:=fun _ s'=>SP X pins D .next s') rfl hs hclos ok.kind ok.loc
  (thn (hi pins s σ H _ I h) fun v s1 h1=>thn h1 fun itv s2 h2=>?_)) (fun _ s' hq=>wpAny_pure (wpAny_pure hq)) fun _ _ e=>e)
 obtain ⟨it,fp,tn,J,H2,rfl,I2,T,st2,f2,q2⟩:=h2
 refine comp_core (Q:=fun v H'=>D.nx (σ.set i (some v)) H') (RR:=fun acc C=>compPost (model X.prog X.w) X.A X.xe (some (assign (.Name y py) X.env)) (fun _ s'=>SP X pins D .next s') acc C) hc hsc ok hcl1 hcl2 (hg cl) (ht cl) (he cl) I2 T st2 f2 q2 ?_
 intro Da C H' s' m IX as hn qe
 show wpAny _ X.A (assign (.Name y py) X.env (.ref Da)) _ _ _
 refine wpAny_assign_Name (store_ok2 IX hN hiN hy (v:=.ref Da) rfl (fun s'' I'' ⟨a,sb,ha⟩=>?_) hf)
 have hCa:C ≠ a:=by
  rcases ha with z | z
  ·rw [z]; exact as.2.1
  ·exact Ne.symm (as.2.2.2.1 y a z)
 refine ⟨m,hn.sameBut sb hCa,fun h' sb'=>⟨_,H',I''.turned (t':=s''.toks) (fun b o hb e=>(sb'.2 b hb).trans e) as.1 as.2.1 (.inr as.2.2.1) as.2.2.2.1 as.2.2.2.2,qe⟩⟩
end
end L2
namespace DL
open PySem PySem.Spec PyProof.Rows
inductive D where
 | non | bl (b:Bool) | int (i:Int) | str (x:Str) | tup (ds:List D) | lst (ds:List D) | dct (ks:Sum (List (Sum Int Str)) (List (List (Sum Int Str)))) (ds:List D) | fn (ks:List (Sum Int Str)) (ds:List D)
 deriving Inhabited
@[simp] noncomputable def unl:D → D
 | .tup [_,d]=>d
 | d=>d
@[simp] noncomputable def isL:D → Bool
 | .tup _=>true
 | _=>false
inductive Sl where
 | un | sh (d:D) | ow (d:D)
 | ex (c:Str) (n:Option Int)
noncomputable abbrev Ds:=List Sl
inductive Res where
 | nx (δ:Ds) | rt (d:D) | bk (δ:Ds) | ct (δ:Ds) | rf (d:D)
noncomputable abbrev GE:=Ds → Option D
noncomputable abbrev GB:=Ds → Option Bool
noncomputable abbrev GA:=Ds → Option (List D)
noncomputable abbrev GS:=Ds → Option Res
@[simp] noncomputable def asB:D → Option Bool
 | .bl b=>some b
 | _=>none
@[simp] noncomputable def asI:D → Option Int
 | .int i=>some i
 | _=>none
@[simp] noncomputable def gv (i:Nat):GE:=fun δ=>match δ[i]? with
 | some (.sh d)=>some d
 | _=>none
@[simp] noncomputable def gc (d:D):GE:=fun _=>some d
@[simp] noncomputable def o2 (ga gb:GE) (f:D → D → Option D):GE:=fun δ=>(ga δ).bind fun x=>(gb δ).bind fun y=>f x y
@[simp] noncomputable def ob (g:GE):GB:=fun δ=>(g δ).bind asB
@[simp] noncomputable def tNotG (g:GB):GB:=fun δ=>(g δ).map (!·)
@[simp] noncomputable def tOrG (gt gu:GB):GB:=fun δ=>(gt δ).bind fun t=>if t = true then some true else gu δ
@[simp] noncomputable def andG (ga gb:GE):GE:=fun δ=>(ob ga δ).bind fun t=>if t = true then gb δ else some (.bl false)
@[simp] noncomputable def notG (ga:GE):GE:=fun δ=>(ob ga δ).map fun t=>.bl (!t)
@[simp] noncomputable def nilA:GA:=fun _=>some []
@[simp] noncomputable def consA (g:GE) (gA:GA):GA:=fun δ=>(g δ).bind fun d=>(gA δ).map fun ds=>d :: ds
@[simp] noncomputable def tupG (gA:GA):GE:=fun δ=>(gA δ).bind fun ds=>if ds.length ≤ sizeLine then some (.tup ds) else none
@[simp] noncomputable def lstG (gA:GA):GE:=fun δ=>(gA δ).bind fun ds=>if ds.length ≤ sizeLine then some (.lst ds) else none
@[simp] noncomputable def oA (gA:GA) (f:List D → Option D):GE:=fun δ=>(gA δ).bind f
@[simp] noncomputable def isiG (f:D → Bool) (g:GE):GE:=fun δ=>(g δ).map fun d=>.bl (f d)
@[simp] noncomputable def negD (d:D):Option D:=match d with
 | .int i=>some (.int (-i))
 | _=>none
@[simp] noncomputable def unG (f:D → Option D) (g:GE):GE:=fun δ=>(g δ).bind f
@[simp] noncomputable def seqD (G1 G2:GS):GS:=fun δ=>match G1 δ with
 | some (.nx δ')=>G2 δ'
 | r=>r
@[simp] noncomputable def nilD:GS:=fun δ=>some (.nx δ)
@[simp] noncomputable def retD (g:GE):GS:=fun δ=>(g δ).map .rt
@[simp] noncomputable def gN (i:Nat):D → Ds → Option Ds:=fun d δ=>some (δ.set i (.sh d))
@[simp] noncomputable def setD (f:D → Ds → Option Ds) (g:GE):GS:=fun δ=>(g δ).bind fun d=>(f d δ).map .nx
@[simp] noncomputable def ifD (gt:GB) (Ga Gb:GS):GS:=fun δ=>(gt δ).bind fun t=>if t = true then Ga δ else Gb δ
noncomputable def forD (f:D → Ds → Option Ds) (G:GS):List D → Ds → Option Res
 | [],δ=>some (.nx δ)
 | d :: ds,δ=>match (f d δ).bind G with
  | some (.nx δ')=>forD f G ds δ'
  | some (.ct δ')=>forD f G ds δ'
  | some (.bk δ')=>some (.nx δ')
  | r=>r
@[simp] noncomputable def forG (gi:GA) (f:D → Ds → Option Ds) (G:GS):GS:=fun δ=>(gi δ).bind fun items=>forD f G items δ
@[simp] noncomputable def asLst:D → Option (List D)
 | .lst ds=>some ds
 | _=>none
@[simp] noncomputable def asTup:D → Option (List D)
 | .tup ds=>some ds
 | _=>none
noncomputable def signs (x:Str):List D:=x.cps.toList.map fun c=>.str ⟨#[c]⟩
@[simp] noncomputable def asSigns:D → Option (List D)
 | .str x=>some (signs x)
 | _=>none
@[simp] noncomputable def lstI (g:GE):GA:=fun δ=>(g δ).bind asLst
@[simp] noncomputable def tupI (g:GE):GA:=fun δ=>(g δ).bind asTup
@[simp] noncomputable def strI (g:GE):GA:=fun δ=>(g δ).bind asSigns
noncomputable def rngD (lo hi:Int):List D:=(List.range (hi - lo).toNat).map fun k=>.int (lo + (k:Nat))
@[simp] noncomputable def rng1D (ds:List D):Option (List D):=match ds with
 | [.int j]=>if -(2 ^ 62) ≤ j ∧ j < 2 ^ 62 then some (rngD 0 j) else none
 | _=>none
@[simp] noncomputable def rng2D (ds:List D):Option (List D):=match ds with
 | [.int i,.int j]=>if (-(2 ^ 62) ≤ i ∧ i < 2 ^ 62) ∧ -(2 ^ 62) ≤ j ∧ j < 2 ^ 62 then some (rngD i j) else none
 | _=>none
@[simp] noncomputable def rng1I (gA:GA):GA:=fun δ=>(gA δ).bind rng1D
@[simp] noncomputable def rng2I (gA:GA):GA:=fun δ=>(gA δ).bind rng2D
@[simp] noncomputable def noT:GB:=fun _=>some true
@[simp] noncomputable def capSl:Option Sl → Sl
 | some (.sh d)=>.sh d
 | _=>.un
@[simp] noncomputable def dComp (n:Nat) (caps:List Nat) (δ:Ds):Ds:=List.replicate n .un ++ caps.map fun j=>capSl δ[j]?
noncomputable def compD (f:D → Ds → Option Ds) (gt:GB) (ge:GE) (δ:Ds):List D → Option (List D)
 | []=>some []
 | d :: ds=>match f d δ with
  | none=>none
  | some δ'=>match gt δ' with
   | none=>none
   | some false=>compD f gt ge δ ds
   | some true=>match ge δ' with
    | none=>none
    | some y=>(compD f gt ge δ ds).map fun r=>y :: r
@[simp] noncomputable def compG (n:Nat) (caps:List Nat) (gi:GA) (f:D → Ds → Option Ds) (gt:GB) (ge:GE):GE :=
 fun δ=>(gi δ).bind fun items=>if items.length ≤ sizeLine then (compD f gt ge (dComp n caps δ) items).map .lst else none
@[simp] noncomputable def dStart (N:List Str) (ds:List D):Ds:=ds.map .sh ++ List.replicate (N.length - ds.length) .un
@[simp] noncomputable def isInt:D → Bool
 | .int _=>true | .bl _=>true | _=>false
@[simp] noncomputable def isStr:D → Bool
 | .str _=>true | _=>false
@[simp] noncomputable def isBool:D → Bool
 | .bl _=>true | _=>false
@[simp] noncomputable def isTup:D → Bool
 | .tup _=>true | _=>false
@[simp] noncomputable def isLst:D → Bool
 | .lst _=>true | _=>false
@[simp] noncomputable def ii (f:Int → Int → Option D):D → D → Option D
 | .int i,.int j=>f i j
 | _,_=>none
@[simp] noncomputable def subD:D → D → Option D:=ii fun i j=>some (.int (i - j))
@[simp] noncomputable def fdivD:D → D → Option D:=ii fun i j=>if 0 < j ∧ j < 1073741824 then some (.int (i / j)) else none
@[simp] noncomputable def modD:D → D → Option D:=ii fun i j=>if 0 < j then some (.int (i % j)) else none
@[simp] noncomputable def powD:D → D → Option D:=ii fun i j=>if 0 ≤ j ∧ j ≤ 1000000 ∧ i.natAbs < 2 ^ 64 then some (.int (i ^ j.toNat)) else none
@[simp] noncomputable def ltD:D → D → Option D:=ii fun i j=>some (.bl (decide (i < j)))
@[simp] noncomputable def gtD:D → D → Option D:=ii fun i j=>some (.bl (decide (j < i)))
@[simp] noncomputable def geD:D → D → Option D:=ii fun i j=>some (.bl (decide (j ≤ i)))
@[simp] noncomputable def eqS:D → D → Option Bool
 | .non,.non=>some true
 | .non,.int _=>some false | .int _,.non=>some false | .non,.bl _=>some false | .bl _,.non=>some false | .non,.str _=>some false | .str _,.non=>some false
 | .int i,.int j=>some (decide (i = j))
 | .bl i,.bl j=>some (decide (i = j))
 | .str i,.str j=>some (decide (i = j))
 | .int _,.str _=>some false | .str _,.int _=>some false | .bl _,.str _=>some false | .str _,.bl _=>some false
 | _,_=>none
@[simp] noncomputable def eqD (x y:D):Option D:=(eqS x y).map .bl
@[simp] noncomputable def neD (x y:D):Option D:=(eqS x y).map fun b=>.bl (!b)
@[simp] noncomputable def isNon:D → Bool
 | .non=>true | _=>false
@[simp] noncomputable def isND (x y:D):Option D:=match y with
 | .non=>some (.bl (isNon x))
 | _=>none
noncomputable def ixN (n:Nat) (i:Int):Option Nat:=if 0 ≤ i then (if i < n then some i.toNat else none) else if -(n:Int) ≤ i then some (i + n).toNat else none
noncomputable def atI {α:Type} (xs:List α) (i:Int):Option α:=(ixN xs.length i).bind fun j=>xs[j]?
@[simp] noncomputable def ixD:D → D → Option D
 | .lst xs,.int i=>atI xs i
 | .tup xs,.int i=>atI xs i
 | .str z,.int i=>if z.length ≤ sizeLine then (atI z.cps.toList i).map fun c=>.str ⟨#[c]⟩ else none
 | _,_=>none
noncomputable def sIx (n d:Nat):Option Int → Nat
 | none=>d
 | some v=>if v < 0 then (v + (n:Int)).toNat else min v.toNat n
noncomputable def cutD (xs:List D) (lo hi:Option Int):List D:=(xs.drop (sIx xs.length 0 lo)).take (sIx xs.length xs.length hi - sIx xs.length 0 lo)
noncomputable abbrev GO:=Ds → Option (Option Int)
@[simp] noncomputable def noneO:GO:=fun _=>some none
@[simp] noncomputable def someO (g:GE):GO:=fun δ=>(g δ).bind fun d=>(asI d).map some
@[simp] noncomputable def lenD:List D → Option D
 | [.str z]=>if z.length ≤ sizeLine then some (.int z.length) else none
 | [.lst xs]=>some (.int xs.length)
 | [.tup xs]=>some (.int xs.length)
 | _=>none
noncomputable def bools:List D → Option (List Bool)
 | []=>some []
 | .bl b :: ds=>(bools ds).map fun r=>b :: r
 | _=>none
@[simp] noncomputable def allD:List D → Option D
 | [.lst ds]=>(bools ds).map fun bs=>.bl (bs.all id)
 | _=>none
noncomputable def strL:List D → Option (List Str)
 | []=>some []
 | .str b :: ds=>(strL ds).map fun r=>b :: r
 | _=>none
@[simp] noncomputable def joinD (d:D) (ds:List D):Option D:=match d,ds with
 | .str sep,[.lst xs]=>(strL xs).bind fun ys=>if (ys.map (·.length)).sum + ys.length * sep.length ≤ 16777216 then some (.str (Txt.join sep ys)) else none
 | _,_=>none
@[simp] noncomputable def joinG (g:GE) (gA:GA):GE:=fun δ=>(g δ).bind fun d=>(gA δ).bind fun ds=>joinD d ds
@[simp] noncomputable def tupOfD:List D → Option D
 | [.lst ds]=>some (.tup ds)
 | [.tup ds]=>some (.tup ds)
 | _=>none
theorem compD_filter {f:D → Ds → Option Ds} {gt:GB} {ge:GE} {δ:Ds} (p:D → Bool) (h:D → D):∀ {items:List D},(∀ d ∈ items,∃ δ',f d δ = some δ' ∧ gt δ' = some (p d) ∧ (p d = true → ge δ' = some (h d))) →
  compD f gt ge δ items = some ((items.filter p).map h)
 | [],_=>rfl
 | d :: ds,H=>by
  obtain ⟨δ',e1,e2,e3⟩:=H d List.mem_cons_self
  have ih:=compD_filter p h fun d hd=>H d (List.mem_cons_of_mem _ hd)
  unfold compD
  rw [e1]
  dsimp only
  rw [e2]
  cases hp:p d with
  | false =>
   dsimp only
   rw [List.filter_cons_of_neg (by simp [hp])]
   exact ih
  | true =>
   dsimp only
   rw [e3 hp,ih,List.filter_cons_of_pos hp]
   rfl
theorem compD_map {f:D → Ds → Option Ds} {gt:GB} {ge:GE} {δ:Ds} (h:D → D) {items:List D} (H:∀ d ∈ items,∃ δ',f d δ = some δ' ∧ gt δ' = some true ∧ ge δ' = some (h d)):compD f gt ge δ items = some (items.map h):=by
 have:=compD_filter (f:=f) (gt:=gt) (ge:=ge) (δ:=δ) (fun _=>true) h (items:=items) fun d hd=>by
  obtain ⟨δ',a,b,c⟩:=H d hd
  exact ⟨δ',a,b,fun _=>c⟩
 rw [List.filter_eq_self.mpr (by simp)] at this
 exact this
theorem bools_map {α:Type} (h:α → Bool):∀ l:List α,bools (l.map fun a=>.bl (h a)) = some (l.map h)
 | []=>rfl
 | a :: l=>by
  show (bools (l.map fun a=>.bl (h a))).map (fun r=>h a :: r) = _
  rw [bools_map h l]
  rfl
theorem strs_map {α:Type} (h:α → Str):∀ l:List α,strL (l.map fun a=>.str (h a)) = some (l.map h)
 | []=>rfl
 | a :: l=>by
  show (strL (l.map fun a=>.str (h a))).map (fun r=>h a :: r) = _
  rw [strs_map h l]
  rfl
theorem forD_inv {f:D → Ds → Option Ds} {G:GS} (P:Nat → Ds → Prop):∀ (items:List D) (i:Nat) (δ:Ds),(∀ j d δ,items[j]? = some d → P (i + j) δ → ∃ δ1 δ2,f d δ = some δ1 ∧ G δ1 = some (.nx δ2) ∧ P (i + j + 1) δ2) → P i δ →
  ∃ δ',forD f G items δ = some (.nx δ') ∧ P (i + items.length) δ'
 | [],i,δ,_,h=>⟨δ,rfl,h⟩
 | d :: ds,i,δ,H,h=>by
  obtain ⟨δ1,δ2,e1,e2,h2⟩:=H 0 d δ rfl h
  obtain ⟨δ',e3,h3⟩:=forD_inv P ds (i + 1) δ2 (fun j d δ hj hp=>by
   have q:i + (j + 1) = i + 1 + j:=by omega
   obtain ⟨a,b,c,d',e⟩:=H (j + 1) d δ (by simpa using hj) (by rw [q]; exact hp)
   exact ⟨a,b,c,d',by rw [q] at e; exact e⟩) h2
  have q:i + (d :: ds).length = i + 1 + ds.length:=by rw [List.length_cons]; omega
  refine ⟨δ',?_,by rw [q]; exact h3⟩
  unfold forD
  rw [e1]
  simp only [Option.bind_some,e2]
  exact e3
theorem seq_nx {G1 G2:GS} {δ δ':Ds} (h:G1 δ = some (.nx δ')):seqD G1 G2 δ = G2 δ':=by unfold seqD; rw [h]
theorem seq_rt {G1 G2:GS} {δ:Ds} {d:D} (h:G1 δ = some (.rt d)):seqD G1 G2 δ = some (.rt d):=by unfold seqD; rw [h]
theorem ret_of {g:GE} {δ:Ds} {d:D} (h:g δ = some d):retD g δ = some (.rt d):=by unfold retD; rw [h]; rfl
theorem set_of {g:GE} {i:Nat} {δ:Ds} {d:D} (h:g δ = some d):setD (gN i) g δ = some (.nx (δ.set i (.sh d))):=by unfold setD; rw [h]; rfl
theorem if_t {g:GB} {Ga Gb:GS} {δ:Ds} (h:g δ = some true):ifD g Ga Gb δ = Ga δ:=by unfold ifD; rw [h]; rfl
theorem if_f {g:GB} {Ga Gb:GS} {δ:Ds} (h:g δ = some false):ifD g Ga Gb δ = Gb δ:=by unfold ifD; rw [h]; rfl
theorem comp_of {n:Nat} {caps:List Nat} {gi:GA} {f:D → Ds → Option Ds} {gt:GB} {ge:GE} {δ:Ds} {items out:List D} (h1:gi δ = some items) (h2:items.length ≤ sizeLine) (h3:compD f gt ge (dComp n caps δ) items = some out):compG n caps gi f gt ge δ = some (.lst out):=by
 unfold compG
 rw [h1]
 show (if items.length ≤ sizeLine then (compD f gt ge (dComp n caps δ) items).map D.lst else none) = _
 rw [if_pos h2,h3]
 rfl
theorem for_of {gi:GA} {f:D → Ds → Option Ds} {G:GS} {δ:Ds} {items:List D} {r:Option Res} (h1:gi δ = some items) (h2:forD f G items δ = r):forG gi f G δ = r:=by
 unfold forG
 rw [h1]
 exact h2
theorem cons_of {g:GE} {gA:GA} {δ:Ds} {d:D} {ds:List D} (h1:g δ = some d) (h2:gA δ = some ds):consA g gA δ = some (d :: ds):=by unfold consA; rw [h1,h2]; rfl
theorem oA_of {gA:GA} {δ:Ds} {ds:List D} {f:List D → Option D} (h:gA δ = some ds):oA gA f δ = f ds:=by unfold oA; rw [h]; rfl
theorem o2_of {ga gb:GE} {δ:Ds} {x y:D} {f:D → D → Option D} (h1:ga δ = some x) (h2:gb δ = some y):o2 ga gb f δ = f x y:=by unfold o2; rw [h1,h2]; rfl
theorem join_of {g:GE} {gA:GA} {δ:Ds} {x:D} {ds:List D} (h1:g δ = some x) (h2:gA δ = some ds):joinG g gA δ = joinD x ds:=by unfold joinG; rw [h1,h2]; rfl
theorem atI_in {α:Type} {xs:List α} {i:Int} (h0:0 ≤ i) (h1:i < xs.length) (d:α):atI xs i = some (xs.getD i.toNat d):=by
 unfold atI ixN
 rw [if_pos h0,if_pos h1]
 show xs[i.toNat]? = _
 have:i.toNat < xs.length:=by omega
 simp [List.getD_eq_getElem?_getD,this]
end DL
namespace DL
open PySem PySem.Spec PyProof.Rows L2
noncomputable abbrev BS:=Addr → Prop
noncomputable abbrev St:=L2.St
noncomputable abbrev noH:Hp:=fun _=>none
structure NB (o:Option HO):Prop where
 ne:o ≠ none
 nf:∀ ob u,o ≠ some (.frz ob u)
instance {o:Option HO}:CoeFun (NB o) (fun _=>o = none → False):=⟨fun h e=>h.ne e⟩
theorem NB.of {o:Option HO} {u:HO} (h:o = some u) (n:∀ ob u',u ≠ .frz ob u'):NB o:=by
 subst h
 exact ⟨fun z=>(by cases z),fun ob u' z=>n ob u' (Option.some.inj z)⟩
theorem NB.same {H H':Hp} {a:Addr} (q:Same H H') (h:NB (H a)):NB (H' a):=by
 cases e:H a with
 | none=>exact absurd e h.ne
 | some o=>exact .of (q a o e) fun ob u z=>h.nf ob u (by rw [e,z])
noncomputable def SqT' (K:W.Frag) (H:Hp) (B:BS) (a:Addr) (xs:List V):Prop:=¬ B a ∧ H a = some (.tup xs)
noncomputable def SqL' (K:W.Frag) (H:Hp) (B:BS) (a:Addr) (xs:List V):Prop:=(¬ B a ∧ Rd H a (.lst xs)) ∨ SqL K noH a xs
section
variable {K:W.Frag} {H H':Hp} {B B':BS} {a:Addr} {xs:List V}
theorem rd_no {a:Addr} {u:HO} (h:Rd noH a u):False:=by
 rcases h with h | ⟨o,h⟩ <;> cases h
theorem SqT'.to (h:SqT' K H B a xs):SqT K H a xs:=.inl (.inl h.2)
theorem SqL'.to (h:SqL' K H B a xs):SqL K H a xs:=by
 rcases h with h | h | h
 ·exact .inl h.2
 ·exact (rd_no h).elim
 ·exact .inr h
noncomputable def Gr (H H':Hp) (B B':BS):Prop:=∀ b o,¬ B b → H b = some o → ¬ B' b ∧ H' b = some o
theorem SqT'.mono (g:Gr H H' B B') (h:SqT' K H B a xs):SqT' K H' B' a xs:=g _ _ h.1 h.2
theorem SqL'.mono (g:Gr H H' B B') (h:SqL' K H B a xs):SqL' K H' B' a xs:=by
 rcases h with ⟨n,h | ⟨o,h⟩⟩ | h
 ·exact .inl ⟨(g _ _ n h).1,.inl (g _ _ n h).2⟩
 ·exact .inl ⟨(g _ _ n h).1,.inr ⟨o,(g _ _ n h).2⟩⟩
 ·exact .inr h
theorem Gr.same (s:Same H H'):Gr H H' B B:=fun b o n h=>⟨n,s b o h⟩
theorem Gr.less (h:∀ a,B' a → B a):Gr H H B B':=fun b o n e=>⟨fun z=>n (h b z),e⟩
end
noncomputable abbrev KS:=Sum (List Key) (List (List Key))
noncomputable def dOb:KS → List V → HO
 | .inl ks,xs=>.dK (ks.zip xs)
 | .inr ks,xs=>.dT (ks.zip xs)
noncomputable def dLn:KS → Nat
 | .inl ks=>ks.length
 | .inr ks=>ks.length
noncomputable def LamFd (fd:FuncData) (x y:Str) (c cd:Addr):Prop :=
 ∃ p1 p2 p3,fd.body = .expr (.Subscript (.Name x p1) (.Name y p2) p3) ∧ fd.scope.isCoroutine = false ∧ fd.scope.isGenerator = false ∧ fd.scope.kind = .function ∧ fd.scope.names.lookup y = some .local ∧ fd.scope.names.lookup x = some .free ∧
  (∀ z ∈ fd.scope.names,z.2 ≠ .cell) ∧ fd.closure = [(x,c)] ∧ fd.code = .ref cd ∧ fd.globals = mainGlobals ∧ (x == ("__debug__" : Str)) = false ∧ (x == ("__classdict__" : Str)) = false ∧ (y == ("__debug__" : Str)) = false ∧
  ∀ u:Value,bindArgs fd ⟨[u],[]⟩ = pure [(y,u)]
noncomputable def FnAtH (H:Hp) (B:BS) (f:Addr) (kvs:List (Key × V)):Prop :=
 ∃ (oF oC oK:Obj) (fd:FuncData) (c cd p:Addr) (x y:Str),(¬ B f ∧ H f = some (.frz oF (.own f))) ∧ (oF.cls = .type "function" ∧ oF.data = .func fd ∧ LamFd fd x y c cd) ∧ (¬ B c ∧ H c = some (.frz oC (.own c))) ∧ oC.data = .cell (some (.ref p)) ∧
  (¬ B cd ∧ H cd = some (.frz oK (.own cd))) ∧ (∃ vs t,oK.data = .fields vs ∧ vs[1]? = some (.str fd.qualname t)) ∧ ¬ B p ∧ H p = some (.dK kvs)
theorem FnAtH.mono {H H':Hp} {B B':BS} {f:Addr} {kvs:List (Key × V)} (g:Gr H H' B B') (h:FnAtH H B f kvs):FnAtH H' B' f kvs:=by
 obtain ⟨oF,oC,oK,fd,c,cd,p,x,y,⟨b1,h1⟩,a,⟨b2,h2⟩,e,⟨b3,h3⟩,q,b4,h4⟩:=h
 exact ⟨oF,oC,oK,fd,c,cd,p,x,y,g _ _ b1 h1,a,g _ _ b2 h2,e,g _ _ b3 h3,q,g _ _ b4 h4⟩
mutual
noncomputable def Rp (K:W.Frag) (H:Hp) (B:BS):D → V → Prop
 | .non,v=>v = .non
 | .bl b,v=>v = .bl b
 | .int i,v=>v = .int i
 | .str x,v=>v = .str x
 | .tup ds,v=>∃ a xs,v = .ref a ∧ SqT' K H B a xs ∧ Rps K H B ds xs
 | .lst ds,v=>∃ a xs,v = .ref a ∧ SqL' K H B a xs ∧ Rps K H B ds xs
 | .dct ks ds,v=>∃ a xs,v = .ref a ∧ ¬ B a ∧ H a = some (dOb ks xs) ∧ dLn ks = xs.length ∧ Rps K H B ds xs
 | .fn ks ds,v=>∃ a xs,v = .ref a ∧ FnAtH H B a (ks.zip xs) ∧ ks.length = xs.length ∧ Rps K H B ds xs
noncomputable def Rps (K:W.Frag) (H:Hp) (B:BS):List D → List V → Prop
 | [],xs=>xs = []
 | d :: ds,xs=>∃ x r,xs = x :: r ∧ Rp K H B d x ∧ Rps K H B ds r
end
mutual
theorem Rp.mono {K:W.Frag} {H H':Hp} {B B':BS} (g:Gr H H' B B'):∀ {d:D} {v:V},Rp K H B d v → Rp K H' B' d v
 | .non,_,h=>by unfold Rp at h ⊢; exact h
 | .bl _,_,h=>by unfold Rp at h ⊢; exact h
 | .int _,_,h=>by unfold Rp at h ⊢; exact h
 | .str _,_,h=>by unfold Rp at h ⊢; exact h
 | .tup ds,_,h=>by
  unfold Rp at h ⊢
  obtain ⟨a,xs,e,q,r⟩:=h
  exact ⟨a,xs,e,q.mono g,Rps.mono g r⟩
 | .lst ds,_,h=>by
  unfold Rp at h ⊢
  obtain ⟨a,xs,e,q,r⟩:=h
  exact ⟨a,xs,e,q.mono g,Rps.mono g r⟩
 | .dct ks ds,_,h=>by
  unfold Rp at h ⊢
  obtain ⟨a,xs,e,n,q,l,r⟩:=h
  exact ⟨a,xs,e,(g _ _ n q).1,(g _ _ n q).2,l,Rps.mono g r⟩
 | .fn ks ds,_,h=>by
  unfold Rp at h ⊢
  obtain ⟨a,xs,e,q,l,r⟩:=h
  exact ⟨a,xs,e,q.mono g,l,Rps.mono g r⟩
theorem Rps.mono {K:W.Frag} {H H':Hp} {B B':BS} (g:Gr H H' B B'):∀ {ds:List D} {xs:List V},Rps K H B ds xs → Rps K H' B' ds xs
 | [],_,h=>by unfold Rps at h ⊢; exact h
 | d :: ds,_,h=>by
  unfold Rps at h ⊢
  obtain ⟨x,r,e,h1,h2⟩:=h
  exact ⟨x,r,e,Rp.mono g h1,Rps.mono g h2⟩
end
section
variable {K:W.Frag} {H H':Hp} {B B':BS} {v:V}
theorem rp_non:Rp K H B .non v = (v = .non):=by unfold Rp; rfl
theorem rp_bl {b:Bool}:Rp K H B (.bl b) v = (v = .bl b):=by unfold Rp; rfl
theorem rp_int {i:Int}:Rp K H B (.int i) v = (v = .int i):=by unfold Rp; rfl
theorem rp_str {x:Str}:Rp K H B (.str x) v = (v = .str x):=by unfold Rp; rfl
theorem rp_tup {ds:List D}:Rp K H B (.tup ds) v = ∃ a xs,v = .ref a ∧ SqT' K H B a xs ∧ Rps K H B ds xs:=by conv=>lhs; unfold Rp
theorem rp_lst {ds:List D}:Rp K H B (.lst ds) v = ∃ a xs,v = .ref a ∧ SqL' K H B a xs ∧ Rps K H B ds xs:=by conv=>lhs; unfold Rp
theorem rp_dctG {ks:KS} {ds:List D}:Rp K H B (.dct ks ds) v = ∃ a xs,v = .ref a ∧ ¬ B a ∧ H a = some (dOb ks xs) ∧ dLn ks = xs.length ∧ Rps K H B ds xs:=by conv=>lhs; unfold Rp
theorem rp_fn {ks:List Key} {ds:List D}:Rp K H B (.fn ks ds) v = ∃ a xs,v = .ref a ∧ FnAtH H B a (ks.zip xs) ∧ ks.length = xs.length ∧ Rps K H B ds xs:=by conv=>lhs; unfold Rp
theorem rps_nil {xs:List V}:Rps K H B [] xs = (xs = []):=by unfold Rps; rfl
theorem rps_cons {d:D} {ds:List D} {xs:List V}:Rps K H B (d :: ds) xs = ∃ x r,xs = x :: r ∧ Rp K H B d x ∧ Rps K H B ds r:=by conv=>lhs; unfold Rps
theorem Rps.length:∀ {ds:List D} {xs:List V},Rps K H B ds xs → xs.length = ds.length
 | [],_,h=>by rw [rps_nil] at h; subst h; rfl
 | d :: ds,_,h=>by
  rw [rps_cons] at h
  obtain ⟨x,r,rfl,_,h2⟩:=h
  simp [Rps.length h2]
theorem Rps.get:∀ {ds:List D} {xs:List V} {i:Nat} {d:D},Rps K H B ds xs → ds[i]? = some d → ∃ x,xs[i]? = some x ∧ Rp K H B d x
 | [],_,_,_,_,e=>by simp at e
 | d :: ds,_,0,d',h,e=>by
  rw [rps_cons] at h
  obtain ⟨x,r,rfl,h1,_⟩:=h
  simp at e; subst e
  exact ⟨x,rfl,h1⟩
 | d :: ds,_,i + 1,d',h,e=>by
  rw [rps_cons] at h
  obtain ⟨x,r,rfl,_,h2⟩:=h
  obtain ⟨y,e1,e2⟩:=Rps.get (i:=i) h2 (by simpa using e)
  exact ⟨y,by simpa using e1,e2⟩
theorem Rps.snoc:∀ {ds:List D} {xs:List V} {d:D} {x:V},Rps K H B ds xs → Rp K H B d x → Rps K H B (ds ++ [d]) (xs ++ [x])
 | [],_,_,_,h,r=>by
  rw [rps_nil] at h; subst h
  rw [List.nil_append,List.nil_append,rps_cons]
  exact ⟨_,[],rfl,r,by rw [rps_nil]⟩
 | d :: ds,_,_,_,h,r=>by
  rw [rps_cons] at h
  obtain ⟨y,t,rfl,h1,h2⟩:=h
  rw [List.cons_append,List.cons_append,rps_cons]
  exact ⟨y,_,rfl,h1,Rps.snoc h2 r⟩
theorem Rps.append:∀ {ds es:List D} {xs ys:List V},Rps K H B ds xs → Rps K H B es ys → Rps K H B (ds ++ es) (xs ++ ys)
 | [],_,_,_,h,r=>by rw [rps_nil] at h; subst h; exact r
 | d :: ds,_,_,_,h,r=>by
  rw [rps_cons] at h
  obtain ⟨y,t,rfl,h1,h2⟩:=h
  rw [List.cons_append,List.cons_append,rps_cons]
  exact ⟨y,_,rfl,h1,Rps.append h2 r⟩
theorem Rps.drop:∀ {ds:List D} {xs:List V} (n:Nat),Rps K H B ds xs → Rps K H B (ds.drop n) (xs.drop n)
 | _,_,0,h=>h
 | [],_,n + 1,h=>by rw [rps_nil] at h; subst h; simpa [rps_nil]
 | d :: ds,_,n + 1,h=>by
  rw [rps_cons] at h
  obtain ⟨y,t,rfl,h1,h2⟩:=h
  simpa using Rps.drop n h2
theorem Rps.take:∀ {ds:List D} {xs:List V} (n:Nat),Rps K H B ds xs → Rps K H B (ds.take n) (xs.take n)
 | _,_,0,h=>by simp [rps_nil]
 | [],_,n + 1,h=>by rw [rps_nil] at h; subst h; simp [rps_nil]
 | d :: ds,_,n + 1,h=>by
  rw [rps_cons] at h
  obtain ⟨y,t,rfl,h1,h2⟩:=h
  rw [List.take_succ_cons,List.take_succ_cons,rps_cons]
  exact ⟨y,_,rfl,h1,Rps.take n h2⟩
theorem Rps.same {ds:List D} {xs:List V} (s:Same H H') (h:Rps K H B ds xs):Rps K H' B ds xs:=Rps.mono (Gr.same s) h
theorem Rp.same {d:D} {v:V} (s:Same H H') (h:Rp K H B d v):Rp K H' B d v:=Rp.mono (Gr.same s) h
end
noncomputable def RpO (K:W.Frag) (H:Hp) (B:BS) (d:D) (a:Addr):Prop:=match d with
 | .lst ds=>∃ xs,H a = some (.lst xs) ∧ Rps K H B ds xs
 | .dct ks ds=>∃ xs,H a = some (dOb ks xs) ∧ dLn ks = xs.length ∧ Rps K H B ds xs
 | _=>False
theorem RpO.same {K:W.Frag} {H H':Hp} {B:BS} {d:D} {a:Addr} (s:Same H H') (h:RpO K H B d a):RpO K H' B d a:=by
 cases d <;> try exact h.elim
 ·obtain ⟨xs,e,r⟩:=h; exact ⟨xs,s _ _ e,r.same s⟩
 ·obtain ⟨xs,e,l,r⟩:=h; exact ⟨xs,s _ _ e,l,r.same s⟩
theorem RpO.rp {K:W.Frag} {H:Hp} {B B':BS} {d:D} {a:Addr} (l:∀ a,B' a → B a) (n:¬ B' a) (h:RpO K H B d a):Rp K H B' d (.ref a):=by
 cases d <;> try exact h.elim
 ·obtain ⟨xs,e,r⟩:=h
  rw [rp_lst]
  exact ⟨a,xs,rfl,.inl ⟨n,.inl e⟩,r.mono (Gr.less l)⟩
 ·obtain ⟨xs,e,q,r⟩:=h
  rw [rp_dctG]
  exact ⟨a,xs,rfl,n,e,q,r.mono (Gr.less l)⟩
theorem RpO.live {K:W.Frag} {H:Hp} {B:BS} {d:D} {a:Addr} (h:RpO K H B d a):NB (H a):=by
 cases d <;> try exact h.elim
 ·obtain ⟨xs,e,r⟩:=h; exact .of e fun _ _=>fun z=>nomatch z
 ·obtain ⟨xs,e,q,r⟩:=h; refine .of e fun _ _ z=>?_; unfold dOb at z; split at z <;> cases z
noncomputable def RpL (K:W.Frag) (H:Hp) (B:BS) (d:D) (a:Addr):Prop:=match d with
 | .tup es=>∃ ds,es = [.int (a:Int),.lst ds] ∧ ∃ xs,H a = some (.lst xs) ∧ Rps K H B ds xs
 | d=>RpO K H B d a
theorem RpO.toL {K:W.Frag} {H:Hp} {B:BS} {d:D} {a:Addr} (h:RpO K H B d a):RpL K H B d a:=by
 cases d with
 | tup es=>exact (show False from h).elim
 | _=>exact h
theorem RpL.toO {K:W.Frag} {H:Hp} {B:BS} {d:D} {a:Addr} (n:isL d = false) (h:RpL K H B d a):RpO K H B d a:=by
 cases d with
 | tup es=>cases n
 | _=>exact h
theorem RpL.same {K:W.Frag} {H H':Hp} {B:BS} {d:D} {a:Addr} (s:Same H H') (h:RpL K H B d a):RpL K H' B d a:=by
 cases d with
 | tup es=>obtain ⟨ds,q,xs,e,r⟩:=h; exact ⟨ds,q,xs,s _ _ e,r.same s⟩
 | _=>exact (RpO.same s (RpL.toO rfl h)).toL
theorem RpL.rp {K:W.Frag} {H:Hp} {B B':BS} {d:D} {a:Addr} (l:∀ a,B' a → B a) (n:¬ B' a) (h:RpL K H B d a):Rp K H B' (unl d) (.ref a):=by
 cases d with
 | tup es=>obtain ⟨ds,rfl,xs,e,r⟩:=h; exact RpO.rp (d:=.lst ds) l n ⟨xs,e,r⟩
 | _=>exact RpO.rp l n (RpL.toO rfl h)
theorem RpL.live {K:W.Frag} {H:Hp} {B:BS} {d:D} {a:Addr} (h:RpL K H B d a):NB (H a):=by
 cases d with
 | tup es=>obtain ⟨ds,q,xs,e,r⟩:=h; exact .of e fun _ _=>fun z=>nomatch z
 | _=>exact RpO.live (RpL.toO rfl h)
noncomputable def XcAt (a C:Addr) (od:Option Addr):Heap → Prop:=fun h=>∃ oe,h.get? a = some oe ∧ oe.cls = .ref C ∧ (∀ dx,od = some dx → oe.dict = some dx) ∧ ∃ vs,oe.data = .fields vs
noncomputable def XdAt (H:Hp) (B:BS) (od:Option Addr):Option Int → Prop
 | none=>True
 | some n=>∃ dx,od = some dx ∧ ¬ B dx ∧ H dx = some (.xd [("at",.int n)])
noncomputable def XcR (K:W.Frag) (H:Hp) (B:BS) (c:Str) (n:Option Int) (a:Addr):Prop:=∃ C od,¬ B a ∧ H a = some (.ext (XcAt a C od)) ∧ W.nsIn K mainGlobals c = some (some (.ref C)) ∧ XdAt H B od n
theorem XcR.mono {K:W.Frag} {H H':Hp} {B B':BS} {c:Str} {n:Option Int} {a:Addr} (g:Gr H H' B B') (h:XcR K H B c n a):XcR K H' B' c n a:=by
 obtain ⟨C,od,h1,h2,h3,h4⟩:=h
 refine ⟨C,od,(g _ _ h1 h2).1,(g _ _ h1 h2).2,h3,?_⟩
 cases n with
 | none=>trivial
 | some n=>obtain ⟨dx,e,q1,q2⟩:=h4; exact ⟨dx,e,(g _ _ q1 q2).1,(g _ _ q1 q2).2⟩
noncomputable def SlR (K:W.Frag) (H:Hp) (B:BS) (o:Option V):Sl → Prop
 | .un=>True
 | .sh d=>∃ v,o = some v ∧ Rp K H B d v
 | .ow d=>∃ a,o = some (.ref a) ∧ B a ∧ RpL K H B d a
 | .ex c n=>∃ a,o = some (.ref a) ∧ XcR K H B c n a
theorem Pd.get {α β:Type} {F:α → β → Prop}:∀ {l:List α} {m:List β} {i:Nat} {b:β},Paired F l m → m[i]? = some b → ∃ a,l[i]? = some a ∧ F a b
 | _,_,_,_,.nil,e=>by simp at e
 | _,_,0,_,.cons r _,e=>by simp at e; subst e; exact ⟨_,rfl,r⟩
 | _,_,i + 1,b,.cons _ t,e=>by
  obtain ⟨u,h1,h2⟩:=Pd.get (i:=i) (b:=b) t (by simpa using e)
  exact ⟨u,by simpa using h1,h2⟩
theorem Pd.imp {α β:Type} {F G:α → β → Prop} (h:∀ a b,F a b → G a b):∀ {l:List α} {m:List β},Paired F l m → Paired G l m
 | _,_,.nil=>.nil
 | _,_,.cons r t=>.cons (h _ _ r) (Pd.imp h t)
theorem Pd.set {α β:Type} {F:α → β → Prop} {a:α} {b:β} (r:F a b):∀ {l:List α} {m:List β} (i:Nat),Paired F l m → Paired F (l.set i a) (m.set i b)
 | _,_,_,.nil=>.nil
 | _,_,0,.cons _ t=>.cons r t
 | _,_,i + 1,.cons q t=>.cons q (Pd.set r i t)
theorem Pd.len {α β:Type} {F:α → β → Prop}:∀ {l:List α} {m:List β},Paired F l m → l.length = m.length
 | _,_,.nil=>rfl
 | _,_,.cons _ t=>by simp [Pd.len t]
theorem Pd.app {α β:Type} {F:α → β → Prop}:∀ {l l':List α} {m m':List β},Paired F l m → Paired F l' m' → Paired F (l ++ l') (m ++ m')
 | _,_,_,_,.nil,s=>s
 | _,_,_,_,.cons r t,s=>.cons r (Pd.app t s)
structure Env (K:W.Frag) (H:Hp) (B:BS) (σ:St) (δ:Ds):Prop where
 all:Paired (SlR K H B) σ δ
 bad:∀ a,B a → NB (H a)
 own:∀ (i j:Nat) (a:Addr) (ds es:D),δ[i]? = some (.ow ds) → δ[j]? = some (.ow es) → σ[i]? = some (some (.ref a)) → σ[j]? = some (some (.ref a)) → i = j
section
variable {K:W.Frag} {H H':Hp} {B:BS} {σ σ':St} {δ δ':Ds}
theorem SlR.same {o:Option V} {s:Sl} (q:Same H H') (h:SlR K H B o s):SlR K H' B o s:=by
 cases s with
 | un=>trivial
 | sh d=>obtain ⟨v,e,r⟩:=h; exact ⟨v,e,r.same q⟩
 | ow d=>obtain ⟨a,e,b,r⟩:=h; exact ⟨a,e,b,r.same q⟩
 | ex c n=>obtain ⟨a,e,r⟩:=h; exact ⟨a,e,r.mono (Gr.same q)⟩
theorem Env.same (q:Same H H') (e:Env K H B σ δ):Env K H' B σ δ :=
 ⟨Pd.imp (fun _ _ h=>h.same q) e.all,(fun a b=>(e.bad a b).same q),e.own⟩
theorem Env.free (e:Env K H B σ δ) {p:Addr} (h:H p = none):¬ B p:=fun z=>e.bad p z h
theorem Env.get (e:Env K H B σ δ) {i:Nat} {d:D} (h:δ[i]? = some (.sh d)):∃ v,σ[i]? = some (some v) ∧ Rp K H B d v:=by
 obtain ⟨o,h1,v,rfl,r⟩:=Pd.get e.all h
 exact ⟨v,h1,r⟩
theorem Env.set (e:Env K H B σ δ) (i:Nat) {d:D} {v:V} (r:Rp K H B d v):Env K H B (σ.set i (some v)) (δ.set i (.sh d)):=by
 refine ⟨Pd.set ⟨v,rfl,r⟩ i e.all,e.bad,fun j k a ds es h1 h2 h3 h4=>?_⟩
 have hj:j ≠ i:=by
  rintro rfl
  by_cases hl:j < δ.length
  ·rw [List.getElem?_set_self hl] at h1; cases h1
  ·rw [List.getElem?_eq_none (by simpa using hl)] at h1; cases h1
 have hk:k ≠ i:=by
  rintro rfl
  by_cases hl:k < δ.length
  ·rw [List.getElem?_set_self hl] at h2; cases h2
  ·rw [List.getElem?_eq_none (by simpa using hl)] at h2; cases h2
 rw [List.getElem?_set_ne (Ne.symm hj)] at h1 h3
 rw [List.getElem?_set_ne (Ne.symm hk)] at h2 h4
 exact e.own j k a ds es h1 h2 h3 h4
end
theorem same_upd {H:Hp} {p:Addr} {o:HO} (h:H p = none):Same H (upd H p o):=fun b u e=>by rw [upd_ne (ne_of_none e h)]; exact e
noncomputable def tD (K:W.Frag) (B:BS) (δ:Ds) (g:Ds → Option D):TE:=fun σ H Q=>∃ d,Env K H B σ δ ∧ g δ = some d ∧ ∀ v H',Same H H' → Rp K H' B d v → Q v H'
structure PD (X:Cx) (e:Expr) (g:Ds → Option D):Prop where
 mk :: go:∀ B δ,PE X e (tD X.K B δ g)
instance {X:Cx} {e:Expr} {g:Ds → Option D}:CoeFun (PD X e g) (fun _=>∀ B δ,PE X e (tD X.K B δ g)):=⟨PD.go⟩
noncomputable def tDT (K:W.Frag) (B:BS) (δ:Ds) (g:Ds → Option Bool):TT:=fun σ H Q=>∃ b,Env K H B σ δ ∧ g δ = some b ∧ ∀ H',Same H H' → Q b H'
structure PTD (X:Cx) (e:Expr) (g:Ds → Option Bool):Prop where
 mk :: go:∀ B δ,PT X e (tDT X.K B δ g)
instance {X:Cx} {e:Expr} {g:Ds → Option Bool}:CoeFun (PTD X e g) (fun _=>∀ B δ,PT X e (tDT X.K B δ g)):=⟨PTD.go⟩
structure PWD (X:Cx) (e:Expr) (g:Ds → Option Bool):Prop where
 mk :: go:∀ B δ,PW X e (tDT X.K B δ g)
instance {X:Cx} {e:Expr} {g:Ds → Option Bool}:CoeFun (PWD X e g) (fun _=>∀ B δ,PW X e (tDT X.K B δ g)):=⟨PWD.go⟩
noncomputable def tDA (K:W.Frag) (B:BS) (δ:Ds) (g:Ds → Option (List D)):TA:=fun σ H Q=>∃ ds,Env K H B σ δ ∧ g δ = some ds ∧ ∀ vs H',Same H H' → Rps K H' B ds vs → Q vs H'
structure PDA (X:Cx) (es:List Expr) (g:Ds → Option (List D)):Prop where
 mk :: go:∀ B δ,PA X es (tDA X.K B δ g)
instance {X:Cx} {es:List Expr} {g:Ds → Option (List D)}:CoeFun (PDA X es g) (fun _=>∀ B δ,PA X es (tDA X.K B δ g)):=⟨PDA.go⟩
theorem asB_eq {d:D} {b:Bool} (h:asB d = some b):d = .bl b:=by
 cases d <;> simp [asB] at h
 subst h; rfl
noncomputable def Op2 (K:W.Frag) (r:R2) (f:D → D → Option D):Prop:=∀ (H:Hp) (B:BS) (x y:V) (dx dy d:D) (Q:VK),(∀ a,B a → NB (H a)) → Rp K H B dx x → Rp K H B dy y → f dx dy = some d → (∀ v H',Same H H' → Rp K H' B d v → Q v H') → r x y H Q
noncomputable def FnR (K:W.Frag) (r:List V → Hp → VK → Prop) (f:List D → Option D):Prop:=∀ (H:Hp) (B:BS) (xs:List V) (ds:List D) (d:D) (Q:VK),(∀ a,B a → NB (H a)) → Rps K H B ds xs → f ds = some d → (∀ v H',Same H H' → Rp K H' B d v → Q v H') → r xs H Q
section
variable {X:Cx} {e a b c:Expr} {es:List Expr} {pos:Pos} {g ga gb:Ds → Option D} {gA:Ds → Option (List D)} {gt gu:Ds → Option Bool} {rest:List Expr}
theorem _root_.L2.PE.imp {t t':TE} (h:PE X e t) (q:∀ σ H Q,t' σ H Q → t σ H Q):PE X e t':=fun pins s σ H Q I z=>h pins s σ H Q I (q σ H Q z)
theorem _root_.L2.PT.imp {t t':TT} (h:PT X e t) (q:∀ σ H Q,t' σ H Q → t σ H Q):PT X e t':=fun pins s σ H Q I z=>h pins s σ H Q I (q σ H Q z)
theorem _root_.L2.PW.imp {t t':TT} (h:PW X e t) (q:∀ σ H Q,t' σ H Q → t σ H Q):PW X e t':=fun w pins s σ H Q I z=>h w pins s σ H Q I (q σ H Q z)
theorem _root_.L2.PA.imp {t t':TA} (h:PA X es t) (q:∀ σ H Q,t' σ H Q → t σ H Q):PA X es t':=fun p pins s σ H Q I z=>h p pins s σ H Q I (q σ H Q z)
theorem gv_eq {i:Nat} {δ:Ds} {d:D} (h:gv i δ = some d):δ[i]? = some (.sh d):=by
 unfold gv at h
 split at h
 ·cases h; assumption
 ·cases h
theorem pd_var (i:Nat) {x:Str} (hN:X.N[i]? = some x:=by rfl) (hv:Vis X.env.scope x:=by first | exact Or.inl rfl | exact Or.inr (Or.inl rfl) | exact Or.inr (Or.inr rfl)) (hd:(x == ("__debug__" : Str)) = false:=by decide)
  (hcd:(x == ("__classdict__" : Str)) = false:=by decide):PD X (.Name x pos) (gv i):=.mk fun B δ=>(pe_var (i:=i) hN hv hd hcd).imp fun σ H Q ⟨d,en,h,k⟩=>by
 obtain ⟨v,e,r⟩:=en.get (gv_eq h)
 exact ⟨v,e,k v H (Same.refl H) r⟩
theorem pd_int {i:Int} {j:Nat}:PD X (.Constant (.int i) j pos) (gc (.int i)):=.mk fun B δ=>pe_int.imp fun σ H Q ⟨d,en,h,k⟩=>by cases h; exact k _ H (Same.refl H) (by rw [rp_int])
theorem pd_bl {i:Bool} {j:Nat}:PD X (.Constant (.bool i) j pos) (gc (.bl i)):=.mk fun B δ=>pe_bl.imp fun σ H Q ⟨d,en,h,k⟩=>by cases h; exact k _ H (Same.refl H) (by rw [rp_bl])
theorem pd_non {j:Nat}:PD X (.Constant .none j pos) (gc .non):=.mk fun B δ=>pe_non.imp fun σ H Q ⟨d,en,h,k⟩=>by cases h; exact k _ H (Same.refl H) (by rw [rp_non])
theorem pd_str {x:Str} {j:Nat}:PD X (.Constant (.str x) j pos) (gc (.str x)):=.mk fun B δ=>pe_str.imp fun σ H Q ⟨d,en,h,k⟩=>by cases h; exact k _ H (Same.refl H) (by rw [rp_str])
theorem pd_gstr {x y:Str} (hm:∃ t,X.mg x = some (.str y t)) (hg:Gl X x:=by rfl) (hd:(x == ("__debug__" : Str)) = false:=by decide):PD X (.Name x pos) (gc (.str y)):=.mk fun B δ=>by
 obtain ⟨t,hm⟩:=hm
 exact (pe_glob (v:=.str y) hg hm ⟨t,rfl⟩ hd).imp fun σ H Q ⟨d,en,h,k⟩=>by cases h; exact k _ H (Same.refl H) (by rw [rp_str])
theorem pd_gint {x:Str} {i:Int} (hm:∃ t,X.mg x = some (.int i t)) (hg:Gl X x:=by rfl) (hd:(x == ("__debug__" : Str)) = false:=by decide):PD X (.Name x pos) (gc (.int i)):=.mk fun B δ=>by
 obtain ⟨t,hm⟩:=hm
 exact (pe_glob (v:=.int i) hg hm ⟨t,rfl⟩ hd).imp fun σ H Q ⟨d,en,h,k⟩=>by cases h; exact k _ H (Same.refl H) (by rw [rp_int])
theorem o2_red {K:W.Frag} {r:R2} {f:D → D → Option D} (hf:Op2 K r f) {B:BS} {δ:Ds} {σ:St} {H:Hp} {Q:VK} (h:tD K B δ (o2 ga gb f) σ H Q):tOp r (tD K B δ ga) (tD K B δ gb) σ H Q:=by
 obtain ⟨d,en,h,k⟩:=h
 unfold o2 at h
 cases e1:ga δ with
 | none=>rw [e1] at h; cases h
 | some x =>
  cases e2:gb δ with
  | none=>rw [e1,e2] at h; cases h
  | some y =>
   rw [e1,e2] at h
   refine ⟨x,en,e1,fun v1 H1 s1 r1=>⟨y,en.same s1,e2,fun v2 H2 s2 r2=>?_⟩⟩
   exact hf H2 B v1 v2 x y d Q ((en.same s1).same s2).bad (r1.same s2) r2 h fun v H' s r=>k v H' ((s1.trans s2).trans s) r
theorem pd_op {op:Operator} {r:R2} {f:D → D → Option D} (ho:OpR X (binaryOp op) r) (hf:Op2 X.K r f) (ha:PD X a ga) (hb:PD X b gb):PD X (.BinOp a op b pos) (o2 ga gb f):=.mk fun B δ=>(pe_op ho (ha B δ) (hb B δ)).imp fun σ H Q h=>o2_red hf h
theorem pd_cmp {op:CmpOp} {r:R2} {f:D → D → Option D} (ho:OpR X (compareOp op) r) (hf:Op2 X.K r f) (ha:PD X a ga) (hb:PD X b gb) (hm:behindInMarks op b = false:=by first | exact nomark _ | with_unfolding_all rfl):PD X (.Compare a [op] [b] pos) (o2 ga gb f) :=
 .mk fun B δ=>(pe_cmpR ho (ha B δ) (hb B δ) hm).imp fun σ H Q h=>o2_red hf h
theorem pd_ix {r:R2} {f:D → D → Option D} (ho:IxR X r) (hf:Op2 X.K r f) (ha:PD X a ga) (hb:PD X b gb) (hs:PlainIx b:=by exact fun _ _=>rfl):PD X (.Subscript a b pos) (o2 ga gb f) :=
 .mk fun B δ=>(pe_ix ho (ha B δ) (hb B δ) hs).imp fun σ H Q h=>o2_red hf h
theorem ptd_cmp {op:CmpOp} {r:R2} {f:D → D → Option D} (ho:OpR X (compareOp op) r) (hf:Op2 X.K r f) (ha:PD X a ga) (hb:PD X b gb) (hm:behindInMarks op b = false:=by first | exact nomark _ | with_unfolding_all rfl):PTD X (.Compare a [op] [b] pos) (ob (o2 ga gb f)) :=
 .mk fun B δ=>(pt_cmpR ho (ha B δ) (hb B δ) hm).imp fun σ H Q ⟨t,en,h,k⟩=>by
  unfold ob at h
  cases e:o2 ga gb f δ with
  | none=>rw [e] at h; cases h
  | some d =>
   rw [e] at h
   cases asB_eq h
   exact o2_red hf ⟨_,en,e,fun v H' s r=>⟨t,by rw [rp_bl] at r; exact r,k H' s⟩⟩
theorem ptd_val (h:PD X e g) (he:∀ whole,isTrue e X.env whole = (do let v ← whole; standAt e.pos; holding [v] (truthy v)):=by intro _; rfl):PTD X e (ob g) :=
 .mk fun B δ=>(pt_val (h B δ) he).imp fun σ H Q ⟨t,en,h,k⟩=>by
  unfold ob at h
  cases e:g δ with
  | none=>rw [e] at h; cases h
  | some d =>
   rw [e] at h
   cases asB_eq h
   exact ⟨_,en,e,fun v H' s r=>⟨t,by rw [rp_bl] at r; exact r,k H' s⟩⟩
theorem ptd_not (h:PTD X a gt):PTD X (.UnaryOp .Not a pos) (tNotG gt) :=
 .mk fun B δ=>(pt_not (h B δ)).imp fun σ H Q ⟨t,en,h,k⟩=>by
  unfold tNotG at h
  cases e:gt δ with
  | none=>rw [e] at h; cases h
  | some b =>
   rw [e] at h
   cases h
   exact ⟨b,en,e,fun H' s=>k H' s⟩
theorem pwd_or1 (h:PTD X a gt):PWD X (.BoolOp .Or [a] pos) gt:=.mk fun B δ=>pw_or1 (h B δ)
theorem pwd_or (ha:PTD X a gt) (hb:PWD X (.BoolOp .Or (b :: rest) pos) gu):PWD X (.BoolOp .Or (a :: b :: rest) pos) (tOrG gt gu) :=
 .mk fun B δ=>(pw_or (ha B δ) (hb B δ)).imp fun σ H Q ⟨t,en,h,k⟩=>by
  unfold tOrG at h
  cases e:gt δ with
  | none=>rw [e] at h; cases h
  | some b =>
   rw [e] at h
   refine ⟨b,en,e,fun H' s=>?_⟩
   cases b with
   | false=>exact ⟨t,en.same s,h,fun H'' s'=>k H'' (s.trans s')⟩
   | true =>
    simp at h
    subst h
    rw [if_pos rfl]
    exact k H' s
theorem PWD.pt (h:PWD X e gt):PTD X e gt:=.mk fun B δ=>(h B δ).pt
theorem pd_one {op} (h:PD X a g):PD X (.BoolOp op [a] pos) g:=.mk fun B δ=>pe_one (h B δ)
theorem pd_and (ha:PD X a ga) (hb:PD X (.BoolOp .And (b :: rest) pos) gb):PD X (.BoolOp .And (a :: b :: rest) pos) (andG ga gb) :=
 .mk fun B δ=>(pe_and (ha B δ) (hb B δ)).imp fun σ H Q ⟨d,en,h,k⟩=>by
  unfold andG ob at h
  cases e:ga δ with
  | none=>rw [e] at h; cases h
  | some x =>
   rw [e] at h
   refine ⟨x,en,e,fun v H' s r=>?_⟩
   cases x with
   | bl c =>
    rw [rp_bl] at r
    refine ⟨c,r,?_⟩
    cases c with
    | true=>exact ⟨d,en.same s,h,fun v H'' s'=>k v H'' (s.trans s')⟩
    | false =>
     simp [asB] at h
     rw [if_neg Bool.false_ne_true]
     exact k _ H' s (by rw [← h,rp_bl])
   | _=>simp [asB] at h
theorem pd_not (ha:PD X a ga):PD X (.UnaryOp .Not a pos) (notG ga) :=
 .mk fun B δ=>(pe_not (ha B δ)).imp fun σ H Q ⟨d,en,h,k⟩=>by
  unfold notG ob at h
  cases e:ga δ with
  | none=>rw [e] at h; cases h
  | some x =>
   rw [e] at h
   refine ⟨x,en,e,fun v H' s r=>?_⟩
   cases x with
   | bl c =>
    rw [rp_bl] at r
    simp [asB] at h
    exact ⟨c,r,k _ H' s (by rw [← h,rp_bl])⟩
   | _=>simp [asB] at h
theorem pda_nil:PDA X [] nilA:=.mk fun B δ=>pa_nil.imp fun σ H Q ⟨ds,en,h,k⟩=>by cases h; exact k [] H (Same.refl H) (by rw [rps_nil])
theorem pda_cons (ha:PD X e g) (hr:PDA X es gA) (hs:starEach (e :: es) X.env = (false,eval e X.env) :: starEach es X.env:=by rfl):PDA X (e :: es) (consA g gA) :=
 .mk fun B δ=>(pa_cons (ha B δ) (hr B δ) hs).imp fun σ H Q ⟨ds,en,h,k⟩=>by
  unfold consA at h
  cases e1:g δ with
  | none=>rw [e1] at h; cases h
  | some d =>
   cases e2:gA δ with
   | none=>rw [e1,e2] at h; cases h
   | some es' =>
    rw [e1,e2] at h
    cases h
    refine ⟨d,en,e1,fun v H1 s1 r1=>⟨es',en.same s1,e2,fun vs H2 s2 r2=>k _ H2 (s1.trans s2) ?_⟩⟩
    rw [rps_cons]
    exact ⟨v,vs,rfl,r1.same s2,r2⟩
theorem pd_tup {x1} (h:PDA X es gA):PD X (.Tuple es x1 pos) (tupG gA) :=
 .mk fun B δ=>(pe_tup (h B δ)).imp fun σ H Q ⟨d,en,h,k⟩=>by
  unfold tupG at h
  cases e1:gA δ with
  | none=>rw [e1] at h; cases h
  | some ds =>
   rw [e1] at h
   by_cases hl:ds.length ≤ sizeLine
   ·simp only [Option.bind_some,if_pos hl] at h
    cases h
    refine ⟨ds,en,e1,fun vs H1 s1 r1=>⟨by rw [r1.length]; exact hl,fun p hp=>k _ _ (s1.trans (same_upd hp)) ?_⟩⟩
    rw [rp_tup]
    exact ⟨p,vs,rfl,⟨(en.same s1).free hp,upd_same⟩,r1.same (same_upd hp)⟩
   ·simp only [Option.bind_some,if_neg hl] at h
    cases h
theorem pd_lst (h:PDA X es gA):PD X (.List es pos) (lstG gA) :=
 .mk fun B δ=>(pe_lst (h B δ)).imp fun σ H Q ⟨d,en,h,k⟩=>by
  unfold lstG at h
  cases e1:gA δ with
  | none=>rw [e1] at h; cases h
  | some ds =>
   rw [e1] at h
   by_cases hl:ds.length ≤ sizeLine
   ·simp only [Option.bind_some,if_pos hl] at h
    cases h
    refine ⟨ds,en,e1,fun vs H1 s1 r1=>⟨by rw [r1.length]; exact hl,fun p hp=>k _ _ (s1.trans (same_upd hp)) ?_⟩⟩
    rw [rp_lst]
    exact ⟨p,vs,rfl,.inl ⟨(en.same s1).free hp,.inl upd_same⟩,r1.same (same_upd hp)⟩
   ·simp only [Option.bind_some,if_neg hl] at h
    cases h
theorem oA_red {K:W.Frag} {r:List V → Hp → VK → Prop} {f:List D → Option D} (hf:FnR K r f) {B:BS} {δ:Ds} {σ:St} {H:Hp} {Q:VK} (h:tD K B δ (oA gA f) σ H Q):tCB r (tDA K B δ gA) σ H Q:=by
 obtain ⟨d,en,h,k⟩:=h
 unfold oA at h
 cases e1:gA δ with
 | none=>rw [e1] at h; cases h
 | some ds =>
  rw [e1] at h
  exact ⟨ds,en,e1,fun vs H1 s1 r1=>hf H1 B vs ds d Q (en.same s1).bad r1 h fun v H' s r=>k v H' (s1.trans s) r⟩
theorem pd_callB {id:String} {x:Str} {p:Pos} {r:List V → Hp → VK → Prop} {f:List D → Option D} (hc:CallR X (.builtin id) r) (hf:FnR X.K r f) (hm:X.mg x = none) (hv:bootBuiltins x = some (.builtin id)) (ha:PDA X (e :: es) gA) (hg:Gl X x:=by rfl)
  (hn:x ≠ "__name__" := by decide) (hdb:(x == ("__debug__" : Str)) = false:=by decide) (he:starEach (e :: es) X.env = (false,eval e X.env) :: starEach es X.env:=by rfl) (hpl:(backTo pos (starEach es X.env)).any (·.1) = false:=by rfl) :
  PD X (.Call (.Name x p) (e :: es) [] pos) (oA gA f):=.mk fun B δ=>(pe_callB hc hg hm hv (ha B δ) hn hdb he hpl).imp fun σ H Q h=>oA_red hf h
theorem pd_callTy {T:String} {x:Str} {p:Pos} {r:List V → Hp → VK → Prop} {f:List D → Option D} (hc:CallR X (.type T) r) (hf:FnR X.K r f) (hm:X.mg x = none) (hv:bootBuiltins x = some (.type T)) (ha:PDA X (e :: es) gA) (hg:Gl X x:=by rfl)
  (hn:x ≠ "__name__" := by decide) (hdb:(x == ("__debug__" : Str)) = false:=by decide) (he:starEach (e :: es) X.env = (false,eval e X.env) :: starEach es X.env:=by rfl) (hpl:(backTo pos (starEach es X.env)).any (·.1) = false:=by rfl) :
  PD X (.Call (.Name x p) (e :: es) [] pos) (oA gA f):=.mk fun B δ=>(pe_callTy hc hg hm hv (ha B δ) hn hdb he hpl).imp fun σ H Q h=>oA_red hf h
noncomputable def spD (K:W.Frag) (f:List D → Option D):Sp:=fun vs H Q _=>∃ (B:BS) (ds:List D) (d:D),(∀ a,B a → NB (H a)) ∧ Rps K H B ds vs ∧ f ds = some d ∧ ∀ v H',Same H H' → Rp K H' B d v → Q v H'
theorem pd_call {k:Nat} {fa:Addr} {fd:FuncData} {ps:List Str} {x:Str} {p:Pos} {f:List D → Option D} (F:FnOk X.prog X.w X.K X.mg X.base CX0 k fa fd ps (spD X.K f)) (hr:Room k X.A) (hm:X.mg x = some (.ref fa)) (hk:W.keepIn X.K (.ref fa) = true) (hb:Binds X.K fd ps [])
  (ha:PDA X (e :: es) gA) (hg:Gl X x:=by rfl) (hdb:(x == ("__debug__" : Str)) = false:=by decide) (he:starEach (e :: es) X.env = (false,eval e X.env) :: starEach es X.env:=by rfl) (hpl:(backTo pos (starEach es X.env)).any (·.1) = false:=by rfl) :
  PD X (.Call (.Name x p) (e :: es) [] pos) (oA gA f):=.mk fun B δ=>(pe_call (E:=E0) F hr hg hm hk hb .nil pass0 (ha B δ) hdb he hpl).imp fun σ H Q h=>by
 obtain ⟨d,en,h,k⟩:=h
 unfold oA at h
 cases e1:gA δ with
 | none=>rw [e1] at h; cases h
 | some ds =>
  rw [e1] at h
  refine ⟨ds,en,e1,fun vs H1 s1 r1=>?_⟩
  show spD X.K f (vs ++ []) H1 Q E0
  rw [List.append_nil]
  exact ⟨B,ds,d,(en.same s1).bad,r1,h,fun v H' s r=>k v H' (s1.trans s) r⟩
end
end DL
namespace DL
open PySem PySem.Spec PyProof.Rows L2
structure EnvS (K:W.Frag) (H₀:Hp) (B₀:BS) (H:Hp) (σ:St) (δ:Ds):Prop where
 same:Same H₀ H
 ex:∃ B:BS,(∀ a,B₀ a → B a) ∧ (∀ a,B a → B₀ a ∨ H₀ a = none) ∧ Env K H B σ δ
 fr:∀ (i:Nat) (ds:D) (a:Addr),δ[i]? = some (.ow ds) → σ[i]? = some (some (.ref a)) → H₀ a = none
 b0:∀ a,B₀ a → NB (H₀ a)
noncomputable def ResK (K:W.Frag) (H₀:Hp) (B₀:BS) (D:Ends):Res → Prop
 | .nx δ=>∀ σ H,EnvS K H₀ B₀ H σ δ → D.nx σ H
 | .rt d=>∀ v H,Same H₀ H → Rp K H B₀ d v → D.rt v H
 | .bk δ=>∀ σ H,EnvS K H₀ B₀ H σ δ → D.bk σ H
 | .ct δ=>∀ σ H,EnvS K H₀ B₀ H σ δ → D.ct σ H
 | .rf d=>∀ p H,H₀ p = none → Same H₀ H → RpL K H (fun a=>B₀ a ∨ a = p) d p → D.rt (.ref p) H
noncomputable def tDS (K:W.Frag) (H₀:Hp) (B₀:BS) (δ:Ds) (G:Ds → Option Res):TS:=fun D σ H=>∃ r,EnvS K H₀ B₀ H σ δ ∧ G δ = some r ∧ ResK K H₀ B₀ D r
structure PSD (X:Cx) (st:Stmt) (G:Ds → Option Res):Prop where
 mk :: go:∀ H₀ B₀ δ,PS X st (tDS X.K H₀ B₀ δ G)
instance {X:Cx} {st:Stmt} {G:Ds → Option Res}:CoeFun (PSD X st G) (fun _=>∀ H₀ B₀ δ,PS X st (tDS X.K H₀ B₀ δ G)):=⟨PSD.go⟩
structure PSsD (X:Cx) (st:List Stmt) (G:Ds → Option Res):Prop where
 mk :: go:∀ H₀ B₀ δ,PSs X st (tDS X.K H₀ B₀ δ G)
instance {X:Cx} {st:List Stmt} {G:Ds → Option Res}:CoeFun (PSsD X st G) (fun _=>∀ H₀ B₀ δ,PSs X st (tDS X.K H₀ B₀ δ G)):=⟨PSsD.go⟩
section
variable {K:W.Frag} {H₀ H H':Hp} {B₀:BS} {σ:St} {δ:Ds}
theorem EnvS.grow (e:EnvS K H₀ B₀ H σ δ) (s:Same H H'):EnvS K H₀ B₀ H' σ δ:=⟨e.same.trans s,let ⟨B,b1,b2,en⟩:=e.ex; ⟨B,b1,b2,en.same s⟩,e.fr,e.b0⟩
end
structure Wr (idx:List Nat) (σ σ':St) (δ δ':Ds):Prop where
 len:σ'.length = σ.length
 oth:∀ j,j ∉ idx → σ'[j]? = σ[j]? ∧ δ'[j]? = δ[j]?
 own:∀ j ∈ idx,∀ ds,δ'[j]? ≠ some (.ow ds)
noncomputable def tDG (K:W.Frag) (idx:List Nat) (f:D → Ds → Option Ds) (B:BS) (d:D) (δ:Ds):TG:=fun v σ H Q=>∃ δ',Rp K H B d v ∧ Env K H B σ δ ∧ f d δ = some δ' ∧ ∀ σ',Wr idx σ σ' δ δ' → Env K H B σ' δ' → Q σ' H
structure PGD (X:Cx) (tg:Expr) (idx:List Nat) (f:D → Ds → Option Ds):Prop where
 mk :: go:∀ B d δ,PG X tg (tDG X.K idx f B d δ)
instance {X:Cx} {tg:Expr} {idx:List Nat} {f:D → Ds → Option Ds}:CoeFun (PGD X tg idx f) (fun _=>∀ B d δ,PG X tg (tDG X.K idx f B d δ)):=⟨PGD.go⟩
theorem _root_.L2.PG.imp {X:Cx} {tg:Expr} {t t':TG} (h:PG X tg t) (q:∀ v σ H Q,t' v σ H Q → t v σ H Q):PG X tg t':=fun pins s σ H v u Q I r z=>h pins s σ H v u Q I r (q v σ H Q z)
theorem wr_set {σ:St} {δ:Ds} {i:Nat} {v:V} {d:D}:Wr [i] σ (σ.set i (some v)) δ (δ.set i (.sh d)):=by
 refine ⟨by simp,fun j hj=>?_,fun j hj ds h=>?_⟩
 ·have:j ≠ i:=by simpa using hj
  rw [List.getElem?_set_ne (Ne.symm this),List.getElem?_set_ne (Ne.symm this)]
  exact ⟨rfl,rfl⟩
 ·have:j = i:=by simpa using hj
  subst this
  by_cases hl:j < δ.length
  ·rw [List.getElem?_set_self hl] at h; cases h
  ·rw [List.getElem?_eq_none (by simpa using hl)] at h; cases h
theorem pgd_name (i:Nat) {X:Cx} {x:Str} {pos:Pos} (hN:X.N.Nodup) (hi:X.N[i]? = some x:=by rfl) (hx:Loc X.env.scope x:=by first | exact Or.inl rfl | exact Or.inr rfl)
  (hf:X.fn x = true ∨ X.env.scope.names.lookup x = some .local:=by first | exact .inl rfl | exact .inr rfl | assumption):PGD X (.Name x pos) [i] (gN i):=.mk fun B d δ=>(pg_name (i:=i) hN hi hx hf).imp fun v σ H Q ⟨δ',r,en,e,k⟩=>by
 cases e
 exact k _ wr_set (en.set i r)
section
variable {X:Cx} {e tg:Expr} {st:Stmt} {rest:List Stmt} {pos:Pos} {g:Ds → Option D} {G G1 G2 Ga Gb:Ds → Option Res} {gt:Ds → Option Bool} {c:Expr} {as bs body:List Stmt}
theorem pssd_nil:PSsD X [] nilD:=.mk fun H₀ B₀ δ pins s σ H D I ⟨r,en,e,k⟩=>by
 cases e
 exact pss_nil pins s σ H D I (k σ H en)
theorem pssd_cons (h1:PSD X st G1) (h2:PSsD X rest G2):PSsD X (st :: rest) (seqD G1 G2):=.mk fun H₀ B₀ δ pins s σ H D I ⟨r,en,e,k⟩=>by
 unfold seqD at e
 cases e1:G1 δ with
 | none=>rw [e1] at e; cases e
 | some r1 =>
  rw [e1] at e
  cases r1 with
  | nx δ'=>exact pss_cons (h1 H₀ B₀ δ) (h2 H₀ B₀ δ') pins s σ H D I ⟨_,en,e1,fun σ' H' en'=>⟨r,en',e,k⟩⟩
  | rt d=>cases e; exact pss_cons (h1 H₀ B₀ δ) pss_never pins s σ H D I ⟨_,en,e1,k⟩
  | bk δ'=>cases e; exact pss_cons (h1 H₀ B₀ δ) pss_never pins s σ H D I ⟨_,en,e1,k⟩
  | ct δ'=>cases e; exact pss_cons (h1 H₀ B₀ δ) pss_never pins s σ H D I ⟨_,en,e1,k⟩
  | rf d=>cases e; exact pss_cons (h1 H₀ B₀ δ) pss_never pins s σ H D I ⟨_,en,e1,k⟩
theorem psd_ret (h:PD X e g):PSD X (.Return (some e) pos) (retD g):=.mk fun H₀ B₀ δ pins s σ H D I ⟨r,en,e1,k⟩=>by
 unfold retD at e1
 obtain ⟨B,b1,b2,env⟩:=en.ex
 cases e2:g δ with
 | none=>rw [e2] at e1; cases e1
 | some d =>
  rw [e2] at e1
  cases e1
  exact ps_ret (h B δ) pins s σ H D I ⟨d,env,e2,fun v H' s' r=>k v H' (en.same.trans s') (r.mono (Gr.less b1))⟩
theorem EnvS.wr {K:W.Frag} {H₀ H H':Hp} {B₀ B:BS} {σ σ':St} {δ δ':Ds} {idx:List Nat} (e:EnvS K H₀ B₀ H σ δ) (b1:∀ a,B₀ a → B a) (b2:∀ a,B a → B₀ a ∨ H₀ a = none) (s:Same H H') (w:Wr idx σ σ' δ δ') (en:Env K H' B σ' δ'):EnvS K H₀ B₀ H' σ' δ':=by
 refine ⟨e.same.trans s,⟨B,b1,b2,en⟩,fun i ds a h1 h2=>?_,e.b0⟩
 by_cases hi:i ∈ idx
 ·exact absurd h1 (w.own i hi ds)
 ·rw [(w.oth i hi).2] at h1
  rw [(w.oth i hi).1] at h2
  exact e.fr i ds a h1 h2
theorem psd_asg {idx:List Nat} {f:D → Ds → Option Ds} (h:PD X e g) (hg:PGD X tg idx f) (hs:swapsWithSole [tg] e pos.line X.env = pure false:=by rfl) (hw:swappedStores [tg] e X.env = pure none:=by rfl)
  (h1:(assignEach [tg] X.env).map (·.2) = [assign tg X.env]:=by rfl):PSD X (.Assign [tg] e pos) (setD f g):=.mk fun H₀ B₀ δ pins s σ H D I ⟨r,en,e1,k⟩=>by
 unfold setD at e1
 obtain ⟨B,b1,b2,env⟩:=en.ex
 cases e2:g δ with
 | none=>rw [e2] at e1; cases e1
 | some d =>
  rw [e2] at e1
  simp only [Option.bind_some] at e1
  cases e3:f d δ with
  | none=>rw [e3] at e1; cases e1
  | some δ' =>
   rw [e3] at e1
   cases e1
   exact ps_asg (h B δ) (hg B d δ) hs hw h1 pins s σ H D I ⟨d,env,e2,fun v H' s' r=>⟨δ',r,env.same s',e3,fun σ' w en'=>k σ' H' (en.wr b1 b2 s' w en')⟩⟩
theorem psd_if (hc:PTD X c gt) (ha:PSsD X as Ga) (hb:PSsD X bs Gb):PSD X (.If c as bs pos) (ifD gt Ga Gb):=.mk fun H₀ B₀ δ pins s σ H D I ⟨r,en,e1,k⟩=>by
 unfold ifD at e1
 obtain ⟨B,b1,b2,env⟩:=en.ex
 cases e2:gt δ with
 | none=>rw [e2] at e1; cases e1
 | some t =>
  rw [e2] at e1
  refine ps_if (hc B δ) (ha H₀ B₀ δ) (hb H₀ B₀ δ) pins s σ H D I ⟨t,env,e2,fun H' s'=>?_⟩
  cases t with
  | true=>exact ⟨r,en.grow s',e1,k⟩
  | false=>exact ⟨r,en.grow s',e1,k⟩
structure ItD (K:W.Frag) (B:BS) (J:It) (items:List D) (H₁:Hp):Prop where
 go:∀ i H,Gr H₁ H B B → i < items.length → J.go i H
 yld:∀ i H x H',Gr H₁ H B B → J.yld i H x H' → i < items.length → Same H H' ∧ ∃ d,items[i]? = some d ∧ ∀ B':BS,Gr H₁ H' B B' → (∀ a,B' a → NB (H a)) → Rp K H' B' d x
 stop:∀ i H,Gr H₁ H B B → items.length ≤ i → J.stop i H
noncomputable def tDI (K:W.Frag) (B:BS) (δ:Ds) (g:Ds → Option (List D)):TI:=fun σ H R=>∃ items,Env K H B σ δ ∧ g δ = some items ∧ ∀ J H',Same H H' → ItD K B J items H' → R J H'
structure PID (X:Cx) (tg e:Expr) (g:Ds → Option (List D)):Prop where
 mk :: go:∀ B δ,PI X tg e (tDI X.K B δ g)
instance {X:Cx} {tg e:Expr} {g:Ds → Option (List D)}:CoeFun (PID X tg e g) (fun _=>∀ B δ,PI X tg e (tDI X.K B δ g)):=⟨PID.go⟩
theorem _root_.L2.PI.imp {t t':TI} (h:PI X tg e t) (q:∀ σ H R,t' σ H R → t σ H R):PI X tg e t':=fun pins s σ H R I z=>h pins s σ H R I (q σ H R z)
theorem pid_list (h:PD X e g):PID X tg e (lstI g):=.mk fun B δ=>L2.PI.imp (pi_list (h B δ)) fun σ H R ⟨items,en,e1,k⟩=>by
 unfold lstI at e1
 cases e2:g δ with
 | none=>rw [e2] at e1; cases e1
 | some d =>
  rw [e2] at e1
  cases d <;> simp [asLst] at e1
  subst e1
  refine ⟨_,en,e2,fun v H' s' r=>?_⟩
  rw [rp_lst] at r
  obtain ⟨a,xs,rfl,q,rs⟩:=r
  refine ⟨a,rfl,⟨xs,q.to⟩,k _ H' s' ⟨fun i H2 g2 hi=>?_,fun i H2 x H3 g2 y hi=>?_,fun i H2 g2 hi=>?_⟩⟩
  ·have:i < xs.length:=by rw [rs.length]; exact hi
   exact ⟨xs,xs[i],(q.mono g2).to,by simp [this]⟩
  ·obtain ⟨e3,y⟩:=y
   obtain ⟨x',e4,r'⟩:=rs.get (i:=i) (d:=_) (List.getElem?_eq_getElem hi)
   have:=y xs (q.mono g2).to
   rw [e4] at this
   cases this
   subst e3
   exact ⟨Same.refl _,_,List.getElem?_eq_getElem hi,fun B' gB _=>r'.mono gB⟩
  ·exact ⟨xs,(q.mono g2).to,by rw [rs.length]; exact hi⟩
theorem pid_tup (h:PD X e g):PID X tg e (tupI g):=.mk fun B δ=>L2.PI.imp (pi_tup (h B δ)) fun σ H R ⟨items,en,e1,k⟩=>by
 unfold tupI at e1
 cases e2:g δ with
 | none=>rw [e2] at e1; cases e1
 | some d =>
  rw [e2] at e1
  cases d <;> simp [asTup] at e1
  subst e1
  refine ⟨_,en,e2,fun v H' s' r=>?_⟩
  rw [rp_tup] at r
  obtain ⟨a,xs,rfl,q,rs⟩:=r
  refine ⟨a,rfl,⟨xs,q.to⟩,k _ H' s' ⟨fun i H2 g2 hi=>?_,fun i H2 x H3 g2 y hi=>?_,fun i H2 g2 hi=>?_⟩⟩
  ·have:i < xs.length:=by rw [rs.length]; exact hi
   exact ⟨xs,xs[i],(q.mono g2).to,by simp [this]⟩
  ·obtain ⟨e3,y⟩:=y
   obtain ⟨x',e4,r'⟩:=rs.get (i:=i) (d:=_) (List.getElem?_eq_getElem hi)
   have:=y xs (q.mono g2).to
   rw [e4] at this
   cases this
   subst e3
   exact ⟨Same.refl _,_,List.getElem?_eq_getElem hi,fun B' gB _=>r'.mono gB⟩
  ·exact ⟨xs,(q.mono g2).to,by rw [rs.length]; exact hi⟩
theorem signs_len (x:Str):(signs x).length = x.cps.size:=by simp [signs]
theorem pid_str (h:PD X e g):PID X tg e (strI g):=.mk fun B δ=>L2.PI.imp (pi_str (h B δ)) fun σ H R ⟨items,en,e1,k⟩=>by
 unfold strI at e1
 cases e2:g δ with
 | none=>rw [e2] at e1; cases e1
 | some d =>
  rw [e2] at e1
  cases d <;> simp [asSigns] at e1
  subst e1
  refine ⟨_,en,e2,fun v H' s' r=>?_⟩
  rw [rp_str] at r
  refine ⟨_,r,k _ H' s' ⟨fun i H2 g2 hi=>?_,fun i H2 x H3 g2 y hi=>?_,fun i H2 g2 hi=>?_⟩⟩
  ·rw [signs_len] at hi; exact hi
  ·obtain ⟨e3,c,hc,rfl⟩:=y
   subst e3
   refine ⟨Same.refl _,.str ⟨#[c]⟩,?_,fun B' gB _=>by rw [rp_str]⟩
   unfold signs
   rw [List.getElem?_map,Array.getElem?_toList,hc]
   rfl
  ·rw [signs_len] at hi; exact hi
theorem rngD_len (lo hi:Int):(rngD lo hi).length = (hi - lo).toNat:=by simp [rngD]
theorem itd_rng {K:W.Frag} {B:BS} {H:Hp} (lo hi:Int):ItD K B (Itr lo (hi - lo).toNat) (rngD lo hi) H:=by
 refine ⟨fun i H2 g2 hi=>?_,fun i H2 x H3 g2 y hi=>?_,fun i H2 g2 hi=>?_⟩
 ·rw [rngD_len] at hi; exact hi
 ·obtain ⟨e3,rfl⟩:=y
  rw [rngD_len] at hi
  subst e3
  exact ⟨Same.refl _,.int (lo + i),by simp [rngD,hi],fun B' gB _=>by rw [rp_int]⟩
 ·rw [rngD_len] at hi; exact hi
theorem pid_range1 {a:Expr} {gA:Ds → Option (List D)} {p:Pos} (hm:X.mg "range" = none) (ha:PDA X [a] gA) (hg:Gl X "range" := by rfl) (hs:starEach [a] X.env = [(false,eval a X.env)]:=by rfl):PID X tg (.Call (.Name "range" p) [a] [] pos) (rng1I gA) :=
 .mk fun B δ=>L2.PI.imp (pi_range1 hg hm (ha B δ) hs) fun σ H R ⟨items,en,e1,k⟩=>by
 unfold rng1I at e1
 cases e2:gA δ with
 | none=>rw [e2] at e1; cases e1
 | some ds =>
  rw [e2] at e1
  simp only [Option.bind_some] at e1
  unfold rng1D at e1
  split at e1
  ·split at e1
   ·rename_i j hj
    cases e1
    refine ⟨_,en,e2,fun vs H' s' r=>?_⟩
    rw [rps_cons] at r
    obtain ⟨x,t,rfl,r1,r2⟩:=r
    rw [rps_nil] at r2
    subst r2
    rw [rp_int] at r1
    subst r1
    refine ⟨j,rfl,hj.1,hj.2,k _ H' s' ?_⟩
    have:=itd_rng (K:=X.K) (B:=B) (H:=H') 0 j
    rw [Int.sub_zero] at this
    exact this
   ·cases e1
  ·cases e1
theorem pid_range2 {a b:Expr} {gA:Ds → Option (List D)} {p:Pos} (hm:X.mg "range" = none) (ha:PDA X [a,b] gA) (hg:Gl X "range" := by rfl) (hs:starEach [a,b] X.env = [(false,eval a X.env),(false,eval b X.env)]:=by rfl) (hs2:starEach [b] X.env = [(false,eval b X.env)]:=by rfl) :
  PID X tg (.Call (.Name "range" p) [a,b] [] pos) (rng2I gA):=.mk fun B δ=>L2.PI.imp (pi_range2 hg hm (ha B δ) hs hs2) fun σ H R ⟨items,en,e1,k⟩=>by
 unfold rng2I at e1
 cases e2:gA δ with
 | none=>rw [e2] at e1; cases e1
 | some ds =>
  rw [e2] at e1
  simp only [Option.bind_some] at e1
  unfold rng2D at e1
  split at e1
  ·split at e1
   ·rename_i i j hj
    cases e1
    refine ⟨_,en,e2,fun vs H' s' r=>?_⟩
    rw [rps_cons] at r
    obtain ⟨x,t,rfl,r1,r2⟩:=r
    rw [rps_cons] at r2
    obtain ⟨y,t',rfl,r2,r3⟩:=r2
    rw [rps_nil] at r3
    subst r3
    rw [rp_int] at r1 r2
    subst r1 r2
    exact ⟨i,j,rfl,⟨hj.1.1,hj.1.2,hj.2.1,hj.2.2⟩,k _ H' s' (itd_rng i j)⟩
   ·cases e1
  ·cases e1
theorem EnvS.lower {K:W.Frag} {H₀ H₁ H:Hp} {B₀:BS} {σ:St} {δ:Ds} (e:EnvS K H₁ B₀ H σ δ) (s:Same H₀ H₁) (b0:∀ a,B₀ a → NB (H₀ a)):EnvS K H₀ B₀ H σ δ:=by
 obtain ⟨B,b1,b2,en⟩:=e.ex
 exact ⟨s.trans e.same,⟨B,b1,fun a z=>(b2 a z).imp id fun q=>s.free q,en⟩,fun i ds a h1 h2=>s.free (e.fr i ds a h1 h2),b0⟩
open Classical in
theorem psd_for {iter:Expr} {gi:Ds → Option (List D)} {idx:List Nat} {f:D → Ds → Option Ds} (hp:PassesOwn (model X.prog X.w) X.A X.env X.xe) (hc:X.calm = true) (hi:PID X tg iter gi) (hg:PGD X tg idx f) (hb:PSsD X body G)
  (hs:∀ x,foldedSetIterable iter X.env x = pure x:=by intro _; rfl):PSD X (.For tg iter body [] pos) (forG gi f G):=.mk fun H₀ B₀ δ pins s σ H D I ⟨r,en,e1,k⟩=>by
 unfold forG at e1
 obtain ⟨B,b1,b2,env⟩:=en.ex
 cases e2:gi δ with
 | none=>rw [e2] at e1; cases e1
 | some items =>
  rw [e2] at e1
  simp only [Option.bind_some] at e1
  have hg':PG X tg (fun v σ H Q=>∃ B d δ,tDG X.K idx f B d δ v σ H Q):=fun pins s σ H v u Q I r ⟨B,d,δ,h⟩=>hg B d δ pins s σ H v u Q I r h
  have hb':PSs X body (fun D σ H=>∃ H₀ B₀ δ,tDS X.K H₀ B₀ δ G D σ H):=fun pins s σ H D I ⟨H₀,B₀,δ,h⟩=>hb H₀ B₀ δ pins s σ H D I h
  refine ps_for hp hc (hi B δ) hg' hb' hs pins s σ H D I ⟨items,env,e2,fun J H1 s1 it=>?_⟩
  obtain ⟨Hh,hHh⟩:∃ Hh:Hp,Hh = fun b=>if B b ∧ ¬ B₀ b then none else H1 b:=⟨_,rfl⟩
  have hoff:∀ b,¬ B b → Hh b = H1 b:=fun b n=>by rw [hHh]; exact if_neg fun z=>n z.1
  have hown:∀ b,B b → ¬ B₀ b → Hh b = none:=fun b n n'=>by rw [hHh]; exact if_pos ⟨n,n'⟩
  have hin:∀ b,B₀ b → Hh b = H1 b:=fun b n=>by rw [hHh]; exact if_neg fun z=>z.2 n
  have hle:Same Hh H1:=fun b o h=>by
   by_cases z:B b ∧ ¬ B₀ b
   ·rw [hown b z.1 z.2] at h; cases h
   ·rw [hHh] at h
    have h':(if B b ∧ ¬ B₀ b then none else H1 b) = some o:=h
    rw [if_neg z] at h'
    exact h'
  have hS:Same H₀ Hh:=fun b o h=>by
   have h1:=s1 b o (en.same b o h)
   by_cases z:B b
   ·rcases b2 b z with q | q
    ·rw [hin b q]; exact h1
    ·rw [h] at q; cases q
   ·rw [hoff b z]; exact h1
  have env1:=env.same s1
  have start:EnvS X.K Hh B₀ H1 σ δ:=by
   refine ⟨hle,⟨B,b1,fun a z=>?_,env1⟩,fun i ds a h1 h2=>?_,fun a z=>?_⟩
   ·by_cases q:B₀ a
    ·exact .inl q
    ·exact .inr (hown a z q)
   ·have hn:=en.fr i ds a h1 h2
    have nb:¬ B₀ a:=fun z=>en.b0 a z hn
    obtain ⟨o,e3,a',e4,hB,_⟩:=Pd.get env1.all h1
    rw [h2] at e3
    cases e3
    cases e4
    exact hown a hB nb
   ·rw [hin a z]
    exact env1.bad a (b1 a z)
  refine ⟨fun i m σ H=>m = items.length - i ∧ i ≤ items.length ∧ ∃ δi,EnvS X.K Hh B₀ H σ δi ∧ forD f G (items.drop i) δi = some r,⟨_,rfl,Nat.zero_le _,δ,start,e1⟩,?_⟩
  rintro i m σi Hi ⟨rfl,hil,δi,eni,ei⟩
  have gr:Gr H1 Hi B B:=fun b o n h=>⟨n,eni.same b o (by rw [hoff b n]; exact h)⟩
  by_cases hlt:i < items.length
  ·refine .inr ⟨it.go i Hi gr hlt,fun σ' H'=>∃ δn,EnvS X.K Hh B₀ H' σ' δn ∧ forD f G (items.drop (i + 1)) δn = some r,fun σ' H' ⟨δn,en',e'⟩=>⟨items.length - (i + 1),by omega,rfl,hlt,δn,en',e'⟩,fun x H' y=>?_⟩
   obtain ⟨sm,d,hd,rd⟩:=it.yld i Hi x H' gr y hlt
   obtain ⟨B',c1,c2,env0⟩:=eni.ex
   have rd':Rp X.K H' B' d x:=rd B' (fun b o n h=>by
    have h':Hh b = some o:=by rw [hoff b n]; exact h
    refine ⟨fun z=>?_,sm b o (eni.same b o h')⟩
    rcases c2 b z with q | q
    ·exact n (b1 b q)
    ·rw [h'] at q; cases q) env0.bad
   have env':=env0.same sm
   replace eni:=eni.grow sm
   have hdrop:items.drop i = d :: items.drop (i + 1):=by
    rw [List.drop_eq_getElem_cons hlt]
    congr 1
    rw [List.getElem?_eq_getElem hlt] at hd
    exact Option.some.inj hd
   rw [hdrop] at ei
   unfold forD at ei
   cases e3:f d δi with
   | none=>rw [e3] at ei; cases ei
   | some δ2 =>
    rw [e3] at ei
    simp only [Option.bind_some] at ei
    refine ⟨B',d,δi,δ2,rd',env',e3,fun σ' w en'=>?_⟩
    have enb:EnvS X.K Hh B₀ H' σ' δ2:=eni.wr c1 c2 (Same.refl _) w en'
    cases e4:G δ2 with
    | none=>rw [e4] at ei; cases ei
    | some rb =>
     rw [e4] at ei
     refine ⟨Hh,B₀,δ2,rb,enb,e4,?_⟩
     cases rb with
     | nx δn=>exact fun σ' H' en'=>⟨δn,en',ei⟩
     | ct δn=>exact fun σ' H' en'=>⟨δn,en',ei⟩
     | bk δn =>
      cases ei
      exact fun σ' H' en'=>k σ' H' (en'.lower hS en.b0)
     | rt d' =>
      cases ei
      exact fun v H' s' r'=>k v H' (hS.trans s') r'
     | rf d' =>
      cases ei
      exact fun p H' hp s' r'=>k p H' (hS.free hp) (hS.trans s') r'
  ·have e:i = items.length:=by omega
   subst e
   refine .inl ⟨it.stop _ Hi gr (Nat.le_refl _),?_⟩
   rw [List.drop_length] at ei
   cases ei
   exact k σi Hi (eni.lower hS en.b0)
structure PFD (X:Cx) (ifs:List Expr) (g:Ds → Option Bool):Prop where
 mk :: go:∀ B δ,PF X ifs (tDT X.K B δ g)
instance {X:Cx} {ifs:List Expr} {g:Ds → Option Bool}:CoeFun (PFD X ifs g) (fun _=>∀ B δ,PF X ifs (tDT X.K B δ g)):=⟨PFD.go⟩
theorem pfd_nil:PFD X [] noT:=.mk fun B δ pins s σ H Q I ⟨b,en,e,k⟩=>by
 cases e
 exact pf_nil pins s σ H Q I (k H (Same.refl H))
theorem sComp_lt {n:Nat} {caps:List Nat} {σ:St} {j:Nat} (h:j < n):(sComp n caps σ)[j]? = some none:=by
 unfold sComp
 rw [List.getElem?_append_left (by simpa using h),List.getElem?_replicate,if_pos h]
theorem rep_un {K:W.Frag} {H:Hp} {B:BS}:∀ n:Nat,Paired (SlR K H B) (List.replicate n (none:Option V)) (List.replicate n Sl.un)
 | 0=>.nil
 | n + 1=>.cons trivial (rep_un n)
theorem caps_rel {K:W.Frag} {H:Hp} {B:BS} {σ:St} {δ:Ds} (en:Env K H B σ δ):∀ caps:List Nat,Paired (SlR K H B) (caps.map fun j=>(σ[j]?).join) (caps.map fun j=>capSl δ[j]?)
 | []=>.nil
 | j :: caps=>by
  refine .cons ?_ (caps_rel en caps)
  show SlR K H B (σ[j]?).join (capSl δ[j]?)
  cases h:δ[j]? with
  | none=>trivial
  | some sl =>
   cases sl with
   | un=>trivial
   | ow ds=>trivial
   | ex c n=>trivial
   | sh d =>
    obtain ⟨v,e,r⟩:=en.get h
    rw [e]
    exact ⟨v,rfl,r⟩
theorem capSl_ow {o:Option Sl} {ds:D} (h:capSl o = .ow ds):False:=by
 cases o with
 | none=>cases h
 | some s=>cases s <;> cases h
theorem dComp_ow {n:Nat} {caps:List Nat} {δ:Ds} {i:Nat} {ds:D} (h:(dComp n caps δ)[i]? = some (.ow ds)):False:=by
 unfold dComp at h
 by_cases hi:i < n
 ·rw [List.getElem?_append_left (by simpa using hi),List.getElem?_replicate,if_pos hi] at h
  cases h
 ·rw [List.getElem?_append_right (by simpa using hi),List.getElem?_map] at h
  cases q:caps[i - (List.replicate n Sl.un).length]? with
  | none=>rw [q] at h; cases h
  | some j =>
   rw [q] at h
   exact capSl_ow (Option.some.inj h)
theorem Env.comp {K:W.Frag} {H:Hp} {B:BS} {σ:St} {δ:Ds} (en:Env K H B σ δ) (n:Nat) (caps:List Nat):Env K H B (sComp n caps σ) (dComp n caps δ) :=
 ⟨Pd.app (rep_un n) (caps_rel en caps),en.bad,fun i j a ds es h1 _ _ _=>(dComp_ow h1).elim⟩
theorem SlR.gr {K:W.Frag} {H H':Hp} {B B':BS} {o:Option V} {s:Sl} (g:Gr H H' B B') (no:∀ ds,s ≠ .ow ds) (h:SlR K H B o s):SlR K H' B' o s:=by
 cases s with
 | un=>trivial
 | sh d=>obtain ⟨v,e,r⟩:=h; exact ⟨v,e,r.mono g⟩
 | ow ds=>exact absurd rfl (no ds)
 | ex c n=>obtain ⟨a,e,r⟩:=h; exact ⟨a,e,r.mono g⟩
theorem Pd.impG {K:W.Frag} {H H':Hp} {B B':BS} (g:Gr H H' B B'):∀ {σ:St} {δ:Ds},(∀ (i:Nat) (ds:D),δ[i]? ≠ some (.ow ds)) → Paired (SlR K H B) σ δ → Paired (SlR K H' B') σ δ
 | _,_,_,.nil=>.nil
 | _,_,no,.cons r t=>.cons (r.gr g fun ds z=>no 0 ds (by rw [← z]; rfl)) (Pd.impG g (fun i ds z=>no (i + 1) ds (by simpa using z)) t)
noncomputable def tDF (K:W.Frag) (B:BS) (δ:Ds) (g:Ds → Option D):TE:=fun σ H Q=>∃ d,Env K H B σ δ ∧ g δ = some d ∧ ∀ p H',H p = none → Same H H' → RpO K H' (fun a=>B a ∨ a = p) d p → Q (.ref p) H'
structure PDF (X:Cx) (e:Expr) (g:Ds → Option D):Prop where
 mk :: go:∀ B δ,PE X e (tDF X.K B δ g)
instance {X:Cx} {e:Expr} {g:Ds → Option D}:CoeFun (PDF X e g) (fun _=>∀ B δ,PE X e (tDF X.K B δ g)):=⟨PDF.go⟩
theorem tD.toF {K:W.Frag} {B:BS} {δ:Ds} {g:Ds → Option D} {σ:St} {H:Hp} {Q:VK} (h:tD K B δ g σ H Q):tDF K B δ g σ H Q:=by
 obtain ⟨d,en,e,k⟩:=h
 exact ⟨d,en,e,fun p H' hp s r=>k _ H' s (r.rp (fun a z=>.inl z) (en.free hp))⟩
theorem PDF.pd {X:Cx} {e:Expr} {g:Ds → Option D} (h:PDF X e g):PD X e g:=.mk fun B δ=>(h B δ).imp fun σ H Q z=>z.toF
theorem comp_read {K:W.Frag} {B:BS} {δ:Ds} {σ:St} {H:Hp} {Q:VK} {n:Nat} {caps:List Nat} {gi:Ds → Option (List D)} {idx:List Nat} {f:D → Ds → Option Ds} {gt:Ds → Option Bool} {ge:Ds → Option D} (hidx:∀ j ∈ idx,j < n)
  (h:tDF K B δ (compG n caps gi f gt ge) σ H Q) :
  tComp n caps (tDI K B δ gi) (fun v σ H Q=>∃ B d δ,tDG K idx f B d δ v σ H Q) (fun σ H Q=>∃ B δ,tDT K B δ gt σ H Q) (fun σ H Q=>∃ B δ,tD K B δ ge σ H Q) σ H Q:=by
 obtain ⟨d,en,h,k⟩:=h
 unfold compG at h
 cases e1:gi δ with
 | none=>rw [e1] at h; cases h
 | some items =>
  rw [e1] at h
  simp only [Option.bind_some] at h
  by_cases hsz:items.length ≤ sizeLine
  ·rw [if_pos hsz] at h
   cases e2:compD f gt ge (dComp n caps δ) items with
   | none=>rw [e2] at h; cases h
   | some out =>
    rw [e2] at h
    cases h
    refine ⟨items,en,e1,fun J H1 s1 it=>fun L hL=>?_⟩
    have en1:=en.same s1
    have nBL:¬ B L:=en1.free hL
    obtain ⟨Bp,hBp⟩:∃ Bp:BS,Bp = fun a=>B a ∨ a = L:=⟨_,rfl⟩
    have bpL:Bp L:=by rw [hBp]; exact .inr rfl
    have bpB:∀ a,B a → Bp a:=fun a z=>by rw [hBp]; exact .inl z
    have bpI:∀ a,Bp a → B a ∨ a = L:=fun a z=>by rw [hBp] at z; exact z
    have gr:∀ {H2:Hp},Same H1 H2 → Gr H1 H2 B Bp:=fun {H2} s2 b o nb hb=>⟨(fun z=>by
     rcases bpI b z with q | q
     ·exact nb q
     ·subst q; rw [hL] at hb; cases hb),s2 b o hb⟩
    refine ⟨fun i m ys H2=>m = items.length - i ∧ i ≤ items.length ∧ H2 L = some (.lst ys) ∧ Same H1 H2 ∧ ys.length ≤ i ∧ ∃ pre rest,out = pre ++ rest ∧ Rps K H2 Bp pre ys ∧ compD f gt ge (dComp n caps δ) (items.drop i) = some rest,
     ⟨_,rfl,Nat.zero_le _,upd_same,same_upd hL,Nat.le_refl _,[],out,rfl,by rw [rps_nil],e2⟩,?_⟩
    rintro i m ys H2 ⟨rfl,hil,hD,s2,hyl,pre,rest,ho,rp,ec⟩
    have en2:Env K H2 Bp (sComp n caps σ) (dComp n caps δ):=by
     refine ⟨Pd.impG (gr s2) (fun i ds z=>dComp_ow z) (en1.comp n caps).all,fun a z=>?_,fun i j a ds es h1 _ _ _=>(dComp_ow h1).elim⟩
     rcases bpI a z with q | q
     ·exact (en1.same s2).bad a q
     ·subst q; rw [hD]; exact .of rfl fun _ _ z=>nomatch z
    by_cases hlt:i < items.length
    ·refine .inr ⟨it.go i H2 (Gr.same s2) hlt,fun x H3 y=>?_⟩
     obtain ⟨sm,dx,hdx,rx⟩:=it.yld i H2 x H3 (Gr.same s2) y hlt
     have rx':Rp K H3 Bp dx x:=rx Bp (gr (s2.trans sm)) en2.bad
     replace en2:=en2.same sm
     replace s2:=s2.trans sm
     replace hD:=sm _ _ hD
     replace rp:=rp.same sm
     have hdrop:items.drop i = dx :: items.drop (i + 1):=by
      rw [List.drop_eq_getElem_cons hlt]
      congr 1
      rw [List.getElem?_eq_getElem hlt] at hdx
      exact Option.some.inj hdx
     rw [hdrop] at ec
     unfold compD at ec
     cases e3:f dx (dComp n caps δ) with
     | none=>rw [e3] at ec; cases ec
     | some δ' =>
      rw [e3] at ec
      dsimp only at ec
      refine ⟨Bp,dx,dComp n caps δ,δ',rx',en2,e3,fun σ4 w en4=>⟨⟨w.len,fun j v z=>?_⟩,?_⟩⟩
      ·by_cases hj:j ∈ idx
       ·rw [sComp_lt (hidx j hj)] at z; cases z
       ·rw [(w.oth j hj).1]; exact z
      ·cases e4:gt δ' with
       | none=>rw [e4] at ec; cases ec
       | some t =>
        rw [e4] at ec
        refine ⟨Bp,δ',t,en4,e4,fun H5 s5=>?_⟩
        cases t with
        | false =>
         rw [if_neg Bool.false_ne_true]
         exact ⟨items.length - (i + 1),by omega,rfl,hlt,s5 _ _ hD,s2.trans s5,by omega,pre,rest,ho,rp.same s5,ec⟩
        | true =>
         rw [if_pos rfl]
         dsimp only at ec
         cases e5:ge δ' with
         | none=>rw [e5] at ec; cases ec
         | some yd =>
          rw [e5] at ec
          dsimp only at ec
          cases e6:compD f gt ge (dComp n caps δ) (items.drop (i + 1)) with
          | none=>rw [e6] at ec; cases ec
          | some rest' =>
           rw [e6] at ec
           cases ec
           refine ⟨Bp,δ',yd,en4.same s5,e5,fun v H6 s6 r6=>?_⟩
           have hD6:H6 L = some (.lst ys):=s6 _ _ (s5 _ _ hD)
           have g6:Gr H6 (upd H6 L (.lst (ys ++ [v]))) Bp Bp:=fun b o nb hb=>⟨nb,by
            rw [upd_ne (fun z=>nb (by rw [z]; exact bpL))]; exact hb⟩
           refine ⟨hD6,by omega,items.length - (i + 1),by omega,rfl,hlt,upd_same,fun b o hb=>?_,by simp; omega,pre ++ [yd],rest',by rw [ho]; simp,?_,e6⟩
           ·have nbL:b ≠ L:=fun z=>by rw [z,hL] at hb; cases hb
            rw [upd_ne nbL]
            exact s6 _ _ (s5 _ _ (s2 _ _ hb))
           ·exact (Rps.snoc ((rp.same s5).same s6) r6).mono g6
    ·have e:i = items.length:=by omega
     subst e
     refine .inl ⟨it.stop _ H2 (Gr.same s2) (Nat.le_refl _),?_⟩
     rw [List.drop_length] at ec
     have ec':([]:List D) = rest:=Option.some.inj ec
     subst ec'
     rw [List.append_nil] at ho
     subst ho
     refine k L H2 (s1.free hL) (s1.trans s2) ⟨ys,hD,?_⟩
     rw [hBp] at rp
     exact rp
  ·rw [if_neg hsz] at h; cases h
theorem pdf_comp {sc scope:Scope} {elt iter:Expr} {ifs:List Expr} {N':List Str} {n:Nat} {caps:List Nat} {gi:Ds → Option (List D)} {idx:List Nat} {f:D → Ds → Option Ds} {ge:Ds → Option D}
  (hc:X.calm = true) (hsc:X.env.scope = sc) (ok:CompOk sc scope X.N N' n caps) (hidx:∀ j ∈ idx,j < n) (hi:PID X tg iter gi)
  (hg:∀ cl s H ex,PGD (cxComp X scope cl N' s H ex) tg idx f) (ht:∀ cl s H ex,PFD (cxComp X scope cl N' s H ex) ifs gt) (he:∀ cl s H ex,PD (cxComp X scope cl N' s H ex) elt ge)
  (hs:∀ x,foldedSetIterable iter X.env x = pure x:=by intro _; rfl) :
  PDF X (.ListComp elt [⟨tg,iter,ifs,0⟩] scope pos) (compG n caps gi f gt ge):=.mk fun B δ =>
 (pe_comp hc hsc ok (hi B δ) (g:=fun v σ H Q=>∃ B d δ,tDG X.K idx f B d δ v σ H Q) (tt:=fun σ H Q=>∃ B δ,tDT X.K B δ gt σ H Q) (te:=fun σ H Q=>∃ B δ,tD X.K B δ ge σ H Q)
  (fun cl s H ex pins s' σ H v u Q I r ⟨B,d,δ,h⟩=>hg cl s _ ex B d δ pins s' σ H v u Q I r h)
  (fun cl s H ex pins s' σ H Q I ⟨B,δ,h⟩=>ht cl s _ ex B δ pins s' σ H Q I h)
  (fun cl s H ex pins s' σ H Q I ⟨B,δ,h⟩=>he cl s _ ex B δ pins s' σ H Q I h) hs).imp fun σ H Q h=>comp_read hidx h
theorem pd_comp {sc scope:Scope} {elt iter:Expr} {ifs:List Expr} {N':List Str} {n:Nat} {caps:List Nat} {gi:Ds → Option (List D)} {idx:List Nat} {f:D → Ds → Option Ds} {ge:Ds → Option D}
  (hc:X.calm = true) (hsc:X.env.scope = sc) (ok:CompOk sc scope X.N N' n caps) (hidx:∀ j ∈ idx,j < n) (hi:PID X tg iter gi)
  (hg:∀ cl s H ex,PGD (cxComp X scope cl N' s H ex) tg idx f) (ht:∀ cl s H ex,PFD (cxComp X scope cl N' s H ex) ifs gt) (he:∀ cl s H ex,PD (cxComp X scope cl N' s H ex) elt ge)
  (hs:∀ x,foldedSetIterable iter X.env x = pure x:=by intro _; rfl) :
  PD X (.ListComp elt [⟨tg,iter,ifs,0⟩] scope pos) (compG n caps gi f gt ge):=(pdf_comp hc hsc ok hidx hi hg ht he hs).pd
theorem psd_setComp (i:Nat) {y:Str} {py spos:Pos} {sc scope:Scope} {elt iter:Expr} {ifs:List Expr} {N':List Str} {n:Nat} {caps:List Nat} {gi:Ds → Option (List D)} {idx:List Nat} {f:D → Ds → Option Ds} {ge:Ds → Option D}
  (hN:X.N.Nodup) (hc:X.calm = true) (hsc:X.env.scope = sc) (ok:CompOk sc scope X.N N' n caps) (hidx:∀ j ∈ idx,j < n) (hi:PID X tg iter gi)
  (hg:∀ cl s H ex,PGD (cxComp X scope cl N' s H ex) tg idx f) (ht:∀ cl s H ex,PFD (cxComp X scope cl N' s H ex) ifs gt) (he:∀ cl s H ex,PD (cxComp X scope cl N' s H ex) elt ge)
  (hiN:X.N[i]? = some y:=by rfl) (hy:Loc X.env.scope y:=by first | exact Or.inl rfl | exact Or.inr rfl)
  (hsw:swapsWith (.ListComp elt [⟨tg,iter,ifs,0⟩] scope pos) (some (.Name y py)) spos.line X.env = pure true:=by rfl)
  (hs:∀ x,foldedSetIterable iter X.env x = pure x:=by intro _; rfl)
  (hf:X.fn y = true ∨ X.env.scope.names.lookup y = some .local:=by first | exact .inl rfl | exact .inr rfl | assumption) :
  PSD X (.Assign [.Name y py] (.ListComp elt [⟨tg,iter,ifs,0⟩] scope pos) spos) (setD (gN i) (compG n caps gi f gt ge)):=.mk fun H₀ B₀ δ pins s σ H D I ⟨r,en,e1,k⟩=>by
 unfold setD at e1
 obtain ⟨B,b1,b2,env⟩:=en.ex
 cases e2:compG n caps gi f gt ge δ with
 | none=>rw [e2] at e1; cases e1
 | some d =>
  rw [e2] at e1
  cases e1
  refine ps_setComp (i:=i) hN hiN hy hc hsc ok (hi B δ) (g:=fun v σ H Q=>∃ B d δ,tDG X.K idx f B d δ v σ H Q) (tt:=fun σ H Q=>∃ B δ,tDT X.K B δ gt σ H Q) (te:=fun σ H Q=>∃ B δ,tD X.K B δ ge σ H Q)
   (fun cl s H ex pins s' σ H v u Q I r ⟨B,d,δ,h⟩=>hg cl s _ ex B d δ pins s' σ H v u Q I r h)
   (fun cl s H ex pins s' σ H Q I ⟨B,δ,h⟩=>ht cl s _ ex B δ pins s' σ H Q I h)
   (fun cl s H ex pins s' σ H Q I ⟨B,δ,h⟩=>he cl s _ ex B δ pins s' σ H Q I h) hsw hs hf pins s σ H D I (comp_read hidx (tD.toF ⟨d,env,e2,fun v H' s' r'=>k _ H' (en.wr b1 b2 s' wr_set ((env.same s').set i r'))⟩))
end
theorem start_rel {K:W.Frag} {H:Hp} {B:BS} {N:List Str}:∀ {ds:List D} {vs:List V},Rps K H B ds vs → Paired (SlR K H B) (vs.map some) (ds.map Sl.sh)
 | [],_,h=>by rw [rps_nil] at h; subst h; exact .nil
 | d :: ds,_,h=>by
  rw [rps_cons] at h
  obtain ⟨x,r,rfl,h1,h2⟩:=h
  exact .cons ⟨x,rfl,h1⟩ (start_rel (N:=N) h2)
theorem dStart_ow {N:List Str} {ds:List D} {i:Nat} {es:D} (h:(dStart N ds)[i]? = some (.ow es)):False:=by
 unfold dStart at h
 by_cases hi:i < ds.length
 ·rw [List.getElem?_append_left (by simpa using hi),List.getElem?_map] at h
  cases q:ds[i]? with
  | none=>rw [q] at h; cases h
  | some d=>rw [q] at h; cases h
 ·rw [List.getElem?_append_right (by simpa using hi),List.getElem?_replicate] at h
  split at h <;> cases h
section
variable {P:Program} {w:World} {K:W.Frag} {mg:Str → Option Value} {base:Heap}
theorem okD {x qual:Str} {st:Stmt} {fa:Addr} {fd:FuncData} {N ps:List Str} {k:Nat} {f:List D → Option D} {G:Ds → Option Res} (F:Fun K x qual st fa fd) (S:FnScope N ps (defScope st))
  (body:∀ (cdv:Value) (A:Around) (outer:List PySem.Env) (s:Shared) (H:Hp) (E:XK),Room k (A.deeper (envOfC qual (defScope st) s.heap.objs.size fa cdv)) → PSsD (cxOf CX0 P w K mg base N qual (defScope st) fa cdv A outer s H E).nox (defBody st) G)
  (hf:∀ ds d,f ds = some d → ds.length = ps.length ∧ (G (dStart N ds) = some (.rt d) ∨ (d = .non ∧ ∃ δ,G (dStart N ds) = some (.nx δ)) ∨ G (dStart N ds) = some (.rf d) ∧ isL d = false)) :
  FnOk P w K mg base CX0 (k + 1) fa fd ps (spD K f):=by
 refine F.ok S (fun vs H Q E ⟨B,ds,d,_,r,h,_⟩=>?_) (fun cdv A outer s H vs Q E hr ⟨B,ds,d,hb,r,h,q⟩=>?_)
 ·rw [r.length]; exact (hf ds d h).1
 ·refine ⟨_,body cdv A outer s H E hr H B (dStart N ds),?_⟩
  have en:EnvS K H B H (L2.start N vs) (dStart N ds):=by
   refine ⟨Same.refl H,⟨B,fun _ z=>z,fun _ z=>.inl z,⟨?_,hb,fun i j a ds' es h1 _ _ _=>(dStart_ow h1).elim⟩⟩,fun i ds' a h1 _=>(dStart_ow h1).elim,hb⟩
   unfold L2.start dStart
   rw [r.length]
   exact Pd.app (start_rel (N:=N) r) (rep_un _)
  rcases (hf ds d h).2 with e | ⟨rfl,δ,e⟩ | ⟨e,hn⟩
  ·exact ⟨_,en,e,fun v H' s' r'=>q v H' s' r'⟩
  ·exact ⟨_,en,e,fun σ' H' en'=>q .non H' en'.same (by rw [rp_non])⟩
  ·exact ⟨_,en,e,fun p H' hp s' r'=>q _ H' s' ((r'.toO hn).rp (fun a z=>.inl z) (fun z=>hb p z hp))⟩
noncomputable def spN (K:W.Frag) (f:List D → Option D):Sp:=fun vs H Q _=>∃ (B:BS) (ds:List D) (d:D),(∀ a,B a → NB (H a)) ∧ Rps K H B ds vs ∧ f ds = some d ∧ ∀ p H',H p = none → Same H H' → RpO K H' (fun a=>B a ∨ a = p) d p → Q (.ref p) H'
theorem okN {x qual:Str} {st:Stmt} {fa:Addr} {fd:FuncData} {N ps:List Str} {k:Nat} {f:List D → Option D} {G:Ds → Option Res} (F:Fun K x qual st fa fd) (S:FnScope N ps (defScope st))
  (body:∀ (cdv:Value) (A:Around) (outer:List PySem.Env) (s:Shared) (H:Hp) (E:XK),Room k (A.deeper (envOfC qual (defScope st) s.heap.objs.size fa cdv)) → PSsD (cxOf CX0 P w K mg base N qual (defScope st) fa cdv A outer s H E).nox (defBody st) G)
  (hf:∀ ds d,f ds = some d → ds.length = ps.length ∧ G (dStart N ds) = some (.rf d) ∧ isL d = false) :
  FnOk P w K mg base CX0 (k + 1) fa fd ps (spN K f):=by
 refine F.ok S (fun vs H Q E ⟨B,ds,d,_,r,h,_⟩=>?_) (fun cdv A outer s H vs Q E hr ⟨B,ds,d,hb,r,h,q⟩=>?_)
 ·rw [r.length]; exact (hf ds d h).1
 ·refine ⟨_,body cdv A outer s H E hr H B (dStart N ds),?_⟩
  have en:EnvS K H B H (L2.start N vs) (dStart N ds):=by
   refine ⟨Same.refl H,⟨B,fun _ z=>z,fun _ z=>.inl z,⟨?_,hb,fun i j a ds' es h1 _ _ _=>(dStart_ow h1).elim⟩⟩,fun i ds' a h1 _=>(dStart_ow h1).elim,hb⟩
   unfold L2.start dStart
   rw [r.length]
   exact Pd.app (start_rel (N:=N) r) (rep_un _)
  exact ⟨_,en,(hf ds d h).2.1,fun p H' hp s' r'=>q p H' hp s' (r'.toO (hf ds d h).2.2)⟩
end
end DL
namespace L2
open PySem PySem.Spec PyProof.Rows
section
variable {X:Cx}
theorem bools_at:∀ {bs:List Bool} {us:List Value} {i:Nat} {v:Value},Vals (bs.map V.bl) us → us[i]? = some v → v = .bool (bs.getD i true)
 | [],_,_,_,r,e=>by
  rw [List.map_nil] at r
  cases r
  simp at e
 | b :: bs,_,0,v,r,e=>by
  rw [List.map_cons] at r
  cases r with
  | cons r1 r2=>simp at e; subst e; exact r1
 | b :: bs,_,i + 1,v,r,e=>by
  rw [List.map_cons] at r
  cases r with
  | cons r1 r2=>simpa using bools_at (i:=i) r2 (by simpa using e)
theorem all_range (bs:List Bool):(List.range bs.length).all (fun i=>bs.getD i true) = bs.all id:=by
 rw [Bool.eq_iff_iff,List.all_eq_true,List.all_eq_true]
 constructor
 ·intro h b hb
  obtain ⟨i,hi,rfl⟩:=List.mem_iff_getElem.mp hb
  have:=h i (List.mem_range.mpr hi)
  simpa [List.getD_eq_getElem?_getD,hi] using this
 ·intro h i hi
  have hi':=List.mem_range.mp hi
  have:=h bs[i] (List.getElem_mem hi')
  simpa [List.getD_eq_getElem?_getD,hi'] using this
theorem call_all (hc:X.calm = true):CallR X (.builtin "all") (fun xs H Q=>∃ (p:Addr) (bs:List Bool),xs = [.ref p] ∧ SqL X.K H p (bs.map V.bl) ∧ Q (.bl (bs.all id)) H):=by
 intro pins s σ H xs us Q I rs h
 obtain ⟨p,bs,rfl,hq,q⟩:=h
 obtain ⟨u,rfl,ru⟩:=rs.one
 cases ru
 obtain ⟨its,rv,pl,hz⟩:=I.list hq
 refine call_all_walk (wpAny_pyIter_list pl.isList ?_)
 have hp:p ≠ s.heap.objs.size:=by
  obtain ⟨o,n,e,_⟩:=pl
  exact Nat.ne_of_lt (Heap.lt_size e)
 refine ⟨_,_,_,_,_,_,fun i=>bs.getD i true,rfl,Walks.list (A:=X.A.in1) (I.ok.hd hc) s.heap.objs.size p hp its.toArray,⟨⟨_,Heap.get?_push_size _ rfl,rfl,rfl⟩,pl.isList.push _⟩,?_,?_⟩
 ·intro i v s' Q' E' hP hQ
  have e:=bools_at rv (i:=i) (v:=v) (by simpa using hP)
  subst e
  exact wpAny_truthy_bool hQ
 ·intro h' tk hk
  have e1:its.toArray.size = bs.length:=by
   have:=rv.length
   simp at this
   simp [this]
  rw [e1,all_range]
  refine ⟨.bl (bs.all id),H,I.kept (t':=tk) fun b o e=>?_,rfl,q⟩
  refine hk b o ?_ (Heap.get?_push_of_some _ e)
  intro z
  have z':b = s.heap.objs.size:=by simpa using z
  subst z'
  exact absurd (Heap.lt_size e) (Nat.lt_irrefl _)
theorem strs_are:∀ {ys:List Str} {us:List Value},Vals (ys.map V.str) us → StrsAre us ys
 | [],_,r=>by rw [List.map_nil] at r; cases r; exact .nil
 | y :: ys,_,r=>by
  rw [List.map_cons] at r
  cases r with
  | cons r1 r2 =>
   obtain ⟨t,e⟩:=r1
   subst e
   exact .cons y t (strs_are r2)
theorem mt_join:MtR X "str.join" (fun x xs H Q=>∃ (sep:Str) (p:Addr) (ys:List Str),x = .str sep ∧ xs = [.ref p] ∧ SqL X.K H p (ys.map V.str) ∧ (ys.map (·.length)).sum + ys.length * sep.length ≤ 16777216 ∧ Q (.str (Txt.join sep ys)) H):=by
 intro pins s σ H x xs v us Q I rx rs h
 obtain ⟨sep,p,ys,rfl,rfl,hq,hz,q⟩:=h
 obtain ⟨t,rfl⟩:=rx
 obtain ⟨u,rfl,ru⟩:=rs.one
 cases ru
 obtain ⟨its,rv,pl,_⟩:=I.list hq
 exact join_list pl.isList (by simpa using strs_are rv) hz fun t' k=>⟨.str _,H,I.tok k,⟨t',rfl⟩,q⟩
theorem part_of {u:Value} {o:Option Int} (p:IsPart u o):∃ l:Option (Int × Tok),u = partValue l ∧ l.map (·.1) = o:=by
 cases p with
 | none=>exact ⟨none,rfl,rfl⟩
 | int i t=>exact ⟨some (i,t),rfl,rfl⟩
theorem sl_str:SlR X (fun x lo hi H Q=>∃ z,x = .str z ∧ z.length ≤ sizeLine ∧ Q (.str (Txt.slice z lo hi)) H):=by
 intro pins s σ H x v vl vu lo hi sl Q I rx hs pl pu h
 obtain ⟨z,rfl,hz,q⟩:=h
 obtain ⟨t,rfl⟩:=rx
 obtain ⟨l,rfl,rfl⟩:=part_of pl
 obtain ⟨u,rfl,rfl⟩:=part_of pu
 refine ⟨"str",_,F.slot_str_getitem.lookup,typeIs_str _ _ _,wpAny_getItem_str_slice (l:=l) (u:=u) (st:=none) ?_ rfl (post_val_or_str ⟨Nat.le_trans (Txt.slice_le z _ _) hz,fun t' k=>⟨.str _,H,I.tok k,⟨t',rfl⟩,q⟩⟩)⟩
 obtain ⟨o,h1,h2,h3⟩:=hs
 exact ⟨o,h1,h2,h3⟩
end
end L2
namespace DL
open PySem PySem.Spec PyProof.Rows L2
noncomputable def tyD:D → String
 | .non => "NoneType" | .bl _ => "bool" | .int _ => "int" | .str _ => "str" | .tup _ => "tuple" | .lst _ => "list" | .dct _ _ => "dict" | .fn _ _ => "function"
noncomputable def okT (T:String) (f:D → Bool):Prop:=∀ (K:W.Frag) (d:D),W.kitOne K (.type (tyD d)) (.type T) = some (f d)
theorem okT_int:okT "int" isInt:=fun K d=>by cases d <;> kernel_rfl
theorem okT_str:okT "str" isStr:=fun K d=>by cases d <;> kernel_rfl
theorem okT_bool:okT "bool" isBool:=fun K d=>by cases d <;> kernel_rfl
theorem okT_tuple:okT "tuple" isTup:=fun K d=>by cases d <;> kernel_rfl
theorem okT_list:okT "list" isLst:=fun K d=>by cases d <;> kernel_rfl
section
variable {X:Cx}
theorem call_isi {T:String} {f:D → Bool} (hT:okT T f):CallR X (.builtin "isinstance") (fun xs H Q=>∃ B d x,xs = [x,.ty T] ∧ Rp X.K H B d x ∧ Q (.bl (f d)) H):=by
 intro pins s σ H xs us Q I rs h
 obtain ⟨B,d,x,rfl,r,q⟩:=h
 obtain ⟨u,c,rfl,ru,rc⟩:=rs.two
 obtain rfl:c = Value.type T:=rc
 have fin:∀ tk,EP X pins σ Q (.bool (f d)) { s with toks:=tk }:=fun tk=>⟨.bl _,H,I.tok tk,rfl,q⟩
 have e:=hT X.K d
 cases d with
 | non=>rw [rp_non] at r; subst r; cases (show u = Value.none from ru); exact W.kia_one W.kitx_none I.kIn True.intro e (fun z=>nomatch z) fin
 | bl y=>rw [rp_bl] at r; subst r; cases (show u = Value.bool y from ru); exact W.kia_one W.kitx_bool I.kIn True.intro e (fun z=>nomatch z) fin
 | int i=>rw [rp_int] at r; subst r; obtain ⟨t,rfl⟩:=(show ∃ t,u = Value.int i t from ru); exact W.kia_one W.kitx_int I.kIn True.intro e (fun z=>nomatch z) fin
 | str y=>rw [rp_str] at r; subst r; obtain ⟨t,rfl⟩:=(show ∃ t,u = Value.str y t from ru); exact W.kia_one W.kitx_str I.kIn True.intro e (fun z=>nomatch z) fin
 | tup ds =>
  rw [rp_tup] at r
  obtain ⟨a,xs,rfl,hq,_⟩:=r
  cases (show u = Value.ref a from ru)
  obtain ⟨its,_,p,_⟩:=I.tuple hq.to
  obtain ⟨o,h1,h2,_⟩:=p
  exact W.kia_one W.kitx_tuple I.kIn ⟨o,h1,h2⟩ e (fun z=>nomatch z) fin
 | lst ds =>
  rw [rp_lst] at r
  obtain ⟨a,xs,rfl,hq,_⟩:=r
  cases (show u = Value.ref a from ru)
  obtain ⟨its,_,p,_⟩:=I.list hq.to
  obtain ⟨o,n,h1,h2,_⟩:=p
  exact W.kia_one W.kitx_list I.kIn ⟨o,h1,h2⟩ e (fun z=>nomatch z) fin
 | dct ks ds =>
  rw [rp_dctG] at r
  obtain ⟨a,xs,rfl,_,hq,_⟩:=r
  cases (show u = Value.ref a from ru)
  cases ks with
  | inl ks =>
   obtain ⟨_,_,vs,_,p⟩:=(show ObjOk X.prog X.w H s.heap a (.dK (ks.zip xs)) from I.hok a _ hq)
   obtain ⟨o,es,ep,h1,h2,_⟩:=p
   exact W.kia_one W.kitx_dict I.kIn ⟨o,h1,h2.1⟩ e (fun z=>nomatch z) fin
  | inr ks =>
   obtain ⟨_,_,vs,_,o,es,ep,h1,h2,_⟩:=(show ObjOk X.prog X.w H s.heap a (.dT (ks.zip xs)) from I.hok a _ hq)
   exact W.kia_one W.kitx_dict I.kIn ⟨o,h1,h2.1⟩ e (fun z=>nomatch z) fin
 | fn ks ds =>
  rw [rp_fn] at r
  obtain ⟨a,xs,rfl,hq,_⟩:=r
  cases (show u = Value.ref a from ru)
  obtain ⟨oF,_,_,_,_,_,_,_,_,⟨_,h1⟩,⟨h2,_⟩,_⟩:=hq
  exact W.kia_one KfT.kit I.kIn ⟨oF,(I.hok a _ h1).1,h2⟩ e (fun z=>nomatch z) fin
theorem pd_isi {T:String} {f:D → Bool} {Tn:Str} {e:Expr} {g:Ds → Option D} {p p2 pos:Pos} (hT:okT T f) (hb:bootBuiltins Tn = some (.type T)) (hm:X.mg "isinstance" = none) (hmT:X.mg Tn = none) (h:PD X e g) (hg:Gl X "isinstance" := by rfl) (hgT:Gl X Tn:=by rfl)
  (hn:Tn ≠ "__name__" := by decide) (hd:(Tn == ("__debug__" : Str)) = false:=by decide)
  (he:starEach [e,.Name Tn p2] X.env = (false,eval e X.env) :: starEach [.Name Tn p2] X.env:=by rfl) (he2:starEach [.Name Tn p2] X.env = (false,eval (.Name Tn p2) X.env) :: starEach [] X.env:=by rfl)
  (hpl:(backTo pos (starEach [.Name Tn p2] X.env)).any (·.1) = false:=by rfl) :
  PD X (.Call (.Name "isinstance" p) [e,.Name Tn p2] [] pos) (isiG f g) :=
 .mk fun B δ=>(pe_callB (call_isi hT) hg hm PyProof.Rows.boot_isinstance (pa_cons (h B δ) (pa_cons (pe_bltn (v:=.ty T) hgT hmT hb rfl hn hd) pa_nil he2) he) (by decide) (by decide) he hpl).imp fun σ H Q ⟨d,en,h,k⟩=>by
  unfold isiG at h
  cases e1:g δ with
  | none=>rw [e1] at h; cases h
  | some x =>
   rw [e1] at h
   cases h
   exact ⟨x,en,e1,fun v H1 s1 r1=>⟨B,x,v,rfl,r1,k _ H1 s1 (by rw [rp_bl])⟩⟩
theorem op2_ii {K:W.Frag} {C:Int → Int → Prop} [∀ i j,Decidable (C i j)] {g:Int → Int → V} {g':Int → Int → D} (hg:∀ i j H B,Rp K H B (g' i j) (g i j)):Op2 K (rI C g) (ii fun i j=>if C i j then some (g' i j) else none):=by
 intro H B x y dx dy d Q hb rx ry h k
 cases dx <;> cases dy <;> simp only [ii] at h <;> try cases h
 rename_i i j
 split at h
 ·cases h
  rw [rp_int] at rx ry
  subst rx ry
  exact ⟨i,j,rfl,rfl,by assumption,k _ H (Same.refl H) (hg i j H B)⟩
 ·cases h
theorem op2_i0 {K:W.Frag} {g:Int → Int → V} {g':Int → Int → D} (hg:∀ i j H B,Rp K H B (g' i j) (g i j)):Op2 K (rI0 g) (ii fun i j=>some (g' i j)):=by
 intro H B x y dx dy d Q hb rx ry h k
 cases dx <;> cases dy <;> simp only [ii] at h <;> try cases h
 rename_i i j
 rw [rp_int] at rx ry
 subst rx ry
 exact ⟨i,j,rfl,rfl,k _ H (Same.refl H) (hg i j H B)⟩
instance decDiv (i j:Int):Decidable (CDiv i j):=inferInstanceAs (Decidable (0 < j ∧ j < 1073741824))
instance decPow (i j:Int):Decidable (CPow i j):=inferInstanceAs (Decidable (0 ≤ j ∧ j ≤ 1000000 ∧ i.natAbs < 2 ^ 64))
variable {e a b:Expr} {pos:Pos} {g ga gb:Ds → Option D}
theorem pd_sub (ha:PD X a ga) (hb:PD X b gb):PD X (.BinOp a .Sub b pos) (o2 ga gb subD):=pd_op op_sub (op2_i0 (g':=fun i j=>.int (i - j)) fun _ _ _ _=>by rw [rp_int]) ha hb
theorem pd_fdiv (ha:PD X a ga) (hb:PD X b gb):PD X (.BinOp a .FloorDiv b pos) (o2 ga gb fdivD):=pd_op op_fdiv (op2_ii (C:=CDiv) (g':=fun i j=>.int (i / j)) fun _ _ _ _=>by rw [rp_int]) ha hb
theorem pd_mod (ha:PD X a ga) (hb:PD X b gb):PD X (.BinOp a .Mod b pos) (o2 ga gb modD):=pd_op op_mod (op2_ii (C:=fun _ j=>0 < j) (g':=fun i j=>.int (i % j)) fun _ _ _ _=>by rw [rp_int]) ha hb
theorem pd_pow (ha:PD X a ga) (hb:PD X b gb):PD X (.BinOp a .Pow b pos) (o2 ga gb powD):=pd_op op_pow (op2_ii (C:=CPow) (g':=fun i j=>.int (i ^ j.toNat)) fun _ _ _ _=>by rw [rp_int]) ha hb
end
end DL
namespace L2
open PySem PySem.Spec PyProof.Rows
section
variable {X:Cx}
noncomputable def rCatL (K:W.Frag):R2:=fun x y H Q=>∃ l b xs zs,x = .ref l ∧ y = .ref b ∧ SqL K H l xs ∧ SqL K H b zs ∧ xs.length + zs.length ≤ sizeLine ∧ ∀ p,H p = none → Q (.ref p) (upd H p (.lst (xs ++ zs)))
theorem op_catL:OpR X (binaryOp .Add) (rCatL X.K):=by
 intro pins s σ H x y v u Q I rx ry h
 obtain ⟨l,b,xs,zs,rfl,rfl,hH,hB,hz,q⟩:=h
 cases rx
 cases ry
 obtain ⟨its,r,p1,z1⟩:=I.list hH
 obtain ⟨its2,r2,p2,z2⟩:=I.list hB
 obtain ⟨⟨cls,dd,data,sl⟩,ho,hc,n,hd⟩:=p1.isList
 obtain ⟨⟨cls2,dd2,data2,sl2⟩,ho2,hc2,n2,hd2⟩:=p2.isList
 simp only at hc hd hc2 hd2
 subst hc hd hc2 hd2
 have e:its.toArray ++ its2.toArray = (its ++ its2).toArray:=by simp
 have hsz:its.toArray.size + its2.toArray.size ≤ sizeLine:=by
  rw [List.size_toArray,List.size_toArray,← r.length,← r2.length]; exact hz
 refine concat_meets ⟨_,ho,rfl⟩ ⟨_,ho2,rfl⟩ noFill_list_add seq_list_add PySem.F.slot_list_add PySem.F.entry_list_add (PySem.F.args_list_add_2 _ _) (list_addW l b its.toArray its2.toArray n n2 dd dd2 sl sl2 hsz) ⟨ho,ho2,?_⟩
 rw [e]
 exact ⟨.ref _,_,I.lnew (t':=s.toks) (r.append r2) (by rw [List.length_append]; exact hz),rfl,q _ I.fresh⟩
end
end L2
namespace DL
open PySem PySem.Spec PyProof.Rows L2
section
variable {X:Cx} {K:W.Frag} {e a b:Expr} {es:List Expr} {pos p:Pos} {g ga gb:Ds → Option D} {gA:Ds → Option (List D)}
theorem fresh_not {H:Hp} {B:BS} (hb:∀ a,B a → NB (H a)) {p:Addr} (h:H p = none):¬ B p:=fun z=>hb p z h
theorem rp_newL {H:Hp} {B:BS} {p:Addr} {ds:List D} {xs:List V} (hb:∀ a,B a → NB (H a)) (h:H p = none) (r:Rps K H B ds xs):Rp K (upd H p (.lst xs)) B (.lst ds) (.ref p):=by
 rw [rp_lst]
 exact ⟨p,xs,rfl,.inl ⟨fresh_not hb h,.inl upd_same⟩,r.same (same_upd h)⟩
theorem rp_newT {H:Hp} {B:BS} {p:Addr} {ds:List D} {xs:List V} (hb:∀ a,B a → NB (H a)) (h:H p = none) (r:Rps K H B ds xs):Rp K (upd H p (.tup xs)) B (.tup ds) (.ref p):=by
 rw [rp_tup]
 exact ⟨p,xs,rfl,⟨fresh_not hb h,upd_same⟩,r.same (same_upd h)⟩
theorem op2_lt:Op2 K (rI0 fun i j=>.bl (decide (i < j))) ltD:=op2_i0 (g':=fun i j=>.bl (decide (i < j))) fun _ _ _ _=>by rw [rp_bl]
theorem op2_gt:Op2 K (rI0 fun i j=>.bl (decide (j < i))) gtD:=op2_i0 (g':=fun i j=>.bl (decide (j < i))) fun _ _ _ _=>by rw [rp_bl]
theorem op2_ge:Op2 K (rI0 fun i j=>.bl (decide (j ≤ i))) geD:=op2_i0 (g':=fun i j=>.bl (decide (j ≤ i))) fun _ _ _ _=>by rw [rp_bl]
theorem eqS_ok {H:Hp} {B:BS} {x y:V} {dx dy:D} {b:Bool} (rx:Rp K H B dx x) (ry:Rp K H B dy y) (h:eqS dx dy = some b):scal x y = true ∧ decide (x = y) = b:=by
 cases dx <;> cases dy <;> simp only [eqS] at h <;> try cases h
 all_goals
  simp only [rp_non,rp_bl,rp_int,rp_str] at rx ry
  subst rx ry
  refine ⟨rfl,?_⟩
  simp
theorem op2_eq:Op2 K rEq eqD:=by
 intro H B x y dx dy d Q hb rx ry h k
 unfold eqD at h
 cases e:eqS dx dy with
 | none=>rw [e] at h; cases h
 | some b =>
  rw [e] at h
  cases h
  obtain ⟨h1,h2⟩:=eqS_ok rx ry e
  exact ⟨h1,by rw [h2]; exact k _ H (Same.refl H) (by rw [rp_bl])⟩
theorem op2_ne:Op2 K rNe neD:=by
 intro H B x y dx dy d Q hb rx ry h k
 unfold neD at h
 cases e:eqS dx dy with
 | none=>rw [e] at h; cases h
 | some b =>
  rw [e] at h
  cases h
  obtain ⟨h1,h2⟩:=eqS_ok rx ry e
  exact ⟨h1,by rw [h2]; exact k _ H (Same.refl H) (by rw [rp_bl])⟩
theorem op2_isN:Op2 K (fun x y H Q=>y = .non ∧ Q (.bl (decide (x = .non))) H) isND:=by
 intro H B x y dx dy d Q hb rx ry h k
 have hy:dy = .non:=by cases dy <;> first | rfl | cases h
 subst hy
 cases h
 rw [rp_non] at ry
 refine ⟨ry,k _ H (Same.refl H) ?_⟩
 rw [rp_bl]
 cases dx <;> simp only [rp_non,rp_bl,rp_int,rp_str,rp_tup,rp_lst,rp_dctG,rp_fn] at rx
 all_goals first
  | (subst rx; rfl)
  | (obtain ⟨a,xs,rfl,_⟩:=rx; rfl)
theorem atI_eq {α:Type} (xs:List α) (i:Int):L2.atI xs i = DL.atI xs i:=rfl
theorem sIx_eq (n d:Nat) (o:Option Int):HT.sIx n d o = sIx n d o:=by cases o <;> rfl
theorem atI_rel {H:Hp} {B:BS} {ds:List D} {xs:List V} {i:Int} {d:D} (r:Rps K H B ds xs) (h:DL.atI ds i = some d):∃ v,L2.atI xs i = some v ∧ Rp K H B d v:=by
 rw [atI_eq]
 unfold DL.atI at h ⊢
 rw [r.length]
 cases e:DL.ixN ds.length i with
 | none=>rw [e] at h; cases h
 | some j =>
  rw [e] at h
  exact r.get h
theorem op2_ix:Op2 K (rIx K) ixD:=by
 intro H B x y dx dy d Q hb rx ry h k
 cases dx <;> cases dy <;> simp only [ixD] at h <;> try cases h
 ·split at h
  ·rename_i hz
   rw [rp_str] at rx
   rw [rp_int] at ry
   subst rx ry
   obtain ⟨c,hc,rfl⟩:=Option.map_eq_some_iff.mp h
   exact .inr (.inr ⟨_,_,c,rfl,rfl,hz,hc,k _ H (Same.refl H) (by rw [rp_str])⟩)
  ·cases h
 ·rw [rp_tup] at rx
  rw [rp_int] at ry
  subst ry
  obtain ⟨a,xs,rfl,q,r⟩:=rx
  obtain ⟨v,hv,rv⟩:=atI_rel r h
  exact .inr (.inl ⟨a,xs,_,v,rfl,rfl,q.to,hv,k _ H (Same.refl H) rv⟩)
 ·rw [rp_lst] at rx
  rw [rp_int] at ry
  subst ry
  obtain ⟨a,xs,rfl,q,r⟩:=rx
  obtain ⟨v,hv,rv⟩:=atI_rel r h
  exact .inl ⟨a,xs,_,v,rfl,rfl,q.to,hv,k _ H (Same.refl H) rv⟩
theorem pd_ix' (ha:PD X a ga) (hb:PD X b gb) (hs:PlainIx b:=by exact fun _ _=>rfl):PD X (.Subscript a b pos) (o2 ga gb ixD):=pd_ix ix_seq op2_ix ha hb hs
structure PDO (X:Cx) (e:Option Expr) (g:Ds → Option (Option Int)):Prop where
 mk :: go:∀ B δ,PO X e (fun σ H Q=>∃ o,Env X.K H B σ δ ∧ g δ = some o ∧ ∀ H',Same H H' → Q o H')
instance {X:Cx} {e:Option Expr} {g:Ds → Option (Option Int)}:CoeFun (PDO X e g) (fun _=>∀ B δ,PO X e (fun σ H Q=>∃ o,Env X.K H B σ δ ∧ g δ = some o ∧ ∀ H',Same H H' → Q o H')):=⟨PDO.go⟩
theorem pdo_none:PDO X none noneO:=.mk fun B δ pins s σ H Q I ⟨o,en,h,k⟩=>by
 cases h
 exact po_none pins s σ H Q I (k H (Same.refl H))
theorem pdo_some (h:PD X e g):PDO X (some e) (someO g):=.mk fun B δ pins s σ H Q I ⟨o,en,hq,k⟩=>by
 unfold someO at hq
 cases e1:g δ with
 | none=>rw [e1] at hq; cases hq
 | some d =>
  rw [e1] at hq
  cases d <;> simp [asI] at hq
  subst hq
  exact po_some (h B δ) pins s σ H Q I ⟨_,en,e1,fun v H' s' r=>⟨_,by rw [rp_int] at r; exact r,k H' s'⟩⟩
theorem cut_rel {H:Hp} {B:BS} {ds:List D} {xs:List V} (r:Rps K H B ds xs) (lo hi:Option Int):Rps K H B (cutD ds lo hi) (cutV xs lo hi):=by
 unfold cutD cutV
 rw [r.length,sIx_eq,sIx_eq]
 exact (r.drop _).take _
theorem rps_one {H:Hp} {B:BS} {d:D} {xs:List V} (h:Rps K H B [d] xs):∃ v,xs = [v] ∧ Rp K H B d v:=by
 rw [rps_cons] at h
 obtain ⟨x,r,rfl,h1,h2⟩:=h
 rw [rps_nil] at h2
 subst h2
 exact ⟨x,rfl,h1⟩
theorem fn_len:FnR K (fun xs H Q=>(∃ z,xs = [.str z] ∧ z.length ≤ sizeLine ∧ Q (.int z.length) H) ∨ ∃ p ys,xs = [.ref p] ∧ (SqL K H p ys ∨ SqT K H p ys) ∧ Q (.int ys.length) H) lenD:=by
 intro H B xs ds d Q hb r h k
 unfold lenD at h
 split at h
 ·split at h
  ·cases h
   obtain ⟨v,rfl,r1⟩:=rps_one r
   rw [rp_str] at r1
   subst r1
   exact .inl ⟨_,rfl,by assumption,k _ H (Same.refl H) (by rw [rp_int])⟩
  ·cases h
 ·cases h
  obtain ⟨v,rfl,r1⟩:=rps_one r
  rw [rp_lst] at r1
  obtain ⟨a,ys,rfl,q,rr⟩:=r1
  exact .inr ⟨a,ys,rfl,.inl q.to,k _ H (Same.refl H) (by rw [rp_int,rr.length])⟩
 ·cases h
  obtain ⟨v,rfl,r1⟩:=rps_one r
  rw [rp_tup] at r1
  obtain ⟨a,ys,rfl,q,rr⟩:=r1
  exact .inr ⟨a,ys,rfl,.inr q.to,k _ H (Same.refl H) (by rw [rp_int,rr.length])⟩
 ·cases h
theorem pd_len (hm:X.mg "len" = none) (ha:PDA X [e] gA) (hg:Gl X "len" := by rfl) (he:starEach [e] X.env = (false,eval e X.env) :: starEach [] X.env:=by rfl) (hpl:(backTo pos (starEach [] X.env)).any (·.1) = false:=by rfl) :
  PD X (.Call (.Name "len" p) [e] [] pos) (oA gA lenD):=pd_callB (call_len_str.or call_len_seq) fn_len hm PySem.boot_len ha hg (by decide) (by decide) he hpl
theorem bools_rel {H:Hp} {B:BS}:∀ {ds:List D} {xs:List V} {bs:List Bool},Rps K H B ds xs → bools ds = some bs → xs = bs.map V.bl
 | [],_,_,r,h=>by
  cases h
  rw [rps_nil] at r
  exact r
 | d :: ds,_,bs,r,h=>by
  rw [rps_cons] at r
  obtain ⟨x,t,rfl,r1,r2⟩:=r
  cases d <;> simp only [bools] at h <;> try cases h
  obtain ⟨t',e,rfl⟩:=Option.map_eq_some_iff.mp h
  rw [rp_bl] at r1
  rw [r1,bools_rel r2 e]
  rfl
theorem fn_all:FnR K (fun xs H Q=>∃ (p:Addr) (bs:List Bool),xs = [.ref p] ∧ SqL K H p (bs.map V.bl) ∧ Q (.bl (bs.all id)) H) allD:=by
 intro H B xs ds d Q hb r h k
 unfold allD at h
 split at h
 ·obtain ⟨bs,e,rfl⟩:=Option.map_eq_some_iff.mp h
  obtain ⟨v,rfl,r1⟩:=rps_one r
  rw [rp_lst] at r1
  obtain ⟨a,ys,rfl,q,rr⟩:=r1
  have:=bools_rel rr e
  subst this
  exact ⟨a,bs,rfl,q.to,k _ H (Same.refl H) (by rw [rp_bl])⟩
 ·cases h
theorem strL_rel {H:Hp} {B:BS}:∀ {ds:List D} {xs:List V} {bs:List Str},Rps K H B ds xs → strL ds = some bs → xs = bs.map V.str
 | [],_,_,r,h=>by
  cases h
  rw [rps_nil] at r
  exact r
 | d :: ds,_,bs,r,h=>by
  rw [rps_cons] at r
  obtain ⟨x,t,rfl,r1,r2⟩:=r
  cases d <;> simp only [strL] at h <;> try cases h
  obtain ⟨t',e,rfl⟩:=Option.map_eq_some_iff.mp h
  rw [rp_str] at r1
  rw [r1,strL_rel r2 e]
  rfl
theorem pd_join {o:Expr} {apos cpos:Pos} (ho:PD X o g) (ha:PDA X [e] gA) (hbase:attributeBase o "join" X.env (eval o X.env) = eval o X.env:=by rfl)
  (hfew:((backTo cpos (starEach [e] X.env)).all (fun x=>!x.1) && (backToKw cpos (keywordEach [] X.env)).all (fun x=>x.1.isSome)
   && decide ([e].length + ([]:List Keyword).length + (if ([]:List Keyword).isEmpty then 0 else 1) < 30)) = true:=by rfl)
  (hline:(apos.endLine == cpos.line) = true:=by rfl) (hs:starEach [e] X.env = (false,eval e X.env) :: starEach [] X.env:=by rfl) (hplain:(backTo cpos (starEach [] X.env)).any (·.1) = false:=by rfl) :
  PD X (.Call (.Attribute o "join" apos) [e] [] cpos) (joinG g gA):=.mk fun B δ =>
 (pe_bm F.plainAttrs_str F.slot_str_join F.type_str_join mt_join (ho B δ) (ha B δ) hbase hfew hline hs hplain).imp fun σ H Q ⟨d,en,h,k⟩=>by
  unfold joinG at h
  cases e1:g δ with
  | none=>rw [e1] at h; cases h
  | some x =>
   cases e2:gA δ with
   | none=>rw [e1,e2] at h; cases h
   | some ds =>
    rw [e1,e2] at h
    simp only [Option.bind_some] at h
    unfold joinD at h
    split at h
    ·cases e3:strL _ with
     | none=>rw [e3] at h; cases h
     | some ys =>
      rw [e3] at h
      simp only [Option.bind_some] at h
      split at h
      ·cases h
       refine ⟨_,en,e1,fun v H1 s1 r1=>?_⟩
       rw [rp_str] at r1
       subst r1
       refine ⟨rfl,_,en.same s1,e2,fun vs H2 s2 r2=>?_⟩
       obtain ⟨w,rfl,r3⟩:=rps_one r2
       rw [rp_lst] at r3
       obtain ⟨a,zs,rfl,q,rr⟩:=r3
       have:=strL_rel rr e3
       subst this
       exact ⟨_,a,ys,rfl,rfl,q.to,by assumption,k _ H2 (s1.trans s2) (by rw [rp_str])⟩
      ·cases h
    ·cases h
theorem fn_tup:FnR K (fun xs H Q=>∃ p ys,xs = [.ref p] ∧ ((SqL K H p ys ∧ ∀ l,H l = none → Q (.ref l) (upd H l (.tup ys))) ∨ (SqT K H p ys ∧ Q (.ref p) H))) tupOfD:=by
 intro H B xs ds d Q hb r h k
 unfold tupOfD at h
 split at h
 ·cases h
  obtain ⟨v,rfl,r1⟩:=rps_one r
  rw [rp_lst] at r1
  obtain ⟨a,ys,rfl,q,rr⟩:=r1
  exact ⟨a,ys,rfl,.inl ⟨q.to,fun l hl=>k _ _ (same_upd hl) (rp_newT hb hl rr)⟩⟩
 ·cases h
  obtain ⟨v,rfl,r1⟩:=rps_one r
  have r1':=r1
  rw [rp_tup] at r1
  obtain ⟨a,ys,rfl,q,rr⟩:=r1
  exact ⟨a,ys,rfl,.inr ⟨q.to,k _ H (Same.refl H) r1'⟩⟩
 ·cases h
end
section
variable {X:Cx} {K:W.Frag} {e a b:Expr} {es:List Expr} {pos p:Pos} {g ga gb:Ds → Option D} {gA:Ds → Option (List D)}
theorem pd_neg (h:PD X a ga):PD X (.UnaryOp .USub a pos) (unG negD ga):=.mk fun B δ=>(pe_un un_neg (h B δ)).imp fun σ H Q ⟨d,en,h,k⟩=>by
 unfold unG at h
 cases e1:ga δ with
 | none=>rw [e1] at h; cases h
 | some x =>
  rw [e1] at h
  cases x <;> simp [negD] at h
  subst h
  exact ⟨_,en,e1,fun v H' s r=>⟨_,by rw [rp_int] at r; exact r,k _ H' s (by rw [rp_int])⟩⟩
noncomputable def FnD (P:Program) (w:World) (K:W.Frag) (mg:Str → Option Value) (base:Heap) (x:Str) (k:Nat) (ps:List Str) (f:List D → Option D):Prop :=
 ∃ (fa:Addr) (fd:FuncData),FnOk P w K mg base CX0 k fa fd ps (spD K f) ∧ mg x = some (.ref fa) ∧ W.keepIn K (.ref fa) = true ∧ Binds K fd ps []
theorem pd_fn {k m:Nat} {ps:List Str} {x:Str} {f:List D → Option D} (C:FnD X.prog X.w X.K X.mg X.base x k ps f) (hr:Room m X.A) (hk:k ≤ m) (ha:PDA X (e :: es) gA) (hg:Gl X x:=by rfl) (hdb:(x == ("__debug__" : Str)) = false:=by decide)
  (he:starEach (e :: es) X.env = (false,eval e X.env) :: starEach es X.env:=by rfl) (hpl:(backTo pos (starEach es X.env)).any (·.1) = false:=by rfl):PD X (.Call (.Name x p) (e :: es) [] pos) (oA gA f):=by
 obtain ⟨fa,fd,F,hm,kp,hb⟩:=C
 exact pd_call F (hr.mono hk) hm kp hb ha hg hdb he hpl
theorem pd_cmpD {sc scope:Scope} {elt iter tg:Expr} {ifs:List Expr} {N N':List Str} {n:Nat} {caps:List Nat} {gi:Ds → Option (List D)} {idx:List Nat} {f:D → Ds → Option Ds} {gt:Ds → Option Bool} {ge:Ds → Option D}
  (ok:CompOk sc scope N N' n caps) (hidx:∀ j ∈ idx,j < n) (hi:PID X tg iter gi)
  (hg:∀ cl s H ex,PGD (cxComp X scope cl N' s H ex) tg idx f) (ht:∀ cl s H ex,PFD (cxComp X scope cl N' s H ex) ifs gt) (he:∀ cl s H ex,PD (cxComp X scope cl N' s H ex) elt ge)
  (hc:X.calm = true:=by rfl) (hsc:X.env.scope = sc:=by rfl) (hN:X.N = N:=by rfl) (hs:∀ x,foldedSetIterable iter X.env x = pure x:=by intro _; rfl) :
  PD X (.ListComp elt [⟨tg,iter,ifs,0⟩] scope pos) (compG n caps gi f gt ge):=pd_comp hc hsc (hN ▸ ok) hidx hi hg ht he hs
theorem psd_cmpD (i:Nat) {y:Str} {py spos:Pos} {sc scope:Scope} {elt iter tg:Expr} {ifs:List Expr} {N N':List Str} {n:Nat} {caps:List Nat} {gi:Ds → Option (List D)} {idx:List Nat} {f:D → Ds → Option Ds} {gt:Ds → Option Bool} {ge:Ds → Option D}
  (hnd:N.Nodup) (ok:CompOk sc scope N N' n caps) (hidx:∀ j ∈ idx,j < n) (hi:PID X tg iter gi)
  (hg:∀ cl s H ex,PGD (cxComp X scope cl N' s H ex) tg idx f) (ht:∀ cl s H ex,PFD (cxComp X scope cl N' s H ex) ifs gt) (he:∀ cl s H ex,PD (cxComp X scope cl N' s H ex) elt ge)
  (hc:X.calm = true:=by rfl) (hsc:X.env.scope = sc:=by rfl) (hN:X.N = N:=by rfl)
  (hiN:X.N[i]? = some y:=by rfl) (hy:Loc X.env.scope y:=by first | exact Or.inl rfl | exact Or.inr rfl)
  (hsw:swapsWith (.ListComp elt [⟨tg,iter,ifs,0⟩] scope pos) (some (.Name y py)) spos.line X.env = pure true:=by rfl)
  (hs:∀ x,foldedSetIterable iter X.env x = pure x:=by intro _; rfl)
  (hf:X.fn y = true ∨ X.env.scope.names.lookup y = some .local:=by first | exact .inl rfl | exact .inr rfl | assumption) :
  PSD X (.Assign [.Name y py] (.ListComp elt [⟨tg,iter,ifs,0⟩] scope pos) spos) (setD (gN i) (compG n caps gi f gt ge)):=psd_setComp i (hN ▸ hnd) hc hsc (hN ▸ ok) hidx hi hg ht he hiN hy hsw hs hf
end
end DL
namespace DL
open PySem PySem.Spec PyProof.Rows
@[simp] noncomputable def frz1:Sl → Sl
 | .ow d=>.sh (unl d)
 | s=>s
@[simp] noncomputable def frz (δ:Ds):Ds:=δ.map frz1
@[simp] noncomputable def flat:D → Bool
 | .non=>true | .bl _=>true | .int _=>true | .str _=>true | _=>false
@[simp] noncomputable def borE (g:GE):GE:=fun δ=>(g (frz δ)).bind fun d=>if flat d = true then some d else none
@[simp] noncomputable def borA (g:GE):GE:=fun δ=>g (frz δ)
@[simp] noncomputable def frzAt (i:Nat) (δ:Ds):Ds:=match δ[i]? with
 | some s=>δ.set i (frz1 s)
 | none=>δ
@[simp] noncomputable def frzS (i:Nat) (G:GS):GS:=fun δ=>G (frzAt i δ)
@[simp] noncomputable def ownD (i:Nat) (g:GE):GS:=fun δ=>(g δ).map fun d=>.nx (δ.set i (.ow d))
noncomputable abbrev GX:=Ds → Option (D × Ds)
@[simp] noncomputable def pureX (g:GE):GX:=fun δ=>(g δ).map fun d=>(d,δ)
@[simp] noncomputable def asgX (gx:GX) (ft:D → Ds → Option Ds):GS:=fun δ=>(gx δ).bind fun r=>(ft r.1 r.2).map .nx
@[simp] noncomputable def exprX (gx:GX):GS:=fun δ=>(gx δ).map fun r=>.nx r.2
@[simp] noncomputable def owL (i:Nat) (δ:Ds):Option (List D):=match δ[i]? with
 | some (.ow (.lst ds))=>some ds
 | _=>none
@[simp] noncomputable def appX (i:Nat) (g:GE):GX:=fun δ=>(owL i δ).bind fun ds=>(g δ).bind fun d=>if ds.length < sizeLine then some (.non,δ.set i (.ow (.lst (ds ++ [d])))) else none
@[simp] noncomputable def extX (i:Nat) (g:GE):GX:=fun δ=>(owL i δ).bind fun ds=>(g δ).bind fun d=>match d with
 | .lst es=>if ds.length + es.length ≤ sizeLine then some (.non,δ.set i (.ow (.lst (ds ++ es)))) else none
 | _=>none
noncomputable abbrev KeyD:=Sum Int Str
@[simp] noncomputable def asKey:D → Option KeyD
 | .int i=>some (.inl i)
 | .str x=>some (.inr x)
 | _=>none
noncomputable def getK {κ:Type} [DecidableEq κ]:List κ → List D → κ → Option D
 | k :: ks,d :: ds,q=>if k = q then some d else getK ks ds q
 | _,_,_=>none
noncomputable def hasK {κ:Type} [DecidableEq κ] (ks:List κ) (k:κ):Bool:=ks.any fun q=>decide (q = k)
noncomputable def putKs {κ:Type} [DecidableEq κ] (ks:List κ) (k:κ):List κ:=if hasK ks k = true then ks else ks ++ [k]
noncomputable def putDs {κ:Type} [DecidableEq κ] (ks:List κ) (ds:List D) (q:κ) (v:D):List D:=if hasK ks q = true then (ks.zip ds).map (fun p=>if p.1 = q then v else p.2) else ds ++ [v]
@[simp] noncomputable def owDc (i:Nat) (δ:Ds):Option (List KeyD × List D):=match δ[i]? with
 | some (.ow (.dct (.inl ks) ds))=>some (ks,ds)
 | _=>none
@[simp] noncomputable def putAt (i:Nat) (g:GE):D → Ds → Option Ds:=fun v δ=>(owDc i δ).bind fun r=>(g δ).bind fun d=>(asKey d).bind fun k =>
 if r.1.length < sizeLine then some (δ.set i (.ow (.dct (.inl (putKs r.1 k)) (putDs r.1 r.2 k v)))) else none
noncomputable def whileD (gt:GB) (G:GS):Nat → Ds → Option Res
 | 0,_=>none
 | n + 1,δ=>match gt δ with
  | some false=>some (.nx δ)
  | some true=>match G δ with
   | some (.nx δ')=>whileD gt G n δ'
   | some (.ct δ')=>whileD gt G n δ'
   | some (.bk δ')=>some (.nx δ')
   | r=>r
  | none=>none
@[simp] noncomputable def tup2 (i j:Nat):D → Ds → Option Ds
 | .tup [a,b],δ=>some ((δ.set i (.sh a)).set j (.sh b))
 | _,_=>none
@[simp] noncomputable def lstOfD:List D → Option D
 | [.lst ds]=>some (.lst ds)
 | [.tup ds]=>some (.lst ds)
 | _=>none
noncomputable def mkF (n:Nat) (N:List Str) (G:GS) (ds:List D):Option D:=if ds.length = n then (match G (dStart N ds) with
 | some (.rt d)=>some d
 | some (.rf d)=>if isL d = true then none else some d
 | some (.nx _)=>some .non
 | _=>none) else none
theorem mkF_ok {n:Nat} {N:List Str} {G:GS} {ds:List D} {d:D} (h:mkF n N G ds = some d):ds.length = n ∧ (G (dStart N ds) = some (.rt d) ∨ (d = .non ∧ ∃ δ,G (dStart N ds) = some (.nx δ)) ∨ G (dStart N ds) = some (.rf d) ∧ isL d = false):=by
 unfold mkF at h
 split at h
 ·rename_i hl
  refine ⟨hl,?_⟩
  split at h
  ·rename_i e; cases h; exact .inl e
  ·rename_i e
   split at h
   ·cases h
   ·rename_i hn
    cases h
    exact .inr (.inr ⟨e,Bool.eq_false_iff.mpr hn⟩)
  ·rename_i e; cases h; exact .inr (.inl ⟨rfl,_,e⟩)
  ·cases h
 ·cases h
noncomputable def mkN (n:Nat) (N:List Str) (G:GS) (ds:List D):Option D:=if ds.length = n then (match G (dStart N ds) with
 | some (.rf d)=>if isL d = true then none else some d
 | _=>none) else none
theorem mkN_ok {n:Nat} {N:List Str} {G:GS} {ds:List D} {d:D} (h:mkN n N G ds = some d):ds.length = n ∧ G (dStart N ds) = some (.rf d) ∧ isL d = false:=by
 unfold mkN at h
 split at h
 ·rename_i hl
  refine ⟨hl,?_⟩
  split at h
  ·rename_i e
   split at h
   ·cases h
   ·rename_i hn
    cases h
    exact ⟨e,Bool.eq_false_iff.mpr hn⟩
  ·cases h
 ·cases h
theorem mkN_rf {n:Nat} {N:List Str} {G:GS} {ds:List D} {d:D} (hl:ds.length = n) (h:G (dStart N ds) = some (.rf d)) (hn:isL d = false:=by rfl):mkN n N G ds = some d:=by
 unfold mkN
 rw [if_pos hl,h]
 simp only []
 rw [hn]
 rfl
@[simp] noncomputable def retF (g:GE):GS:=fun δ=>(g δ).map .rf
@[simp] noncomputable def retO (i:Nat):GS:=fun δ=>match δ[i]? with
 | some (.ow d)=>some (.rf d)
 | _=>none
theorem seq_rf {G1 G2:GS} {δ:Ds} {d:D} (h:G1 δ = some (.rf d)):seqD G1 G2 δ = some (.rf d):=by unfold seqD; rw [h]
theorem retF_of {g:GE} {δ:Ds} {d:D} (h:g δ = some d):retF g δ = some (.rf d):=by unfold retF; rw [h]; rfl
theorem mkF_rt {n:Nat} {N:List Str} {G:GS} {ds:List D} {d:D} (hl:ds.length = n) (h:G (dStart N ds) = some (.rt d)):mkF n N G ds = some d:=by
 unfold mkF
 rw [if_pos hl,h]
theorem seq_to {G1 G2:GS} {δ δ':Ds} {r:Option Res} (h:G1 δ = some (.nx δ')) (k:G2 δ' = r):seqD G1 G2 δ = r:=(seq_nx h).trans k
@[simp] noncomputable def addA:D → D → Option D
 | .int i,.int j=>some (.int (i + j))
 | .str x,.str y=>if x.length + y.length ≤ sizeLine then some (.str (x ++ y)) else none
 | .lst xs,.lst ys=>if xs.length + ys.length ≤ sizeLine then some (.lst (xs ++ ys)) else none
 | .tup xs,.tup ys=>if xs.length + ys.length ≤ sizeLine then some (.tup (xs ++ ys)) else none
 | _,_=>none
noncomputable def repD (x:Str) (n:Int):Str:=⟨(List.replicate n.toNat x.cps).foldl (· ++ ·) #[]⟩
@[simp] noncomputable def mulA:D → D → Option D
 | .int i,.int j=>if (-(2 ^ 64) < i ∧ i < 2 ^ 64) ∨ (-(2 ^ 64) < j ∧ j < 2 ^ 64) then some (.int (i * j)) else none
 | .str x,.int n=>if -(2 ^ 62) ≤ n ∧ n < 2 ^ 62 ∧ x.length * n.toNat ≤ sizeLine then some (.str (repD x n)) else none
 | .tup xs,.int k=>if xs ≠ [] ∧ 2 ≤ k ∧ k < 2 ^ 62 ∧ xs.length * k.toNat ≤ sizeLine then some (.tup (List.replicate k.toNat xs).flatten) else none
 | _,_=>none
@[simp] noncomputable def slA (d:D) (lo hi:Option Int):Option D:=match d with
 | .str z=>if z.length ≤ sizeLine then some (.str (Txt.slice z lo hi)) else none
 | .lst xs=>some (.lst (cutD xs lo hi))
 | .tup xs=>some (.tup (cutD xs lo hi))
 | _=>none
@[simp] noncomputable def slAG (g:GE) (gl gh:GO):GE:=fun δ=>(g δ).bind fun d=>(gl δ).bind fun l=>(gh δ).bind fun h=>slA d l h
end DL
set_option maxHeartbeats 0
namespace L2
open PySem PySem.Spec PyProof.Rows
section
variable {κ:Type} [DecidableEq κ]
noncomputable def valV (kvs:List (κ × V)) (k:κ):Option V:=(kvs.find? fun kv=>decide (kv.1 = k)).map (·.2)
noncomputable def putK (kvs:List (κ × V)) (k:κ) (v:V):List (κ × V) :=
 if (kvs.any fun kv=>decide (kv.1 = k)) = true then kvs.map (fun kv=>if kv.1 = k then (kv.1,v) else kv) else kvs ++ [(k,v)]
theorem valV_pos {p:κ × V} {r:List (κ × V)} {k:κ} (e:p.1 = k):valV (p :: r) k = some p.2:=by simp [valV,List.find?_cons,e]
theorem valV_neg {p:κ × V} {r:List (κ × V)} {k:κ} (e:¬ p.1 = k):valV (p :: r) k = valV r k:=by simp [valV,List.find?_cons,e]
theorem valV_any (k:κ):∀ kvs:List (κ × V),(kvs.any fun kv=>decide (kv.1 = k)) = (valV kvs k).isSome
 | []=>rfl
 | p :: r=>by
  rw [List.any_cons]
  by_cases e:p.1 = k
  ·simp only [valV_pos e,decide_eq_true e,Bool.true_or,Option.isSome_some]
  ·rw [valV_neg e,decide_eq_false e,Bool.false_or]; exact valV_any k r
theorem length_putK (kvs:List (κ × V)) (k:κ) (v:V):(putK kvs k v).length ≤ kvs.length + 1:=by
 unfold putK
 split
 ·rw [List.length_map]; omega
 ·rw [List.length_append,List.length_cons,List.length_nil]; omega
theorem RelO.isSome_eq {o:Option V} {u:Option Value} (r:RelO o u):o.isSome = u.isSome:=by
 cases o with
 | none=>cases u with
  | none=>rfl
  | some _=>exact (show False from r).elim
 | some _=>cases u with
  | none=>exact (show False from r).elim
  | some _=>rfl
theorem KV.val {kvs:List (κ × V)} {vs:List (κ × Value)} (r:KV kvs vs) (k:κ):RelO (valV kvs k) (valueAt vs k):=by
 unfold KV at r
 induction r with
 | nil=>exact True.intro
 | @cons p q ps qs h t ih =>
  obtain ⟨h1,h2⟩:=h
  by_cases e:p.1 = k
  ·have e':q.1 = k:=h1.symm.trans e
   have b:valueAt (q :: qs) k = some q.2:=by simp [valueAt,List.find?_cons,e']
   rw [valV_pos e,b]; exact h2
  ·have e':¬ q.1 = k:=fun z=>e (h1.trans z)
   have b:valueAt (q :: qs) k = valueAt qs k:=by simp [valueAt,List.find?_cons,e']
   rw [valV_neg e,b]; exact ih
theorem KV.any {kvs:List (κ × V)} {vs:List (κ × Value)} (r:KV kvs vs) (k:κ):(kvs.any fun kv=>decide (kv.1 = k)) = vs.any fun kv=>decide (kv.1 = k):=by
 unfold KV at r
 induction r with
 | nil=>rfl
 | cons h t ih=>rw [List.any_cons,List.any_cons,ih,h.1]
theorem KV.repl {kvs:List (κ × V)} {vs:List (κ × Value)} (r:KV kvs vs) (k:κ) {y:V} {u:Value} (ry:RelV y u) :
  KV (kvs.map fun kv=>if kv.1 = k then (kv.1,y) else kv) (vs.map fun kv=>if kv.1 = k then (kv.1,u) else kv):=by
 unfold KV at r ⊢
 induction r with
 | nil=>exact .nil
 | @cons p q ps qs h t ih =>
  rw [List.map_cons,List.map_cons]
  refine .cons ?_ ih
  obtain ⟨h1,h2⟩:=h
  by_cases e:p.1 = k
  ·rw [if_pos e,if_pos (h1.symm.trans e)]; exact ⟨h1,ry⟩
  ·rw [if_neg e,if_neg (fun z=>e (h1.trans z))]; exact ⟨h1,h2⟩
theorem KV.put {kvs:List (κ × V)} {vs:List (κ × Value)} (r:KV kvs vs) (k:κ) {y:V} {u:Value} (ry:RelV y u):KV (putK kvs k y) (stored vs k u):=by
 unfold putK stored
 rw [r.any k]
 by_cases e:(vs.any fun kv=>decide (kv.1 = k)) = true
 ·rw [if_pos e,if_pos e]; exact r.repl k ry
 ·rw [if_neg e,if_neg e]; exact Paired.snoc r ⟨rfl,ry⟩
theorem KV.length {kvs:List (κ × V)} {vs:List (κ × Value)} (r:KV kvs vs):kvs.length = vs.length:=Paired.length r
end
theorem kV_is {P:Program} {w:World} {k:Key} {u:Value} (r:RelV (kV k) u):(mixKind P w).is k u = true:=by
 cases k with
 | inl i=>obtain ⟨t,e⟩:=(show ∃ t,u = Value.int i t from r); subst e; exact mixKind_int P w i t
 | inr x=>obtain ⟨t,e⟩:=(show ∃ t,u = Value.str x t from r); subst e; exact mixKind_str P w x t
theorem items_are {P:Program} {w:World}:∀ {ks:List Key} {us:List Value},Vals (ks.map kV) us → ItemsAre (mixKind P w) ks us
 | [],_,r=>by rw [List.map_nil] at r; cases r; exact .nil
 | k :: ks,_,r=>by
  rw [List.map_cons] at r
  cases r with
  | cons h t=>exact .cons (kV_is h) (items_are t)
noncomputable abbrev KT (H:Hp):List (List Key × V) → List (List Key × Addr × Value) → Prop:=Paired fun p q=>p.1 = q.1 ∧ H q.2.1 = some (.tup (p.1.map kV)) ∧ RelV p.2 q.2.2
theorem KT.val {H:Hp} {kvs:List (List Key × V)} {xs:List (List Key × Addr × Value)} (r:KT H kvs xs) (k:List Key):RelO (valV kvs k) ((atKey xs k).map (·.2)):=by
 induction r with
 | nil=>exact True.intro
 | @cons p q ps qs h t ih =>
  obtain ⟨h1,_,h2⟩:=h
  by_cases e:p.1 = k
  ·have e':q.1 = k:=h1.symm.trans e
   have b:atKey (q :: qs) k = some q.2:=by simp [atKey,List.find?_cons,e']
   rw [valV_pos e,b]; exact h2
  ·have e':¬ q.1 = k:=fun z=>e (h1.trans z)
   have b:atKey (q :: qs) k = atKey qs k:=by simp [atKey,List.find?_cons,e']
   rw [valV_neg e,b]; exact ih
theorem KT.repl {H:Hp} {kvs:List (List Key × V)} {xs:List (List Key × Addr × Value)} (r:KT H kvs xs) (k:List Key) {y:V} {u:Value} (ry:RelV y u) :
  KT H (kvs.map fun kv=>if kv.1 = k then (kv.1,y) else kv) (xs.map (putAt k u)):=by
 induction r with
 | nil=>exact .nil
 | @cons p q ps qs h t ih =>
  rw [List.map_cons,List.map_cons]
  refine .cons ?_ ih
  obtain ⟨h1,h2,h3⟩:=h
  unfold putAt
  by_cases e:p.1 = k
  ·rw [if_pos e,if_pos (h1.symm.trans e)]; exact ⟨h1,h2,ry⟩
  ·rw [if_neg e,if_neg (fun z=>e (h1.trans z))]; exact ⟨h1,h2,h3⟩
theorem KT.put {H:Hp} {kvs:List (List Key × V)} {xs:List (List Key × Addr × Value)} (r:KT H kvs xs) (k:List Key) {b:Addr} {y:V} {u:Value} (hb:H b = some (.tup (k.map kV))) (ry:RelV y u) :
  KT H (putK kvs k y) (storedH xs k b u):=by
 have e:(kvs.any fun kv=>decide (kv.1 = k)) = (atKey xs k).isSome:=by
  rw [valV_any,(r.val k).isSome_eq,Option.isSome_map]
 unfold putK storedH
 rw [e]
 by_cases q:(atKey xs k).isSome = true
 ·rw [if_pos q,if_pos q]; exact r.repl k ry
 ·rw [if_neg q,if_neg q]; exact Paired.snoc r ⟨rfl,hb,ry⟩
theorem KT.keeps {H H':Hp} {kvs:List (List Key × V)} {xs:List (List Key × Addr × Value)} (r:KT H kvs xs) (ht:∀ b ys,H b = some (.tup ys) → H' b = some (.tup ys)):KT H' kvs xs :=
 Paired.mapP r fun _ _ z=>⟨z.1,ht _ _ z.2.1,z.2.2⟩
section
variable {P:Program} {w:World} {H:Hp} {h:Heap} {a:Addr}
theorem rd_of {u:HO} (ok:HOk P w H h) (e:Rd H a u):ObjOk P w H h a u:=e.ok ok
theorem dk_rd {kvs:List (Key × V)} (ok:HOk P w H h) (e:Rd H a (.dK kvs)):kvs.length ≤ sizeLine ∧ (a == sysModules) = false ∧ ∃ vs,KV kvs vs ∧ h.DictOf (mixKind P w) a vs :=
 show ObjOk P w H h a (.dK kvs) from rd_of ok e
theorem dk_of {kvs:List (Key × V)} (ok:HOk P w H h) (e:H a = some (.dK kvs)):kvs.length ≤ sizeLine ∧ (a == sysModules) = false ∧ ∃ vs,KV kvs vs ∧ h.DictOf (mixKind P w) a vs:=dk_rd ok (.inl e)
theorem key_of {ks:List Key} (ok:HOk P w H h) (e:H a = some (.tup (ks.map kV))):(tupleKind (mixKind P w)).is h ks a:=by
 obtain ⟨_,its,r,o,h1,h2,n,h3,_⟩:=(show ObjOk P w H h a (.tup (ks.map kV)) from ok a _ e)
 exact ⟨o,its.toArray,n,h1,h2,h3,by simpa using items_are r⟩
theorem dt_rd {kvs:List (List Key × V)} (ok:HOk P w H h) (e:Rd H a (.dT kvs)):kvs.length ≤ sizeLine ∧ (a == sysModules) = false ∧
  ∃ xs,KT H kvs xs ∧ h.DictOfH (tupleKind (mixKind P w)) a xs:=by
 obtain ⟨z,y,xs,r,o,es,ep,h1,h2,h3,h4,h5⟩:=(show ObjOk P w H h a (.dT kvs) from rd_of ok e)
 refine ⟨z,y,xs,r,o,es,ep,h1,h2,h3,h4,fun x hx=>?_,h5⟩
 have all:∀ {l:List (List Key × V)} {m:List (List Key × Addr × Value)},KT H l m → ∀ x ∈ m,(tupleKind (mixKind P w)).is h x.1 x.2.1:=by
  intro l m q
  induction q with
  | nil=>intro x hx; exact nomatch hx
  | @cons p q ps qs hq t ih =>
   intro x hx
   rcases List.mem_cons.mp hx with e | hx
   ·subst e
    exact key_of ok (by rw [← hq.1]; exact hq.2.1)
   ·exact ih x hx
 exact all r x hx
theorem dt_of {kvs:List (List Key × V)} (ok:HOk P w H h) (e:H a = some (.dT kvs)):kvs.length ≤ sizeLine ∧ (a == sysModules) = false ∧
  ∃ xs,KT H kvs xs ∧ h.DictOfH (tupleKind (mixKind P w)) a xs:=dt_rd ok (.inl e)
end
noncomputable def DGet (H:Hp) (a:Addr) (y:V) (r:Option V):Prop :=
 (∃ kvs k,Rd H a (.dK kvs) ∧ y = kV k ∧ r = valV kvs k) ∨ ∃ kvs k b,Rd H a (.dT kvs) ∧ y = .ref b ∧ H b = some (.tup (k.map kV)) ∧ r = valV kvs k
noncomputable def DPut (H:Hp) (a:Addr) (y v:V) (H':Hp):Prop :=
 (∃ kvs k,H a = some (.dK kvs) ∧ y = kV k ∧ kvs.length < sizeLine ∧ H' = upd H a (.dK (putK kvs k v))) ∨
 ∃ kvs k b,H a = some (.dT kvs) ∧ y = .ref b ∧ H b = some (.tup (k.map kV)) ∧ kvs.length < sizeLine ∧ H' = upd H a (.dT (putK kvs k v))
theorem DGet.k {H:Hp} {a:Addr} {kvs:List (Key × V)} {k:Key} (e:H a = some (.dK kvs)):DGet H a (kV k) (valV kvs k):=.inl ⟨kvs,k,.inl e,rfl,rfl⟩
theorem DPut.k {H:Hp} {a:Addr} {kvs:List (Key × V)} {k:Key} {v:V} (e:H a = some (.dK kvs)) (hl:kvs.length < sizeLine):DPut H a (kV k) v (upd H a (.dK (putK kvs k v))):=.inl ⟨kvs,k,e,rfl,hl,rfl⟩
section
variable {X:Cx} {pins:List (Addr × Obj)} {σ:St} {H:Hp} {s:Shared} {a:Addr} {y v:V} {u r:Value} {o:Option V} {A:Around} {E:Value → Shared → Prop}
theorem Inv.big (I:Inv X pins σ H s):sysModules < s.heap.objs.size:=by
 have h:mainGlobals < s.heap.objs.size:=(I.mod.glob.keeps I.bk).lt
 exact Nat.lt_trans (by decide) h
theorem d_getItem {Q:Value → Shared → Prop} (hu:A.units + 1 < cLine) (I:Inv X pins σ H s) (g:DGet H a y (some v)) (ry:RelV y u) (h:∀ w' s',Inv X pins σ H s' → RelV v w' → Q w' s') :
  wpAny (model X.prog X.w) A (getItem (.ref a) u) Q E s:=by
 rcases g with ⟨kvs,k,e,ey,l⟩ | ⟨kvs,k,b,e,ey,eb,l⟩
 ·subst ey
  obtain ⟨z,hd,vs,rel,dd⟩:=dk_rd I.hok e
  obtain ⟨w',hw,rw'⟩:=RelO.some_of (v:=v) (o:=valueAt vs k) (by rw [l]; exact rel.val k)
  exact wpAny_getItem_of (kV_is ry) dd.mapOf hw (h w' _ (I.tok _) rw')
 ·subst ey
  cases (show u = Value.ref b from ry)
  obtain ⟨z,hd,xs,rel,dd⟩:=dt_rd I.hok e
  obtain ⟨w',hw,rw'⟩:=RelO.some_of (v:=v) (o:=(atKey xs k).map (·.2)) (by rw [l]; exact rel.val k)
  obtain ⟨p,hp,hp2⟩:=Option.map_eq_some_iff.mp hw
  refine wpAny_getItem_heap (tupleKind_room_in1 hu) (key_of I.hok eb) dd hp ?_
  rw [hp2]
  exact h w' _ (I.tok _) rw'
theorem d_write {h':Heap} {t':Nat} {ob:HO} (I:Inv X pins σ H s) (mu:Mut (H a)) (hs:Heap.SameBut a s.heap h') (he:∃ q,h'.get? a = some q) (new:ObjOk X.prog X.w (upd H a ob) h' a ob) :
  Inv X pins σ (upd H a ob) { s with heap:=h',toks:=t' } :=
 I.write (x:=a) (e:=a) mu (.inl rfl) (fun b q hb z=>(hs.2 b hb).trans z) he new
theorem dk_new {P:Program} {w:World} {H':Hp} {h':Heap} {kvs:List (Key × V)} {vs:List (Key × Value)} (z:kvs.length ≤ sizeLine) (hd:(a == sysModules) = false) (rel:KV kvs vs) (dd:h'.DictOf (mixKind P w) a vs) :
  ObjOk P w H' h' a (.dK kvs):=⟨z,hd,vs,rel,dd⟩
theorem d_setItem {H':Hp} {Q:Unit → Shared → Prop} (hu:A.units + 1 < cLine) (I:Inv X pins σ H s) (g:DPut H a y v H') (ry:RelV y u) (rv:RelV v r) (h:∀ s',Inv X pins σ H' s' → Q () s') :
  wpAny (model X.prog X.w) A (setItem (.ref a) u r) Q E s:=by
 rcases g with ⟨kvs,k,e,ey,l,eH⟩ | ⟨kvs,k,b,e,ey,eb,l,eH⟩
 ·subst ey eH
  obtain ⟨z,hd,vs,rel,dd⟩:=dk_of I.hok e
  have hz:vs.length ≤ sizeLine:=by rw [← rel.length]; exact z
  have hl:(putK kvs k v).length ≤ sizeLine:=by have:=length_putK kvs k v; omega
  refine wpAny_setItem_pairs (hsz:=hz) (kV_is ry) dd fun h' dd' hs=>h _ ?_
  have he:∃ q,h'.get? a = some q:=let ⟨q,_,_,hq,_⟩:=dd'; ⟨q,hq⟩
  exact d_write I (by rw [e]; exact True.intro) hs he (dk_new hl hd (rel.put k rv) dd')
 ·subst ey eH
  cases (show u = Value.ref b from ry)
  obtain ⟨z,hd,xs,rel,dd⟩:=dt_of I.hok e
  have hz:xs.length ≤ sizeLine:=by rw [← Paired.length rel]; exact z
  have hl:(putK kvs k v).length ≤ sizeLine:=by have:=length_putK kvs k v; omega
  refine wpAny_setItem_heap (hsz:=hz) (tupleKind_room_in1 hu) (key_of I.hok eb) dd fun h' dd' hs=>h _ ?_
  obtain ⟨q,es,ep,hq,h2,h3,h4,_,h5⟩:=dd'
  refine d_write I (by rw [e]; exact True.intro) hs ⟨q,hq⟩ ⟨hl,hd,_,(rel.put k eb rv).keeps fun c ys ec=>?_,q,es,ep,hq,h2,h3,h4,h5⟩
  rw [upd_ne (ne_of ec e (fun z=>nomatch z))]
  exact ec
end
section
variable {X:Cx} {pins:List (Addr × Obj)} {σ:St} {H:Hp} {s:Shared} {a:Addr} {kvs:List (Key × V)} {k:Key} {u:Value} {A:Around} {E:Value → Shared → Prop}
end
noncomputable def NoSl (i:Expr):Prop:=∀ ov iv,subscripted i false ov iv = operate [ov,iv] (getItem ov iv)
theorem subD_of {prog:Program} {w:World} {A:Around} {E:Value → Shared → Prop} {s:Shared} {env:Env} {value slice:Expr} {pos:Pos} {T id:String} {Q:Value → Shared → Prop}
  (hl:typeLookup (.type T) "__getitem__" = pure (some (.builtin id))) (hs:NoSl slice)
  (h:wpAny (model prog w) A (eval value env) (fun o s₁=>wpAny (model prog w) A (eval slice env) (fun i s₂=>s₂.TypeIs o T ∧ wpAny (model prog w) A (getItem o i) Q E s₂) E s₁) E s) :
  wpAny (model prog w) A (eval (.Subscript value slice pos) env) Q E s:=by
 refine Subscript_ (wpAny_mono h (fun o s₁ h₁=>wpAny_mono h₁ (fun i s₂ h₂=>?_) fun _ _ x=>x) fun _ _ x=>x)
 obtain ⟨hT,h₂⟩:=h₂
 unfold subscriptTail
 refine wpAny_bind ?_
 rw [getitemInPython_of_ne hT.not_modules]
 refine wpAny_bind (wpAny_specialOf hT hl ?_)
 have fin:wpAny (model prog w) A (subscripted slice false o i) (fun r s₃=>wpAny (model prog w) A (letTemporaryGo value o r >>= fun _=>pure r) Q E s₃) E s₂:=by
  rw [hs o i]
  exact wpAny_operating (wpAny_mono h₂ (fun r s₃ h₃=>wpAny_bind (wpAny_letTemporaryGo (wpAny_pure h₃))) fun _ _ x=>x)
 first
  | exact wpAny_pure (wpAny_bind fin)
  | exact wpAny_bind (wpAny_pure (wpAny_bind fin))
  | exact wpAny_bind fin
theorem dict_typeIs {X:Cx} {pins:List (Addr × Obj)} {σ:St} {H:Hp} {s:Shared} {a:Addr} {y:V} {o:Option V} (I:Inv X pins σ H s) (g:DGet H a y o):s.TypeIs (.ref a) "dict" := by
 rcases g with ⟨kvs,k,e,_,_⟩ | ⟨kvs,k,b,e,_,_,_⟩
 ·obtain ⟨_,_,vs,_,dd⟩:=dk_rd I.hok e
  exact dd.typeIs
 ·obtain ⟨_,_,xs,_,dd⟩:=dt_rd I.hok e
  exact dd.typeIs
section
variable {X:Cx} {o i e value:Expr} {pos pos' tpos:Pos} {td ty tv:TE}
end
theorem dk_empty {P:Program} {w:World} {H:Hp} (h:Heap) (hb:sysModules < h.objs.size):ObjOk P w H (h.push { cls:=.type "dict",data:=.dict #[] }) h.objs.size (.dK []) :=
 ⟨Nat.zero_le _,beq_eq_false_iff_ne.mpr (Ne.symm (Nat.ne_of_lt hb)),[],.nil,Heap.DictOf.new h⟩
noncomputable def tDNewK:TE:=fun _ H Q=>∀ p,H p = none → Q (.ref p) (upd H p (.dK []))
section
variable {X:Cx} {pos:Pos}
theorem pe_dnewK:PE X (.Dict [] [] pos) tDNewK:=fun pins s σ H Q I h =>
 wpAny_Dict_empty ⟨.ref s.heap.objs.size,_,I.laid (a:=s.heap.objs.size) (o:=.dK []) (t':=s.toks) (fun _ _ q=>Heap.get?_push_of_some _ q) (Nat.le_refl _) (dk_empty s.heap I.big),rfl,h _ (I.hok.fresh (Nat.le_refl _))⟩
end
section
variable {X:Cx} {pins:List (Addr × Obj)} {σ:St} {H:Hp} {s:Shared} {a:Addr} {y d:V} {u r:Value} {o:Option V} {A:Around} {E:Value → Shared → Prop}
end
section
variable {X:Cx} {o e f:Expr} {apos cpos:Pos} {td ty tx:TE}
end
section
variable {X:Cx} {pins:List (Addr × Obj)} {σ:St} {H:Hp} {s:Shared} {a:Addr} {kvs:List (Key × V)} {A:Around} {E:Value → Shared → Prop}
end
section
variable {X:Cx} {pins:List (Addr × Obj)} {σ:St} {H:Hp} {s:Shared} {a:Addr} {y:V} {u:Value} {A:Around} {E:Value → Shared → Prop}
end
end L2
namespace DL
open PySem PySem.Spec PyProof.Rows L2
section
variable {K:W.Frag} {H H':Hp} {B B':BS} {σ σ':St} {δ δ':Ds}
theorem Gr.fresh {p:Addr} {o:HO} (h:H p = none):Gr H (upd H p o) B (fun a=>B a ∨ a = p):=fun b u n e=>by
 have hb:b ≠ p:=ne_of_none e h
 exact ⟨fun z=>z.elim n hb,by rw [upd_ne hb]; exact e⟩
theorem Gr.own {a:Addr} {o:HO} (h:B a):Gr H (upd H a o) B B:=fun b u n e=>⟨n,by rw [upd_ne (fun z=>n (by rw [z]; exact h))]; exact e⟩
theorem RpO.mono {d:D} {a:Addr} (s:∀ o,H a = some o → H' a = some o) (g:Gr H H' B B') (h:RpO K H B d a):RpO K H' B' d a:=by
 cases d <;> try exact h.elim
 ·obtain ⟨xs,e,r⟩:=h; exact ⟨xs,s _ e,r.mono g⟩
 ·obtain ⟨xs,e,l,r⟩:=h; exact ⟨xs,s _ e,l,r.mono g⟩
theorem RpL.mono {d:D} {a:Addr} (s:∀ o,H a = some o → H' a = some o) (g:Gr H H' B B') (h:RpL K H B d a):RpL K H' B' d a:=by
 cases d with
 | tup es=>obtain ⟨ds,q,xs,e,r⟩:=h; exact ⟨ds,q,xs,s _ e,r.mono g⟩
 | _=>exact (RpO.mono s g (RpL.toO rfl h)).toL
theorem Pd.impI {α β:Type} {F G:α → β → Prop}:∀ {l:List α} {m:List β},(∀ (i:Nat) a b,l[i]? = some a → m[i]? = some b → F a b → G a b) → Paired F l m → Paired G l m
 | _,_,_,.nil=>.nil
 | _,_,h,.cons r t=>.cons (h 0 _ _ rfl rfl r) (Pd.impI (fun i a b e1 e2=>h (i + 1) a b (by simpa using e1) (by simpa using e2)) t)
theorem set_self {α:Type}:∀ {l:List α} {i:Nat} {a:α},l[i]? = some a → l.set i a = l
 | [],_,_,h=>by simp at h
 | x :: l,0,a,h=>by simp at h; subst h; rfl
 | x :: l,i + 1,a,h=>by rw [List.set_cons_succ,set_self (by simpa using h)]
theorem Pd.setR {α β:Type} {F:α → β → Prop} {a:α} {b:β} {i:Nat} (r:F a b) {l:List α} {m:List β} (e:l[i]? = some a) (h:Paired F l m):Paired F l (m.set i b):=by
 have:=Pd.set r i h
 rwa [set_self e] at this
theorem get_set {α:Type} {l:List α} {i j:Nat} {a b:α} (h:(l.set i a)[j]? = some b):(i = j ∧ a = b ∧ j < l.length) ∨ (i ≠ j ∧ l[j]? = some b):=by
 by_cases e:i = j
 ·subst e
  by_cases hl:i < l.length
  ·rw [List.getElem?_set_self hl] at h
   exact .inl ⟨rfl,Option.some.inj h,hl⟩
  ·rw [List.getElem?_eq_none (by simpa using hl)] at h; cases h
 ·rw [List.getElem?_set_ne e] at h
  exact .inr ⟨e,h⟩
theorem Env.at (e:Env K H B σ δ) {i:Nat} {d:D} (h:δ[i]? = some (.ow d)):∃ a,σ[i]? = some (some (.ref a)) ∧ B a ∧ RpL K H B d a:=by
 obtain ⟨o,h1,a,rfl,hb,r⟩:=Pd.get e.all h
 exact ⟨a,h1,hb,r⟩
theorem Env.mut (e:Env K H B σ δ) {i:Nat} {d0 d:D} {a:Addr} {o:HO} (hi:δ[i]? = some (.ow d0)) (hs:σ[i]? = some (some (.ref a))) (r:RpL K (upd H a o) B d a):Env K (upd H a o) B σ (δ.set i (.ow d)):=by
 obtain ⟨a',h1,hb,_⟩:=e.at hi
 rw [hs] at h1
 cases h1
 refine ⟨?_,fun b z=>?_,fun j k b ds es h1 h2 h3 h4=>?_⟩
 ·
  have h0:Paired (fun (o':Option V) (s:Sl)=>SlR K (upd H a o) B o' s ∨ (∃ d,s = .ow d ∧ o' = some (.ref a))) σ δ:=Pd.imp (fun o' s h=>by
   cases s with
   | un=>exact .inl trivial
   | ex c n=>obtain ⟨v,e,r⟩:=h; exact .inl ⟨v,e,r.mono (Gr.own hb)⟩
   | sh d=>obtain ⟨v,e,r⟩:=h; exact .inl ⟨v,e,r.mono (Gr.own hb)⟩
   | ow d =>
    obtain ⟨b,e,hb',r⟩:=h
    by_cases z:b = a
    ·subst z; exact .inr ⟨d,rfl,e⟩
    ·exact .inl ⟨b,e,hb',r.mono (fun o h=>by rw [upd_ne z]; exact h) (Gr.own hb)⟩) e.all
  have h1:=Pd.setR (i:=i) (b:=Sl.ow d) (.inl ⟨a,rfl,hb,r⟩) hs h0
  refine Pd.impI (fun j o' s e1 e2 h=>?_) h1
  rcases h with h | ⟨d',rfl,rfl⟩
  ·exact h
  ·rcases get_set e2 with ⟨rfl,e3,_⟩ | ⟨hne,e3⟩
   ·cases e3; exact ⟨a,rfl,hb,r⟩
   ·exact absurd (e.own i j a d0 d' hi e3 hs e1) hne
 ·by_cases z':b = a
  ·subst z'; exact r.live
  ·rw [upd_ne z']; exact e.bad b z
 ·have q1:∃ d,δ[j]? = some (.ow d):=by
   rcases get_set h1 with ⟨rfl,_,_⟩ | ⟨_,h⟩
   ·exact ⟨_,hi⟩
   ·exact ⟨_,h⟩
  have q2:∃ d,δ[k]? = some (.ow d):=by
   rcases get_set h2 with ⟨rfl,_,_⟩ | ⟨_,h⟩
   ·exact ⟨_,hi⟩
   ·exact ⟨_,h⟩
  obtain ⟨d1,q1⟩:=q1
  obtain ⟨d2,q2⟩:=q2
  exact e.own j k b d1 d2 q1 q2 h3 h4
theorem EnvS.mut {H₀:Hp} {B₀:BS} (en:EnvS K H₀ B₀ H σ δ) (s:Same H H') (b1:∀ a,B₀ a → B a) (b2:∀ a,B a → B₀ a ∨ H₀ a = none) {i:Nat} {d0 d:D} {a:Addr} {o:HO} (hi:δ[i]? = some (.ow d0)) (hs:σ[i]? = some (some (.ref a)))
  (env:Env K (upd H' a o) B σ (δ.set i (.ow d))):EnvS K H₀ B₀ (upd H' a o) σ (δ.set i (.ow d)):=by
 have h0:=en.fr i d0 a hi hs
 refine ⟨fun b u h=>?_,⟨B,b1,b2,env⟩,fun j ds b h1 h2=>?_,en.b0⟩
 ·have:b ≠ a:=fun z=>by rw [z,h0] at h; cases h
  rw [upd_ne this]
  exact s _ _ (en.same b u h)
 ·rcases get_set h1 with ⟨rfl,_,_⟩ | ⟨_,h⟩
  ·rw [hs] at h2; cases h2; exact h0
  ·exact en.fr j ds b h h2
theorem EnvS.take {H₀:Hp} {B₀:BS} (en:EnvS K H₀ B₀ H σ δ) (b1:∀ a,B₀ a → B a) (b2:∀ a,B a → B₀ a ∨ H₀ a = none) (e:Env K H B σ δ) (i:Nat) {d:D} {p:Addr} (hp:H p = none) (s:Same H H')
  (r:RpO K H' (fun a=>B a ∨ a = p) d p):EnvS K H₀ B₀ H' (σ.set i (some (.ref p))) (δ.set i (.ow d)):=by
 have g:Gr H H' B (fun a=>B a ∨ a = p):=fun b u n h=>⟨fun z=>z.elim n (ne_of_none h hp),s _ _ h⟩
 have h0p:H₀ p = none:=en.same.free hp
 have live:∀ {j:Nat} {d':D} {b:Addr},δ[j]? = some (.ow d') → σ[j]? = some (some (.ref b)) → b ≠ p:=fun {j d' b} h1 h2=>by
  obtain ⟨a,q1,q2,q3⟩:=e.at h1
  rw [h2] at q1; cases q1
  exact fun z=>e.bad _ q2 (by rw [z]; exact hp)
 refine ⟨en.same.trans s,⟨fun a=>B a ∨ a = p,fun a z=>.inl (b1 a z),fun a z=>?_,?_,fun a z=>?_,fun j k a ds es h1 h2 h3 h4=>?_⟩,fun j ds a h1 h2=>?_,en.b0⟩
 ·rcases z with z | rfl
  ·exact b2 a z
  ·exact .inr h0p
 ·refine Pd.set ⟨p,rfl,.inr rfl,r.toL⟩ i (Pd.imp (fun o sl h=>?_) e.all)
  cases sl with
  | un=>trivial
  | ex c n=>obtain ⟨v,e,r⟩:=h; exact ⟨v,e,r.mono g⟩
  | sh d=>obtain ⟨v,e,r⟩:=h; exact ⟨v,e,r.mono g⟩
  | ow d=>obtain ⟨b,e,hb',r⟩:=h; exact ⟨b,e,.inl hb',r.mono (fun o h=>s _ _ h) g⟩
 ·rcases z with z | rfl
  ·exact (e.bad a z).same s
  ·exact r.live
 ·rcases get_set h1 with ⟨rfl,_,_⟩ | ⟨n1,h1⟩
  ·rcases get_set h2 with ⟨rfl,_,_⟩ | ⟨n2,h2⟩
   ·rfl
   ·rcases get_set h3 with ⟨_,e3,_⟩ | ⟨n3,_⟩
    ·cases e3
     rw [List.getElem?_set_ne n2] at h4
     exact absurd rfl (live h2 h4)
    ·exact absurd rfl n3
  ·rcases get_set h2 with ⟨rfl,_,_⟩ | ⟨n2,h2⟩
   ·rcases get_set h4 with ⟨_,e4,_⟩ | ⟨n4,_⟩
    ·cases e4
     rw [List.getElem?_set_ne n1] at h3
     exact absurd rfl (live h1 h3)
    ·exact absurd rfl n4
   ·rw [List.getElem?_set_ne n1] at h3
    rw [List.getElem?_set_ne n2] at h4
    exact e.own j k a ds es h1 h2 h3 h4
 ·rcases get_set h1 with ⟨rfl,_,_⟩ | ⟨n1,h1⟩
  ·rcases get_set h2 with ⟨_,e3,_⟩ | ⟨n3,_⟩
   ·cases e3; exact h0p
   ·exact absurd rfl n3
  ·rw [List.getElem?_set_ne n1] at h2
   exact en.fr j ds a h1 h2
theorem Env.frz (e:Env K H B σ δ):∃ B':BS,(∀ a,B' a → B a) ∧ (∀ a,B a → B' a ∨ ∃ (i:Nat) (d:D),δ[i]? = some (.ow d) ∧ σ[i]? = some (some (.ref a))) ∧ Env K H B' σ (DL.frz δ):=by
 refine ⟨fun a=>B a ∧ ¬ ∃ (i:Nat) (d:D),δ[i]? = some (.ow d) ∧ σ[i]? = some (some (.ref a)),fun a z=>z.1,fun a z=>?_,?_,fun a z=>e.bad a z.1,fun i j a ds es h1 _ _ _=>?_⟩
 ·by_cases q:∃ (i:Nat) (d:D),δ[i]? = some (.ow d) ∧ σ[i]? = some (some (.ref a))
  ·exact .inr q
  ·exact .inl ⟨z,q⟩
 ·have:Paired (fun o s=>SlR K H (fun a=>B a ∧ ¬ ∃ (i:Nat) (d:D),δ[i]? = some (.ow d) ∧ σ[i]? = some (some (.ref a))) o (frz1 s)) σ δ:=Pd.impI (fun i o s e1 e2 h=>by
   cases s with
   | un=>trivial
   | ex c n=>obtain ⟨v,e,r⟩:=h; exact ⟨v,e,r.mono (Gr.less fun a z=>z.1)⟩
   | sh d=>obtain ⟨v,e,r⟩:=h; exact ⟨v,e,r.mono (Gr.less fun a z=>z.1)⟩
   | ow d =>
    obtain ⟨a,rfl,hb,r⟩:=h
    exact ⟨_,rfl,r.rp (fun a z=>z.1) fun z=>z.2 ⟨i,d,e2,e1⟩⟩) e.all
  have mp:∀ {l:St} {m:Ds} {F:Option V → Sl → Prop},Paired (fun o s=>F o (frz1 s)) l m → Paired F l (m.map frz1):=by
   intro l m F h
   induction h with
   | nil=>exact .nil
   | cons r t ih=>exact .cons r ih
  exact mp this
 ·unfold DL.frz at h1
  rw [List.getElem?_map] at h1
  cases q:δ[i]? with
  | none=>rw [q] at h1; cases h1
  | some s=>rw [q] at h1; cases s <;> cases h1
theorem EnvS.frz {H₀:Hp} {B₀:BS} (en:EnvS K H₀ B₀ H σ δ):EnvS K H₀ B₀ H σ (DL.frz δ):=by
 obtain ⟨B,b1,b2,env⟩:=en.ex
 obtain ⟨B',c1,c2,env'⟩:=env.frz
 refine ⟨en.same,⟨B',fun a z=>?_,fun a z=>b2 a (c1 a z),env'⟩,fun i ds a h1 _=>?_,en.b0⟩
 ·rcases c2 a (b1 a z) with q | ⟨i,d,q1,q2⟩
  ·exact q
  ·exact absurd (en.fr i d a q1 q2) (en.b0 a z)
 ·unfold DL.frz at h1
  rw [List.getElem?_map] at h1
  cases q:δ[i]? with
  | none=>rw [q] at h1; cases h1
  | some s=>rw [q] at h1; cases s <;> cases h1
theorem Env.frzAt (e:Env K H B σ δ) (i:Nat):∃ B':BS,(∀ a,B' a → B a) ∧ (∀ a,B a → B' a ∨ ∃ (d:D),δ[i]? = some (.ow d) ∧ σ[i]? = some (some (.ref a))) ∧ Env K H B' σ (DL.frzAt i δ):=by
 unfold DL.frzAt
 cases h:δ[i]? with
 | none=>exact ⟨B,fun _ z=>z,fun _ z=>.inl z,e⟩
 | some s =>
  cases s with
  | un=>dsimp only [frz1]; rw [set_self h]; exact ⟨B,fun _ z=>z,fun _ z=>.inl z,e⟩
  | ex c n=>dsimp only [frz1]; rw [set_self h]; exact ⟨B,fun _ z=>z,fun _ z=>.inl z,e⟩
  | sh d=>dsimp only [frz1]; rw [set_self h]; exact ⟨B,fun _ z=>z,fun _ z=>.inl z,e⟩
  | ow d =>
   obtain ⟨a,h1,hb,r⟩:=e.at h
   refine ⟨fun b=>B b ∧ b ≠ a,fun b z=>z.1,fun b z=>?_,?_,fun b z=>e.bad b z.1,fun j k b ds es h1' h2' h3 h4=>?_⟩
   ·by_cases q:b = a
    ·subst q; exact .inr ⟨d,rfl,h1⟩
    ·exact .inl ⟨z,q⟩
   ·have h0:Paired (fun (o':Option V) (s:Sl)=>SlR K H (fun b=>B b ∧ b ≠ a) o' s ∨ (∃ d,s = .ow d ∧ o' = some (.ref a))) σ δ:=Pd.imp (fun o' s h=>by
     cases s with
     | un=>exact .inl trivial
     | ex c n=>obtain ⟨v,e,r⟩:=h; exact .inl ⟨v,e,r.mono (Gr.less fun a z=>z.1)⟩
     | sh d=>obtain ⟨v,e,r⟩:=h; exact .inl ⟨v,e,r.mono (Gr.less fun a z=>z.1)⟩
     | ow d =>
      obtain ⟨b,e,hb',r⟩:=h
      by_cases z:b = a
      ·subst z; exact .inr ⟨d,rfl,e⟩
      ·exact .inl ⟨b,e,⟨hb',z⟩,r.mono (fun o h=>h) (Gr.less fun a z=>z.1)⟩) e.all
    have h2:=Pd.setR (i:=i) (b:=Sl.sh (unl d)) (.inl ⟨.ref a,rfl,r.rp (fun b z=>z.1) fun z=>z.2 rfl⟩) h1 h0
    refine Pd.impI (fun j o' s e1 e2 hh=>?_) h2
    rcases hh with hh | ⟨d',rfl,rfl⟩
    ·exact hh
    ·rcases get_set e2 with ⟨rfl,e3,_⟩ | ⟨hne,e3⟩
     ·cases e3
     ·exact absurd (e.own i j a d d' h e3 h1 e1) hne
   ·rcases get_set h1' with ⟨_,q,_⟩ | ⟨_,q1⟩
    ·cases q
    ·rcases get_set h2' with ⟨_,q,_⟩ | ⟨_,q2⟩
     ·cases q
     ·exact e.own j k b ds es q1 q2 h3 h4
theorem EnvS.frzAt {H₀:Hp} {B₀:BS} (en:EnvS K H₀ B₀ H σ δ) (i:Nat):EnvS K H₀ B₀ H σ (DL.frzAt i δ):=by
 obtain ⟨B,b1,b2,env⟩:=en.ex
 obtain ⟨B',c1,c2,env'⟩:=env.frzAt i
 refine ⟨en.same,⟨B',fun a z=>?_,fun a z=>b2 a (c1 a z),env'⟩,fun j ds a h1 h2=>?_,en.b0⟩
 ·rcases c2 a (b1 a z) with q | ⟨d,q1,q2⟩
  ·exact q
  ·exact absurd (en.fr i d a q1 q2) (en.b0 a z)
 ·unfold DL.frzAt at h1
  cases q:δ[i]? with
  | none=>rw [q] at h1; exact en.fr j ds a h1 h2
  | some s =>
   rw [q] at h1
   rcases get_set h1 with ⟨rfl,q',_⟩ | ⟨_,q1⟩
   ·cases s <;> cases q'
   ·exact en.fr j ds a q1 h2
theorem flat_rp {d:D} {v:V} (h:flat d = true) (r:Rp K H B d v):Rp K H' B' d v:=by
 cases d <;> simp [flat] at h
 ·rw [rp_non] at r ⊢; exact r
 ·rw [rp_bl] at r ⊢; exact r
 ·rw [rp_int] at r ⊢; exact r
 ·rw [rp_str] at r ⊢; exact r
end
section
variable {X:Cx} {e tg:Expr} {st:Stmt} {pos:Pos} {g:GE} {gt:GB} {G:GS}
theorem pd_bor (h:PD X e g):PD X e (borE g):=.mk fun B δ pins s σ H Q I ⟨d,en,hq,k⟩=>by
 obtain ⟨B',c1,c2,en'⟩:=en.frz
 unfold borE at hq
 cases e1:g (frz δ) with
 | none=>rw [e1] at hq; cases hq
 | some x =>
  rw [e1] at hq
  by_cases hf:flat x = true
  ·simp only [Option.bind_some,if_pos hf] at hq
   cases hq
   exact h B' (frz δ) pins s σ H Q I ⟨_,en',e1,fun v H' s' r=>k v H' s' (flat_rp hf r)⟩
  ·simp only [Option.bind_some,if_neg hf] at hq
   cases hq
theorem psd_frzS (i:Nat) (h:PSD X st G):PSD X st (frzS i G):=.mk fun H₀ B₀ δ pins s σ H D I ⟨r,en,hq,k⟩=>h H₀ B₀ _ pins s σ H D I ⟨r,en.frzAt i,hq,k⟩
theorem psd_retB (h:PD X e g):PSD X (.Return (some e) pos) (retD (borA g)):=.mk fun H₀ B₀ δ pins s σ H D I ⟨r,en,hq,k⟩ =>
 psd_ret h H₀ B₀ (frz δ) pins s σ H D I ⟨r,en.frz,hq,k⟩
theorem pdf_lst {es:List Expr} {gA:GA} (h:PDA X es gA):PDF X (.List es pos) (lstG gA) :=
 .mk fun B δ=>(pe_lst (h B δ)).imp fun σ H Q ⟨d,en,h,k⟩=>by
  unfold lstG at h
  cases e1:gA δ with
  | none=>rw [e1] at h; cases h
  | some ds =>
   rw [e1] at h
   by_cases hl:ds.length ≤ sizeLine
   ·simp only [Option.bind_some,if_pos hl] at h
    cases h
    refine ⟨ds,en,e1,fun vs H1 s1 r1=>⟨by rw [r1.length]; exact hl,fun p hp=>k _ _ (s1.free hp) (s1.trans (same_upd hp)) ⟨vs,upd_same,r1.mono (Gr.fresh hp)⟩⟩⟩
   ·simp only [Option.bind_some,if_neg hl] at h
    cases h
theorem pdf_dict0:PDF X (.Dict [] [] pos) (gc (.dct (.inl []) [])):=.mk fun B δ=>pe_dnewK.imp fun σ H Q ⟨d,en,h,k⟩=>by
 cases h
 exact fun p hp=>k p _ hp (same_upd hp) ⟨[],upd_same,rfl,by rw [rps_nil]⟩
theorem psd_own (i:Nat) {x:Str} {px:Pos} (h:PDF X e g) (hN:X.N.Nodup) (hi:X.N[i]? = some x:=by rfl) (hx:Loc X.env.scope x:=by first | exact Or.inl rfl | exact Or.inr rfl)
  (hs:swapsWithSole [.Name x px] e pos.line X.env = pure false:=by rfl) (hw:swappedStores [.Name x px] e X.env = pure none:=by rfl)
  (h1:(assignEach [.Name x px] X.env).map (·.2) = [assign (.Name x px) X.env]:=by rfl)
  (hf:X.fn x = true ∨ X.env.scope.names.lookup x = some .local:=by first | exact .inl rfl | exact .inr rfl | assumption):PSD X (.Assign [.Name x px] e pos) (ownD i g):=.mk fun H₀ B₀ δ pins s σ H D I ⟨r,en,e1,k⟩=>by
 unfold ownD at e1
 obtain ⟨B,b1,b2,env⟩:=en.ex
 cases e2:g δ with
 | none=>rw [e2] at e1; cases e1
 | some d =>
  rw [e2] at e1
  cases e1
  exact ps_asg (h B δ) (pg_name (i:=i) hN hi hx hf) hs hw h1 pins s σ H D I ⟨d,env,e2,fun p H' hp s' r=>k _ H' (en.take b1 b2 env i hp s' r)⟩
end
end DL
namespace L2
open PySem PySem.Spec PyProof.Rows
open PySem.AutoSeq1 (wpAny_loadPart')
theorem extend_any (p:Addr) (xs:Array Value) (k:Nat) (q:Addr) (ys:Array Value) (m:Nat) (dq:Option Addr) (sq:Array (Option Value)) (h0:¬ (!xs.isEmpty && Builtin.List.listTooLong (xs.size + ys.size)) = true) (h1:xs.size ≤ sizeLine) (h2:xs.size + ys.size ≤ sizeLine + 1) :
  Meets (Builtin.«list.extend» ⟨[.ref p,.ref q],[]⟩) (fun _ R s=>s.heap.get? p = some { cls:=.type "list",dict:=none,data:=.seq xs k,slots:=#[] } ∧ s.heap.get? q = some { cls:=.type "list",dict:=dq,data:=.seq ys m,slots:=sq } ∧ R (.ok (.ret Value.none)) { s with heap:=s.heap.update p (Obj.mapSeq fun z=>z ++ ys) }) :=
 .of_wp fun prog w A R s h=>by
  obtain ⟨hp,g,d,tk,os⟩:=s
  obtain ⟨hl,hb,h⟩:=h
  have f1:=AutoSeq1.idx_int
  have f2:=AutoSeq1.sub_tuple_tuple
  have f3:=AutoSeq1.sub_list_list
  have f4:=AutoSeq1.sub_tuple_list
  have f5:=AutoSeq1.sub_list_tuple
  have hz':(xs ++ ys).size ≤ sizeLine + 1:=by rw [Array.size_append]; exact h2
  wp_walk using (wpAny_updateSeq hl rfl (hz:=h1) (_hz':=hz')),wpAny_loadPart' hl,wpAny_loadPart' hb
  exact ⟨_,rfl,h⟩
section
variable {X:Cx}
noncomputable def rExtendL (K:W.Frag):V → List V → Hp → VK → Prop:=fun x vs H Q=>∃ l b xs zs,x = .ref l ∧ vs = [.ref b] ∧ H l = some (.lst xs) ∧ SqL K H b zs ∧ xs.length + zs.length ≤ sizeLine ∧ Q .non (upd H l (.lst (xs ++ zs)))
theorem mt_extendL:MtM X "list.extend" (rExtendL X.K):=by
 intro pins s σ H x vs v us Q I rx rv h
 obtain ⟨l,b,xs,zs,rfl,rfl,hH,hB,hz,q⟩:=h
 cases rx
 obtain ⟨u,rfl,ru⟩:=rv.one
 cases ru
 obtain ⟨z,its,n,r,hl,e⟩:=I.lstM hH
 obtain ⟨its2,r2,p2,z2⟩:=I.list hB
 obtain ⟨⟨cls2,dd2,data2,sl2⟩,ho2,hc2,n2,hd2⟩:=p2.isList
 simp only at hc2 hd2
 subst hc2 hd2
 have hl2:=r2.length
 have hsz:its.toArray.size + its2.toArray.size ≤ sizeLine:=by rw [List.size_toArray,List.size_toArray]; omega
 have hlong:¬ (!its.toArray.isEmpty && Builtin.List.listTooLong (its.toArray.size + its2.toArray.size)) = true:=by
  rw [notLongL hsz,Bool.and_false]
  exact Bool.false_ne_true
 refine call_meets F.slot_list_extend ⟨_,e,rfl⟩ F.entry_list_extend (F.args_list_extend_2 _ _)
  (extend_any l its.toArray n b its2.toArray n2 dd2 sl2 hlong (by rw [List.size_toArray]; omega) (by omega)) ⟨e,ho2,?_⟩
 refine ⟨.non,_,I.lset (its':=its ++ its2) hH e (by simp) (r.append r2) ?_,rfl,q⟩
 rw [List.length_append]
 omega
noncomputable def rDPutS:V → V → V → Hp → (Hp → Prop) → Prop:=fun o i v H Q=>∃ a H',o = .ref a ∧ DPut H a i v H' ∧ Q H'
theorem set_dict (hu:X.A.units + 1 < cLine):PSet X rDPutS:=by
 intro pins s σ H o i v ov iv u Q I ro ri rv h
 obtain ⟨a,H',rfl,g,q⟩:=h
 cases ro
 exact d_setItem hu I g ri rv fun s3 I3=>⟨H',I3,q⟩
end
end L2
namespace DL
open PySem PySem.Spec PyProof.Rows L2
section
variable {K:W.Frag} {H H':Hp} {B B':BS} {σ σ':St} {δ δ':Ds}
structure EnvV (K:W.Frag) (H₀:Hp) (B₀:BS) (H:Hp) (σ:St) (δ:Ds) (d:D) (v:V):Prop where
 same:Same H₀ H
 ex:∃ B:BS,(∀ a,B₀ a → B a) ∧ (∀ a,B a → B₀ a ∨ H₀ a = none) ∧ Env K H B σ δ ∧ Rp K H B d v
 fr:∀ (i:Nat) (ds:D) (a:Addr),δ[i]? = some (.ow ds) → σ[i]? = some (some (.ref a)) → H₀ a = none
 b0:∀ a,B₀ a → NB (H₀ a)
theorem EnvV.s {H₀:Hp} {B₀:BS} {d:D} {v:V} (h:EnvV K H₀ B₀ H σ δ d v):EnvS K H₀ B₀ H σ δ:=⟨h.same,let ⟨B,b1,b2,e,_⟩:=h.ex; ⟨B,b1,b2,e⟩,h.fr,h.b0⟩
theorem EnvV.mk' {H₀:Hp} {B₀:BS} {d:D} {v:V} (h:EnvS K H₀ B₀ H σ δ) (b1:∀ a,B₀ a → B a) (b2:∀ a,B a → B₀ a ∨ H₀ a = none) (e:Env K H B σ δ) (r:Rp K H B d v):EnvV K H₀ B₀ H σ δ d v:=⟨h.same,⟨B,b1,b2,e,r⟩,h.fr,h.b0⟩
end
noncomputable def tX (K:W.Frag) (H₀:Hp) (B₀:BS) (δ:Ds) (gx:GX):TE:=fun σ H Q=>∃ r,EnvS K H₀ B₀ H σ δ ∧ gx δ = some r ∧ ∀ v H',EnvV K H₀ B₀ H' σ r.2 r.1 v → Q v H'
structure PX (X:Cx) (e:Expr) (gx:GX):Prop where
 mk :: go:∀ H₀ B₀ δ,PE X e (tX X.K H₀ B₀ δ gx)
instance {X:Cx} {e:Expr} {gx:GX}:CoeFun (PX X e gx) (fun _=>∀ H₀ B₀ δ,PE X e (tX X.K H₀ B₀ δ gx)):=⟨PX.go⟩
noncomputable def tTG (K:W.Frag) (H₀:Hp) (B₀:BS) (ft:D → Ds → Option Ds) (d:D) (δ:Ds):TG:=fun v σ H Q=>∃ δ',EnvV K H₀ B₀ H σ δ d v ∧ ft d δ = some δ' ∧ ∀ σ' H',EnvS K H₀ B₀ H' σ' δ' → Q σ' H'
structure PTG (X:Cx) (tg:Expr) (ft:D → Ds → Option Ds):Prop where
 mk :: go:∀ H₀ B₀ d δ,PG X tg (tTG X.K H₀ B₀ ft d δ)
instance {X:Cx} {tg:Expr} {ft:D → Ds → Option Ds}:CoeFun (PTG X tg ft) (fun _=>∀ H₀ B₀ d δ,PG X tg (tTG X.K H₀ B₀ ft d δ)):=⟨PTG.go⟩
section
variable {X:Cx} {e tg:Expr} {st:Stmt} {pos apos cpos px:Pos} {g:GE} {gt:GB} {G:GS} {x:Str}
theorem px_pure (h:PD X e g):PX X e (pureX g):=.mk fun H₀ B₀ δ pins s σ H Q I ⟨r,en,e1,k⟩=>by
 unfold pureX at e1
 obtain ⟨B,b1,b2,env⟩:=en.ex
 cases e2:g δ with
 | none=>rw [e2] at e1; cases e1
 | some d =>
  rw [e2] at e1
  cases e1
  exact h B δ pins s σ H Q I ⟨d,env,e2,fun v H' s' r=>k v H' (EnvV.mk' (en.grow s') b1 b2 (env.same s') r)⟩
theorem owL_eq {i:Nat} {δ:Ds} {ds:List D} (h:owL i δ = some ds):δ[i]? = some (.ow (.lst ds)):=by
 unfold owL at h
 split at h
 ·cases h; assumption
 ·cases h
theorem owDc_eq {i:Nat} {δ:Ds} {r:List KeyD × List D} (h:owDc i δ = some r):δ[i]? = some (.ow (.dct (.inl r.1) r.2)):=by
 unfold owDc at h
 split at h
 ·cases h; assumption
 ·cases h
theorem px_app (i:Nat) (h:PD X e g) (hN:X.N[i]? = some x:=by rfl) (hv:Vis X.env.scope x:=by first | exact Or.inl rfl | exact Or.inr (Or.inl rfl) | exact Or.inr (Or.inr rfl)) (hd:(x == ("__debug__" : Str)) = false:=by decide) (hcd:(x == ("__classdict__" : Str)) = false:=by decide)
  (hbase:attributeBase (.Name x px) "append" X.env (eval (.Name x px) X.env) = eval (.Name x px) X.env:=by rfl)
  (hfew:((backTo cpos (starEach [e] X.env)).all (fun x=>!x.1) && (backToKw cpos (keywordEach [] X.env)).all (fun x=>x.1.isSome)
   && decide (([e]:List Expr).length + ([]:List Keyword).length + (if ([]:List Keyword).isEmpty then 0 else 1) < 30)) = true:=by rfl)
  (hline:(apos.endLine == cpos.line) = true:=by rfl) (hs:starEach [e] X.env = (false,eval e X.env) :: starEach [] X.env:=by rfl) (hplain:(backTo cpos (starEach [] X.env)).any (·.1) = false:=by rfl) :
  PX X (.Call (.Attribute (.Name x px) "append" apos) [e] [] cpos) (appX i g):=.mk fun H₀ B₀ δ pins s σ H Q I ⟨r,en,e1,k⟩=>by
 unfold appX at e1
 obtain ⟨B,b1,b2,env⟩:=en.ex
 cases e2:owL i δ with
 | none=>rw [e2] at e1; cases e1
 | some ds =>
  cases e3:g δ with
  | none=>rw [e2,e3] at e1; cases e1
  | some d =>
   rw [e2,e3] at e1
   simp only [Option.bind_some] at e1
   split at e1
   ·rename_i hz
    cases e1
    have hi:=owL_eq e2
    obtain ⟨a,hs',hb,xs,hx,rx⟩:=env.at hi
    refine pe_bm PySem.F.plainAttrs_list PySem.F.slot_list_append PySem.F.type_list_append mt_append (pe_var (i:=i) hN hv hd hcd) (pa_cons (h B δ) pa_nil hs) hbase hfew hline hs hplain pins s σ H Q I
     ⟨_,hs',.inl ⟨rfl,xs,.inl (.inl hx)⟩,d,env,e3,fun v H1 s1 r1=>⟨a,xs,v,rfl,rfl,s1 _ _ hx,by rw [rx.length]; exact hz,?_⟩⟩
    have env2:Env X.K (upd H1 a (.lst (xs ++ [v]))) B σ (δ.set i (.ow (.lst (ds ++ [d])))):=(env.same s1).mut hi hs' ⟨_,upd_same,(Rps.snoc (rx.same s1) r1).mono (Gr.own hb)⟩
    exact k _ _ (EnvV.mk' (en.mut s1 b1 b2 hi hs' env2) b1 b2 env2 (by rw [rp_non]))
   ·cases e1
theorem px_ext (i:Nat) (h:PD X e g) (hN:X.N[i]? = some x:=by rfl) (hv:Vis X.env.scope x:=by first | exact Or.inl rfl | exact Or.inr (Or.inl rfl) | exact Or.inr (Or.inr rfl)) (hd:(x == ("__debug__" : Str)) = false:=by decide) (hcd:(x == ("__classdict__" : Str)) = false:=by decide)
  (hbase:attributeBase (.Name x px) "extend" X.env (eval (.Name x px) X.env) = eval (.Name x px) X.env:=by rfl)
  (hfew:((backTo cpos (starEach [e] X.env)).all (fun x=>!x.1) && (backToKw cpos (keywordEach [] X.env)).all (fun x=>x.1.isSome)
   && decide (([e]:List Expr).length + ([]:List Keyword).length + (if ([]:List Keyword).isEmpty then 0 else 1) < 30)) = true:=by rfl)
  (hline:(apos.endLine == cpos.line) = true:=by rfl) (hs:starEach [e] X.env = (false,eval e X.env) :: starEach [] X.env:=by rfl) (hplain:(backTo cpos (starEach [] X.env)).any (·.1) = false:=by rfl) :
  PX X (.Call (.Attribute (.Name x px) "extend" apos) [e] [] cpos) (extX i g):=.mk fun H₀ B₀ δ pins s σ H Q I ⟨r,en,e1,k⟩=>by
 unfold extX at e1
 obtain ⟨B,b1,b2,env⟩:=en.ex
 cases e2:owL i δ with
 | none=>rw [e2] at e1; cases e1
 | some ds =>
  cases e3:g δ with
  | none=>rw [e2,e3] at e1; cases e1
  | some d =>
   rw [e2,e3] at e1
   simp only [Option.bind_some] at e1
   cases d <;> try cases e1
   rename_i es
   dsimp only at e1
   split at e1
   ·rename_i hz
    cases e1
    have hi:=owL_eq e2
    obtain ⟨a,hs',hb,xs,hx,rx⟩:=env.at hi
    refine pe_bm PySem.F.plainAttrs_list PySem.F.slot_list_extend PySem.F.type_list_extend mt_extendL (pe_var (i:=i) hN hv hd hcd) (pa_cons (h B δ) pa_nil hs) hbase hfew hline hs hplain pins s σ H Q I
     ⟨_,hs',.inl ⟨rfl,xs,.inl (.inl hx)⟩,_,env,e3,fun v H1 s1 r1=>?_⟩
    rw [rp_lst] at r1
    obtain ⟨b,zs,rfl,hq,rz⟩:=r1
    refine ⟨a,b,xs,zs,rfl,rfl,s1 _ _ hx,hq.to,by rw [rx.length,rz.length]; exact hz,?_⟩
    have env2:Env X.K (upd H1 a (.lst (xs ++ zs))) B σ (δ.set i (.ow (.lst (ds ++ es)))):=(env.same s1).mut hi hs' ⟨_,upd_same,(Rps.append (rx.same s1) rz).mono (Gr.own hb)⟩
    exact k _ _ (EnvV.mk' (en.mut s1 b1 b2 hi hs' env2) b1 b2 env2 (by rw [rp_non]))
   ·cases e1
theorem ptg_of {idx:List Nat} {f:D → Ds → Option Ds} (h:PGD X tg idx f):PTG X tg f:=.mk fun H₀ B₀ d δ pins s σ H v u Q I r ⟨δ',en,e1,k⟩=>by
 obtain ⟨B,b1,b2,env,rv⟩:=en.ex
 exact h B d δ pins s σ H v u Q I r ⟨δ',rv,env,e1,fun σ' w en'=>k σ' H (en.s.wr b1 b2 (Same.refl _) w en')⟩
theorem psd_asgX {gx:GX} {ft:D → Ds → Option Ds} (h:PX X e gx) (hg:PTG X tg ft) (hs:swapsWithSole [tg] e pos.line X.env = pure false:=by rfl) (hw:swappedStores [tg] e X.env = pure none:=by rfl)
  (h1:(assignEach [tg] X.env).map (·.2) = [assign tg X.env]:=by rfl):PSD X (.Assign [tg] e pos) (asgX gx ft):=.mk fun H₀ B₀ δ pins s σ H D I ⟨r,en,e1,k⟩=>by
 unfold asgX at e1
 cases e2:gx δ with
 | none=>rw [e2] at e1; cases e1
 | some q =>
  rw [e2] at e1
  simp only [Option.bind_some] at e1
  cases e3:ft q.1 q.2 with
  | none=>rw [e3] at e1; cases e1
  | some δ' =>
   rw [e3] at e1
   cases e1
   exact ps_asg (h H₀ B₀ δ) (hg H₀ B₀ q.1 q.2) hs hw h1 pins s σ H D I ⟨q,en,e2,fun v H' en'=>⟨δ',en',e3,fun σ' H'' en''=>k σ' H'' en''⟩⟩
theorem psd_exprX {gx:GX} (h:PX X e gx) (hs:swapsWith e none pos.line X.env = pure false:=by rfl):PSD X (.Expr e pos) (exprX gx):=.mk fun H₀ B₀ δ pins s σ H D I ⟨r,en,e1,k⟩=>by
 unfold exprX at e1
 cases e2:gx δ with
 | none=>rw [e2] at e1; cases e1
 | some q =>
  rw [e2] at e1
  cases e1
  exact ps_expr (h H₀ B₀ δ) hs pins s σ H D I ⟨q,en,e2,fun v H' en'=>k σ H' en'.s⟩
theorem psd_while (n:Nat) {c:Expr} {body:List Stmt} (hp:PassesOwn (model X.prog X.w) X.A X.env X.xe) (hc:PTD X c gt) (hb:PSsD X body G):PSD X (.While c body [] pos) (whileD gt G n):=.mk fun H₀ B₀ δ pins s σ H D I ⟨r,en,e1,k⟩=>by
 have hc':PT X c (fun σ H Q=>∃ B δ,tDT X.K B δ gt σ H Q):=fun pins s σ H Q I ⟨B,δ,h⟩=>hc B δ pins s σ H Q I h
 have hb':PSs X body (fun D σ H=>∃ δ,tDS X.K H₀ B₀ δ G D σ H):=fun pins s σ H D I ⟨δ,h⟩=>hb H₀ B₀ δ pins s σ H D I h
 refine ps_while hp hc' hb' pins s σ H D I ⟨fun m σ H=>∃ δ',EnvS X.K H₀ B₀ H σ δ' ∧ whileD gt G m δ' = some r,⟨n,δ,en,e1⟩,?_⟩
 rintro m σ1 H1 ⟨δ1,en1,e2⟩
 cases m with
 | zero=>cases e2
 | succ m =>
  unfold whileD at e2
  obtain ⟨B,b1,b2,env⟩:=en1.ex
  cases e3:gt δ1 with
  | none=>rw [e3] at e2; cases e2
  | some t =>
   rw [e3] at e2
   refine ⟨B,δ1,t,env,e3,fun H2 s2=>?_⟩
   cases t with
   | false =>
    rw [if_neg Bool.false_ne_true]
    cases e2
    exact k σ1 H2 (en1.grow s2)
   | true =>
    rw [if_pos rfl]
    dsimp only at e2
    refine ⟨fun σ' H'=>∃ δ',EnvS X.K H₀ B₀ H' σ' δ' ∧ whileD gt G m δ' = some r,fun σ' H' z=>⟨m,Nat.lt_succ_self m,z⟩,δ1,?_⟩
    cases e4:G δ1 with
    | none=>rw [e4] at e2; cases e2
    | some rb =>
     rw [e4] at e2
     refine ⟨rb,en1.grow s2,e4,?_⟩
     cases rb with
     | nx δn=>exact fun σ' H' en'=>⟨δn,en',e2⟩
     | ct δn=>exact fun σ' H' en'=>⟨δn,en',e2⟩
     | bk δn=>cases e2; exact fun σ' H' en'=>k σ' H' en'
     | rt d'=>cases e2; exact fun v H' s' r'=>k v H' s' r'
     | rf d'=>cases e2; exact fun p H' hp s' r'=>k p H' hp s' r'
theorem pgd_tup2 (i j:Nat) {y:Str} {p2 p3:Pos} {kk} (hN:X.N.Nodup) (hij:i ≠ j) (hc:X.calm = true:=by rfl) (hi:X.N[i]? = some x:=by rfl) (hj:X.N[j]? = some y:=by rfl)
  (hx:Loc X.env.scope x:=by first | exact Or.inl rfl | exact Or.inr rfl) (hy:Loc X.env.scope y:=by first | exact Or.inl rfl | exact Or.inr rfl)
  (hf:X.fn x = true ∨ X.env.scope.names.lookup x = some .local:=by first | exact .inl rfl | exact .inr rfl | assumption) (hf2:X.fn y = true ∨ X.env.scope.names.lookup y = some .local:=by first | exact .inl rfl | exact .inr rfl | assumption)
  (hs1:(assignEach [.Name x p2,.Name y p3] X.env).map (·.2) = assign (.Name x p2) X.env :: (assignEach [.Name y p3] X.env).map (·.2):=by rfl) (hs2:(assignEach [.Name y p3] X.env).map (·.2) = assign (.Name y p3) X.env :: (assignEach [] X.env).map (·.2):=by rfl)
  (hn:(assignEach [.Name x p2,.Name y p3] X.env).length = 2:=by rfl) (hst:(assignEach [.Name x p2,.Name y p3] X.env).findIdx? (·.1) = none:=by rfl) :
  PGD X (.Tuple [.Name x p2,.Name y p3] kk pos) [i,j] (tup2 i j):=.mk fun B d δ=>(pg_tup hc (pgs_cons (pg_name (i:=i) hN hi hx hf) (pgs_cons (pg_name (i:=j) hN hj hy hf2) pgs_nil hs2) hs1) hn hst).imp fun v σ H Q ⟨δ',r,en,e1,k⟩=>by
 unfold tup2 at e1
 split at e1
 ·rename_i da db
  cases e1
  rw [rp_tup] at r
  obtain ⟨p,xs,rfl,hq,rs⟩:=r
  rw [rps_cons] at rs
  obtain ⟨va,t1,rfl,ra,rs⟩:=rs
  rw [rps_cons] at rs
  obtain ⟨vb,t2,rfl,rb,rs⟩:=rs
  rw [rps_nil] at rs
  subst rs
  refine ⟨p,_,rfl,hq.to,rfl,va,[vb],rfl,vb,[],rfl,rfl,k _ ?_ ((en.set i ra).set j rb)⟩
  refine ⟨by simp,fun q hq=>?_,fun q hq ds h=>?_⟩
  ·have h1:q ≠ i:=fun z=>hq (by rw [z]; exact List.mem_cons_self)
   have h2:q ≠ j:=fun z=>hq (by rw [z]; exact List.mem_cons_of_mem _ List.mem_cons_self)
   rw [List.getElem?_set_ne (Ne.symm h2),List.getElem?_set_ne (Ne.symm h1),List.getElem?_set_ne (Ne.symm h2),List.getElem?_set_ne (Ne.symm h1)]
   exact ⟨rfl,rfl⟩
  ·rcases get_set h with ⟨rfl,e3,_⟩ | ⟨n1,e3⟩
   ·cases e3
   ·rcases get_set e3 with ⟨rfl,e4,_⟩ | ⟨n2,e4⟩
    ·cases e4
    ·simp at hq
     rcases hq with z | z
     ·exact n2 z.symm
     ·exact n1 z.symm
 ·cases e1
end
end DL
namespace HT
open PySem PyProof.Rows
section
variable {prog:Program} {w:World} {A:Around} {E:Value → Shared → Prop} {s:Shared}
theorem getItem_tuple_whole {t sl:Addr} {items:Array Value} {vl vu:Value} {lo hi:Option Int} {Q:Value → Shared → Prop} (ht:IsTup s.heap t items) (hs:s.heap.IsSliceOf sl vl vu .none) (pl:IsPart vl lo) (pu:IsPart vu hi)
  (hw:sIx items.size 0 lo = 0 ∧ sIx items.size items.size hi = items.size) (h:Q (.ref t) s):wpAny (model prog w) A (getItem (.ref t) (.ref sl)) Q E s:=by
 obtain ⟨os,hos,hcs,hds⟩:=id hs
 have hTs:s.TypeIs (.ref sl) "slice" := ⟨os,hos,hcs⟩
 unfold getItem
 try with_reducible refine wpAny_holding ?_
 first | refine wpAny_bind (wpAny_pure ?_) | skip
 refine wpAny_bind (wpAny_sequenceKey ht.typeIs (by decide) ?_)
 refine wpAny_bind (wpAny_callSpecial?_slot (name:=Str.ofString "__getitem__") ht.typeIs PyProof.Rows.slot_tuple_getitem
  (wpAny_call_entry PyProof.Rows.slot_tuple_getitem ht.typeIs entry_tuple_getitem ?_ (args_tuple_getitem _ _)))
 show wpAny _ _ (Builtin.Tuple.tupleItemsOf (.ref t) >>= _) _ _ s
 refine wpAny_bind (tupleItemsOf_ ht ?_)
 refine wpAny_bind (wpAny_typeOf hTs ?_)
 rw [if_pos (by decide)]
 refine wpAny_bind (sliceApplied_gen hs pl pu ?_)
 have hyes:(((sIx items.size 0 lo:Nat):Int) == 0 && (1:Int) == 1 && (sIx items.size items.size hi - sIx items.size 0 lo) == items.size) = true:=by
  rw [hw.1,hw.2]
  simp
 show wpAny _ _ (if (((sIx items.size 0 lo:Nat):Int) == 0 && (1:Int) == 1 && (sIx items.size items.size hi - sIx items.size 0 lo) == items.size) = true then _ else _) _ _ s
 rw [if_pos hyes]
 unfold Builtin.Tuple.tupleIsExact
 refine wpAny_bind (wpAny_bind (wpAny_typeOf ht.typeIs (wpAny_pure ?_)))
 rw [if_pos (by decide)]
 exact wpAny_bind (wpAny_rule (wpAny_pure ⟨_,rfl,wpAny_pure h⟩))
end
end HT
namespace L2
open PySem PySem.Spec PyProof.Rows
section
variable {X:Cx}
noncomputable def rSlTW (K:W.Frag):V → Option Int → Option Int → Hp → VK → Prop:=fun x lo hi H Q=>∃ a xs,x = .ref a ∧ SqT K H a xs ∧ (HT.sIx xs.length 0 lo = 0 ∧ HT.sIx xs.length xs.length hi = xs.length) ∧ Q (.ref a) H
theorem sl_tupW:SlR X (rSlTW X.K):=by
 intro pins s σ H x v vl vu lo hi sl Q I rx hs pl pu h
 obtain ⟨a,xs,rfl,hx,hw,q⟩:=h
 cases rx
 obtain ⟨its,r,ht,hz⟩:=I.tuple hx
 have hlen:its.toArray.size = xs.length:=by rw [List.size_toArray]; exact r.length.symm
 exact ⟨"tuple",_,PyProof.Rows.slot_tuple_getitem.lookup,ht.typeIs,HT.getItem_tuple_whole ht hs pl pu (by rw [hlen]; exact hw) ⟨.ref a,H,I,rfl,q⟩⟩
noncomputable def rCatT0 (K:W.Frag):R2:=fun x y H Q=>∃ a b ys,x = .ref a ∧ y = .ref b ∧ SqT K H a [] ∧ SqT K H b ys ∧ Q (.ref b) H
theorem op_catT0:OpR X (binaryOp .Add) (rCatT0 X.K):=by
 intro pins s σ H x y v u Q I rx ry h
 obtain ⟨a,b,ys,rfl,rfl,ha,hb,q⟩:=h
 cases rx
 cases ry
 obtain ⟨its,r1,p1,_⟩:=I.tuple ha
 obtain ⟨its2,r2,p2,_⟩:=I.tuple hb
 have e:its = []:=r1.zero
 subst e
 obtain ⟨⟨cls,dd,data,sl⟩,ho,hc,n,hd⟩:=id p1
 obtain ⟨⟨cls2,dd2,data2,sl2⟩,ho2,hc2,n2,hd2⟩:=id p2
 simp only at hc hd hc2 hd2
 subst hc hd hc2 hd2
 exact concat_meets ⟨_,ho,rfl⟩ ⟨_,ho2,rfl⟩ noFill_tuple_add seq_tuple_add PySem.F.slot_tuple_add PySem.F.entry_tuple_add (PySem.F.args_tuple_add_2 _ _)
  (tuple_addW0 a b _ its2.toArray n n2 dd dd2 sl sl2 rfl) ⟨ho,ho2,⟨.ref b,H,I,rfl,q⟩⟩
noncomputable def repS (x:Str) (n:Int):Str:=⟨(List.replicate n.toNat x.cps).foldl (· ++ ·) #[]⟩
noncomputable def rMulS:R2:=fun x y H Q=>∃ z n,x = .str z ∧ y = .int n ∧ -(2 ^ 62) ≤ n ∧ n < 2 ^ 62 ∧ z.length * n.toNat ≤ sizeLine ∧ Q (.str (repS z n)) H
theorem op_mulS:OpR X (binaryOp .Mult) rMulS:=by
 intro pins s σ H x y v u Q I rx ry h
 obtain ⟨z,n,rfl,rfl,h1,h2,hz,q⟩:=h
 obtain ⟨t,rfl⟩:=rx
 obtain ⟨t',rfl⟩:=ry
 have fin:∀ t'' k,EP X pins σ Q (.str (repS z n) t'') { s with toks:=k }:=fun t'' k=>⟨.str _,H,I.tok k,⟨t'',rfl⟩,q⟩
 have hsl:(sizeLine:Nat) < 2 ^ 40:=by decide
 have hdiv:¬ n < 1 → ¬ ((z.length:Int) > (2 ^ 63 - 1) / n):=by
  intro hn
  have hn':0 < n:=by omega
  have:(z.length:Int) * n ≤ 2 ^ 63 - 1:=by
   have e:n = (n.toNat:Int):=by omega
   rw [e]
   have:((z.length * n.toNat:Nat):Int) ≤ 2 ^ 40:=by exact_mod_cast (by omega:z.length * n.toNat ≤ 2 ^ 40)
   rw [Int.natCast_mul] at this
   omega
  exact Int.not_lt.mpr ((Int.le_ediv_iff_mul_le hn').mpr this)
 refine PySem.P.mul_str (by rw [decide_eq_false (by omega),decide_eq_false (by omega)]; rfl) (fun hn _=>hdiv hn) (fun _ _=>?_) ?_
 ·show decide (z.length * n.toNat > sizeLine) = false
  exact decide_eq_false (by omega)
 ·by_cases hn:n < 1
  ·rw [if_pos hn]
   have e:repS z n = Str.empty:=by
    unfold repS
    rw [show n.toNat = 0 by omega]
    rfl
   refine ⟨by decide,?_⟩
   rw [← e]
   exact fin _ _
  ·rw [if_neg hn]
   by_cases h3:(n == 1 || z.length == 0) = true
   ·rw [if_pos h3]
    have e:repS z n = z:=by
     rw [Bool.or_eq_true] at h3
     rcases h3 with h3 | h3
     ·have:n = 1:=eq_of_beq h3
      subst this
      unfold repS
      show (⟨#[] ++ z.cps⟩:Str) = z
      rw [Array.empty_append]
     ·have h3:z.length = 0:=eq_of_beq h3
      have hz0:z.cps = #[]:=Array.eq_empty_of_size_eq_zero h3
      have:∀ k:Nat,(List.replicate k (#[]:Array Nat)).foldl (· ++ ·) #[] = #[]:=by
       intro k
       induction k with
       | zero=>rfl
       | succ k ih=>rw [List.replicate_succ,List.foldl_cons]; exact ih
      unfold repS
      rw [hz0,this]
      cases z
      simp at hz0
      rw [hz0]
    have:=fin t s.toks
    rw [e] at this
    exact this
   ·rw [if_neg h3]
    have hl2:∀ (k:Nat) (acc:Array Nat),((List.replicate k z.cps).foldl (· ++ ·) acc).size = acc.size + k * z.cps.size:=by
     intro k
     induction k with
     | zero=>intro acc; simp
     | succ k ih=>intro acc; rw [List.replicate_succ,List.foldl_cons,ih,Array.size_append,Nat.succ_mul]; omega
    refine ⟨?_,fin _ _⟩
    show ((List.replicate n.toNat z.cps).foldl (· ++ ·) #[]).size ≤ _
    rw [hl2]
    have:z.length = z.cps.size:=rfl
    rw [this,Nat.mul_comm] at hz
    simpa using hz
theorem noFill_tup_mul:fillsNumberSlot (.type "tuple") "mul" = pure false :=
 PySem.fillsNumberSlot_seq (id := "tuple.__mul__") (r:=some (.builtin "tuple.__rmul__")) PySem.F.slot_tuple_mul.lookup (by decide +kernel) PySem.F.slot_tuple_rmul.lookup (by decide +kernel)
theorem repeat_tup:seqRepeat? (.type "tuple") = pure (some (.builtin "tuple.__mul__")):=by
 unfold seqRepeat?
 rw [PySem.seqSlot_of (T := "tuple") (name := "__mul__") (id := "tuple.__mul__") PySem.F.slot_tuple_mul.lookup (by decide +kernel),PySem.seqSlot_of (T := "tuple") (name := "__rmul__") (id := "tuple.__rmul__") PySem.F.slot_tuple_rmul.lookup (by decide +kernel)]
 rfl
theorem rmul_int_tup (a:Int) (t:Tok) (l:Addr) (items:Array Value) (n:Nat) (dd:Option Addr) (sl:Array (Option Value)) :
  Meets (Builtin.«int.__rmul__» ⟨[.int a t,.ref l],[]⟩) (fun _ R s=>s.heap.get? l = some { cls:=.type "tuple",dict:=dd,data:=.seq items n,slots:=sl } ∧ R (.ok (.ret Value.notImplemented)) s) :=
 .of_wp fun prog w A R s h=>by
  obtain ⟨hp,g,d,tk,os⟩:=s
  obtain ⟨hl,h⟩:=h
  wp_walk
  exact ⟨_,rfl,h⟩
theorem tup_mulW (l:Addr) (items:Array Value) (n:Nat) (dd:Option Addr) (sl:Array (Option Value)) (k:Int) (t:Tok) (h2:2 ≤ k) (h3:k < 2 ^ 62) (he:items.isEmpty = false) (hsz:items.size * k.toNat ≤ sizeLine) :
  Meets (Builtin.«tuple.__mul__» ⟨[.ref l,.int k t],[]⟩) (fun _ R s=>s.heap.get? l = some { cls:=.type "tuple",dict:=dd,data:=.seq items n,slots:=sl } ∧ R (.ok (.ret (Value.ref s.heap.objs.size))) { s with heap:=s.heap.push { cls:=.type "tuple",data:=.seq ((List.replicate k.toNat items).foldl (· ++ ·) #[]) } }) :=
 .of_wp fun prog w A R s h=>by
  obtain ⟨hp,g,d,tk,os⟩:=s
  obtain ⟨hl,h⟩:=h
  have f1:=AutoSeq1.idx_int
  have c1:¬ ((decide (k < -(2 ^ 63:Int)) || decide (k ≥ 2 ^ 63)) = true):=by
   rw [decide_eq_false (by omega),decide_eq_false (by omega)]; exact Bool.false_ne_true
  have c2:¬ ((items.isEmpty || k == 1) = true):=by
   rw [he,beq_eq_false_iff_ne.mpr (by omega)]; exact Bool.false_ne_true
  have c3:¬ ((decide (k ≤ 0) || items.isEmpty) = true):=by
   rw [he,decide_eq_false (by omega)]; exact Bool.false_ne_true
  have hk:((items.size:Int) * k) = ((items.size * k.toNat:Nat):Int):=by
   rw [Int.natCast_mul]; congr 1; omega
  have hb:(sizeLine:Nat) < 2 ^ 40:=by decide
  have c4:¬ ((items.size:Int) * k > (2 ^ 63 - 1) / 8):=by
   rw [hk]; omega
  have c5:¬ (Builtin.Tuple.tupleTooMany ((items.size:Int) * k) = true):=by
   rw [hk]
   unfold Builtin.Tuple.tupleTooMany
   simp only [decide_eq_true_eq]
   omega
  have hsz2:∀ (m:Nat) (acc:Array Value),((List.replicate m items).foldl (· ++ ·) acc).size = acc.size + m * items.size:=by
   intro m
   induction m with
   | zero=>intro acc; simp
   | succ m ih=>intro acc; rw [List.replicate_succ,List.foldl_cons,ih,Array.size_append,Nat.succ_mul]; omega
  have htake:sizeOk (.seq ((List.replicate k.toNat items).foldl (· ++ ·) #[])):=by
   show ((List.replicate k.toNat items).foldl (· ++ ·) #[]).size ≤ sizeLine
   rw [hsz2,Nat.mul_comm]
   simpa using hsz
  wp_walk
  rw [if_neg c1]
  show wpAny _ _ (Builtin.Tuple.tupleItemsOf (.ref l) >>= _) _ _ _
  refine wpAny_bind (tupleItemsOf_ ⟨_,hl,rfl,n,rfl⟩ ?_)
  dsimp only
  rw [if_neg c2,if_neg c3]
  rw [if_neg c4,if_neg c5]
  exact wpAny_bind (m:=Builtin.Tuple.tupleExact _) (wpAny_newObj_type (wpAny_pure ⟨_,rfl,h⟩) htake)
noncomputable def rMulT (K:W.Frag):R2:=fun x y H Q=>∃ a xs k,x = .ref a ∧ y = .int k ∧ SqT K H a xs ∧ xs ≠ [] ∧ 2 ≤ k ∧ k < 2 ^ 62 ∧ xs.length * k.toNat ≤ sizeLine ∧ ∀ p,H p = none → Q (.ref p) (upd H p (.tup (List.replicate k.toNat xs).flatten))
theorem op_mulT:OpR X (binaryOp .Mult) (rMulT X.K):=by
 intro pins s σ H x y v u Q I rx ry h
 obtain ⟨a,xs,k,rfl,rfl,ha,hx,h2,h3,hz,q⟩:=h
 cases rx
 obtain ⟨t,rfl⟩:=ry
 obtain ⟨its,r1,p1,_⟩:=I.tuple ha
 obtain ⟨⟨cls,dd,data,sl⟩,ho,hc,n,hd⟩:=id p1
 simp only at hc hd
 subst hc hd
 have hl:=r1.length
 have he:its.toArray.isEmpty = false:=by
  cases its with
  | nil=>exact absurd (r1.nil_iff.mp rfl) hx
  | cons a b=>rfl
 have hlen:its.toArray.size * k.toNat ≤ sizeLine:=by rw [List.size_toArray,← hl]; exact hz
 have hnew:(List.replicate k.toNat its.toArray).foldl (· ++ ·) #[] = (List.replicate k.toNat its).flatten.toArray:=by
  have:=foldl_rep its k.toNat []
  rw [List.nil_append] at this
  exact this
 refine wpAny_binaryOp_repeat_ref (T := "tuple") (U := "int") (by decide) ⟨_,ho,rfl⟩ (fun s'=>typeIs_int s' k t) noFill_tup_mul F.fills_int_mul F.slot_int_rmul repeat_tup F.slot_int_index.lookup
  (call_meets F.slot_int_rmul (typeIs_int s k t) F.entry_int_rmul (F.args_int_rmul_2 _ _) (rmul_int_tup k t a its.toArray n dd sl)
   ⟨ho,rfl,⟨_,ho,rfl⟩,call_meets F.slot_tuple_mul ⟨_,ho,rfl⟩ F.entry_tuple_mul (F.args_tuple_mul_2 _ _) (tup_mulW a its.toArray n dd sl k t h2 h3 he hlen) ⟨ho,?_⟩⟩)
 rw [hnew]
 refine ⟨.ref s.heap.objs.size,_,I.laid (t':=s.toks) (o:=.tup (List.replicate k.toNat xs).flatten) (fun b ob q=>Heap.get?_push_of_some _ q) (Nat.le_refl _) ?_,rfl,q _ (I.hok.fresh (Nat.le_refl _))⟩
 exact ⟨by rw [len_rep,Nat.mul_comm]; exact hz,_,r1.rep k.toNat,IsTupN.new _ _⟩
end
end L2
namespace DL
open PySem PySem.Spec PyProof.Rows L2
section
variable {X:Cx} {pins:List (Addr × Obj)} {σ:St} {H:Hp} {s:Shared}
end
section
variable {X:Cx} {pins:List (Addr × Obj)} {σ:St} {H:Hp} {s:Shared}
end
section
variable {X:Cx} {K:W.Frag} {e a b:Expr} {es:List Expr} {pos p:Pos} {g ga gb:Ds → Option D} {gA:Ds → Option (List D)}
theorem op2_addA:Op2 K (fun x y H Q=>rI0 (fun i j=>.int (i + j)) x y H Q ∨ (∃ i j,x = .str i ∧ y = .str j ∧ i.length + j.length ≤ sizeLine ∧ Q (.str (i ++ j)) H) ∨ rCatL K x y H Q ∨ rCatT K x y H Q ∨ rCatT0 K x y H Q) addA:=by
 intro H B x y dx dy d Q hb rx ry h k
 cases dx <;> cases dy <;> simp only [addA] at h <;> try cases h
 ·rw [rp_int] at rx ry
  subst rx ry
  exact .inl ⟨_,_,rfl,rfl,k _ H (Same.refl H) (by rw [rp_int])⟩
 ·split at h
  ·cases h
   rw [rp_str] at rx ry
   subst rx ry
   exact .inr (.inl ⟨_,_,rfl,rfl,by assumption,k _ H (Same.refl H) (by rw [rp_str])⟩)
  ·cases h
 ·split at h
  ·rename_i hz
   cases h
   have ry0:=ry
   have rx0:=rx
   rw [rp_tup] at rx ry
   obtain ⟨a,xs,rfl,q1,r1⟩:=rx
   obtain ⟨b,ys,rfl,q2,r2⟩:=ry
   by_cases he:xs = []
   ·subst he
    have e:‹List D› = ‹List D›:=rfl
    have hn:=r1.length
    simp at hn
    have hn':=List.length_eq_zero_iff.mp hn.symm
    subst hn'
    exact .inr (.inr (.inr (.inr ⟨a,b,ys,rfl,rfl,q1.to,q2.to,k _ H (Same.refl H) (by rw [List.nil_append]; exact ry0)⟩)))
   ·refine .inr (.inr (.inr (.inl ⟨a,b,xs,ys,rfl,rfl,q1.to,q2.to,he,by rw [r1.length,r2.length]; exact hz,fun z=>?_,fun z p hp=>k _ _ (same_upd hp) (rp_newT hb hp (r1.append r2))⟩)))
    subst z
    have hn:=r2.length
    simp at hn
    have hn':=List.length_eq_zero_iff.mp hn.symm
    subst hn'
    exact k _ H (Same.refl H) (by rw [List.append_nil]; exact rx0)
  ·cases h
 ·split at h
  ·rename_i hz
   cases h
   rw [rp_lst] at rx ry
   obtain ⟨a,xs,rfl,q1,r1⟩:=rx
   obtain ⟨b,ys,rfl,q2,r2⟩:=ry
   exact .inr (.inr (.inl ⟨a,b,xs,ys,rfl,rfl,q1.to,q2.to,by rw [r1.length,r2.length]; exact hz,fun p hp=>k _ _ (same_upd hp) (rp_newL hb hp (r1.append r2))⟩))
  ·cases h
theorem pd_addA (ha:PD X a ga) (hb:PD X b gb):PD X (.BinOp a .Add b pos) (o2 ga gb addA):=pd_op (op_add.or (op_add_str.or (op_catL.or (op_catT.or op_catT0)))) op2_addA ha hb
theorem rps_rep {H:Hp} {B:BS} {ds:List D} {xs:List V} (h:Rps K H B ds xs):∀ k:Nat,Rps K H B (List.replicate k ds).flatten (List.replicate k xs).flatten
 | 0=>by simp [rps_nil]
 | k + 1=>by
  rw [List.replicate_succ,List.replicate_succ,List.flatten_cons,List.flatten_cons]
  exact h.append (rps_rep h k)
theorem op2_mulA:Op2 K (fun x y H Q=>rI CMul (fun i j=>.int (i * j)) x y H Q ∨ rMulS x y H Q ∨ rMulT K x y H Q) mulA:=by
 intro H B x y dx dy d Q hb rx ry h k
 cases dx <;> cases dy <;> simp only [mulA] at h <;> try cases h
 ·split at h
  ·cases h
   rw [rp_int] at rx ry
   subst rx ry
   exact .inl ⟨_,_,rfl,rfl,by assumption,k _ H (Same.refl H) (by rw [rp_int])⟩
  ·cases h
 ·split at h
  ·rename_i hz
   cases h
   rw [rp_str] at rx
   rw [rp_int] at ry
   subst rx ry
   exact .inr (.inl ⟨_,_,rfl,rfl,hz.1,hz.2.1,hz.2.2,k _ H (Same.refl H) (by rw [rp_str]; rfl)⟩)
  ·cases h
 ·split at h
  ·rename_i hz
   cases h
   rw [rp_tup] at rx
   rw [rp_int] at ry
   subst ry
   obtain ⟨a,xs,rfl,q1,r1⟩:=rx
   refine .inr (.inr ⟨a,xs,_,rfl,rfl,q1.to,fun z=>hz.1 ?_,hz.2.1,hz.2.2.1,by rw [r1.length]; exact hz.2.2.2,fun p hp=>k _ _ (same_upd hp) (rp_newT hb hp (rps_rep r1 _))⟩)
   subst z
   have hn:=r1.length
   simp at hn
   exact List.length_eq_zero_iff.mp hn.symm
  ·cases h
theorem pd_mulA (ha:PD X a ga) (hb:PD X b gb):PD X (.BinOp a .Mult b pos) (o2 ga gb mulA):=pd_op (op_mul.or (op_mulS.or op_mulT)) op2_mulA ha hb
theorem cut_whole {xs:List D} {lo hi:Option Int} (h:sIx xs.length 0 lo = 0 ∧ sIx xs.length xs.length hi = xs.length):cutD xs lo hi = xs:=by
 unfold cutD
 rw [h.1,h.2]
 simp
theorem pd_sliceA {lo hi:Option Expr} {gl gh:Ds → Option (Option Int)} {p2:Pos} (he:PD X e g) (hl:PDO X lo gl) (hh:PDO X hi gh) :
  PD X (.Subscript e (.Slice lo hi none p2) pos) (slAG g gl gh):=.mk fun B δ =>
 (pe_slice (sl_str.or (sl_list.or (sl_tup.or sl_tupW))) (he B δ) (hl B δ) (hh B δ)).imp fun σ H Q ⟨d,en,h,k⟩=>by
  unfold slAG at h
  cases e1:g δ with
  | none=>rw [e1] at h; cases h
  | some x =>
   cases e2:gl δ with
   | none=>rw [e1,e2] at h; cases h
   | some l =>
    cases e3:gh δ with
    | none=>rw [e1,e2,e3] at h; cases h
    | some u =>
     rw [e1,e2,e3] at h
     simp only [Option.bind_some] at h
     refine ⟨x,en,e1,fun v H1 s1 r1=>⟨l,en.same s1,(by first | exact e2 | rfl),fun H2 s2=>⟨u,(en.same s1).same s2,(by first | exact e3 | rfl),fun H3 s3=>?_⟩⟩⟩
     have S:=(s1.trans s2).trans s3
     have r3:=(r1.same s2).same s3
     have hb:=(((en.same s1).same s2).same s3).bad
     cases x <;> simp only [slA] at h <;> try cases h
     ·split at h
      ·cases h
       rw [rp_str] at r3
       exact .inl ⟨_,r3,by assumption,k _ H3 S (by rw [rp_str])⟩
      ·cases h
     ·have r4:=r3
      rw [rp_tup] at r3
      obtain ⟨a,xs,rfl,q,r⟩:=r3
      rename_i dxs
      by_cases hw:sIx dxs.length 0 l = 0 ∧ sIx dxs.length dxs.length u = dxs.length
      ·refine .inr (.inr (.inr ⟨a,xs,rfl,q.to,by rw [r.length,sIx_eq,sIx_eq]; exact hw,k _ _ S ?_⟩))
       rw [cut_whole hw]
       exact r4
      ·exact .inr (.inr (.inl ⟨a,xs,rfl,q.to,by rw [r.length,sIx_eq,sIx_eq]; exact hw,fun p hp=>k _ _ (S.trans (same_upd hp)) (rp_newT hb hp (cut_rel r l u))⟩))
     ·rw [rp_lst] at r3
      obtain ⟨a,xs,rfl,q,r⟩:=r3
      exact .inr (.inl ⟨a,xs,rfl,q.to,fun p hp=>k _ _ (S.trans (same_upd hp)) (rp_newL hb hp (cut_rel r l u))⟩)
end
end DL
namespace SetS
open PySem PySem.Spec PyProof.Rows DL
section
variable {prog:Program} {w:World} {A:Around} {R:Result → Shared → Prop} {I:Addr} {fp wr:List Addr} {G:Array GenState → Array GenState → Prop} {P:Nat → Value → Prop} {St:Nat → Shared → Prop}
end
section
variable {prog:Program} {w:World} {A:Around} {E:Value → Shared → Prop} {s:Shared}
end
end SetS
namespace DL
open PySem PySem.Spec PyProof.Rows L2
section
variable {X:Cx} {K:W.Frag} {e a b:Expr} {es:List Expr} {pos p pos2 p2:Pos} {g ga gb:Ds → Option D} {gA:Ds → Option (List D)}
end
end DL
namespace DL
open PySem PySem.Spec PyProof.Rows
theorem tup_of {gA:GA} {δ:Ds} {ds:List D} (h:gA δ = some ds) (hl:ds.length ≤ sizeLine):tupG gA δ = some (.tup ds):=by
 unfold tupG
 rw [h,Option.bind_some,if_pos hl]
theorem lst_of {gA:GA} {δ:Ds} {ds:List D} (h:gA δ = some ds) (hl:ds.length ≤ sizeLine):lstG gA δ = some (.lst ds):=by
 unfold lstG
 rw [h,Option.bind_some,if_pos hl]
theorem rng_mem {n:Int} {d:D} (h:d ∈ rngD 0 n):∃ k:Nat,(k:Int) < n ∧ d = .int (k:Int):=by
 obtain ⟨k,hk,rfl⟩:=List.mem_map.mp h
 have:=List.mem_range.mp hk
 exact ⟨k,by omega,by rw [Int.zero_add]⟩
theorem rng_map {α:Type} (f:D → α) (n:Int):(rngD 0 n).map f = (List.range n.toNat).map fun (k:Nat)=>f (.int (k:Int)):=by
 unfold rngD
 rw [List.map_map]
 have:n - 0 = n:=by omega
 rw [this]
 refine List.map_congr_left fun k _=>?_
 show f (.int (0 + (k:Int))) = _
 rw [Int.zero_add]
theorem rng_len (n:Int):(rngD 0 n).length = n.toNat:=by unfold rngD; simp
theorem rng_get {n:Int} {j:Nat} {d:D} (h:(rngD 0 n)[j]? = some d):j < n.toNat ∧ d = .int (j:Int):=by
 have hj:j < n.toNat:=by
  have:=(List.getElem?_eq_some_iff.mp h).1
  rwa [rng_len] at this
 refine ⟨hj,?_⟩
 unfold rngD at h
 rw [List.getElem?_map,List.getElem?_range (by simpa using hj)] at h
 have:=Option.some.inj h
 rw [← this]
 show D.int (0 + (j:Int)) = _
 rw [Int.zero_add]
theorem comp_rng {gt:GB} {ge:GE} {δ:Ds} {n:Int} (h:Nat → D) (H:∀ k:Nat,(k:Int) < n → ∃ δ',gN 0 (.int (k:Int)) δ = some δ' ∧ gt δ' = some true ∧ ge δ' = some (h k)) :
  compD (gN 0) gt ge δ (rngD 0 n) = some ((List.range n.toNat).map h):=by
 rw [compD_map (fun d=>match d with | .int j=>h j.toNat | _=>.non) (fun d hd=>by
  obtain ⟨k,hk,rfl⟩:=rng_mem hd
  exact H k hk),rng_map]
 rfl
end DL
namespace DL
open PySem PySem.Spec PyProof.Rows L2
section
variable {X:Cx} {K:W.Frag} {e a b:Expr} {es:List Expr} {pos p pos2 p2:Pos} {g ga gb:Ds → Option D} {gA:Ds → Option (List D)}
theorem pdf_list {x:Str} (hm:X.mg x = none) (hv:bootBuiltins x = some (.type "list")) (ha:PD X e g) (hg:Gl X x:=by rfl)
  (hn:x ≠ "__name__" := by decide) (hdb:(x == ("__debug__" : Str)) = false:=by decide) (he:starEach [e] X.env = (false,eval e X.env) :: starEach [] X.env:=by rfl) (hpl:(backTo pos (starEach [] X.env)).any (·.1) = false:=by rfl) :
  PDF X (.Call (.Name x p) [e] [] pos) (oA (consA g nilA) lstOfD):=.mk fun B δ=>(pe_callTy call_list_of hg hm hv (pa_cons (ha B δ) pa_nil he) hn hdb he hpl).imp fun σ H Q ⟨d,en,h,k⟩=>by
 unfold oA consA nilA at h
 cases e1:g δ with
 | none=>rw [e1] at h; cases h
 | some x =>
  rw [e1] at h
  simp only [Option.bind_some,Option.map_some] at h
  refine ⟨x,en,e1,fun v H1 s1 r1=>?_⟩
  cases x <;> simp only [lstOfD] at h <;> try cases h
  ·rw [rp_tup] at r1
   obtain ⟨q,xs,rfl,hq,rr⟩:=r1
   exact ⟨q,xs,rfl,.inr hq.to,fun l hl=>k l _ (s1.free hl) (s1.trans (same_upd hl)) ⟨_,upd_same,rr.mono (Gr.fresh hl)⟩⟩
  ·rw [rp_lst] at r1
   obtain ⟨q,xs,rfl,hq,rr⟩:=r1
   exact ⟨q,xs,rfl,.inl hq.to,fun l hl=>k l _ (s1.free hl) (s1.trans (same_upd hl)) ⟨_,upd_same,rr.mono (Gr.fresh hl)⟩⟩
end
section
variable {X:Cx} {e:Expr} {es:List Expr} {pos p:Pos} {g:Ds → Option D} {gA:Ds → Option (List D)}
noncomputable def FnN (P:Program) (w:World) (K:W.Frag) (mg:Str → Option Value) (base:Heap) (x:Str) (k:Nat) (ps:List Str) (f:List D → Option D):Prop :=
 ∃ (fa:Addr) (fd:FuncData),FnOk P w K mg base CX0 k fa fd ps (spN K f) ∧ mg x = some (.ref fa) ∧ W.keepIn K (.ref fa) = true ∧ Binds K fd ps []
theorem pdf_fn {k m:Nat} {ps:List Str} {x:Str} {f:List D → Option D} (C:FnN X.prog X.w X.K X.mg X.base x k ps f) (hr:Room m X.A) (hk:k ≤ m) (ha:PDA X (e :: es) gA) (hg:Gl X x:=by rfl) (hdb:(x == ("__debug__" : Str)) = false:=by decide)
  (he:starEach (e :: es) X.env = (false,eval e X.env) :: starEach es X.env:=by rfl) (hpl:(backTo pos (starEach es X.env)).any (·.1) = false:=by rfl):PDF X (.Call (.Name x p) (e :: es) [] pos) (oA gA f):=by
 obtain ⟨fa,fd,F,hm,kp,hb⟩:=C
 exact .mk fun B δ=>(pe_call (E:=E0) F (hr.mono hk) hg hm kp hb .nil pass0 (ha B δ) hdb he hpl).imp fun σ H Q h=>by
  obtain ⟨d,en,h,k⟩:=h
  unfold oA at h
  cases e1:gA δ with
  | none=>rw [e1] at h; cases h
  | some ds =>
   rw [e1] at h
   refine ⟨ds,en,e1,fun vs H1 s1 r1=>?_⟩
   show spN X.K f (vs ++ []) H1 Q E0
   rw [List.append_nil]
   exact ⟨B,ds,d,(en.same s1).bad,r1,h,fun p H' hp s r=>k p H' (s1.free hp) (s1.trans s) r⟩
theorem pd_fnN {k m:Nat} {ps:List Str} {x:Str} {f:List D → Option D} (C:FnN X.prog X.w X.K X.mg X.base x k ps f) (hr:Room m X.A) (hk:k ≤ m) (ha:PDA X (e :: es) gA) (hg:Gl X x:=by rfl) (hdb:(x == ("__debug__" : Str)) = false:=by decide)
  (he:starEach (e :: es) X.env = (false,eval e X.env) :: starEach es X.env:=by rfl) (hpl:(backTo pos (starEach es X.env)).any (·.1) = false:=by rfl):PD X (.Call (.Name x p) (e :: es) [] pos) (oA gA f):=(pdf_fn C hr hk ha hg hdb he hpl).pd
theorem psd_retF (h:PDF X e g):PSD X (.Return (some e) pos) (retF g):=.mk fun H₀ B₀ δ pins s σ H D I ⟨r,en,e1,k⟩=>by
 unfold retF at e1
 obtain ⟨B,b1,b2,env⟩:=en.ex
 cases e2:g δ with
 | none=>rw [e2] at e1; cases e1
 | some d =>
  rw [e2] at e1
  cases e1
  exact ps_ret (h B δ) pins s σ H D I ⟨d,env,e2,fun p H' hp s' r=>k p H' (en.same.free hp) (en.same.trans s') (r.mono (fun o h=>h) (Gr.less fun a z=>z.imp (b1 a) id)).toL⟩
theorem psd_retO (i:Nat) {x:Str} {px:Pos} (hN:X.N[i]? = some x:=by rfl) (hv:Vis X.env.scope x:=by first | exact Or.inl rfl | exact Or.inr (Or.inl rfl) | exact Or.inr (Or.inr rfl)) (hd:(x == ("__debug__" : Str)) = false:=by decide) (hcd:(x == ("__classdict__" : Str)) = false:=by decide) :
  PSD X (.Return (some (.Name x px)) pos) (retO i):=.mk fun H₀ B₀ δ pins s σ H D I ⟨r,en,e1,k⟩=>by
 unfold retO at e1
 obtain ⟨B,b1,b2,env⟩:=en.ex
 split at e1
 ·rename_i d hi
  obtain ⟨a,hs,hb,ro⟩:=env.at hi
  cases e1
  exact ps_ret (pe_var (i:=i) hN hv hd hcd) pins s σ H D I ⟨_,hs,k a H (en.fr i d a hi hs) en.same (ro.mono (fun o h=>h) (Gr.less fun b z=>z.elim (b1 b) fun q=>by rw [q]; exact hb))⟩
 ·cases e1
end
end DL
namespace DL
open PySem
@[simp] noncomputable def zipTD:List D → Option D
 | [.lst ds,.lst es]=>some (.tup ((ds.zip es).map fun p=>.tup [p.1,p.2]))
 | _=>none
noncomputable def methG (g:GE) (gA:GA) (f:D → List D → Option D):GE:=fun δ=>(g δ).bind fun d=>(gA δ).bind fun ds=>f d ds
theorem rng1_of {gA:GA} {δ:Ds} {n:Int} (h:gA δ = some [.int n]) (h1:-(2 ^ 62) ≤ n) (h2:n < 2 ^ 62):rng1I gA δ = some (rngD 0 n):=by
 unfold rng1I
 rw [h,Option.bind_some]
 simp only [rng1D]
 rw [if_pos ⟨h1,h2⟩]
theorem len_of {g:GE} {δ:Ds} {ds:List D} (h:g δ = some (.lst ds)):oA (consA g nilA) lenD δ = some (.int (ds.length:Int)):=by
 rw [oA_of (cons_of h rfl)]
 rfl
end DL
namespace RevL
open PySem PySem.Spec PyProof.Rows
section
variable {prog:Program} {w:World} {A:Around} {s:Shared} {R:Result → Shared → Prop}
variable {I:Addr} {fp wr:List Addr} {G:Array GenState → Array GenState → Prop} {n:Nat} {P:Nat → Value → Prop} {St:Nat → Shared → Prop}
end
section
variable {prog:Program} {w:World} {A:Around} {E:Value → Shared → Prop} {s:Shared}
variable {I:Addr} {fp wr:List Addr} {G:Array GenState → Array GenState → Prop} {n:Nat} {P:Nat → Value → Prop} {St:Nat → Shared → Prop}
end
end RevL
namespace DL
open PySem PySem.Spec PyProof.Rows L2
section
variable {X:Cx} {e:Expr} {pos p pos2 p2:Pos} {g:Ds → Option D}
end
section
variable {K:W.Frag} {H:Hp} {B:BS}
theorem val_rel {κ:Type} [DecidableEq κ]:∀ {ks:List κ} {ds:List D} {xs:List V} {q:κ},Rps K H B ds xs → (∀ d,getK ks ds q = some d → ∃ x,valV (ks.zip xs) q = some x ∧ Rp K H B d x) ∧ (ks.length = xs.length → (valV (ks.zip xs) q).isSome = hasK ks q)
 | [],ds,xs,q,h=>by
  refine ⟨fun d e=>?_,fun _=>?_⟩
  ·unfold getK at e; cases e
  ·rfl
 | k :: ks,[],xs,q,h=>by
  rw [rps_nil] at h; subst h
  refine ⟨fun d e=>?_,fun z=>?_⟩
  ·unfold getK at e; cases e
  ·simp at z
 | k :: ks,d :: ds,xs,q,h=>by
  rw [rps_cons] at h
  obtain ⟨x,r,rfl,h1,h2⟩:=h
  obtain ⟨i1,i2⟩:=val_rel (ks:=ks) (q:=q) h2
  by_cases e:k = q
  ·subst e
   refine ⟨fun d' e'=>?_,fun _=>?_⟩
   ·unfold getK at e'
    rw [if_pos rfl] at e'
    cases e'
    exact ⟨x,valV_pos rfl,h1⟩
   ·rw [List.zip_cons_cons,valV_pos rfl]
    unfold hasK
    simp
  ·refine ⟨fun d' e'=>?_,fun z=>?_⟩
   ·unfold getK at e'
    rw [if_neg e] at e'
    rw [List.zip_cons_cons,valV_neg e]
    exact i1 d' e'
   ·rw [List.zip_cons_cons,valV_neg e,i2 (by simpa using z)]
    unfold hasK
    simp [e]
theorem any_zip {κ:Type} [DecidableEq κ]:∀ {ks:List κ} {xs:List V} {q:κ},ks.length = xs.length → ((ks.zip xs).any fun kv=>decide (kv.1 = q)) = hasK ks q
 | [],_,_,_=>rfl
 | k :: ks,[],_,h=>by simp at h
 | k :: ks,x :: xs,q,h=>by
  rw [List.zip_cons_cons,List.any_cons,any_zip (by simpa using h)]
  rfl
theorem put_zip {κ:Type} [DecidableEq κ] {ks:List κ} {xs:List V} {q:κ} {v:V} (h:ks.length = xs.length):∃ ys,putK (ks.zip xs) q v = (putKs ks q).zip ys ∧ (putKs ks q).length = ys.length ∧ (hasK ks q = true → ys = (ks.zip xs).map fun p=>if p.1 = q then v else p.2) ∧ (hasK ks q = false → ys = xs ++ [v]):=by
 unfold putK putKs
 rw [any_zip h]
 cases hk:hasK ks q with
 | true =>
  rw [if_pos rfl,if_pos rfl]
  refine ⟨(ks.zip xs).map fun p=>if p.1 = q then v else p.2,?_,by simp [h],fun _=>rfl,fun z=>by cases z⟩
  clear hk
  induction ks generalizing xs with
  | nil=>rfl
  | cons k ks ih =>
   cases xs with
   | nil=>simp at h
   | cons x xs =>
    rw [List.zip_cons_cons,List.map_cons,List.map_cons,List.zip_cons_cons,ih (by simpa using h)]
    by_cases e:k = q <;> simp [e]
 | false =>
  rw [if_neg (by simp),if_neg (by simp)]
  refine ⟨xs ++ [v],?_,by simp [h],fun z=>(by cases z),fun _=>rfl⟩
  rw [List.zip_append h]
  rfl
theorem rps_putMap {κ:Type} [DecidableEq κ] {q:κ} {d:D} {v:V} (hv:Rp K H B d v):∀ {ks:List κ} {ds:List D} {xs:List V},Rps K H B ds xs → Rps K H B ((ks.zip ds).map fun p=>if p.1 = q then d else p.2) ((ks.zip xs).map fun p=>if p.1 = q then v else p.2)
 | [],_,_,_=>by simp [rps_nil]
 | k :: ks,[],xs,h=>by rw [rps_nil] at h; subst h; simp [rps_nil]
 | k :: ks,d' :: ds,xs,h=>by
  rw [rps_cons] at h
  obtain ⟨x,r,rfl,h1,h2⟩:=h
  rw [List.zip_cons_cons,List.zip_cons_cons,List.map_cons,List.map_cons,rps_cons]
  refine ⟨_,_,rfl,?_,rps_putMap hv h2⟩
  by_cases e:k = q
  ·simp only [e,if_true]; exact hv
  ·simp only [e,if_false]; exact h1
end
section
variable {X:Cx} {e a b o:Expr} {es:List Expr} {pos p px:Pos} {g ga gb:Ds → Option D} {x:Str}
theorem key_v {K:W.Frag} {H:Hp} {B:BS} {d:D} {k:KeyD} {v:V} (h:asKey d = some k) (r:Rp K H B d v):v = kV k:=by
 cases d <;> simp [asKey] at h
 ·subst h; rw [rp_int] at r; subst r; rfl
 ·subst h; rw [rp_str] at r; subst r; rfl
theorem ptg_put (i:Nat) (hu:X.A.units + 1 < cLine) (h:PD X e g) (hN:X.N[i]? = some x:=by rfl) (hv:Vis X.env.scope x:=by first | exact Or.inl rfl | exact Or.inr (Or.inl rfl) | exact Or.inr (Or.inr rfl)) (hd:(x == ("__debug__" : Str)) = false:=by decide) (hcd:(x == ("__classdict__" : Str)) = false:=by decide)
  (ha:∀ v,assign (.Subscript (.Name x px) e pos) X.env v = (do
   let ov ← holding [v] (eval (.Name x px) X.env)
   let iv ← holding [v,ov] (eval e X.env)
   standAt pos
   holding [v,ov,iv] (setItem ov iv v)
   release [v,ov,iv] []):=by intro _; rfl):PTG X (.Subscript (.Name x px) e pos) (putAt i g):=.mk fun H₀ B₀ d δ pins s σ H v u Q I r ⟨δ',en,e1,k⟩=>by
 unfold putAt at e1
 obtain ⟨B,b1,b2,env,rv⟩:=en.ex
 cases e2:owDc i δ with
 | none=>rw [e2] at e1; cases e1
 | some pr =>
  cases e3:g δ with
  | none=>rw [e2,e3] at e1; cases e1
  | some dk =>
   rw [e2,e3] at e1
   simp only [Option.bind_some] at e1
   cases e4:asKey dk with
   | none=>rw [e4] at e1; cases e1
   | some q =>
    rw [e4] at e1
    simp only [Option.bind_some] at e1
    split at e1
    ·rename_i hz
     cases e1
     have hi:=owDc_eq e2
     obtain ⟨a,hs',hb,xs,hx,hl,rx⟩:=env.at hi
     have hl:pr.1.length = xs.length:=hl
     refine pg_sub (pe_var (i:=i) hN hv hd hcd) (h B δ) (set_dict hu) ha pins s σ H v u Q I r ⟨_,hs',_,env,e3,fun iv H1 s1 r1=>?_⟩
     have:=key_v e4 r1
     subst this
     obtain ⟨ys,hy,hyl,hy1,hy2⟩:=put_zip (q:=q) (v:=v) hl
     refine ⟨a,_,rfl,DPut.k (s1 _ _ hx) (by rw [List.length_zip,← hl,Nat.min_self]; exact hz),?_⟩
     have rr:Rps X.K H1 B (putDs pr.1 pr.2 q d) ys:=by
      unfold putDs
      cases hk:hasK pr.1 q with
      | true=>rw [if_pos rfl,hy1 hk]; exact rps_putMap (rv.same s1) (rx.same s1)
      | false=>rw [if_neg (by simp),hy2 hk]; exact Rps.snoc (rx.same s1) (rv.same s1)
     rw [hy]
     have env2:Env X.K (upd H1 a (.dK ((putKs pr.1 q).zip ys))) B σ (δ.set i (.ow (.dct (.inl (putKs pr.1 q)) (putDs pr.1 pr.2 q d)))):=(env.same s1).mut hi hs' ⟨ys,upd_same,hyl,rr.mono (Gr.own hb)⟩
     exact k _ _ (en.s.mut s1 b1 b2 hi hs' env2)
    ·cases e1
end
section
variable {X:Cx} {pins:List (Addr × Obj)} {σ:St} {H:Hp} {s:Shared} {Q:VK} {B:BS} {f:Addr} {kvs:List (Key × V)} {v:V} {u:Value}
theorem run_lam {k:Nat} {q:Key} (hr:Room k X.A) (I:Inv X pins σ H s) (F:FnAtH H B f kvs) (ry:RelV (kV q) u) (hv:valV kvs q = some v) (h:Q v H) :
  wpAny (model X.prog X.w) X.A (call (.ref f) [u]) (EP X pins σ Q) X.xe s:=by
 obtain ⟨oF,oC,oK,fd,c,cd,p,x,y,⟨_,h1⟩,⟨h2,h3,p1,p2,p3,e1,e2,e3,e4,e5,e6,e7,e8,e9,e10,e11,e12,e13,hb⟩,⟨_,h4⟩,h5,⟨_,h6⟩,⟨vs,t,h7,h8⟩,_,h9⟩:=F
 have o1:=(I.hok f _ h1).1
 have o2:=(I.hok c _ h4).1
 have o3:=(I.hok cd _ h6).1
 refine wpAny_call (W.kla_callFunE hr.depth o1 h3 e2 e3 e1 ⟨cd,oK,vs,t,e9,o3,h7,h8⟩ ?_)
 rw [hb]
 refine wpAny_pure (wpAny_newFunctionEnv e7 (fun z hz=>by rw [List.mem_singleton.mp hz]; exact e5) (fun h₁ hns hsb=>⟨I.nolimit.fresh _ hsb,?_⟩) e4)
 have hk₁:∀ b o,s.heap.get? b = some o → h₁.get? b = some o:=fun b o e=>hsb.extBut b o (Nat.ne_of_lt (Heap.lt_size e)) (Heap.get?_push_of_some _ e)
 have I1:∀ t',Inv X pins σ H { s with heap:=h₁,toks:=t' }:=fun t'=>I.un (Un.kept hk₁) (I.hok.kept hk₁)
 refine W.kla_codeExpr ?_
 have hu:(X.A.deeper (newEnv fd.scope s.heap.objs.size fd.globals fd.closure (fd.qualname ++ ".<locals>.") (some f) fd.code none fd.builtins)).units + 1 < cLine:=by
  have:=hr.un
  show X.A.units + 3 + 1 < cLine
  omega
 have g:DGet H p (kV q) (some v):=by rw [← hv]; exact DGet.k h9
 have hc:(newEnv fd.scope s.heap.objs.size fd.globals fd.closure (fd.qualname ++ ".<locals>.") (some f) fd.code none fd.builtins).cells.lookup x = some c:=by
  show fd.closure.lookup x = some c
  rw [e8]
  simp
 refine subD_of PySem.F.slot_dict_getitem.lookup (fun _ _=>rfl) (wpAny_Name (wpAny_loadName_free e4 e6 hc ⟨oC,hk₁ _ _ o2,h5⟩ ?_ e12) e11)
 refine wpAny_Name (wpAny_loadName_local e4 e5 hns (by show List.lookup y [(y,u)] = some u; simp) ⟨dict_typeIs (I1 _) g,?_⟩) e13
 exact d_getItem hu (I1 _) g ry fun w' s' I' rw'=>⟨v,H,I',rw',h⟩
theorem FnAtH.at (I:Inv X pins σ H s) (F:FnAtH H B f kvs):W.FnAt f s.heap:=by
 obtain ⟨oF,oC,oK,fd,c,cd,p,x,y,⟨_,h1⟩,⟨h2,h3,_⟩,_⟩:=F
 have o1:=(I.hok f _ h1).1
 obtain ⟨a,b,d,e⟩:=oF
 obtain rfl:d = .func fd:=h3
 exact ⟨a,b,fd,e,o1⟩
end
noncomputable def tCL (ta tb:TE):TE:=fun σ H Q=>ta σ H fun v H1=>∃ f B kvs,v = .ref f ∧ FnAtH H1 B f kvs ∧ tb σ H1 fun y H2=>∃ B2 kvs2 q w,FnAtH H2 B2 f kvs2 ∧ y = kV q ∧ valV kvs2 q = some w ∧ Q w H2
section
variable {X:Cx} {x:Str} {e:Expr} {p pos:Pos} {ta tb:TE} {k:Nat} {ga gb:Ds → Option D}
theorem pe_callL (hr:Room k X.A) (ha:PE X (.Name x p) ta) (hb:PE X e tb) (he:starEach [e] X.env = (false,eval e X.env) :: starEach [] X.env:=by rfl) (hpl:(backTo pos (starEach [] X.env)).any (·.1) = false:=by rfl) :
  PE X (.Call (.Name x p) [e] [] pos) (tCL ta tb):=by
 intro pins s σ H Q I h
 refine wpAny_Call_Name_kw (thn (ha pins s σ H _ I h) fun fv s1 ⟨v,H1,I1,rv,f,B,kvs,ev,F,h1⟩=>?_)
 subst ev
 cases (show fv = Value.ref f from rv)
 refine W.callWith_F (F.at I1) (thn (pa_cons hb pa_nil he pos pins s1 σ H1 (fun vs H2=>∃ y,vs = [y] ∧ ∃ B2 kvs2 q w,FnAtH H2 B2 f kvs2 ∧ y = kV q ∧ valV kvs2 q = some w ∧ Q w H2) I1 (by
  show tb σ H1 (fun x H1=>tNil σ H1 fun xs H2=>_)
  have:(fun y H2=>∃ B2 kvs2 q w,FnAtH H2 B2 f kvs2 ∧ y = kV q ∧ valV kvs2 q = some w ∧ Q w H2) = fun x H1=>tNil σ H1 fun xs H2=>∃ y,x :: xs = [y] ∧ ∃ B2 kvs2 q w,FnAtH H2 B2 f kvs2 ∧ y = kV q ∧ valV kvs2 q = some w ∧ Q w H2:=by
   funext x H1
   unfold tNil
   simp
  rw [← this]
  exact h1)) fun us s2 ⟨vs,H2,I2,r2,y,ey,B2,kvs2,q,w,F2,eq,hv,hQ⟩=>⟨F2.at I2,?_⟩) he hpl
 subst ey eq
 cases r2 with
 | cons ry rn =>
  cases rn
  exact run_lam hr I2 F2 ry hv hQ
@[simp] noncomputable def callLD:D → D → Option D
 | .fn ks ds,d=>(asKey d).bind fun k=>getK ks ds k
 | _,_=>none
theorem pd_callL (hr:Room k X.A) (ha:PD X (.Name x p) ga) (hb:PD X e gb) (he:starEach [e] X.env = (false,eval e X.env) :: starEach [] X.env:=by rfl) (hpl:(backTo pos (starEach [] X.env)).any (·.1) = false:=by rfl) :
  PD X (.Call (.Name x p) [e] [] pos) (o2 ga gb callLD):=.mk fun B δ=>(pe_callL hr (ha B δ) (hb B δ) he hpl).imp fun σ H Q ⟨d,en,h,k⟩=>by
 unfold o2 at h
 cases e1:ga δ with
 | none=>rw [e1] at h; cases h
 | some x =>
  cases e2:gb δ with
  | none=>rw [e1,e2] at h; cases h
  | some y =>
   rw [e1,e2] at h
   simp only [Option.bind_some] at h
   refine ⟨x,en,e1,fun v1 H1 s1 r1=>?_⟩
   cases x <;> simp only [callLD] at h <;> try cases h
   rename_i ks ds
   cases e3:asKey y with
   | none=>rw [e3] at h; cases h
   | some q =>
    rw [e3] at h
    simp only [Option.bind_some] at h
    rw [rp_fn] at r1
    obtain ⟨f,xs,rfl,F,l,rr⟩:=r1
    refine ⟨f,B,_,rfl,F,y,en.same s1,e2,fun v2 H2 s2 r2=>?_⟩
    obtain ⟨w,hw,rw'⟩:=(val_rel (ks:=ks) (q:=q) (rr.same s2)).1 d h
    exact ⟨B,_,q,w,F.mono (Gr.same s2),key_v e3 r2,hw,k w H2 (s1.trans s2) rw'⟩
end
theorem among_snoc {pos pos':Pos} {c cv:Value}:∀ l:List Value,TriplesOk l → codeAmong pos (l ++ [rawInt pos'.line,rawInt pos'.col,c]) = some cv → codeAmong pos l = some cv ∨ cv = c:=by
 intro l h
 fun_induction TriplesOk l with
 | case1 =>
  intro e
  simp only [List.nil_append,codeAmong,rawInt] at e
  split at e
  ·exact .inr (Option.some.inj e).symm
  ·cases e
 | case2 a t b u x rest ih =>
  intro e
  simp only [List.cons_append,codeAmong] at e ⊢
  split at e
  ·rename_i hc
   rw [if_pos hc]
   exact .inl e
  ·rename_i hc
   rw [if_neg hc]
   exact ih h e
 | case3 l h1 h2=>exact h.elim
structure LamDone (X:Cx) (H:Hp) (s:Shared) (x y:Str) (c p:Addr) (f cd:Addr) (oF oC oK:Obj) (fd:FuncData) (H2:Hp) (s':Shared):Prop where
 os:s'.os = s.os
 gens:s'.gens = s.gens
 same:Same H H2
 hok:HOk X.prog X.w H2 s'.heap
 new:∀ b,H b = none → H2 b ≠ none → b = c ∨ s.heap.objs.size ≤ b
 keep:∀ b o,H b = none → s.heap.get? b = some o → s'.heap.get? b = some o
 there:∀ b o,s.heap.get? b = some o → ∃ o',s'.heap.get? b = some o'
 hf:H2 f = some (.frz oF (.own f))
 fn:oF.cls = .type "function" ∧ oF.data = .func fd ∧ LamFd fd x y c cd
 hc:H2 c = some (.frz oC (.own c))
 cell:oC.data = .cell (some (.ref p))
 hcd:H2 cd = some (.frz oK (.own cd))
 code:∃ vs t,oK.data = .fields vs ∧ vs[1]? = some (.str fd.qualname t)
section
variable {X:Cx} {pins:List (Addr × Obj)} {σ:St} {H H1:Hp} {s:Shared} {Pt c f:Addr} {h':Heap} {tp:Array Value} {oC oF:Obj}
theorem lam_ok (I:Inv X pins σ H s) (hT:H Pt = some (.tbl tp)) (kp:Heap.ExtBut Pt s.heap h') (h1:Same H H1) (hc:H1 c = none) (hf:H1 f = none) (ne:f ≠ c) (eC:h'.get? c = some oC) (eF:h'.get? f = some oF)
  (new:∀ b u,H b = none → H1 b = some u → ∃ o,u = .frz o (.own b) ∧ h'.get? b = some o) (tab:TabOk H1 h' Pt (qOf tp)) :
  Same H (upd (upd H1 c (.frz oC (.own c))) f (.frz oF (.own f))) ∧ HOk X.prog X.w (upd (upd H1 c (.frz oC (.own c))) f (.frz oF (.own f))) h':=by
 have up:Same H1 (upd (upd H1 c (.frz oC (.own c))) f (.frz oF (.own f))):=fun b u q=>by
  rw [upd_ne (ne_of_none q hf),upd_ne (ne_of_none q hc)]
  exact q
 refine ⟨h1.trans up,fun b u q=>?_⟩
 by_cases bf:b = f
 ·subst bf
  rw [upd_same] at q
  cases q
  exact ⟨eF,_,eF⟩
 rw [upd_ne bf] at q
 by_cases bc:b = c
 ·subst bc
  rw [upd_same] at q
  cases q
  exact ⟨eC,_,eC⟩
 rw [upd_ne bc] at q
 cases e:H b with
 | none =>
  obtain ⟨o,rfl,eo⟩:=new b u e q
  exact ⟨eo,_,eo⟩
 | some w =>
  have q2:=h1 b w e
  rw [q] at q2
  cases q2
  by_cases bT:b = Pt
  ·subst bT
   rw [hT] at e
   cases e
   obtain ⟨cont,t1,t2,t3⟩:=tab
   exact ⟨cont,t1,t2,fun pos cv z=>let ⟨c',oc,vs,tq,z1,z2,z3⟩:=t3 pos cv z; ⟨c',oc,vs,tq,z1,up _ _ z2,z3⟩⟩
  ·exact (I.hok b u e).stay (fun b' w hb' r=>kp b' w (by
    rcases hb' with rfl | hb'
    ·exact bT
    ·rintro rfl
     rw [hT] at hb'
     cases hb') r) (fun b' z=>up _ _ (h1 _ _ z)) (fun b' xs z=>up _ _ (h1 _ _ z)) fun b' ob u' z=>up _ _ (h1 _ _ z)
end
section
variable {X:Cx} {pins:List (Addr × Obj)} {σ:St} {H:Hp} {s:Shared} {E:Value → Shared → Prop} {lp:Arguments} {lsc:Scope} {lpos p1 p2 p3:Pos} {x y:Str} {c0 Pt c p:Addr} {i:Nat} {tp:Array Value}
theorem mk_lam (I:Inv X pins σ H s) (hN:X.N[i]? = some x) (hs:σ[i]? = some (some (.ref p))) (hk:X.env.kindOf x = some .cell) (hkl:X.env.scope.names.lookup x = some .cell) (hc:X.env.cells.lookup x = some c) (hcl:closureFor lsc X.env = pure [(x,c)])
  (hdef:defaultsOf lp X.env = ([],[])) (hcode:X.env.code = .ref c0) (C:W.CodeHd X.base c0 Pt) (hB:X.base.BuiltinsAt X.mg Pt) (hT:H Pt = some (.tbl tp)) (hq:qOf tp = X.env.qual ++ "<lambda>")
  (hfd:∀ pm ctv cd,LamFd (W.kla_fn "<lambda>" (X.env.qual ++ "<lambda>") lp (.Subscript (.Name x p1) (.Name y p2) p3) lsc [(x,c)] pm (.ref cd) ctv) x y c cd) :
  wpAny (model X.prog X.w) X.A (eval (.Lambda lp (.Subscript (.Name x p1) (.Name y p2) p3) lsc lpos) X.env) (fun u s'=>∃ f cd oF oC oK fd H2,u = .ref f ∧ LamDone X H s x y c p f cd oF oC oK fd H2 s') E s:=by
 refine W.kla_eval hdef ?_
 obtain ⟨m,hn,hl⟩:=id I.loc
 obtain ⟨u,r,l⟩:=hl i x _ hN hs (.inr (.inl hkl))
 cases (show u = Value.ref p from r)
 have hcell:s.heap.IsCell c (some (.ref p)):=by
  rcases l with ⟨z,_⟩ | ⟨_,c',z1,z2⟩
  ·rw [hk] at z; cases z
  ·rw [hc] at z1
   cases z1
   exact z2
 obtain ⟨oC,hoC,hdC⟩:=hcell
 obtain ⟨cont,e,t,cs⟩:=(show TabOk H s.heap Pt (qOf tp) from I.hok Pt _ hT)
 have hg:=I.mod.glob.keeps I.bk
 have hHc:=I.freeC x c hc
 have ncT:c ≠ Pt:=fun z=>by rw [z,hT] at hHc; cases hHc
 have hgP:mainGlobals ≠ Pt:=fun z=>by
  obtain ⟨o,es,ep,eo,_⟩:=I.mod.glob
  have:=(I.bs _ _ eo).2
  rw [z,hT] at this
  cases this
 have hcs:c < s.heap.objs.size:=Heap.lt_size hoC
 cases hca:codeAmong lpos cont.toList with
 | none =>
  refine W.kla_makeFunction hcl I.ok.glob hg hcode (C.keeps I.bk) e t hca hgP (hB.keeps I.bk) fun c' ctv h' tk hx hge hlt hrec htab=>?_
  obtain ⟨c2,oK,vs,tq,ec2,hoK,dK,vK⟩:=hrec
  cases ec2
  have hHc':H c' = none:=I.hok.fresh hge
  have hpush:∀ b o,h'.get? b = some o → (h'.push (W.kla_obj "<lambda>" (X.env.qual ++ "<lambda>") lp (.Subscript (.Name x p1) (.Name y p2) p3) lsc [(x,c)] ((X.mg "__name__").getD .none) c' ctv)).get? b = some o:=fun b o z=>Heap.get?_push_of_some _ z
  have hsz:s.heap.objs.size ≤ h'.objs.size:=Nat.le_trans hge (Nat.le_of_lt hlt)
  have hHf:H h'.objs.size = none:=I.hok.fresh hsz
  have ncc:c ≠ c':=Nat.ne_of_lt (Nat.lt_of_lt_of_le hcs hge)
  have nfc:h'.objs.size ≠ c:=Nat.ne_of_gt (Nat.lt_of_lt_of_le hcs hsz)
  have kp:Heap.ExtBut Pt s.heap (h'.push (W.kla_obj "<lambda>" (X.env.qual ++ "<lambda>") lp (.Subscript (.Name x p1) (.Name y p2) p3) lsc [(x,c)] ((X.mg "__name__").getD .none) c' ctv)):=fun b o nb z=>hpush _ _ (hx b o nb z)
  obtain ⟨sm,ok⟩:=lam_ok (H1:=upd H c' (.frz oK (.own c'))) (f:=h'.objs.size) I hT kp (same_upd hHc') (by rw [upd_ne ncc]; exact hHc) (by rw [upd_ne (Nat.ne_of_gt hlt)]; exact hHf) nfc (hpush _ _ (hx c oC ncT hoC)) (Heap.get?_push_size _ rfl) (fun b u z1 z2=>by
   by_cases bc:b = c'
   ·subst bc
    rw [upd_same] at z2
    cases z2
    exact ⟨oK,rfl,hpush _ _ hoK⟩
   ·rw [upd_ne bc,z1] at z2
    cases z2) ⟨_,hpush _ _ htab,by rw [Array.toList_append]; exact TriplesOk_snoc _ _ _ _ t,fun pos cv z=>by
    rw [Array.toList_append] at z
    rcases among_snoc _ t z with z | rfl
    ·obtain ⟨c1,oc,ws,tq1,z1,z2,z3⟩:=cs pos cv z
     exact ⟨c1,oc,ws,tq1,z1,same_upd hHc' _ _ z2,z3⟩
    ·exact ⟨c',oK,vs,tq,rfl,upd_same,dK,by rw [hq]; exact vK⟩⟩
  refine ⟨h'.objs.size,c',_,oC,oK,_,_,rfl,⟨rfl,rfl,sm,ok,fun b z1 z2=>?_,fun b o z1 z2=>kp b o (fun z=>by rw [z,hT] at z1; cases z1) z2,fun b o z=>?_,upd_same,⟨rfl,rfl,hfd _ _ _⟩,?_,hdC,?_,vs,tq,dK,vK⟩⟩
  ·by_cases bf:b = h'.objs.size
   ·exact .inr (by rw [bf]; exact hsz)
   ·rw [upd_ne bf] at z2
    by_cases bc:b = c
    ·exact .inl bc
    ·rw [upd_ne bc] at z2
     by_cases bc':b = c'
     ·exact .inr (by rw [bc']; exact hge)
     ·rw [upd_ne bc'] at z2
      exact absurd z1 z2
  ·by_cases bT:b = Pt
   ·subst bT
    exact ⟨_,hpush _ _ htab⟩
   ·exact ⟨o,kp b o bT z⟩
  ·rw [upd_ne (Ne.symm nfc),upd_same]
  ·rw [upd_ne (Nat.ne_of_lt hlt),upd_ne (Ne.symm ncc),upd_same]
 | some cv =>
  obtain ⟨cd,oK,vs,tq,rfl,hcd,dK,vK⟩:=cs _ _ hca
  refine W.kla_makeFunctionHit hcl I.ok.glob hg hcode (C.keeps I.bk) e t hca (hB.keeps I.bk) fun ctv h' tk hk' hsz=>?_
  have hHf:H h'.objs.size = none:=I.hok.fresh hsz
  have hpush:∀ b o,h'.get? b = some o → (h'.push { cls:=.type "function",data:=.func (W.kla_fn "<lambda>" (X.env.qual ++ "<lambda>") lp (.Subscript (.Name x p1) (.Name y p2) p3) lsc [(x,c)] ((X.mg "__name__").getD .none) (.ref cd) ctv) }).get? b = some o:=fun b o z=>Heap.get?_push_of_some _ z
  have kp:∀ b o,s.heap.get? b = some o → _:=fun b o z=>hpush _ _ (hk' b o z)
  have nfc:h'.objs.size ≠ c:=Nat.ne_of_gt (Nat.lt_of_lt_of_le hcs hsz)
  have ncd:cd ≠ c:=fun z=>by rw [z,hHc] at hcd; cases hcd
  have nfd:cd ≠ h'.objs.size:=fun z=>by rw [z,hHf] at hcd; cases hcd
  obtain ⟨sm,ok⟩:=lam_ok (H1:=H) (f:=h'.objs.size) I hT (fun b o _ z=>kp b o z) (Same.refl H) hHc hHf nfc (kp c oC hoC) (Heap.get?_push_size _ rfl) (fun b u z1 z2=>by rw [z1] at z2; cases z2) ⟨cont,kp _ _ e,t,cs⟩
  refine ⟨h'.objs.size,cd,_,oC,oK,_,_,rfl,⟨rfl,rfl,sm,ok,fun b z1 z2=>?_,fun b o _ z2=>kp b o z2,fun b o z=>⟨o,kp b o z⟩,upd_same,⟨rfl,rfl,hfd _ _ _⟩,?_,hdC,?_,vs,tq,dK,by rw [hq] at vK; exact vK⟩⟩
  ·by_cases bf:b = h'.objs.size
   ·exact .inr (by rw [bf]; exact hsz)
   ·rw [upd_ne bf] at z2
    by_cases bc:b = c
    ·exact .inl bc
    ·rw [upd_ne bc] at z2
     exact absurd z1 z2
  ·rw [upd_ne (Ne.symm nfc),upd_same]
  ·rw [upd_ne nfd,upd_ne ncd]
   exact hcd
end
theorem execs_app (env:PySem.Env) (b:List Stmt):∀ a:List Stmt,execs (a ++ b) env = (execs a env >>= fun f=>match f with | .next=>execs b env | f=>pure f)
 | []=>by rw [List.nil_append,execs]; simp
 | st :: a=>by
  rw [List.cons_append,execs_cons,execs_cons,bind_assoc]
  congr 1
  funext f
  cases f <;> simp [execs_app env b a]
noncomputable def TQ (H:Hp) (Pt:Addr) (q:Str):Prop:=∃ t ps,H Pt = some (.tbl (#[.str q t] ++ ps))
theorem qOf_one (q:Str) (t:Tok) (ps:Array Value):qOf (#[.str q t] ++ ps) = q:=by
 have:((#[Value.str q t] ++ ps)[0]?:Option Value) = some (.str q t):=by
  rw [Array.getElem?_append_left (by simp)]
  rfl
 unfold qOf
 rw [this]
theorem TQ.same {H H':Hp} {Pt:Addr} {q:Str} (s:Same H H') (h:TQ H Pt q):TQ H' Pt q:=let ⟨t,ps,e⟩:=h; ⟨t,ps,s _ _ e⟩
noncomputable def spT (Pt:Addr) (q:Str) (sp:Sp):Sp:=fun vs H Q E=>TQ H Pt q ∧ sp vs H Q E
structure FunL (K:W.Frag) (x qual:Str) (st:Stmt) (f:Addr) (fd:FuncData) (c0:Addr):Prop where
 ex:∃ (oc:Value) (od:Option Addr) (kV doc pm:Value) (an:Option Addr) (ct:Value) (osl:Array (Option Value)),
  fd = W.fnOf x qual (defArgs st) (defBody st) (defScope st) .none kV doc pm an (.ref c0) ct ∧ K.lookup f = some ⟨oc,od,.func fd,osl⟩ ∧ W.codeIn K (.ref c0) qual = true
section
variable {P:Program} {w:World} {K:W.Frag} {mg:Str → Option Value} {base:Heap}
theorem okL {x qual:Str} {st:Stmt} {init:List Stmt} {rpos lpos p1 p2 p3:Pos} {lp:Arguments} {lsc:Scope} {vn yn:Str} {fa c0 Pt:Addr} {fd:FuncData} {N ps:List Str} {k i:Nat} {f:List D → Option D} {G:Ds → Option Res}
  (F:FunL K x qual st fa fd c0) (S:FnScope N ps (defScope st)) (C:W.CodeHd base c0 Pt) (hB:base.BuiltinsAt mg Pt)
  (hst:defBody st = init ++ [.Return (some (.Lambda lp (.Subscript (.Name vn p1) (.Name yn p2) p3) lsc lpos)) rpos]) (hv:(defScope st).names.lookup vn = some .cell) (hN:N[i]? = some vn)
  (hcl:∀ (env:PySem.Env) (c:Addr),env.cells.lookup vn = some c → closureFor lsc env = pure [(vn,c)]) (hdef:∀ env:PySem.Env,defaultsOf lp env = ([],[]))
  (hfd:∀ (qn:Str) (c:Addr) (pm ctv:Value) (cd:Addr),LamFd (W.kla_fn "<lambda>" qn lp (.Subscript (.Name vn p1) (.Name yn p2) p3) lsc [(vn,c)] pm (.ref cd) ctv) vn yn c cd)
  (body:∀ (cdv:Value) (A:Around) (outer:List PySem.Env) (s:Shared) (H:Hp) (E:XK),Room k (A.deeper (envOfC qual (defScope st) s.heap.objs.size fa cdv)) → PSsD (cxOf CX0 P w K mg base N qual (defScope st) fa cdv A outer s H E).nox init G)
  (hf:∀ ds d,f ds = some d → ds.length = ps.length ∧ ∃ δ ks es,G (dStart N ds) = some (.nx δ) ∧ δ[i]? = some (.ow (.dct (.inl ks) es)) ∧ d = .fn ks es) :
  FnOk P w K mg base CX0 (k + 1) fa fd ps (spT Pt (qual ++ ".<locals>." ++ "<lambda>") (spD K f)):=by
 obtain ⟨oc,od,kV,doc,pm,an,ct,osl,rfl,lk,hcd⟩:=F.ex
 have len:∀ vs H Q E,spT Pt (qual ++ ".<locals>." ++ "<lambda>") (spD K f) vs H Q E → vs.length = ps.length:=fun vs H Q E ⟨_,B,ds,d,_,r,h,_⟩=>by rw [r.length]; exact (hf ds d h).1
 refine ⟨len,fun A outer s H args us vs Q E hr e0 hb r hsp=>?_⟩
 have hl:=len _ _ _ _ hsp
 obtain ⟨hTQ,B,ds,d,hBB,rr,hfs,q⟩:=hsp
 have KX:K.In s.heap:=e0.mod.kin.keeps fun b o e=>(e0.bs b o e).1
 have lim:s.heap.NoLimit:=e0.mod.nolimit.keeps fun b o e=>(e0.bs b o e).1
 have hkind:∀ y ∈ ps.zip us,(defScope st).names.lookup y.1 = some .local ∨ ((defScope st).names.lookup y.1 = some .cell ∧ ((cellsFrom (s.heap.objs.size + 1) (defScope st).names []).lookup y.1).isSome = true):=fun ⟨n,v⟩ hy=>by
  rcases S.par n (List.of_mem_zip hy).1 with q | q
  ·exact .inl q
  ·exact .inr ⟨q,W.cellsFrom_some _ _ _ (.inl q)⟩
 refine codeAny_call_function hr.depth (KX _ _ lk) rfl S.co S.gen rfl (W.codeRec_of KX hcd) (hb _ _ _ _ ?_)
 refine wpAny_newFunctionEnv_cells S.kind hkind fun env he s1 xx=>?_
 subst he
 refine ⟨lim.keeps xx.toInCall.keep,codeAny_func ?_⟩
 have I:Inv (cxOf CX0 P w K mg base N qual (defScope st) fa (.ref c0) A outer s H E) [] (start N vs) H s1:=inv_start S hr.hd e0 hl r xx
 obtain ⟨hlen,δ,ks,es,hG,hδ,rfl⟩:=hf ds d hfs
 have en:EnvS K H B H (L2.start N vs) (dStart N ds):=by
  refine ⟨Same.refl H,⟨B,fun _ z=>z,fun _ z=>.inl z,⟨?_,hBB,fun i j a ds' es h1 _ _ _=>(dStart_ow h1).elim⟩⟩,fun i ds' a h1 _=>(dStart_ow h1).elim,hBB⟩
  unfold L2.start dStart
  rw [rr.length]
  exact Pd.app (start_rel (N:=N) rr) (rep_un _)
 obtain ⟨c,hc⟩:=cell_has (n:=s.heap.objs.size + 1) hv
 have run:=((body (.ref c0) A outer s H E (hr.deeper _)).go H B (dStart N ds)).nox [] s1 (start N vs) H { nx:=fun σ' H'=>EnvS K H B H' σ' δ,rt:=fun _ _=>False } I ⟨_,en,hG,fun σ' H' z=>z⟩
 rw [hst,execs_app]
 refine wpAny_bind (wpAny_mono run (fun fl s' hs=>?_) fun e s' hs=>hs)
 cases fl with
 | ret u=>obtain ⟨_,_,_,_,_,z⟩:=hs; exact False.elim z
 | brk=>obtain ⟨_,_,_,z⟩:=hs; exact False.elim z
 | cont=>obtain ⟨_,_,_,z⟩:=hs; exact False.elim z
 | next =>
  obtain ⟨σ',H',J,en'⟩:=hs
  obtain ⟨B',b1,b2,env⟩:=en'.ex
  obtain ⟨p,hσ,hBp,rL⟩:=env.at hδ
  obtain ⟨t,tp,hT⟩:=hTQ.same en'.same
  refine wpAny_execs_cons (wpAny_Return_some (thn (mk_lam (i:=i) (c:=c) (c0:=c0) (Pt:=Pt) J hN hσ hv hv hc (hcl _ _ hc) (hdef _) rfl C hB hT (qOf_one _ _ _) fun pm ctv cd=>hfd _ _ _ _ _) fun u s2 ⟨f',cd,oF,oC,oK,fd',H2,eu,L⟩=>?_))
  subst eu
  have sm:Same H H2:=en'.same.trans L.same
  have hlt:∀ b o,s.heap.get? b = some o → b ≠ c:=fun b o e z=>by
   have h1:s.heap.objs.size ≤ c:=Nat.le_of_lt (xx.above vn c (PySem.mem_of_lookup hc))
   have h2:=Heap.lt_size e
   rw [z] at h2
   exact absurd h2 (Nat.not_lt.mpr h1)
  have nB:∀ {z:Addr} {o:Obj},H2 z = some (.frz o (.own z)) → ¬ B z:=fun e z=>((hBB _ z).same sm).nf _ _ e
  obtain ⟨xs,e1,e2,e3⟩:=(show RpO K H' B' (.dct (.inl ks) es) p from rL)
  have un:Un (frs outer) [] H H2 s.heap s2.heap:=by
   have jb:Un (frs outer) [] H H' s.heap s'.heap:=J.base
   refine ⟨fun b o e n hb hx=>L.keep b o (jb.free b o e n hx) (jb.keep b o e n hb hx),fun b o e n hb hx=>?_,fun b o e n hx=>?_,fun b o e hx=>?_,fun b xs e=>L.same _ _ (jb.tups b xs e),fun b o u e=>L.same _ _ (jb.frzs b o u e),fun b ps e=>?_⟩
   ·obtain ⟨sl,z⟩:=jb.slot b o e n hb hx
    exact ⟨sl,L.keep b _ (jb.free b o e n hx) z⟩
   ·cases z:H2 b with
    | none=>rfl
    | some o' =>
     have z0:=jb.free b o e n hx
     rcases L.new b z0 (by rw [z]; exact fun z=>nomatch z) with y | y
     ·exact absurd y (hlt b o e)
     ·have h1:s.heap.objs.size ≤ s'.heap.objs.size:=J.sz
      exact absurd (Nat.lt_of_lt_of_le (Heap.lt_size e) (Nat.le_trans h1 y)) (Nat.lt_irrefl _)
   ·obtain ⟨o',z⟩:=jb.there b o e hx
    exact L.there b o' z
   ·obtain ⟨more,z⟩:=jb.tbls b ps e
    exact ⟨more,L.same _ _ z⟩
  refine ⟨.ref f',H2,L.os.trans J.os,by rw [L.gens]; exact J.bare,un,L.hok,rfl,q _ _ sm ?_⟩
  rw [rp_fn]
  exact ⟨f',xs,rfl,⟨oF,oC,oK,fd',c,cd,p,vn,yn,⟨nB L.hf,L.hf⟩,L.fn,⟨nB L.hc,L.hc⟩,L.cell,⟨nB L.hcd,L.hcd⟩,L.code,fun z=>hBB p z (en'.fr i _ p hδ hσ),L.same _ _ e1⟩,e2,(e3.mono (Gr.less b1)).same L.same⟩
end
end DL
namespace L2
open PySem PySem.Spec PyProof.Rows DL
theorem law_callT {P:Program} {w:World} {K:W.Frag} {mg mb:Str → Option Value} {CX:CXT} {k:Nat} {fa a Pt c0:Addr} {fd:FuncData} {x q:Str} {sp:Sp} {s₁:Shared} {vs:List Value} {ns:List Int}
  (KX:K.In s₁.heap) (hns:s₁.heap.Ns mainGlobals mg) (hb:s₁.heap.Ns builtinsNs mb) (hbb:∀ x:Str,x ≠ "__name__" → mb x = bootBuiltins x) (hlim:s₁.heap.NoLimit) (hg:s₁.gens = #[])
  (ha:s₁.heap.get? a = some { cls:=.type "list",data:=.seq vs.toArray }) (hi:IntsAre vs ns) (hl:ns.length ≤ sizeLine) (hr:Room k callerA)
  (hP:s₁.heap.get? Pt = some { cls:=.none,data:=.fields #[] }) (hKP:K.lookup Pt = none) (C:W.CodeHd s₁.heap c0 Pt) (hB:s₁.heap.BuiltinsAt mg Pt)
  (F:∀ base:Heap,K.In base → base.Ns mainGlobals mg → W.CodeHd base c0 Pt → base.BuiltinsAt mg Pt → FnOk P w K mg base CX k fa fd [x] (spT Pt q sp)) (hbind:∀ (s:Shared) (u:Value),BindsTo s fd ⟨[u],[]⟩ [(x,u)])
  (hsp:∀ H:Hp,SqL K H a (ns.map V.int) → sp [.ref a] H (fun v _=>v = .bl true) fun _ _ _=>False)
  (hCX:∀ H e s',CX [] H s₁ (fun _ _ _=>False) e s' → False) :
  codeAny (model P w) callerA (.call (.ref fa) ⟨[.ref a],[]⟩) (fun r s'=>r = .ok (.ret (.bool true)) ∧ OldK s₁.heap s'.heap ∧ s'.os = s₁.os ∧ AllBare s'.gens) s₁:=by
 have rv:=vals_ints hi
 have lenV:=hi.length
 have naP:a ≠ Pt:=fun z=>by rw [z,hP] at ha; cases ha
 have core:∀ H0:Hp,(∀ b,H0 b = none ∨ (b = a ∧ K.lookup a = none ∧ ∃ o xs,H0 b = some (.frz o (.lst xs)) ∧ s₁.heap.get? a = some o ∧ ObjOk P w H0 s₁.heap a (.lst xs))) → SqL K (upd H0 Pt (.tbl #[.str q 0])) a (ns.map V.int) →
   codeAny (model P w) callerA (.call (.ref fa) ⟨[.ref a],[]⟩) (fun r s'=>r = .ok (.ret (.bool true)) ∧ OldK s₁.heap s'.heap ∧ s'.os = s₁.os ∧ AllBare s'.gens) s₁:=by
  intro H0 hO hS
  obtain ⟨H,eH⟩:∃ H,H = upd H0 Pt (.tbl #[.str q 0]):=⟨_,rfl⟩
  rw [← eH] at hS
  have hT:H Pt = some (.tbl #[.str q 0]):=by rw [eH,upd_same]
  have none_of:∀ {b:Addr} {o:Obj},s₁.heap.get? b = some o → o.cls ≠ .none → o.cls ≠ .type "list" → H b = none:=fun {b o} e n1 n2=>by
   have h1:b ≠ Pt:=fun z=>by rw [z,hP] at e; cases e; exact n1 rfl
   rw [eH,upd_ne h1]
   rcases hO b with z | ⟨rfl,_⟩
   ·exact z
   ·rw [ha] at e; cases e; exact absurd rfl n2
  have none_K:∀ {b:Addr} {o:Obj},K.lookup b = some o → H b = none:=fun {b o} e=>by
   have h1:b ≠ Pt:=fun z=>by rw [z,hKP] at e; cases e
   rw [eH,upd_ne h1]
   rcases hO b with z | ⟨rfl,z,_⟩
   ·exact z
   ·rw [z] at e; cases e
  have none_D:∀ {b:Addr} {o:Obj} {es:Array DictEntry} {ep:Nat},s₁.heap.get? b = some o → o.data = .dict es ep → H b = none:=fun {b o es ep} e d=>by
   have h1:b ≠ Pt:=fun z=>by rw [z,hP] at e; cases e; cases d
   rw [eH,upd_ne h1]
   rcases hO b with z | ⟨rfl,_⟩
   ·exact z
   ·rw [ha] at e; cases e
    have d':Data.seq vs.toArray _ = Data.dict es ep:=d
    cases d'
  have nsK:∀ {b:Addr} {m:Str → Option Value},s₁.heap.Ns b m → (hidT s₁.heap H).Ns b m:=fun {b m} ⟨o,es,ep,e,d,r⟩=>⟨o,es,ep,hidT_get e (none_D e d),d,r⟩
  have hKb:K.In (hidT s₁.heap H):=fun b o e=>hidT_get (KX b o e) (none_K e)
  have hM:Mod K mg (hidT s₁.heap H):=⟨hKb,nsK hns,⟨mb,nsK hb,hbb⟩,let ⟨mc,h1,h2⟩:=hlim; ⟨mc,nsK h1,h2⟩⟩
  have hok:HOk P w H s₁.heap:=fun b u e=>by
   by_cases hbP:b = Pt
   ·subst hbP
    rw [hT] at e
    cases e
    exact ⟨#[],hP,trivial,fun pos cv z=>by cases z⟩
   ·rw [eH,upd_ne hbP] at e
    rcases hO b with z | ⟨rfl,_,o,xs,z,z2,z3⟩
    ·rw [z] at e; cases e
    ·rw [z] at e
     cases e
     exact ⟨z2,z3⟩
  have Cb:W.CodeHd (hidT s₁.heap H) c0 Pt:=by
   obtain ⟨o,ws,file,tf,flags,tg,inF,text,tt,e1,e2,r⟩:=C
   exact ⟨o,ws,file,tf,flags,tg,inF,text,tt,hidT_get e1 (none_of e1 (by rw [e2]; exact fun z=>nomatch z) (by rw [e2]; intro z; injection z with z; exact absurd z (by decide))),e2,r⟩
  have Bb:(hidT s₁.heap H).BuiltinsAt mg Pt:=by
   obtain ⟨bm,o,b1,b2,b3,b4,b5,b6,b7⟩:=hB
   exact ⟨bm,o,b1,b2,b3,b4,hidT_get b5 (none_of b5 (by rw [b6]; exact fun z=>nomatch z) (by rw [b6]; intro z; injection z with z; exact absurd z (by decide))),b6,b7⟩
  have e0:Env0 P w K mg (hidT s₁.heap H) callerA [] s₁ H:=⟨rfl,hM,fun b o e=>of_hidT e,Nat.le_of_eq (hidT_size _ _),trivial,fun b hb=>absurd (show b ∈ ([]:List Addr) from hb) (by simp),hok,.of_eq hg⟩
  refine codeAny_mono ((F _ hKb (nsK hns) Cb Bb).run callerA [] s₁ H ⟨[.ref a],[]⟩ [.ref a] [.ref a] _ _ hr e0 (hbind s₁ (.ref a)) (.cons rfl .nil) ⟨⟨0,#[],by rw [hT]; rfl⟩,hsp H hS⟩) fun r s' h=>?_
  cases r with
  | error e=>exact (hCX H e s' h).elim
  | ok fl =>
   cases fl with
   | next=>exact False.elim h
   | brk=>exact False.elim h
   | cont=>exact False.elim h
   | ret u =>
    obtain ⟨v,H',os,bare,un,hok',r',qv⟩:=h
    have q':v = .bl true:=qv
    subst q'
    obtain rfl:u = Value.bool true:=r'
    have grown:∃ cont,s'.heap.get? Pt = some { cls:=.none,data:=.fields cont }:=by
     obtain ⟨more,e⟩:=un.tbls Pt _ hT
     obtain ⟨cont,e1,_⟩:=(show TabOk H' s'.heap Pt _ from hok' Pt _ e)
     exact ⟨cont,e1⟩
    have kept:∀ b o,b ≠ Pt → s₁.heap.get? b = some o → s'.heap.get? b = some o:=fun b o nb e=>by
     cases z:H b with
     | none=>exact un.keep b o e z (by intro y; exact absurd (show b ∈ ([]:List Addr) from y) (by simp)) (by simp)
     | some u =>
      have z':=z
      rw [eH,upd_ne nb] at z'
      rcases hO b with y | ⟨rfl,_,ob,xs,y,y2,_⟩
      ·rw [y] at z'; cases z'
      ·rw [y] at z'
       cases z'
       obtain ⟨e2,_⟩:=hok' _ _ (un.frzs _ _ _ z)
       rw [e] at y2
       cases y2
       exact e2
    refine ⟨rfl,⟨fun b o e=>?_,fun b o e=>?_⟩,os,bare⟩
    ·by_cases nb:b = Pt
     ·subst nb
      rw [hP] at e
      cases e
      obtain ⟨cont,e1⟩:=grown
      exact .inr (.inl ⟨(C.tab hP).isCodeTable,rfl,#[],cont,rfl,by rw [Array.empty_append]; exact e1⟩)
     ·exact .inl (kept b o nb e)
    ·by_cases nb:b = Pt
     ·subst nb
      obtain ⟨cont,e1⟩:=grown
      exact ⟨_,e1⟩
     ·exact ⟨o,kept b o nb e⟩
 cases hk:K.lookup a with
 | some o =>
  have e:=KX a o hk
  rw [ha] at e
  cases e
  exact core (fun _=>none) (fun _=>.inl rfl) (.inr ⟨_,vs.toArray,_,hk,rfl,rfl,rfl,by rw [List.size_toArray,lenV]; exact hl,by simpa using rv⟩)
 | none =>
  refine core (fun b=>if b = a then some (.frz { cls:=.type "list",data:=.seq vs.toArray } (.lst (ns.map V.int))) else none) (fun b=>?_) (.inl (.inr ⟨{ cls:=.type "list",data:=.seq vs.toArray },by rw [upd_ne naP]; exact if_pos rfl⟩))
  by_cases hb:b = a
  ·exact .inr ⟨hb,hk,_,_,if_pos hb,ha,by rw [List.length_map]; exact hl,vs,_,rv,ha⟩
  ·exact .inl (if_neg hb)
end L2
namespace L2
open PySem PySem.Spec PyProof.Rows
section
variable {P:Program} {w:World} {K:W.Frag} {mg:Str → Option Value} {base:Heap}
end
end L2
namespace DL
open PySem PySem.Spec PyProof.Rows L2
section
variable {P:Program} {w:World} {K:W.Frag} {mg:Str → Option Value} {base:Heap}
end
section
variable {X:Cx} {e a b:Expr} {es:List Expr} {pos p:Pos} {g ga gb:Ds → Option D} {gA:Ds → Option (List D)}
theorem pdf_cmpD {sc scope:Scope} {elt iter tg:Expr} {ifs:List Expr} {N N':List Str} {n:Nat} {caps:List Nat} {gi:Ds → Option (List D)} {idx:List Nat} {f:D → Ds → Option Ds} {gt:Ds → Option Bool} {ge:Ds → Option D}
  (ok:CompOk sc scope N N' n caps) (hidx:∀ j ∈ idx,j < n) (hi:PID X tg iter gi)
  (hg:∀ cl s H ex,PGD (cxComp X scope cl N' s H ex) tg idx f) (ht:∀ cl s H ex,PFD (cxComp X scope cl N' s H ex) ifs gt) (he:∀ cl s H ex,PD (cxComp X scope cl N' s H ex) elt ge)
  (hc:X.calm = true:=by rfl) (hsc:X.env.scope = sc:=by rfl) (hN:X.N = N:=by rfl) (hs:∀ x,foldedSetIterable iter X.env x = pure x:=by intro _; rfl) :
  PDF X (.ListComp elt [⟨tg,iter,ifs,0⟩] scope pos) (compG n caps gi f gt ge):=pdf_comp hc hsc (hN ▸ ok) hidx hi hg ht he hs
end
end DL
namespace DL
open PySem
end DL
namespace ZipL
open PySem PySem.Spec PyProof.Rows
noncomputable abbrev IsZ (h:Heap) (z TI TO a:Addr) (f:Bool):Prop :=
 h.get? z = some { cls:=.type "zip",dict:=none,data:=.fields #[rawInt a,.bool f,.bool false,.ref TI,.ref TO],slots:=#[] }
section
variable {prog:Program} {w:World} {A:Around} {E:Value → Shared → Prop} {s:Shared}
theorem alive {a:Addr} {o:Obj} {Q:Option Obj → Shared → Prop} (ho:s.heap.get? a = some o) (h:Q (some o) s):wpAny (model prog w) A (loadIfAlive a) Q E s:=by
 have h':Q (s.heap.get? a) s:=by rw [ho]; exact h
 exact fun _ _ _=>h'
theorem not_free {z TI TO a:Addr} {f:Bool} {oa:Obj} {Q:Bool → Shared → Prop} (hz:IsZ s.heap z TI TO a f) (ha:s.heap.get? a = some oa)
  (hQ:∀ h',IsZ h' z TI TO a true → Heap.SameBut z s.heap h' → Q false { s with heap:=h' }):wpAny (model prog w) A (Builtin.SmallTypes.ownedTupleIsFree (.ref z)) Q E s:=by
 unfold Builtin.SmallTypes.ownedTupleIsFree
 refine wpAny_bind (wpAny_field hz rfl (x:=rawInt a) rfl ?_)
 show wpAny _ _ (loadIfAlive ((a:Int).toNat) >>= _) _ _ _
 rw [Int.toNat_natCast]
 refine wpAny_bind (alive ha ?_)
 simp only [Option.isNone_some,Bool.false_eq_true,if_false]
 refine wpAny_bind (wpAny_field hz rfl (x:=.bool f) rfl ?_)
 cases f with
 | true =>
  rw [if_neg (show ¬ ((Value.bool true != Value.bool true) = true) from Bool.false_ne_true)]
  exact wpAny_pure (hQ _ hz (Heap.SameBut.refl _ _))
 | false =>
  rw [if_pos (show (Value.bool false != Value.bool true) = true from rfl)]
  exact wpAny_bind (wpAny_setField_rec hz (by simp) fun h3 he3 hs3=>wpAny_pure (hQ h3 he3 hs3))
theorem next_out {z TI TO i1 i2 l1 l2 a:Addr} {f:Bool} {oa:Obj} {k1 k2:Nat} {xs ys:Array Value} {x y:Value} {Q:Value → Shared → Prop} (D:ZipApart z TI TO i1 i2 l1 l2)
  (hz:IsZ s.heap z TI TO a f) (ha:s.heap.get? a = some oa) (hTI:IsPair s.heap TI (.ref i1) (.ref i2))
  (h1:s.heap.IsListIter i1 l1 k1) (h2:s.heap.IsListIter i2 l2 k2) (hl1:s.heap.IsList l1 xs) (hl2:s.heap.IsList l2 ys) (hx:xs[k1]? = some x) (hy:ys[k2]? = some y)
  (hQ:∀ h',IsZ h' z TI TO a true → h'.IsListIter i1 l1 (k1 + 1) → h'.IsListIter i2 l2 (k2 + 1) → IsPair h' s.heap.objs.size x y → h'.objs.size = s.heap.objs.size + 1 →
   (∀ c o,c ≠ z → c ≠ i1 → c ≠ i2 → s.heap.get? c = some o → h'.get? c = some o) → Q (.ref s.heap.objs.size) { s with heap:=h' }) :
  wpAny (model prog w) A (Builtin.«zip.__next__» ⟨[.ref z],[]⟩) (fun fin s'=>∃ v,fin = .done (.ret v) ∧ Q v s') E s:=by
 show wpAny _ _ (field (.ref z) 2 >>= _) _ _ _
 refine wpAny_bind (wpAny_field hz rfl (x:=.bool false) rfl ?_)
 show wpAny _ _ (field (.ref z) 3 >>= _) _ _ _
 refine wpAny_bind (wpAny_field hz rfl (x:=.ref TI) rfl ?_)
 refine wpAny_bind (wpAny_seqItems hTI rfl ?_)
 show wpAny _ _ (Builtin.SmallTypes.ownedTupleIsFree (.ref z) >>= _) _ _ _
 refine wpAny_bind (not_free hz ha fun h₁ hz₁ hs₁=>?_)
 simp only [Bool.false_eq_true,if_false]
 refine wpAny_bind ?_
 simp only [List.forIn_toArray,List.forIn_cons,List.forIn_nil]
 refine wpAny_bind (wpAny_bind (wpAny_holding ?_))
 show wpAny _ _ (Builtin.SmallTypes.nextOf (.ref i1) >>= _) _ _ _
 refine wpAny_bind (wpAny_nextOf_list_item (h1.extBut hs₁.extBut D.i1z) (hl1.extBut hs₁.extBut D.l1z) hx fun h₂ h1₂ hs₂=>wpAny_pure ?_)
 refine wpAny_pure ?_
 refine wpAny_bind (wpAny_bind (wpAny_holding ?_))
 show wpAny _ _ (Builtin.SmallTypes.nextOf (.ref i2) >>= _) _ _ _
 refine wpAny_bind (wpAny_nextOf_list_item ((h2.extBut hs₁.extBut D.i2z).extBut hs₂.extBut D.i12.symm) ((hl2.extBut hs₁.extBut D.l2z).extBut hs₂.extBut D.l2i1) hy fun h₄ h2₄ hs₄=>wpAny_pure ?_)
 refine wpAny_pure (wpAny_pure ?_)
 refine wpAny_bind (wpAny_newTuple (hsz:=by show 2 ≤ sizeLine; decide) ?_)
 have hsz:h₄.objs.size = s.heap.objs.size:=by rw [hs₄.1,hs₂.1,hs₁.1]
 have hz₄:IsZ h₄ z TI TO a true:=hs₄.extBut _ _ D.i2z.symm (hs₂.extBut _ _ D.i1z.symm hz₁)
 have hk₄:∀ c o,c ≠ z → c ≠ i1 → c ≠ i2 → s.heap.get? c = some o → h₄.get? c = some o:=fun c o c1 c3 c4 e=>hs₄.extBut _ _ c4 (hs₂.extBut _ _ c3 (hs₁.extBut _ _ c1 e))
 refine wpAny_pure ⟨_,rfl,?_⟩
 show Q (.ref h₄.objs.size) _
 have hq:=hQ (h₄.push { cls:=.type "tuple",data:=.seq #[x,y] }) (Heap.get?_push_of_some _ hz₄) ((h1₂.extBut hs₄.extBut D.i12).at fun o e=>Heap.get?_push_of_some _ e) (h2₄.at fun o e=>Heap.get?_push_of_some _ e)
  (by rw [← hsz]; exact Heap.get?_push_size _ rfl) (by rw [Heap.size_push,hsz]) fun c o c1 c3 c4 e=>Heap.get?_push_of_some _ (hk₄ c o c1 c3 c4 e)
 rw [hsz]
 exact hq
theorem end_out {z TI TO i1 i2 l1 l2 a:Addr} {f:Bool} {oa:Obj} {k1 k2:Nat} {xs ys:Array Value} {Q:Fin → Shared → Prop} (hh:A.handled = none) (D:ZipApart z TI TO i1 i2 l1 l2)
  (hz:IsZ s.heap z TI TO a f) (ha:s.heap.get? a = some oa) (hTI:IsPair s.heap TI (.ref i1) (.ref i2))
  (h1:s.heap.IsListIter i1 l1 k1) (h2:s.heap.IsListIter i2 l2 k2) (hl1:s.heap.IsList l1 xs) (hl2:s.heap.IsList l2 ys) (hend:xs[k1]? = none ∨ ys[k2]? = none)
  (hE:∀ h' e,(∀ c o,c ≠ z → c ≠ i1 → c ≠ i2 → s.heap.get? c = some o → h'.get? c = some o) → (∃ o,h'.get? e = some o ∧ o.cls = .type "StopIteration") → E (.ref e) { s with heap:=h' }) :
  wpAny (model prog w) A (Builtin.«zip.__next__» ⟨[.ref z],[]⟩) Q E s:=by
 show wpAny _ _ (field (.ref z) 2 >>= _) _ _ _
 refine wpAny_bind (wpAny_field hz rfl (x:=.bool false) rfl ?_)
 show wpAny _ _ (field (.ref z) 3 >>= _) _ _ _
 refine wpAny_bind (wpAny_field hz rfl (x:=.ref TI) rfl ?_)
 refine wpAny_bind (wpAny_seqItems hTI rfl ?_)
 show wpAny _ _ (Builtin.SmallTypes.ownedTupleIsFree (.ref z) >>= _) _ _ _
 refine wpAny_bind (not_free hz ha fun h₁ hz₁ hs₁=>?_)
 simp only [Bool.false_eq_true,if_false]
 refine wpAny_bind ?_
 simp only [List.forIn_toArray,List.forIn_cons,List.forIn_nil]
 refine wpAny_bind (wpAny_bind (wpAny_holding ?_))
 show wpAny _ _ (Builtin.SmallTypes.nextOf (.ref i1) >>= _) _ _ _
 cases hx:xs[k1]? with
 | none =>
  refine wpAny_bind (wpAny_nextOf_list_end hh (h1.extBut hs₁.extBut D.i1z) (hl1.extBut hs₁.extBut D.l1z) hx fun h₂ e hs₂ he=>?_)
  exact hE h₂ e (fun c o c1 c3 _ x=>hs₂ _ _ c3 (hs₁.extBut _ _ c1 x)) he
 | some x =>
  have hy:ys[k2]? = none:=by rcases hend with h | h; rw [hx] at h; cases h; exact h
  refine wpAny_bind (wpAny_nextOf_list_item (h1.extBut hs₁.extBut D.i1z) (hl1.extBut hs₁.extBut D.l1z) hx fun h₂ h1₂ hs₂=>wpAny_pure ?_)
  refine wpAny_pure ?_
  refine wpAny_bind (wpAny_bind (wpAny_holding ?_))
  show wpAny _ _ (Builtin.SmallTypes.nextOf (.ref i2) >>= _) _ _ _
  refine wpAny_bind (wpAny_nextOf_list_end hh ((h2.extBut hs₁.extBut D.i2z).extBut hs₂.extBut D.i12.symm) ((hl2.extBut hs₁.extBut D.l2z).extBut hs₂.extBut D.l2i1) hy fun h₄ e hs₄ he=>?_)
  exact hE h₄ e (fun c o c1 c3 c4 x=>hs₄ _ _ c4 (hs₂.extBut _ _ c3 (hs₁.extBut _ _ c1 x))) he
theorem pyNext_out {z TI TO i1 i2 l1 l2 a:Addr} {f:Bool} {oa:Obj} {k1 k2:Nat} {xs ys:Array Value} {x y:Value} {Q:Option Value → Shared → Prop} (D:ZipApart z TI TO i1 i2 l1 l2)
  (hz:IsZ s.heap z TI TO a f) (ha:s.heap.get? a = some oa) (hTI:IsPair s.heap TI (.ref i1) (.ref i2))
  (h1:s.heap.IsListIter i1 l1 k1) (h2:s.heap.IsListIter i2 l2 k2) (hl1:s.heap.IsList l1 xs) (hl2:s.heap.IsList l2 ys) (hx:xs[k1]? = some x) (hy:ys[k2]? = some y)
  (hQ:∀ h',IsZ h' z TI TO a true → h'.IsListIter i1 l1 (k1 + 1) → h'.IsListIter i2 l2 (k2 + 1) → IsPair h' s.heap.objs.size x y → h'.objs.size = s.heap.objs.size + 1 →
   (∀ c o,c ≠ z → c ≠ i1 → c ≠ i2 → s.heap.get? c = some o → h'.get? c = some o) → Q (some (.ref s.heap.objs.size)) { s with heap:=h' }) :
  wpAny (model prog w) A (pyNext (.ref z)) Q E s:=by
 have hT:s.TypeIs (.ref z) "zip" := ⟨_,hz,rfl⟩
 unfold pyNext
 exact wpAny_bind (wpAny_attempt (wpAny_callSpecial?_slot (name:=Str.ofString "__next__") hT F.slot_zip_next
  (wpAny_call_entry F.slot_zip_next hT F.entry_zip_next
   (next_out D hz ha hTI h1 h2 hl1 hl2 hx hy fun h' a1 a3 a4 a5 a6 a7=>wpAny_pure (hQ h' a1 a3 a4 a5 a6 a7)) (F.args_zip_next_1 _))))
theorem pyNext_end_out {z TI TO i1 i2 l1 l2 a:Addr} {f:Bool} {oa:Obj} {k1 k2:Nat} {xs ys:Array Value} {Q:Option Value → Shared → Prop} (hh:A.handled = none) (D:ZipApart z TI TO i1 i2 l1 l2)
  (hz:IsZ s.heap z TI TO a f) (ha:s.heap.get? a = some oa) (hTI:IsPair s.heap TI (.ref i1) (.ref i2))
  (h1:s.heap.IsListIter i1 l1 k1) (h2:s.heap.IsListIter i2 l2 k2) (hl1:s.heap.IsList l1 xs) (hl2:s.heap.IsList l2 ys) (hend:xs[k1]? = none ∨ ys[k2]? = none)
  (hQ:∀ h',(∀ c o,c ≠ z → c ≠ i1 → c ≠ i2 → s.heap.get? c = some o → h'.get? c = some o) → Q none { s with heap:=h' }):wpAny (model prog w) A (pyNext (.ref z)) Q E s:=by
 have hT:s.TypeIs (.ref z) "zip" := ⟨_,hz,rfl⟩
 unfold pyNext
 refine wpAny_bind (wpAny_attempt (wpAny_callSpecial?_slot (name:=Str.ofString "__next__") hT F.slot_zip_next
  (wpAny_call_entry F.slot_zip_next hT F.entry_zip_next (end_out hh D hz ha hTI h1 h2 hl1 hl2 hend fun h' e hk he=>?_) (F.args_zip_next_1 _))))
 obtain ⟨o,ho,hc⟩:=he
 refine wpAny_bind (wpAny_isInstance (T := "StopIteration") (b:=true) ⟨o,ho,hc⟩ isSubtype_stop ?_)
 exact wpAny_pure (hQ _ hk)
end
structure ZSt (h:Heap) (z TI TO i1 i2 l1 l2 S:Addr) (xs ys:Array Value) (i:Nat):Prop where
 own:(i = 0 ∧ IsZip h z TI TO .none ∧ ∃ p q,IsPair h TO p q) ∨ ∃ a f oa,IsZ h z TI TO a f ∧ h.get? a = some oa ∧ a ≠ z ∧ a ≠ i1 ∧ a ≠ i2 ∧ a ≠ S
 hTI:IsPair h TI (.ref i1) (.ref i2)
 h1:h.IsListIter i1 l1 i
 h2:h.IsListIter i2 l2 i
 hl1:h.IsList l1 xs
 hl2:h.IsList l2 ys
structure ZLow (z TI TO i1 i2 l1 l2 S:Addr):Prop where
 z:z < S
 TI:TI < S
 TO:TO < S
 i1:i1 < S
 i2:i2 < S
 l1:l1 < S
 l2:l2 < S
structure ZG (xs ys:Array Value) (S:Addr) (h:Heap) (as:List Addr):Prop where
 rise:as.Pairwise (· < ·)
 above:∀ a ∈ as,S < a
 pairs:∀ (j:Nat) (a:Addr),as[j]? = some a → ∃ x y,xs[j]? = some x ∧ ys[j]? = some y ∧ IsPair h a x y
section
variable {prog:Program} {w:World} {A:Around} {E:Value → Shared → Prop} {s:Shared} {z TI TO i1 i2 l1 l2 S:Addr} {xs ys:Array Value} {h h':Heap} {i:Nat}
theorem ZG.there {as:List Addr} (g:ZG xs ys S h as) {a:Addr} (ha:a ∈ as):a < h.objs.size:=by
 obtain ⟨j,hj⟩:=List.mem_iff_getElem?.mp ha
 obtain ⟨_,_,_,_,e⟩:=g.pairs j a hj
 exact Heap.lt_size e
theorem ZSt.keep (x:ZSt h z TI TO i1 i2 l1 l2 S xs ys i) (L:ZLow z TI TO i1 i2 l1 l2 S) (hk:∀ b o,b ≠ S → h.get? b = some o → h'.get? b = some o):ZSt h' z TI TO i1 i2 l1 l2 S xs ys i:=by
 refine ⟨?_,hk _ _ (Nat.ne_of_lt L.TI) x.hTI,x.h1.at fun o e=>hk _ o (Nat.ne_of_lt L.i1) e,x.h2.at fun o e=>hk _ o (Nat.ne_of_lt L.i2) e,x.hl1.at fun o e=>hk _ o (Nat.ne_of_lt L.l1) e,x.hl2.at fun o e=>hk _ o (Nat.ne_of_lt L.l2) e⟩
 rcases x.own with ⟨e,hz,p,q,hp⟩ | ⟨a,f,oa,hz,ha,n1,n2,n3,n4⟩
 ·exact .inl ⟨e,hk _ _ (Nat.ne_of_lt L.z) hz,p,q,hk _ _ (Nat.ne_of_lt L.TO) hp⟩
 ·exact .inr ⟨a,f,oa,hk _ _ (Nat.ne_of_lt L.z) hz,hk _ _ n4 ha,n1,n2,n3,n4⟩
theorem zitem {x y:Value} {Q:Option Value → Shared → Prop} (D:ZipApart z TI TO i1 i2 l1 l2) (st:ZSt s.heap z TI TO i1 i2 l1 l2 S xs ys i) (hS:S < s.heap.objs.size) (hx:xs[i]? = some x) (hy:ys[i]? = some y)
  (hQ:∀ h',ZSt h' z TI TO i1 i2 l1 l2 S xs ys (i + 1) → IsPair h' s.heap.objs.size x y → (∀ c o,c ≠ z → c ≠ TO → c ≠ i1 → c ≠ i2 → s.heap.get? c = some o → h'.get? c = some o) → Q (some (.ref s.heap.objs.size)) { s with heap:=h' }) :
  wpAny (model prog w) A (pyNext (.ref z)) Q E s:=by
 obtain ⟨o1,e1,_⟩:=id st.h1
 obtain ⟨o2,e2,_⟩:=id st.h2
 rcases st.own with ⟨rfl,hz,p,q,hp⟩ | ⟨a,f,oa,hz,ha,n1,n2,n3,n4⟩
 ·refine wpAny_pyNext_zip_item D hz st.hTI hp st.h1 st.h2 st.hl1 st.hl2 hx hy fun h' a1 a2 a3 a4 a5 a6 hk=>hQ h' ⟨.inr ⟨_,false,_,a1,a5,Nat.ne_of_gt (Heap.lt_size hz),Nat.ne_of_gt (Heap.lt_size e1),Nat.ne_of_gt (Heap.lt_size e2),Nat.ne_of_gt hS⟩,hk _ _ D.TIz D.TITO D.TIi1 D.TIi2 st.hTI,a3,a4,
   st.hl1.at fun o e=>hk _ o D.l1z D.l1TO D.l1i1 D.l1i2 e,st.hl2.at fun o e=>hk _ o D.l2z D.l2TO D.l2i1 D.l2i2 e⟩ a5 hk
 ·refine pyNext_out D hz ha st.hTI st.h1 st.h2 st.hl1 st.hl2 hx hy fun h' a1 a3 a4 a5 a6 hk=>hQ h' ⟨.inr ⟨a,true,oa,a1,hk _ _ n1 n2 n3 ha,n1,n2,n3,n4⟩,hk _ _ D.TIz D.TIi1 D.TIi2 st.hTI,a3,a4,
   st.hl1.at fun o e=>hk _ o D.l1z D.l1i1 D.l1i2 e,st.hl2.at fun o e=>hk _ o D.l2z D.l2i1 D.l2i2 e⟩ a5 fun c o c1 _ c3 c4 e=>hk c o c1 c3 c4 e
theorem zdone {Q:Option Value → Shared → Prop} (hh:A.handled = none) (D:ZipApart z TI TO i1 i2 l1 l2) (st:ZSt s.heap z TI TO i1 i2 l1 l2 S xs ys i) (hend:xs[i]? = none ∨ ys[i]? = none)
  (hQ:∀ h',(∀ c o,c ≠ z → c ≠ TO → c ≠ i1 → c ≠ i2 → s.heap.get? c = some o → h'.get? c = some o) → Q none { s with heap:=h' }):wpAny (model prog w) A (pyNext (.ref z)) Q E s:=by
 rcases st.own with ⟨rfl,hz,p,q,hp⟩ | ⟨a,f,oa,hz,ha,n1,n2,n3,n4⟩
 ·exact wpAny_pyNext_zip_end hh D hz st.hTI hp st.h1 st.h2 st.hl1 st.hl2 hend hQ
 ·exact pyNext_end_out hh D hz ha st.hTI st.h1 st.h2 st.hl1 st.hl2 hend fun h' hk=>hQ h' fun c o c1 _ c3 c4 e=>hk c o c1 c3 c4 e
end
section
variable {prog:Program} {w:World} {A:Around} {s:Shared} {R:Result → Shared → Prop} {z TI TO i1 i2 l1 l2 S lo:Addr} {xs ys:Array Value} {h₁:Heap}
theorem zloop (hh:A.handled = none) (D:ZipApart z TI TO i1 i2 l1 l2) (L:ZLow z TI TO i1 i2 l1 l2 S) (hlo:lo ≤ z ∧ lo ≤ TO ∧ lo ≤ i1 ∧ lo ≤ i2) (hn:min xs.size ys.size ≤ sizeLine) (res:Value)
  (hR:∀ h' tk acc c as,(∀ b o,b < lo → h₁.get? b = some o → h'.get? b = some o) → h'.get? S = some { cls:=.type "list",dict:=none,data:=.seq acc c,slots:=#[] } → as.length = min xs.size ys.size → ZG xs ys S h' as →
   acc.toList = as.map Value.ref → R (.ok (.ret res)) { s with heap:=h',toks:=tk }) :
  ∀ (k i:Nat) (h:Heap) (tk c:Nat) (acc:Array Value) (as:List Addr),min xs.size ys.size - i = k → i ≤ min xs.size ys.size → ZSt h z TI TO i1 i2 l1 l2 S xs ys i → (∀ b o,b < lo → h₁.get? b = some o → h.get? b = some o) →
   h.get? S = some { cls:=.type "list",dict:=none,data:=.seq acc c,slots:=#[] } → acc.toList = as.map Value.ref → as.length = i → ZG xs ys S h as →
   codeAny (model prog w) A (.builtin "list.extend.loop" ⟨[.ref S,.ref z,res],[]⟩) R { s with heap:=h,toks:=tk }:=by
 have hz0:=hlo.1
 have loS:lo < S:=Nat.lt_of_le_of_lt hlo.1 L.z
 have lk:∀ (h h':Heap),(∀ c o,c ≠ z → c ≠ TO → c ≠ i1 → c ≠ i2 → h.get? c = some o → h'.get? c = some o) → ∀ b o,b < lo → h.get? b = some o → h'.get? b = some o:=fun h h' hk b o hb e =>
  hk b o (Nat.ne_of_lt (Nat.lt_of_lt_of_le hb hlo.1)) (Nat.ne_of_lt (Nat.lt_of_lt_of_le hb hlo.2.1)) (Nat.ne_of_lt (Nat.lt_of_lt_of_le hb hlo.2.2.1)) (Nat.ne_of_lt (Nat.lt_of_lt_of_le hb hlo.2.2.2)) e
 have hk4:∀ (h h':Heap),(∀ c o,c ≠ z → c ≠ TO → c ≠ i1 → c ≠ i2 → h.get? c = some o → h'.get? c = some o) → ∀ b o,S ≤ b → h.get? b = some o → h'.get? b = some o:=fun h h' hk b o hb e =>
  hk b o (Nat.ne_of_gt (Nat.lt_of_lt_of_le L.z hb)) (Nat.ne_of_gt (Nat.lt_of_lt_of_le L.TO hb)) (Nat.ne_of_gt (Nat.lt_of_lt_of_le L.i1 hb)) (Nat.ne_of_gt (Nat.lt_of_lt_of_le L.i2 hb)) e
 intro k
 induction k with
 | zero =>
  intro i h tk c acc as hk hi hst hkeep hS hacc hal hG
  have hend:xs[i]? = none ∨ ys[i]? = none:=by
   rcases Nat.le_total xs.size ys.size with q | q
   ·exact .inl (Array.getElem?_eq_none (by omega))
   ·exact .inr (Array.getElem?_eq_none (by omega))
  refine codeAny_builtin F.entry_extend_loop ?_
  rw [Around.under_plainId F.plain_extend_loop _]
  show wpAny _ A.in1 (pyNext (.ref z) >>= _) _ _ _
  refine wpAny_bind (zdone (s:={ s with heap:=h,toks:=tk }) (A:=A.in1) hh D hst hend fun h' he=>?_)
  refine wpAny_pure (hR h' tk acc c as (fun b o h1 e=>lk h h' he b o h1 (hkeep b o h1 e)) (hk4 h h' he S _ (Nat.le_refl _) hS) (by omega) ⟨hG.rise,hG.above,fun j a hj=>?_⟩ hacc)
  obtain ⟨x,y,e1,e2,e3⟩:=hG.pairs j a hj
  exact ⟨x,y,e1,e2,hk4 h h' he a _ (Nat.le_of_lt (hG.above a (List.mem_of_getElem? hj))) e3⟩
 | succ k ih =>
  intro i h tk c acc as hk hi hst hkeep hS hacc hal hG
  have hlt:i < min xs.size ys.size:=by omega
  have hix:i < xs.size:=Nat.lt_of_lt_of_le hlt (Nat.min_le_left ..)
  have hiy:i < ys.size:=Nat.lt_of_lt_of_le hlt (Nat.min_le_right ..)
  have hsz:acc.size = i:=by rw [← Array.length_toList,hacc,List.length_map,hal]
  have hSl:S < h.objs.size:=Heap.lt_size hS
  refine codeAny_builtin F.entry_extend_loop ?_
  rw [Around.under_plainId F.plain_extend_loop _]
  show wpAny _ A.in1 (pyNext (.ref z) >>= _) _ _ _
  refine wpAny_bind (zitem (s:={ s with heap:=h,toks:=tk }) D hst hSl (Array.getElem?_eq_getElem hix) (Array.getElem?_eq_getElem hiy) fun h' hst' ht hkp=>?_)
  dsimp only at ht hkp ⊢
  have hS':=hk4 h h' hkp S _ (Nat.le_refl _) hS
  have up:∀ b o,b ≠ S → h'.get? b = some o → (h'.update S (Obj.mapSeq (·.push (Value.ref h.objs.size)))).get? b = some o:=fun b o hb e=>(Heap.get?_update_other _ _ (Ne.symm hb)).trans e
  show wpAny _ A.in1 (updateSeq S (·.push (Value.ref h.objs.size)) >>= _) _ _ _
  refine wpAny_bind ?_
  refine wpAny_updateSeq hS' rfl (wpAny_pure ⟨plainId_quiet F.plain_extend_loop _,ih (i + 1) _ tk _ (acc.push (Value.ref h.objs.size)) (as ++ [h.objs.size]) (by omega) hlt (hst'.keep L up)
   (fun b o h1 e=>up b o (Nat.ne_of_lt (Nat.lt_trans h1 loS)) (lk h h' hkp b o h1 (hkeep b o h1 e))) (Heap.get?_update_self _ hS' rfl) (by rw [Array.toList_push,hacc,List.map_append]; rfl) (by rw [List.length_append,hal]; rfl) ⟨?_,?_,?_⟩⟩) (by rw [hsz]; omega) (by show (acc.push (Value.ref h.objs.size)).size ≤ sizeLine + 1; rw [Array.size_push,hsz]; omega)
  ·refine List.pairwise_append.mpr ⟨hG.rise,List.pairwise_singleton _ _,fun a ha b hb=>?_⟩
   rw [List.mem_singleton.mp hb]
   exact hG.there ha
  ·intro a ha
   rcases List.mem_append.mp ha with ha | ha
   ·exact hG.above a ha
   ·rw [List.mem_singleton.mp ha]; exact hSl
  ·intro j b hj
   rcases Nat.lt_trichotomy j as.length with h1 | h1 | h1
   ·rw [List.getElem?_append_left h1] at hj
    obtain ⟨x',y',e1,e2,e3⟩:=hG.pairs j b hj
    have hb:=hG.above b (List.mem_of_getElem? hj)
    exact ⟨x',y',e1,e2,up b _ (Nat.ne_of_gt hb) (hk4 h h' hkp b _ (Nat.le_of_lt hb) e3)⟩
   ·subst h1
    have hb:h.objs.size = b:=by simpa using hj
    subst hb
    exact ⟨_,_,by rw [hal]; exact Array.getElem?_eq_getElem hix,by rw [hal]; exact Array.getElem?_eq_getElem hiy,up _ _ (Nat.ne_of_gt hSl) ht⟩
   ·have hnone:(as ++ [h.objs.size])[j]? = none:=List.getElem?_eq_none (by rw [List.length_append,List.length_singleton]; omega)
    rw [hnone] at hj; cases hj
end
theorem zip_no_len:typeLookup (.type "zip") "__len__" = pure none:=by rw [typeLookup_type,builtinLookup_eq_fast]; kernel_rfl
theorem zip_no_hint:typeLookup (.type "zip") "__length_hint__" = pure none:=by rw [typeLookup_type,builtinLookup_eq_fast]; kernel_rfl
section
variable {prog:Program} {w:World} {A:Around} {E:Value → Shared → Prop} {s:Shared} {z TI TO i1 i2 l1 l2 lo:Addr} {xs ys:Array Value}
noncomputable def ZEnd (xs ys:Array Value) (lo:Addr) (s:Shared) (h':Heap) (as:List Addr):Prop :=
 (∀ b o,b < lo → s.heap.get? b = some o → h'.get? b = some o) ∧ as.length = min xs.size ys.size ∧ ZG xs ys s.heap.objs.size h' as
theorem collect_zip {Q:List Value → Shared → Prop} (hh:A.handled = none) (D:ZipApart z TI TO i1 i2 l1 l2) (hlo:lo ≤ z ∧ lo ≤ TO ∧ lo ≤ i1 ∧ lo ≤ i2)
  (st:∀ S,S ≠ z → S ≠ i1 → S ≠ i2 → ZSt s.heap z TI TO i1 i2 l1 l2 S xs ys 0) (hn:min xs.size ys.size ≤ sizeLine) (L:ZLow z TI TO i1 i2 l1 l2 s.heap.objs.size)
  (hT:s.TypeIs (.ref z) "zip") (hI:∃ f0,IsZip s.heap z TI TO f0)
  (hQ:∀ h' tk as,ZEnd xs ys lo s h' as → s.heap.objs.size < h'.objs.size → Q (as.map Value.ref) { s with heap:=h',toks:=tk }):wpAny (model prog w) A (collect (.ref z)) Q E s:=by
 have hSz:s.heap.objs.size ≠ z:=Nat.ne_of_gt L.z
 obtain ⟨f0,hI⟩:=hI
 unfold collect
 refine wpAny_bind (wpAny_runValue (codeAny_builtin F.entry_proto_collect ?_))
 rw [Around.under_plainId F.plain_proto_collect _]
 show wpAny _ A.in1 (newList [] >>= fun l=>again (.builtin "list.__iadd__" ⟨[l,.ref z],[]⟩)) _ _ s
 refine wpAny_bind (wpAny_newObj_type ?_)
 refine wpAny_pure ⟨plainId_quiet F.plain_list_iadd _,codeAny_builtin F.entry_list_iadd ?_⟩
 rw [Around.under_plainId F.plain_list_iadd _]
 have hS₁:(s.heap.push { cls:=.type "list",data:=.seq ([]:List Value).toArray }).get? s.heap.objs.size = some { cls:=.type "list",data:=.seq ([]:List Value).toArray }:=Heap.get?_push_size _ rfl
 have hz₁:=Heap.get?_push_of_some { cls:=.type "list",data:=.seq ([]:List Value).toArray } hI
 have hT₁:Shared.TypeIs { s with heap:=s.heap.push { cls:=.type "list",data:=.seq ([]:List Value).toArray } } (.ref z) "zip" := ⟨_,hz₁,rfl⟩
 show wpAny _ A.in1 (Builtin.List.listExtendWith (.ref s.heap.objs.size) (.ref z) (.ref s.heap.objs.size)) _ _ _
 unfold Builtin.List.listExtendWith
 refine wpAny_bind (wpAny_typeOf hT₁ ?_)
 have h1:Builtin.List.listSameRef (.ref s.heap.objs.size) (.ref z) = false:=by simp [Builtin.List.listSameRef,hSz]
 have h2:(Value.type "zip" == Value.type "list") = false:=by decide
 have h3:(Value.type "zip" == Value.type "tuple") = false:=by decide
 simp only [h1,h2,h3,Bool.or_false,Bool.false_eq_true,if_false]
 refine wpAny_bind (wpAny_pyIter_zip (s:={ s with heap:=s.heap.push { cls:=.type "list",data:=.seq ([]:List Value).toArray } }) hz₁ ?_)
 refine wpAny_bind (wpAny_holding ?_)
 unfold Builtin.List.listLengthHint
 refine wpAny_bind (wpAny_specialOf hT₁ zip_no_len ?_)
 show wpAny _ A.in1 (specialOf (Value.ref z) (Str.ofString "__length_hint__") >>= _) _ _ _
 refine wpAny_bind (wpAny_specialOf hT₁ zip_no_hint ?_)
 refine wpAny_pure ?_
 show wpAny _ A.in1 (rule "list.extend.makes-room" >>= fun _=>Builtin.List.listTouch (.ref s.heap.objs.size) >>= fun _ =>
  again (.builtin "list.extend.loop" ⟨[.ref s.heap.objs.size,.ref z,.ref s.heap.objs.size],[]⟩)) _ _ _
 refine wpAny_bind (wpAny_rule ?_)
 refine wpAny_bind ?_
 show wpAny _ A.in1 (updateSeq s.heap.objs.size (·.push .none) >>= fun _=>updateSeq s.heap.objs.size (·.pop)) _ _ _
 refine wpAny_bind (wpAny_updateSeq hS₁ rfl ?_)
 have hS₂:=Heap.get?_update_self (Obj.mapSeq (·.push Value.none)) hS₁ rfl
 refine wpAny_updateSeq hS₂ rfl ?_
 have hS₃:=Heap.get?_update_self (Obj.mapSeq (·.pop)) hS₂ rfl
 have oth:∀ b o,b ≠ s.heap.objs.size → s.heap.get? b = some o →
   (((s.heap.push { cls:=.type "list",data:=.seq ([]:List Value).toArray }).update s.heap.objs.size (Obj.mapSeq (·.push Value.none))).update s.heap.objs.size (Obj.mapSeq (·.pop))).get? b = some o :=
  fun b o hb e=>(Heap.get?_update_other _ _ (Ne.symm hb)).trans ((Heap.get?_update_other _ _ (Ne.symm hb)).trans (Heap.get?_push_of_some _ e))
 refine wpAny_pure ⟨plainId_quiet F.plain_extend_loop _,zloop (s:=s) (lo:=lo) (h₁:=s.heap) hh D L hlo hn _ (fun h' tk acc c as hk hS' hl hG hacc=>?_) _ 0 _ s.toks _ #[] [] rfl (Nat.zero_le _)
  ((st _ hSz (Nat.ne_of_gt L.i1) (Nat.ne_of_gt L.i2)).keep L oth) (fun b o hb e=>oth b o (Nat.ne_of_lt (Heap.lt_size e)) e) hS₃ rfl rfl ⟨List.Pairwise.nil,(fun _ ha=>nomatch ha),(fun j a hj=>by simp at hj)⟩⟩
 show wpAny _ A (load s.heap.objs.size >>= _) _ _ _
 refine wpAny_bind (wpAny_load hS' ?_)
 refine wpAny_pure ?_
 have:=hQ h' tk as ⟨hk,hl,hG⟩ (Heap.lt_size hS')
 rw [← hacc] at this
 exact this
end
section
variable {prog:Program} {w:World} {A:Around} {E:Value → Shared → Prop} {s:Shared} {z TI TO i1 i2 l1 l2 lo:Addr} {xs ys:Array Value}
theorem code_tuple_new_zip {Q₁:Value → Shared → Prop} (hh:A.handled = none) (D:ZipApart z TI TO i1 i2 l1 l2) (hlo:lo ≤ z ∧ lo ≤ TO ∧ lo ≤ i1 ∧ lo ≤ i2)
  (st:∀ S,S ≠ z → S ≠ i1 → S ≠ i2 → ZSt s.heap z TI TO i1 i2 l1 l2 S xs ys 0) (hn:min xs.size ys.size ≤ sizeLine) (L:ZLow z TI TO i1 i2 l1 l2 s.heap.objs.size)
  (hT:s.TypeIs (.ref z) "zip") (hI:∃ f0,IsZip s.heap z TI TO f0)
  (h:∀ h' tk as,ZEnd xs ys lo s h' as → s.heap.objs.size < h'.objs.size → Q₁ (.ref h'.objs.size) { s with heap:=h'.push { cls:=.type "tuple",data:=.seq (as.map Value.ref).toArray },toks:=tk }) :
  codeAny (model prog w) A (.call (.builtin "tuple.__new__") ⟨[.type "tuple",.ref z],[]⟩) (wants Q₁ E) s:=by
 refine codeAny_of_tree ?_
 show wpAny _ A.in1 (do checkBuiltinCall "tuple.__new__" ⟨[.type "tuple",.ref z],[]⟩; again (.builtin "tuple.__new__" ⟨[.type "tuple",.ref z],[]⟩)) _ _ s
 refine wpAny_bind (wpAny_of_eq (F.newCall_tuple_1 _) (wpAny_pure ⟨plainId_quiet F.plain_tuple_new _,codeAny_builtin F.entry_tuple_new ?_⟩))
 rw [Around.under_plainId F.plain_tuple_new _]
 have hsub:=sub_tuple_self
 have hinit:=init_tuple_lookup
 have hmh:=madeHere_tuple
 have hh1:A.in1.handled = none:=by simp [hh]
 wp_walk using wpAny_typeOf hT,collect_zip (lo:=lo) hh1 D hlo st hn L hT hI
 intro h' tk as hz hlt
 show wpAny _ _ (Builtin.Tuple.tupleExact (as.map Value.ref).toArray >>= fun v=>ret v) _ _ _
 unfold Builtin.Tuple.tupleExact
 refine wpAny_bind (wpAny_newObj_type ?_ (by show (as.map Value.ref).toArray.size ≤ sizeLine; rw [List.size_toArray,List.length_map,hz.2.1]; exact hn))
 exact wpAny_pure (h h' tk as hz hlt)
theorem tuple_zip {Q:Value → Shared → Prop} (hh:A.handled = none) (hl1:s.heap.IsList l1 xs) (hl2:s.heap.IsList l2 ys) (hn:min xs.size ys.size ≤ sizeLine)
  (h:∀ (h':Heap) (tk:Nat) (as:List Addr) (t:Addr),(∀ b o,s.heap.get? b = some o → h'.get? b = some o) → as.length = min xs.size ys.size → (∀ a ∈ as,s.heap.objs.size ≤ a ∧ a < t) → as.Nodup → s.heap.objs.size ≤ t →
   (∀ (j:Nat) (a:Addr),as[j]? = some a → ∃ x y,xs[j]? = some x ∧ ys[j]? = some y ∧ IsPair h' a x y) → h'.get? t = some { cls:=.type "tuple",data:=.seq (as.map Value.ref).toArray } → Q (.ref t) { s with heap:=h',toks:=tk }) :
  wpAny (model prog w) A (call (.type "zip") [.ref l1,.ref l2]) (fun v s1=>wpAny (model prog w) A (call (.type "tuple") [v]) Q E s1) E s:=by
 have a1:l1 < s.heap.objs.size:=by obtain ⟨_,e,_⟩:=hl1; exact Heap.lt_size e
 have a2:l2 < s.heap.objs.size:=by obtain ⟨_,e,_⟩:=hl2; exact Heap.lt_size e
 refine call_zip_2 hl1 hl2 fun h1 hz hTI hTO hi1 hi2 hsz hk=>?_
 have hl1':h1.IsList l1 xs:=hl1.at fun o e=>hk _ o e
 have hl2':h1.IsList l2 ys:=hl2.at fun o e=>hk _ o e
 have H:∀ k,k < 5 → s.heap.objs.size + k < h1.objs.size:=fun k hk=>by rw [hsz]; exact Nat.add_lt_add_left hk _
 refine callType_codes (Q₁:=fun obj s₁=>s₁.TypeIs obj "tuple" ∧ Q obj s₁) F.called_tuple (F.typeCall_tuple_1 _) F.entry_object_init
  (code_tuple_new_zip (lo:=s.heap.objs.size) (xs:=xs) (ys:=ys) (by simp [hh]) (zipApart_new a1 a2) ⟨Nat.le_add_right _ 4,Nat.le_add_right _ 3,Nat.le_refl _,Nat.le_add_right _ 1⟩ (fun S n1 n2 n3=>⟨.inl ⟨rfl,hz,_,_,hTO⟩,hTI,hi1,hi2,hl1',hl2'⟩) hn
   ⟨H 4 (by decide),H 2 (by decide),H 3 (by decide),H 0 (by decide),H 1 (by decide),Nat.lt_trans a1 (H 0 (by decide)),Nat.lt_trans a2 (H 0 (by decide))⟩
   ⟨_,hz,rfl⟩ ⟨_,hz⟩ fun h' tk as ze hlt=>⟨⟨_,Heap.get?_push_size _ rfl,rfl⟩,?_⟩) fun obj s₁ h₁=>?_
 ·obtain ⟨k1,k2,g⟩:=ze
  refine h (h'.push _) tk as h'.objs.size (fun b o e=>Heap.get?_push_of_some _ (k1 b o (Heap.lt_size e) (hk b o e))) k2 (fun a ha=>⟨?_,g.there ha⟩) (g.rise.imp fun h=>Nat.ne_of_lt h) ?_ (fun j a hj=>?_) (Heap.get?_push_size _ rfl)
  ·exact Nat.le_of_lt (Nat.lt_trans (H 0 (by decide)) (g.above a ha))
  ·exact Nat.le_of_lt (Nat.lt_trans (H 0 (by decide)) hlt)
  ·obtain ⟨x,y,e1,e2,e3⟩:=g.pairs j a hj
   exact ⟨x,y,e1,e2,Heap.get?_push_of_some _ e3⟩
 ·exact ⟨h₁.1,F.args_object_init_2 obj _,object_init_meets F.called_tuple.init.lookup F.called_tuple.made (by decide) prog w A.in1 _ s₁ ⟨h₁.1,rfl,h₁.2⟩⟩
end
end ZipL
namespace L2
open PySem PySem.Spec PyProof.Rows
noncomputable def updL (H:Hp):List (Addr × HO) → Hp
 | []=>H
 | p :: l=>upd (updL H l) p.1 p.2
theorem updL_off {H:Hp} {b:Addr}:∀ {l:List (Addr × HO)},(∀ p ∈ l,p.1 ≠ b) → updL H l b = H b
 | [],_=>rfl
 | p :: l,h=>by
  show upd (updL H l) p.1 p.2 b = _
  rw [upd_ne (Ne.symm (h p List.mem_cons_self)),updL_off fun q hq=>h q (List.mem_cons_of_mem _ hq)]
theorem updL_some {H:Hp} {b:Addr} {u:HO}:∀ {l:List (Addr × HO)},updL H l b = some u → (∃ p ∈ l,p.1 = b ∧ p.2 = u) ∨ H b = some u
 | [],e=>.inr e
 | p :: l,e=>by
  by_cases h:b = p.1
  ·subst h
   have e':upd (updL H l) p.1 p.2 p.1 = some u:=e
   rw [upd_same] at e'
   exact .inl ⟨p,List.mem_cons_self,rfl,Option.some.inj e'⟩
  ·have e':upd (updL H l) p.1 p.2 b = some u:=e
   rw [upd_ne h] at e'
   rcases updL_some e' with ⟨q,hq,x⟩ | x
   ·exact .inl ⟨q,List.mem_cons_of_mem _ hq,x⟩
   ·exact .inr x
theorem updL_mem {H:Hp}:∀ {l:List (Addr × HO)},(l.map Prod.fst).Nodup → ∀ p ∈ l,updL H l p.1 = some p.2
 | [],_,p,h=>nomatch h
 | q :: l,n,p,h=>by
  rw [List.map_cons,List.nodup_cons] at n
  show upd (updL H l) q.1 q.2 p.1 = _
  rcases List.mem_cons.mp h with rfl | h
  ·rw [upd_same]
  ·rw [upd_ne (fun z=>n.1 (by rw [← z]; exact List.mem_map_of_mem h)),updL_mem n.2 p h]
section
variable {X:Cx} {pins:List (Addr × Obj)} {σ:List (Option V)} {H:Hp} {s:Shared} {h':Heap}
theorem Inv.laidL {l:List (Addr × HO)} {t':Nat} (I:Inv X pins σ H s) (k:∀ b u,s.heap.get? b = some u → h'.get? b = some u)
  (hl:∀ p ∈ l,s.heap.objs.size ≤ p.1 ∧ ∃ xs,p.2 = .tup xs ∧ ObjOk X.prog X.w H h' p.1 (.tup xs)):Inv X pins σ (updL H l) { s with heap:=h',toks:=t' }:=by
 have low:∀ b,b < s.heap.objs.size → updL H l b = H b:=fun b hb=>updL_off fun p hp z=>by
  have:=(hl p hp).1
  rw [z] at this
  exact Nat.lt_irrefl _ (Nat.lt_of_lt_of_le hb this)
 refine I.un ⟨fun b u q _ _ _=>k b u q,fun b u q _ _ _=>⟨u.slots,k b u q⟩,fun b u q n _=>by rw [low b (Heap.lt_size q)]; exact n,fun b u q _=>⟨u,k b u q⟩,fun b xs q=>by rw [low b (I.hok.lt q)]; exact q,
  fun b u xs q=>by rw [low b (I.hok.lt q)]; exact q,fun b ps q=>⟨#[],by rw [low b (I.hok.lt q),q]; simp⟩⟩ fun b u e=>?_
 rcases updL_some e with ⟨p,hp,rfl,rfl⟩ | e'
 ·obtain ⟨_,xs,ex,ok⟩:=hl p hp
  rw [ex]
  exact ok
 ·exact (I.hok b u e').stay (fun c v _ q=>k c v q) (fun c q=>by rw [low c (I.hok.lt q)]; exact q) (fun c xs q=>by rw [low c (I.hok.lt q)]; exact q) fun c ob u' q=>by rw [low c (I.hok.lt q)]; exact q
end
noncomputable def CallR2 (X:Cx) (f1 f2:Value) (r:List V → Hp → VK → Prop):Prop :=
 ∀ (pins:List (Addr × Obj)) (s:Shared) (σ:St) (H:Hp) (xs:List V) (us:List Value) (Q:VK),Inv X pins σ H s → Vals xs us → r xs H Q →
  wpAny (model X.prog X.w) X.A (call f2 us) (fun v s1=>wpAny (model X.prog X.w) X.A (call f1 [v]) (EP X pins σ Q) X.xe s1) X.xe s
section
variable {X:Cx} {e:Expr} {es:List Expr} {pos p pos2 p2:Pos} {x1 x2:Str} {T1 T2:String} {r:List V → Hp → VK → Prop} {t:TA}
theorem pe_nestTT (hc:CallR2 X (.type T1) (.type T2) r) (hg1:Gl X x1) (hg2:Gl X x2) (hm1:X.mg x1 = none) (hm2:X.mg x2 = none) (hv1:bootBuiltins x1 = some (.type T1)) (hv2:bootBuiltins x2 = some (.type T2)) (ha:PA X (e :: es) t)
  (hn1:x1 ≠ "__name__" := by decide) (hd1:(x1 == ("__debug__" : Str)) = false:=by decide) (hn2:x2 ≠ "__name__" := by decide) (hd2:(x2 == ("__debug__" : Str)) = false:=by decide)
  (e1:starEach [.Call (.Name x2 p2) (e :: es) [] pos2] X.env = (false,eval (.Call (.Name x2 p2) (e :: es) [] pos2) X.env) :: starEach [] X.env:=by rfl) (h1:(backTo pos (starEach [] X.env)).any (·.1) = false:=by rfl)
  (he:starEach (e :: es) X.env = (false,eval e X.env) :: starEach es X.env:=by rfl) (hpl:(backTo pos2 (starEach es X.env)).any (·.1) = false:=by rfl) :
  PE X (.Call (.Name x1 p) [.Call (.Name x2 p2) (e :: es) [] pos2] [] pos) (tCB r t):=by
 intro pins s σ H Q I h
 refine wpAny_Call_Name_kw (ld_blt I hg1 hm1 hv1 ?_ hn1 hd1)
 refine PyProof.Rows.callWith_type1 ?_ e1 h1
 rw [e1]
 show wpAny _ _ (spliced ((false,eval (.Call (.Name x2 p2) (e :: es) [] pos2) X.env) :: backTo pos (starEach [] X.env))) _ _ s
 refine Calls.spliced_cons ?_
 refine wpAny_Call_Name_kw (ld_blt I hg2 hm2 hv2 ?_ hn2 hd2)
 refine PyProof.Rows.callWith_type1 (thn (ha pos2 pins s σ H _ I h) fun us s1 ⟨vs,H1,I1,r1,q1⟩=>?_) he hpl
 exact thn (hc pins s1 σ H1 vs us Q I1 r1 q1) fun v s2 hv=>Calls.spliced_nil hv
end
end L2
namespace DL
open PySem PySem.Spec PyProof.Rows L2
section
variable {X:Cx} {e:Expr} {es:List Expr} {pos p pos2 p2:Pos} {x1 x2:Str} {T1 T2:String} {r:List V → Hp → VK → Prop} {gA:Ds → Option (List D)} {f:List D → Option D}
theorem pd_nestTT (hc:CallR2 X (.type T1) (.type T2) r) (hf:FnR X.K r f) (hm1:X.mg x1 = none) (hm2:X.mg x2 = none) (hv1:bootBuiltins x1 = some (.type T1)) (hv2:bootBuiltins x2 = some (.type T2)) (ha:PDA X (e :: es) gA) (hg1:Gl X x1:=by rfl) (hg2:Gl X x2:=by rfl)
  (hn1:x1 ≠ "__name__" := by decide) (hd1:(x1 == ("__debug__" : Str)) = false:=by decide) (hn2:x2 ≠ "__name__" := by decide) (hd2:(x2 == ("__debug__" : Str)) = false:=by decide)
  (e1:starEach [.Call (.Name x2 p2) (e :: es) [] pos2] X.env = (false,eval (.Call (.Name x2 p2) (e :: es) [] pos2) X.env) :: starEach [] X.env:=by rfl) (h1:(backTo pos (starEach [] X.env)).any (·.1) = false:=by rfl)
  (he:starEach (e :: es) X.env = (false,eval e X.env) :: starEach es X.env:=by rfl) (hpl:(backTo pos2 (starEach es X.env)).any (·.1) = false:=by rfl) :
  PD X (.Call (.Name x1 p) [.Call (.Name x2 p2) (e :: es) [] pos2] [] pos) (oA gA f) :=
 .mk fun B δ=>(pe_nestTT hc hg1 hg2 hm1 hm2 hv1 hv2 (ha B δ) hn1 hd1 hn2 hd2 e1 h1 he hpl).imp fun σ H Q h=>oA_red hf h
end
noncomputable def zipUp:List Addr → List (V × V) → List (Addr × HO)
 | a :: as,p :: ps=>(a,.tup [p.1,p.2]) :: zipUp as ps
 | _,_=>[]
theorem zipUp_fst:∀ {as:List Addr} {ps:List (V × V)},as.length = ps.length → (zipUp as ps).map Prod.fst = as
 | [],[],_=>rfl
 | [],_ :: _,h=>by simp at h
 | _ :: _,[],h=>by simp at h
 | a :: as,p :: ps,h=>by
  show a :: (zipUp as ps).map Prod.fst = _
  rw [zipUp_fst (by simpa using h)]
theorem zipUp_mem:∀ {as:List Addr} {ps:List (V × V)} {q:Addr × HO},q ∈ zipUp as ps → ∃ (j:Nat) (p:V × V),as[j]? = some q.1 ∧ ps[j]? = some p ∧ q.2 = .tup [p.1,p.2]
 | [],_,q,h=>by simp [zipUp] at h
 | _ :: _,[],q,h=>by simp [zipUp] at h
 | a :: as,p :: ps,q,h=>by
  rcases List.mem_cons.mp h with rfl | h
  ·exact ⟨0,p,rfl,rfl,rfl⟩
  ·obtain ⟨j,p',h1,h2,h3⟩:=zipUp_mem h
   exact ⟨j + 1,p',by simpa using h1,by simpa using h2,h3⟩
noncomputable def rZipT (K:W.Frag):List V → Hp → VK → Prop:=fun vs H Q=>∃ q1 q2 xs ys,vs = [.ref q1,.ref q2] ∧ SqL K H q1 xs ∧ SqL K H q2 ys ∧
 ∀ (t:Addr) (as:List Addr),as.length = (xs.zip ys).length → as.Nodup → t ∉ as → H t = none → (∀ a ∈ as,H a = none) → Q (.ref t) (updL H ((t,.tup (as.map V.ref)) :: zipUp as (xs.zip ys)))
theorem vals_refs:∀ as:List Addr,Vals (as.map V.ref) (as.map Value.ref)
 | []=>.nil
 | a :: as=>.cons rfl (vals_refs as)
theorem call_tuple_zip {X:Cx} (hc:X.calm = true:=by rfl):CallR2 X (.type "tuple") (.type "zip") (rZipT X.K):=by
 intro pins s σ H vs us Q I r h
 obtain ⟨q1,q2,xs,ys,rfl,h1,h2,k⟩:=h
 cases r with
 | cons r1 r =>
  cases r with
  | cons r2 r =>
   cases r
   obtain rfl:=r1
   obtain rfl:=r2
   obtain ⟨us1,v1,p1,z1⟩:=I.list h1
   obtain ⟨us2,v2,p2,z2⟩:=I.list h2
   have l1:=v1.length
   have l2:=v2.length
   refine ZipL.tuple_zip (I.ok.hd hc) p1.isList p2.isList (by rw [List.size_toArray,List.size_toArray]; omega) fun h' tk as t hk hl ha hnd ht hp gt=>?_
   rw [List.size_toArray,List.size_toArray] at hl
   have hl':as.length = (xs.zip ys).length:=by rw [List.length_zip,hl]; omega
   refine ⟨.ref t,_,I.laidL (t':=tk) hk fun p hp'=>?_,rfl,k t as hl' hnd (fun z=>Nat.lt_irrefl _ (ha t z).2) (I.hok.fresh ht) fun a h=>I.hok.fresh (ha a h).1⟩
   rcases List.mem_cons.mp hp' with rfl | hp'
   ·refine ⟨ht,_,rfl,?_,as.map Value.ref,vals_refs as,⟨_,gt,rfl,_,rfl,rfl⟩⟩
    rw [List.length_map,hl]; omega
   ·obtain ⟨j,⟨x,y⟩,e1,e2,e3⟩:=zipUp_mem hp'
    obtain ⟨u,w,f1,f2,f3⟩:=hp j p.1 e1
    have hz:=List.getElem?_zip_eq_some.mp e2
    obtain ⟨u',g1,g2⟩:=v1.get hz.1
    obtain ⟨w',g3,g4⟩:=v2.get hz.2
    have eu:u' = u:=by
     have:us1.toArray[j]? = some u':=by simpa using g1
     rw [f1] at this; exact (Option.some.inj this).symm
    have ew:w' = w:=by
     have:us2.toArray[j]? = some w':=by simpa using g3
     rw [f2] at this; exact (Option.some.inj this).symm
    subst eu; subst ew
    exact ⟨(ha p.1 (List.mem_of_getElem? e1)).1,_,e3,(by show 2 ≤ sizeLine; decide),[u',w'],.cons g2 (.cons g4 .nil),⟨_,f3,rfl,_,rfl,rfl⟩⟩
theorem rps_zipUp {K:W.Frag} {H:Hp} {B:BS}:∀ {ds es:List D} {xs ys:List V} {as:List Addr},Rps K H B ds xs → Rps K H B es ys → as.length = (xs.zip ys).length → (∀ p ∈ zipUp as (xs.zip ys),H p.1 = some p.2 ∧ ¬ B p.1) →
  Rps K H B ((ds.zip es).map fun p=>D.tup [p.1,p.2]) (as.map V.ref)
 | [],es,xs,ys,as,r1,r2,hl,h=>by
  rw [rps_nil] at r1; subst r1
  simp at hl; subst hl
  simp [rps_nil]
 | d :: ds,[],xs,ys,as,r1,r2,hl,h=>by
  rw [rps_nil] at r2; subst r2
  simp at hl; subst hl
  simp [rps_nil]
 | d :: ds,e :: es,xs,ys,as,r1,r2,hl,h=>by
  rw [rps_cons] at r1 r2
  obtain ⟨x,xs',rfl,a1,a2⟩:=r1
  obtain ⟨y,ys',rfl,b1,b2⟩:=r2
  cases as with
  | nil=>simp at hl
  | cons a as =>
   have h0:=h (a,.tup [x,y]) List.mem_cons_self
   rw [List.zip_cons_cons,List.map_cons,List.map_cons,rps_cons]
   refine ⟨_,_,rfl,?_,rps_zipUp a2 b2 (by simpa using hl) fun p hp=>h p (List.mem_cons_of_mem _ hp)⟩
   rw [rp_tup]
   refine ⟨a,[x,y],rfl,⟨h0.2,h0.1⟩,?_⟩
   rw [rps_cons]
   refine ⟨_,_,rfl,a1,?_⟩
   rw [rps_cons]
   exact ⟨_,_,rfl,b1,by rw [rps_nil]⟩
theorem fn_tupZip {K:W.Frag}:FnR K (rZipT K) zipTD:=by
 intro H B xs ds d Q bad r h k
 unfold zipTD at h
 split at h <;> try cases h
 rename_i ds es
 rw [rps_cons] at r
 obtain ⟨x,r',rfl,r1,r⟩:=r
 rw [rps_cons] at r
 obtain ⟨y,r',rfl,r2,r⟩:=r
 rw [rps_nil] at r; subst r
 rw [rp_lst] at r1 r2
 obtain ⟨q1,us,rfl,s1,t1⟩:=r1
 obtain ⟨q2,ws,rfl,s2,t2⟩:=r2
 refine ⟨q1,q2,us,ws,rfl,s1.to,s2.to,fun t as hl hnd ht ft fa=>?_⟩
 have hfst:(((t,HO.tup (as.map V.ref)) :: zipUp as (us.zip ws)).map Prod.fst) = t :: as:=by rw [List.map_cons,zipUp_fst hl]
 have hN:(((t,HO.tup (as.map V.ref)) :: zipUp as (us.zip ws)).map Prod.fst).Nodup:=by rw [hfst]; exact List.nodup_cons.mpr ⟨ht,hnd⟩
 have fr:∀ p ∈ ((t,HO.tup (as.map V.ref)) :: zipUp as (us.zip ws)),H p.1 = none:=fun p hp=>by
  have:p.1 ∈ t :: as:=by rw [← hfst]; exact List.mem_map_of_mem hp
  rcases List.mem_cons.mp this with e | e
  ·rw [e]; exact ft
  ·exact fa _ e
 have sm:Same H (updL H ((t,HO.tup (as.map V.ref)) :: zipUp as (us.zip ws))):=fun b u e=>by
  rw [updL_off fun p hp z=>by rw [← z,fr p hp] at e; cases e]; exact e
 have nb:∀ p ∈ ((t,HO.tup (as.map V.ref)) :: zipUp as (us.zip ws)),¬ B p.1:=fun p hp z=>bad _ z (fr p hp)
 refine k _ _ sm ?_
 rw [rp_tup]
 refine ⟨t,as.map V.ref,rfl,⟨nb _ List.mem_cons_self,updL_mem hN _ List.mem_cons_self⟩,rps_zipUp (t1.same sm) (t2.same sm) hl fun p hp=>⟨updL_mem hN p (List.mem_cons_of_mem _ hp),nb p (List.mem_cons_of_mem _ hp)⟩⟩
end DL
namespace L2
open PySem PySem.Spec PyProof.Rows
section
variable {X:Cx} {pins:List (Addr × Obj)} {σ:List (Option V)} {H:Hp} {s:Shared} {h':Heap}
end
section
variable {X:Cx} {elts:List Expr} {x1:Nat} {tpos:Pos}
end
end L2
namespace DL
open PySem PySem.Spec PyProof.Rows L2
section
variable {X:Cx} {elts:List Expr} {x1:Nat} {tpos:Pos} {a b:Expr} {p pos:Pos} {gA:Ds → Option (List D)}
end
section
variable {K:W.Frag} {H:Hp} {B B':BS}
end
section
variable {X:Cx} {K:W.Frag} {e:Expr} {pos p:Pos} {g:Ds → Option D}
end
section
variable {X:Cx} {e:Expr} {pos p pos2 p2:Pos} {gA:Ds → Option (List D)}
end
end DL
namespace TxtL
open PySem PySem.Spec PyProof.Rows Builtin Builtin.Str
section
variable {prog:Program} {w:World} {A:Around} {E:Value → Shared → Prop} {s:Shared} {Q:Value → Shared → Prop} {x y:PySem.Str} {t u:Tok}
end
end TxtL
namespace L2
open PySem PySem.Spec PyProof.Rows
section
variable {X:Cx}
end
end L2
namespace DL
open PySem PySem.Spec PyProof.Rows L2
section
variable {X:Cx} {K:W.Frag} {o e:Expr} {apos cpos:Pos} {g:Ds → Option D} {gA:Ds → Option (List D)} {name:PySem.Str} {id:String} {r:V → List V → Hp → VK → Prop} {f:D → List D → Option D}
theorem fnOk_never {P:Program} {w:World} {K:W.Frag} {mg:PySem.Str → Option Value} {base:Heap} {k:Nat} {f:Addr} {fd:FuncData} {ps:List PySem.Str}:FnOk P w K mg base CX0 k f fd ps (spD K fun _=>none) :=
 ⟨fun vs H Q E ⟨_,_,_,_,_,h,_⟩=>(by cases h),fun A outer s H args us vs Q E _ _ _ _ ⟨_,_,_,_,_,h,_⟩=>(by cases h)⟩
end
section
variable {X:Cx} {e a b c:Expr} {es:List Expr} {pos:Pos} {g ga gb gc:Ds → Option D}
open Builtin Builtin.Str Builtin.Int in
theorem mul_intstr {prog:Program} {w:World} {A:Around} {E:Value → Shared → Prop} {s:Shared} {x:Str} {n:Int} {t u:Tok} {Q:Value → Shared → Prop} (hr:(decide (n < -(2 ^ 63:Int)) || decide (n ≥ 2 ^ 63)) = false)
  (hb:¬ n < 1 → (n == 1 || x.length == 0) = false → ¬ ((x.length:Int) > (2 ^ 63 - 1) / n)) (hl:¬ n < 1 → (n == 1 || x.length == 0) = false → tooLong (x.length * n.toNat) = false)
  (h:(if n < 1 then Made.str Str.empty else if (n == 1 || x.length == 0) = true then Made.val (.str x t) else Made.str ⟨(List.replicate n.toNat x.cps).foldl (· ++ ·) #[]⟩).post Q s) :
  wpAny (model prog w) A (binaryOp .Mult (.int n u) (.str x t)) Q E s :=
 PySem.lm_binaryOp_repeat_right (T := "str") (U := "int") (by decide) (fun s'=>typeIs_int s' n u) (typeIs_str s x t) PySem.F.fills_int_mul PySem.noFill_str_mul PySem.F.slot_int_mul PySem.lm_noRepeat_int PySem.repeat_str PySem.F.slot_int_index.lookup
  (call_gives PySem.F.slot_int_mul (typeIs_int s n u) PySem.F.entry_int_mul (PySem.F.args_int_mul_2 _ _) (PySem.AutoIntG3.int___mul___int_str_0 n u x t)
   ⟨rfl,typeIs_str _ x t,call_gives PySem.F.slot_str_mul (typeIs_str s x t) PySem.F.entry_str_mul (PySem.F.args_str_mul_2 _ _) (gives_str_mul x n t u hr hb hl) h⟩)
end
end DL
namespace HL
open PySem PySem.SeqAt PyProof.Rows
open PySem.AutoSeq1 (wpAny_loadPart')
open PySem.MeetsSeq PySem.MeetsSeq2 PySem.MeetsSeq3
end HL
namespace DL
open PySem PySem.Spec PyProof.Rows L2
section
variable {X:Cx} {e a b c:Expr} {es:List Expr} {pos px apos cpos:Pos} {g ga gb gc:Ds → Option D} {x:Str}
end
end DL
namespace ZipL
open PySem PySem.Spec PyProof.Rows
section
variable {prog:Program} {w:World} {A:Around} {E:Value → Shared → Prop} {s:Shared}
end
end ZipL
namespace L2
open PySem PySem.Spec PyProof.Rows
section
variable {X:Cx} {nx:Str} {tpos:Pos}
end
end L2
namespace DL
open PySem PySem.Spec PyProof.Rows L2
section
variable {X:Cx} {nx:Str} {tpos:Pos} {a b:Expr} {p pos:Pos} {gA:Ds → Option (List D)}
end
end DL
namespace L2
open PySem PySem.Spec PyProof.Rows
section
variable {X:Cx} {pins:List (Addr × Obj)} {σ:List (Option V)} {A:Around} {E:Value → Shared → Prop}
end
end L2
namespace DL
open PySem PySem.Spec PyProof.Rows L2
section
variable {K:W.Frag} {H:Hp} {B:BS}
end
section
variable {X:Cx} {e:Expr} {pos p:Pos} {g:Ds → Option D}
end
end DL
namespace L2
open PySem PySem.Spec PyProof.Rows
section
variable {X:Cx} {pins:List (Addr × Obj)} {σ:List (Option V)} {A:Around} {E:Value → Shared → Prop}
end
end L2
namespace DL
open PySem PySem.Spec PyProof.Rows L2
section
variable {K:W.Frag} {H:Hp} {B:BS} {σ:St} {δ:Ds}
end
section
variable {X:Cx} {ke ve:Expr} {pos:Pos} {gk gv:Ds → Option D}
end
noncomputable def augD (i:Nat) (g:GE):GS:=fun δ=>match δ[i]? with
 | some (.sh (.int a))=>(g δ).bind fun d=>match d with
  | .int b=>some (.nx (δ.set i (.sh (.int (a + b)))))
  | _=>none
 | _=>none
section
variable {X:Cx} {e:Expr} {pos pos':Pos} {g:Ds → Option D} {x:Str}
theorem psd_aug (i:Nat) (hN:X.N.Nodup) (h:PD X e g) (hi:X.N[i]? = some x:=by rfl) (hx:Loc X.env.scope x:=by first | exact Or.inl rfl | exact Or.inr rfl)
  (hf:X.fn x = true ∨ X.env.scope.names.lookup x = some .local:=by first | exact .inl rfl | exact .inr rfl | assumption):PSD X (.AugAssign (.Name x pos') .Add e pos) (augD i g):=.mk fun H₀ B₀ δ pins s σ H D I ⟨r,en,e1,k⟩=>by
 unfold augD at e1
 obtain ⟨B,b1,b2,env⟩:=en.ex
 split at e1
 ·rename_i a ha
  cases e2:g δ with
  | none=>rw [e2] at e1; cases e1
  | some d =>
   rw [e2] at e1
   simp only [Option.bind_some] at e1
   cases d <;> simp only at e1 <;> try cases e1
   rename_i b
   obtain ⟨v,hv,rv⟩:=env.get ha
   rw [rp_int] at rv
   subst rv
   refine ps_aug hN hi hx (h B δ) ip_add hf pins s σ H D I ⟨_,hv,.int b,env,e2,fun v2 H1 s1 r1=>?_⟩
   rw [rp_int] at r1
   subst r1
   refine ⟨a,b,rfl,rfl,?_⟩
   exact k _ H1 (en.wr b1 b2 s1 wr_set ((env.same s1).set i (by rw [rp_int])))
 ·cases e1
end
section
variable {X:Cx} {e:Expr} {g:GE} {pos:Pos}
end
section
variable {X:Cx}
end
end DL
namespace L2
open PySem PySem.Spec PyProof.Rows
section
variable {X:Cx}
noncomputable def rIns0:V → List V → Hp → VK → Prop:=fun x vs H Q=>∃ l xs y,x = .ref l ∧ vs = [.int 0,y] ∧ H l = some (.lst xs) ∧ xs.length < sizeLine ∧ Q .non (upd H l (.lst (y :: xs)))
theorem mt_ins0:MtM X "list.insert" rIns0:=by
 intro pins s σ H x vs v us Q I rx rv h
 obtain ⟨l,xs,y,rfl,rfl,hH,hz,q⟩:=h
 cases rx
 obtain ⟨u0,u,rfl,ru0,ru⟩:=rv.two
 obtain ⟨t0,rfl⟩:=ru0
 obtain ⟨z,its,n,r,hl,e⟩:=I.lstM hH
 refine call_meets F.slot_list_insert ⟨_,e,rfl⟩ F.entry_list_insert (F.args_list_insert_3 _ _ _) (PySem.AutoListH.list_insert_list_int_val_1 l its.toArray n 0 t0 u (by decide +kernel) (by rw [List.size_toArray]; omega)) ⟨e,?_⟩
 refine ⟨.non,_,I.lset (its':=u :: its) hH e ?_ (.cons ru r) ?_,rfl,q⟩
 ·simp
 ·rw [List.length_cons]; omega
end
end L2
namespace DL
open PySem PySem.Spec PyProof.Rows L2
@[simp] noncomputable def ordD:List D → Option D
 | [.str x]=>match x.cps.toList with
  | [c]=>some (.int (c:Nat))
  | _=>none
 | _=>none
theorem fn_ord {K:W.Frag}:FnR K (fun xs H Q=>∃ x,xs = [.str x] ∧ x.length = 1 ∧ Q (.int (x.cps.getD 0 0:Nat)) H) ordD:=by
 intro H B xs ds d Q hb r h k
 unfold ordD at h
 split at h
 ·rename_i x
  split at h
  ·rename_i c hc
   cases h
   obtain ⟨v,rfl,r1⟩:=rps_one r
   rw [rp_str] at r1
   subst r1
   obtain ⟨⟨l⟩⟩:=x
   have:l = [c]:=hc
   subst this
   exact ⟨_,rfl,rfl,k _ H (Same.refl H) (by rw [rp_int]; rfl)⟩
  ·cases h
 ·cases h
noncomputable def ins0X (i:Nat) (g:GE):GX:=fun δ=>(owL i δ).bind fun ds=>(g δ).bind fun d=>if ds.length < sizeLine then some (.non,δ.set i (.ow (.lst (d :: ds)))) else none
section
variable {X:Cx} {e:Expr} {g:GE} {x:Str} {px p0 apos cpos:Pos} {j:Nat}
theorem px_ins0 (i:Nat) (h:PD X e g) (hN:X.N[i]? = some x:=by rfl) (hv:Vis X.env.scope x:=by first | exact Or.inl rfl | exact Or.inr (Or.inl rfl) | exact Or.inr (Or.inr rfl)) (hd:(x == ("__debug__" : Str)) = false:=by decide) (hcd:(x == ("__classdict__" : Str)) = false:=by decide)
  (hbase:attributeBase (.Name x px) "insert" X.env (eval (.Name x px) X.env) = eval (.Name x px) X.env:=by rfl)
  (hfew:((backTo cpos (starEach [.Constant (.int 0) j p0,e] X.env)).all (fun x=>!x.1) && (backToKw cpos (keywordEach [] X.env)).all (fun x=>x.1.isSome)
   && decide (([.Constant (.int 0) j p0,e]:List Expr).length + ([]:List Keyword).length + (if ([]:List Keyword).isEmpty then 0 else 1) < 30)) = true:=by rfl)
  (hline:(apos.endLine == cpos.line) = true:=by rfl) (hs:starEach [.Constant (.int 0) j p0,e] X.env = (false,eval (.Constant (.int 0) j p0) X.env) :: starEach [e] X.env:=by rfl) (hs1:starEach [e] X.env = (false,eval e X.env) :: starEach [] X.env:=by rfl) (hplain:(backTo cpos (starEach [e] X.env)).any (·.1) = false:=by rfl) :
  PX X (.Call (.Attribute (.Name x px) "insert" apos) [.Constant (.int 0) j p0,e] [] cpos) (ins0X i g):=.mk fun H₀ B₀ δ pins s σ H Q I ⟨r,en,e1,k⟩=>by
 unfold ins0X at e1
 obtain ⟨B,b1,b2,env⟩:=en.ex
 cases e2:owL i δ with
 | none=>rw [e2] at e1; cases e1
 | some ds =>
  cases e3:g δ with
  | none=>rw [e2,e3] at e1; cases e1
  | some d =>
   rw [e2,e3] at e1
   simp only [Option.bind_some] at e1
   split at e1
   ·rename_i hz
    cases e1
    have hi:=owL_eq e2
    obtain ⟨a,hs',hb,xs,hx,rx⟩:=env.at hi
    refine pe_bm PySem.F.plainAttrs_list PySem.F.slot_list_insert PySem.F.type_list_insert mt_ins0 (pe_var (i:=i) hN hv hd hcd) (pa_cons pe_int (pa_cons (h B δ) pa_nil hs1) hs) hbase hfew hline hs hplain pins s σ H Q I
     ⟨_,hs',.inl ⟨rfl,xs,.inl (.inl hx)⟩,d,env,e3,fun v H1 s1 r1=>⟨a,xs,v,rfl,rfl,s1 _ _ hx,by rw [rx.length]; exact hz,?_⟩⟩
    have env2:Env X.K (upd H1 a (.lst (v :: xs))) B σ (δ.set i (.ow (.lst (d :: ds)))):=(env.same s1).mut hi hs' ⟨_,upd_same,by
     rw [rps_cons]
     exact ⟨v,xs,rfl,r1.mono (Gr.own hb),(rx.same s1).mono (Gr.own hb)⟩⟩
    exact k _ _ (EnvV.mk' (en.mut s1 b1 b2 hi hs' env2) b1 b2 env2 (by rw [rp_non]))
   ·cases e1
end
end DL
namespace L2
open PySem PySem.Spec PyProof.Rows
section
variable {X:Cx}
noncomputable def rIdxS (K:W.Frag):V → List V → Hp → VK → Prop:=fun x vs H Q=>∃ (p:Addr) (ys:List Str) (z:Str) (j:Nat),x = .ref p ∧ vs = [.str z] ∧ SqL K H p (ys.map V.str) ∧ ys[j]? = some z ∧ (∀ m,m < j → ys[m]? ≠ some z) ∧ Q (.int (j:Int)) H
theorem vals_strI:∀ {ys:List Str} {us:List Value},Vals (ys.map V.str) us → ∀ (m:Nat) (y:Str),ys[m]? = some y → ∃ t,us[m]? = some (.str y t)
 | [],_,.nil,m,y,h=>by cases h
 | y' :: ys,_,.cons r t,0,y,h=>by
  cases h
  obtain ⟨tk,rfl⟩:=r
  exact ⟨tk,rfl⟩
 | y' :: ys,_,.cons r t,m + 1,y,h=>by
  obtain ⟨tk,e⟩:=vals_strI t m y (by simpa using h)
  exact ⟨tk,by simpa using e⟩
theorem strs_flat:∀ ys:List Str,(ys.map V.str).all flatV = true
 | []=>rfl
 | y :: ys=>by
  rw [List.map_cons,List.all_cons,strs_flat ys]
  rfl
theorem mt_idxS:MtR X "list.index" (rIdxS X.K):=by
 intro pins s σ H x vs v us Q I rx rv h
 obtain ⟨p,ys,z,j,rfl,rfl,hq,hj,hno,q⟩:=h
 cases rx
 obtain ⟨u,rfl,ru⟩:=rv.one
 obtain ⟨its,r,pl,hz⟩:=I.list hq
 obtain ⟨o,n,h1,h2,h3⟩:=id pl
 have hlen:its.length = ys.length:=by rw [← r.length,List.length_map]
 have hjl:j < ys.length:=(List.getElem?_eq_some_iff.mp hj).1
 have at_:∀ m (hm:m < its.toArray.size),∃ y t,ys[m]? = some y ∧ its.toArray[m] = .str y t:=fun m hm=>by
  have hm':m < ys.length:=by rw [List.size_toArray] at hm; omega
  obtain ⟨t,e⟩:=vals_strI r m ys[m] (List.getElem?_eq_getElem hm')
  refine ⟨ys[m],t,List.getElem?_eq_getElem hm',?_⟩
  have:its[m]? = some its[m]:=List.getElem?_eq_getElem (by omega)
  rw [this] at e
  have e':=Option.some.inj e
  simpa using e'
 obtain ⟨c0,dd,dt,sl⟩:=o
 obtain rfl:c0 = .type "list" := h2
 obtain ⟨rfl,rfl⟩:dd = none ∧ dt = .seq its.toArray n:=h3
 obtain ⟨t,rfl⟩:=ru
 have eqs:∀ (y:Str) (tk:Tok),eqU (.str z) (.str y tk) = true ↔ y = z:=fun y tk=>by
  show (eqV (.str y) (.str z)) = true ↔ _
  simp [eqV]
 have hsm:(j:Int) < 2 ^ 63 - 1:=by
  have h5:ys.length ≤ sizeLine:=by rw [List.length_map] at hz; exact hz
  have h6:sizeLine < 2 ^ 62:=by decide
  omega
 refine call_meets (T := "list") F.slot_list_index (show s.TypeIs (.ref p) "list" from ⟨_,h1,rfl⟩) F.entry_list_index (F.args_list_index_2 _ _) (SeqAt.list_indexAt p its.toArray n none sl (.str z t) (eqU (.str z)) j (by rw [List.size_toArray]; omega) hsm ?_ ?_) ⟨h1,fun y hy=>mem_eqAt (x:=.str z) ⟨t,rfl⟩ rfl r (strs_flat ys) y (by simpa using hy),⟨.int (j:Int),H,I.tok _,⟨_,rfl⟩,q⟩⟩
 ·obtain ⟨y,tk,e1,e2⟩:=at_ j (by rw [List.size_toArray]; omega)
  rw [e2,eqs]
  rw [hj] at e1
  cases e1
  rfl
 ·intro m hm hlt
  obtain ⟨y,tk,e1,e2⟩:=at_ m hm
  rw [e2]
  cases hb:eqU (.str z) (.str y tk) with
  | false=>rfl
  | true=>exact absurd ((eqs y tk).mp hb ▸ e1) (hno m hlt)
end
end L2
namespace DL
open PySem PySem.Spec PyProof.Rows L2
noncomputable def idxD:D → List D → Option D
 | .lst ds,[.str z]=>(strL ds).bind fun ys=>(ys.findIdx? fun y=>decide (y = z)).map fun j=>.int (j:Int)
 | _,_=>none
section
variable {X:Cx} {o e:Expr} {apos cpos:Pos} {g:Ds → Option D} {gA:Ds → Option (List D)}
theorem strL_rps {K:W.Frag} {H:Hp} {B:BS}:∀ {ds:List D} {ys:List Str} {xs:List V},strL ds = some ys → Rps K H B ds xs → xs = ys.map V.str:=by
 intro ds
 induction ds with
 | nil =>
  intro ys xs h r
  rw [rps_nil] at r
  subst r
  simp only [strL] at h
  cases h
  rfl
 | cons d ds ih =>
  intro ys xs h r
  rw [rps_cons] at r
  obtain ⟨x,r',rfl,r1,r2⟩:=r
  cases d <;> simp only [strL] at h <;> try cases h
  rename_i s
  cases e1:strL ds with
  | none=>rw [e1] at h; cases h
  | some zs =>
   rw [e1] at h
   cases h
   rw [rp_str] at r1
   subst r1
   rw [ih e1 r2]
   rfl
theorem pd_idx (ho:PD X o g) (ha:PDA X [e] gA) (hbase:attributeBase o "index" X.env (eval o X.env) = eval o X.env:=by rfl)
  (hfew:((backTo cpos (starEach [e] X.env)).all (fun x=>!x.1) && (backToKw cpos (keywordEach [] X.env)).all (fun x=>x.1.isSome)
   && decide ([e].length + ([]:List Keyword).length + (if ([]:List Keyword).isEmpty then 0 else 1) < 30)) = true:=by rfl)
  (hline:(apos.endLine == cpos.line) = true:=by rfl) (hs:starEach [e] X.env = (false,eval e X.env) :: starEach [] X.env:=by rfl) (hplain:(backTo cpos (starEach [] X.env)).any (·.1) = false:=by rfl) :
  PD X (.Call (.Attribute o "index" apos) [e] [] cpos) (methG g gA idxD):=.mk fun B δ =>
 (pe_bm F.plainAttrs_list F.slot_list_index F.type_list_index mt_idxS (ho B δ) (ha B δ) hbase hfew hline hs hplain).imp fun σ H Q ⟨d,en,h,k⟩=>by
  unfold methG at h
  cases e1:g δ with
  | none=>rw [e1] at h; cases h
  | some x =>
   cases e2:gA δ with
   | none=>rw [e1,e2] at h; cases h
   | some es =>
    rw [e1,e2] at h
    simp only [Option.bind_some] at h
    unfold idxD at h
    split at h
    ·rename_i ds z
     cases e3:strL ds with
     | none=>rw [e3] at h; cases h
     | some ys =>
      rw [e3,Option.bind_some] at h
      cases e4:ys.findIdx? (fun y=>decide (y = z)) with
      | none=>rw [e4] at h; cases h
      | some j =>
       rw [e4] at h
       cases h
       refine ⟨_,en,e1,fun v H1 s1 r1=>?_⟩
       rw [rp_lst] at r1
       obtain ⟨p,xs,rfl,hq,rx⟩:=r1
       obtain rfl:=strL_rps e3 rx
       refine ⟨.inl ⟨rfl,_,hq.to⟩,_,en.same s1,e2,fun vs H2 s2 r2=>?_⟩
       rw [rps_cons] at r2
       obtain ⟨y,rr,rfl,r3,r4⟩:=r2
       rw [rps_nil] at r4
       subst r4
       rw [rp_str] at r3
       subst r3
       obtain ⟨hj,h1,h2⟩:=List.findIdx?_eq_some_iff_getElem.mp e4
       refine ⟨p,ys,z,j,rfl,rfl,(hq.mono (Gr.same s2)).to,?_,fun m hm he=>?_,k _ _ (s1.trans s2) (by rw [rp_int])⟩
       ·rw [List.getElem?_eq_getElem hj,of_decide_eq_true h1]
       ·have hml:m < ys.length:=by omega
        rw [List.getElem?_eq_getElem hml] at he
        exact h2 m hm (decide_eq_true (Option.some.inj he))
    ·cases h
end
end DL
namespace PySem.SeqAt
open AutoSeq1 (wpAny_loadPart')
open MeetsSeq MeetsSeq2 MeetsSeq3 SeqRoads2
end PySem.SeqAt
namespace L2
open PySem PySem.Spec PyProof.Rows
noncomputable def CMulW (i j:Int):Prop:=i.natAbs.log2 ≤ 2000000 ∧ j.natAbs.log2 ≤ 2000
instance decMulW (i j:Int):Decidable (CMulW i j):=inferInstanceAs (Decidable (i.natAbs.log2 ≤ 2000000 ∧ j.natAbs.log2 ≤ 2000))
theorem CMulW.ok {i j:Int} (h:CMulW i j):IntMulOk i j:=by
 obtain ⟨h1,h2⟩:=h
 have b1:Builtin.Int.intBits i ≤ 2000001:=by unfold Builtin.Int.intBits; split <;> omega
 have b2:Builtin.Int.intBits j ≤ 2001:=by unfold Builtin.Int.intBits; split <;> omega
 unfold IntMulOk Builtin.Int.intTooBig
 intro h
 rw [Bool.and_eq_true] at h
 have h3:=of_decide_eq_true h.2
 rw [bitsLine_eq] at h3
 omega
section
variable {X:Cx}
theorem op_mulW:OpR X (binaryOp .Mult) (rI CMulW fun i j=>.int (i * j)):=opI fun _ _ _ _ _ _ _ hc q=>mul_int q hc.ok
end
noncomputable def TupK (K:W.Frag) (mg:Str → Option Value) (x:Str) (ys:List Str):Prop :=
 ∃ (a:Addr) (o:Obj) (its:Array Value) (n:Nat),mg x = some (.ref a) ∧ K.lookup a = some o ∧ o.cls = .type "tuple" ∧ o.dict = none ∧ o.data = .seq its n ∧ its.size ≤ sizeLine ∧ Vals (ys.map V.str) its.toList
end L2
namespace DL
open PySem PySem.Spec PyProof.Rows L2
@[simp] noncomputable def mulW:D → D → Option D:=ii fun i j=>if i.natAbs.log2 ≤ 2000000 ∧ j.natAbs.log2 ≤ 2000 then some (.int (i * j)) else none
section
variable {X:Cx} {a b e:Expr} {ga gb:GE} {gA:GA} {pos p0 apos cpos:Pos} {x:Str} {ys:List Str}
theorem pd_mulW (ha:PD X a ga) (hb:PD X b gb):PD X (.BinOp a .Mult b pos) (o2 ga gb mulW):=pd_op op_mulW (op2_ii (C:=CMulW) (g':=fun i j=>.int (i * j)) fun _ _ _ _=>by rw [rp_int]) ha hb
end
end DL
namespace Att
open PySem PySem.W PySem.Calls PyProof.Rows
theorem bits_of (W:Nat):∀ ns:List Int,WData.weightAll (ns.map .int) ≤ W → ∀ z ∈ ns,z.natAbs.log2 ≤ W
 | [],_,z,hz=>by cases hz
 | n :: ns,h,z,hz=>by
  rw [List.map_cons,WData.weightAll] at h
  rcases List.mem_cons.mp hz with rfl | hz
  ·have h1:WData.weight (.int z) ≤ W:=by omega
   unfold WData.weight at h1
   by_cases q:z = 0
   ·subst q; exact Nat.zero_le _
   ·rw [if_neg (by simpa using q)] at h1
    omega
  ·exact bits_of W ns (by omega) z hz
theorem attach_callW {l:OpenLaw} {n:Nat} {q:Program} {loose:List Str} {XP:(Str → Option Value) → Heap → Prop} {YP:World → Heap → Prop} {d:DefRec}
  (hn:l.most = some n) (hdf:d.params.defaults = [])
  (call:∀ (w:World) (s₀ s₁:Shared) (mg mb:Str → Option Value) (fa:Addr) (o:Obj) (pm cd doc:Value) (a:Addr) (vs:List Value) (ns:List Int),
   Ground q loose [] XP w s₀ mg mb s₁.heap → YP w s₁.heap →
   s₁.heap.get? fa = some o → o.data = .func (docDef d.name d.params d.body d.scope pm cd doc) → s₁.heap.CodeRec cd d.name → mg d.name = some (.ref fa) →
   s₁.heap.get? a = some { cls:=.type "list",data:=.seq vs.toArray } → IntsAre vs ns → ns.length ≤ n → (∀ z ∈ ns,z.natAbs.log2 ≤ 1048576) → s₁.gens = #[] →
   codeAny (model l.prog w) callerA (.call (.ref fa) ⟨[.ref a],[]⟩) (fun r s'=>r = .ok (.ret (.bool true)) ∧ OldK s₁.heap s'.heap ∧ s'.os = s₁.os ∧ AllBare s'.gens) s₁) :
  WalkO q loose XP YP l.row.toRowW d [] (fun f vs=>PySem.call f vs):=by
 intro w s₀ s₁ mg mb G Y fa o pm cd doc dV kV ho hd hcd hD hmg hg args vals as hpre hlay hrd hwl hlo
 obtain rfl:dV = .none:=Dflts.none hD hdf
 obtain rfl:kV = .none:=Dflts.noKw hD
 obtain ⟨a,vs,ns,rfl,rfl,hobj,hints,hlen⟩:=script_of hn hpre hwl
 have hw:∀ z ∈ ns,z.natAbs.log2 ≤ 1048576:=by
  have h1:(WData.layable (.list (ns.map .int)) && true) = true:=hlay
  rw [Bool.and_true] at h1
  unfold WData.layable at h1
  rw [Bool.and_eq_true] at h1
  have h2:WData.weight (.list (ns.map .int)) ≤ 2 ^ 20:=of_decide_eq_true h1.2
  rw [WData.weight] at h2
  exact bits_of (2 ^ 20) ns h2
 refine enter_call (codeAny_mono (call w s₀ s₁ mg mb fa o pm cd doc a vs ns G Y ho (fd_plain hd) hcd hmg hobj hints hlen hw hg) fun r s' hq=>?_)
 obtain ⟨rfl,h2,h3,h4⟩:=hq
 exact ⟨.inl ⟨.bool true,.bool true,[],rfl,fun _=>rfl,.bool true,post_true l _,fun _=>⟨List.Pairwise.nil,fun _ hm=>(nomatch hm)⟩⟩,h2,h3,h4⟩
end Att
namespace L2
open PySem PySem.Spec PyProof.Rows
end L2
namespace DL
open PySem PySem.Spec PyProof.Rows L2
section
variable {X:Cx} {pins:List (Addr × Obj)} {σ:St} {H:Hp} {s:Shared} {e:Expr} {es:List Expr} {x q:Str} {p pos:Pos} {Pt:Addr} {gA:Ds → Option (List D)}
theorem tq_of (I:Inv X pins σ H s) (h:TQ X.H₀ Pt q):TQ H Pt q:=by
 obtain ⟨t,ps,e⟩:=h
 obtain ⟨more,e'⟩:=I.base.tbls Pt _ e
 exact ⟨t,ps ++ more,by rw [e',Array.append_assoc]⟩
theorem pe_callT {CX:CXT} {k:Nat} {f:Addr} {fd:FuncData} {ps:List Str} {sp:Sp} {dvs:List V} {ds:List Value} {E:XK} {t:TA} (F:FnOk X.prog X.w X.K X.mg X.base CX k f fd ps (spT Pt q sp)) (hT:TQ X.H₀ Pt q) (hr:Room k X.A) (hg:Gl X x) (hm:X.mg x = some (.ref f))
  (hk:W.keepIn X.K (.ref f) = true) (hb:Binds X.K fd ps ds) (hd:Vals dvs ds) (hx:Passes CX X E) (ha:PA X (e :: es) t) (hdb:(x == ("__debug__" : Str)) = false:=by decide) (he:starEach (e :: es) X.env = (false,eval e X.env) :: starEach es X.env:=by rfl)
  (hpl:(backTo pos (starEach es X.env)).any (·.1) = false:=by rfl):PE X (.Call (.Name x p) (e :: es) [] pos) (tCall sp dvs E t):=by
 intro pins s σ H Q I h
 refine wpAny_Call_Name_kw (ld_glob I hg hm ?_ hdb)
 refine W.callWith_K (h₀:=X.base) I.ok.mod.kin hk (thn (ha pos pins s σ H _ I h) fun us s1 ⟨vs,H1,I1,r,q⟩=>⟨I1.kIn,?_⟩) he hpl
 exact run_fn F hr hb hd hx I1 r ⟨tq_of I1 hT,q⟩
noncomputable def FnDT (P:Program) (w:World) (K:W.Frag) (mg:Str → Option Value) (base:Heap) (Pt:Addr) (q:Str) (x:Str) (k:Nat) (ps:List Str) (f:List D → Option D):Prop :=
 ∃ (fa:Addr) (fd:FuncData),FnOk P w K mg base CX0 k fa fd ps (spT Pt q (spD K f)) ∧ mg x = some (.ref fa) ∧ W.keepIn K (.ref fa) = true ∧ Binds K fd ps []
theorem pd_fnT {k m:Nat} {ps:List Str} {f:List D → Option D} (C:FnDT X.prog X.w X.K X.mg X.base Pt q x k ps f) (hT:TQ X.H₀ Pt q) (hr:Room m X.A) (hk:k ≤ m) (ha:PDA X (e :: es) gA) (hg:Gl X x:=by rfl) (hdb:(x == ("__debug__" : Str)) = false:=by decide)
  (he:starEach (e :: es) X.env = (false,eval e X.env) :: starEach es X.env:=by rfl) (hpl:(backTo pos (starEach es X.env)).any (·.1) = false:=by rfl):PD X (.Call (.Name x p) (e :: es) [] pos) (oA gA f):=by
 obtain ⟨fa,fd,F,hm,kp,hb⟩:=C
 exact .mk fun B δ=>(pe_callT (E:=E0) F hT (hr.mono hk) hg hm kp hb .nil pass0 (ha B δ) hdb he hpl).imp fun σ H Q h=>by
  obtain ⟨d,en,h,k⟩:=h
  unfold oA at h
  cases e1:gA δ with
  | none=>rw [e1] at h; cases h
  | some ds =>
   rw [e1] at h
   refine ⟨ds,en,e1,fun vs H1 s1 r1=>?_⟩
   show spD X.K f (vs ++ []) H1 Q E0
   rw [List.append_nil]
   exact ⟨B,ds,d,(en.same s1).bad,r1,h,fun v H' s r=>k v H' (s1.trans s) r⟩
end
noncomputable def mkL (n i:Nat) (N:List Str) (G:GS):List D → Option D:=fun ds =>
 if ds.length = n then match G (dStart N ds) with
  | some (.nx δ)=>match δ[i]? with
   | some (.ow (.dct (.inl ks) es))=>some (.fn ks es)
   | _=>none
  | _=>none
 else none
theorem mkL_ok {n i:Nat} {N:List Str} {G:GS} {ds:List D} {d:D} (h:mkL n i N G ds = some d):ds.length = n ∧ ∃ δ ks es,G (dStart N ds) = some (.nx δ) ∧ δ[i]? = some (.ow (.dct (.inl ks) es)) ∧ d = .fn ks es:=by
 unfold mkL at h
 split at h
 ·rename_i hn
  split at h
  ·rename_i δ e1
   split at h
   ·rename_i ks es e2
    cases h
    exact ⟨hn,δ,ks,es,e1,e2,rfl⟩
   ·cases h
  ·cases h
 ·cases h
section
variable {P:Program} {w:World} {K:W.Frag} {mg:Str → Option Value} {base:Heap} {Pt:Addr} {q:Str}
theorem okDT {x qual:Str} {st:Stmt} {fa:Addr} {fd:FuncData} {N ps:List Str} {k:Nat} {f:List D → Option D} {G:Ds → Option Res} (F:Fun K x qual st fa fd) (S:FnScope N ps (defScope st))
  (body:∀ (cdv:Value) (A:Around) (outer:List PySem.Env) (s:Shared) (H:Hp) (E:XK),TQ H Pt q → Room k (A.deeper (envOfC qual (defScope st) s.heap.objs.size fa cdv)) → PSsD (cxOf CX0 P w K mg base N qual (defScope st) fa cdv A outer s H E).nox (defBody st) G)
  (hf:∀ ds d,f ds = some d → ds.length = ps.length ∧ (G (dStart N ds) = some (.rt d) ∨ (d = .non ∧ ∃ δ,G (dStart N ds) = some (.nx δ)) ∨ G (dStart N ds) = some (.rf d) ∧ isL d = false)) :
  FnOk P w K mg base CX0 (k + 1) fa fd ps (spT Pt q (spD K f)):=by
 refine F.ok S (fun vs H Q E ⟨_,B,ds,d,_,r,h,_⟩=>?_) (fun cdv A outer s H vs Q E hr ⟨hT,B,ds,d,hb,r,h,q⟩=>?_)
 ·rw [r.length]; exact (hf ds d h).1
 ·refine ⟨_,body cdv A outer s H E hT hr H B (dStart N ds),?_⟩
  have en:EnvS K H B H (L2.start N vs) (dStart N ds):=by
   refine ⟨Same.refl H,⟨B,fun _ z=>z,fun _ z=>.inl z,⟨?_,hb,fun i j a ds' es h1 _ _ _=>(dStart_ow h1).elim⟩⟩,fun i ds' a h1 _=>(dStart_ow h1).elim,hb⟩
   unfold L2.start dStart
   rw [r.length]
   exact Pd.app (start_rel (N:=N) r) (rep_un _)
  rcases (hf ds d h).2 with e | ⟨rfl,δ,e⟩ | ⟨e,hn⟩
  ·exact ⟨_,en,e,fun v H' s' r'=>q v H' s' r'⟩
  ·exact ⟨_,en,e,fun σ' H' en'=>q .non H' en'.same (by rw [rp_non])⟩
  ·exact ⟨_,en,e,fun p H' hp s' r'=>q _ H' s' ((r'.toO hn).rp (fun a z=>.inl z) (fun z=>hb p z hp))⟩
end
theorem nc_two {x y:Str}:∀ z ∈ [(y,NameKind.local),(x,NameKind.free)],z.2 ≠ .cell:=fun z hz=>by
 rcases List.mem_cons.mp hz with rfl | hz
 ·exact fun q=>nomatch q
 ·rw [List.mem_singleton.mp hz]
  exact fun q=>nomatch q
theorem clos_one {lsc:Scope} {x y:Str} (h:lsc.names = [(y,.local),(x,.free)]) (env:PySem.Env) (c:Addr) (hc:env.cells.lookup x = some c):closureFor lsc env = pure [(x,c)]:=by
 unfold closureFor
 rw [h]
 simp [cellOf,hc]
end DL
namespace L2
open PySem PySem.Spec PyProof.Rows DL
theorem walk_ofT {l:W.OpenLaw} {n k:Nat} {qp:Program} {loose:List Str} {XP:(Str → Option Value) → Heap → Prop} {d:DefRec} {K:Params → W.Frag} {as:List Addr} {ee:∀ P,as = (K P).map (·.1)} {Pt c0:Addr} {q:Str} {CX:CXT} {sp:W.Frag → Sp} {x:Str}
  (hn:l.most = some n) (hn2:n ≤ sizeLine) (hdf:d.params.defaults = []) (hr:Room k callerA)
  (hKP:∀ P:Params,(K P).lookup Pt = none) (hC:∀ P:Params,W.codeHdIn (K P) c0 Pt = true)
  (F:∀ (w:World) (mg:Str → Option Value) (fa:Addr) (h:Heap),(K w.params).In h → h.Ns mainGlobals mg → mg d.name = some (.ref fa) →
   ∃ fd:FuncData,(∀ (s:Shared) (u:Value),BindsTo s fd ⟨[u],[]⟩ [(x,u)]) ∧
    ∀ base:Heap,(K w.params).In base → base.Ns mainGlobals mg → W.CodeHd base c0 Pt → base.BuiltinsAt mg Pt → FnOk l.prog w (K w.params) mg base CX k fa fd [x] (spT Pt q (sp (K w.params))))
  (hsp:∀ (K:W.Frag) (H:Hp) (a:Addr) (ns:List Int),ns.length ≤ n → (∀ z ∈ ns,z.natAbs.log2 ≤ 1048576) → SqL K H a (ns.map V.int) → sp K [.ref a] H (fun v _=>v = .bl true) fun _ _ _=>False)
  (hCX:∀ (H:Hp) (s:Shared) (e:Value) (s':Shared),CX [] H s (fun _ _ _=>False) e s' → False) :
  W.WalkO qp loose XP (W.kmHook K as ee [Pt]).says l.row.toRowW d [] (fun f vs=>PySem.call f vs):=by
 refine Att.attach_callW hn hdf fun w s₀ s₁ mg mb fa o pm cd doc a vs ns G Y ho hd hcd hmg hobj hints hlen hw hg=>?_
 have KX:=W.km_in_of Y
 have hP:=W.km_tabs_of Y Pt (List.mem_singleton.mpr rfl)
 obtain ⟨fd,hb,hF⟩:=F w mg fa _ KX G.T.g hmg
 have hB:s₁.heap.BuiltinsAt mg Pt:=by
  obtain ⟨bm,ob,b1,b2,b3,b4,b5,b6⟩:=G.T.bmain
  refine ⟨bm,ob,b1,b2,fun z=>?_,fun z=>?_,b3,b4,b5,b6⟩
  ·obtain ⟨o',es,ep,e',d',_⟩:=G.T.g
   rw [z,e'] at b3
   cases b3
   rw [d'] at b6
   cases b6
  ·rw [z,hP] at b3
   cases b3
   cases b4
 exact law_callT KX G.T.g G.T.b G.T.builtins G.T.nolimit hg hobj hints (Nat.le_trans hlen hn2) hr hP (hKP _) (W.codeHd_of_K KX (hC _)) hB hF hb (fun H hS=>hsp (K w.params) H a ns hlen hw hS) fun H e s'=>hCX H s₁ e s'
end L2
namespace XC
open PySem
noncomputable def stillNames:List Str:=["__class__", "__getattribute__", "__getattr__"]
noncomputable abbrev bmV:List Value:=[.type "ValueError",.type "Exception",.type "BaseException",.type "object"]
inductive Row (h:Heap):List Value → Prop
 | end:Row h bmV
 | own {C:Addr} {cls:Value} {dd:Option Addr} {cd:ClassData} {sl:Array (Option Value)} {m:Str → Option Value} {tl:List Value} :
   h.get? C = some { cls:=cls,dict:=dd,data:=.cls cd,slots:=sl } → h.Ns cd.ns m → (∀ n ∈ stillNames,m n = none) → Row h tl → Row h (.ref C :: tl)
structure Cl (h:Heap) (C:Addr) (tl:List Value):Prop where
 obj:∃ (nm q:Str) (N:Addr) (bs:List Value) (hdct:Bool) (sn:List Str) (sub:List Value) (ab:Bool) (col:Option Bool) (dd:Option Addr) (k0 k1 k2 k3 k5:Option Value) (newId:String),
  h.get? C = some (excClassObj nm q C N bs tl hdct sn sub ab col dd k0 k1 k2 k3 k5 newId)
 row:Row h (.ref C :: tl)
theorem Row.has {h:Heap} {tl:List Value} (r:Row h tl) {T:String} {b:Bool} (hb:bmV.contains (.type T) = b):tl.contains (.type T) = b:=by
 induction r with
 | «end»=>exact hb
 | own _ _ _ _ ih=>rw [List.contains_cons,ih]; rfl
section
variable {prog:Program} {w:World} {A:Around} {E:Value → Shared → Prop} {h:Heap} {g:Array GenState} {d:Drawn} {t:Nat} {os:OsState} {a C:Addr} {o:Obj} {tl:List Value}
theorem Row.along {M:Model} {n:Str} {y:Option Value} {Q:Option Value → Shared → Prop} (hn:n ∈ stillNames) (hy:lookupAlong bmV n = pure y) (hq:Q y ⟨h,g,d,t,os⟩) (r:Row h tl):wpAny M A (lookupAlong tl n) Q E ⟨h,g,d,t,os⟩:=by
 induction r with
 | «end»=>rw [hy]; exact wpAny_pure hq
 | own h1 h2 h3 _ ih =>
  rw [lookupAlong_cons]
  refine wpAny_bind (wpAny_classOwn_cls h1 h2 ?_)
  rw [h3 n hn]
  exact ih
theorem Cl.look {M:Model} {n:Str} {y:Option Value} {Q:Option Value → Shared → Prop} (c:Cl h C tl) (hn:n ∈ stillNames) (hy:typeLookup (.type "ValueError") n = pure y) (hq:Q y ⟨h,g,d,t,os⟩):wpAny M A (typeLookup (.ref C) n) Q E ⟨h,g,d,t,os⟩:=by
 obtain ⟨nm,q,N,bs,hdct,sn,sub,ab,col,dd,k0,k1,k2,k3,k5,newId,hC⟩:=c.obj
 have hy':lookupAlong bmV n = pure y:=by
  rw [typeLookup_eq,F.excBase_ValueError.mroIs] at hy
  exact hy
 rw [typeLookup_eq]
 exact wpAny_bind (wpAny_mroOf_exc hC (c.row.along hn hy' hq))
theorem Cl.sub {M:Model} {v:Value} {Q:Bool → Shared → Prop} (c:Cl h C tl) (hq:Q ((Value.ref C :: tl).contains v) ⟨h,g,d,t,os⟩):wpAny M A (isSubtype (.ref C) v) Q E ⟨h,g,d,t,os⟩:=by
 obtain ⟨nm,q,N,bs,hdct,sn,sub,ab,col,dd,k0,k1,k2,k3,k5,newId,hC⟩:=c.obj
 exact wpAny_isSubtype_exc hC hq
theorem Cl.isT (c:Cl h C tl):(⟨h,g,d,t,os⟩:Shared).TypeIs (.ref C) "type" := by
 obtain ⟨nm,q,N,bs,hdct,sn,sub,ab,col,dd,k0,k1,k2,k3,k5,newId,hC⟩:=c.obj
 exact ⟨_,hC,rfl⟩
theorem Cl.hasT (c:Cl h C tl) {T:String} {b:Bool} (hb:bmV.contains (.type T) = b):(Value.ref C :: tl).contains (.type T) = b:=c.row.has hb
theorem lk_class:typeLookup (.type "ValueError") "__class__" = pure (some (.builtin "object.__class__")):=by rw [typeLookup_type,builtinLookup_eq_fast]; kernel_rfl
theorem n1:("__class__" : Str) ∈ stillNames:=.head _
theorem n2:("__getattribute__" : Str) ∈ stillNames:=.tail _ (.head _)
theorem n3:("__getattr__" : Str) ∈ stillNames:=.tail _ (.tail _ (.head _))
theorem get_class {R:Result → Shared → Prop} (c:Cl h C tl) (hx:h.get? a = some o) (hc:o.cls = .ref C) (hq:R (.ok (.ret (.ref C))) ⟨h,g,d,t,os⟩) :
  codeAny (model prog w) A (.call (.builtin "getset_descriptor.__get__") ⟨[.builtin "object.__class__",.ref a,.ref C],[]⟩) R ⟨h,g,d,t,os⟩:=by
 have ty:(⟨h,g,d,t,os⟩:Shared).TypeIs (.builtin "object.__class__") "getset_descriptor" := F.typeOf_object_class
 have hob:(Value.ref C :: tl).contains (.type (".".intercalate ("object.__class__".cutAt '.').dropLast)) = true:=by rw [F.owner_object_class]; exact c.hasT (by decide +kernel)
 refine codeAny_call_builtin F.slot_gs_get.plain F.entry_gs_get (F.slot_gs_get.check _ _ _ _ _ _ _ _ ty (F.args_gs_get _ _ _) ?_)
 repeat (any_goals (first | with_reducible assumption | (with_reducible refine wpAny_loadPart_at hx ?_; rw [hc]) | (with_reducible refine c.sub ?_; rw [hob]) | wp_step))
 refine ⟨Code.quiet_builtin _ (by decide +kernel),codeAny_builtin F.entry_object_class ?_⟩
 unfold Builtin.«object.__class__»
 repeat (any_goals (first | with_reducible assumption | (with_reducible refine wpAny_loadPart_at hx ?_; rw [hc]) | wp_step))
theorem ent_class {tk:Tok} {Q:Fin → Shared → Prop} (c:Cl h C tl) (hx:h.get? a = some o) (hc:o.cls = .ref C) (hq:Q (.done (.ret (.ref C))) ⟨h,g,d,t,os⟩) :
  wpAny (model prog w) A (Builtin.«object.__getattribute__» ⟨[.ref a,.str "__class__" tk],[]⟩) Q E ⟨h,g,d,t,os⟩:=by
 have ty:(⟨h,g,d,t,os⟩:Shared).TypeIs (.builtin "object.__class__") "getset_descriptor" := F.typeOf_object_class
 have f5:=F.typeOf_object_class
 have f6:=F.slot_gs_get.lookup
 have f7:=F.slot_gs_set.lookup
 repeat (any_goals (first | with_reducible assumption | (with_reducible refine wpAny_loadPart_at hx ?_; rw [hc]) | with_reducible refine c.look n1 lk_class ?_ | wp_step))
 refine get_class c hx hc ?_
 repeat (any_goals (first | with_reducible assumption | wp_step))
theorem chk_class {M:Model} {v:Value} {Q:Unit → Shared → Prop} (c:Cl h C tl) (hx:h.get? a = some o) (hc:o.cls = .ref C) (hq:Q () ⟨h,g,d,t,os⟩):wpAny M A (checkBuiltinCall "BaseException.__getattribute__" ⟨[.ref a,v],[]⟩) Q E ⟨h,g,d,t,os⟩:=by
 have k1:builtinKind "BaseException.__getattribute__" = some .slot:=by decide +kernel
 have k2:splitId "BaseException.__getattribute__" = some ("BaseException", "__getattribute__"):=by decide +kernel
 have k3:(Value.ref C :: tl).contains (.type "BaseException") = true:=c.hasT (by decide +kernel)
 have k4:=F.args_bexc_ga (.ref a) v
 simp only [checkBuiltinCall,k1,k2]
 refine wpAny_bind ?_
 unfold isInstance
 repeat (first | (with_reducible refine wpAny_loadPart_at hx ?_; rw [hc]) | (with_reducible refine c.sub ?_; rw [k3]) | wp_step)
 exact hq
theorem call_class {tk:Tok} {R:Result → Shared → Prop} (c:Cl h C tl) (hx:h.get? a = some o) (hc:o.cls = .ref C) (hq:R (.ok (.ret (.ref C))) ⟨h,g,d,t,os⟩) :
  codeAny (model prog w) A (.call (.builtin "BaseException.__getattribute__") ⟨[.ref a,.str "__class__" tk],[]⟩) R ⟨h,g,d,t,os⟩ :=
 codeAny_call_builtin F.attr_ValueError.ga.plain F.entry_bexc_ga (chk_class c hx hc (ent_class c hx hc hq))
theorem by_class {tk:Tok} {fill expr:Bool} {Q:Value → Shared → Prop} (c:Cl h C tl) (hx:h.get? a = some o) (hc:o.cls = .ref C) (hq:Q (.ref C) ⟨h,g,d,t,os⟩) :
  wpAny (model prog w) A (getAttrBy (.ref a) (.str "__class__" tk) fill expr) Q E ⟨h,g,d,t,os⟩:=by
 have f3:=F.attr_ValueError.ga.bind (.ref a)
 have z0:(expr && onTheHeap (Value.builtin "BaseException.__getattribute__")) = false:=by cases expr <;> rfl
 have z2:(Value.builtin "BaseException.__getattribute__" == Value.builtin "object.__getattribute__") = false:=by decide +kernel
 have z1:(onTheHeap (Value.ref C) && Value.builtin "BaseException.__getattribute__" == Value.builtin "object.__getattribute__") = false:=by rw [z2]; rfl
 repeat (any_goals (first | with_reducible assumption | (with_reducible refine wpAny_loadPart_at hx ?_; rw [hc]) | with_reducible refine c.look n2 F.attr_ValueError.ga.lookup ?_ | with_reducible refine c.look n3 F.attrBase_ValueError.noGetattr ?_ | wp_step))
 refine call_class c hx hc ?_
 repeat (any_goals (first | with_reducible assumption | wp_step))
theorem attr_class {Q:Option Value → Shared → Prop} (c:Cl h C tl) (hx:h.get? a = some o) (hc:o.cls = .ref C) (hq:Q (some (.ref C)) ⟨h,g,d,t + 1,os⟩):wpAny (model prog w) A (getAttr? (.ref a) "__class__") Q E ⟨h,g,d,t,os⟩:=by
 unfold getAttr? getAttrBy?
 repeat (any_goals (first | with_reducible assumption | with_reducible apply by_class c hx hc | wp_step))
end
section
variable {prog:Program} {w:World} {A:Around} {E:Value → Shared → Prop} {h:Heap} {g:Array GenState} {d:Drawn} {t:Nat} {os:OsState} {a C W:Addr} {o:Obj} {tl tw:List Value}
theorem self_has:(Value.ref C :: tl).contains (.ref C) = true:=by simp
theorem nest_own {dep:Int} {tk:Tok} {Q:Fin → Shared → Prop} (c:Cl h C tl) (cw:Cl h W tw) (hx:h.get? a = some o) (hc:o.cls = .ref C)
  (hq:∀ t',Q (.done (.ret (.bool ((Value.ref C :: tl).contains (.ref W))))) ⟨h,g,d,t',os⟩) :
  wpAny (model prog w) A (Builtin.«isinstance.nested» ⟨[.ref a,.ref W,.int dep tk],[]⟩) Q E ⟨h,g,d,t,os⟩:=by
 obtain ⟨nmW,qW,NW,bsW,hdctW,snW,subW,abW,colW,ddW,k0W,k1W,k2W,k3W,k5W,newIdW,hWo⟩:=cw.obj
 obtain ⟨nmC,qC,NC,bsC,hdctC,snC,subC,abC,colC,ddC,k0C,k1C,k2C,k3C,k5C,newIdC,hCo⟩:=c.obj
 have hW:=cw.isT (g:=g) (d:=d) (t:=t) (os:=os)
 have hW1:=cw.isT (g:=g) (d:=d) (t:=t + 1) (os:=os)
 have hC1:=c.isT (g:=g) (d:=d) (t:=t + 1) (os:=os)
 by_cases e:C = W
 ·subst e
  rw [self_has] at hq
  have z:=hq t
  have s1:(Value.ref C == Value.ref C) = true:=by simp
  repeat (any_goals (first | with_reducible assumption | (with_reducible refine wpAny_loadPart_at hx ?_; rw [hc]) | wp_step))
 ·have s1:(Value.ref C == Value.ref W) = false:=by simp [e]
  cases hb:(Value.ref C :: tl).contains (.ref W) with
  | true =>
   rw [hb] at hq
   have z:=hq t
   repeat (any_goals (first | with_reducible assumption | (with_reducible refine wpAny_loadPart_at hx ?_; rw [hc]) | with_reducible refine wpAny_loadPart_at hWo ?_ | with_reducible refine wpAny_loadPart_at hCo ?_ | (with_reducible refine c.sub ?_; rw [hb]) | wp_step))
  | false =>
   rw [hb] at hq
   have z:=hq (t + 1)
   repeat (any_goals (first | with_reducible assumption | (with_reducible refine wpAny_loadPart_at hx ?_; rw [hc]) | with_reducible refine wpAny_loadPart_at hWo ?_ | with_reducible refine wpAny_loadPart_at hCo ?_ | (with_reducible refine c.sub ?_; rw [hb]) | with_reducible apply attr_class c hx hc | wp_step))
theorem nest_type {T:String} {b:Bool} {dep:Int} {tk:Tok} {Q:Fin → Shared → Prop} (c:Cl h C tl) (hx:h.get? a = some o) (hc:o.cls = .ref C) (hty:typeOf (.type T) = pure (.type "type")) (hT:bmV.contains (.type T) = b)
  (hq:∀ t',Q (.done (.ret (.bool b))) ⟨h,g,d,t',os⟩) :
  wpAny (model prog w) A (Builtin.«isinstance.nested» ⟨[.ref a,.type T,.int dep tk],[]⟩) Q E ⟨h,g,d,t,os⟩:=by
 obtain ⟨nmC,qC,NC,bsC,hdctC,snC,subC,abC,colC,ddC,k0C,k1C,k2C,k3C,k5C,newIdC,hCo⟩:=c.obj
 have hC1:=c.isT (g:=g) (d:=d) (t:=t + 1) (os:=os)
 have s1:(Value.ref C == Value.type T) = false:=by simp
 have hb:=c.hasT hT
 cases b with
 | true =>
  have z:=hq t
  repeat (any_goals (first | with_reducible assumption | (with_reducible refine wpAny_loadPart_at hx ?_; rw [hc]) | with_reducible refine wpAny_loadPart_at hCo ?_ | (with_reducible refine c.sub ?_; rw [hb]) | wp_step))
 | false =>
  have z:=hq (t + 1)
  repeat (any_goals (first | with_reducible assumption | (with_reducible refine wpAny_loadPart_at hx ?_; rw [hc]) | with_reducible refine wpAny_loadPart_at hCo ?_ | (with_reducible refine c.sub ?_; rw [hb]) | with_reducible apply attr_class c hx hc | wp_step))
end
section
variable {prog:Program} {w:World} {A:Around} {E:Value → Shared → Prop} {s:Shared} {a C W:Addr} {o:Obj} {tl tw:List Value}
theorem isi_own {Q:Value → Shared → Prop} (c:Cl s.heap C tl) (cw:Cl s.heap W tw) (hx:s.heap.get? a = some o) (hc:o.cls = .ref C)
  (hq:∀ t',Q (.bool ((Value.ref C :: tl).contains (.ref W))) { s with toks:=t' }):wpAny (model prog w) A (call (.builtin "isinstance") [.ref a,.ref W]) Q E s:=by
 refine call_isinstance (S:=fun _ R s'=>s' = s ∧ ∀ t',R (.ok (.ret (.bool ((Value.ref C :: tl).contains (.ref W))))) { s with toks:=t' }) (fun P' w' A' R s' hs=>?_) ⟨rfl,hq⟩
 obtain ⟨rfl,hr⟩:=hs
 obtain ⟨h,g,d,t,os⟩:=s'
 exact isinstance_outer (nest_own c cw hx hc fun t'=>hr t') (by intro e; cases e)
theorem isi_type {T:String} {b:Bool} {Q:Value → Shared → Prop} (c:Cl s.heap C tl) (hx:s.heap.get? a = some o) (hc:o.cls = .ref C) (hty:typeOf (.type T) = pure (.type "type")) (hT:bmV.contains (.type T) = b)
  (hq:∀ t',Q (.bool b) { s with toks:=t' }):wpAny (model prog w) A (call (.builtin "isinstance") [.ref a,.type T]) Q E s:=by
 refine call_isinstance (S:=fun _ R s'=>s' = s ∧ ∀ t',R (.ok (.ret (.bool b))) { s with toks:=t' }) (fun P' w' A' R s' hs=>?_) ⟨rfl,hq⟩
 obtain ⟨rfl,hr⟩:=hs
 obtain ⟨h,g,d,t,os⟩:=s'
 exact isinstance_outer (nest_type c hx hc hty hT fun t'=>hr t') (by intro e; cases e)
noncomputable def OwnsAll (h:Heap):List Addr → Prop
 | []=>True
 | W :: Ws=>(∃ tw,Cl h W tw) ∧ OwnsAll h Ws
theorem ans_own {h:Heap} (c:Cl h C tl) (hx:h.get? a = some o) (hc:o.cls = .ref C):∀ Ws:List Addr,OwnsAll h Ws →
  AnswersAll (fun s=>s.heap = h) (.ref a) (Ws.map Value.ref) (Ws.map fun W=>(Value.ref C :: tl).contains (.ref W))
 | [],_=>trivial
 | W :: Ws,⟨⟨tw,cw⟩,r⟩=>by
  refine ⟨fun dep tk P' w' A' R s' hs=>?_,ans_own c hx hc Ws r⟩
  obtain ⟨rfl,hr⟩:=hs
  obtain ⟨h,g,d,t,os⟩:=s'
  exact nest_own c cw hx hc fun t'=>hr t'
theorem any_map (f:Addr → Bool):∀ Ws:List Addr,((Ws.map f).any id) = Ws.any f
 | []=>rfl
 | W :: Ws=>by simp [any_map f Ws]
theorem isi_tup {Ws:List Addr} {tp:Addr} {Q:Value → Shared → Prop} (c:Cl s.heap C tl) (hw:OwnsAll s.heap Ws) (hx:s.heap.get? a = some o) (hc:o.cls = .ref C)
  (htp:PyProof.Rows.IsTup s.heap tp (Ws.map Value.ref).toArray)
  (hq:∀ t',Q (.bool (Ws.any fun W=>(Value.ref C :: tl).contains (.ref W))) { s with toks:=t' }):wpAny (model prog w) A (call (.builtin "isinstance") [.ref a,.ref tp]) Q E s:=by
 refine call_isinstance (S:=fun _ R s'=>s' = s ∧ ∀ t',R (.ok (.ret (.bool (Ws.any fun W=>(Value.ref C :: tl).contains (.ref W))))) { s with toks:=t' }) (fun P' w' A' R s' hs=>?_) ⟨rfl,hq⟩
 obtain ⟨rfl,hr⟩:=hs
 refine isinstance_outer ?_ (by intro e; cases e)
 obtain ⟨nm,q,N,bs,hdct,sn,sub,ab,col,dd,k0,k1,k2,k3,k5,newId,hCo⟩:=c.obj
 have al:=ans_own c hx hc Ws hw
 rw [← any_map] at hr
 generalize (Ws.map fun W=>(Value.ref C :: tl).contains (.ref W)) = vs at al hr
 obtain ⟨h,g,d,t,os⟩:=s'
 obtain ⟨⟨tcl,tdc,tda,tsl⟩,ht,h2,tn,h3⟩:=htp
 obtain rfl:tcl = .type "tuple" := h2
 obtain rfl:tda = .seq (Ws.map Value.ref).toArray tn:=h3
 have hT2:(⟨h,g,d,t,os⟩:Shared).TypeIs (.ref tp) "tuple" := ⟨_,ht,rfl⟩
 have f1:=F.isi_sub_tuple
 have s1:(Value.ref C == Value.ref tp) = false:=by
  have:C ≠ tp:=fun e=>by
   subst e
   rw [hCo] at ht
   exact absurd (congrArg Obj.cls (Option.some.inj ht)) (by simp)
  simp [this]
 repeat (any_goals (first | with_reducible assumption | (with_reducible refine wpAny_loadPart_at hx ?_; rw [hc]) | wp_step))
 refine wpAny_arrayLoop ?_
 simp only [Option.getD_some,List.toList_toArray]
 refine isinstance_items (P:=fun s=>s.heap = h) (dep:=0) (fun s tk e=>e) (Ws.map Value.ref) vs _ _ al rfl fun t'=>?_
 have z:=hr t'
 cases hv:vs.any id with
 | true =>
  rw [hv] at z
  simp only [if_true]
  repeat (any_goals (first | with_reducible assumption | wp_step))
 | false =>
  rw [hv] at z
  simp only [Bool.false_eq_true,if_false]
  repeat (any_goals (first | with_reducible assumption | wp_step))
theorem matches_own {h:Heap} {g:Array GenState} {d:Drawn} {t:Nat} {os:OsState} {M:Model} {Q:Bool → Shared → Prop} (c:Cl h C tl) (cw:Cl h W tw) (hx:h.get? a = some o) (hc:o.cls = .ref C)
  (hq:Q ((Value.ref C :: tl).contains (.ref W)) ⟨h,g,d,t,os⟩):wpAny M A (excMatches (.ref a) (.ref W)) Q E ⟨h,g,d,t,os⟩:=by
 obtain ⟨nmW,qW,NW,bsW,hdctW,snW,subW,abW,colW,ddW,k0W,k1W,k2W,k3W,k5W,newIdW,hWo⟩:=cw.obj
 have hB:(Value.ref W :: tw).contains (.type "BaseException") = true:=cw.hasT (by decide +kernel)
 have f:=tc_notTuple
 unfold excMatches
 repeat (first | (with_reducible refine wpAny_loadPart_at hx ?_; rw [hc]) | with_reducible refine wpAny_loadPart_at hWo ?_ | (with_reducible refine cw.sub ?_; rw [hB]) | with_reducible refine c.sub ?_ | wp_step)
 cases hb:(Value.ref C :: tl).contains (.ref W) <;> (rw [hb] at hq; wp_walk; exact hq)
end
end XC
namespace XC
open PySem PySem.W
noncomputable def rowB (K:Frag):List Value → Bool
 | []=>false
 | v :: r=>(v :: r) == bmV || match v with
  | .ref A=>(match K.lookup A with
   | some ⟨_,_,.cls cd,_⟩=>nsOkIn K cd.ns && stillNames.all (fun n=>nsIn K cd.ns n == some none) && rowB K r
   | _=>false)
  | _=>false
theorem row_of {K:Frag} {h:Heap} (X:K.In h):∀ {l:List Value},rowB K l = true → Row h l
 | [],e=>by cases e
 | v :: r,e=>by
  unfold rowB at e
  rcases Bool.or_eq_true_iff.mp e with q | q
  ·rw [beq_iff_eq.mp q]
   exact .end
  ·split at q
   ·split at q
    ·rename_i ho
     simp only [Bool.and_eq_true,List.all_eq_true,beq_iff_eq] at q
     exact .own (X _ _ ho) (.of_isNs (isNs_of_in X q.1.1)) (fun n hn=>nsMap_none_of_in X q.1.1 (q.1.2 n hn)) (row_of X q.2)
    ·cases q
   ·cases q
noncomputable def clB (K:Frag) (C:Addr) (tl:List Value):Bool:=match K.lookup C with
 | some ⟨.type "type",_,.cls cd,sl⟩=>(match sl.toList with
  | [_,_,_,_,some (.builtin _),_]=>cd.mro == .ref C :: tl && !cd.hasDel && rowB K (.ref C :: tl)
  | _=>false)
 | _=>false
theorem cl_of {K:Frag} {h:Heap} {C:Addr} {tl:List Value} (X:K.In h) (e:clB K C tl = true):Cl h C tl:=by
 unfold clB at e
 split at e
 ·rename_i dd cd sl ho
  split at e
  ·rename_i k0 k1 k2 k3 n k5 hs
   simp only [Bool.and_eq_true,beq_iff_eq,Bool.not_eq_true'] at e
   obtain ⟨⟨hm,hdel⟩,hr⟩:=e
   obtain ⟨nm,bs,mro,ns,qn,hd,sn,sub,ab,col,del⟩:=cd
   dsimp only at hm hdel
   subst hm hdel
   have hsl:sl = #[k0,k1,k2,k3,some (.builtin n),k5]:=by
    obtain ⟨l⟩:=sl
    simp only at hs
    rw [hs]
   subst hsl
   exact ⟨⟨nm,qn,ns,bs,hd,sn,sub,ab,col,dd,k0,k1,k2,k3,k5,_,X _ _ ho⟩,row_of X hr⟩
  ·cases e
 ·cases e
structure Rs (h:Heap) (C:Addr) (tl:List Value):Prop where
 obj:∃ (nm q:Str) (N:Addr) (bs:List Value) (hdct:Bool) (sn:List Str) (sub:List Value) (ab:Bool) (col:Option Bool) (dd:Option Addr) (k0 k1 k2 k3 k5:Option Value) (mN:Str → Option Value),
  h.get? C = some (excClassObj nm q C N bs tl hdct sn sub ab col dd k0 k1 k2 k3 k5 "ValueError.__new__") ∧ h.Ns N mN ∧ mN "__init__" = none ∧ OwnTail h bmV tl
noncomputable def rsB (K:Frag) (C:Addr) (tl:List Value):Bool:=match K.lookup C with
 | some ⟨.type "type",_,.cls cd,sl⟩=>(match sl.toList with
  | [_,_,_,_,some (.builtin n),_]=>cd.mro == .ref C :: tl && n == "ValueError.__new__" && !cd.hasDel && tailIn K bmV tl && nsOkIn K cd.ns && nsIn K cd.ns "__init__" == some none
  | _=>false)
 | _=>false
theorem rs_of {K:Frag} {h:Heap} {C:Addr} {tl:List Value} (X:K.In h) (e:rsB K C tl = true):Rs h C tl:=by
 unfold rsB at e
 split at e
 ·rename_i dd cd sl ho
  split at e
  ·rename_i k0 k1 k2 k3 n k5 hs
   simp only [Bool.and_eq_true,beq_iff_eq,Bool.not_eq_true'] at e
   obtain ⟨⟨⟨⟨⟨hm,rfl⟩,hdel⟩,ht⟩,hok⟩,hni⟩:=e
   obtain ⟨nm,bs,mro,ns,qn,hd,sn,sub,ab,col,del⟩:=cd
   dsimp only at hm hdel hok hni
   subst hm hdel
   have hsl:sl = #[k0,k1,k2,k3,some (.builtin "ValueError.__new__"),k5]:=by
    obtain ⟨l⟩:=sl
    simp only at hs
    rw [hs]
   subst hsl
   exact ⟨⟨nm,qn,ns,bs,hd,sn,sub,ab,col,dd,k0,k1,k2,k3,k5,_,X _ _ ho,.of_isNs (isNs_of_in X hok),nsMap_none_of_in X hok hni,tail_of_in X ht⟩⟩
  ·cases e
 ·cases e
noncomputable def oneB (K:Frag) (r:Addr) (c:Str):Bool:=match nsIn K mainGlobals c with
 | some (some (.ref C))=>clB K C (.ref r :: bmV)
 | _=>false
noncomputable def raiB (K:Frag) (r:Addr) (c:Str):Bool:=match nsIn K mainGlobals c with
 | some (some (.ref C))=>rsB K C (.ref r :: bmV)
 | _=>false
noncomputable def tabB (K:Frag) (root:Str) (cs rs:List Str):Bool:=match nsIn K mainGlobals root with
 | some (some (.ref r))=>clB K r bmV && cs.all (oneB K r) && rs.all (raiB K r) && (root :: cs).all fun c=>(root :: cs).all fun c'=>c == c' || !(nsIn K mainGlobals c == nsIn K mainGlobals c')
 | _=>false
structure At (K:Frag) (mg:Str → Option Value) (c:Str) (C:Addr) (tl:List Value):Prop where
 mg:mg c = some (.ref C)
 ns:nsIn K mainGlobals c = some (some (.ref C))
 cl:∀ h:Heap,K.In h → Cl h C tl
structure Tab (K:Frag) (mg:Str → Option Value) (root:Str) (r:Addr) (cs rs:List Str):Prop where
 top:At K mg root r bmV
 all:∀ c ∈ cs,∃ C,At K mg c C (.ref r :: bmV)
 rai:∀ c ∈ rs,∃ C,nsIn K mainGlobals c = some (some (.ref C)) ∧ ∀ h:Heap,K.In h → Rs h C (.ref r :: bmV)
 diff:∀ c ∈ root :: cs,∀ c' ∈ root :: cs,nsIn K mainGlobals c = nsIn K mainGlobals c' → c = c'
theorem tab_of {K:Frag} {h:Heap} {mg:Str → Option Value} {root:Str} {cs rs:List Str} (X:K.In h) (G:h.Ns mainGlobals mg) (e:tabB K root cs rs = true):∃ r,Tab K mg root r cs rs:=by
 unfold tabB at e
 split at e
 ·rename_i r hr
  simp only [Bool.and_eq_true,List.all_eq_true] at e
  obtain ⟨⟨⟨h1,h2⟩,h3⟩,h4⟩:=e
  refine ⟨r,⟨⟨mg_of X G hr,hr,fun h X=>cl_of X h1⟩,fun c hc=>?_,fun c hc=>?_,fun c hc c' hc' q=>?_⟩⟩
  ·have q:=h2 c hc
   unfold oneB at q
   split at q
   ·rename_i C hC
    exact ⟨C,mg_of X G hC,hC,fun h X=>cl_of X q⟩
   ·cases q
  ·have q:=h3 c hc
   unfold raiB at q
   split at q
   ·rename_i C hC
    exact ⟨C,hC,fun h X=>rs_of X q⟩
   ·cases q
  ·have z:=h4 c hc c' hc'
   rw [q] at z
   simp only [beq_self_eq_true,Bool.not_true,Bool.or_false,beq_iff_eq] at z
   exact z
 ·cases e
end XC
namespace XC
open PySem
section
variable {prog:Program} {w:World} {A:Around} {E:Value → Shared → Prop} {h:Heap} {g:Array GenState} {d:Drawn} {t:Nat} {os:OsState} {C f:Addr} {tl:List Value}
end
section
variable {prog:Program} {w:World} {A:Around} {E:Value → Shared → Prop} {h:Heap} {g:Array GenState} {d:Drawn} {t:Nat} {os:OsState} {C e:Addr} {tl:List Value} {od:Option Addr}
end
end XC
namespace XC
open PySem PySem.W Builtin Builtin.ObjectAttr
section
variable {prog:Program} {w:World} {A:Around} {E:Value → Shared → Prop} {s:Shared} {K:Frag} {x C r:Addr} {cd:ClassData} {R:Result → Shared → Prop}
end
end XC
namespace L2
open PySem
noncomputable def Lie (ok:Addr → Prop) (h:Heap) (C:Value) (od:Option Addr) (e:Addr):Prop:=∃ oe vs,h.get? e = some oe ∧ oe.cls = C ∧ oe.dict = od ∧ oe.data = .fields vs ∧ 1 < vs.size ∧ ok e ∧
 (vs[1]? = some .none ∨ ∃ T oT ts,vs[1]? = some (.ref T) ∧ T ≠ e ∧ ok T ∧ h.get? T = some oT ∧ oT.data = .fields ts ∧ ts[3]? = some .none)
structure Noted (ok:Addr → Prop) (F:List Addr) (h h':Heap):Prop where
 keep:∀ b o,h.get? b = some o → ¬ ok b → b ∉ F → h'.get? b = some o
 slot:∀ b o,h.get? b = some o → ¬ ok b → ∃ sl,h'.get? b = some { o with slots:=sl }
 there:∀ b o,h.get? b = some o → ∃ o',h'.get? b = some o'
section
variable {M:Model} {A:Around} {E:Value → Shared → Prop} {s:Shared}
theorem noteOne {base:Heap} {ok:Addr → Prop} {env:Env} {outer:List Env} {L e:Addr} {oe:Obj} {vs:Array Value} {head:Value} {hadNext:Bool} {Q:Unit → Shared → Prop}
  (hfr:A.frames = some (env :: outer)) (hl:s.heap.FunFrames base (env :: outer)) (hf:env.frame = some L) (he:s.heap.get? e = some oe) (hd:oe.data = .fields vs) (hsz:1 < vs.size) (oke:ok e)
  (new:∀ b,s.heap.objs.size ≤ b → ok b)
  (h:∀ h',Noted ok ((env :: outer).filterMap (·.frame)) s.heap h' → Lie ok h' oe.cls oe.dict e → Q () { s with heap:=h' }) :
  wpAny M A (do let a ← frameOf env; let pl ← entryPlaceOf L hadNext; let b ← EntryCells.newEntry head a .none (rawInt L) .none pl; setField (.ref e) 1 b) (fun _ s'=>wpAny M A (setFlight (.ref e) none) Q E s') E s:=by
 have off:e ∉ (env :: outer).filterMap (·.frame):=fun z=>by
  obtain ⟨_,o,q,n⟩:=hl.mem z
  rw [he] at q
  cases q
  exact n vs hd
 refine wpAny_bind (wpAny_frameOf_fun hfr hl hf fun g sl=>wpAny_bind (wpAny_entryPlaceOf fun pl hp=>?_))
 unfold EntryCells.newEntry newFields
 refine wpAny_bind (wpAny_newObj_type ?_ (hp.sizeOk5 _ _ _ _ _))
 obtain ⟨ar,har⟩:∃ ar,ar = ([head,.ref L,.none,rawInt L,.none] ++ (if pl.isEmpty then List.replicate 6 Value.none else pl)).toArray:=⟨_,rfl⟩
 have sz5:3 < ar.size:=by rw [har]; simp only [List.size_toArray,List.length_append,List.length_cons,List.length_nil]; omega
 rw [← har]
 have ge:g.get? e = some oe:=(sl.2.1 e off).trans he
 have nT:g.objs.size ≠ e:=Nat.ne_of_gt (Heap.lt_size ge)
 have pe:=Heap.get?_push_of_some (h:=g) { cls:=.type "traceback",dict:=none,data:=.fields ar } ge
 refine wpAny_setField pe hd hsz ?_
 have d3:=Obj.data_mapFields hd (·.setIfInBounds 1 (Value.ref g.objs.size))
 have e3:=Heap.get?_update_self (Obj.mapFields (·.setIfInBounds 1 (Value.ref g.objs.size))) pe (Obj.isFreed_of_fields d3)
 have t3:=(Heap.get?_update_other (g.push { cls:=.type "traceback",dict:=none,data:=.fields ar }) (Obj.mapFields (·.setIfInBounds 1 (Value.ref g.objs.size))) (Ne.symm nT)).trans (Heap.get?_push_size g rfl)
 unfold setFlight
 refine wpAny_bind (wpAny_field e3 d3 (x:=.ref g.objs.size) (by simp [hsz]) ?_)
 rw [if_pos (by simp)]
 refine wpAny_setField t3 rfl sz5 (h _ ?_ ?_)
 ·have oth:∀ b o,g.get? b = some o → b ≠ e → (((g.push { cls:=.type "traceback",dict:=none,data:=.fields ar }).update e (Obj.mapFields (·.setIfInBounds 1 (Value.ref g.objs.size)))).update g.objs.size (Obj.mapFields (·.setIfInBounds 3 ((none:Option Addr).elim Value.none fun f=>rawInt f)))).get? b = some o:=fun b o q n=>by
   rw [Heap.get?_update_other _ _ (Nat.ne_of_gt (Heap.lt_size q)),Heap.get?_update_other _ _ (Ne.symm n)]
   exact Heap.get?_push_of_some _ q
  refine ⟨fun b o q n1 n2=>oth b o ((sl.2.1 b n2).trans q) (fun z=>n1 (z ▸ oke)),fun b o q n1=>?_,fun b o q=>?_⟩
  ·obtain ⟨x,hx⟩:=sl.2.2 b o q
   exact ⟨x,oth b _ hx (fun z=>n1 (z ▸ oke))⟩
  ·by_cases z:b = e
   ·subst z
    rw [Heap.get?_update_other _ _ nT]
    exact ⟨_,e3⟩
   ·obtain ⟨x,hx⟩:=sl.2.2 b o q
    exact ⟨_,oth b _ hx z⟩
 ·have fin:(((g.push { cls:=.type "traceback",dict:=none,data:=.fields ar }).update e (Obj.mapFields (·.setIfInBounds 1 (Value.ref g.objs.size)))).update g.objs.size (Obj.mapFields (·.setIfInBounds 3 ((none:Option Addr).elim Value.none fun f=>rawInt f)))).get? e = some (oe.mapFields (·.setIfInBounds 1 (Value.ref g.objs.size))):=by
   rw [Heap.get?_update_other _ _ nT]
   exact e3
  refine ⟨_,_,fin,Obj.cls_mapFields _ _,?_,d3,by simp [hsz],oke,.inr ⟨g.objs.size,_,_,by simp [hsz],nT,new _ (by rw [sl.1]; exact Nat.le_refl _),Heap.get?_update_self _ t3 (Obj.isFreed_of_fields (Obj.data_mapFields rfl _)),Obj.data_mapFields rfl _,?_⟩⟩
  ·obtain ⟨c,d,dt,x⟩:=oe
   cases dt <;> rfl
  ·simp [sz5]
theorem note {base:Heap} {ok:Addr → Prop} {env:Env} {outer:List Env} {L e:Addr} {C:Value} {od:Option Addr} {Q:Unit → Shared → Prop}
  (hfr:A.frames = some (env :: outer)) (hl:s.heap.FunFrames base (env :: outer)) (hf:env.frame = some L) (lie:Lie ok s.heap C od e)
  (new:∀ b,s.heap.objs.size ≤ b → ok b)
  (h:∀ h',Noted ok ((env :: outer).filterMap (·.frame)) s.heap h' → Lie ok h' C od e → Q () { s with heap:=h' }) :
  wpAny M A (noteFrame (.ref e) env) (fun _ s'=>wpAny M A (setFlight (.ref e) none) Q E s') E s:=by
 obtain ⟨oe,vs,he,rfl,rfl,hd,hsz,oke,q⟩:=lie
 unfold noteFrame
 simp only [hf]
 rcases q with q | ⟨T,oT,ts,q,nT,okT,hT,hdT,q3⟩
 ·refine wpAny_bind (wpAny_field he hd q ?_)
  rw [if_neg (by decide)]
  exact noteOne hfr hl hf he hd hsz oke new h
 ·refine wpAny_bind (wpAny_field he hd q ?_)
  rw [if_pos (by simp)]
  refine wpAny_bind (wpAny_field hT hdT q3 ?_)
  rw [if_neg (by simp [rawInt])]
  refine wpAny_bind (wpAny_setField hT hdT (Array.getElem?_eq_some_iff.mp q3).1 ?_)
  have oth:∀ b,b ≠ T → (s.heap.update T (Obj.mapFields (·.setIfInBounds 3 Value.none))).get? b = s.heap.get? b:=fun b n=>Heap.get?_update_other _ _ (Ne.symm n)
  have self:∃ o',(s.heap.update T (Obj.mapFields (·.setIfInBounds 3 Value.none))).get? T = some o':=⟨_,Heap.get?_update_self _ hT (Obj.isFreed_of_fields (Obj.data_mapFields hdT _))⟩
  have nr:∀ b o,s.heap.get? b = some o → (∀ vs,o.data ≠ .fields vs) → b ≠ T:=fun b o h1 h2 z=>by
   rw [z,hT] at h1
   cases h1
   exact h2 ts hdT
  refine noteOne hfr (hl.of_keeps fun b o h1 h2=>⟨o,(oth b (nr b o h1 h2)).trans h1,rfl⟩) hf ((oth e (Ne.symm nT)).trans he) hd hsz oke (fun b hb=>new b (by rw [Heap.size_after_update] at hb; exact hb)) fun h' nd le=>h h' ⟨fun b o h1 n1 n2=>nd.keep b o ((oth b (fun z=>n1 (z ▸ okT))).trans h1) n1 n2,fun b o h1 n1=>nd.slot b o ((oth b (fun z=>n1 (z ▸ okT))).trans h1) n1,fun b o h1=>?_⟩ le
  by_cases z:b = T
  ·obtain ⟨o',ho'⟩:=self
   exact nd.there b o' (by rw [z]; exact ho')
  ·exact nd.there b o ((oth b z).trans h1)
end
end L2
namespace L2
open PySem PySem.Spec PyProof.Rows
theorem Lie.mono {ok ok':Addr → Prop} {h:Heap} {C:Value} {od:Option Addr} {e:Addr} (q:∀ b,ok b → ok' b) (l:Lie ok h C od e):Lie ok' h C od e:=by
 obtain ⟨oe,vs,h1,h2,h3,h4,h5,h6,h7⟩:=l
 refine ⟨oe,vs,h1,h2,h3,h4,h5,q _ h6,h7.imp id ?_⟩
 rintro ⟨T,oT,ts,t1,t2,t3,t4⟩
 exact ⟨T,oT,ts,t1,t2,q _ t3,t4⟩
noncomputable def FpW (X:Cx) (pins:List (Addr × Obj)) (H:Hp) (b:Addr):Prop :=
 H b = none ∧ b ≠ X.env.locals ∧ b ∉ X.fs ∧ (b ∈ X.ex ∨ X.s₀.heap.get? b = none) ∧ (∀ x c,X.env.cells.lookup x = some c → c ≠ b) ∧ ∀ p ∈ X.pn ++ pins,p.1 ≠ b
noncomputable abbrev LieX (X:Cx) (pins:List (Addr × Obj)) (H:Hp) (h:Heap) (C:Addr) (od:Option Addr) (e:Addr):Prop:=Lie (FpW X pins H) h (.ref C) od e
section
variable {M:Model} {A:Around} {E:Value → Shared → Prop} {s:Shared}
theorem flight {ok:Addr → Prop} {C:Value} {od:Option Addr} {e:Addr} {Q:Unit → Shared → Prop} (lie:Lie ok s.heap C od e)
  (h:∀ h',Noted ok [] s.heap h' → Lie ok h' C od e → Q () { s with heap:=h' }):wpAny M A (setFlight (.ref e) none) Q E s:=by
 obtain ⟨oe,vs,he,rfl,rfl,hd,hsz,oke,q⟩:=id lie
 rcases q with q | ⟨T,oT,ts,q,nT,okT,hT,hdT,q3⟩
 ·unfold setFlight
  refine wpAny_bind (wpAny_field he hd q ?_)
  rw [if_neg (by decide)]
  exact wpAny_pure (h _ ⟨fun b o z _ _=>z,fun b o z _=>⟨o.slots,z⟩,fun b o z=>⟨o,z⟩⟩ lie)
 ·have s3:3 < ts.size:=(Array.getElem?_eq_some_iff.mp q3).1
  refine wpAny_setFlight_none he hd q hT hdT s3 (h _ ?_ ?_)
  ·have oth:∀ b o,s.heap.get? b = some o → b ≠ T → (s.heap.update T (Obj.mapFields (·.setIfInBounds 3 .none))).get? b = some o:=fun b o z n=>(Heap.get?_update_other _ _ (Ne.symm n)).trans z
   refine ⟨fun b o z n _=>oth b o z fun w=>n (w ▸ okT),fun b o z n=>⟨o.slots,oth b o z fun w=>n (w ▸ okT)⟩,fun b o z=>?_⟩
   by_cases w:b = T
   ·subst w
    exact ⟨_,Heap.get?_update_self _ hT (Obj.isFreed_of_fields (Obj.data_mapFields hdT _))⟩
   ·exact ⟨o,oth b o z w⟩
  ·refine ⟨oe,vs,(Heap.get?_update_other _ _ nT).trans he,rfl,rfl,hd,hsz,oke,.inr ⟨T,_,_,q,nT,okT,Heap.get?_update_self _ hT (Obj.isFreed_of_fields (Obj.data_mapFields hdT _)),Obj.data_mapFields hdT _,by simp [s3]⟩⟩
end
section
variable {X:Cx} {pins:List (Addr × Obj)} {σ:St} {H:Hp} {s:Shared}
theorem Inv.fpW {b:Addr} {H':Hp} (I:Inv X pins σ H s) (hb:s.heap.get? b = none) (hn:H' b = none):FpW X pins H' b:=by
 refine ⟨hn,fun z=>?_,fun z=>?_,?_,fun x c e z=>?_,fun p hp z=>?_⟩
 ·obtain ⟨m,⟨o,_,_,ho,_⟩,_⟩:=I.loc
  rw [← z,hb] at ho
  cases ho
 ·obtain ⟨_,o,ho,_⟩:=I.funs.mem z
  rw [hb] at ho
  cases ho
 ·by_cases q:b ∈ X.ex
  ·exact .inl q
  ·refine .inr ?_
   cases e:X.s₀.heap.get? b with
   | none=>rfl
   | some o =>
    obtain ⟨o',h'⟩:=I.base.there b o e q
    rw [hb] at h'
    cases h'
 ·obtain ⟨v,o,q,_⟩:=I.cell x c e
  rw [z,hb] at q
  cases q
 ·have q:=(I.pin p hp).1
  rw [z,hb] at q
  cases q
theorem Inv.dead {b:Addr} (I:Inv X pins σ H s) (hb:s.heap.get? b = none):H b = none:=by
 cases e:H b with
 | none=>rfl
 | some o =>
  have:∃ u,s.heap.get? b = some u:=by
   have z:=I.hok b o e
   clear e
   induction o with
   | lst xs=>obtain ⟨_,_,_,_,q⟩:=z; exact ⟨_,q⟩
   | tup xs=>obtain ⟨_,_,_,_,q,_⟩:=z; exact ⟨_,q⟩
   | dK kvs=>obtain ⟨_,_,_,_,_,_,_,q,_⟩:=z; exact ⟨_,q⟩
   | dT kvs=>obtain ⟨_,_,_,_,_,_,_,q,_⟩:=z; exact ⟨_,q⟩
   | set S n=>obtain ⟨_,_,_,_,q,_⟩:=z; exact ⟨_,q⟩
   | ins C dx fs=>obtain ⟨_,_,_,q,_⟩:=z; exact ⟨_,q⟩
   | own y=>exact z
   | xd fs=>obtain ⟨_,⟨_,_,_,q,_⟩,_⟩:=z; exact ⟨_,q⟩
   | rng lo hi=>obtain ⟨_,_,_,q⟩:=z; exact ⟨_,q⟩
   | frz ob u ih=>exact ⟨_,z.1⟩
   | tbl ps=>obtain ⟨_,q,_⟩:=(show TabOk H s.heap _ _ from z); exact ⟨_,q⟩
   | met f y=>exact ⟨_,z⟩
   | ext φ=>exact z.2.1
  obtain ⟨u,q⟩:=this
  rw [hb] at q
  cases q
theorem Inv.afterNote {h':Heap} {F:List Addr} (I:Inv X pins σ H s) (hF:∀ b ∈ F,b ∈ frs X.stack) (nd:Noted (FpW X pins H) F s.heap h'):Inv X pins σ H { s with heap:=h' }:=by
 have nt:∀ b u,H b = some u → ¬ FpW X pins H b:=fun b u q z=>by
  rw [z.1] at q
  cases q
 have hok:HOk X.prog X.w H h':=fun a o q=>(I.hok a o q).stay (fun b u hb e=>by
  have tr:∃ v,H b = some v:=by
   rcases hb with rfl | hb
   ·exact ⟨_,q⟩
   ·exact ⟨_,hb⟩
  obtain ⟨v,tr⟩:=tr
  exact nd.keep b u e (nt b v tr) fun z=>by
   rw [I.stkFree b (hF b z)] at tr
   cases tr) (fun _ q=>q) (fun _ _ q=>q) fun _ _ _ q=>q
 have nF:∀ b,b ≠ X.env.locals → b ∉ X.fs → b ∉ F:=fun b n1 n2 z=>(List.mem_cons.mp (I.stkSub b (hF b z))).elim n1 n2
 have up:∀ b o,X.s₀.heap.get? b = some o → b ≠ X.env.locals:=fun b o e=>Nat.ne_of_lt (Nat.lt_of_lt_of_le (Heap.lt_size e) I.ok.above)
 have old:∀ b o,X.s₀.heap.get? b = some o → b ∉ X.ex → ¬ FpW X pins H b:=fun b o e hx z=>by
  rcases z.2.2.2.1 with q | q
  ·exact hx q
  ·rw [e] at q
   cases q
 have cel:∀ x c,X.env.cells.lookup x = some c → ∀ v,s.heap.IsCell c v → h'.IsCell c v:=fun x c e v ⟨o,ho,hd⟩=>by
  obtain ⟨sl,q⟩:=nd.slot c o ho fun z=>z.2.2.2.2.1 x c e rfl
  exact ⟨_,q,hd⟩
 refine ⟨I.ok,I.os,I.bare,⟨fun b o e n hb hx=>nd.keep b o (I.base.keep b o e n hb hx) (old b o e hx) (nF b (up b o e) hb),fun b o e n hb hx=>?_,I.base.free,fun b o e hx=>?_,I.base.tups,I.base.frzs,I.base.tbls⟩,?_,fun x c e=>?_,I.free,I.freeC,fun p hp=>?_,hok,I.len⟩
 ·obtain ⟨sl,e1⟩:=I.base.slot b o e n hb hx
  obtain ⟨sl',e2⟩:=nd.slot b _ e1 (old b o e hx)
  exact ⟨sl',e2⟩
 ·obtain ⟨o',e1⟩:=I.base.there b o e hx
  exact nd.there b o' e1
 ·obtain ⟨m,⟨o,es,ep,ho,r⟩,hl⟩:=I.loc
  obtain ⟨sl,hL⟩:=nd.slot _ o ho fun z=>z.2.1 rfl
  refine ⟨m,⟨_,es,ep,hL,r⟩,fun i x v e1 e2 e3=>?_⟩
  obtain ⟨u,r,l⟩:=hl i x v e1 e2 e3
  refine ⟨u,r,?_⟩
  rcases l with l | ⟨k,c,e,z⟩
  ·exact .inl l
  ·exact .inr ⟨k,c,e,cel x c e _ z⟩
 ·obtain ⟨v,z⟩:=I.cell x c e
  exact ⟨v,cel x c e v z⟩
 ·obtain ⟨e,n,ne,nf,d⟩:=I.pin p hp
  exact ⟨nd.keep p.1 p.2 e (fun z=>z.2.2.2.2.2 p hp rfl) (nF p.1 ne nf),n,ne,nf,d⟩
theorem Inv.frame (I:Inv X pins σ H s) (st:X.stack = X.env :: X.outer):X.env.frame = some X.env.locals:=by
 rcases I.ok.stk with q | q
 ·rw [st] at q
  exact absurd (congrArg List.length q) (by simp)
 ·exact q.2
theorem Inv.noted {M:Model} {E:Value → Shared → Prop} {C e:Addr} {od:Option Addr} {Q:Unit → Shared → Prop} (I:Inv X pins σ H s) (st:X.stack = X.env :: X.outer) (lie:LieX X pins H s.heap C od e)
  (h:∀ h',Inv X pins σ H { s with heap:=h' } → LieX X pins H h' C od e → Q () { s with heap:=h' }) :
  wpAny M X.A (noteFrame (.ref e) X.env) (fun _ s1=>wpAny M X.A (setFlight (.ref e) none) Q E s1) E s:=by
 refine note (base:=X.base) (outer:=X.outer) (by rw [I.ok.frames,st]) (st ▸ I.stack) (I.frame st) lie (fun b hb=>I.fpW (Heap.get?_none_of_le hb) (I.hok.fresh hb)) fun h' nd le=>h h' (I.afterNote (fun b hb=>?_) nd) le
 rw [st]
 exact hb
theorem Inv.flown {M:Model} {A:Around} {E:Value → Shared → Prop} {C e:Addr} {od:Option Addr} {Q:Unit → Shared → Prop} (I:Inv X pins σ H s) (lie:LieX X pins H s.heap C od e)
  (h:∀ h',Inv X pins σ H { s with heap:=h' } → LieX X pins H h' C od e → Q () { s with heap:=h' }):wpAny M A (setFlight (.ref e) none) Q E s :=
 flight lie fun h' nd le=>h h' (I.afterNote (fun b hb=>by cases hb) nd) le
theorem Inv.track {a:Addr} {φ:Heap → Prop} (I:Inv X pins σ H s) (fp:FpW X pins H a) (hφ:φ s.heap) (ho:∃ o,s.heap.get? a = some o) (st:∀ h1 h2:Heap,φ h1 → (∀ o,h1.get? a = some o → h2.get? a = some o) → φ h2) :
  Inv X pins σ (upd H a (.ext φ)) s:=by
 obtain ⟨z1,z2,z3,z4,z5,z6⟩:=fp
 have oth:∀ b u,H b = some u → upd H a (.ext φ) b = some u:=fun b u q=>by rw [upd_ne (ne_of_none q z1)]; exact q
 refine ⟨I.ok,I.os,I.bare,⟨I.base.keep,I.base.slot,fun b o e n hx=>?_,I.base.there,fun b xs e=>oth b _ (I.base.tups b xs e),fun b o u e=>oth b _ (I.base.frzs b o u e),fun b ps e=>?_⟩,I.loc,I.cell,?_,fun x c e=>?_,fun p hp=>?_,fun b u q=>?_,I.len⟩
 ·have:b ≠ a:=fun w=>by
   subst w
   rcases z4 with z4 | z4
   ·exact hx z4
   ·rw [e] at z4
    cases z4
  rw [upd_ne this]
  exact I.base.free b o e n hx
 ·obtain ⟨more,q⟩:=I.base.tbls b ps e
  exact ⟨more,oth b _ q⟩
 ·rw [upd_ne (Ne.symm z2)]; exact I.free
 ·rw [upd_ne (z5 x c e)]; exact I.freeC x c e
 ·obtain ⟨e,n,r⟩:=I.pin p hp
  exact ⟨e,by rw [upd_ne (z6 p hp)]; exact n,r⟩
 ·by_cases w:b = a
  ·subst w
   rw [upd_same] at q
   cases q
   exact ⟨hφ,ho,st⟩
  ·rw [upd_ne w] at q
   exact (I.hok b u q).stay (fun _ _ _ z=>z) (fun c z=>oth c _ z) (fun c xs z=>oth c _ z) fun c _ _ z=>oth c _ z
theorem Inv.goes {M:Model} {A:Around} {E:Value → Shared → Prop} {i:Nat} {x:Str} {pos:Pos} {Q:Unit → Shared → Prop} (I:Inv X pins σ H s) (hN:X.N.Nodup) (hi:X.N[i]? = some x) (hx:X.env.scope.names.lookup x = some .local)
  (h:∀ s',Inv X pins (σ.set i none) H s' → Q () s'):wpAny M A (do bindName X.env x .none; unbindBehindTheSuite X.env x pos) Q E s:=by
 have hcls:(X.env.scope.kind == .class || (X.env.scope.kind == .module && X.env.locals != X.env.globals)) = false:=by rw [I.ok.kind]; rfl
 have hk:X.env.kindOf x = some .local:=hx
 refine wpAny_bind (wpAny_bindName (store_ok I hN hi (.inl hx) (v:=.non) (u:=.none) rfl (fun s1 I1=>?_) (.inr hx)))
 unfold unbindBehindTheSuite
 refine wpAny_onRaise ?_
 unfold unbindName
 refine wpAny_bind (wpAny_point (wpAny_bind ?_))
 unfold deleteName
 simp only [hk,hcls]
 rw [if_neg (by decide)]
 have cne:=I1.cne
 obtain ⟨m,hn,hl⟩:=id I1.loc
 have hiσ:i < σ.length:=by rw [I.len]; exact (List.getElem?_eq_some_iff.mp hi).1
 have hm:(m x).isSome = true:=by
  obtain ⟨u,_,l⟩:=hl i x .non hi (by rw [List.getElem?_set_self hiσ]) (.inl hx)
  rcases l with ⟨_,l⟩ | ⟨l,_⟩
  ·rw [l]; rfl
  ·rw [hk] at l
   rcases l with l | l <;> cases l
 refine wpAny_bind (wpAny_nsDel_keeps hn fun h' w hn' hs=>?_)
 rw [hm]
 simp only [Bool.not_true,Bool.false_eq_true,if_false]
 refine wpAny_pure (wpAny_point (h _ ?_))
 obtain ⟨oL,_,_,hoL,_⟩:=id hn
 have up:∀ b o,X.s₀.heap.get? b = some o → b ≠ X.env.locals:=fun b o e=>Nat.ne_of_lt (Nat.lt_of_lt_of_le (Heap.lt_size e) I1.ok.above)
 refine ⟨I1.ok,I1.os,I1.bare,⟨fun b o e n hb hx=>?_,fun b o e n hb hx=>?_,I1.base.free,fun b o e hx=>?_,I1.base.tups,I1.base.frzs,I1.base.tbls⟩,⟨_,hn',fun j y v' e1 e2 e3=>?_⟩,fun y c e=>?_,I1.free,I1.freeC,fun p hp=>?_,fun b u q=>?_,by simpa using I.len⟩
 ·exact (hs.2 b (up b o e)).trans (I1.base.keep b o e n hb hx)
 ·obtain ⟨sl,e1⟩:=I1.base.slot b o e n hb hx
  exact ⟨sl,(hs.2 b (up b o e)).trans e1⟩
 ·obtain ⟨o',e1⟩:=I1.base.there b o e hx
  exact ⟨o',(hs.2 b (up b o e)).trans e1⟩
 ·by_cases hj:j = i
  ·subst hj
   rw [List.getElem?_set_self hiσ] at e2
   cases e2
  ·rw [List.getElem?_set_ne (Ne.symm hj)] at e2
   obtain ⟨u',r',q⟩:=hl j y v' e1 (by rw [List.getElem?_set_ne (Ne.symm hj)]; exact e2) e3
   refine ⟨u',r',?_⟩
   rcases q with ⟨k,e⟩ | ⟨k,c,e,z⟩
   ·refine .inl ⟨k,?_⟩
    have:y ≠ x:=fun e=>hj (nodup_ix hN e1 (e ▸ hi))
    simp [this,e]
   ·exact .inr ⟨k,c,e,z.sameBut hs (cne y c e)⟩
 ·obtain ⟨w',z⟩:=I1.cell y c e
  exact ⟨w',z.sameBut hs (cne y c e)⟩
 ·obtain ⟨e,n,ne,nf,d⟩:=I1.pin p hp
  exact ⟨(hs.2 p.1 ne).trans e,n,ne,nf,d⟩
 ·refine (I1.hok b u q).stay (fun c w' hc z=>(hs.2 c ?_).trans z) (fun _ q=>q) (fun _ _ q=>q) fun _ _ _ q=>q
  rintro rfl
  rcases hc with rfl | hc
  ·rw [I1.free] at q; cases q
  ·rw [I1.free] at hc; cases hc
end
noncomputable def CXE (P:Program) (w:World):CXT:=fun outer H s E e s'=>∃ ea C od H',e = .ref ea ∧ s'.os = s.os ∧ AllBare s'.gens ∧ Un (frs outer) [] H H' s.heap s'.heap ∧ HOk P w H' s'.heap ∧
 Lie (fun b=>H' b = none ∧ s.heap.get? b = none) s'.heap (.ref C) od ea ∧ E (.ref C) od H'
noncomputable def XWish (X:Cx) (σ:St) (H:Hp) (C:Addr) (od:Option Addr):Prop:=∀ pins s e,Inv X pins σ H s → LieX X pins H s.heap C od e → X.xe (.ref e) s
section
variable {X:Cx} {k:Nat} {f C:Addr} {fd:FuncData} {ps:List Str} {sp:Sp} {dvs:List V} {ds:List Value} {x c:Str} {p pos np cpos:Pos} {e:Expr} {es:List Expr} {t:TA}
noncomputable def tCallX (X:Cx) (sp:Sp) (dvs:List V) (t:TA):TE:=fun σ H Q=>t σ H fun vs H1=>sp (vs ++ dvs) H1 Q fun c od H'=>∀ C,c = .ref C → XWish X σ H' C od
theorem pe_callX (F:FnOk X.prog X.w X.K X.mg X.base (CXE X.prog X.w) k f fd ps sp) (hr:Room k X.A) (hg:Gl X x) (hm:X.mg x = some (.ref f)) (hk:W.keepIn X.K (.ref f) = true) (hb:Binds X.K fd ps ds) (hd:Vals dvs ds)
  (ha:PA X (e :: es) t) (hdb:(x == ("__debug__" : Str)) = false:=by decide) (he:starEach (e :: es) X.env = (false,eval e X.env) :: starEach es X.env:=by rfl) (hpl:(backTo pos (starEach es X.env)).any (·.1) = false:=by rfl) :
  PE X (.Call (.Name x p) (e :: es) [] pos) (tCallX X sp dvs t):=by
 intro pins s σ H Q I h
 refine wpAny_Call_Name_kw (ld_glob I hg hm ?_ hdb)
 refine W.callWith_K (h₀:=X.base) I.ok.mod.kin hk (thn (ha pos pins s σ H _ I h) fun us s1 ⟨vs,H1,I1,r,q⟩=>⟨I1.kIn,?_⟩) he hpl
 have r2:Vals (vs ++ dvs) (us ++ ds):=r.append hd
 have hl:(us ++ ds).length = ps.length:=by rw [← r2.length]; exact F.len _ _ _ _ q
 refine wpAny_call (codeAny_mono (F.run X.A X.stack s1 H1 ⟨us,[]⟩ (us ++ ds) (vs ++ dvs) Q _ hr I1.env0 (hb s1 us I1.kIn hl) r2 q) fun r s' hq=>?_)
 cases r with
 | error ex =>
  obtain ⟨ea,C,od,H',rfl,os,bare,un,hok,lie,wish⟩:=hq
  exact wish C rfl pins s' ea (I1.call' (ch:=[]) os un hok bare fun b z=>by cases z) (lie.mono fun b z=>I1.fpW z.2 z.1)
 | ok fl =>
  cases fl with
  | ret u=>exact I1.after hq
  | next=>exact False.elim hq
  | brk=>exact False.elim hq
  | cont=>exact False.elim hq
theorem ps_raise {tl:List Value} {y:Str} {j:Nat} {cp:Pos} (hm:X.mg c = some (.ref C)) (rs:∀ h:Heap,X.K.In h → XC.Rs h C tl) (hbase:tl.contains (.type "BaseException") = true) (hc:X.calm = true) (hg:Gl X c)
  (hd:(c == ("__debug__" : Str)) = false:=by decide) (he:starEach [.Constant (.str y) j cp] X.env = [(false,eval (.Constant (.str y) j cp) X.env)]:=by rfl)
  (hbt:backTo cpos [(false,eval (.Constant (.str y) j cp) X.env)] = [(false,eval (.Constant (.str y) j cp) X.env)]:=by rfl) :
  PS X (.Raise (some (.Call (.Name c np) [.Constant (.str y) j cp] [] cpos)) none pos) (fun _ σ H=>XWish X σ H C none):=by
 intro pins s σ H D I h
 obtain ⟨nm,q,N,bs,hdct,sn,sub,ab,col,dd,k0,k1,k2,k3,k5,mN,hC,hN,hni,ht⟩:=(rs s.heap I.kIn).obj
 refine wpAny_Raise_call_subU F.excBase_ValueError (by decide +kernel) F.excBase_ValueError (bm:=tl) (C:=C) (N:=N) (nm:=nm) (q:=q) (bs:=bs) (hdct:=hdct) (sn:=sn) (sub:=sub) (ab:=ab) (col:=col) (dd:=dd) (k0:=k0) (k1:=k1) (k2:=k2) (k3:=k3) (k5:=k5) (mN:=mN) hbase (I.ok.hd hc) (by rw [he,hbt]; rfl) hni (ld_glob I hg hm ⟨rfl,?_⟩ hd)
 rw [he,hbt]
 refine Calls.evalArgs_plain (Calls.spliced_cons (Calls.Constant_str (Calls.spliced_nil ⟨rfl,by show (1:Nat) ≤ sizeLine; decide,hC,hN,ht,fun h' e hm=>?_⟩)))
 obtain ⟨t,h1,h2,h3⟩:=hm.there
 have I':Inv X pins σ H { s with heap:=h',toks:=s.toks + 1 }:=I.kept hm.keeps
 exact h pins _ e I' ⟨_,_,h1,rfl,rfl,rfl,(by show 1 < 6; decide),I.fpW hm.new (I.dead hm.new),.inl rfl⟩
end
section
variable {X:Cx} {pins:List (Addr × Obj)} {σ:St} {H:Hp} {s:Shared}
end
section
variable {X:Cx}
end
end L2
namespace DL
open PySem PySem.Spec PyProof.Rows L2
inductive DX where
 | ok (d:D) | ex (c:Str) (n:Option Int)
inductive RX where
 | ok (r:Res) | ex (c:Str) (n:Option Int) (δ:Ds)
noncomputable abbrev GZ:=Ds → Option RX
noncomputable def okZ (G:GS):GZ:=fun δ=>(G δ).map .ok
noncomputable def nilZ:GZ:=fun δ=>some (.ok (.nx δ))
noncomputable def seqZ (G1 G2:GZ):GZ:=fun δ=>match G1 δ with
 | some (.ok (.nx δ'))=>G2 δ'
 | r=>r
noncomputable def ifZ (gt:GB) (Ga Gb:GZ):GZ:=fun δ=>(gt δ).bind fun t=>if t = true then Ga δ else Gb δ
noncomputable def raiseZ (c:Str):GZ:=fun δ=>some (.ex c none δ)
noncomputable def XdX (K:W.Frag) (H₀:Hp) (B₀:BS) (H:Hp) (σ:St) (δ:Ds) (od:Option Addr):Option Int → Prop
 | none=>True
 | some k=>∃ (dx:Addr) (B:BS),od = some dx ∧ H₀ dx = none ∧ H dx = some (.xd [("at",.int k)]) ∧ (∀ a,B₀ a → B a) ∧ (∀ a,B a → B₀ a ∨ H₀ a = none) ∧ Env K H B σ δ ∧ ¬ B dx
noncomputable def XdS (H H':Hp) (od:Option Addr):Option Int → Prop
 | none=>True
 | some k=>∃ dx,od = some dx ∧ H dx = none ∧ H' dx = some (.xd [("at",.int k)])
theorem XdX.out {K:W.Frag} {H₀ H:Hp} {B₀:BS} {σ:St} {δ:Ds} {od:Option Addr} {n:Option Int} (x:XdX K H₀ B₀ H σ δ od n):XdS H₀ H od n:=by
 cases n with
 | none=>trivial
 | some k=>obtain ⟨dx,B,e,h1,h2,_⟩:=x; exact ⟨dx,e,h1,h2⟩
theorem same_dead {H H':Hp} {a:Addr} (s:Same H H') (h:H' a = none):H a = none:=by
 cases e:H a with
 | none=>rfl
 | some o=>rw [s a o e] at h; cases h
noncomputable def ResX (X:Cx) (H₀:Hp) (B₀:BS) (D:Ends):RX → Prop
 | .ok r=>ResK X.K H₀ B₀ D r
 | .ex c n δ=>∀ σ H C od,EnvS X.K H₀ B₀ H σ δ → W.nsIn X.K mainGlobals c = some (some (.ref C)) → XdX X.K H₀ B₀ H σ δ od n → XWish X σ H C od
noncomputable def tXS (X:Cx) (H₀:Hp) (B₀:BS) (δ:Ds) (G:GZ):TS:=fun D σ H=>∃ r,EnvS X.K H₀ B₀ H σ δ ∧ G δ = some r ∧ ResX X H₀ B₀ D r
structure PSX (X:Cx) (st:Stmt) (G:GZ):Prop where
 mk :: go:∀ H₀ B₀ δ,PS X st (tXS X H₀ B₀ δ G)
structure PSsX (X:Cx) (st:List Stmt) (G:GZ):Prop where
 mk :: go:∀ H₀ B₀ δ,PSs X st (tXS X H₀ B₀ δ G)
section
variable {X:Cx} {e:Expr} {st:Stmt} {rest as bs:List Stmt} {pos:Pos} {G:GS} {G1 G2 Ga Gb:GZ} {gt:GB} {gA:GA} {c:Expr}
theorem psx_of (h:PSD X st G):PSX X st (okZ G):=.mk fun H₀ B₀ δ pins s σ H D I ⟨r,en,e,k⟩=>by
 unfold okZ at e
 cases e1:G δ with
 | none=>rw [e1] at e; cases e
 | some r1 =>
  rw [e1] at e
  cases e
  exact h H₀ B₀ δ pins s σ H D I ⟨r1,en,e1,k⟩
theorem pssx_nil:PSsX X [] nilZ:=.mk fun H₀ B₀ δ pins s σ H D I ⟨r,en,e,k⟩=>by
 cases e
 exact pss_nil pins s σ H D I (k σ H en)
theorem pssx_cons (h1:PSX X st G1) (h2:PSsX X rest G2):PSsX X (st :: rest) (seqZ G1 G2):=.mk fun H₀ B₀ δ pins s σ H D I ⟨r,en,e,k⟩=>by
 unfold seqZ at e
 cases e1:G1 δ with
 | none=>rw [e1] at e; cases e
 | some r1 =>
  rw [e1] at e
  cases r1 with
  | ex c n δ'=>cases e; exact pss_cons (h1.go H₀ B₀ δ) pss_never pins s σ H D I ⟨_,en,e1,k⟩
  | ok r1 =>
   cases r1 with
   | nx δ'=>exact pss_cons (h1.go H₀ B₀ δ) (h2.go H₀ B₀ δ') pins s σ H D I ⟨_,en,e1,fun σ' H' en'=>⟨r,en',e,k⟩⟩
   | rt d=>cases e; exact pss_cons (h1.go H₀ B₀ δ) pss_never pins s σ H D I ⟨_,en,e1,k⟩
   | bk δ'=>cases e; exact pss_cons (h1.go H₀ B₀ δ) pss_never pins s σ H D I ⟨_,en,e1,k⟩
   | ct δ'=>cases e; exact pss_cons (h1.go H₀ B₀ δ) pss_never pins s σ H D I ⟨_,en,e1,k⟩
   | rf d=>cases e; exact pss_cons (h1.go H₀ B₀ δ) pss_never pins s σ H D I ⟨_,en,e1,k⟩
theorem psx_if (hc:PTD X c gt) (ha:PSsX X as Ga) (hb:PSsX X bs Gb):PSX X (.If c as bs pos) (ifZ gt Ga Gb):=.mk fun H₀ B₀ δ pins s σ H D I ⟨r,en,e1,k⟩=>by
 unfold ifZ at e1
 obtain ⟨B,b1,b2,env⟩:=en.ex
 cases e2:gt δ with
 | none=>rw [e2] at e1; cases e1
 | some t =>
  rw [e2] at e1
  refine ps_if (hc B δ) (ha.go H₀ B₀ δ) (hb.go H₀ B₀ δ) pins s σ H D I ⟨t,env,e2,fun H' s'=>?_⟩
  cases t with
  | true=>exact ⟨r,en.grow s',e1,k⟩
  | false=>exact ⟨r,en.grow s',e1,k⟩
theorem bmV_base {r:Addr}:(Value.ref r :: XC.bmV).contains (.type "BaseException") = true:=by
 rw [List.contains_cons]
 rfl
theorem psx_raise {root:Str} {r:Addr} {cs rs:List Str} {cn y:Str} {j:Nat} {np cp cpos:Pos} (T:XC.Tab X.K X.mg root r cs rs) (h1:cn ∈ rs) (h2:cn ∈ cs) (hcalm:X.calm = true:=by rfl) (hg:Gl X cn:=by rfl)
  (hd:(cn == ("__debug__" : Str)) = false:=by decide) (he:starEach [.Constant (.str y) j cp] X.env = [(false,eval (.Constant (.str y) j cp) X.env)]:=by rfl)
  (hbt:backTo cpos [(false,eval (.Constant (.str y) j cp) X.env)] = [(false,eval (.Constant (.str y) j cp) X.env)]:=by rfl) :
  PSX X (.Raise (some (.Call (.Name cn np) [.Constant (.str y) j cp] [] cpos)) none pos) (raiseZ cn):=.mk fun H₀ B₀ δ pins s σ H D I ⟨r',en,e1,k⟩=>by
 cases e1
 obtain ⟨C,at1⟩:=T.all cn h2
 obtain ⟨C',n,rsC⟩:=T.rai cn h1
 have:C' = C:=by
  have:=n.symm.trans at1.ns
  cases this
  rfl
 subst this
 exact ps_raise at1.mg rsC bmV_base hcalm hg hd he hbt pins s σ H D I (k σ H C' none en at1.ns trivial)
end
noncomputable def spX (K:W.Frag) (f:List D → Option DX):Sp:=fun vs H Q E=>∃ (B:BS) (ds:List D) (r:DX),(∀ a,B a → NB (H a)) ∧ Rps K H B ds vs ∧ f ds = some r ∧ match r with
 | .ok d=>∀ v H',Same H H' → Rp K H' B d v → Q v H'
 | .ex c n=>∀ C od H',Same H H' → W.nsIn K mainGlobals c = some (some (.ref C)) → XdS H H' od n → E (.ref C) od H'
structure FnX (P:Program) (w:World) (K:W.Frag) (mg:Str → Option Value) (base:Heap) (x:Str) (k:Nat) (ps:List Str) (f:List D → Option DX):Prop where
 ex:∃ fa fd,FnOk P w K mg base (CXE P w) k fa fd ps (spX K f) ∧ mg x = some (.ref fa) ∧ W.keepIn K (.ref fa) = true ∧ Binds K fd ps []
section
variable {X:Cx} {e:Expr} {es:List Expr} {gA:GA} {pos p px:Pos}
end
section
variable {P:Program} {w:World} {K:W.Frag} {mg:Str → Option Value} {base:Heap}
noncomputable def mkX (n:Nat) (N:List Str) (G:GZ) (ds:List D):Option DX:=if ds.length = n then (match G (dStart N ds) with
 | some (.ok (.rt d))=>some (.ok d)
 | some (.ex c n _)=>some (.ex c n)
 | _=>none) else none
theorem mkX_ok {n:Nat} {N:List Str} {G:GZ} {ds:List D} {r:DX} (h:mkX n N G ds = some r):ds.length = n ∧ ((∃ d,r = .ok d ∧ G (dStart N ds) = some (.ok (.rt d))) ∨ ∃ c n δ,r = .ex c n ∧ G (dStart N ds) = some (.ex c n δ)):=by
 unfold mkX at h
 split at h
 ·rename_i hl
  refine ⟨hl,?_⟩
  split at h
  ·rename_i e; cases h; exact .inl ⟨_,rfl,e⟩
  ·rename_i e; cases h; exact .inr ⟨_,_,_,rfl,e⟩
  ·cases h
 ·cases h
theorem mkX_rt {n:Nat} {N:List Str} {G:GZ} {ds:List D} {d:D} (hl:ds.length = n) (h:G (dStart N ds) = some (.ok (.rt d))):mkX n N G ds = some (.ok d):=by
 unfold mkX
 rw [if_pos hl,h]
theorem mkX_ex {n:Nat} {N:List Str} {G:GZ} {ds:List D} {c:Str} {m:Option Int} {δ:Ds} (hl:ds.length = n) (h:G (dStart N ds) = some (.ex c m δ)):mkX n N G ds = some (.ex c m):=by
 unfold mkX
 rw [if_pos hl,h]
theorem okX {x qual:Str} {st:Stmt} {fa:Addr} {fd:FuncData} {N ps:List Str} {k:Nat} {G:GZ} (F:Fun K x qual st fa fd) (S:FnScope N ps (defScope st))
  (body:∀ (cdv:Value) (A:Around) (outer:List PySem.Env) (s:Shared) (H:Hp) (E:XK),Room k (A.deeper (envOfC qual (defScope st) s.heap.objs.size fa cdv)) → PSsX (cxOf (CXE P w) P w K mg base N qual (defScope st) fa cdv A outer s H E) (defBody st) G) :
  FnOk P w K mg base (CXE P w) (k + 1) fa fd ps (spX K (mkX ps.length N G)):=by
 obtain ⟨oc,od,kV,doc,pm,an,cdv,ct,osl,rfl,lk,hcd⟩:=F.ex
 refine fn_of lk hcd S (fun vs H Q E ⟨B,ds,r,_,rr,h,_⟩=>by rw [rr.length]; exact (mkX_ok h).1) fun A outer s H vs Q E hr hsp=>?_
 obtain ⟨B,ds,r,hb,rr,h,q⟩:=hsp
 refine ⟨_,(body cdv A outer s H E hr).go H B (dStart N ds),?_⟩
 have en:EnvS K H B H (L2.start N vs) (dStart N ds):=by
  refine ⟨Same.refl H,⟨B,fun _ z=>z,fun _ z=>.inl z,⟨?_,hb,fun i j a ds' es h1 _ _ _=>(dStart_ow h1).elim⟩⟩,fun i ds' a h1 _=>(dStart_ow h1).elim,hb⟩
  unfold L2.start dStart
  rw [rr.length]
  exact Pd.app (start_rel (N:=N) rr) (rep_un _)
 rcases (mkX_ok h).2 with ⟨d,rfl,e⟩ | ⟨c,m,δ,rfl,e⟩
 ·exact ⟨_,en,e,fun v H' s' r'=>q v H' s' r'⟩
 ·refine ⟨_,en,e,fun σ H' C od' en' n x pins s1 ea I lie=>?_⟩
  refine wpAny_bind (I.noted rfl lie fun h' I' lie'=>?_)
  refine ⟨ea,C,od',H',rfl,I'.os,I'.bare,I'.base,I'.hok,lie'.mono fun b z=>⟨z.1,?_⟩,q C od' H' en'.same n x.out⟩
  rcases z.2.2.2.1 with y | y
  ·exact absurd (show b ∈ ([]:List Addr) from y) (by simp)
  ·exact y
end
end DL
namespace L2
open PySem PySem.Spec PyProof.Rows
section
variable {X:Cx} {pos:Pos} {tl:List Value}
theorem pe_cls {c:Str} {C:Addr} (hm:X.mg c = some (.ref C)) (hg:Gl X c) (hd:(c == ("__debug__" : Str)) = false:=by decide):PE X (.Name c pos) (tC (.ref C)):=fun pins s σ H Q I h=>ld_glob I hg hm ⟨.ref C,H,I,rfl,h⟩ hd
theorem pe_ty {x:Str} {T:String} (hm:X.mg x = none) (hv:bootBuiltins x = some (.type T)) (hg:Gl X x) (hn:x ≠ "__name__" := by decide) (hd:(x == ("__debug__" : Str)) = false:=by decide):PE X (.Name x pos) (tC (.ty T)):=fun pins s σ H Q I h=>ld_blt I hg hm hv ⟨.ty T,H,I,rfl,h⟩ hn hd
noncomputable def rIsiO (K:W.Frag) (tl:List Value):List V → Hp → VK → Prop:=fun vs H Q=>∃ a C W od,vs = [.ref a,.ref W] ∧ H a = some (.ext (DL.XcAt a C od)) ∧ (∀ h:Heap,K.In h → XC.Cl h C tl) ∧ (∃ tw,∀ h:Heap,K.In h → XC.Cl h W tw) ∧ Q (.bl ((Value.ref C :: tl).contains (.ref W))) H
theorem call_isiO:CallR X (.builtin "isinstance") (rIsiO X.K tl):=by
 intro pins s σ H xs us Q I r h
 obtain ⟨a,C,W,od,rfl,hH,cl,⟨tw,cw⟩,q⟩:=h
 cases r with
 | cons r1 r =>
  cases r with
  | cons r2 r =>
   cases r
   cases r1
   cases r2
   obtain ⟨⟨oe,h1,h2,_⟩,_,_⟩:=I.hok a _ hH
   exact XC.isi_own (cl _ I.kIn) (cw _ I.kIn) h1 h2 fun t'=>⟨.bl _,H,I.tok t',rfl,q⟩
noncomputable def rIsiV (K:W.Frag) (tl:List Value) (T:String) (b:Bool):List V → Hp → VK → Prop:=fun vs H Q=>∃ a C od,vs = [.ref a,.ty T] ∧ H a = some (.ext (DL.XcAt a C od)) ∧ (∀ h:Heap,K.In h → XC.Cl h C tl) ∧ Q (.bl b) H
theorem call_isiV {T:String} {b:Bool} (hty:typeOf (.type T) = pure (.type "type")) (hT:XC.bmV.contains (.type T) = b):CallR X (.builtin "isinstance") (rIsiV X.K tl T b):=by
 intro pins s σ H xs us Q I r h
 obtain ⟨a,C,od,rfl,hH,cl,q⟩:=h
 cases r with
 | cons r1 r =>
  cases r with
  | cons r2 r =>
   cases r
   cases r1
   cases r2
   obtain ⟨⟨oe,h1,h2,_⟩,_,_⟩:=I.hok a _ hH
   exact XC.isi_type (cl _ I.kIn) h1 h2 hty hT fun t'=>⟨.bl _,H,I.tok t',rfl,q⟩
theorem vals_refs:∀ {Ws:List Addr} {us:List Value},Vals (Ws.map V.ref) us → us = Ws.map Value.ref
 | [],_,.nil=>rfl
 | W :: Ws,_,.cons r t=>by
  cases r
  rw [vals_refs t]
  rfl
noncomputable def ownsK (K:W.Frag):List Addr → Prop
 | []=>True
 | W :: Ws=>(∃ tw,∀ h:Heap,K.In h → XC.Cl h W tw) ∧ ownsK K Ws
theorem ownsK.all {K:W.Frag} {h:Heap} (X:K.In h):∀ {Ws:List Addr},ownsK K Ws → XC.OwnsAll h Ws
 | [],_=>trivial
 | W :: Ws,⟨⟨tw,c⟩,r⟩=>⟨⟨tw,c h X⟩,ownsK.all X r⟩
noncomputable def rIsiT (K:W.Frag) (tl:List Value):List V → Hp → VK → Prop:=fun vs H Q=>∃ a C tp Ws od,vs = [.ref a,.ref tp] ∧ H a = some (.ext (DL.XcAt a C od)) ∧ H tp = some (.tup (Ws.map V.ref)) ∧ (∀ h:Heap,K.In h → XC.Cl h C tl) ∧ ownsK K Ws ∧ Q (.bl (Ws.any fun W=>(Value.ref C :: tl).contains (.ref W))) H
theorem call_isiT:CallR X (.builtin "isinstance") (rIsiT X.K tl):=by
 intro pins s σ H xs us Q I r h
 obtain ⟨a,C,tp,Ws,od,rfl,hH,hT,cl,ow,q⟩:=h
 cases r with
 | cons r1 r =>
  cases r with
  | cons r2 r =>
   cases r
   cases r1
   cases r2
   obtain ⟨⟨oe,h1,h2,_⟩,_,_⟩:=I.hok a _ hH
   obtain ⟨_,its,rv,tup⟩:=I.hok tp _ hT
   rw [vals_refs rv] at tup
   exact XC.isi_tup (cl _ I.kIn) (ow.all I.kIn) h1 h2 tup.tup fun t'=>⟨.bl _,H,I.tok t',rfl,q⟩
end
end L2
namespace DL
open PySem PySem.Spec PyProof.Rows L2
noncomputable def exI (i:Nat) (cs:List Str) (f:Str → Bool):GE:=fun δ=>match δ[i]? with
 | some (.ex c _)=>if cs.contains c = true then some (.bl (f c)) else none
 | _=>none
section
variable {X:Cx} {root:Str} {r:Addr} {cs rs:List Str} {p px pc pos:Pos} {x:Str}
theorem ex_get {K:W.Frag} {H:Hp} {B:BS} {σ:St} {δ:Ds} {i:Nat} {f:Str → Bool} {d:D} (en:Env K H B σ δ) (h:exI i cs f δ = some d) :
  ∃ c a C od,c ∈ cs ∧ d = .bl (f c) ∧ σ[i]? = some (some (.ref a)) ∧ H a = some (.ext (XcAt a C od)) ∧ W.nsIn K mainGlobals c = some (some (.ref C)):=by
 unfold exI at h
 split at h
 ·rename_i c n hδ
  split at h
  ·rename_i hc
   cases h
   obtain ⟨o,h1,a,rfl,C,od,h2,h3,h4,h5⟩:=Pd.get en.all hδ
   exact ⟨c,a,C,od,List.contains_iff_mem.mp hc,rfl,h1,h3,h4⟩
  ·cases h
 ·cases h
theorem at_same {K:W.Frag} {mg:Str → Option Value} {c:Str} {C C':Addr} {tl:List Value} (a:XC.At K mg c C tl) (n:W.nsIn K mainGlobals c = some (some (.ref C'))):C' = C:=by
 have:=n.symm.trans a.ns
 cases this
 rfl
theorem has_own {K:W.Frag} {mg:Str → Option Value} (T:XC.Tab K mg root r cs rs) (hr:root ∉ cs) {c c':Str} {C C':Addr} (h1:c ∈ cs) (h2:c' ∈ cs) (a:XC.At K mg c C (.ref r :: XC.bmV)) (a':XC.At K mg c' C' (.ref r :: XC.bmV)) :
  (Value.ref C :: Value.ref r :: XC.bmV).contains (.ref C') = decide (c = c'):=by
 by_cases e:c = c'
 ·subst e
  rw [at_same a a'.ns,decide_eq_true rfl]
  simp
 ·rw [decide_eq_false e]
  have n1:C ≠ C':=fun z=>e (T.diff c (.tail _ h1) c' (.tail _ h2) (by rw [a.ns,a'.ns,z]))
  have n2:r ≠ C':=fun z=>hr (by
   have:=T.diff root (.head _) c' (.tail _ h2) (by rw [T.top.ns,a'.ns,z])
   rw [this]
   exact h2)
  simp [Ne.symm n1,Ne.symm n2]
theorem pd_isiX (i:Nat) {c':Str} (T:XC.Tab X.K X.mg root r cs rs) (hr:root ∉ cs) (h':c' ∈ cs) (hm:X.mg "isinstance" = none) (hi:X.N[i]? = some x:=by rfl) (hgi:Gl X "isinstance" := by rfl) (hgc:Gl X c':=by rfl)
  (hv:Vis X.env.scope x:=by first | exact Or.inl rfl | exact Or.inr (Or.inl rfl) | exact Or.inr (Or.inr rfl)) (hd:(x == ("__debug__" : Str)) = false:=by decide) (hcd:(x == ("__classdict__" : Str)) = false:=by decide) (hdc:(c' == ("__debug__" : Str)) = false:=by decide)
  (s1:starEach [.Name c' pc] X.env = [(false,eval (.Name c' pc) X.env)]:=by rfl) (s2:starEach [.Name x px,.Name c' pc] X.env = (false,eval (.Name x px) X.env) :: starEach [.Name c' pc] X.env:=by rfl) (hpl:(backTo pos (starEach [.Name c' pc] X.env)).any (·.1) = false:=by rfl) :
  PD X (.Call (.Name "isinstance" p) [.Name x px,.Name c' pc] [] pos) (exI i cs fun c=>decide (c = c')):=.mk fun B δ=>by
 obtain ⟨C',a'⟩:=T.all c' h'
 refine (pe_callB (call_isiO (tl:=.ref r :: XC.bmV)) hgi hm boot_isinstance (pa_cons (pe_var hi hv hd hcd) (pa_cons (pe_cls a'.mg hgc hdc) pa_nil s1) s2) (by decide) (by decide) s2 hpl).imp fun σ H Q ⟨d,en,h,k⟩=>?_
 obtain ⟨c,a,C,od,hc,rfl,h1,h2,h3⟩:=ex_get en h
 obtain ⟨C2,a2⟩:=T.all c hc
 obtain rfl:=at_same a2 h3
 refine ⟨.ref a,h1,a,C,C',od,rfl,h2,a2.cl,⟨_,a'.cl⟩,?_⟩
 rw [has_own T hr hc h' a2 a']
 exact k _ _ (Same.refl _) (by rw [rp_bl])
theorem pd_isiV (i:Nat) {y:Str} {Tn:String} {b:Bool} (T:XC.Tab X.K X.mg root r cs rs) (hy:bootBuiltins y = some (.type Tn)) (hty:typeOf (.type Tn) = pure (.type "type")) (hT:XC.bmV.contains (.type Tn) = b) (hm:X.mg "isinstance" = none) (hmy:X.mg y = none) (hi:X.N[i]? = some x:=by rfl) (hgi:Gl X "isinstance" := by rfl) (hgc:Gl X y:=by rfl)
  (hv:Vis X.env.scope x:=by first | exact Or.inl rfl | exact Or.inr (Or.inl rfl) | exact Or.inr (Or.inr rfl)) (hd:(x == ("__debug__" : Str)) = false:=by decide) (hcd:(x == ("__classdict__" : Str)) = false:=by decide) (hdc:(y == ("__debug__" : Str)) = false:=by decide) (hny:y ≠ "__name__" := by decide)
  (s1:starEach [.Name y pc] X.env = [(false,eval (.Name y pc) X.env)]:=by rfl) (s2:starEach [.Name x px,.Name y pc] X.env = (false,eval (.Name x px) X.env) :: starEach [.Name y pc] X.env:=by rfl) (hpl:(backTo pos (starEach [.Name y pc] X.env)).any (·.1) = false:=by rfl) :
  PD X (.Call (.Name "isinstance" p) [.Name x px,.Name y pc] [] pos) (exI i cs fun _=>b):=.mk fun B δ=>by
 refine (pe_callB (call_isiV (tl:=.ref r :: XC.bmV) hty hT) hgi hm boot_isinstance (pa_cons (pe_var hi hv hd hcd) (pa_cons (pe_ty hmy hy hgc hny hdc) pa_nil s1) s2) (by decide) (by decide) s2 hpl).imp fun σ H Q ⟨d,en,h,k⟩=>?_
 obtain ⟨c,a,C,od,hc,rfl,h1,h2,h3⟩:=ex_get en h
 obtain ⟨C2,a2⟩:=T.all c hc
 obtain rfl:=at_same a2 h3
 exact ⟨.ref a,h1,a,C,od,rfl,h2,a2.cl,k _ _ (Same.refl _) (by rw [rp_bl])⟩
end
end DL
namespace L2
open PySem PySem.Spec PyProof.Rows
noncomputable abbrev Cx.body (X:Cx) (pn:List (Addr × Obj)) (xe:Value → Shared → Prop):Cx:={ X with pn:=pn,xe:=xe }
noncomputable abbrev Cx.hand (X:Cx) (A:Around):Cx:={ X with A:=A,calm:=false,xe:=fun _ _=>False }
section
variable {X:Cx} {pins pins':List (Addr × Obj)} {σ:St} {H:Hp} {s:Shared} {W:Value → Shared → Prop} {A:Around}
theorem Cx.Ok.body (o:X.Ok) {pn:List (Addr × Obj)}:(X.body pn W).Ok:=⟨o.mod,o.kind,o.glob,o.blt,o.above,o.inj,o.has,o.cab,o.hd,o.frames,o.stk,o.exf,o.bs,o.bsz,o.noex,o.exfs,o.funs,o.frf⟩
theorem Cx.Ok.unbody {pn:List (Addr × Obj)} (o:(X.body pn W).Ok):X.Ok:=⟨o.mod,o.kind,o.glob,o.blt,o.above,o.inj,o.has,o.cab,o.hd,o.frames,o.stk,o.exf,o.bs,o.bsz,o.noex,o.exfs,o.funs,o.frf⟩
theorem Inv.toBody (I:Inv X pins σ H s):Inv (X.body (X.pn ++ pins) W) [] σ H s:=⟨I.ok.body,I.os,I.bare,I.base,I.loc,I.cell,I.free,I.freeC,fun p hp=>I.pin p (by simpa using hp),I.hok,I.len⟩
theorem Inv.ofBody (I:Inv (X.body (X.pn ++ pins) W) pins' σ H s):Inv X pins σ H s:=⟨I.ok.unbody,I.os,I.bare,I.base,I.loc,I.cell,I.free,I.freeC,fun p hp=>I.pin p (List.mem_append_left _ hp),I.hok,I.len⟩
theorem FpW.ofBody {b:Addr} (f:FpW (X.body (X.pn ++ pins) W) pins' H b):FpW X pins H b:=⟨f.1,f.2.1,f.2.2.1,f.2.2.2.1,f.2.2.2.2.1,fun p hp=>f.2.2.2.2.2 p (List.mem_append_left _ hp)⟩
theorem Cx.Ok.hand (o:X.Ok) (hf:A.frames = X.A.frames):(X.hand A).Ok:=⟨o.mod,o.kind,o.glob,o.blt,o.above,o.inj,o.has,o.cab,(fun z=>by cases z),hf.trans o.frames,o.stk,o.exf,o.bs,o.bsz,o.noex,o.exfs,o.funs,o.frf⟩
theorem Inv.toHand (I:Inv X pins σ H s) (hf:A.frames = X.A.frames):Inv (X.hand A) pins σ H s:=⟨I.ok.hand hf,I.os,I.bare,I.base,I.loc,I.cell,I.free,I.freeC,I.pin,I.hok,I.len⟩
theorem Inv.ofHand {σ':St} {H':Hp} {s':Shared} (I:Inv (X.hand A) pins σ H s) (J:Inv X pins σ' H' s'):Inv X pins σ H s:=⟨J.ok,I.os,I.bare,I.base,I.loc,I.cell,I.free,I.freeC,I.pin,I.hok,I.len⟩
end
end L2
namespace DL
open PySem PySem.Spec PyProof.Rows L2
section
variable {K:W.Frag} {H₀ H:Hp} {B₀ B:BS} {σ:St} {δ:Ds} {i:Nat} {a C:Addr} {c:Str}
theorem not_ow {s:Sl} {j:Nat} {d:D} (hs:∀ d,s ≠ .ow d) (h:(δ.set i s)[j]? = some (.ow d)):j ≠ i:=by
 rintro rfl
 by_cases hl:j < δ.length
 ·rw [List.getElem?_set_self hl] at h
  cases h
  exact hs _ rfl
 ·rw [List.getElem?_eq_none (by simpa using hl)] at h
  cases h
theorem Env.setSl {o:Option V} {s:Sl} (e:Env K H B σ δ) (hs:∀ d,s ≠ .ow d) (r:SlR K H B o s):Env K H B (σ.set i o) (δ.set i s):=by
 refine ⟨Pd.set r i e.all,e.bad,fun j k b ds es h1 h2 h3 h4=>?_⟩
 have hj:=not_ow hs h1
 have hk:=not_ow hs h2
 rw [List.getElem?_set_ne (Ne.symm hj)] at h1 h3
 rw [List.getElem?_set_ne (Ne.symm hk)] at h2 h4
 exact e.own j k b ds es h1 h2 h3 h4
theorem EnvS.setSl {o:Option V} {s:Sl} (e:EnvS K H₀ B₀ H σ δ) (hs:∀ d,s ≠ .ow d) (r:∀ B,Env K H B σ δ → SlR K H B o s):EnvS K H₀ B₀ H (σ.set i o) (δ.set i s):=by
 obtain ⟨B,b1,b2,en⟩:=e.ex
 refine ⟨e.same,⟨B,b1,b2,en.setSl hs (r B en)⟩,fun j ds b h1 h2=>?_,e.b0⟩
 have hj:=not_ow hs h1
 rw [List.getElem?_set_ne (Ne.symm hj)] at h1 h2
 exact e.fr j ds b h1 h2
theorem xdB {od:Option Addr} {n:Option Int} (e:EnvS K H₀ B₀ H σ δ) (x:XdX K H₀ B₀ H σ δ od n):∃ B,(∀ a,B₀ a → B a) ∧ (∀ a,B a → B₀ a ∨ H₀ a = none) ∧ Env K H B σ δ ∧ XdAt H B od n:=by
 cases n with
 | none =>
  obtain ⟨B,b1,b2,en⟩:=e.ex
  exact ⟨B,b1,b2,en,trivial⟩
 | some k =>
  obtain ⟨dx,B,h1,h2,h3,b1,b2,en,nb⟩:=x
  exact ⟨B,b1,b2,en,dx,h1,nb,h3⟩
theorem EnvS.setEx {od:Option Addr} {m:Option Int} (e:EnvS K H₀ B₀ H σ δ) (x:XdX K H₀ B₀ H σ δ od m) (hH:H a = none) (n:W.nsIn K mainGlobals c = some (some (.ref C))):EnvS K H₀ B₀ (upd H a (.ext (XcAt a C od))) (σ.set i (some (.ref a))) (δ.set i (.ex c m)):=by
 obtain ⟨B,b1,b2,en,xd⟩:=xdB e x
 have nb:¬ B a:=fun z=>en.bad a z hH
 have en':Env K (upd H a (.ext (XcAt a C od))) B σ δ:=en.same (same_upd hH)
 have xd':XdAt (upd H a (.ext (XcAt a C od))) B od m:=by
  cases m with
  | none=>trivial
  | some k =>
   obtain ⟨dx,h1,h2,h3⟩:=xd
   exact ⟨dx,h1,h2,by rw [upd_ne (ne_of_none h3 hH)]; exact h3⟩
 refine ⟨e.same.trans (same_upd hH),⟨B,b1,b2,en'.setSl (fun d z=>nomatch z) ⟨a,rfl,C,od,nb,upd_same,n,xd'⟩⟩,fun j ds b h1 h2=>?_,e.b0⟩
 have hj:=not_ow (s:=.ex c m) (fun d z=>nomatch z) h1
 rw [List.getElem?_set_ne (Ne.symm hj)] at h1 h2
 exact e.fr j ds b h1 h2
end
noncomputable def tryD (cs:List Str) (i:Nat) (Gb:GZ) (Gh:GS):GS:=fun δ=>match Gb δ with
 | some (.ok (.nx δ'))=>some (.nx δ')
 | some (.ex c n δ')=>if cs.contains c = true then (match Gh (δ'.set i (.ex c n)) with
  | some (.nx δ'')=>some (.nx (δ''.set i .un))
  | _=>none) else none
 | _=>none
section
variable {X:Cx} {root x:Str} {r:Addr} {cs rs:List Str} {body suite:List Stmt} {b₀:Stmt} {np hp pos:Pos} {Gb:GZ} {Gh:GS}
theorem has_root {C:Addr}:(Value.ref C :: Value.ref r :: XC.bmV).contains (.ref r) = true:=by simp
set_option maxHeartbeats 0 in
theorem psd_try (i:Nat) (T:XC.Tab X.K X.mg root r cs rs) (hb:∀ pn xe,PSsX (X.body pn xe) body Gb) (hh:∀ e:Addr,PSsD (X.hand (X.A.mark (some (.ref e)))) (b₀ :: suite) Gh) (hN:X.N.Nodup) (st:X.stack = X.env :: X.outer:=by rfl)
  (hi:X.N[i]? = some x:=by rfl) (hx:X.env.scope.names.lookup x = some .local:=by rfl) (hg:Gl X root:=by rfl) (hdb:(root == ("__debug__" : Str)) = false:=by decide) :
  PSD X (.Try body [.ExceptHandler (some (.Name root np)) (some x) (b₀ :: suite) hp] [] [] pos) (tryD cs i Gb Gh):=.mk fun H₀ B₀ δ pins s σ H D I ⟨res,en,e,k⟩=>by
 refine wpAny_Try_except ?_
 obtain ⟨W,hW⟩:∃ W:Value → Shared → Prop,W = fun e s₁=>wpAny (model X.prog X.w) X.A (noteFrame e X.env) (fun _ s₂=>wpAny (model X.prog X.w) X.A (setFlight e none) (fun _ s₃=>wpAny (model X.prog X.w) X.A (handleBy e X.env [.ExceptHandler (some (.Name root np)) (some x) (b₀ :: suite) hp]) (SP X pins D) X.xe s₃) X.xe s₂) X.xe s₁:=⟨_,rfl⟩
 rw [← hW]
 have I1:Inv (X.body (X.pn ++ pins) W) [] σ H s:=I.toBody
 unfold tryD at e
 cases e1:Gb δ with
 | none=>rw [e1] at e; cases e
 | some rx =>
  rw [e1] at e
  have run:∀ D1:Ends,ResX (X.body (X.pn ++ pins) W) H₀ B₀ D1 rx → wpAny (model X.prog X.w) X.A (execs body X.env) (SP (X.body (X.pn ++ pins) W) [] D1) W s:=fun D1 k1=>(hb (X.pn ++ pins) W).go H₀ B₀ δ [] s σ H D1 I1 ⟨rx,en,e1,k1⟩
  cases rx with
  | ok r1 =>
   cases r1 with
   | nx δ' =>
    cases e
    refine wpAny_mono (run { nx:=D.nx,rt:=fun _ _=>False } k) (fun f s1 q=>?_) (fun _ _ z=>z)
    cases f with
    | next =>
     obtain ⟨σ',H',I',q⟩:=q
     exact pss_nil pins s1 σ' H' D I'.ofBody q
    | ret v=>obtain ⟨_,_,_,_,_,z⟩:=q; exact z.elim
    | brk=>obtain ⟨_,_,_,z⟩:=q; exact z.elim
    | cont=>obtain ⟨_,_,_,z⟩:=q; exact z.elim
   | rt d=>cases e
   | bk δ'=>cases e
   | ct δ'=>cases e
   | rf d=>cases e
  | ex c m δ' =>
   simp only [] at e
   split at e
   ·rename_i hc
    have hc:=List.contains_iff_mem.mp hc
    split at e
    ·rename_i δ'' e2
     cases e
     refine wpAny_mono (run { nx:=fun _ _=>False,rt:=fun _ _=>False } fun σ' H' C od en' n xx pins' s1 ea I' lie'=>?_) (fun f s1 q=>?_) (fun _ _ z=>z)
     ·show W (.ref ea) s1
      rw [hW]
      have I2:Inv X pins σ' H' s1:=I'.ofBody
      have lie2:LieX X pins H' s1.heap C od ea:=lie'.mono fun b z=>z.ofBody
      refine I2.noted st lie2 fun h2 I3 lie3=>?_
      obtain ⟨C2,a2⟩:=T.all c hc
      obtain rfl:=at_same a2 n
      obtain ⟨oe,vs,he,hcls,_⟩:=id lie3
      have I4:Inv (X.hand (X.A.mark (some (.ref ea)))) pins σ' H' { s1 with heap:=h2 }:=I3.toHand rfl
      refine wpAny_handleBy_cons (codeAny_handlers_test (ld_glob I4 hg T.top.mg (XC.matches_own (h:=h2) (a2.cl _ I4.kIn) (T.top.cl _ I4.kIn) he hcls ?_) hdb)) (by intro q; cases q)
      rw [has_root]
      refine codeAny_handlers_suite_as (I4.flown (C:=C) (od:=od) lie3 fun h5 I5 lie5=>?_)
      obtain ⟨oe5,vs5,he5,hcls5,hdc5,hd5,_,fp5,_⟩:=id lie5
      have I6:Inv (X.hand (X.A.mark (some (.ref ea)))) pins σ' (upd H' ea (.ext (XcAt ea C od))) { s1 with heap:=h5 }:=I5.track fp5 ⟨oe5,he5,hcls5,fun dx z=>hdc5.trans z,vs5,hd5⟩ ⟨oe5,he5⟩ fun g1 g2 ⟨o,q1,q2,q3⟩ q=>⟨o,q o q1,q2,q3⟩
      refine store_ok (X:=X.hand (X.A.mark (some (.ref ea)))) I6 hN hi (.inl hx) (v:=.ref ea) rfl (fun s7 I7=>?_) (.inr hx)
      refine wpAny_mono ((hh ea).go H₀ B₀ (δ'.set i (.ex c m)) pins s7 _ _ { nx:=fun σ H=>EnvS X.K H₀ B₀ H σ δ'',rt:=fun _ _=>False } I7 ⟨.nx δ'',en'.setEx xx fp5.1 n,e2,fun _ _ z=>z⟩) (fun f s8 q=>?_) (fun _ _ z=>z.elim)
      cases f with
      | next =>
       obtain ⟨σ8,H8,I8,en8⟩:=q
       exact (I8.ofHand I2).goes hN hi hx fun s9 I9=>⟨_,H8,I9,k _ _ (en8.setSl (fun d z=>nomatch z) fun _ _=>trivial)⟩
      | ret v=>obtain ⟨_,_,_,_,_,z⟩:=q; exact z.elim
      | brk=>obtain ⟨_,_,_,z⟩:=q; exact z.elim
      | cont=>obtain ⟨_,_,_,z⟩:=q; exact z.elim
     ·cases f with
      | next=>obtain ⟨_,_,_,z⟩:=q; exact z.elim
      | ret v=>obtain ⟨_,_,_,_,_,z⟩:=q; exact z.elim
      | brk=>obtain ⟨_,_,_,z⟩:=q; exact z.elim
      | cont=>obtain ⟨_,_,_,z⟩:=q; exact z.elim
    ·cases e
   ·cases e
end
theorem ty_ValueError:typeOf (.type "ValueError") = pure (.type "type"):=W.kitMeta_of (by decide +kernel)
structure PCl (X:Cx) (r:Addr) (cs:List Str) (es:List Expr) (ns:List Str):Prop where
 ex:∃ Cs:List Addr,PA X es (fun _ H Q=>Q (Cs.map V.ref) H) ∧ Paired (fun (C:Addr) (n:Str)=>n ∈ cs ∧ XC.At X.K X.mg n C (.ref r :: XC.bmV)) Cs ns
section
variable {X:Cx} {root:Str} {r:Addr} {cs rs:List Str} {p px pc tp pos:Pos} {x:Str} {es:List Expr} {ns:List Str}
theorem pcl_nil:PCl X r cs [] []:=⟨[],pa_nil,.nil⟩
theorem pcl_cons {c':Str} (T:XC.Tab X.K X.mg root r cs rs) (h':c' ∈ cs) (h:PCl X r cs es ns) (hg:Gl X c':=by rfl) (hd:(c' == ("__debug__" : Str)) = false:=by decide) (hs:starEach (.Name c' pc :: es) X.env = (false,eval (.Name c' pc) X.env) :: starEach es X.env:=by rfl) :
  PCl X r cs (.Name c' pc :: es) (c' :: ns):=by
 obtain ⟨Cs,ha,hp⟩:=h.ex
 obtain ⟨C',a'⟩:=T.all c' h'
 exact ⟨C' :: Cs,pa_cons (pe_cls a'.mg hg hd) ha hs,.cons ⟨h',a'⟩ hp⟩
theorem owns_of {K:W.Frag} {mg:Str → Option Value}:∀ {Cs:List Addr} {ns:List Str},Paired (fun (C:Addr) (n:Str)=>n ∈ cs ∧ XC.At K mg n C (.ref r :: XC.bmV)) Cs ns → ownsK K Cs
 | _,_,.nil=>trivial
 | _,_,.cons h t=>⟨⟨_,h.2.cl⟩,owns_of t⟩
theorem any_own {K:W.Frag} {mg:Str → Option Value} (T:XC.Tab K mg root r cs rs) (hr:root ∉ cs) {c:Str} {C:Addr} (h1:c ∈ cs) (a:XC.At K mg c C (.ref r :: XC.bmV)):∀ {Cs:List Addr} {ns:List Str},Paired (fun (C:Addr) (n:Str)=>n ∈ cs ∧ XC.At K mg n C (.ref r :: XC.bmV)) Cs ns →
  (Cs.any fun W=>(Value.ref C :: Value.ref r :: XC.bmV).contains (.ref W)) = ns.any fun n=>decide (c = n)
 | _,_,.nil=>rfl
 | _,_,.cons h t=>by rw [List.any_cons,List.any_cons,any_own T hr h1 a t,has_own T hr h1 h.1 a h.2]
theorem pd_isiXs (i:Nat) {x1:Nat} (T:XC.Tab X.K X.mg root r cs rs) (hr:root ∉ cs) (hcl:PCl X r cs es ns) (hlen:es.length ≤ 100) (hm:X.mg "isinstance" = none) (hi:X.N[i]? = some x:=by rfl) (hgi:Gl X "isinstance" := by rfl)
  (hv:Vis X.env.scope x:=by first | exact Or.inl rfl | exact Or.inr (Or.inl rfl) | exact Or.inr (Or.inr rfl)) (hd:(x == ("__debug__" : Str)) = false:=by decide) (hcd:(x == ("__classdict__" : Str)) = false:=by decide)
  (s1:starEach [.Tuple es x1 tp] X.env = [(false,eval (.Tuple es x1 tp) X.env)]:=by rfl) (s2:starEach [.Name x px,.Tuple es x1 tp] X.env = (false,eval (.Name x px) X.env) :: starEach [.Tuple es x1 tp] X.env:=by rfl) (hpl:(backTo pos (starEach [.Tuple es x1 tp] X.env)).any (·.1) = false:=by rfl)
  (hl:ns.length ≤ 100:=by decide) :
  PD X (.Call (.Name "isinstance" p) [.Name x px,.Tuple es x1 tp] [] pos) (exI i cs fun c=>ns.any fun n=>decide (c = n)):=.mk fun B δ=>by
 obtain ⟨Cs,ha,hp⟩:=hcl.ex
 refine (pe_callB (call_isiT (tl:=.ref r :: XC.bmV)) hgi hm boot_isinstance (pa_cons (pe_var hi hv hd hcd) (pa_cons (pe_tup ha) pa_nil s1) s2) (by decide) (by decide) s2 hpl).imp fun σ H Q ⟨d,en,h,k⟩=>?_
 obtain ⟨c,a,C,od,hc,rfl,h1,h2,h3⟩:=ex_get en h
 obtain ⟨C2,a2⟩:=T.all c hc
 obtain rfl:=at_same a2 h3
 have hz:(1000:Nat) ≤ sizeLine:=by decide
 refine ⟨.ref a,h1,by rw [List.length_map,Pd.len hp]; omega,fun q hq=>⟨a,C,q,Cs,od,rfl,?_,upd_same,a2.cl,owns_of hp,?_⟩⟩
 ·rw [upd_ne (ne_of_none h2 hq)]
  exact h2
 ·rw [any_own T hr hc a2 hp]
  exact k _ _ (same_upd hq) (by rw [rp_bl])
end
end DL
namespace XC
open PySem PySem.W
section
variable {prog:Program} {w:World} {A:Around} {E:Value → Shared → Prop} {h:Heap} {g:Array GenState} {d:Drawn} {t:Nat} {os:OsState} {a C:Addr} {o:Obj} {tl:List Value} {K:Frag} {od:Option Obj} {f:Str} {v:Value}
end
end XC
namespace L2
open PySem PySem.Spec PyProof.Rows
section
variable {X:Cx} {pins:List (Addr × Obj)} {σ:St} {H:Hp} {s:Shared} {A:Around} {E:Value → Shared → Prop}
end
end L2
namespace DL
open PySem PySem.Spec PyProof.Rows L2
section
variable {X:Cx} {px pos:Pos} {x:Str}
end
section
variable {X:Cx} {tg:Expr} {body:List Stmt} {pos:Pos} {G:GZ}
end
end DL
namespace XC
open PySem PySem.W
end XC
namespace DL
open PySem PySem.Spec PyProof.Rows L2
noncomputable def okPart (f:List D → Option DX) (ds:List D):Option D:=match f ds with
 | some (.ok d)=>some d
 | _=>none
theorem okPart_some {f:List D → Option DX} {ds:List D} {d:D} (h:okPart f ds = some d):f ds = some (.ok d):=by
 unfold okPart at h
 split at h
 ·rename_i e; cases h; exact e
 ·cases h
theorem okPart_of {f:List D → Option DX} {ds:List D} {d:D} (h:f ds = some (.ok d)):okPart f ds = some d:=by
 unfold okPart
 rw [h]
section
variable {P:Program} {w:World} {K:W.Frag} {mg:Str → Option Value} {base:Heap}
theorem plainX {k:Nat} {fa:Addr} {fd:FuncData} {ps:List Str} {f:List D → Option DX} (F:FnOk P w K mg base (CXE P w) k fa fd ps (spX K f)):FnOk P w K mg base CX0 k fa fd ps (spD K (okPart f)):=by
 have cv:∀ {vs H Q E},spD K (okPart f) vs H Q E → spX K f vs H Q (fun _ _ _=>False):=fun {vs H Q E} ⟨B,ds,d,hb,r,h,q⟩=>⟨B,ds,.ok d,hb,r,okPart_some h,q⟩
 refine ⟨fun vs H Q E h=>F.len vs H Q _ (cv h),fun A outer s H args us vs Q E hr e0 hb r sp=>codeAny_mono (F.run A outer s H args us vs Q _ hr e0 hb r (cv sp)) fun r s' hq=>?_⟩
 cases r with
 | error ex =>
  obtain ⟨_,_,_,_,_,_,_,_,_,_,z⟩:=hq
  exact z.elim
 | ok fl =>
  cases fl with
  | ret u=>exact hq
  | next=>exact hq
  | brk=>exact hq
  | cont=>exact hq
theorem FnX.plain {x:Str} {k:Nat} {ps:List Str} {f:List D → Option DX} (C:FnX P w K mg base x k ps f):FnD P w K mg base x k ps (okPart f):=by
 obtain ⟨fa,fd,F,h⟩:=C.ex
 exact ⟨fa,fd,plainX F,h⟩
end
end DL
namespace L2
open PySem PySem.Spec PyProof.Rows
section
variable {X:Cx}
end
end L2
namespace DL
open PySem PySem.Spec PyProof.Rows L2
@[simp] noncomputable def tup3 (i j k:Nat):D → Ds → Option Ds
 | .tup [a,b,c],δ=>some (((δ.set i (.sh a)).set j (.sh b)).set k (.sh c))
 | _,_=>none
section
variable {X:Cx} {o e e0:Expr} {g g0:GE} {gA:GA} {x:Str} {px p0 apos cpos pos:Pos}
theorem pgd_tup3 (i j k:Nat) {y z:Str} {p2 p3 p4:Pos} {kk} (hN:X.N.Nodup) (hij:i ≠ j ∧ i ≠ k ∧ j ≠ k) (hc:X.calm = true:=by rfl) (hi:X.N[i]? = some x:=by rfl) (hj:X.N[j]? = some y:=by rfl) (hk:X.N[k]? = some z:=by rfl)
  (hx:Loc X.env.scope x:=by first | exact Or.inl rfl | exact Or.inr rfl) (hy:Loc X.env.scope y:=by first | exact Or.inl rfl | exact Or.inr rfl) (hz:Loc X.env.scope z:=by first | exact Or.inl rfl | exact Or.inr rfl)
  (hf:X.fn x = true ∨ X.env.scope.names.lookup x = some .local:=by first | exact .inl rfl | exact .inr rfl | assumption) (hf2:X.fn y = true ∨ X.env.scope.names.lookup y = some .local:=by first | exact .inl rfl | exact .inr rfl | assumption) (hf3:X.fn z = true ∨ X.env.scope.names.lookup z = some .local:=by first | exact .inl rfl | exact .inr rfl | assumption)
  (hs1:(assignEach [.Name x p2,.Name y p3,.Name z p4] X.env).map (·.2) = assign (.Name x p2) X.env :: (assignEach [.Name y p3,.Name z p4] X.env).map (·.2):=by rfl) (hs2:(assignEach [.Name y p3,.Name z p4] X.env).map (·.2) = assign (.Name y p3) X.env :: (assignEach [.Name z p4] X.env).map (·.2):=by rfl) (hs3:(assignEach [.Name z p4] X.env).map (·.2) = assign (.Name z p4) X.env :: (assignEach [] X.env).map (·.2):=by rfl)
  (hn:(assignEach [.Name x p2,.Name y p3,.Name z p4] X.env).length = 3:=by rfl) (hst:(assignEach [.Name x p2,.Name y p3,.Name z p4] X.env).findIdx? (·.1) = none:=by rfl) :
  PGD X (.Tuple [.Name x p2,.Name y p3,.Name z p4] kk pos) [i,j,k] (tup3 i j k):=.mk fun B d δ=>(pg_tup hc (pgs_cons (pg_name (i:=i) hN hi hx hf) (pgs_cons (pg_name (i:=j) hN hj hy hf2) (pgs_cons (pg_name (i:=k) hN hk hz hf3) pgs_nil hs3) hs2) hs1) hn hst).imp fun v σ H Q ⟨δ',r,en,e1,kq⟩=>by
 unfold tup3 at e1
 split at e1
 ·rename_i da db dc
  cases e1
  rw [rp_tup] at r
  obtain ⟨p,xs,rfl,hq,rs⟩:=r
  rw [rps_cons] at rs
  obtain ⟨va,t1,rfl,ra,rs⟩:=rs
  rw [rps_cons] at rs
  obtain ⟨vb,t2,rfl,rb,rs⟩:=rs
  rw [rps_cons] at rs
  obtain ⟨vc,t3,rfl,rc,rs⟩:=rs
  rw [rps_nil] at rs
  subst rs
  refine ⟨p,_,rfl,hq.to,rfl,va,[vb,vc],rfl,vb,[vc],rfl,vc,[],rfl,rfl,kq _ ?_ (((en.set i ra).set j rb).set k rc)⟩
  refine ⟨by simp,fun q hq=>?_,fun q hq ds h=>?_⟩
  ·have h1:q ≠ i:=fun z=>hq (by rw [z]; exact List.mem_cons_self)
   have h2:q ≠ j:=fun z=>hq (by rw [z]; exact List.mem_cons_of_mem _ List.mem_cons_self)
   have h3:q ≠ k:=fun z=>hq (by rw [z]; exact List.mem_cons_of_mem _ (List.mem_cons_of_mem _ List.mem_cons_self))
   rw [List.getElem?_set_ne (Ne.symm h3),List.getElem?_set_ne (Ne.symm h2),List.getElem?_set_ne (Ne.symm h1),List.getElem?_set_ne (Ne.symm h3),List.getElem?_set_ne (Ne.symm h2),List.getElem?_set_ne (Ne.symm h1)]
   exact ⟨rfl,rfl⟩
  ·rcases get_set h with ⟨rfl,e3,_⟩ | ⟨n1,e3⟩
   ·cases e3
   ·rcases get_set e3 with ⟨rfl,e4,_⟩ | ⟨n2,e4⟩
    ·cases e4
    ·rcases get_set e4 with ⟨rfl,e5,_⟩ | ⟨n3,e5⟩
     ·cases e5
     ·simp at hq
      rcases hq with z | z | z
      ·exact n3 z.symm
      ·exact n2 z.symm
      ·exact n1 z.symm
 ·cases e1
end
end DL
namespace L2
open PySem PySem.Spec PyProof.Rows
section
variable {X:Cx} {pins:List (Addr × Obj)} {σ:List (Option V)} {A:Around} {E:Value → Shared → Prop}
end
end L2
namespace DL
open PySem PySem.Spec PyProof.Rows L2
section
variable {K:W.Frag} {H:Hp} {B:BS}
end
section
variable {X:Cx} {e:Expr} {pos p:Pos} {g:Ds → Option D}
end
end DL
namespace DL
open PySem
end DL
namespace L2
open PySem PySem.Spec PyProof.Rows PySem.W
section
variable {X:Cx} {pins:List (Addr × Obj)} {σ:List (Option V)} {A:Around} {E:Value → Shared → Prop} {s:Shared} {H:Hp} {d:Addr} {kvs:List (Key × V)} {ys:List Str}
end
end L2
namespace L2
open PySem PySem.Spec PyProof.Rows
end L2
namespace DL
open PySem PySem.Spec PyProof.Rows L2
section
variable {X:Cx} {e:Expr} {pos p:Pos} {g:Ds → Option D}
end
end DL
namespace L2
open PySem PySem.Spec PyProof.Rows
open AutoSeq1 (wpAny_loadPart')
section
variable {prog:Program} {w:World} {A:Around} {E:Value → Shared → Prop} {s:Shared}
end
section
variable {X:Cx} {elts:List Expr} {x1:Nat} {tpos:Pos}
end
end L2
namespace DL
open PySem PySem.Spec PyProof.Rows L2
section
variable {X:Cx} {a:Expr} {gA:Ds → Option (List D)} {elts:List Expr} {x1:Nat} {tpos p pos:Pos}
end
noncomputable def cpX (i j:Nat):GS:=fun δ=>match δ[j]? with
 | some (.ex c n)=>some (.nx (δ.set i (.ex c n)))
 | _=>none
section
variable {X:Cx} {a0 e:Expr} {es:List Expr} {g0:GE} {gA:GA} {pos posg p pg px:Pos}
theorem psd_cpX (i j:Nat) {y x:Str} (hN:X.N.Nodup) (hj:X.N[j]? = some x:=by rfl) (hi:X.N[i]? = some y:=by rfl) (hx:Loc X.env.scope y:=by first | exact Or.inl rfl | exact Or.inr rfl) (hf:X.fn y = true ∨ X.env.scope.names.lookup y = some .local:=by first | exact .inl rfl | exact .inr rfl | assumption)
  (hv:Vis X.env.scope x:=by first | exact Or.inl rfl | exact Or.inr (Or.inl rfl) | exact Or.inr (Or.inr rfl)) (hd:(x == ("__debug__" : Str)) = false:=by decide) (hcd:(x == ("__classdict__" : Str)) = false:=by decide)
  {ap:Pos} (hs:swapsWithSole [.Name y px] (.Name x p) ap.line X.env = pure false:=by rfl) (hw:swappedStores [.Name y px] (.Name x p) X.env = pure none:=by rfl)
  (h1:(assignEach [.Name y px] X.env).map (·.2) = [assign (.Name y px) X.env]:=by rfl) :
  PSD X (.Assign [.Name y px] (.Name x p) ap) (cpX i j):=.mk fun H₀ B₀ δ pins s σ H D I ⟨r,en,e1,k⟩=>by
 unfold cpX at e1
 split at e1
 ·rename_i c n hδ
  cases e1
  obtain ⟨B,b1,b2,env⟩:=en.ex
  obtain ⟨o,ho,a,rfl,xc⟩:=Pd.get env.all hδ
  refine ps_asg (pe_var (i:=j) hj hv hd hcd) (pg_name (i:=i) hN hi hx hf) hs hw h1 pins s σ H D I ⟨.ref a,ho,?_⟩
  exact k _ H (en.setSl (fun d z=>nomatch z) fun B' env'=>by
   obtain ⟨o',ho',a',e',xc'⟩:=Pd.get env'.all hδ
   rw [ho] at ho'
   cases ho'
   cases e'
   exact ⟨a,rfl,xc'⟩)
 ·cases e1
end
section
variable {X:Cx} {root c0:Str} {r:Addr} {cs rs:List Str} {body suite:List Stmt} {b₀:Stmt} {np hp pos:Pos} {Gb:GZ} {Gh:GS}
end
section
variable {X:Cx} {o e f:Expr} {g:GE} {apos cpos:Pos}
end
end DL
namespace L2
open PySem PySem.Spec PyProof.Rows
open AutoSeq1 (wpAny_loadPart')
section
variable {prog:Program} {w:World} {A:Around} {E:Value → Shared → Prop} {s:Shared} {z TI TO i1 i2 l1 l2:Addr} {k1 k2:Nat} {xs ys:Array Value} {x y a b:Value}
end
section
variable {X:Cx} {elts:List Expr} {x1:Nat} {tpos:Pos}
end
end L2
namespace DL
open PySem PySem.Spec PyProof.Rows L2
section
variable {X:Cx} {a b:Expr} {gA:Ds → Option (List D)} {elts:List Expr} {x1:Nat} {tpos p pos:Pos}
end
end DL
namespace L2
open PySem PySem.Spec PyProof.Rows
section
variable {X:Cx}
noncomputable def rMulL (K:W.Frag):R2:=fun x y H Q=>∃ a xs k,x = .ref a ∧ y = .int k ∧ SqL K H a xs ∧ xs ≠ [] ∧ 0 ≤ k ∧ k < 2 ^ 62 ∧ xs.length * k.toNat ≤ 2 ^ 20 ∧ ∀ p,H p = none → Q (.ref p) (upd H p (.lst (List.replicate k.toNat xs).flatten))
theorem op_mulL:OpR X (binaryOp .Mult) (rMulL X.K):=by
 intro pins s σ H x y v u Q I rx ry h
 obtain ⟨a,xs,k,rfl,rfl,ha,hx,h2,h3,hz,q⟩:=h
 cases rx
 obtain ⟨t,rfl⟩:=ry
 obtain ⟨its,r1,p1,_⟩:=I.list ha
 obtain ⟨⟨cls,dd,data,sl⟩,ho,hc,n,hd⟩:=p1.isList
 simp only at hc hd
 subst hc hd
 have hl:=r1.length
 have he:its.toArray.isEmpty = false:=by
  cases its with
  | nil=>exact absurd (r1.nil_iff.mp rfl) hx
  | cons a b=>rfl
 have hlen:its.toArray.size * k.toNat ≤ 2 ^ 20:=by rw [List.size_toArray,← hl]; exact hz
 have hnew:(List.replicate (if its.toArray.isEmpty = true then 0 else k.toNat) its.toArray).foldl (· ++ ·) #[] = (List.replicate k.toNat its).flatten.toArray:=by
  rw [he]
  have:=foldl_rep its k.toNat []
  rw [List.nil_append] at this
  exact this
 have hc0:¬(!Builtin.List.listFitsIndex k) = true:=by
  have:Builtin.List.listFitsIndex k = true:=by unfold Builtin.List.listFitsIndex; simp; omega
  rw [this]; decide
 have hc1:¬its.toArray.size * k.toNat > (2 ^ 63 - 1) / 8:=by omega
 have hc2:¬Builtin.List.listTooLong (its.toArray.size * k.toNat) = true:=by
  rw [List.size_toArray] at hlen ⊢
  unfold Builtin.List.listTooLong; simp; unfold sizeLine; omega
 refine wpAny_binaryOp_repeat_ref (T := "list") (U := "int") (by decide) ⟨_,ho,rfl⟩ (fun s'=>typeIs_int s' k t) noFill_list_mul F.fills_int_mul F.slot_int_rmul repeat_list F.slot_int_index.lookup
  (call_meets F.slot_int_rmul (typeIs_int s k t) F.entry_int_rmul (F.args_int_rmul_2 _ _) (lm_int_rmul_list_any k t a its.toArray n dd sl)
   ⟨ho,rfl,⟨_,ho,rfl⟩,call_meets F.slot_list_mul ⟨_,ho,rfl⟩ F.entry_list_mul (F.args_list_mul_2 _ _) (lm_list_mul_any a its.toArray n dd sl k t hc0 hc1 hc2) ⟨ho,?_⟩⟩)
 rw [hnew]
 exact ⟨.ref _,_,I.lnew (t':=s.toks) (r1.rep k.toNat) (by rw [len_rep,Nat.mul_comm]; unfold sizeLine; omega),rfl,q _ I.fresh⟩
end
end L2
namespace DL
open PySem PySem.Spec PyProof.Rows L2
noncomputable def mulL:D → D → Option D
 | .lst xs,.int k=>if xs ≠ [] ∧ 0 ≤ k ∧ k < 2 ^ 62 ∧ xs.length * k.toNat ≤ 2 ^ 20 then some (.lst (List.replicate k.toNat xs).flatten) else none
 | _,_=>none
section
variable {X:Cx} {K:W.Frag} {a b:Expr} {ga gb:GE} {pos:Pos} {tg:Expr} {x:Str}
theorem op2_mulL:Op2 K (rMulL K) mulL:=by
 intro H B x y dx dy d Q hb rx ry h k
 unfold mulL at h
 split at h
 ·split at h
  ·rename_i hz
   cases h
   rw [rp_lst] at rx
   rw [rp_int] at ry
   subst ry
   obtain ⟨a,xs,rfl,q1,r1⟩:=rx
   refine ⟨a,xs,_,rfl,rfl,q1.to,fun z=>hz.1 ?_,hz.2.1,hz.2.2.1,by rw [r1.length]; exact hz.2.2.2,fun p hp=>k _ _ (same_upd hp) (rp_newL hb hp (rps_rep r1 _))⟩
   subst z
   have hn:=r1.length
   simp at hn
   exact List.length_eq_zero_iff.mp hn.symm
  ·cases h
 ·cases h
theorem pd_mulL (ha:PD X a ga) (hb:PD X b gb):PD X (.BinOp a .Mult b pos) (o2 ga gb mulL):=pd_op op_mulL op2_mulL ha hb
end
noncomputable def callEZ (gA:GA) (f:List D → Option DX):GZ:=fun δ=>(gA δ).bind fun ds=>(f ds).map fun r=>match r with
 | .ok _=>.ok (.nx δ)
 | .ex c n=>.ex c n δ
section
variable {X:Cx} {e:Expr} {es:List Expr} {gA:GA} {pos p px:Pos}
theorem psx_callE {x:Str} {k m:Nat} {ps:List Str} {f:List D → Option DX} (C:FnX X.prog X.w X.K X.mg X.base x k ps f) (hr:Room m X.A) (hk:k ≤ m) (ha:PDA X (e :: es) gA)
  (hg:Gl X x:=by rfl) (hdb:(x == ("__debug__" : Str)) = false:=by decide) (he:starEach (e :: es) X.env = (false,eval e X.env) :: starEach es X.env:=by rfl) (hpl:(backTo pos (starEach es X.env)).any (·.1) = false:=by rfl)
  {ap:Pos} (hs:swapsWith (.Call (.Name x p) (e :: es) [] pos) none ap.line X.env = pure false:=by rfl) :
  PSX X (.Expr (.Call (.Name x p) (e :: es) [] pos) ap) (callEZ gA f):=.mk fun H₀ B₀ δ pins s σ H D I ⟨r,en,e1,k⟩=>by
 unfold callEZ at e1
 obtain ⟨B,b1,b2,env⟩:=en.ex
 obtain ⟨fa,fd,F,hm,hkp,hb⟩:=C.ex
 cases e2:gA δ with
 | none=>rw [e2] at e1; cases e1
 | some ds =>
  rw [e2,Option.bind_some] at e1
  cases e3:f ds with
  | none=>rw [e3] at e1; cases e1
  | some dx =>
   rw [e3] at e1
   cases e1
   refine ps_expr (pe_callX (dvs:=[]) (ds:=[]) F (hr.mono hk) hg hm hkp hb .nil (ha B δ) hdb he hpl) hs pins s σ H D I ⟨ds,env,e2,fun vs H1 s1 r1=>?_⟩
   show spX X.K f (vs ++ []) H1 _ _
   rw [List.append_nil]
   refine ⟨B,ds,dx,(env.same s1).bad,r1,e3,?_⟩
   cases dx with
   | ok d=>exact fun v H' s2 r2=>k _ H' (en.grow (s1.trans s2))
   | ex c m =>
    intro C od H' s2 n x C' q
    cases q
    refine k σ H' C od (en.grow (s1.trans s2)) n ?_
    cases m with
    | none=>trivial
    | some m =>
     obtain ⟨dx,e,x1,x2⟩:=x
     exact ⟨dx,B,e,same_dead (en.same.trans s1) x1,x2,b1,b2,env.same (s1.trans s2),fun z=>(env.same s1).bad dx z x1⟩
end
noncomputable def retIZ (g0:GE) (gA:GA) (f:List D → Option DX) (gi:GE) (m:List D → Option D):GZ:=fun δ=>(g0 δ).bind fun d0=>(gA δ).bind fun ds=>(f ds).bind fun r=>match r with
 | .ok d=>(gi δ).bind fun k=>(ixD d k).bind fun w=>(m [d0,w]).map fun v=>.ok (.rt v)
 | .ex c n=>some (.ex c n δ)
noncomputable def atC (ys:List Str):D → Option D
 | .int i=>(L2.atI ys i).map D.str
 | _=>none
section
variable {X:Cx} {a0 e ix b:Expr} {es:List Expr} {g0 gi gb:GE} {gA:GA} {pos posg p pg p5 rp p0:Pos}
theorem psx_retI {x gn:Str} {k kg m:Nat} {ps psg:List Str} {f:List D → Option DX} {mf:List D → Option D} (C:FnX X.prog X.w X.K X.mg X.base x k ps f) (Cg:FnD X.prog X.w X.K X.mg X.base gn kg psg mf) (hr:Room m X.A) (hk:k ≤ m) (hkg:kg ≤ m)
  (h0:PD X a0 g0) (ha:PDA X (e :: es) gA) (hi:PD X ix gi) (hs:PlainIx ix:=by exact fun _ _=>rfl)
  (hg:Gl X x:=by rfl) (hgg:Gl X gn:=by rfl) (hdb:(x == ("__debug__" : Str)) = false:=by decide) (hdbg:(gn == ("__debug__" : Str)) = false:=by decide)
  (he:starEach (e :: es) X.env = (false,eval e X.env) :: starEach es X.env:=by rfl) (hpl:(backTo pos (starEach es X.env)).any (·.1) = false:=by rfl)
  (he2:starEach [.Subscript (.Call (.Name x p) (e :: es) [] pos) ix p5] X.env = (false,eval (.Subscript (.Call (.Name x p) (e :: es) [] pos) ix p5) X.env) :: starEach [] X.env:=by rfl)
  (he1:starEach [a0,.Subscript (.Call (.Name x p) (e :: es) [] pos) ix p5] X.env = (false,eval a0 X.env) :: starEach [.Subscript (.Call (.Name x p) (e :: es) [] pos) ix p5] X.env:=by rfl)
  (hplg:(backTo posg (starEach [.Subscript (.Call (.Name x p) (e :: es) [] pos) ix p5] X.env)).any (·.1) = false:=by rfl) :
  PSX X (.Return (some (.Call (.Name gn pg) [a0,.Subscript (.Call (.Name x p) (e :: es) [] pos) ix p5] [] posg)) rp) (retIZ g0 gA f gi mf):=.mk fun H₀ B₀ δ pins s σ H D I ⟨r,en,e1,k⟩=>by
 unfold retIZ at e1
 obtain ⟨B,b1,b2,env⟩:=en.ex
 obtain ⟨fa,fd,F,hm,hkp,hb⟩:=C.ex
 obtain ⟨ga,gd,G,hmg,hkpg,hbg⟩:=Cg
 cases e0:g0 δ with
 | none=>rw [e0] at e1; cases e1
 | some d0 =>
  rw [e0,Option.bind_some] at e1
  cases e2:gA δ with
  | none=>rw [e2] at e1; cases e1
  | some ds =>
   rw [e2,Option.bind_some] at e1
   cases e3:f ds with
   | none=>rw [e3] at e1; cases e1
   | some dx =>
    rw [e3,Option.bind_some] at e1
    refine ps_ret (pe_call (E:=E0) G (hr.mono hkg) hgg hmg hkpg hbg .nil pass0 (pa_cons (h0 B δ) (pa_cons (pe_ix ix_seq (pe_callX (dvs:=[]) (ds:=[]) F (hr.mono hk) hg hm hkp hb .nil (ha B δ) hdb he hpl) (hi B δ) hs) pa_nil he2) he1) hdbg he1 hplg) pins s σ H D I
     ⟨d0,env,e0,fun v0 H0 s0 r0=>⟨ds,env.same s0,e2,fun vs H1 s1 r1=>?_⟩⟩
    show spX X.K f (vs ++ []) H1 _ _
    rw [List.append_nil]
    have env1:=env.same (s0.trans s1)
    refine ⟨B,ds,dx,env1.bad,r1,e3,?_⟩
    cases dx with
    | ok d =>
     simp only [] at e1
     cases e4:gi δ with
     | none=>rw [e4] at e1; cases e1
     | some dk =>
      rw [e4,Option.bind_some] at e1
      cases e5:ixD d dk with
      | none=>rw [e5] at e1; cases e1
      | some dw =>
       rw [e5,Option.bind_some] at e1
       cases e6:mf [d0,dw] with
       | none=>rw [e6] at e1; cases e1
       | some dv =>
        rw [e6] at e1
        cases e1
        intro v H2 s2 r2
        have s02:=(s0.trans s1).trans s2
        refine ⟨dk,env.same s02,e4,fun vk H3 s3 r3=>?_⟩
        have s03:=s02.trans s3
        refine op2_ix H3 B v vk d dk dw _ (env.same s03).bad (r2.same s3) r3 e5 fun w H4 s4 r4=>?_
        have s04:=s03.trans s4
        show spD X.K mf ([v0,w] ++ []) H4 _ E0
        rw [List.append_nil]
        refine ⟨B,[d0,dw],dv,(env.same s04).bad,?_,e6,fun u H5 s5 r5=>?_⟩
        ·rw [rps_cons]
         refine ⟨v0,[w],rfl,r0.same (((s1.trans s2).trans s3).trans s4),?_⟩
         rw [rps_cons]
         exact ⟨w,[],rfl,r4,by rw [rps_nil]⟩
        ·exact k u H5 (en.same.trans (s04.trans s5)) (r5.mono (Gr.less b1))
    | ex c m =>
     simp only [Option.some.injEq] at e1
     subst e1
     intro C od H' s2 n x C' q
     cases q
     have s01:=s0.trans s1
     refine k σ H' C od (en.grow (s01.trans s2)) n ?_
     cases m with
     | none=>trivial
     | some m =>
      obtain ⟨dx,e,x1,x2⟩:=x
      exact ⟨dx,B,e,same_dead (en.same.trans s01) x1,x2,b1,b2,env.same (s01.trans s2),fun z=>(env.same s01).bad dx z x1⟩
theorem atI_strs (ys:List Str) (i:Int):L2.atI (ys.map V.str) i = (L2.atI ys i).map V.str:=by
 unfold L2.atI
 rw [List.length_map]
 cases L2.ixN ys.length i with
 | none=>rfl
 | some j=>simp
theorem pd_gIx {x:Str} {ys:List Str} (hK:TupK X.K X.mg x ys) (hb:PD X b gb) (hg:Gl X x:=by rfl) (hd:(x == ("__debug__" : Str)) = false:=by decide) (hs:PlainIx b:=by exact fun _ _=>rfl) :
  PD X (.Subscript (.Name x p0) b pos) (unG (atC ys) gb):=.mk fun B δ=>by
 obtain ⟨p,o,its,n,hm,hk,hc,hdct,hdat,hsz,hv⟩:=hK
 refine (pe_ix ix_tup (pe_glob (v:=.ref p) hg hm rfl hd) (hb B δ) hs).imp fun σ H Q ⟨d,en,h,k⟩=>?_
 unfold unG at h
 cases e2:gb δ with
 | none=>rw [e2] at h; cases h
 | some dk =>
  rw [e2,Option.bind_some] at h
  unfold atC at h
  split at h
  ·rename_i i
   cases e3:L2.atI ys i with
   | none=>rw [e3] at h; cases h
   | some y =>
    rw [e3] at h
    cases h
    refine ⟨_,en,e2,fun v H1 s1 r1=>?_⟩
    rw [rp_int] at r1
    subst r1
    exact ⟨p,ys.map V.str,i,.str y,rfl,rfl,.inr ⟨o,its,n,hk,hc,hdat,hsz,hv⟩,by rw [atI_strs,e3]; rfl,k _ H1 s1 (by rw [rp_str])⟩
  ·cases h
end
noncomputable def pickG {α:Type} (xs:List α) (lo hi st:Option Int):List α:=(sliceRange (sliceBounds lo hi st xs.length).1 (sliceBounds lo hi st xs.length).2.1 (sliceBounds lo hi st xs.length).2.2).filterMap (xs[·]?)
theorem rps_pick {K:W.Frag} {H:Hp} {B:BS} {ds:List D} {xs:List V} (r:Rps K H B ds xs):∀ l:List Nat,Rps K H B (l.filterMap (ds[·]?)) (l.filterMap (xs[·]?))
 | []=>by rw [List.filterMap_nil,List.filterMap_nil,rps_nil]
 | i :: l=>by
  have ih:=rps_pick r l
  cases e:ds[i]? with
  | none =>
   have e2:xs[i]? = none:=List.getElem?_eq_none_iff.mpr (by rw [r.length]; exact List.getElem?_eq_none_iff.mp e)
   rw [List.filterMap_cons_none e,List.filterMap_cons_none e2]
   exact ih
  | some d =>
   obtain ⟨x,ex,rx⟩:=r.get e
   rw [List.filterMap_cons_some e,List.filterMap_cons_some ex,rps_cons]
   exact ⟨_,_,rfl,rx,ih⟩
theorem vals_pick {xs:List V} {us:List Value} (r:Vals xs us):∀ l:List Nat,Vals (l.filterMap (xs[·]?)) (l.filterMap (us[·]?))
 | []=>.nil
 | i :: l=>by
  have ih:=vals_pick r l
  cases e:xs[i]? with
  | none =>
   rw [List.filterMap_cons_none e,List.filterMap_cons_none (r.none_of e)]
   exact ih
  | some d =>
   obtain ⟨u,eu,ru⟩:=r.get e
   rw [List.filterMap_cons_some e,List.filterMap_cons_some eu]
   exact .cons ru ih
section
variable {X:Cx} {e:Expr} {te:TE} {lo hi st:Option Expr} {tl th ts:TO} {pos p2:Pos}
noncomputable def tStep (K:W.Frag) (te:TE) (tl th ts:TO):TE:=fun σ H Q=>te σ H fun x H1=>tl σ H1 fun l H2=>th σ H2 fun u H3=>ts σ H3 fun c H4=>∃ a xs,x = .ref a ∧ SqL K H4 a xs ∧ c ≠ some 0 ∧ ∀ p,H4 p = none → Q (.ref p) (upd H4 p (.lst (pickG xs l u c)))
theorem pe_step (he:PE X e te) (hl:PO X lo tl) (hu:PO X hi th) (hst:PO X st ts) (hsub:∀ o i,subscripted (.Slice lo hi st p2) false o i = operate [o,i] (getItem o i):=by intros; with_unfolding_all rfl):PE X (.Subscript e (.Slice lo hi st p2) pos) (tStep X.K te tl th ts):=by
 intro pins s σ H Q I h
 refine Subscript_ (thn (he pins s σ H _ I h) fun v s1 ⟨x,H1,I1,r1,q1⟩=>?_)
 refine wpAny_Slice (thn (hl pins s1 σ H1 _ I1 q1) fun vl s2 ⟨l,H2,I2,pl,q2⟩=>thn (hu pins s2 σ H2 _ I2 q2) fun vu s3 ⟨u,H3,I3,pu,q3⟩=>thn (hst pins s3 σ H3 _ I3 q3) fun vc s4 ⟨c,H4,I4,pc,a,xs,ex,hx,hc,q⟩=>?_)
 subst ex
 cases r1
 have I5:Inv X pins σ H4 { s4 with heap:=s4.heap.push { cls:=.type "slice",data:=.fields #[vl,vu,vc] } }:=I4.kept (t':=s4.toks) fun b ob q=>Heap.get?_push_of_some _ q
 obtain ⟨its,r,ht,hz⟩:=I5.list hx
 have hlen:=r.length
 have hg:wpAny (model X.prog X.w) X.A (getItem (.ref a) (.ref s4.heap.objs.size)) (EP X pins σ Q) X.xe { s4 with heap:=s4.heap.push { cls:=.type "slice",data:=.fields #[vl,vu,vc] } }:=by
  refine wpAny_getItem_list_slice ht.isList (Heap.IsSliceOf.new ..) pl pu pc hc ?_ (by rw [List.size_toArray] <;> omega)
  refine ⟨.ref _,_,I5.laid (t':=s4.toks) (o:=.lst (pickG xs l u c)) (fun b ob q=>Heap.get?_push_of_some _ q) (Nat.le_refl _) ?_,rfl,q _ (I5.hok.fresh (Nat.le_refl _))⟩
  have hp:slicePick its.toArray l u c = (pickG its l u c).toArray:=by
   unfold slicePick pickG
   simp
  have hsz:(pickG its l u c).length ≤ its.length:=by
   have:=slicePick_size_le its.toArray l u c
   rw [hp] at this
   simpa using this
  have hpv:Vals (pickG xs l u c) (pickG its l u c):=by
   unfold pickG
   rw [hlen]
   exact vals_pick r _
  exact ⟨by rw [hpv.length]; omega,pickG its l u c,0,hpv,by rw [hp]; exact Heap.get?_push_size _ rfl⟩
 exact tail_any (ops:=[.ref a,.ref s4.heap.objs.size]) ht.isList.typeIs slot_list_getitem.lookup hg (hsub _ _)
noncomputable def stepG (g:GE) (gl gh gs:Ds → Option (Option Int)):GE:=fun δ=>(g δ).bind fun d=>(gl δ).bind fun lo=>(gh δ).bind fun hi=>(gs δ).bind fun c=>match d with
 | .lst xs=>if c ≠ some 0 then some (.lst (pickG xs lo hi c)) else none
 | _=>none
theorem pd_step {g:GE} {gl gh gs:Ds → Option (Option Int)} (he:PD X e g) (hl:PDO X lo gl) (hh:PDO X hi gh) (hs:PDO X st gs) (hsub:∀ o i,subscripted (.Slice lo hi st p2) false o i = operate [o,i] (getItem o i):=by intros; with_unfolding_all rfl) :
  PD X (.Subscript e (.Slice lo hi st p2) pos) (stepG g gl gh gs):=.mk fun B δ=>(pe_step (he B δ) (hl B δ) (hh B δ) (hs B δ) hsub).imp fun σ H Q ⟨d,en,h,k⟩=>by
 unfold stepG at h
 cases e1:g δ with
 | none=>rw [e1] at h; cases h
 | some x =>
  rw [e1,Option.bind_some] at h
  cases e2:gl δ with
  | none=>rw [e2] at h; cases h
  | some l =>
   rw [e2,Option.bind_some] at h
   cases e3:gh δ with
   | none=>rw [e3] at h; cases h
   | some u =>
    rw [e3,Option.bind_some] at h
    cases e4:gs δ with
    | none=>rw [e4] at h; cases h
    | some c =>
     rw [e4,Option.bind_some] at h
     split at h
     ·rename_i xs
      split at h
      ·rename_i hc
       cases h
       refine ⟨_,en,e1,fun v H1 s1 r1=>⟨l,en.same s1,(by first | exact e2 | rfl),fun H2 s2=>⟨u,en.same (s1.trans s2),(by first | exact e3 | rfl),fun H3 s3=>⟨c,en.same ((s1.trans s2).trans s3),(by first | exact e4 | rfl),fun H4 s4=>?_⟩⟩⟩⟩
       have r4:=((r1.same s2).same s3).same s4
       rw [rp_lst] at r4
       obtain ⟨a,ys,rfl,hq,rr⟩:=r4
       have s04:=((s1.trans s2).trans s3).trans s4
       refine ⟨a,ys,rfl,hq.to,hc,fun p hp=>k _ _ (s04.trans (same_upd hp)) ?_⟩
       rw [rp_lst]
       refine ⟨p,_,rfl,.inl ⟨(en.same s04).free hp,.inl upd_same⟩,?_⟩
       have:Rps X.K H4 B (pickG xs l u c) (pickG ys l u c):=by
        unfold pickG
        rw [rr.length]
        exact rps_pick rr _
       exact this.same (same_upd hp)
      ·cases h
     ·cases h
end
end DL
namespace W
open PySem DL
noncomputable def hasAll (x s:Str):Bool:=x.cps.toList.all fun c=>decide (c ∈ s.cps.toList)
noncomputable def nameS:Str := "0123456789abcdefghijklmnopqrstuvwxyz"
noncomputable def wordS:Str := " 0123456789abcdefghijklmnopqrstuvwxyz"
noncomputable def isName (x:Str):Bool:=(decide ((x.length:Int) ≤ 8) && hasAll x nameS) && decide (0 < (x.length:Int))
inductive Pt where
 | text (w:Str) | row (vs:List D) | table (ps:List (Str × D)) | rcd (c:Str) (ps:List (Str × D))
noncomputable def pr (p:Str × D):D:=.tup [.str p.1,p.2]
noncomputable def Pt.d:Pt → D
 | .text w=>.tup [.str "text",.str w]
 | .row vs=>.tup [.str "row",.tup vs]
 | .table ps=>.tup [.str "table",.tup (ps.map pr)]
 | .rcd c ps=>.tup [.str "record",.str c,.tup (ps.map pr)]
noncomputable def Pt.vals:Pt → List D
 | .text _=>[]
 | .row vs=>vs
 | .table ps=>ps.map (·.2)
 | .rcd _ ps=>ps.map (·.2)
noncomputable def Pt.pnames:Pt → List Str
 | .text _=>[]
 | .row _=>[]
 | .table ps=>ps.map (·.1)
 | .rcd _ ps=>ps.map (·.1)
noncomputable def Pt.cls:Pt → List Str
 | .rcd c _=>[c]
 | _=>[]
noncomputable def Pt.all (p:Pt):List Str:=p.pnames ++ p.cls
theorem name_short {n:Str} (h:isName n = true):n.length ≤ 8:=by
 unfold isName at h
 simp only [Bool.and_eq_true,decide_eq_true_eq] at h
 omega
noncomputable def signS:Str := "abcdefghijklmnopqrstuvwxyz0123456789"
noncomputable def cg (i:Int):Nat:=signS.cps.toList.getD i.toNat 0
theorem sign_at (i:Int) (h0:0 ≤ i) (h1:i < 36):ixD (.str signS) (.int i) = some (.str ⟨#[cg i]⟩):=by
 have hl:signS.cps.toList.length = 36:=by decide +kernel
 have hz:signS.length ≤ sizeLine:=by decide +kernel
 have:=atI_in (xs:=signS.cps.toList) (i:=i) h0 (by rw [hl]; omega) 0
 simp only [ixD,if_pos hz,this,Option.map_some]
 rfl
theorem cg_mem (i:Int) (h0:0 ≤ i) (h1:i < 36):cg i ∈ nameS.cps.toList:=by
 have h:∀ n:Nat,n < 36 → signS.cps.toList.getD n 0 ∈ nameS.cps.toList:=by decide +kernel
 exact h i.toNat (by omega)
theorem cg_inj (i j:Int) (h0:0 ≤ i) (h1:i < 36) (h2:0 ≤ j) (h3:j < 36) (e:cg i = cg j):i = j:=by
 have h:∀ n:Nat,n < 36 → ∀ m:Nat,m < 36 → signS.cps.toList.getD n 0 = signS.cps.toList.getD m 0 → n = m:=by decide +kernel
 have:=h i.toNat (by omega) j.toNat (by omega) e
 omega
noncomputable def ones (l:List Nat):List Str:=l.map fun c=>⟨#[c]⟩
noncomputable def strOf (l:List Nat):Str:=⟨l.toArray⟩
theorem join_ones (l:List Nat):Txt.join "" (ones l) = strOf l:=by
 have key:∀ (l:List Nat) (acc:List Nat),(ones l).foldl (fun a p=>a ++ ("" : Str).cps ++ p.cps) acc.toArray = (acc ++ l).toArray:=by
  intro l
  induction l with
  | nil=>intro acc; simp [ones]
  | cons c l ih =>
   intro acc
   show (ones l).foldl _ (acc.toArray ++ ("" : Str).cps ++ #[c]) = _
   have e:acc.toArray ++ ("" : Str).cps ++ #[c] = (acc ++ [c]).toArray:=by
    have:("" : Str).cps = #[]:=rfl
    rw [this]; simp
   rw [e,ih]
   simp
 cases l with
 | nil=>rfl
 | cons c l =>
  show (⟨_⟩:Str) = _
  unfold strOf
  congr 1
  exact key l [c]
theorem sum_ones':∀ l:List Nat,((ones l).map (·.length)).sum = l.length
 | []=>rfl
 | c :: l=>by
  show 1 + ((ones l).map (·.length)).sum = l.length + 1
  rw [sum_ones' l]; omega
theorem isName_of (l:List Nat) (h1:0 < l.length) (h2:l.length ≤ 8) (h3:∀ c ∈ l,c ∈ nameS.cps.toList):isName (strOf l) = true:=by
 unfold isName hasAll
 have e:(strOf l).length = l.length:=by show l.toArray.size = _; simp
 have e2:(strOf l).cps.toList = l:=by simp [strOf]
 rw [e,e2]
 simp only [Bool.and_eq_true,decide_eq_true_eq,List.all_eq_true]
 exact ⟨⟨by omega,fun c hc=>by simpa using h3 c hc⟩,by omega⟩
theorem strOf_inj {l m:List Nat} (h:strOf l = strOf m):l = m:=by
 unfold strOf at h
 injection h with h
 simpa using congrArg Array.toList h
end W
namespace Pn
open PySem DL W
end Pn
namespace W
open PySem DL StrLaws Builtin.Str
theorem strOf_list (l:List Nat):(strOf l).cps.toList = l:=by simp [strOf]
theorem strOf_len (l:List Nat):(strOf l).length = l.length:=by show l.toArray.size = _; simp
end W
namespace W
open PySem DL StrLaws
end W
namespace Gw
open PySem DL W
end Gw
namespace Gw
open PySem DL W StrLaws
theorem mul_r (i j:Int) (h:-(2 ^ 64) < j ∧ j < 2 ^ 64):mulA (.int i) (.int j) = some (.int (i * j)):=by simp only [mulA]; rw [if_pos (.inr h)]
theorem mul_l (i j:Int) (h:-(2 ^ 64) < i ∧ i < 2 ^ 64):mulA (.int i) (.int j) = some (.int (i * j)):=by simp only [mulA]; rw [if_pos (.inl h)]
theorem mod_p (i j:Int) (h:0 < j):modD (.int i) (.int j) = some (.int (i % j)):=by simp only [modD,ii]; rw [if_pos h]
theorem app_ow {i:Nat} {g:GE} {δ:Ds} {l:List D} {d:D} (h1:owL i δ = some l) (h2:g δ = some d) (h3:l.length < sizeLine):exprX (appX i g) δ = some (.nx (δ.set i (.ow (.lst (l ++ [d]))))):=by
 unfold exprX appX
 rw [h1,h2]
 simp only [Option.bind_some]
 rw [if_pos h3]
 rfl
theorem take_s (l:List Nat) (k:Int) (h0:0 ≤ k) (h1:k ≤ l.length):Txt.slice (strOf l) none (some k) = strOf (l.take k.toNat):=by
 show sliceText _ _ _ = _
 rw [sliceText_to ⟨h0,by rw [strOf_list]; exact h1⟩,strOf_list]
 simp [strOf]
theorem drop_s (l:List Nat) (k:Int) (h0:0 ≤ k) (h1:k ≤ l.length):Txt.slice (strOf l) (some k) none = strOf (l.drop k.toNat):=by
 show sliceText _ _ _ = _
 rw [sliceText_from ⟨h0,by rw [strOf_list]; exact h1⟩,strOf_list]
 unfold strOf
 congr 2
 rw [List.take_of_length_le]
 rw [List.length_drop]
 omega
theorem app_s (a b:List Nat):strOf a ++ strOf b = strOf (a ++ b):=by
 show (⟨_⟩:Str) = ⟨_⟩
 simp [strOf]
theorem add_s (a b:List Nat) (h:a.length + b.length ≤ sizeLine):addA (.str (strOf a)) (.str (strOf b)) = some (.str (strOf (a ++ b))):=by
 simp only [addA]
 rw [if_pos (by rw [strOf_len,strOf_len]; exact h),app_s]
end Gw
namespace Gw
open PySem DL W
end Gw
namespace Bw
open PySem DL W
noncomputable def G__law_cell_at:GS:=(seqD (ifD (ob (o2 (gv 1) (oA (consA (gv 0) nilA) lenD) ltD))
 (seqD (retD (o2 (gv 0) (gv 1) ixD))
 nilD)
 nilD)
 (seqD (retD (o2 (o2 (o2 (gv 1) (gc (.int 7919)) mulA) (gc (.int 5)) addA) (o2 (gv 1) (gc (.int 31)) addA) mulA))
 nilD))
noncomputable def N__law_cell_at:List Str:=["_law_script", "_law_k"]
noncomputable def m__law_cell_at:List D → Option D:=mkF 2 N__law_cell_at G__law_cell_at
noncomputable def G__law_mix:GS:=(seqD (retD (o2 (o2 (o2 (o2 (o2 (o2 (gv 0) (gc (.int 2147483629)) modD) (gc (.int 1)) addA) (o2 (o2 (gc (.int 48271)) (o2 (gc (.int 69621)) (gv 1) mulA) addA) (o2 (o2 (gc (.int 2)) (gv 1) mulA) (gv 1) mulA) addA) mulA) (gv 1) addA) (gc (.int 2147483647)) modD) (gc (.int 7)) fdivD))
 nilD)
noncomputable def N__law_mix:List Str:=["_law_cell", "_law_k"]
noncomputable def m__law_mix:List D → Option D:=mkF 2 N__law_mix G__law_mix
noncomputable def G__law_pool:GS:=(seqD (setD (gN 2) (gc (.str "abcdefghijklmnopqrstuvwxyz0123456789")))
 (seqD (setD (gN 3) (joinG (gc (.str "")) (consA (compG 1 [0,2] (rng1I (consA (o2 (oA (consA (gv 0) (consA (gc (.int 20)) nilA)) m__law_mix) (gc (.int 8)) modD) nilA)) (gN 0) noT (o2 (gv 2) (o2 (oA (consA (gv 1) (consA (gv 0) nilA)) m__law_mix) (gc (.int 36)) modD) ixD)) nilA)))
 (seqD (setD (gN 4) (o2 (oA (consA (gv 0) (consA (gc (.int 21)) nilA)) m__law_mix) (o2 (oA (consA (gv 3) nilA) lenD) (gc (.int 1)) addA) modD))
 (seqD (retF (compG 1 [0,2,3,4] (rng1I (consA (gv 1) nilA)) (gN 0) noT (o2 (o2 (slAG (gv 3) noneO (someO (gv 4))) (o2 (gv 2) (o2 (o2 (o2 (gc (.int 3)) (gv 0) mulA) (gv 1) addA) (gc (.int 36)) modD) ixD) addA) (slAG (gv 3) (someO (gv 4)) noneO) addA)))
 nilD))))
noncomputable def N__law_pool:List Str:=["_law_cell", "_law_many", "_law_signs_here", "_law_base", "_law_at"]
noncomputable def m__law_pool:List D → Option D:=mkN 2 N__law_pool G__law_pool
noncomputable def G__law_one_value:GS:=(seqD (setD (gN 3) (o2 (oA (consA (gv 0) (consA (gv 1) nilA)) m__law_mix) (gc (.int 5)) modD))
 (seqD (ifD (ob (o2 (gv 3) (gc (.int 0)) eqD))
 (seqD (retD (gc .non))
 nilD)
 nilD)
 (seqD (ifD (ob (o2 (gv 3) (gc (.int 3)) ltD))
 (seqD (retD (tupG (consA (gc (.str "at")) (consA (o2 (oA (consA (gv 0) (consA (o2 (gc (.int 40)) (gv 1) addA) nilA)) m__law_mix) (gv 2) modD) nilA))))
 nilD)
 nilD)
 (seqD (ifD (ob (o2 (gv 3) (gc (.int 3)) eqD))
 (seqD (retD (o2 (o2 (oA (consA (gv 0) (consA (o2 (gc (.int 60)) (gv 1) addA) nilA)) m__law_mix) (gc (.int 260)) modD) (gc (.int 130)) subD))
 nilD)
 nilD)
 (seqD (retD (o2 (o2 (o2 (o2 (o2 (o2 (gv 0) (gc (.int 1)) addA) (o2 (gv 1) (gc (.int 3)) addA) mulA) (o2 (gc (.int 982451653)) (gc (.int 7)) powD) mulW) (o2 (o2 (gc (.int 2)) (o2 (gc (.int 10)) (gc (.int 60)) powD) mulA) (gc (.int 1)) subD) modD) (gc (.int 1)) addA) (o2 (gc (.int 10)) (gc (.int 60)) powD) subD))
 nilD)))))
noncomputable def N__law_one_value:List Str:=["_law_cell", "_law_k", "_law_many", "_law_way"]
noncomputable def m__law_one_value:List D → Option D:=mkF 3 N__law_one_value G__law_one_value
noncomputable def G__law_drawn_part:GS:=(seqD (setD (gN 3) (o2 (oA (consA (gv 0) (consA (gc (.int 1)) nilA)) m__law_mix) (gc (.int 5)) modD))
 (seqD (setD (gN 4) (o2 (lstG (consA (gc (.int 0)) (consA (gc (.int 1)) (consA (gc (.int 2)) (consA (gc (.int 3)) (consA (gc (.int 2)) (consA (gc (.int 1)) (consA (gc (.int 4)) (consA (gc (.int 12)) nilA))))))))) (o2 (oA (consA (gv 0) (consA (gc (.int 2)) nilA)) m__law_mix) (gc (.int 8)) modD) ixD))
 (seqD (ifD (ob (o2 (gv 3) (gc (.int 0)) eqD))
 (seqD (setD (gN 5) (gc (.str "abcdefghijklmnopqrstuvwxyz0123456789 ")))
 (seqD (retD (tupG (consA (gc (.str "text")) (consA (joinG (gc (.str "")) (consA (compG 1 [0,5] (rng1I (consA (o2 (oA (consA (gv 0) (consA (gc (.int 3)) nilA)) m__law_mix) (gc (.int 21)) modD) nilA)) (gN 0) noT (o2 (gv 2) (o2 (oA (consA (gv 1) (consA (o2 (gc (.int 80)) (gv 0) addA) nilA)) m__law_mix) (gc (.int 37)) modD) ixD)) nilA)) nilA))))
 nilD))
 nilD)
 (seqD (setD (gN 6) (compG 1 [0,2] (rng1I (consA (gv 4) nilA)) (gN 0) noT (oA (consA (gv 1) (consA (o2 (gc (.int 4)) (gv 0) addA) (consA (gv 2) nilA))) m__law_one_value)))
 (seqD (ifD (ob (o2 (gv 3) (gc (.int 1)) eqD))
 (seqD (retD (tupG (consA (gc (.str "row")) (consA (oA (consA (gv 6) nilA) tupOfD) nilA))))
 nilD)
 nilD)
 (seqD (setD (gN 7) (o2 (oA (consA (gv 0) (consA (gc (.int 30)) nilA)) m__law_mix) (gc (.int 12)) modD))
 (seqD (setD (gN 8) (oA (consA (compG 1 [1,6,7] (rng1I (consA (gv 4) nilA)) (gN 0) noT (tupG (consA (o2 (gv 1) (o2 (o2 (gv 3) (gv 0) addA) (gc (.int 12)) modD) ixD) (consA (o2 (gv 2) (gv 0) ixD) nilA)))) nilA) tupOfD))
 (seqD (ifD (ob (o2 (gv 3) (gc (.int 2)) eqD))
 (seqD (retD (tupG (consA (gc (.str "table")) (consA (gv 8) nilA))))
 nilD)
 nilD)
 (seqD (retD (tupG (consA (gc (.str "record")) (consA (o2 (gv 1) (o2 (oA (consA (gv 0) (consA (gc (.int 31)) nilA)) m__law_mix) (gc (.int 12)) modD) ixD) (consA (gv 8) nilA)))))
 nilD)))))))))
noncomputable def N__law_drawn_part:List Str:=["_law_cell", "_law_names", "_law_many", "_law_kind", "_law_size", "_law_signs_here", "_law_some", "_law_turn", "_law_pairs"]
noncomputable def m__law_drawn_part:List D → Option D:=mkF 3 N__law_drawn_part G__law_drawn_part
noncomputable def G__law_built:GS:=(seqD (setD (gN 3) (o2 (gc (.int 1)) (o2 (oA (consA (oA (consA (gv 0) (consA (gv 1) nilA)) m__law_cell_at) (consA (gc (.int 3)) nilA)) m__law_mix) (gv 2) modD) addA))
 (seqD (setD (gN 4) (oA (consA (oA (consA (gv 0) (consA (o2 (gv 1) (gc (.int 1)) addA) nilA)) m__law_cell_at) (consA (gc (.int 12)) nilA)) m__law_pool))
 (seqD (retD (oA (consA (compG 1 [0,1,3,4] (rng1I (consA (gv 3) nilA)) (gN 0) noT (oA (consA (oA (consA (gv 1) (consA (o2 (o2 (gv 2) (gc (.int 2)) addA) (gv 0) addA) nilA)) m__law_cell_at) (consA (gv 4) (consA (gv 3) nilA))) m__law_drawn_part)) nilA) tupOfD))
 nilD)))
noncomputable def N__law_built:List Str:=["_law_script", "_law_start", "_law_most", "_law_many", "_law_names"]
noncomputable def m__law_built:List D → Option D:=mkF 3 N__law_built G__law_built
noncomputable def G__law_digits:GS:=(seqD (ownD 1 (lstG (consA (o2 (gv 0) (gc (.int 128)) modD) nilA)))
 (seqD (whileD (ob (o2 (gv 0) (gc (.int 127)) gtD))
 (seqD (setD (gN 0) (o2 (gv 0) (gc (.int 128)) fdivD))
 (seqD (exprX (ins0X 1 (o2 (gc (.int 128)) (o2 (gv 0) (gc (.int 128)) modD) addA)))
 nilD)) 100000)
 (seqD (retO 1)
 nilD)))
noncomputable def N__law_digits:List Str:=["_law_number", "_law_found"]
noncomputable def m__law_digits:List D → Option D:=mkN 1 N__law_digits G__law_digits
noncomputable def G__law_signs:GS:=(seqD (retF (compG 1 [] (strI (gv 0)) (gN 0) noT (oA (consA (gv 0) nilA) ordD)))
 nilD)
noncomputable def N__law_signs:List Str:=["_law_word"]
noncomputable def m__law_signs:List D → Option D:=mkN 1 N__law_signs G__law_signs
noncomputable def G__law_value_bytes:GS:=(seqD (ifD (ob (o2 (gv 0) (gc .non) isND))
 (seqD (retF (lstG (consA (gc (.int 0)) nilA)))
 nilD)
 nilD)
 (seqD (ifD (ob (isiG isTup (gv 0)))
 (seqD (retF (oA (consA (o2 (o2 (gc (.int 2)) (o2 (gv 0) (gc (.int 1)) ixD) mulA) (gc (.int 2)) addA) nilA) m__law_digits))
 nilD)
 nilD)
 (seqD (ifD (ob (o2 (gv 0) (gc (.int 0)) ltD))
 (seqD (retF (oA (consA (o2 (o2 (gc (.int 2)) (o2 (o2 (gc (.int 0)) (o2 (gc (.int 2)) (gv 0) mulA) subD) (gc (.int 1)) subD) mulA) (gc (.int 1)) addA) nilA) m__law_digits))
 nilD)
 nilD)
 (seqD (retF (oA (consA (o2 (o2 (gc (.int 4)) (gv 0) mulA) (gc (.int 1)) addA) nilA) m__law_digits))
 nilD))))
noncomputable def N__law_value_bytes:List Str:=["_law_value"]
noncomputable def m__law_value_bytes:List D → Option D:=mkN 1 N__law_value_bytes G__law_value_bytes
noncomputable def G__law_part_bytes:GS:=(seqD (setD (gN 1) (methG (lstG (consA (gc (.str "text")) (consA (gc (.str "row")) (consA (gc (.str "table")) (consA (gc (.str "record")) nilA))))) (consA (o2 (gv 0) (gc (.int 0)) ixD) nilA) idxD))
 (seqD (setD (gN 2) (oA (consA (o2 (o2 (gc (.int 4)) (oA (consA (o2 (gv 0) (unG negD (gc (.int 1))) ixD) nilA) lenD) mulA) (gv 1) addA) nilA) m__law_digits))
 (seqD (ifD (ob (o2 (gv 1) (gc (.int 0)) eqD))
 (seqD (retD (o2 (gv 2) (oA (consA (o2 (gv 0) (gc (.int 1)) ixD) nilA) m__law_signs) addA))
 nilD)
 nilD)
 (seqD (ifD (ob (o2 (gv 1) (gc (.int 1)) eqD))
 (seqD (forG (tupI (o2 (gv 0) (gc (.int 1)) ixD)) (gN 3)
 (seqD (setD (gN 2) (o2 (gv 2) (oA (consA (gv 3) nilA) m__law_value_bytes) addA))
 nilD))
 (seqD (retD (gv 2))
 nilD))
 nilD)
 (seqD (ifD (ob (o2 (gv 1) (gc (.int 3)) eqD))
 (seqD (setD (gN 2) (o2 (o2 (gv 2) (oA (consA (oA (consA (o2 (gv 0) (gc (.int 1)) ixD) nilA) lenD) nilA) m__law_digits) addA) (oA (consA (o2 (gv 0) (gc (.int 1)) ixD) nilA) m__law_signs) addA))
 nilD)
 nilD)
 (seqD (forG (tupI (o2 (gv 0) (unG negD (gc (.int 1))) ixD)) (tup2 4 3)
 (seqD (setD (gN 2) (o2 (o2 (gv 2) (oA (consA (oA (consA (gv 4) nilA) lenD) nilA) m__law_digits) addA) (oA (consA (gv 4) nilA) m__law_signs) addA))
 (seqD (setD (gN 2) (o2 (gv 2) (oA (consA (gv 3) nilA) m__law_value_bytes) addA))
 nilD)))
 (seqD (retD (gv 2))
 nilD)))))))
noncomputable def N__law_part_bytes:List Str:=["_law_part", "_law_kind", "_law_found", "_law_value", "_law_name"]
noncomputable def m__law_part_bytes:List D → Option D:=mkF 1 N__law_part_bytes G__law_part_bytes
noncomputable def G__law_laid_out:GS:=(seqD (setD (gN 1) (compG 1 [] (tupI (gv 0)) (gN 0) noT (oA (consA (gv 0) nilA) m__law_part_bytes)))
 (seqD (setD (gN 2) (oA (consA (oA (consA (gv 0) nilA) lenD) nilA) m__law_digits))
 (seqD (forG (lstI (gv 1)) (gN 3)
 (seqD (setD (gN 2) (o2 (gv 2) (oA (consA (oA (consA (gv 3) nilA) lenD) nilA) m__law_digits) addA))
 nilD))
 (seqD (ownD 4 (lstG nilA))
 (seqD (ownD 5 (oA (consA (gv 2) nilA) lstOfD))
 (seqD (forG (lstI (gv 1)) (gN 3)
 (seqD (exprX (appX 4 (borE (oA (consA (gv 5) nilA) lenD))))
 (seqD (exprX (extX 5 (gv 3)))
 nilD)))
 (seqD (retD (borA (tupG (consA (gv 5) (consA (oA (consA (gv 2) nilA) lenD) (consA (o2 (gv 4) (lstG (consA (oA (consA (gv 5) nilA) lenD) nilA)) addA) nilA))))))
 nilD)))))))
noncomputable def N__law_laid_out:List Str:=["_law_web", "_law_some", "_law_index", "_law_one", "_law_begins", "_law_whole"]
noncomputable def m__law_laid_out:List D → Option D:=mkF 1 N__law_laid_out G__law_laid_out
noncomputable def GR__law_alike (m__law_alike:List D → Option D):GS:=(seqD (ifD (ob (o2 (gv 1) (gc .non) isND))
 (seqD (retD (o2 (gv 0) (gc .non) isND))
 nilD)
 nilD)
 (seqD (ifD (ob (isiG isStr (gv 1)))
 (seqD (retD (andG (isiG isStr (gv 0)) (o2 (gv 0) (gv 1) eqD)))
 nilD)
 nilD)
 (seqD (ifD (ob (isiG isInt (gv 1)))
 (seqD (retD (andG (isiG isInt (gv 0)) (andG (notG (isiG isBool (gv 0))) (o2 (gv 0) (gv 1) eqD))))
 nilD)
 nilD)
 (seqD (ifD (tOrG (ob (o2 (isiG isTup (gv 0)) (isiG isTup (gv 1)) neD)) (ob (o2 (isiG isLst (gv 0)) (isiG isLst (gv 1)) neD)))
 (seqD (retD (gc (.bl false)))
 nilD)
 nilD)
 (seqD (retD (andG (o2 (oA (consA (gv 0) nilA) lenD) (oA (consA (gv 1) nilA) lenD) eqD) (oA (consA (compG 1 [0,1] (rng1I (consA (oA (consA (gv 1) nilA) lenD) nilA)) (gN 0) noT (oA (consA (o2 (gv 1) (gv 0) ixD) (consA (o2 (gv 2) (gv 0) ixD) nilA)) m__law_alike)) nilA) allD)))
 nilD)))))
noncomputable def N__law_alike:List Str:=["_law_found", "_law_due"]
noncomputable def mR__law_alike:Nat → List D → Option D
 | 0=>fun _=>none
 | k + 1=>mkF 2 N__law_alike (GR__law_alike (mR__law_alike k))
end Bw
namespace Bw
open PySem DL W StrLaws
theorem mix_ok (c k:Int) (h0:0 ≤ k) (h1:k ≤ 1000000):∃ x,0 ≤ x ∧ x < 2147483647 ∧ m__law_mix [.int c,.int k] = some (.int x):=by
 obtain ⟨q,hq⟩:∃ q,q = ((c % 2147483629 + 1) * (48271 + 69621 * k + 2 * k * k) + k) % 2147483647:=⟨_,rfl⟩
 have q0:0 ≤ q:=by rw [hq]; exact Int.emod_nonneg _ (by decide)
 have q1:q < 2147483647:=by rw [hq]; exact Int.emod_lt_of_pos _ (by decide)
 refine ⟨q / 7,by omega,by omega,mkF_rt rfl (seq_rt (ret_of ?_))⟩
 have kk:2 * k * k ≤ 2 * 1000000 * 1000000:=by
  have:=Int.mul_le_mul h1 h1 h0 (by omega)
  rw [Int.mul_assoc]
  omega
 have kk0:0 ≤ 2 * k * k:=by
  have:=Int.mul_nonneg h0 h0
  rw [Int.mul_assoc]
  omega
 rw [o2_of (x:=.int q) (y:=.int 7) (by
  rw [o2_of (x:=.int ((c % 2147483629 + 1) * (48271 + 69621 * k + 2 * k * k) + k)) (y:=.int 2147483647) (by
   rw [o2_of (x:=.int ((c % 2147483629 + 1) * (48271 + 69621 * k + 2 * k * k))) (y:=.int k) (by
    rw [o2_of (x:=.int (c % 2147483629 + 1)) (y:=.int (48271 + 69621 * k + 2 * k * k)) rfl (by
     rw [o2_of (x:=.int (48271 + 69621 * k)) (y:=.int (2 * k * k)) (by
      rw [o2_of (x:=.int 48271) (y:=.int (69621 * k)) rfl (by rw [o2_of (x:=.int 69621) (y:=.int k) rfl rfl]; exact Gw.mul_r _ _ (by omega))]
      rfl) (by
      rw [o2_of (x:=.int (2 * k)) (y:=.int k) (by rw [o2_of (x:=.int 2) (y:=.int k) rfl rfl]; exact Gw.mul_r _ _ (by omega)) rfl]
      exact Gw.mul_r _ _ (by omega))]
     rfl)]
    exact Gw.mul_r _ _ (by omega)) rfl]
   rfl) rfl]
  rw [hq]
  exact Gw.mod_p _ _ (by decide)) rfl]
 rfl
structure Pool (nm:List Str):Prop where
 len:nm.length = 12
 names:∀ s ∈ nm,isName s = true
 nd:nm.Nodup
theorem pool_ok (c:Int):∃ nm,m__law_pool [.int c,.int 12] = some (.lst (nm.map .str)) ∧ Pool nm:=by
 have z:(1000:Nat) ≤ sizeLine:=by decide
 obtain ⟨x20,a0,a1,a2⟩:=mix_ok c 20 (by decide) (by decide)
 obtain ⟨x21,b0,b1,b2⟩:=mix_ok c 21 (by decide) (by decide)
 obtain ⟨f,hf⟩:∃ f:Nat → Int,∀ j:Nat,j < 8 → 0 ≤ f j ∧ f j < 36 ∧ ∀ δ:Ds,o2 (oA (consA (gv 1) (consA (gv 0) nilA)) m__law_mix) (gc (.int 36)) modD (.sh (.int (j:Int)) :: .sh (.int c) :: δ) = some (.int (f j)):=by
  have:∀ j:Nat,∃ v:Int,j < 8 → 0 ≤ v ∧ v < 36 ∧ ∀ δ:Ds,o2 (oA (consA (gv 1) (consA (gv 0) nilA)) m__law_mix) (gc (.int 36)) modD (.sh (.int (j:Int)) :: .sh (.int c) :: δ) = some (.int v):=fun j=>by
   by_cases hj:j < 8
   ·obtain ⟨x,y0,y1,y2⟩:=mix_ok c (j:Int) (by omega) (by omega)
    refine ⟨x % 36,fun _=>⟨by omega,by omega,fun δ=>?_⟩⟩
    rw [o2_of (x:=.int x) (y:=.int 36) (by rw [oA_of (ds:=[.int c,.int (j:Int)]) rfl]; exact y2) rfl]
    rfl
   ·exact ⟨0,fun h=>absurd h hj⟩
  obtain ⟨f,hf⟩:=Classical.axiomOfChoice this
  exact ⟨f,hf⟩
 obtain ⟨n,hn⟩:∃ n:Nat,(n:Int) = x20 % 8:=⟨(x20 % 8).toNat,by omega⟩
 have n8:n < 8:=by omega
 obtain ⟨w,hw⟩:∃ w:List Nat,w = (List.range n).map fun j=>cg (f j):=⟨_,rfl⟩
 have wl:w.length = n:=by rw [hw]; simp
 have wm:∀ x ∈ w,x ∈ nameS.cps.toList:=fun x hx=>by
  rw [hw] at hx
  obtain ⟨j,hj,rfl⟩:=List.mem_map.mp hx
  have hj:=List.mem_range.mp hj
  exact cg_mem _ (hf j (by omega)).1 (hf j (by omega)).2.1
 have base:∀ s3 s4:Sl,joinG (gc (.str "")) (consA (compG 1 [0,2] (rng1I (consA (o2 (oA (consA (gv 0) (consA (gc (.int 20)) nilA)) m__law_mix) (gc (.int 8)) modD) nilA)) (gN 0) noT (o2 (gv 2) (o2 (oA (consA (gv 1) (consA (gv 0) nilA)) m__law_mix) (gc (.int 36)) modD) ixD)) nilA) [.sh (.int c),.sh (.int 12),.sh (.str signS),s3,s4] = some (.str (strOf w)):=fun s3 s4=>by
  rw [join_of (x:=.str "") (ds:=[.lst ((ones w).map .str)]) rfl (cons_of (comp_of (items:=rngD 0 (n:Int)) (rng1_of (cons_of (by
   rw [o2_of (x:=.int x20) (y:=.int 8) (by rw [oA_of (ds:=[.int c,.int 20]) rfl]; exact a2) rfl,hn]
   rfl) rfl) (by omega) (by omega)) (by rw [rng_len]; omega) (by
   have q:=comp_rng (gt:=noT) (ge:=(o2 (gv 2) (o2 (oA (consA (gv 1) (consA (gv 0) nilA)) m__law_mix) (gc (.int 36)) modD) ixD)) (δ:=[.un,.sh (.int c),.sh (.str signS)]) (n:=(n:Int)) (fun j=>.str ⟨#[cg (f j)]⟩) (fun k hk=>⟨[.sh (.int (k:Int)),.sh (.int c),.sh (.str signS)],rfl,rfl,by
    have hk':k < n:=by omega
    obtain ⟨g0,g1,g2⟩:=hf k (by omega)
    rw [o2_of (x:=.str signS) (y:=.int (f k)) rfl (g2 _)]
    exact sign_at (f k) g0 g1⟩)
   refine q.trans ?_
   rw [Int.toNat_natCast,hw]
   unfold ones
   rw [List.map_map,List.map_map]
   rfl)) rfl)]
  have e1:=strs_map id (ones w)
  have e1':strL ((ones w).map D.str) = some (ones w):=by simpa using e1
  simp only [joinD]
  rw [e1',Option.bind_some,sum_ones',join_ones,if_pos (by
   have:("" : PySem.Str).length = 0:=by decide +kernel
   rw [this]; omega)]
 obtain ⟨a,ha⟩:∃ a:Nat,(a:Int) = x21 % ((n:Int) + 1):=⟨(x21 % ((n:Int) + 1)).toNat,by have:=Int.emod_nonneg x21 (by omega:(n:Int) + 1 ≠ 0); omega⟩
 have han:a ≤ n:=by have:=Int.emod_lt_of_pos x21 (by omega:(0:Int) < (n:Int) + 1); omega
 obtain ⟨F,hF⟩:∃ F:Nat → List Nat,F = fun (k:Nat)=>w.take a ++ cg ((3 * (k:Int) + c) % 36) :: w.drop a:=⟨_,rfl⟩
 have Fl:∀ k,(F k).length = n + 1:=fun k=>by
  rw [hF]
  show (w.take a ++ cg ((3 * (k:Int) + c) % 36) :: w.drop a).length = n + 1
  rw [List.length_append,List.length_cons,List.length_take,List.length_drop]
  omega
 refine ⟨(List.range 12).map fun k=>strOf (F k),mkN_rf rfl (seq_to (set_of (d:=.str signS) rfl) (seq_to (set_of (d:=.str (strOf w)) (base _ _)) (seq_to (set_of (d:=.int (a:Int)) ?_) (seq_rf (retF_of (comp_of (items:=rngD 0 12) rfl (by rw [rng_len]; show (12:Nat) ≤ _; omega) ?_)))))),by simp,fun s hs=>?_,?_⟩
 ·rw [o2_of (x:=.int x21) (y:=.int ((n:Int) + 1)) (by rw [oA_of (ds:=[.int c,.int 21]) rfl]; exact b2) (by
   rw [o2_of (x:=.int (n:Int)) (y:=.int 1) (by
    rw [oA_of (ds:=[.str (strOf w)]) rfl]
    simp only [lenD]
    rw [strOf_len,wl,if_pos (by omega)]) rfl]
   rfl),Gw.mod_p _ _ (by omega),ha]
 ·have q:=comp_rng (gt:=noT) (ge:=(o2 (o2 (slAG (gv 3) noneO (someO (gv 4))) (o2 (gv 2) (o2 (o2 (o2 (gc (.int 3)) (gv 0) mulA) (gv 1) addA) (gc (.int 36)) modD) ixD) addA) (slAG (gv 3) (someO (gv 4)) noneO) addA)) (δ:=[.un,.sh (.int c),.sh (.str signS),.sh (.str (strOf w)),.sh (.int (a:Int))]) (n:=12) (fun k=>.str (strOf (F k))) (fun k hk=>⟨[.sh (.int (k:Int)),.sh (.int c),.sh (.str signS),.sh (.str (strOf w)),.sh (.int (a:Int))],rfl,rfl,by
   have hk':(k:Int) < 12:=hk
   have t1:slAG (gv 3) noneO (someO (gv 4)) [.sh (.int (k:Int)),.sh (.int c),.sh (.str signS),.sh (.str (strOf w)),.sh (.int (a:Int))] = some (.str (strOf (w.take a))):=by
    show slA (.str (strOf w)) none (some (a:Int)) = _
    simp only [slA]
    rw [if_pos (by rw [strOf_len,wl]; omega),Gw.take_s _ _ (by omega) (by omega),Int.toNat_natCast]
   have t2:slAG (gv 3) (someO (gv 4)) noneO [.sh (.int (k:Int)),.sh (.int c),.sh (.str signS),.sh (.str (strOf w)),.sh (.int (a:Int))] = some (.str (strOf (w.drop a))):=by
    show slA (.str (strOf w)) (some (a:Int)) none = _
    simp only [slA]
    rw [if_pos (by rw [strOf_len,wl]; omega),Gw.drop_s _ _ (by omega) (by omega),Int.toNat_natCast]
   have t3:o2 (gv 2) (o2 (o2 (o2 (gc (.int 3)) (gv 0) mulA) (gv 1) addA) (gc (.int 36)) modD) ixD [.sh (.int (k:Int)),.sh (.int c),.sh (.str signS),.sh (.str (strOf w)),.sh (.int (a:Int))] = some (.str (strOf [cg ((3 * (k:Int) + c) % 36)])):=by
    rw [o2_of (x:=.str signS) (y:=.int ((3 * (k:Int) + c) % 36)) rfl (by
     rw [o2_of (x:=.int (3 * (k:Int) + c)) (y:=.int 36) (by
      rw [o2_of (x:=.int (3 * (k:Int))) (y:=.int c) (by rw [o2_of (x:=.int 3) (y:=.int (k:Int)) rfl rfl]; exact Gw.mul_l _ _ (by decide)) rfl]
      rfl) rfl]
     rfl)]
    exact sign_at _ (by omega) (by omega)
   rw [o2_of (x:=.str (strOf (w.take a ++ [cg ((3 * (k:Int) + c) % 36)]))) (y:=.str (strOf (w.drop a))) (by
    rw [o2_of t1 t3]
    exact Gw.add_s _ _ (by rw [List.length_take]; simp; omega)) t2]
   rw [Gw.add_s _ _ (by rw [List.length_append,List.length_take,List.length_drop]; simp; omega),hF]
   show some (D.str (strOf _)) = some (D.str (strOf (w.take a ++ cg ((3 * (k:Int) + c) % 36) :: w.drop a)))
   rw [List.append_assoc]
   rfl⟩)
  refine q.trans ?_
  rw [List.map_map]
  rfl
 ·obtain ⟨k,hk,rfl⟩:=List.mem_map.mp hs
  refine isName_of _ (by rw [Fl]; omega) (by rw [Fl]; omega) fun x hx=>?_
  rw [hF] at hx
  rcases List.mem_append.mp hx with q | q
  ·exact wm x (List.mem_of_mem_take q)
  ·rcases List.mem_cons.mp q with rfl | q
   ·exact cg_mem _ (by omega) (by omega)
   ·exact wm x (List.mem_of_mem_drop q)
 ·refine List.nodup_iff_pairwise_ne.mpr (List.pairwise_map.mpr (List.Pairwise.imp_of_mem ?_ (List.nodup_range (n:=12))))
  intro i j hi hj hij e
  have hi:=List.mem_range.mp hi
  have hj:=List.mem_range.mp hj
  have e:=strOf_inj e
  rw [hF] at e
  have e:w.take a ++ cg ((3 * (i:Int) + c) % 36) :: w.drop a = w.take a ++ cg ((3 * (j:Int) + c) % 36) :: w.drop a:=e
  have e:=List.append_cancel_left e
  have e:=(List.cons.inj e).1
  have e:=cg_inj _ _ (by omega) (by omega) (by omega) (by omega) e
  omega
end Bw
namespace Bw
open PySem DL W
theorem b_of {g:GE} {δ:Ds} {b:Bool} (h:g δ = some (.bl b)):ob g δ = some b:=by
 unfold ob
 rw [h]
 rfl
noncomputable def dg (r:Nat):List Int:=if h:r = 0 then [] else ((128 + r % 128:Nat):Int) :: dg (r / 128)
termination_by r
decreasing_by omega
theorem dg_0:dg 0 = []:=by unfold dg; rw [dif_pos rfl]
theorem dg_s (r:Nat) (h:r ≠ 0):dg r = ((128 + r % 128:Nat):Int) :: dg (r / 128):=by conv=>lhs; unfold dg; rw [dif_neg h]
noncomputable def hi (r:Nat):List Int:=(dg r).reverse
theorem hi_0:hi 0 = []:=by unfold hi; rw [dg_0]; rfl
theorem hi_s (r:Nat) (h:r ≠ 0):hi r = hi (r / 128) ++ [((128 + r % 128:Nat):Int)]:=by unfold hi; rw [dg_s r h,List.reverse_cons]
noncomputable def bs (n:Nat):List Int:=hi (n / 128) ++ [((n % 128:Nat):Int)]
theorem hi_len:∀ (m r:Nat),r < 2 ^ m → (hi r).length ≤ m:=by
 intro m
 induction m with
 | zero =>
  intro r h
  have h2:r = 0:=by
   simp at h
   exact h
  subst h2
  rw [hi_0]
  exact Nat.le_refl _
 | succ m ih =>
  intro r h
  by_cases h0:r = 0
  ·subst h0; rw [hi_0]; exact Nat.zero_le _
  ·rw [hi_s r h0,List.length_append]
   have:2 ^ (m + 1) = 2 ^ m * 2:=Nat.pow_succ 2 m
   have:=ih (r / 128) (by omega)
   simp only [List.length_cons,List.length_nil]
   omega
theorem bs_len (n:Nat) (h:n < 2 ^ 300):(bs n).length ≤ 301:=by
 unfold bs
 rw [List.length_append]
 have:=hi_len 300 (n / 128) (Nat.lt_of_le_of_lt (Nat.div_le_self _ _) h)
 simp only [List.length_cons,List.length_nil]
 omega
noncomputable def VT:GB:=(ob (o2 (gv 0) (gc (.int 127)) gtD))
noncomputable def VB:GS:=(seqD (setD (gN 0) (o2 (gv 0) (gc (.int 128)) fdivD))
 (seqD (exprX (ins0X 1 (o2 (gc (.int 128)) (o2 (gv 0) (gc (.int 128)) modD) addA)))
 nilD))
theorem vt (b:Sl) (r:Nat):VT [.sh (.int (r:Int)),b] = some (decide (127 < r)):=by
 show some (decide ((127:Int) < (r:Int))) = _
 by_cases h:127 < r
 ·rw [decide_eq_true h,decide_eq_true (by omega)]
 ·rw [decide_eq_false h,decide_eq_false (by omega)]
theorem ins_ow {i:Nat} {g:GE} {δ:Ds} {l:List D} {d:D} (h1:owL i δ = some l) (h2:g δ = some d) (h3:l.length < sizeLine):exprX (ins0X i g) δ = some (.nx (δ.set i (.ow (.lst (d :: l))))):=by
 unfold exprX ins0X
 rw [h1,h2]
 simp only [Option.bind_some]
 rw [if_pos h3]
 rfl
theorem vh:∀ (m r:Nat) (o:List Int) (f:Nat),r < 2 ^ m → m < f → o.length + m < sizeLine →
  ∃ s,whileD VT VB f [.sh (.int (r:Int)),.ow (.lst (o.map .int))] = some (.nx [s,.ow (.lst ((hi (r / 128) ++ o).map .int))])
 | m,r,o,0,_,hf,_=>absurd hf (Nat.not_lt_zero _)
 | m,r,o,f + 1,hr,hf,hl=>by
  by_cases h0:r / 128 = 0
  ·unfold whileD
   rw [vt,decide_eq_false (by omega),h0,hi_0]
   exact ⟨_,rfl⟩
  ·cases m with
   | zero=>simp at hr; omega
   | succ m =>
    have hb:VB [.sh (.int (r:Int)),.ow (.lst (o.map .int))] = some (.nx [.sh (.int ((r / 128:Nat):Int)),.ow (.lst ((((128 + r / 128 % 128:Nat):Int) :: o).map .int))]):=by
     have e1:(128:Int) + ((r / 128:Nat):Int) % 128 = ((128 + r / 128 % 128:Nat):Int):=by omega
     have e2:(r:Int) / 128 = ((r / 128:Nat):Int):=by omega
     refine seq_to (set_of (d:=.int ((r / 128:Nat):Int)) (by rw [← e2]; rfl)) ?_
     refine seq_to (ins_ow (l:=o.map .int) (d:=.int (128 + ((r / 128:Nat):Int) % 128)) rfl rfl (by rw [List.length_map]; omega)) ?_
     rw [e1]
     rfl
    have h2:r / 128 < 2 ^ m:=by
     have:2 ^ (m + 1) = 2 ^ m * 2:=Nat.pow_succ 2 m
     omega
    obtain ⟨s,e⟩:=vh m (r / 128) (((128 + r / 128 % 128:Nat):Int) :: o) f h2 (by omega) (by simp only [List.length_cons]; omega)
    refine ⟨s,?_⟩
    unfold whileD
    rw [vt,decide_eq_true (by omega)]
    simp only [hb]
    rw [e,hi_s (r / 128) h0,List.append_assoc]
    rfl
theorem dig_ok (n:Nat) (h:n < 2 ^ 300):m__law_digits [.int (n:Int)] = some (.lst ((bs n).map .int)):=by
 have z:(1000:Nat) ≤ sizeLine:=by decide
 obtain ⟨s,e⟩:=vh 300 n [((n % 128:Nat):Int)] 100000 h (by decide) (by show 1 + 300 < _; omega)
 refine mkN_rf rfl ?_
 have e1:(n:Int) % 128 = ((n % 128:Nat):Int):=by omega
 refine seq_to (δ':=[.sh (.int (n:Int)),.ow (.lst [.int ((n % 128:Nat):Int)])]) (by rw [← e1]; rfl) ?_
 exact seq_to e (seq_rf rfl)
inductive Vb:D → Prop
 | non:Vb .non
 | lk (j:Nat) (h:j < 1000):Vb (.tup [.str "at",.int (j:Int)])
 | int (z:Int) (h:z.natAbs < 2 ^ 250):Vb (.int z)
noncomputable def fold (z:Int):Nat:=if z < 0 then (-2 * z - 1).toNat else (2 * z).toNat
noncomputable def vn:D → Nat
 | .tup [_,.int j]=>(2 * j + 2).toNat
 | .int z=>2 * fold z + 1
 | _=>0
theorem fold_lt (z:Int) (h:z.natAbs < 2 ^ 250):fold z < 2 ^ 252:=by
 unfold fold
 have e:(2:Nat) ^ 252 = 4 * 2 ^ 250:=by decide +kernel
 generalize (2:Nat) ^ 250 = w at h e
 split <;> omega
theorem vn_lt {v:D} (h:Vb v):vn v < 2 ^ 300:=by
 cases h with
 | non=>show 0 < _; decide +kernel
 | lk j h =>
  show (2 * (j:Int) + 2).toNat < _
  have:(2:Nat) ^ 12 < 2 ^ 300:=by decide +kernel
  have e:(2:Nat) ^ 12 = 4096:=by decide
  generalize (2:Nat) ^ 300 = w at this
  omega
 | int z h =>
  show 2 * fold z + 1 < _
  have:=fold_lt z h
  have e:(2:Nat) ^ 252 + 2 ^ 252 < 2 ^ 300:=by decide +kernel
  generalize (2:Nat) ^ 300 = w at e
  generalize (2:Nat) ^ 252 = w at e this
  omega
theorem bs_0:bs 0 = [0]:=by unfold bs; rw [show 0 / 128 = 0 from rfl,hi_0]; rfl
theorem vbytes_ok {v:D} (h:Vb v):m__law_value_bytes [v] = some (.lst ((bs (vn v)).map .int)):=by
 have hlt:=vn_lt h
 cases h with
 | non =>
  show _ = some (D.lst ((bs 0).map .int))
  rw [bs_0]
  rfl
 | lk j h =>
  refine mkN_rf rfl (seq_to (δ':=[.sh (.tup [.str "at",.int (j:Int)])]) rfl (seq_rf ?_))
  rw [if_t rfl]
  refine seq_rf (retF_of ?_)
  rw [oA_of (ds:=[.int ((vn (.tup [.str "at",.int (j:Int)]):Nat):Int)]) (cons_of ?_ rfl)]
  ·exact dig_ok _ hlt
  ·rw [o2_of (x:=.int (2 * (j:Int))) (y:=.int 2) (by rw [o2_of (x:=.int 2) (y:=.int (j:Int)) rfl rfl]; exact Gw.mul_l _ _ (by decide)) rfl]
   have:((vn (.tup [.str "at",.int (j:Int)]):Nat):Int) = 2 * (j:Int) + 2:=by show (((2 * (j:Int) + 2).toNat:Nat):Int) = _; omega
   rw [this]
   rfl
 | int z h =>
  by_cases hz:z < 0
  ·refine mkN_rf rfl (seq_to (δ':=[.sh (.int z)]) rfl (seq_to (δ':=[.sh (.int z)]) rfl (seq_rf ?_)))
   rw [if_t (by show some (decide (z < 0)) = _; rw [decide_eq_true hz])]
   refine seq_rf (retF_of ?_)
   rw [oA_of (ds:=[.int ((vn (.int z):Nat):Int)]) (cons_of ?_ rfl)]
   ·exact dig_ok _ hlt
   ·rw [o2_of (x:=.int (2 * (0 - 2 * z - 1))) (y:=.int 1) (by
     rw [o2_of (x:=.int 2) (y:=.int (0 - 2 * z - 1)) rfl (by
      rw [o2_of (x:=.int (0 - 2 * z)) (y:=.int 1) (by
       rw [o2_of (x:=.int 0) (y:=.int (2 * z)) rfl (by rw [o2_of (x:=.int 2) (y:=.int z) rfl rfl]; exact Gw.mul_l _ _ (by decide))]
       rfl) rfl]
      rfl)]
     exact Gw.mul_l _ _ (by decide)) rfl]
    have:((vn (.int z):Nat):Int) = 2 * (0 - 2 * z - 1) + 1:=by
     show (((2 * fold z + 1):Nat):Int) = _
     unfold fold
     rw [if_pos hz]
     omega
    rw [this]
    rfl
  ·refine mkN_rf rfl (seq_to (δ':=[.sh (.int z)]) rfl (seq_to (δ':=[.sh (.int z)]) rfl (seq_to (δ':=[.sh (.int z)]) (by rw [if_f (by show some (decide (z < 0)) = _; rw [decide_eq_false hz])]; rfl) (seq_rf (retF_of ?_)))))
   rw [oA_of (ds:=[.int ((vn (.int z):Nat):Int)]) (cons_of ?_ rfl)]
   ·exact dig_ok _ hlt
   ·rw [o2_of (x:=.int (4 * z)) (y:=.int 1) (by rw [o2_of (x:=.int 4) (y:=.int z) rfl rfl]; exact Gw.mul_l _ _ (by decide)) rfl]
    have:((vn (.int z):Nat):Int) = 4 * z + 1:=by
     show (((2 * fold z + 1):Nat):Int) = _
     unfold fold
     rw [if_neg hz]
     omega
    rw [this]
    rfl
noncomputable def sg (s:Str):List Int:=s.cps.toList.map fun (c:Nat)=>(c:Int)
theorem sg_len (s:Str):(sg s).length = s.length:=by unfold sg; rw [List.length_map]; rfl
theorem comp_ord (s:Str):compD (gN 0) noT (oA (consA (gv 0) nilA) ordD) [.un] (signs s) = some ((sg s).map .int):=by
 unfold signs
 rw [compD_map (fun d=>match d with | .str x=>.int ((x.cps.toList.headD 0:Nat):Int) | _=>.non) (fun d hd=>by
  obtain ⟨c,hc,rfl⟩:=List.mem_map.mp hd
  exact ⟨[.sh (.str ⟨#[c]⟩)],rfl,rfl,rfl⟩)]
 unfold sg
 rw [List.map_map,List.map_map]
 rfl
theorem sg_ok (s:Str) (h:s.length ≤ sizeLine):m__law_signs [.str s] = some (.lst ((sg s).map .int)) :=
 mkN_rf rfl (seq_rf (retF_of (comp_of (items:=signs s) rfl (by unfold signs; rw [List.length_map]; exact h) (comp_ord s))))
theorem add_l (a b:List Int) (h:a.length + b.length ≤ sizeLine):addA (.lst (a.map .int)) (.lst (b.map .int)) = some (.lst ((a ++ b).map .int)):=by
 simp only [addA]
 rw [if_pos (by rw [List.length_map,List.length_map]; exact h),List.map_append]
theorem ext_ow {i:Nat} {g:GE} {δ:Ds} {l e:List Int} (h1:owL i δ = some (l.map .int)) (h2:g δ = some (.lst (e.map .int))) (h3:l.length + e.length ≤ sizeLine):exprX (extX i g) δ = some (.nx (δ.set i (.ow (.lst ((l ++ e).map .int))))):=by
 unfold exprX extX
 rw [h1,h2]
 simp only [Option.bind_some]
 rw [if_pos (by rw [List.length_map,List.length_map]; exact h3),List.map_append]
 rfl
theorem fm_len {α:Type} (f:α → List Int) (c:Nat):∀ l:List α,(∀ d ∈ l,(f d).length ≤ c) → (l.flatMap f).length ≤ l.length * c
 | [],_=>by simp
 | a :: l,h=>by
  rw [List.flatMap_cons,List.length_append,List.length_cons,Nat.add_mul]
  have h1:=h a List.mem_cons_self
  have h2:=fm_len f c l fun d hd=>h d (List.mem_cons_of_mem _ hd)
  omega
theorem take_fm {α:Type} (f:α → List Int) {l:List α} {j:Nat} {d:α} (h:l[j]? = some d):(l.take j).flatMap f ++ f d = (l.take (j + 1)).flatMap f:=by
 rw [List.take_succ,h,List.flatMap_append]
 simp
noncomputable def ib:D → List Int
 | .str s=>bs s.length ++ sg s
 | v=>bs (vn v)
noncomputable def Ib (d:D):Prop:=(∃ s:Str,d = .str s ∧ s.length ≤ 20) ∨ Vb d
theorem Vb.ib {d:D} (h:Vb d):ib d = bs (vn d):=by cases h <;> rfl
theorem small {n:Nat} (h:n ≤ 100000000):n < 2 ^ 300:=Nat.lt_of_le_of_lt h (by decide +kernel)
theorem ib_len {d:D} (h:Ib d):(ib d).length ≤ 330:=by
 rcases h with ⟨s,rfl,hs⟩ | h
 ·show (bs s.length ++ sg s).length ≤ _
  have:=bs_len s.length (small (by omega))
  rw [List.length_append,sg_len]
  omega
 ·rw [h.ib]
  have:=bs_len _ (vn_lt h)
  omega
theorem strlen_of {g:GE} {δ:Ds} {s:Str} (h:g δ = some (.str s)) (hs:s.length ≤ sizeLine):oA (consA g nilA) lenD δ = some (.int (s.length:Int)):=by
 rw [oA_of (ds:=[.str s]) (cons_of h rfl)]
 simp only [lenD]
 rw [if_pos hs]
noncomputable def cnt:Pt → Nat
 | .text w=>w.length
 | .row vs=>vs.length
 | .table ps=>ps.length
 | .rcd _ ps=>ps.length
noncomputable def kn:Pt → Nat
 | .text _=>0
 | .row _=>1
 | .table _=>2
 | .rcd _ _=>3
noncomputable def two (p:Str × D):List D:=[.str p.1,p.2]
noncomputable def its:Pt → List D
 | .text _=>[]
 | .row vs=>vs
 | .table ps=>ps.flatMap two
 | .rcd c ps=>.str c :: ps.flatMap two
noncomputable def tx:Pt → List Int
 | .text w=>sg w
 | _=>[]
noncomputable def pb (p:Pt):List Int:=bs (4 * cnt p + kn p) ++ tx p ++ (its p).flatMap ib
structure Gp (p:Pt):Prop where
 cnt:cnt p ≤ 20
 len:(its p).length ≤ 50
 it:∀ d ∈ its p,Ib d
theorem tx_len {p:Pt} (h:Gp p):(tx p).length ≤ 20:=by
 cases p with
 | text w=>show (sg w).length ≤ 20; rw [sg_len]; exact h.cnt
 | _=>exact Nat.zero_le _
theorem kn_le (p:Pt):kn p ≤ 3:=by cases p <;> simp [kn]
theorem head_len {p:Pt} (h:Gp p):(bs (4 * cnt p + kn p)).length ≤ 301:=bs_len _ (small (by have:=h.cnt; have:=kn_le p; omega))
theorem pb_len {p:Pt} (h:Gp p):(pb p).length ≤ 20000:=by
 unfold pb
 have h1:=tx_len h
 have h2:=head_len h
 have h3:=fm_len ib 330 (its p) fun d hd=>ib_len (h.it d hd)
 have h4:=h.len
 rw [List.length_append,List.length_append]
 have:(its p).length * 330 ≤ 50 * 330:=Nat.mul_le_mul_right _ h4
 omega
theorem last_ok {p:Pt} (h:cnt p ≤ 20) (δ:Ds):oA (consA (o2 (gv 0) (unG negD (gc (.int 1))) ixD) nilA) lenD (.sh p.d :: δ) = some (.int (cnt p:Int)):=by
 have z:(1000:Nat) ≤ sizeLine:=by decide
 cases p with
 | text w =>
  have h:w.length ≤ 20:=h
  exact strlen_of rfl (by omega)
 | row vs=>rfl
 | table ps =>
  show some (D.int (((ps.map pr).length:Nat):Int)) = _
  rw [List.length_map]
  rfl
 | rcd c ps =>
  show some (D.int (((ps.map pr).length:Nat):Int)) = _
  rw [List.length_map]
  rfl
theorem lidx (p:Pt) (δ:Ds):methG (lstG (consA (gc (.str "text")) (consA (gc (.str "row")) (consA (gc (.str "table")) (consA (gc (.str "record")) nilA))))) (consA (o2 (gv 0) (gc (.int 0)) ixD) nilA) idxD (.sh p.d :: δ) = some (.int (kn p:Int)):=by
 cases p <;> kernel_rfl
theorem cast4 (a b:Nat):4 * (a:Int) + (b:Int) = ((4 * a + b:Nat):Int):=by omega
theorem two_len:∀ ps:List (Str × D),(ps.flatMap two).length = 2 * ps.length
 | []=>rfl
 | p :: ps=>by rw [List.flatMap_cons,List.length_append,two_len ps,List.length_cons]; show 2 + _ = _; omega
noncomputable def RB:GS:=(seqD (setD (gN 2) (o2 (gv 2) (oA (consA (gv 3) nilA) m__law_value_bytes) addA))
 nilD)
noncomputable def TB:GS:=(seqD (setD (gN 2) (o2 (o2 (gv 2) (oA (consA (oA (consA (gv 4) nilA) lenD) nilA) m__law_digits) addA) (oA (consA (gv 4) nilA) m__law_signs) addA))
 (seqD (setD (gN 2) (o2 (gv 2) (oA (consA (gv 3) nilA) m__law_value_bytes) addA))
 nilD))
theorem row_loop (a b e:Sl) (pre:List Int) (l:List D) (hi:∀ d ∈ l,Vb d) (hl:pre.length + l.length * 330 ≤ sizeLine) (s:Sl):∃ s',forD (gN 3) RB l [a,b,.sh (.lst (pre.map .int)),s,e] = some (.nx [a,b,.sh (.lst ((pre ++ l.flatMap ib).map .int)),s',e]):=by
 obtain ⟨δ',l1,l2⟩:=forD_inv (f:=gN 3) (G:=RB) (fun i δ=>∃ s,δ = [a,b,.sh (.lst ((pre ++ (l.take i).flatMap ib).map .int)),s,e]) l 0 [a,b,.sh (.lst (pre.map .int)),s,e] (by
  rintro j d δ hj ⟨s,rfl⟩
  have hjl:=(List.getElem?_eq_some_iff.mp hj).1
  have hd:=hi d (List.mem_of_getElem? hj)
  have hdl:=ib_len (.inr hd)
  have hpl:=fm_len ib 330 (l.take j) fun d hd=>ib_len (.inr (hi d (List.mem_of_mem_take hd)))
  rw [Nat.zero_add]
  refine ⟨_,_,rfl,seq_to (set_of (d:=.lst ((pre ++ (l.take j).flatMap ib ++ ib d).map .int)) ?_) rfl,.sh d,?_⟩
  ·rw [o2_of (x:=.lst ((pre ++ (l.take j).flatMap ib).map .int)) (y:=.lst ((ib d).map .int)) rfl (by rw [oA_of (ds:=[d]) rfl,hd.ib]; exact vbytes_ok hd)]
   exact add_l _ _ (by
    rw [List.length_append]
    rw [List.length_take] at hpl
    have:(min j l.length) * 330 + 330 ≤ l.length * 330:=by
     have:min j l.length = j:=by omega
     rw [this]
     omega
    omega)
  ·rw [List.append_assoc,take_fm ib hj]
   rfl) ⟨s,by simp⟩
 obtain ⟨s',rfl⟩:=l2
 refine ⟨s',?_⟩
 rw [l1,Nat.zero_add,List.take_length]
noncomputable def pbs (p:Str × D):List Int:=ib (.str p.1) ++ ib p.2
theorem pbs_fm:∀ ps:List (Str × D),ps.flatMap pbs = (ps.flatMap two).flatMap ib
 | []=>rfl
 | p :: ps=>by
  rw [List.flatMap_cons,List.flatMap_cons,List.flatMap_append,pbs_fm ps]
  unfold two pbs
  simp
theorem pairs_loop (a b:Sl) (pre:List Int) (l:List (Str × D)) (hi:∀ d ∈ l,d.1.length ≤ 20 ∧ Vb d.2) (hl:pre.length + l.length * 660 ≤ sizeLine) (s e:Sl) :
  ∃ s' e',forD (tup2 4 3) TB (l.map pr) [a,b,.sh (.lst (pre.map .int)),s,e] = some (.nx [a,b,.sh (.lst ((pre ++ l.flatMap pbs).map .int)),s',e']):=by
 have z:(1000:Nat) ≤ sizeLine:=by decide
 obtain ⟨δ',l1,l2⟩:=forD_inv (f:=tup2 4 3) (G:=TB) (fun i δ=>∃ s e,δ = [a,b,.sh (.lst ((pre ++ (l.take i).flatMap pbs).map .int)),s,e]) (l.map pr) 0 [a,b,.sh (.lst (pre.map .int)),s,e] (by
  rintro j d δ hj ⟨s,e,rfl⟩
  rw [List.getElem?_map] at hj
  cases hp:l[j]? with
  | none=>rw [hp] at hj; cases hj
  | some p =>
   rw [hp] at hj
   cases hj
   have hjl:=(List.getElem?_eq_some_iff.mp hp).1
   obtain ⟨hn,hv⟩:=hi p (List.mem_of_getElem? hp)
   have h1:(ib (.str p.1)).length ≤ 330:=ib_len (.inl ⟨_,rfl,hn⟩)
   have h2:(ib p.2).length ≤ 330:=ib_len (.inr hv)
   have hpl:=fm_len pbs 660 (l.take j) fun d hd=>by
    obtain ⟨q1,q2⟩:=hi d (List.mem_of_mem_take hd)
    have a1:=ib_len (.inl ⟨_,rfl,q1⟩:Ib (.str d.1))
    have a2:=ib_len (.inr q2)
    unfold pbs
    rw [List.length_append]
    omega
   rw [Nat.zero_add]
   have hsz:pre.length + ((l.take j).flatMap pbs).length + 660 ≤ sizeLine:=by
    rw [List.length_take] at hpl
    have:(min j l.length) * 660 + 660 ≤ l.length * 660:=by
     have:min j l.length = j:=by omega
     rw [this]
     omega
    omega
   have hib:ib (.str p.1) = bs p.1.length ++ sg p.1:=rfl
   rw [hib,List.length_append] at h1
   refine ⟨[a,b,.sh (.lst ((pre ++ (l.take j).flatMap pbs).map .int)),.sh p.2,.sh (.str p.1)],_,rfl,seq_to (set_of (d:=.lst ((pre ++ (l.take j).flatMap pbs ++ bs p.1.length ++ sg p.1).map .int)) ?_) (seq_to (set_of (d:=.lst ((pre ++ (l.take j).flatMap pbs ++ bs p.1.length ++ sg p.1 ++ ib p.2).map .int)) ?_) rfl),.sh p.2,.sh (.str p.1),?_⟩
   ·rw [o2_of (x:=.lst ((pre ++ (l.take j).flatMap pbs ++ bs p.1.length).map .int)) (y:=.lst ((sg p.1).map .int)) (by
     rw [o2_of (x:=.lst ((pre ++ (l.take j).flatMap pbs).map .int)) (y:=.lst ((bs p.1.length).map .int)) rfl (by
      rw [oA_of (ds:=[.int (p.1.length:Int)]) (cons_of (strlen_of rfl (by omega)) rfl)]
      exact dig_ok _ (small (by omega)))]
     exact add_l _ _ (by rw [List.length_append]; omega)) (by rw [oA_of (ds:=[.str p.1]) rfl]; exact sg_ok _ (by omega))]
    exact add_l _ _ (by rw [List.length_append,List.length_append]; omega)
   ·change o2 _ _ _ [a,b,.sh (.lst ((pre ++ (l.take j).flatMap pbs ++ bs p.1.length ++ sg p.1).map .int)),.sh p.2,.sh (.str p.1)] = _
    rw [o2_of (x:=.lst ((pre ++ (l.take j).flatMap pbs ++ bs p.1.length ++ sg p.1).map .int)) (y:=.lst ((ib p.2).map .int)) rfl (by rw [oA_of (ds:=[p.2]) rfl,hv.ib]; exact vbytes_ok hv)]
    exact add_l _ _ (by rw [List.length_append,List.length_append,List.length_append]; omega)
   ·have e1:pre ++ (l.take j).flatMap pbs ++ bs p.1.length ++ sg p.1 ++ ib p.2 = pre ++ (l.take (j + 1)).flatMap pbs:=by
     rw [← take_fm pbs hp]
     unfold pbs
     rw [hib]
     simp only [List.append_assoc]
    rw [e1]
    rfl) ⟨s,e,by simp⟩
 obtain ⟨s',e',rfl⟩:=l2
 refine ⟨s',e',?_⟩
 rw [l1,Nat.zero_add,List.length_map,List.take_length]
structure Gq (p:Pt):Prop where
 cnt:cnt p ≤ 20
 vals:∀ v ∈ p.vals,Vb v
 names:∀ s ∈ p.all,s.length ≤ 20
 few:p.vals.length ≤ 12
theorem pair_ok {ps:List (Str × D)} (h1:∀ v ∈ ps.map (·.2),Vb v) (h2:∀ s ∈ ps.map (·.1),s.length ≤ 20):∀ d ∈ ps,d.1.length ≤ 20 ∧ Vb d.2:=fun d hd=>⟨h2 _ (List.mem_map.mpr ⟨d,hd,rfl⟩),h1 _ (List.mem_map.mpr ⟨d,hd,rfl⟩)⟩
theorem two_ib {ps:List (Str × D)} (h:∀ d ∈ ps,d.1.length ≤ 20 ∧ Vb d.2):∀ d ∈ ps.flatMap two,Ib d:=fun d hd=>by
 obtain ⟨p,hp,hm⟩:=List.mem_flatMap.mp hd
 obtain ⟨q1,q2⟩:=h p hp
 unfold two at hm
 rcases List.mem_cons.mp hm with rfl | hm
 ·exact .inl ⟨_,rfl,q1⟩
 ·rw [List.mem_singleton.mp hm]; exact .inr q2
theorem Gq.gp {p:Pt} (h:Gq p):Gp p:=by
 obtain ⟨h1,h2,h3⟩:=h
 cases p with
 | text w=>exact ⟨h1,Nat.zero_le _,fun d hd=>by cases hd⟩
 | row vs=>exact ⟨h1,by have:vs.length ≤ 20:=h1; show vs.length ≤ 50; omega,fun d hd=>.inr (h2 d hd)⟩
 | table ps =>
  have hp:=pair_ok h2 fun s hs=>h3 s (List.mem_append_left _ hs)
  exact ⟨h1,by have:ps.length ≤ 20:=h1; show (ps.flatMap two).length ≤ 50; rw [two_len]; omega,two_ib hp⟩
 | rcd c ps =>
  have hp:=pair_ok h2 fun s hs=>h3 s (List.mem_append_left _ hs)
  refine ⟨h1,by have:ps.length ≤ 20:=h1; show (D.str c :: ps.flatMap two).length ≤ 50; rw [List.length_cons,two_len]; omega,fun d hd=>?_⟩
  rcases List.mem_cons.mp hd with rfl | hd
  ·exact .inl ⟨_,rfl,h3 c (List.mem_append_right _ (List.mem_singleton.mpr rfl))⟩
  ·exact two_ib hp d hd
theorem lpb_ok {p:Pt} (h:Gq p):m__law_part_bytes [p.d] = some (.lst ((pb p).map .int)):=by
 have z:(1000000:Nat) ≤ sizeLine:=by decide
 have hg:=h.gp
 have hh:=head_len hg
 have hcnt:=h.cnt
 have hdig:∀ (s2 s3 s4:Sl),oA (consA (o2 (o2 (gc (.int 4)) (oA (consA (o2 (gv 0) (unG negD (gc (.int 1))) ixD) nilA) lenD) mulA) (gv 1) addA) nilA) m__law_digits [.sh p.d,.sh (.int (kn p:Int)),s2,s3,s4] = some (.lst ((bs (4 * cnt p + kn p)).map .int)):=fun s2 s3 s4=>by
  rw [oA_of (ds:=[.int ((4 * cnt p + kn p:Nat):Int)]) (cons_of (by
   rw [o2_of (x:=.int (4 * (cnt p:Int))) (y:=.int (kn p:Int)) (by
    rw [o2_of (x:=.int 4) (y:=.int (cnt p:Int)) rfl (last_ok hcnt _)]
    exact Gw.mul_l _ _ (by decide)) rfl,← cast4]
   rfl) rfl)]
  exact dig_ok _ (small (by have:=kn_le p; omega))
 refine mkF_rt rfl (seq_to (set_of (d:=.int (kn p:Int)) (lidx p _)) (seq_to (set_of (d:=.lst ((bs (4 * cnt p + kn p)).map .int)) (hdig _ _ _)) ?_))
 cases p with
 | text w =>
  have hw:w.length ≤ 20:=hcnt
  refine seq_rt ?_
  rw [if_t (by kernel_rfl)]
  refine seq_rt (ret_of ?_)
  rw [o2_of (x:=.lst ((bs (4 * cnt (.text w) + kn (.text w))).map .int)) (y:=.lst ((sg w).map .int)) rfl (by rw [oA_of (ds:=[.str w]) rfl]; exact sg_ok w (by omega))]
  rw [add_l _ _ (by rw [sg_len]; omega)]
  unfold pb
  show _ = some (D.lst ((bs (4 * cnt (.text w) + kn (.text w)) ++ sg w ++ []).map .int))
  rw [List.append_nil]
 | row vs =>
  have hv:vs.length ≤ 20:=hcnt
  obtain ⟨s',e⟩:=row_loop (.sh (Pt.row vs).d) (.sh (.int 1)) .un (bs (4 * cnt (.row vs) + kn (.row vs))) vs h.vals (by omega) .un
  refine seq_to (δ':=[.sh (Pt.row vs).d,.sh (.int 1),.sh (.lst ((bs (4 * cnt (.row vs) + kn (.row vs))).map .int)),.un,.un]) (by rw [if_f (by kernel_rfl)]; rfl) (seq_rt ?_)
  rw [if_t (by kernel_rfl)]
  refine seq_to (for_of (items:=vs) rfl e) (seq_rt (ret_of ?_))
  unfold pb
  show some (D.lst _) = some (D.lst ((bs (4 * cnt (.row vs) + kn (.row vs)) ++ [] ++ vs.flatMap ib).map .int))
  rw [List.append_nil]
 | table ps =>
  have hv:ps.length ≤ 20:=hcnt
  obtain ⟨s',e',e⟩:=pairs_loop (.sh (Pt.table ps).d) (.sh (.int 2)) (bs (4 * cnt (.table ps) + kn (.table ps))) ps (pair_ok h.vals fun s hs=>h.names s (List.mem_append_left _ hs)) (by omega) .un .un
  refine seq_to (δ':=[.sh (Pt.table ps).d,.sh (.int 2),.sh (.lst ((bs (4 * cnt (.table ps) + kn (.table ps))).map .int)),.un,.un]) (by rw [if_f (by kernel_rfl)]; rfl) (seq_to (δ':=[.sh (Pt.table ps).d,.sh (.int 2),.sh (.lst ((bs (4 * cnt (.table ps) + kn (.table ps))).map .int)),.un,.un]) (by rw [if_f (by kernel_rfl)]; rfl) (seq_to (δ':=[.sh (Pt.table ps).d,.sh (.int 2),.sh (.lst ((bs (4 * cnt (.table ps) + kn (.table ps))).map .int)),.un,.un]) (by rw [if_f (by kernel_rfl)]; rfl) (seq_to (for_of (items:=ps.map pr) rfl e) (seq_rt (ret_of ?_)))))
  unfold pb
  show some (D.lst _) = some (D.lst ((bs (4 * cnt (.table ps) + kn (.table ps)) ++ [] ++ (ps.flatMap two).flatMap ib).map .int))
  rw [List.append_nil,pbs_fm]
 | rcd c ps =>
  have hv:ps.length ≤ 20:=hcnt
  have hcl:c.length ≤ 20:=h.names c (List.mem_append_right _ (List.mem_singleton.mpr rfl))
  have hbc:=bs_len c.length (small (by omega))
  obtain ⟨s',e',e⟩:=pairs_loop (.sh (Pt.rcd c ps).d) (.sh (.int 3)) (bs (4 * cnt (.rcd c ps) + kn (.rcd c ps)) ++ bs c.length ++ sg c) ps (pair_ok h.vals fun s hs=>h.names s (List.mem_append_left _ hs)) (by rw [List.length_append,List.length_append,sg_len]; omega) .un .un
  refine seq_to (δ':=[.sh (Pt.rcd c ps).d,.sh (.int 3),.sh (.lst ((bs (4 * cnt (.rcd c ps) + kn (.rcd c ps))).map .int)),.un,.un]) (by rw [if_f (by kernel_rfl)]; rfl) (seq_to (δ':=[.sh (Pt.rcd c ps).d,.sh (.int 3),.sh (.lst ((bs (4 * cnt (.rcd c ps) + kn (.rcd c ps))).map .int)),.un,.un]) (by rw [if_f (by kernel_rfl)]; rfl) (seq_to (δ':=[.sh (Pt.rcd c ps).d,.sh (.int 3),.sh (.lst ((bs (4 * cnt (.rcd c ps) + kn (.rcd c ps)) ++ bs c.length ++ sg c).map .int)),.un,.un]) ?_ (seq_to (for_of (items:=ps.map pr) rfl e) (seq_rt (ret_of ?_)))))
  ·rw [if_t (by kernel_rfl)]
   refine seq_to (set_of (d:=.lst ((bs (4 * cnt (.rcd c ps) + kn (.rcd c ps)) ++ bs c.length ++ sg c).map .int)) ?_) rfl
   rw [o2_of (x:=.lst ((bs (4 * cnt (.rcd c ps) + kn (.rcd c ps)) ++ bs c.length).map .int)) (y:=.lst ((sg c).map .int)) (by
    rw [o2_of (x:=.lst ((bs (4 * cnt (.rcd c ps) + kn (.rcd c ps))).map .int)) (y:=.lst ((bs c.length).map .int)) rfl (by
     rw [oA_of (ds:=[.int (c.length:Int)]) (cons_of (strlen_of rfl (by omega)) rfl)]
     exact dig_ok _ (small (by omega)))]
    exact add_l _ _ (by omega)) (by rw [oA_of (ds:=[.str c]) rfl]; exact sg_ok c (by omega))]
   exact add_l _ _ (by rw [List.length_append,sg_len]; omega)
  ·unfold pb
   show some (D.lst _) = some (D.lst ((bs (4 * cnt (.rcd c ps) + kn (.rcd c ps)) ++ [] ++ (D.str c :: ps.flatMap two).flatMap ib).map .int))
   rw [List.append_nil,List.flatMap_cons,pbs_fm]
   show some (D.lst ((bs _ ++ bs c.length ++ sg c ++ _).map .int)) = some (D.lst ((bs _ ++ ((bs c.length ++ sg c) ++ _)).map .int))
   simp only [List.append_assoc]
noncomputable def web (ps:List Pt):D:=.tup (ps.map Pt.d)
noncomputable def body (p:Pt):D:=.lst ((pb p).map .int)
noncomputable def ix (ps:List Pt):List Int:=bs ps.length ++ ps.flatMap fun p=>bs (pb p).length
noncomputable def bun (ps:List Pt):List Int:=ix ps ++ ps.flatMap pb
structure Gw' (ps:List Pt):Prop where
 len:ps.length ≤ 60
 it:∀ p ∈ ps,Gq p
theorem ix_len {ps:List Pt} (h:Gw' ps):(ix ps).length ≤ 20000:=by
 unfold ix
 have h1:=bs_len ps.length (small (by have:=h.len; omega))
 have h2:=fm_len (fun p=>bs (pb p).length) 301 ps fun p hp=>bs_len _ (small (by have:=pb_len (h.it p hp).gp; omega))
 have h3:=h.len
 rw [List.length_append]
 have:ps.length * 301 ≤ 60 * 301:=Nat.mul_le_mul_right _ h3
 omega
theorem pbs_len {ps:List Pt} (h:Gw' ps) (j:Nat):((ps.take j).flatMap pb).length ≤ 1200000:=by
 have h2:=fm_len pb 20000 (ps.take j) fun p hp=>pb_len (h.it p (List.mem_of_mem_take hp)).gp
 have h3:=h.len
 rw [List.length_take] at h2
 have:min j ps.length * 20000 ≤ 60 * 20000:=Nat.mul_le_mul_right _ (by omega)
 omega
theorem bun_len {ps:List Pt} (h:Gw' ps):(bun ps).length ≤ 1300000:=by
 unfold bun
 have h1:=ix_len h
 have h2:=pbs_len h ps.length
 rw [List.take_length] at h2
 rw [List.length_append]
 omega
theorem bodies_of {m:List D → Option D} {ps:List Pt} (h:∀ p ∈ ps,m [p.d] = some (body p)) (hl:ps.length ≤ 60) (δ:Ds):compG 1 [] (tupI (gv 0)) (gN 0) noT (oA (consA (gv 0) nilA) m) (.sh (web ps) :: δ) = some (.lst (ps.map body)):=by
 have z:(1000:Nat) ≤ sizeLine:=by decide
 refine comp_of (items:=ps.map Pt.d) rfl (by rw [List.length_map]; omega) ?_
 have key:∀ l:List Pt,(∀ p ∈ l,m [p.d] = some (body p)) → compD (gN 0) noT (oA (consA (gv 0) nilA) m) [.un] (l.map Pt.d) = some (l.map body):=by
  intro l
  induction l with
  | nil=>intro _; rfl
  | cons p l ih =>
   intro h
   rw [List.map_cons]
   unfold compD
   show (match oA (consA (gv 0) nilA) m [.sh p.d] with | none=>none | some y=>(compD (gN 0) noT (oA (consA (gv 0) nilA) m) [.un] (l.map Pt.d)).map fun r=>y :: r) = _
   rw [oA_of (ds:=[p.d]) rfl,h p List.mem_cons_self]
   simp only []
   rw [ih fun p hp=>h p (List.mem_cons_of_mem _ hp)]
   rfl
 exact key ps h
theorem body_len (p:Pt) {g:GE} {δ:Ds} (h:g δ = some (body p)):oA (consA g nilA) lenD δ = some (.int ((pb p).length:Int)):=by
 rw [len_of (ds:=(pb p).map .int) h,List.length_map]
theorem get_body {ps:List Pt} {j:Nat} {d:D} (h:(ps.map body)[j]? = some d):∃ p,ps[j]? = some p ∧ d = body p:=by
 rw [List.getElem?_map] at h
 cases hp:ps[j]? with
 | none=>rw [hp] at h; cases h
 | some p=>rw [hp] at h; cases h; exact ⟨p,rfl,rfl⟩
noncomputable def C1:GS:=(seqD (setD (gN 2) (o2 (gv 2) (oA (consA (oA (consA (gv 3) nilA) lenD) nilA) m__law_digits) addA))
 nilD)
noncomputable def C2:GS:=(seqD (exprX (appX 4 (borE (oA (consA (gv 5) nilA) lenD))))
 (seqD (exprX (extX 5 (gv 3)))
 nilD))
noncomputable def bg (ps:List Pt) (j:Nat):Nat:=(ix ps).length + ((ps.take j).flatMap pb).length
noncomputable def sts (ps:List Pt) (n:Nat):List D:=(List.range n).map fun j=>.int ((bg ps j:Nat):Int)
theorem sts_s (ps:List Pt) (j:Nat):sts ps (j + 1) = sts ps j ++ [.int ((bg ps j:Nat):Int)]:=by
 unfold sts
 rw [List.range_succ,List.map_append]
 rfl
theorem sts_len (ps:List Pt) (j:Nat):(sts ps j).length = j:=by unfold sts; rw [List.length_map,List.length_range]
theorem bg_end (ps:List Pt):bg ps ps.length = (bun ps).length:=by unfold bg bun; rw [List.take_length,List.length_append]
theorem lo_ex {ps:List Pt} (h:Gw' ps):m__law_laid_out [web ps] = some (.tup [.lst ((bun ps).map .int),.int ((ix ps).length:Int),.lst (sts ps (ps.length + 1))]):=by
 have z:(10000000:Nat) ≤ sizeLine:=by decide
 have hl:=h.len
 have h1:=bs_len ps.length (small (by omega))
 have hx:=ix_len h
 have hbl:=bun_len h
 obtain ⟨δ',l1,l2⟩:=forD_inv (f:=gN 3) (G:=C1) (fun i δ=>∃ s,δ = [.sh (web ps),.sh (.lst (ps.map body)),.sh (.lst ((bs ps.length ++ (ps.take i).flatMap fun p=>bs (pb p).length).map .int)),s,.un,.un]) (ps.map body) 0 [.sh (web ps),.sh (.lst (ps.map body)),.sh (.lst ((bs ps.length).map .int)),.un,.un,.un] (by
  rintro j d δ hj ⟨s,rfl⟩
  obtain ⟨p,hp,rfl⟩:=get_body hj
  have hjl:=(List.getElem?_eq_some_iff.mp hp).1
  have hpb:=pb_len (h.it p (List.mem_of_getElem? hp)).gp
  have hb:=bs_len (pb p).length (small (by omega))
  have h2:=fm_len (fun p=>bs (pb p).length) 301 (ps.take j) fun p hp=>bs_len _ (small (by have:=pb_len (h.it p (List.mem_of_mem_take hp)).gp; omega))
  rw [Nat.zero_add]
  refine ⟨_,_,rfl,seq_to (set_of (d:=.lst ((bs ps.length ++ ((ps.take j).flatMap fun p=>bs (pb p).length) ++ bs (pb p).length).map .int)) ?_) rfl,.sh (body p),?_⟩
  ·rw [o2_of (x:=.lst ((bs ps.length ++ (ps.take j).flatMap fun p=>bs (pb p).length).map .int)) (y:=.lst ((bs (pb p).length).map .int)) rfl (by
    rw [oA_of (ds:=[.int ((pb p).length:Int)]) (cons_of (body_len p rfl) rfl)]
    exact dig_ok _ (small (by omega)))]
   exact add_l _ _ (by
    rw [List.length_append]
    rw [List.length_take] at h2
    have:min j ps.length * 301 ≤ 60 * 301:=Nat.mul_le_mul_right _ (by omega)
    omega)
  ·rw [List.append_assoc,take_fm (fun p=>bs (pb p).length) hp]
   rfl) ⟨.un,by simp⟩
 obtain ⟨s1,rfl⟩:=l2
 rw [Nat.zero_add,List.length_map,List.take_length] at l1
 obtain ⟨δ',l3,l4⟩:=forD_inv (f:=gN 3) (G:=C2) (fun i δ=>∃ (s:Sl),δ = [.sh (web ps),.sh (.lst (ps.map body)),.sh (.lst ((ix ps).map .int)),s,.ow (.lst (sts ps i)),.ow (.lst ((ix ps ++ (ps.take i).flatMap pb).map .int))]) (ps.map body) 0 [.sh (web ps),.sh (.lst (ps.map body)),.sh (.lst ((ix ps).map .int)),s1,.ow (.lst []),.ow (.lst ((ix ps).map .int))] (by
  rintro j d δ hj ⟨s,rfl⟩
  obtain ⟨p,hp,rfl⟩:=get_body hj
  have hjl:=(List.getElem?_eq_some_iff.mp hp).1
  have hpb:=pb_len (h.it p (List.mem_of_getElem? hp)).gp
  have h2:=pbs_len h j
  rw [Nat.zero_add]
  refine ⟨_,[.sh (web ps),.sh (.lst (ps.map body)),.sh (.lst ((ix ps).map .int)),.sh (body p),.ow (.lst (sts ps (j + 1))),.ow (.lst ((ix ps ++ (ps.take j).flatMap pb ++ pb p).map .int))],rfl,?_,.sh (body p),?_⟩
  ·rw [sts_s]
   refine seq_to (Gw.app_ow (l:=sts ps j) (d:=.int ((bg ps j:Nat):Int)) rfl (by
    unfold borE
    rw [len_of (ds:=(ix ps ++ (ps.take j).flatMap pb).map .int) rfl,List.length_map]
    unfold bg
    rw [List.length_append]
    rfl) (by rw [sts_len]; omega)) ?_
   exact seq_to (ext_ow (l:=ix ps ++ (ps.take j).flatMap pb) (e:=pb p) rfl rfl (by rw [List.length_append]; omega)) rfl
  ·rw [List.append_assoc (ix ps),take_fm pb hp]) ⟨s1,by simp [sts]⟩
 obtain ⟨s2,rfl⟩:=l4
 rw [Nat.zero_add,List.length_map,List.take_length] at l3
 refine mkF_rt rfl (seq_to (set_of (d:=.lst (ps.map body)) (bodies_of (fun p hp=>lpb_ok (h.it p hp)) hl _)) (seq_to (set_of (d:=.lst ((bs ps.length).map .int)) ?_) (seq_to (for_of (items:=ps.map body) rfl l1) (seq_to (δ':=[.sh (web ps),.sh (.lst (ps.map body)),.sh (.lst ((ix ps).map .int)),s1,.ow (.lst []),.un]) rfl (seq_to (δ':=[.sh (web ps),.sh (.lst (ps.map body)),.sh (.lst ((ix ps).map .int)),s1,.ow (.lst []),.ow (.lst ((ix ps).map .int))]) rfl (seq_to (for_of (items:=ps.map body) rfl l3) (seq_rt (ret_of ?_))))))))
 ·rw [oA_of (ds:=[.int (ps.length:Int)]) (cons_of (by
   rw [oA_of (ds:=[web ps]) rfl]
   show some (D.int (((ps.map Pt.d).length:Nat):Int)) = _
   rw [List.length_map]) rfl)]
  exact dig_ok _ (small (by omega))
 ·show tupG _ (frz _) = _
  have e3:o2 (gv 4) (lstG (consA (oA (consA (gv 5) nilA) lenD) nilA)) addA [.sh (web ps),.sh (.lst (ps.map body)),.sh (.lst ((ix ps).map .int)),frz1 s2,.sh (.lst (sts ps ps.length)),.sh (.lst ((bun ps).map .int))] = some (.lst (sts ps ps.length ++ [.int (((bun ps).map D.int).length:Int)])):=by
   have e4:lstG (consA (oA (consA (gv 5) nilA) lenD) nilA) [.sh (web ps),.sh (.lst (ps.map body)),.sh (.lst ((ix ps).map .int)),frz1 s2,.sh (.lst (sts ps ps.length)),.sh (.lst ((bun ps).map .int))] = some (.lst [.int (((bun ps).map D.int).length:Int)]):=lst_of rfl (by show 1 ≤ sizeLine; omega)
   rw [o2_of (x:=.lst (sts ps ps.length)) (y:=.lst [.int (((bun ps).map D.int).length:Int)]) rfl e4]
   simp only [addA]
   rw [if_pos (by rw [sts_len]; simp only [List.length_cons,List.length_nil]; omega)]
  rw [sts_s,bg_end]
  rw [List.length_map] at e3
  refine tup_of (ds:=[.lst ((bun ps).map .int),.int ((ix ps).length:Int),.lst (sts ps ps.length ++ [.int ((bun ps).length:Int)])]) ?_ (by show 3 ≤ sizeLine; omega)
  exact cons_of rfl (cons_of (by rw [len_of (ds:=(ix ps).map .int) rfl,List.length_map]) (cons_of e3 rfl))
theorem al_int (k:Nat) (z:Int):mR__law_alike (k + 1) [.int z,.int z] = some (.bl true):=by
 refine mkF_rt rfl (seq_to (δ':=[.sh (.int z),.sh (.int z)]) rfl (seq_to (δ':=[.sh (.int z),.sh (.int z)]) rfl (seq_rt ?_)))
 rw [if_t rfl]
 refine seq_rt (ret_of ?_)
 show some (D.bl (decide (z = z))) = _
 rw [decide_eq_true rfl]
theorem cell_b (ns:List Int) (hb:∀ z ∈ ns,z.natAbs.log2 ≤ 1048576) (k:Int) (h0:0 ≤ k) (h1:k ≤ 1000):∃ z,m__law_cell_at [.lst (ns.map .int),.int k] = some (.int z) ∧ z.natAbs.log2 ≤ 1048576:=by
 by_cases h:k < ns.length
 ·have hlt:k.toNat < ns.length:=by omega
  refine ⟨ns[k.toNat],mkF_rt rfl (seq_rt ?_),hb _ (List.getElem_mem hlt)⟩
  rw [if_t (by
   show some (decide (k < (((ns.map D.int).length:Nat):Int))) = _
   rw [decide_eq_true (by rw [List.length_map]; exact h)])]
  refine seq_rt (ret_of ?_)
  show atI (ns.map D.int) k = _
  rw [atI_in h0 (by rw [List.length_map]; exact h) .non]
  simp [List.getD_eq_getElem?_getD,hlt]
 ·refine ⟨(k * 7919 + 5) * (k + 31),mkF_rt rfl (seq_to (δ':=[.sh (.lst (ns.map .int)),.sh (.int k)]) ?_ (seq_rt (ret_of ?_))),?_⟩
  ·rw [if_f (by
    show some (decide (k < (((ns.map D.int).length:Nat):Int))) = _
    rw [decide_eq_false (by rw [List.length_map]; exact h)])]
   rfl
  ·rw [o2_of (x:=.int (k * 7919 + 5)) (y:=.int (k + 31)) (by
    rw [o2_of (x:=.int (k * 7919)) (y:=.int 5) (by rw [o2_of (x:=.int k) (y:=.int 7919) rfl rfl]; exact Gw.mul_r _ _ (by decide)) rfl]
    rfl) rfl]
   exact Gw.mul_r _ _ (by omega)
  ·have q1:(k * 7919 + 5) * (k + 31) ≤ 8000000 * 2000:=Int.mul_le_mul (by omega) (by omega) (by omega) (by omega)
   have q2:0 ≤ (k * 7919 + 5) * (k + 31):=Int.mul_nonneg (by omega) (by omega)
   generalize (k * 7919 + 5) * (k + 31) = w at q1 q2
   rcases Nat.eq_zero_or_pos w.natAbs with e | e
   ·rw [e]; decide
   ·have:w.natAbs.log2 < 60:=(Nat.log2_lt (Nat.ne_of_gt e)).mpr (by omega)
    omega
theorem lg (c k:Int) (L:Nat) (h:c.natAbs.log2 ≤ L) (hk:0 ≤ k ∧ k ≤ 1000):((c + 1) * (k + 3)).natAbs.log2 ≤ L + 13:=by
 have h1:c.natAbs < 2 ^ (L + 1):=Nat.lt_of_lt_of_le Nat.lt_log2_self (Nat.pow_le_pow_right (by decide) (by omega))
 have h2:(c + 1).natAbs ≤ 2 ^ (L + 1):=by omega
 have h3:(k + 3).natAbs ≤ 2 ^ 10:=by
  have:(2:Nat) ^ 10 = 1024:=by decide
  omega
 have h4:((c + 1) * (k + 3)).natAbs ≤ 2 ^ (L + 11):=by
  rw [Int.natAbs_mul]
  have:=Nat.mul_le_mul h2 h3
  rw [← Nat.pow_add] at this
  exact this
 rcases Nat.eq_zero_or_pos ((c + 1) * (k + 3)).natAbs with e | e
 ·rw [e,Nat.log2_zero]; omega
 ·have h5:(2:Nat) ^ (L + 11) < 2 ^ (L + 12):=Nat.pow_lt_pow_right (by decide) (by omega)
  have:=(Nat.log2_lt (Nat.ne_of_gt e)).mpr (Nat.lt_of_le_of_lt h4 h5)
  omega
theorem pow7:powD (.int 982451653) (.int 7) = some (.int (982451653 ^ 7)):=by kernel_rfl
theorem pow60:powD (.int 10) (.int 60) = some (.int (10 ^ 60)):=by kernel_rfl
theorem lg7:(982451653 ^ 7:Int).natAbs.log2 ≤ 2000:=by decide +kernel
noncomputable def Lk (m:Nat) (v:D):Prop:=∀ j:Nat,v = .tup [.str "at",.int (j:Int)] → j < m
theorem lk_at {i m:Nat} (h:i < m):Lk m (.tup [.str "at",.int (i:Int)]):=fun j e=>by
 injection e with e
 injection e with _ e
 injection e with e _
 injection e with e
 omega
theorem value_ok (c k m:Int) (hc:c.natAbs.log2 ≤ 1048576) (hk:0 ≤ k ∧ k ≤ 100) (hm:0 < m ∧ m ≤ 1000):∃ v,m__law_one_value [.int c,.int k,.int m] = some v ∧ Vb v ∧ Lk m.toNat v:=by
 have z:(1000:Nat) ≤ sizeLine:=by decide
 obtain ⟨x,a0,a1,a2⟩:=mix_ok c k hk.1 (by omega)
 obtain ⟨y,b0,b1,b2⟩:=mix_ok c (40 + k) (by omega) (by omega)
 obtain ⟨w,c0,c1,c2⟩:=mix_ok c (60 + k) (by omega) (by omega)
 have s1:∀ s:Sl,setD (gN 3) (o2 (oA (consA (gv 0) (consA (gv 1) nilA)) m__law_mix) (gc (.int 5)) modD) [.sh (.int c),.sh (.int k),.sh (.int m),s] = some (.nx [.sh (.int c),.sh (.int k),.sh (.int m),.sh (.int (x % 5))]):=fun s=>by
  refine set_of (i:=3) (d:=.int (x % 5)) ?_
  rw [o2_of (x:=.int x) (y:=.int 5) (by rw [oA_of (ds:=[.int c,.int k]) rfl]; exact a2) rfl]
  rfl
 by_cases h0:x % 5 = 0
 ·refine ⟨.non,mkF_rt rfl (seq_to (s1 _) (seq_rt ?_)),.non,fun j h=>nomatch h⟩
  rw [if_t (by show some (decide (x % 5 = 0)) = _; rw [decide_eq_true h0])]
  rfl
 have n0:∀ G:GS,ifD (ob (o2 (gv 3) (gc (.int 0)) eqD)) G nilD [.sh (.int c),.sh (.int k),.sh (.int m),.sh (.int (x % 5))] = some (.nx [.sh (.int c),.sh (.int k),.sh (.int m),.sh (.int (x % 5))]):=fun G=>by
  rw [if_f (by show some (decide (x % 5 = 0)) = _; rw [decide_eq_false h0])]
  rfl
 by_cases h3:x % 5 < 3
 ·have j0:0 ≤ y % m:=Int.emod_nonneg _ (by omega)
  have j1:y % m < m:=Int.emod_lt_of_pos _ hm.1
  refine ⟨.tup [.str "at",.int (((y % m).toNat:Nat):Int)],mkF_rt rfl (seq_to (s1 _) (seq_to (n0 _) (seq_rt ?_))),.lk _ (by omega),lk_at (by omega)⟩
  rw [if_t (by show some (decide (x % 5 < 3)) = _; rw [decide_eq_true h3])]
  refine seq_rt (ret_of (tup_of (cons_of rfl (cons_of ?_ rfl)) (by show 2 ≤ sizeLine; omega)))
  rw [o2_of (x:=.int y) (y:=.int m) (by rw [oA_of (ds:=[.int c,.int (40 + k)]) rfl]; exact b2) rfl,Gw.mod_p _ _ hm.1,Int.toNat_of_nonneg j0]
 have n3:∀ G:GS,ifD (ob (o2 (gv 3) (gc (.int 3)) ltD)) G nilD [.sh (.int c),.sh (.int k),.sh (.int m),.sh (.int (x % 5))] = some (.nx [.sh (.int c),.sh (.int k),.sh (.int m),.sh (.int (x % 5))]):=fun G=>by
  rw [if_f (by show some (decide (x % 5 < 3)) = _; rw [decide_eq_false h3])]
  rfl
 by_cases h4:x % 5 = 3
 ·refine ⟨.int (w % 260 - 130),mkF_rt rfl (seq_to (s1 _) (seq_to (n0 _) (seq_to (n3 _) (seq_rt ?_)))),.int _ (Nat.lt_of_lt_of_le (m:=1000) (by omega) (by decide)),fun j h=>nomatch h⟩
  rw [if_t (by show some (decide (x % 5 = 3)) = _; rw [decide_eq_true h4])]
  refine seq_rt (ret_of ?_)
  rw [o2_of (x:=.int (w % 260)) (y:=.int 130) (by
   rw [o2_of (x:=.int w) (y:=.int 260) (by rw [oA_of (ds:=[.int c,.int (60 + k)]) rfl]; exact c2) rfl]
   rfl) rfl]
  rfl
 have n4:∀ G:GS,ifD (ob (o2 (gv 3) (gc (.int 3)) eqD)) G nilD [.sh (.int c),.sh (.int k),.sh (.int m),.sh (.int (x % 5))] = some (.nx [.sh (.int c),.sh (.int k),.sh (.int m),.sh (.int (x % 5))]):=fun G=>by
  rw [if_f (by show some (decide (x % 5 = 3)) = _; rw [decide_eq_false h4])]
  rfl
 obtain ⟨u,hu⟩:∃ u:Int,u = (c + 1) * (k + 3) * 982451653 ^ 7 % (2 * 10 ^ 60 - 1):=⟨_,rfl⟩
 have u0:0 ≤ u:=by rw [hu]; exact Int.emod_nonneg _ (by decide)
 have u1:u < 2 * 10 ^ 60 - 1:=by rw [hu]; exact Int.emod_lt_of_pos _ (by decide)
 refine ⟨.int (u + 1 - 10 ^ 60),mkF_rt rfl (seq_to (s1 _) (seq_to (n0 _) (seq_to (n3 _) (seq_to (n4 _) (seq_rt (ret_of ?_)))))),.int _ ?_,fun j h=>nomatch h⟩
 ·have e10:∀ δ:Ds,o2 (gc (.int 10)) (gc (.int 60)) powD δ = some (.int (10 ^ 60)):=fun δ=>by rw [o2_of (x:=.int 10) (y:=.int 60) rfl rfl]; exact pow60
  rw [o2_of (x:=.int (u + 1)) (y:=.int (10 ^ 60)) (by
   rw [o2_of (x:=.int u) (y:=.int 1) (by
    rw [o2_of (x:=.int ((c + 1) * (k + 3) * 982451653 ^ 7)) (y:=.int (2 * 10 ^ 60 - 1)) (by
     rw [o2_of (x:=.int ((c + 1) * (k + 3))) (y:=.int (982451653 ^ 7)) (by
      rw [o2_of (x:=.int (c + 1)) (y:=.int (k + 3)) rfl rfl]
      exact Gw.mul_r _ _ (by omega)) (by rw [o2_of (x:=.int 982451653) (y:=.int 7) rfl rfl]; exact pow7)]
     have:=lg c k 1048576 hc (by omega)
     simp only [mulW,ii]
     rw [if_pos ⟨by omega,lg7⟩]) (by
     rw [o2_of (x:=.int (2 * 10 ^ 60)) (y:=.int 1) (by rw [o2_of (x:=.int 2) (y:=.int (10 ^ 60)) rfl (e10 _)]; exact Gw.mul_l _ _ (by decide)) rfl]
     rfl),Gw.mod_p _ _ (by decide),hu]) rfl]
   rfl) (e10 _)]
  rfl
 ·have e:((10:Int) ^ 60) < 2 ^ 240:=by decide +kernel
  have e2:((10:Int) ^ 60) = ((10 ^ 60:Nat):Int):=by decide +kernel
  have e3:(10 ^ 60:Nat) < 2 ^ 250:=by decide +kernel
  rw [e2] at u1 ⊢
  generalize (10 ^ 60:Nat) = t at u1 e3
  generalize (2:Nat) ^ 250 = r at e3
  omega
theorem at_nm (nm:List Str) (hp:Pool nm) (i:Int) (h0:0 ≤ i) (h1:i < 12):ixD (.lst (nm.map .str)) (.int i) = some (.str (nm.getD i.toNat "")) ∧ nm.getD i.toNat "" ∈ nm:=by
 have hl:=hp.len
 have hlt:i.toNat < nm.length:=by omega
 constructor
 ·show atI (nm.map D.str) i = _
  rw [atI_in h0 (by rw [List.length_map]; omega) .non]
  simp [List.getD_eq_getElem?_getD,hlt]
 ·rw [List.getD_eq_getElem?_getD,List.getElem?_eq_getElem hlt]
  exact List.getElem_mem hlt
noncomputable def S37:Str := "abcdefghijklmnopqrstuvwxyz0123456789 "
theorem all37:∀ c ∈ S37.cps.toList,c ∈ wordS.cps.toList:=by decide +kernel
theorem at37 (i:Int) (h0:0 ≤ i) (h1:i < 37):∃ c:Nat,c ∈ wordS.cps.toList ∧ ixD (.str S37) (.int i) = some (.str ⟨#[c]⟩):=by
 have hl:S37.cps.toList.length = 37:=by decide +kernel
 refine ⟨S37.cps.toList.getD i.toNat 0,all37 _ (by rw [List.getD_eq_getElem?_getD,List.getElem?_eq_getElem (show i.toNat < _ by omega)]; exact List.getElem_mem _),?_⟩
 simp only [ixD]
 rw [if_pos (by decide +kernel),atI_in h0 (by rw [hl]; exact h1) 0]
 rfl
noncomputable def Gs (p:Pt):Prop:=(∀ s ∈ p.all,isName s = true) ∧ ∀ w,p = .text w → ∀ c ∈ w.cps.toList,c ∈ wordS.cps.toList
theorem part_ok (c m:Int) (nm:List Str) (hp:Pool nm) (hc:c.natAbs.log2 ≤ 1048576) (hm:0 < m ∧ m ≤ 1000):∃ p:Pt,m__law_drawn_part [.int c,.lst (nm.map .str),.int m] = some p.d ∧ Gq p ∧ (∀ v ∈ p.vals,Lk m.toNat v) ∧ Gs p:=by
 have z:(1000:Nat) ≤ sizeLine:=by decide
 obtain ⟨x1,p0,p1,p2⟩:=mix_ok c 1 (by decide) (by decide)
 obtain ⟨x2,q0,q1,q2⟩:=mix_ok c 2 (by decide) (by decide)
 obtain ⟨x3,r0,r1,r2⟩:=mix_ok c 3 (by decide) (by decide)
 obtain ⟨xt,t0,t1,t2⟩:=mix_ok c 30 (by decide) (by decide)
 obtain ⟨xc,c0,c1,c2⟩:=mix_ok c 31 (by decide) (by decide)
 obtain ⟨n,hn12,hn⟩:∃ n:Nat,n ≤ 12 ∧ ∀ δ:Ds,o2 (lstG (consA (gc (.int 0)) (consA (gc (.int 1)) (consA (gc (.int 2)) (consA (gc (.int 3)) (consA (gc (.int 2)) (consA (gc (.int 1)) (consA (gc (.int 4)) (consA (gc (.int 12)) nilA))))))))) (o2 (oA (consA (gv 0) (consA (gc (.int 2)) nilA)) m__law_mix) (gc (.int 8)) modD) ixD (.sh (.int c) :: δ) = some (.int (n:Int)):=by
  have key:∀ (n:Nat),ixD (.lst [.int 0,.int 1,.int 2,.int 3,.int 2,.int 1,.int 4,.int 12]) (.int (x2 % 8)) = some (.int (n:Int)) → ∀ δ:Ds,o2 (lstG (consA (gc (.int 0)) (consA (gc (.int 1)) (consA (gc (.int 2)) (consA (gc (.int 3)) (consA (gc (.int 2)) (consA (gc (.int 1)) (consA (gc (.int 4)) (consA (gc (.int 12)) nilA))))))))) (o2 (oA (consA (gv 0) (consA (gc (.int 2)) nilA)) m__law_mix) (gc (.int 8)) modD) ixD (.sh (.int c) :: δ) = some (.int (n:Int)):=fun n h δ=>by
   rw [o2_of (x:=.lst [.int 0,.int 1,.int 2,.int 3,.int 2,.int 1,.int 4,.int 12]) (y:=.int (x2 % 8)) (lst_of rfl (by show 8 ≤ sizeLine; omega)) (by
    rw [o2_of (x:=.int x2) (y:=.int 8) (by rw [oA_of (ds:=[.int c,.int 2]) rfl]; exact q2) rfl]
    rfl)]
   exact h
  have q:x2 % 8 = 0 ∨ x2 % 8 = 1 ∨ x2 % 8 = 2 ∨ x2 % 8 = 3 ∨ x2 % 8 = 4 ∨ x2 % 8 = 5 ∨ x2 % 8 = 6 ∨ x2 % 8 = 7:=by omega
  rcases q with q | q | q | q | q | q | q | q <;> rw [q] at key
  ·exact ⟨0,by omega,key 0 rfl⟩
  ·exact ⟨1,by omega,key 1 rfl⟩
  ·exact ⟨2,by omega,key 2 rfl⟩
  ·exact ⟨3,by omega,key 3 rfl⟩
  ·exact ⟨2,by omega,key 2 rfl⟩
  ·exact ⟨1,by omega,key 1 rfl⟩
  ·exact ⟨4,by omega,key 4 rfl⟩
  ·exact ⟨12,by omega,key 12 rfl⟩
 have s3:∀ δ:Ds,o2 (oA (consA (gv 0) (consA (gc (.int 1)) nilA)) m__law_mix) (gc (.int 5)) modD (.sh (.int c) :: δ) = some (.int (x1 % 5)):=fun δ=>by
  rw [o2_of (x:=.int x1) (y:=.int 5) (by rw [oA_of (ds:=[.int c,.int 1]) rfl]; exact p2) rfl]
  rfl
 by_cases k0:x1 % 5 = 0
 ·obtain ⟨f,hf⟩:∃ f:Nat → Nat,∀ j:Nat,j < 21 → f j ∈ wordS.cps.toList ∧ ∀ δ:Ds,o2 (gv 2) (o2 (oA (consA (gv 1) (consA (o2 (gc (.int 80)) (gv 0) addA) nilA)) m__law_mix) (gc (.int 37)) modD) ixD (.sh (.int (j:Int)) :: .sh (.int c) :: .sh (.str S37) :: δ) = some (.str ⟨#[f j]⟩):=by
   have:∀ j:Nat,∃ v:Nat,j < 21 → v ∈ wordS.cps.toList ∧ ∀ δ:Ds,o2 (gv 2) (o2 (oA (consA (gv 1) (consA (o2 (gc (.int 80)) (gv 0) addA) nilA)) m__law_mix) (gc (.int 37)) modD) ixD (.sh (.int (j:Int)) :: .sh (.int c) :: .sh (.str S37) :: δ) = some (.str ⟨#[v]⟩):=fun j=>by
    by_cases hj:j < 21
    ·obtain ⟨x,y0,y1,y2⟩:=mix_ok c (80 + (j:Int)) (by omega) (by omega)
     obtain ⟨v,hm',hv⟩:=at37 (x % 37) (by omega) (by omega)
     refine ⟨v,fun _=>⟨hm',fun δ=>?_⟩⟩
     rw [o2_of (x:=.str S37) (y:=.int (x % 37)) rfl (by
      rw [o2_of (x:=.int x) (y:=.int 37) (by rw [oA_of (ds:=[.int c,.int (80 + (j:Int))]) rfl]; exact y2) rfl]
      rfl)]
     exact hv
    ·exact ⟨0,fun h=>absurd h hj⟩
   obtain ⟨f,hf⟩:=Classical.axiomOfChoice this
   exact ⟨f,hf⟩
  obtain ⟨l,hl⟩:∃ l:Nat,(l:Int) = x3 % 21:=⟨(x3 % 21).toNat,by omega⟩
  have l21:l < 21:=by omega
  obtain ⟨w,hw⟩:∃ w:List Nat,w = (List.range l).map f:=⟨_,rfl⟩
  have wl:w.length = l:=by rw [hw]; simp
  refine ⟨.text (strOf w),mkF_rt rfl (seq_to (set_of (d:=.int (x1 % 5)) (s3 _)) (seq_to (set_of (d:=.int (n:Int)) (hn _)) (seq_rt ?_))),⟨by show (strOf w).length ≤ 20; rw [strOf_len]; omega,fun v hv=>(by cases hv),fun s hs=>(by cases hs),Nat.zero_le _⟩,fun v hv=>(by cases hv),fun s hs=>(by cases hs),fun w' e c hc=>by
   injection e with e
   subst e
   have hc:c ∈ w:=by unfold strOf at hc; simpa using hc
   rw [hw] at hc
   obtain ⟨k,hk,rfl⟩:=List.mem_map.mp hc
   exact (hf k (by have:=List.mem_range.mp hk; omega)).1⟩
  rw [if_t (by show some (decide (x1 % 5 = 0)) = _; rw [decide_eq_true k0])]
  refine seq_to (set_of (d:=.str S37) rfl) (seq_rt (ret_of (tup_of (cons_of rfl (cons_of (d:=.str (strOf w)) ?_ rfl)) (by show 2 ≤ sizeLine; omega))))
  change joinG _ _ [.sh (.int c),.sh (.lst (nm.map .str)),.sh (.int m),.sh (.int (x1 % 5)),.sh (.int (n:Int)),.sh (.str S37),.un,.un,.un] = _
  rw [join_of (x:=.str "") (ds:=[.lst ((ones w).map .str)]) rfl (cons_of (comp_of (items:=rngD 0 (l:Int)) (rng1_of (cons_of (by
   rw [o2_of (x:=.int x3) (y:=.int 21) (by rw [oA_of (ds:=[.int c,.int 3]) rfl]; exact r2) rfl,hl]
   rfl) rfl) (by omega) (by omega)) (by rw [rng_len]; omega) (by
   have q:=comp_rng (gt:=noT) (ge:=(o2 (gv 2) (o2 (oA (consA (gv 1) (consA (o2 (gc (.int 80)) (gv 0) addA) nilA)) m__law_mix) (gc (.int 37)) modD) ixD)) (δ:=[.un,.sh (.int c),.sh (.str S37)]) (n:=(l:Int)) (fun j=>.str ⟨#[f j]⟩) (fun k hk=>⟨[.sh (.int (k:Int)),.sh (.int c),.sh (.str S37)],rfl,rfl,(hf k (by omega)).2 []⟩)
   refine q.trans ?_
   rw [Int.toNat_natCast,hw]
   unfold ones
   rw [List.map_map,List.map_map]
   rfl)) rfl)]
  have e1:=strs_map id (ones w)
  have e1':strL ((ones w).map D.str) = some (ones w):=by simpa using e1
  simp only [joinD]
  rw [e1',Option.bind_some,sum_ones',join_ones,if_pos (by
   have:("" : PySem.Str).length = 0:=by decide +kernel
   rw [this]; omega)]
 obtain ⟨f,hf⟩:∃ f:Nat → D,∀ j:Nat,j < 12 → (Vb (f j) ∧ Lk m.toNat (f j)) ∧ m__law_one_value [.int c,.int (4 + (j:Int)),.int m] = some (f j):=by
  have:∀ j:Nat,∃ v:D,j < 12 → (Vb v ∧ Lk m.toNat v) ∧ m__law_one_value [.int c,.int (4 + (j:Int)),.int m] = some v:=fun j=>by
   by_cases hj:j < 12
   ·obtain ⟨v,h1,h2⟩:=value_ok c (4 + (j:Int)) m hc (by omega) hm
    exact ⟨v,fun _=>⟨h2,h1⟩⟩
   ·exact ⟨.non,fun h=>absurd h hj⟩
  obtain ⟨f,hf⟩:=Classical.axiomOfChoice this
  exact ⟨f,hf⟩
 obtain ⟨vs,hvs⟩:∃ vs:List D,vs = (List.range n).map f:=⟨_,rfl⟩
 have vl:vs.length = n:=by rw [hvs]; simp
 have vv:∀ v ∈ vs,Vb v ∧ Lk m.toNat v:=fun v hv=>by
  rw [hvs] at hv
  obtain ⟨k,hk,rfl⟩:=List.mem_map.mp hv
  exact (hf k (by have:=List.mem_range.mp hk; omega)).1
 have n0:∀ G:GS,ifD (ob (o2 (gv 3) (gc (.int 0)) eqD)) G nilD [.sh (.int c),.sh (.lst (nm.map .str)),.sh (.int m),.sh (.int (x1 % 5)),.sh (.int (n:Int)),.un,.un,.un,.un] = some (.nx [.sh (.int c),.sh (.lst (nm.map .str)),.sh (.int m),.sh (.int (x1 % 5)),.sh (.int (n:Int)),.un,.un,.un,.un]):=fun G=>by
  rw [if_f (by show some (decide (x1 % 5 = 0)) = _; rw [decide_eq_false k0])]
  rfl
 have s6:compG 1 [0,2] (rng1I (consA (gv 4) nilA)) (gN 0) noT (oA (consA (gv 1) (consA (o2 (gc (.int 4)) (gv 0) addA) (consA (gv 2) nilA))) m__law_one_value) [.sh (.int c),.sh (.lst (nm.map .str)),.sh (.int m),.sh (.int (x1 % 5)),.sh (.int (n:Int)),.un,.un,.un,.un] = some (.lst vs):=by
  refine comp_of (items:=rngD 0 (n:Int)) (rng1_of (cons_of rfl rfl) (by omega) (by omega)) (by rw [rng_len]; omega) ?_
  have q:=comp_rng (gt:=noT) (ge:=oA (consA (gv 1) (consA (o2 (gc (.int 4)) (gv 0) addA) (consA (gv 2) nilA))) m__law_one_value) (δ:=[.un,.sh (.int c),.sh (.int m)]) (n:=(n:Int)) f (fun k hk=>⟨[.sh (.int (k:Int)),.sh (.int c),.sh (.int m)],rfl,rfl,by
   rw [oA_of (ds:=[.int c,.int (4 + (k:Int)),.int m]) rfl]
   exact (hf k (by omega)).2⟩)
  rw [Int.toNat_natCast] at q
  rw [hvs]
  exact q
 by_cases k1:x1 % 5 = 1
 ·refine ⟨.row vs,mkF_rt rfl (seq_to (set_of (d:=.int (x1 % 5)) (s3 _)) (seq_to (set_of (d:=.int (n:Int)) (hn _)) (seq_to (n0 _) (seq_to (set_of (d:=.lst vs) s6) (seq_rt ?_))))),⟨by show vs.length ≤ 20; omega,fun v hv=>(vv v hv).1,fun s hs=>(by cases hs),by show vs.length ≤ 12; omega⟩,fun v hv=>(vv v hv).2,fun s hs=>(by cases hs),fun w e=>by cases e⟩
  rw [if_t (by show some (decide (x1 % 5 = 1)) = _; rw [decide_eq_true k1])]
  exact seq_rt (ret_of (tup_of (cons_of rfl (cons_of rfl rfl)) (by show 2 ≤ sizeLine; omega)))
 have n1:∀ G:GS,ifD (ob (o2 (gv 3) (gc (.int 1)) eqD)) G nilD [.sh (.int c),.sh (.lst (nm.map .str)),.sh (.int m),.sh (.int (x1 % 5)),.sh (.int (n:Int)),.un,.sh (.lst vs),.un,.un] = some (.nx [.sh (.int c),.sh (.lst (nm.map .str)),.sh (.int m),.sh (.int (x1 % 5)),.sh (.int (n:Int)),.un,.sh (.lst vs),.un,.un]):=fun G=>by
  rw [if_f (by show some (decide (x1 % 5 = 1)) = _; rw [decide_eq_false k1])]
  rfl
 obtain ⟨st,hst⟩:∃ st:Int,st = xt % 12:=⟨_,rfl⟩
 have st0:0 ≤ st:=by omega
 obtain ⟨nf,hnf⟩:∃ nf:Nat → Str,nf = fun (k:Nat)=>nm.getD ((st + (k:Int)) % 12).toNat "" := ⟨_,rfl⟩
 have hnm:∀ k,nf k ∈ nm:=fun k=>by rw [hnf]; exact (at_nm nm hp ((st + (k:Int)) % 12) (by omega) (by omega)).2
 obtain ⟨ps,hps⟩:∃ ps:List (Str × D),ps = (List.range n).map fun k=>(nf k,f k):=⟨_,rfl⟩
 have pl:ps.length = n:=by rw [hps]; simp
 have pv:∀ v ∈ ps.map (·.2),Vb v ∧ Lk m.toNat v:=fun v hv=>by
  rw [hps,List.map_map] at hv
  obtain ⟨k,hk,rfl⟩:=List.mem_map.mp hv
  exact (hf k (by have:=List.mem_range.mp hk; omega)).1
 have short:∀ s ∈ nm,s.length ≤ 20:=fun s hs=>by have:=name_short (hp.names s hs); omega
 have pn:∀ s ∈ ps.map (·.1),s.length ≤ 20:=fun v hv=>by
  rw [hps,List.map_map] at hv
  obtain ⟨k,hk,rfl⟩:=List.mem_map.mp hv
  exact short _ (hnm k)
 have pnn:∀ s ∈ ps.map (·.1),isName s = true:=fun v hv=>by
  rw [hps,List.map_map] at hv
  obtain ⟨k,hk,rfl⟩:=List.mem_map.mp hv
  exact hp.names _ (hnm k)
 have s7:setD (gN 7) (o2 (oA (consA (gv 0) (consA (gc (.int 30)) nilA)) m__law_mix) (gc (.int 12)) modD) [.sh (.int c),.sh (.lst (nm.map .str)),.sh (.int m),.sh (.int (x1 % 5)),.sh (.int (n:Int)),.un,.sh (.lst vs),.un,.un] = some (.nx [.sh (.int c),.sh (.lst (nm.map .str)),.sh (.int m),.sh (.int (x1 % 5)),.sh (.int (n:Int)),.un,.sh (.lst vs),.sh (.int st),.un]):=by
  refine set_of (i:=7) (d:=.int st) ?_
  rw [o2_of (x:=.int xt) (y:=.int 12) (by rw [oA_of (ds:=[.int c,.int 30]) rfl]; exact t2) rfl,hst]
  rfl
 have s8:setD (gN 8) (oA (consA (compG 1 [1,6,7] (rng1I (consA (gv 4) nilA)) (gN 0) noT (tupG (consA (o2 (gv 1) (o2 (o2 (gv 3) (gv 0) addA) (gc (.int 12)) modD) ixD) (consA (o2 (gv 2) (gv 0) ixD) nilA)))) nilA) tupOfD) [.sh (.int c),.sh (.lst (nm.map .str)),.sh (.int m),.sh (.int (x1 % 5)),.sh (.int (n:Int)),.un,.sh (.lst vs),.sh (.int st),.un] = some (.nx [.sh (.int c),.sh (.lst (nm.map .str)),.sh (.int m),.sh (.int (x1 % 5)),.sh (.int (n:Int)),.un,.sh (.lst vs),.sh (.int st),.sh (.tup (ps.map pr))]):=by
  refine set_of (i:=8) (d:=.tup (ps.map pr)) ?_
  rw [oA_of (ds:=[.lst (ps.map pr)]) (cons_of (comp_of (items:=rngD 0 (n:Int)) (rng1_of (cons_of rfl rfl) (by omega) (by omega)) (by rw [rng_len]; omega) (by
   rw [hps,List.map_map]
   have q:=comp_rng (gt:=noT) (ge:=(tupG (consA (o2 (gv 1) (o2 (o2 (gv 3) (gv 0) addA) (gc (.int 12)) modD) ixD) (consA (o2 (gv 2) (gv 0) ixD) nilA)))) (δ:=[.un,.sh (.lst (nm.map .str)),.sh (.lst vs),.sh (.int st)]) (n:=(n:Int)) (fun j=>pr (nf j,f j)) (fun k hk=>⟨[.sh (.int (k:Int)),.sh (.lst (nm.map .str)),.sh (.lst vs),.sh (.int st)],rfl,rfl,by
    have hk':k < n:=by omega
    refine tup_of (cons_of (d:=.str (nf k)) ?_ (cons_of (d:=f k) ?_ rfl)) (by show 2 ≤ sizeLine; omega)
    ·rw [o2_of (x:=.lst (nm.map .str)) (y:=.int ((st + (k:Int)) % 12)) rfl rfl,hnf]
     exact (at_nm nm hp _ (by omega) (by omega)).1
    ·rw [o2_of (x:=.lst vs) (y:=.int (k:Int)) rfl rfl]
     show atI vs (k:Int) = _
     rw [atI_in (by omega) (by omega) .non,Int.toNat_natCast,hvs]
     simp [List.getD_eq_getElem?_getD,hk']⟩)
   rw [Int.toNat_natCast] at q
   exact q)) rfl)]
  rfl
 by_cases k2:x1 % 5 = 2
 ·refine ⟨.table ps,mkF_rt rfl (seq_to (set_of (d:=.int (x1 % 5)) (s3 _)) (seq_to (set_of (d:=.int (n:Int)) (hn _)) (seq_to (n0 _) (seq_to (set_of (d:=.lst vs) s6) (seq_to (n1 _) (seq_to s7 (seq_to s8 (seq_rt ?_)))))))),⟨by show ps.length ≤ 20; omega,fun v hv=>(pv v hv).1,fun s hs=>pn s (by simpa [Pt.all,Pt.pnames,Pt.cls] using hs),by show (ps.map (·.2)).length ≤ 12; rw [List.length_map]; omega⟩,fun v hv=>(pv v hv).2,fun s hs=>pnn s (by simpa [Pt.all,Pt.pnames,Pt.cls] using hs),fun w e=>by cases e⟩
  rw [if_t (by show some (decide (x1 % 5 = 2)) = _; rw [decide_eq_true k2])]
  exact seq_rt (ret_of (tup_of (cons_of rfl (cons_of rfl rfl)) (by show 2 ≤ sizeLine; omega)))
 ·obtain ⟨a1,a2⟩:=at_nm nm hp (xc % 12) (by omega) (by omega)
  refine ⟨.rcd (nm.getD (xc % 12).toNat "") ps,mkF_rt rfl (seq_to (set_of (d:=.int (x1 % 5)) (s3 _)) (seq_to (set_of (d:=.int (n:Int)) (hn _)) (seq_to (n0 _) (seq_to (set_of (d:=.lst vs) s6) (seq_to (n1 _) (seq_to s7 (seq_to s8 (seq_to (δ':=[.sh (.int c),.sh (.lst (nm.map .str)),.sh (.int m),.sh (.int (x1 % 5)),.sh (.int (n:Int)),.un,.sh (.lst vs),.sh (.int st),.sh (.tup (ps.map pr))]) ?_ (seq_rt (ret_of ?_)))))))))),⟨by show ps.length ≤ 20; omega,fun v hv=>(pv v hv).1,fun s hs=>?_,by show (ps.map (·.2)).length ≤ 12; rw [List.length_map]; omega⟩,fun v hv=>(pv v hv).2,fun s hs=>?_,fun w e=>by cases e⟩
  ·rw [if_f (by show some (decide (x1 % 5 = 2)) = _; rw [decide_eq_false k2])]; rfl
  ·exact tup_of (cons_of rfl (cons_of (by
    rw [o2_of (x:=.lst (nm.map .str)) (y:=.int (xc % 12)) rfl (by
     rw [o2_of (x:=.int xc) (y:=.int 12) (by rw [oA_of (ds:=[.int c,.int 31]) rfl]; exact c2) rfl]
     rfl)]
    exact a1) (cons_of rfl rfl))) (by show 3 ≤ sizeLine; omega)
  ·rcases List.mem_append.mp hs with q | q
   ·exact pn s q
   ·have:=List.mem_singleton.mp q
    rw [this]; exact short _ a2
  ·rcases List.mem_append.mp hs with q | q
   ·exact pnn s q
   ·have:=List.mem_singleton.mp q
    rw [this]; exact hp.names _ a2
theorem built_ok (ns:List Int) (hb:∀ z ∈ ns,z.natAbs.log2 ≤ 1048576) (a:Int) (ha:0 ≤ a ∧ a ≤ 100) (most:Int) (hm:0 < most ∧ most ≤ 60):∃ ps:List Pt,m__law_built [.lst (ns.map .int),.int a,.int most] = some (web ps) ∧ Gw' ps ∧ 0 < ps.length ∧ (∀ p ∈ ps,∀ v ∈ p.vals,Lk ps.length v) ∧ ∀ p ∈ ps,Gs p:=by
 have z:(1000:Nat) ≤ sizeLine:=by decide
 obtain ⟨c0,e0,_⟩:=cell_b ns hb a ha.1 (by omega)
 obtain ⟨c1,e1,_⟩:=cell_b ns hb (a + 1) (by omega) (by omega)
 obtain ⟨x,x0,x1,x2⟩:=mix_ok c0 3 (by decide) (by decide)
 obtain ⟨nm,hn,hp⟩:=pool_ok c1
 have j0:0 ≤ x % most:=Int.emod_nonneg _ (by omega)
 have j1:x % most < most:=Int.emod_lt_of_pos _ hm.1
 obtain ⟨n,hnn⟩:∃ n:Nat,(n:Int) = 1 + x % most:=⟨(1 + x % most).toNat,by omega⟩
 have n60:n ≤ 60:=by omega
 have n1:0 < n:=by omega
 obtain ⟨f,hf⟩:∃ f:Nat → Pt,∀ k:Nat,k < 60 → (Gq (f k) ∧ (∀ v ∈ (f k).vals,Lk n v) ∧ Gs (f k)) ∧ ∀ δ:Ds,oA (consA (oA (consA (gv 1) (consA (o2 (o2 (gv 2) (gc (.int 2)) addA) (gv 0) addA) nilA)) m__law_cell_at) (consA (gv 4) (consA (gv 3) nilA))) m__law_drawn_part (.sh (.int (k:Int)) :: .sh (.lst (ns.map .int)) :: .sh (.int a) :: .sh (.int (n:Int)) :: .sh (.lst (nm.map .str)) :: δ) = some (f k).d:=by
  have:∀ k:Nat,∃ p:Pt,k < 60 → (Gq p ∧ (∀ v ∈ p.vals,Lk n v) ∧ Gs p) ∧ ∀ δ:Ds,oA (consA (oA (consA (gv 1) (consA (o2 (o2 (gv 2) (gc (.int 2)) addA) (gv 0) addA) nilA)) m__law_cell_at) (consA (gv 4) (consA (gv 3) nilA))) m__law_drawn_part (.sh (.int (k:Int)) :: .sh (.lst (ns.map .int)) :: .sh (.int a) :: .sh (.int (n:Int)) :: .sh (.lst (nm.map .str)) :: δ) = some p.d:=fun k=>by
   by_cases hk:k < 60
   ·obtain ⟨c,e,hc⟩:=cell_b ns hb (a + 2 + (k:Int)) (by omega) (by omega)
    obtain ⟨p,h1,h2⟩:=part_ok c (n:Int) nm hp hc (by omega)
    refine ⟨p,fun _=>⟨h2,fun δ=>?_⟩⟩
    rw [oA_of (ds:=[.int c,.lst (nm.map .str),.int (n:Int)]) (cons_of (by
     rw [oA_of (ds:=[.lst (ns.map .int),.int (a + 2 + (k:Int))]) rfl]
     exact e) (cons_of rfl (cons_of rfl rfl)))]
    exact h1
   ·exact ⟨.row [],fun h=>absurd h hk⟩
  obtain ⟨f,hf⟩:=Classical.axiomOfChoice this
  exact ⟨f,hf⟩
 refine ⟨(List.range n).map f,mkF_rt rfl (seq_to (set_of (d:=.int (n:Int)) ?_) (seq_to (set_of (d:=.lst (nm.map .str)) ?_) (seq_rt (ret_of ?_)))),⟨by simp; omega,fun p hp=>?_⟩,by simp; omega,fun p hp=>?_,fun p hp=>?_⟩
 ·rw [o2_of (x:=.int 1) (y:=.int (x % most)) rfl (by
   rw [o2_of (x:=.int x) (y:=.int most) (by
    rw [oA_of (ds:=[.int c0,.int 3]) (cons_of (by rw [oA_of (ds:=[.lst (ns.map .int),.int a]) rfl]; exact e0) rfl)]
    exact x2) rfl]
   exact Gw.mod_p _ _ hm.1),hnn]
  rfl
 ·rw [oA_of (ds:=[.int c1,.int 12]) (cons_of (by rw [oA_of (ds:=[.lst (ns.map .int),.int (a + 1)]) rfl]; exact e1) rfl)]
  exact hn
 ·rw [oA_of (ds:=[.lst (((List.range n).map f).map Pt.d)]) (cons_of (comp_of (items:=rngD 0 (n:Int)) (rng1_of (cons_of rfl rfl) (by omega) (by omega)) (by rw [rng_len]; omega) (by
   have q:=comp_rng (gt:=noT) (ge:=oA (consA (oA (consA (gv 1) (consA (o2 (o2 (gv 2) (gc (.int 2)) addA) (gv 0) addA) nilA)) m__law_cell_at) (consA (gv 4) (consA (gv 3) nilA))) m__law_drawn_part) (δ:=[.un,.sh (.lst (ns.map .int)),.sh (.int a),.sh (.int (n:Int)),.sh (.lst (nm.map .str))]) (n:=(n:Int)) (fun k=>(f k).d) (fun k hk=>⟨_,rfl,rfl,(hf k (by omega)).2 []⟩)
   rw [Int.toNat_natCast] at q
   rw [List.map_map]
   exact q)) rfl)]
  rfl
 ·obtain ⟨k,hk,rfl⟩:=List.mem_map.mp hp
  exact (hf k (by have:=List.mem_range.mp hk; omega)).1.1
 ·obtain ⟨k,hk,rfl⟩:=List.mem_map.mp hp
  rw [List.length_map,List.length_range]
  exact (hf k (by have:=List.mem_range.mp hk; omega)).1.2.1
 ·obtain ⟨k,hk,rfl⟩:=List.mem_map.mp hp
  exact (hf k (by have:=List.mem_range.mp hk; omega)).1.2.2
end Bw
namespace Ia
open PySem DL W
noncomputable def G_unfolded:GS:=(seqD (ifD (ob (o2 (o2 (gv 0) (gc (.int 2)) modD) (gc (.int 1)) eqD))
 (seqD (retD (o2 (unG negD (o2 (gv 0) (gc (.int 2)) fdivD)) (gc (.int 1)) subD))
 nilD)
 nilD)
 (seqD (retD (o2 (gv 0) (gc (.int 2)) fdivD))
 nilD))
noncomputable def N_unfolded:List Str:=["number"]
noncomputable def m_unfolded:List D → Option D:=mkF 1 N_unfolded G_unfolded
noncomputable def G_sign_of:GS:=(seqD (forG (strI (gv 1)) (gN 2)
 (seqD (ifD (ob (o2 (oA (consA (gv 2) nilA) ordD) (gv 0) eqD))
 (seqD (retD (gv 2))
 nilD)
 nilD)
 nilD))
 (seqD (retD (gc .non))
 nilD))
noncomputable def N_sign_of:List Str:=["byte", "signs", "sign"]
noncomputable def m_sign_of:List D → Option D:=mkF 2 N_sign_of G_sign_of
noncomputable def G_wanted_items:GS:=(seqD (ifD (ob (o2 (gv 0) (gc (.str "text")) eqD))
 (seqD (retD (o2 (lstG (consA (gc (.str "sign")) nilA)) (gv 1) mulL))
 nilD)
 nilD)
 (seqD (ifD (ob (o2 (gv 0) (gc (.str "row")) eqD))
 (seqD (retD (o2 (lstG (consA (gc (.str "value")) nilA)) (gv 1) mulL))
 nilD)
 nilD)
 (seqD (ifD (ob (o2 (gv 0) (gc (.str "table")) eqD))
 (seqD (retD (o2 (lstG (consA (gc (.str "name")) (consA (gc (.str "value")) nilA))) (gv 1) mulL))
 nilD)
 nilD)
 (seqD (retD (o2 (lstG (consA (gc (.str "class")) nilA)) (o2 (lstG (consA (gc (.str "name")) (consA (gc (.str "value")) nilA))) (gv 1) mulL) addA))
 nilD))))
noncomputable def N_wanted_items:List Str:=["kind", "size"]
noncomputable def m_wanted_items:List D → Option D:=mkF 2 N_wanted_items G_wanted_items
noncomputable def G_made_pairs:GS:=(seqD (retD (oA (consA (stepG (gv 0) (someO (gc (.int 0))) noneO (someO (gc (.int 2)))) (consA (stepG (gv 0) (someO (gc (.int 1))) noneO (someO (gc (.int 2)))) nilA)) zipTD))
 nilD)
noncomputable def N_made_pairs:List Str:=["held"]
noncomputable def m_made_pairs:List D → Option D:=mkF 1 N_made_pairs G_made_pairs
noncomputable def G_made_part:GS:=(seqD (ifD (ob (o2 (gv 0) (gc (.str "text")) eqD))
 (seqD (retD (tupG (consA (gc (.str "text")) (consA (joinG (gc (.str "")) (consA (gv 1) nilA)) nilA))))
 nilD)
 nilD)
 (seqD (ifD (ob (o2 (gv 0) (gc (.str "row")) eqD))
 (seqD (retD (tupG (consA (gc (.str "row")) (consA (oA (consA (gv 1) nilA) tupOfD) nilA))))
 nilD)
 nilD)
 (seqD (ifD (ob (o2 (gv 0) (gc (.str "table")) eqD))
 (seqD (retD (tupG (consA (gc (.str "table")) (consA (oA (consA (gv 1) nilA) m_made_pairs) nilA))))
 nilD)
 nilD)
 (seqD (retD (tupG (consA (gc (.str "record")) (consA (o2 (gv 1) (gc (.int 0)) ixD) (consA (oA (consA (slAG (gv 1) (someO (gc (.int 1))) noneO) nilA) m_made_pairs) nilA)))))
 nilD))))
noncomputable def N_made_part:List Str:=["kind", "held"]
noncomputable def m_made_part:List D → Option D:=mkF 2 N_made_part G_made_part
noncomputable def G_numbered_value:GS:=(seqD (ifD (ob (o2 (gv 0) (gc (.int 0)) eqD))
 (seqD (retD (gc .non))
 nilD)
 nilD)
 (seqD (ifD (ob (o2 (o2 (gv 0) (gc (.int 2)) modD) (gc (.int 0)) eqD))
 (seqD (retD (tupG (consA (gc (.str "at")) (consA (o2 (o2 (gv 0) (gc (.int 2)) fdivD) (gc (.int 1)) subD) nilA))))
 nilD)
 nilD)
 (seqD (retD (oA (consA (o2 (gv 0) (gc (.int 2)) fdivD) nilA) m_unfolded))
 nilD)))
noncomputable def N_numbered_value:List Str:=["number"]
noncomputable def m_numbered_value:List D → Option D:=mkF 1 N_numbered_value G_numbered_value
noncomputable def G_number_at:GS:=(seqD (setD (gN 2) (gc (.int 0)))
 (seqD (setD (gN 3) (o2 (gv 0) (gv 1) callLD))
 (seqD (whileD (ob (o2 (gv 3) (gc (.int 128)) geD))
 (seqD (setD (gN 2) (o2 (o2 (o2 (gv 2) (gc (.int 128)) mulA) (gv 3) addA) (gc (.int 128)) subD))
 (seqD (augD 1 (gc (.int 1)))
 (seqD (setD (gN 3) (o2 (gv 0) (gv 1) callLD))
 nilD))) 100000)
 (seqD (retD (tupG (consA (o2 (o2 (gv 2) (gc (.int 128)) mulA) (gv 3) addA) (consA (o2 (gv 1) (gc (.int 1)) addA) nilA))))
 nilD))))
noncomputable def N_number_at:List Str:=["look", "place", "number", "byte"]
noncomputable def m_number_at:List D → Option D:=mkF 2 N_number_at G_number_at
noncomputable def G_count_of:GS:=(seqD (retD (o2 (oA (consA (gv 0) (consA (gc (.int 0)) nilA)) m_number_at) (gc (.int 0)) ixD))
 nilD)
noncomputable def N_count_of:List Str:=["look"]
noncomputable def m_count_of:List D → Option D:=mkF 1 N_count_of G_count_of
noncomputable def G_part_starts:GZ:=(seqZ (okZ (setD (gN 2) (oA (consA (gv 0) (consA (gc (.int 0)) nilA)) m_number_at)))
 (seqZ (ifZ (tOrG (ob (o2 (gv 1) (gc (.int 0)) ltD)) (ob (o2 (gv 1) (o2 (gv 2) (gc (.int 0)) ixD) geD)))
 (seqZ (raiseZ "NoPlace")
 nilZ)
 nilZ)
 (seqZ (okZ (setD (gN 3) (o2 (gv 2) (gc (.int 1)) ixD)))
 (seqZ (okZ (ownD 4 (lstG nilA)))
 (seqZ (okZ (whileD (ob (o2 (borE (oA (consA (gv 4) nilA) lenD)) (o2 (gv 2) (gc (.int 0)) ixD) ltD))
 (seqD (setD (gN 5) (oA (consA (gv 0) (consA (gv 3) nilA)) m_number_at))
 (seqD (exprX (appX 4 (o2 (gv 5) (gc (.int 0)) ixD)))
 (seqD (setD (gN 3) (o2 (gv 5) (gc (.int 1)) ixD))
 nilD))) 100000))
 (seqZ (okZ (frzS 4 (ownD 6 (lstG nilA))))
 (seqZ (okZ (forG (lstI (gv 4)) (gN 5)
 (seqD (exprX (appX 6 (gv 3)))
 (seqD (augD 3 (gv 5))
 nilD))))
 (seqZ (okZ (retD (borA (gv 6))))
 nilZ))))))))
noncomputable def N_part_starts:List Str:=["look", "k", "count", "place", "sizes", "size", "starts"]
noncomputable def m_part_starts:List D → Option DX:=mkX 2 N_part_starts G_part_starts
noncomputable def G_name_at:GS:=(seqD (retD (joinG (gc (.str "")) (consA (compG 1 [0] (rng2I (consA (gv 1) (consA (o2 (gv 1) (gv 2) addA) nilA))) (gN 0) noT (oA (consA (o2 (gv 1) (gv 0) callLD) (consA (gc (.str "0123456789abcdefghijklmnopqrstuvwxyz")) nilA)) m_sign_of)) nilA)))
 nilD)
noncomputable def N_name_at:List Str:=["look", "start", "length"]
noncomputable def m_name_at:List D → Option D:=mkF 3 N_name_at G_name_at
noncomputable def G_item_at:GS:=(seqD (ifD (ob (o2 (gv 2) (gc (.str "sign")) eqD))
 (seqD (retD (tupG (consA (oA (consA (o2 (gv 0) (gv 1) callLD) (consA (gc (.str " 0123456789abcdefghijklmnopqrstuvwxyz")) nilA)) m_sign_of) (consA (o2 (gv 1) (gc (.int 1)) addA) nilA))))
 nilD)
 nilD)
 (seqD (setD (gN 3) (oA (consA (gv 0) (consA (gv 1) nilA)) m_number_at))
 (seqD (ifD (ob (o2 (gv 2) (gc (.str "value")) eqD))
 (seqD (retD (tupG (consA (oA (consA (o2 (gv 3) (gc (.int 0)) ixD) nilA) m_numbered_value) (consA (o2 (gv 3) (gc (.int 1)) ixD) nilA))))
 nilD)
 nilD)
 (seqD (retD (tupG (consA (oA (consA (gv 0) (consA (o2 (gv 3) (gc (.int 1)) ixD) (consA (o2 (gv 3) (gc (.int 0)) ixD) nilA))) m_name_at) (consA (o2 (o2 (gv 3) (gc (.int 1)) ixD) (o2 (gv 3) (gc (.int 0)) ixD) addA) nilA))))
 nilD))))
noncomputable def N_item_at:List Str:=["look", "place", "want", "number"]
noncomputable def m_item_at:List D → Option D:=mkF 3 N_item_at G_item_at
noncomputable def G_part_at:GS:=(seqD (setD (gN 2) (oA (consA (gv 0) (consA (gv 1) nilA)) m_number_at))
 (seqD (setD (gN 3) (unG (atC ["text", "row", "table", "record"]) (o2 (o2 (gv 2) (gc (.int 0)) ixD) (gc (.int 4)) modD)))
 (seqD (setD (gN 4) (o2 (gv 2) (gc (.int 1)) ixD))
 (seqD (ownD 5 (lstG nilA))
 (seqD (forG (lstI (oA (consA (gv 3) (consA (o2 (o2 (gv 2) (gc (.int 0)) ixD) (gc (.int 4)) fdivD) nilA)) m_wanted_items)) (gN 6)
 (seqD (setD (gN 7) (oA (consA (gv 0) (consA (gv 4) (consA (gv 6) nilA))) m_item_at))
 (seqD (exprX (appX 5 (o2 (gv 7) (gc (.int 0)) ixD)))
 (seqD (setD (gN 4) (o2 (gv 7) (gc (.int 1)) ixD))
 nilD))))
 (seqD (retD (borA (oA (consA (gv 3) (consA (gv 5) nilA)) m_made_part)))
 nilD))))))
noncomputable def N_part_at:List Str:=["look", "start", "number", "kind", "place", "held", "want", "item"]
noncomputable def m_part_at:List D → Option D:=mkF 2 N_part_at G_part_at
noncomputable def G_part_of:GZ:=(seqZ (retIZ (gv 0) (consA (gv 0) (consA (gv 1) nilA)) m_part_starts (gv 1) m_part_at)
 nilZ)
noncomputable def N_part_of:List Str:=["look", "k"]
noncomputable def m_part_of:List D → Option DX:=mkX 2 N_part_of G_part_of
noncomputable def G__law_cell_at:GS:=(seqD (ifD (ob (o2 (gv 1) (oA (consA (gv 0) nilA) lenD) ltD))
 (seqD (retD (o2 (gv 0) (gv 1) ixD))
 nilD)
 nilD)
 (seqD (retD (o2 (o2 (o2 (gv 1) (gc (.int 7919)) mulA) (gc (.int 5)) addA) (o2 (gv 1) (gc (.int 31)) addA) mulA))
 nilD))
noncomputable def N__law_cell_at:List Str:=["_law_script", "_law_k"]
noncomputable def m__law_cell_at:List D → Option D:=mkF 2 N__law_cell_at G__law_cell_at
noncomputable def G__law_mix:GS:=(seqD (retD (o2 (o2 (o2 (o2 (o2 (o2 (gv 0) (gc (.int 2147483629)) modD) (gc (.int 1)) addA) (o2 (o2 (gc (.int 48271)) (o2 (gc (.int 69621)) (gv 1) mulA) addA) (o2 (o2 (gc (.int 2)) (gv 1) mulA) (gv 1) mulA) addA) mulA) (gv 1) addA) (gc (.int 2147483647)) modD) (gc (.int 7)) fdivD))
 nilD)
noncomputable def N__law_mix:List Str:=["_law_cell", "_law_k"]
noncomputable def m__law_mix:List D → Option D:=mkF 2 N__law_mix G__law_mix
noncomputable def G__law_pool:GS:=(seqD (setD (gN 2) (gc (.str "abcdefghijklmnopqrstuvwxyz0123456789")))
 (seqD (setD (gN 3) (joinG (gc (.str "")) (consA (compG 1 [0,2] (rng1I (consA (o2 (oA (consA (gv 0) (consA (gc (.int 20)) nilA)) m__law_mix) (gc (.int 8)) modD) nilA)) (gN 0) noT (o2 (gv 2) (o2 (oA (consA (gv 1) (consA (gv 0) nilA)) m__law_mix) (gc (.int 36)) modD) ixD)) nilA)))
 (seqD (setD (gN 4) (o2 (oA (consA (gv 0) (consA (gc (.int 21)) nilA)) m__law_mix) (o2 (oA (consA (gv 3) nilA) lenD) (gc (.int 1)) addA) modD))
 (seqD (retF (compG 1 [0,2,3,4] (rng1I (consA (gv 1) nilA)) (gN 0) noT (o2 (o2 (slAG (gv 3) noneO (someO (gv 4))) (o2 (gv 2) (o2 (o2 (o2 (gc (.int 3)) (gv 0) mulA) (gv 1) addA) (gc (.int 36)) modD) ixD) addA) (slAG (gv 3) (someO (gv 4)) noneO) addA)))
 nilD))))
noncomputable def N__law_pool:List Str:=["_law_cell", "_law_many", "_law_signs_here", "_law_base", "_law_at"]
noncomputable def m__law_pool:List D → Option D:=mkN 2 N__law_pool G__law_pool
noncomputable def G__law_one_value:GS:=(seqD (setD (gN 3) (o2 (oA (consA (gv 0) (consA (gv 1) nilA)) m__law_mix) (gc (.int 5)) modD))
 (seqD (ifD (ob (o2 (gv 3) (gc (.int 0)) eqD))
 (seqD (retD (gc .non))
 nilD)
 nilD)
 (seqD (ifD (ob (o2 (gv 3) (gc (.int 3)) ltD))
 (seqD (retD (tupG (consA (gc (.str "at")) (consA (o2 (oA (consA (gv 0) (consA (o2 (gc (.int 40)) (gv 1) addA) nilA)) m__law_mix) (gv 2) modD) nilA))))
 nilD)
 nilD)
 (seqD (ifD (ob (o2 (gv 3) (gc (.int 3)) eqD))
 (seqD (retD (o2 (o2 (oA (consA (gv 0) (consA (o2 (gc (.int 60)) (gv 1) addA) nilA)) m__law_mix) (gc (.int 260)) modD) (gc (.int 130)) subD))
 nilD)
 nilD)
 (seqD (retD (o2 (o2 (o2 (o2 (o2 (o2 (gv 0) (gc (.int 1)) addA) (o2 (gv 1) (gc (.int 3)) addA) mulA) (o2 (gc (.int 982451653)) (gc (.int 7)) powD) mulW) (o2 (o2 (gc (.int 2)) (o2 (gc (.int 10)) (gc (.int 60)) powD) mulA) (gc (.int 1)) subD) modD) (gc (.int 1)) addA) (o2 (gc (.int 10)) (gc (.int 60)) powD) subD))
 nilD)))))
noncomputable def N__law_one_value:List Str:=["_law_cell", "_law_k", "_law_many", "_law_way"]
noncomputable def m__law_one_value:List D → Option D:=mkF 3 N__law_one_value G__law_one_value
noncomputable def G__law_drawn_part:GS:=(seqD (setD (gN 3) (o2 (oA (consA (gv 0) (consA (gc (.int 1)) nilA)) m__law_mix) (gc (.int 5)) modD))
 (seqD (setD (gN 4) (o2 (lstG (consA (gc (.int 0)) (consA (gc (.int 1)) (consA (gc (.int 2)) (consA (gc (.int 3)) (consA (gc (.int 2)) (consA (gc (.int 1)) (consA (gc (.int 4)) (consA (gc (.int 12)) nilA))))))))) (o2 (oA (consA (gv 0) (consA (gc (.int 2)) nilA)) m__law_mix) (gc (.int 8)) modD) ixD))
 (seqD (ifD (ob (o2 (gv 3) (gc (.int 0)) eqD))
 (seqD (setD (gN 5) (gc (.str "abcdefghijklmnopqrstuvwxyz0123456789 ")))
 (seqD (retD (tupG (consA (gc (.str "text")) (consA (joinG (gc (.str "")) (consA (compG 1 [0,5] (rng1I (consA (o2 (oA (consA (gv 0) (consA (gc (.int 3)) nilA)) m__law_mix) (gc (.int 21)) modD) nilA)) (gN 0) noT (o2 (gv 2) (o2 (oA (consA (gv 1) (consA (o2 (gc (.int 80)) (gv 0) addA) nilA)) m__law_mix) (gc (.int 37)) modD) ixD)) nilA)) nilA))))
 nilD))
 nilD)
 (seqD (setD (gN 6) (compG 1 [0,2] (rng1I (consA (gv 4) nilA)) (gN 0) noT (oA (consA (gv 1) (consA (o2 (gc (.int 4)) (gv 0) addA) (consA (gv 2) nilA))) m__law_one_value)))
 (seqD (ifD (ob (o2 (gv 3) (gc (.int 1)) eqD))
 (seqD (retD (tupG (consA (gc (.str "row")) (consA (oA (consA (gv 6) nilA) tupOfD) nilA))))
 nilD)
 nilD)
 (seqD (setD (gN 7) (o2 (oA (consA (gv 0) (consA (gc (.int 30)) nilA)) m__law_mix) (gc (.int 12)) modD))
 (seqD (setD (gN 8) (oA (consA (compG 1 [1,6,7] (rng1I (consA (gv 4) nilA)) (gN 0) noT (tupG (consA (o2 (gv 1) (o2 (o2 (gv 3) (gv 0) addA) (gc (.int 12)) modD) ixD) (consA (o2 (gv 2) (gv 0) ixD) nilA)))) nilA) tupOfD))
 (seqD (ifD (ob (o2 (gv 3) (gc (.int 2)) eqD))
 (seqD (retD (tupG (consA (gc (.str "table")) (consA (gv 8) nilA))))
 nilD)
 nilD)
 (seqD (retD (tupG (consA (gc (.str "record")) (consA (o2 (gv 1) (o2 (oA (consA (gv 0) (consA (gc (.int 31)) nilA)) m__law_mix) (gc (.int 12)) modD) ixD) (consA (gv 8) nilA)))))
 nilD)))))))))
noncomputable def N__law_drawn_part:List Str:=["_law_cell", "_law_names", "_law_many", "_law_kind", "_law_size", "_law_signs_here", "_law_some", "_law_turn", "_law_pairs"]
noncomputable def m__law_drawn_part:List D → Option D:=mkF 3 N__law_drawn_part G__law_drawn_part
noncomputable def G__law_built:GS:=(seqD (setD (gN 3) (o2 (gc (.int 1)) (o2 (oA (consA (oA (consA (gv 0) (consA (gv 1) nilA)) m__law_cell_at) (consA (gc (.int 3)) nilA)) m__law_mix) (gv 2) modD) addA))
 (seqD (setD (gN 4) (oA (consA (oA (consA (gv 0) (consA (o2 (gv 1) (gc (.int 1)) addA) nilA)) m__law_cell_at) (consA (gc (.int 12)) nilA)) m__law_pool))
 (seqD (retD (oA (consA (compG 1 [0,1,3,4] (rng1I (consA (gv 3) nilA)) (gN 0) noT (oA (consA (oA (consA (gv 1) (consA (o2 (o2 (gv 2) (gc (.int 2)) addA) (gv 0) addA) nilA)) m__law_cell_at) (consA (gv 4) (consA (gv 3) nilA))) m__law_drawn_part)) nilA) tupOfD))
 nilD)))
noncomputable def N__law_built:List Str:=["_law_script", "_law_start", "_law_most", "_law_many", "_law_names"]
noncomputable def m__law_built:List D → Option D:=mkF 3 N__law_built G__law_built
noncomputable def G__law_digits:GS:=(seqD (ownD 1 (lstG (consA (o2 (gv 0) (gc (.int 128)) modD) nilA)))
 (seqD (whileD (ob (o2 (gv 0) (gc (.int 127)) gtD))
 (seqD (setD (gN 0) (o2 (gv 0) (gc (.int 128)) fdivD))
 (seqD (exprX (ins0X 1 (o2 (gc (.int 128)) (o2 (gv 0) (gc (.int 128)) modD) addA)))
 nilD)) 100000)
 (seqD (retO 1)
 nilD)))
noncomputable def N__law_digits:List Str:=["_law_number", "_law_found"]
noncomputable def m__law_digits:List D → Option D:=mkN 1 N__law_digits G__law_digits
noncomputable def G__law_signs:GS:=(seqD (retF (compG 1 [] (strI (gv 0)) (gN 0) noT (oA (consA (gv 0) nilA) ordD)))
 nilD)
noncomputable def N__law_signs:List Str:=["_law_word"]
noncomputable def m__law_signs:List D → Option D:=mkN 1 N__law_signs G__law_signs
noncomputable def G__law_value_bytes:GS:=(seqD (ifD (ob (o2 (gv 0) (gc .non) isND))
 (seqD (retF (lstG (consA (gc (.int 0)) nilA)))
 nilD)
 nilD)
 (seqD (ifD (ob (isiG isTup (gv 0)))
 (seqD (retF (oA (consA (o2 (o2 (gc (.int 2)) (o2 (gv 0) (gc (.int 1)) ixD) mulA) (gc (.int 2)) addA) nilA) m__law_digits))
 nilD)
 nilD)
 (seqD (ifD (ob (o2 (gv 0) (gc (.int 0)) ltD))
 (seqD (retF (oA (consA (o2 (o2 (gc (.int 2)) (o2 (o2 (gc (.int 0)) (o2 (gc (.int 2)) (gv 0) mulA) subD) (gc (.int 1)) subD) mulA) (gc (.int 1)) addA) nilA) m__law_digits))
 nilD)
 nilD)
 (seqD (retF (oA (consA (o2 (o2 (gc (.int 4)) (gv 0) mulA) (gc (.int 1)) addA) nilA) m__law_digits))
 nilD))))
noncomputable def N__law_value_bytes:List Str:=["_law_value"]
noncomputable def m__law_value_bytes:List D → Option D:=mkN 1 N__law_value_bytes G__law_value_bytes
noncomputable def G__law_part_bytes:GS:=(seqD (setD (gN 1) (methG (lstG (consA (gc (.str "text")) (consA (gc (.str "row")) (consA (gc (.str "table")) (consA (gc (.str "record")) nilA))))) (consA (o2 (gv 0) (gc (.int 0)) ixD) nilA) idxD))
 (seqD (setD (gN 2) (oA (consA (o2 (o2 (gc (.int 4)) (oA (consA (o2 (gv 0) (unG negD (gc (.int 1))) ixD) nilA) lenD) mulA) (gv 1) addA) nilA) m__law_digits))
 (seqD (ifD (ob (o2 (gv 1) (gc (.int 0)) eqD))
 (seqD (retD (o2 (gv 2) (oA (consA (o2 (gv 0) (gc (.int 1)) ixD) nilA) m__law_signs) addA))
 nilD)
 nilD)
 (seqD (ifD (ob (o2 (gv 1) (gc (.int 1)) eqD))
 (seqD (forG (tupI (o2 (gv 0) (gc (.int 1)) ixD)) (gN 3)
 (seqD (setD (gN 2) (o2 (gv 2) (oA (consA (gv 3) nilA) m__law_value_bytes) addA))
 nilD))
 (seqD (retD (gv 2))
 nilD))
 nilD)
 (seqD (ifD (ob (o2 (gv 1) (gc (.int 3)) eqD))
 (seqD (setD (gN 2) (o2 (o2 (gv 2) (oA (consA (oA (consA (o2 (gv 0) (gc (.int 1)) ixD) nilA) lenD) nilA) m__law_digits) addA) (oA (consA (o2 (gv 0) (gc (.int 1)) ixD) nilA) m__law_signs) addA))
 nilD)
 nilD)
 (seqD (forG (tupI (o2 (gv 0) (unG negD (gc (.int 1))) ixD)) (tup2 4 3)
 (seqD (setD (gN 2) (o2 (o2 (gv 2) (oA (consA (oA (consA (gv 4) nilA) lenD) nilA) m__law_digits) addA) (oA (consA (gv 4) nilA) m__law_signs) addA))
 (seqD (setD (gN 2) (o2 (gv 2) (oA (consA (gv 3) nilA) m__law_value_bytes) addA))
 nilD)))
 (seqD (retD (gv 2))
 nilD)))))))
noncomputable def N__law_part_bytes:List Str:=["_law_part", "_law_kind", "_law_found", "_law_value", "_law_name"]
noncomputable def m__law_part_bytes:List D → Option D:=mkF 1 N__law_part_bytes G__law_part_bytes
noncomputable def G__law_laid_out:GS:=(seqD (setD (gN 1) (compG 1 [] (tupI (gv 0)) (gN 0) noT (oA (consA (gv 0) nilA) m__law_part_bytes)))
 (seqD (setD (gN 2) (oA (consA (oA (consA (gv 0) nilA) lenD) nilA) m__law_digits))
 (seqD (forG (lstI (gv 1)) (gN 3)
 (seqD (setD (gN 2) (o2 (gv 2) (oA (consA (oA (consA (gv 3) nilA) lenD) nilA) m__law_digits) addA))
 nilD))
 (seqD (ownD 4 (lstG nilA))
 (seqD (ownD 5 (oA (consA (gv 2) nilA) lstOfD))
 (seqD (forG (lstI (gv 1)) (gN 3)
 (seqD (exprX (appX 4 (borE (oA (consA (gv 5) nilA) lenD))))
 (seqD (exprX (extX 5 (gv 3)))
 nilD)))
 (seqD (retD (borA (tupG (consA (gv 5) (consA (oA (consA (gv 2) nilA) lenD) (consA (o2 (gv 4) (lstG (consA (oA (consA (gv 5) nilA) lenD) nilA)) addA) nilA))))))
 nilD)))))))
noncomputable def N__law_laid_out:List Str:=["_law_web", "_law_some", "_law_index", "_law_one", "_law_begins", "_law_whole"]
noncomputable def m__law_laid_out:List D → Option D:=mkF 1 N__law_laid_out G__law_laid_out
noncomputable def GR__law_alike (m__law_alike:List D → Option D):GS:=(seqD (ifD (ob (o2 (gv 1) (gc .non) isND))
 (seqD (retD (o2 (gv 0) (gc .non) isND))
 nilD)
 nilD)
 (seqD (ifD (ob (isiG isStr (gv 1)))
 (seqD (retD (andG (isiG isStr (gv 0)) (o2 (gv 0) (gv 1) eqD)))
 nilD)
 nilD)
 (seqD (ifD (ob (isiG isInt (gv 1)))
 (seqD (retD (andG (isiG isInt (gv 0)) (andG (notG (isiG isBool (gv 0))) (o2 (gv 0) (gv 1) eqD))))
 nilD)
 nilD)
 (seqD (ifD (tOrG (ob (o2 (isiG isTup (gv 0)) (isiG isTup (gv 1)) neD)) (ob (o2 (isiG isLst (gv 0)) (isiG isLst (gv 1)) neD)))
 (seqD (retD (gc (.bl false)))
 nilD)
 nilD)
 (seqD (retD (andG (o2 (oA (consA (gv 0) nilA) lenD) (oA (consA (gv 1) nilA) lenD) eqD) (oA (consA (compG 1 [0,1] (rng1I (consA (oA (consA (gv 1) nilA) lenD) nilA)) (gN 0) noT (oA (consA (o2 (gv 1) (gv 0) ixD) (consA (o2 (gv 2) (gv 0) ixD) nilA)) m__law_alike)) nilA) allD)))
 nilD)))))
noncomputable def N__law_alike:List Str:=["_law_found", "_law_due"]
noncomputable def mR__law_alike:Nat → List D → Option D:=Bw.mR__law_alike
noncomputable def m__law_alike:List D → Option D:=mR__law_alike 8
noncomputable def G__law_look:GS:=(seqD (ownD 2 (gc (.dct (.inl []) [])))
 (seqD (forG (lstI (gv 1)) (tup2 3 4)
 (seqD (forG (rng2I (consA (gv 3) (consA (gv 4) nilA))) (gN 5)
 (seqD (asgX (pureX (o2 (gv 0) (gv 5) ixD)) (putAt 2 (gv 5)))
 nilD))
 nilD))
 nilD))
noncomputable def N__law_look:List Str:=["_law_whole", "_law_spans", "_law_there", "_law_low", "_law_high", "_law_place"]
noncomputable def m__law_look:List D → Option D:=mkL 2 2 N__law_look G__law_look
noncomputable def G__law_refused:GS:=(seqD (setD (gN 2) (gc .non))
 (seqD (tryD ["NoText", "NoPlace", "NoValue", "TooMany", "NoMake", "NoBase", "NoRow", "NoName", "NoWay", "NoPack"] 3 (seqZ (callEZ (consA (gv 0) (consA (gv 1) nilA)) m_part_of)
 nilZ)
 (seqD (cpX 2 3)
 nilD))
 (seqD (ifD (ob (exI 2 ["NoText", "NoPlace", "NoValue", "TooMany", "NoMake", "NoBase", "NoRow", "NoName", "NoWay", "NoPack"] fun c=>["NoBase", "NoMake", "NoName", "NoPack", "NoRow", "NoText", "NoValue", "NoWay", "TooMany"].any fun n=>decide (c = n)))
 (seqD (retD (gc (.bl false)))
 nilD)
 nilD)
 (seqD (retD (andG (exI 2 ["NoText", "NoPlace", "NoValue", "TooMany", "NoMake", "NoBase", "NoRow", "NoName", "NoWay", "NoPack"] fun c=>decide (c = "NoPlace")) (exI 2 ["NoText", "NoPlace", "NoValue", "TooMany", "NoMake", "NoBase", "NoRow", "NoName", "NoWay", "NoPack"] fun _=>true)))
 nilD))))
noncomputable def N__law_refused:List Str:=["_law_look_here", "_law_k", "_law_kept", "e"]
noncomputable def m__law_refused:List D → Option D:=mkF 2 N__law_refused G__law_refused
noncomputable def G_law:GS:=(seqD (setD (gN 1) (gc (.int 12)))
 (seqD (ifD (ob (o2 (o2 (oA (consA (gv 0) (consA (gc (.int 0)) nilA)) m__law_cell_at) (gc (.int 4)) modD) (gc (.int 1)) eqD))
 (seqD (setD (gN 1) (gc (.int 60)))
 nilD)
 nilD)
 (seqD (setD (gN 2) (oA (consA (gv 0) (consA (gc (.int 1)) (consA (gv 1) nilA))) m__law_built))
 (seqD (asgX (pureX (oA (consA (gv 2) nilA) m__law_laid_out)) (tup3 3 4 5))
 (seqD (ifD (tNotG (ob (oA (consA (oA (consA (oA (consA (gv 3) (consA (lstG (consA (tupG (consA (gc (.int 0)) (consA (gc (.int 1)) nilA))) nilA)) nilA)) m__law_look) nilA) m_count_of) (consA (oA (consA (gv 2) nilA) lenD) nilA)) m__law_alike)))
 (seqD (retD (gc (.bl false)))
 nilD)
 nilD)
 (seqD (forG (rng1I (consA (gc (.int 3)) nilA)) (gN 6)
 (seqD (setD (gN 7) (o2 (oA (consA (oA (consA (gv 0) (consA (gc (.int 62)) nilA)) m__law_cell_at) (consA (o2 (gc (.int 90)) (gv 6) addA) nilA)) m__law_mix) (oA (consA (gv 2) nilA) lenD) modD))
 (seqD (setD (gN 8) (oA (consA (gv 3) (consA (lstG (consA (tupG (consA (gc (.int 0)) (consA (gv 4) nilA))) (consA (tupG (consA (o2 (gv 5) (gv 7) ixD) (consA (o2 (gv 5) (o2 (gv 7) (gc (.int 1)) addA) ixD) nilA))) nilA))) nilA)) m__law_look))
 (seqD (ifD (tNotG (ob (oA (consA (oA (consA (gv 8) (consA (gv 7) nilA)) (okPart m_part_of)) (consA (o2 (gv 2) (gv 7) ixD) nilA)) m__law_alike)))
 (seqD (retD (gc (.bl false)))
 nilD)
 nilD)
 nilD))))
 (seqD (setD (gN 9) (o2 (oA (consA (gv 0) (consA (gc (.int 61)) nilA)) m__law_cell_at) (o2 (gc (.int 10)) (gc (.int 59)) powD) modD))
 (seqD (forG (lstI (lstG (consA (unG negD (gc (.int 1))) (consA (oA (consA (gv 2) nilA) lenD) (consA (o2 (oA (consA (gv 2) nilA) lenD) (gv 9) addA) (consA (o2 (unG negD (gc (.int 1))) (gv 9) subD) nilA)))))) (gN 10)
 (seqD (ifD (tNotG (ob (oA (consA (oA (consA (gv 3) (consA (lstG (consA (tupG (consA (gc (.int 0)) (consA (gv 4) nilA))) nilA)) nilA)) m__law_look) (consA (gv 10) nilA)) m__law_refused)))
 (seqD (retD (gc (.bl false)))
 nilD)
 nilD)
 nilD))
 (seqD (retD (gc (.bl true)))
 nilD)))))))))
noncomputable def N_law:List Str:=["_law_script", "_law_most", "_law_web", "_law_whole", "_law_index", "_law_begins", "_law_k", "_law_at", "_law_look_here", "_law_far", "_law_odd"]
noncomputable def m_law:List D → Option D:=mkF 1 N_law G_law
end Ia
namespace Ia
open PySem DL W
open Bw (bs hi dg hi_0 hi_s b_of)
noncomputable def Tel (F:D) (a:Nat) (l:List Int):Prop:=∀ i (h:i < l.length),callLD F (.int ((a + i:Nat):Int)) = some (.int l[i])
theorem Tel.left {F:D} {a:Nat} {l m:List Int} (h:Tel F a (l ++ m)):Tel F a l:=fun i hi=>by
 have:=h i (by rw [List.length_append]; omega)
 rwa [List.getElem_append_left hi] at this
theorem Tel.right {F:D} {a:Nat} {l m:List Int} (h:Tel F a (l ++ m)):Tel F (a + l.length) m:=fun i hi=>by
 have:=h (l.length + i) (by rw [List.length_append]; omega)
 rw [List.getElem_append_right (by omega)] at this
 rw [show a + l.length + i = a + (l.length + i) from by omega,this]
 simp
theorem Tel.head {F:D} {a:Nat} {x:Int} {l:List Int} (h:Tel F a (x :: l)):callLD F (.int (a:Int)) = some (.int x):=h 0 (by simp)
theorem Tel.tail {F:D} {a:Nat} {x:Int} {l:List Int} (h:Tel F a (x :: l)):Tel F (a + 1) l:=Tel.right (l:=[x]) h
noncomputable def NT:GB:=(ob (o2 (gv 3) (gc (.int 128)) geD))
noncomputable def NB':GS:=(seqD (setD (gN 2) (o2 (o2 (o2 (gv 2) (gc (.int 128)) mulA) (gv 3) addA) (gc (.int 128)) subD))
 (seqD (augD 1 (gc (.int 1)))
 (seqD (setD (gN 3) (o2 (gv 0) (gv 1) callLD))
 nilD)))
theorem nt (F:Sl) (a:Sl) (b:Sl) (z:Int):NT [F,a,b,.sh (.int z)] = some (decide (128 ≤ z)):=b_of rfl
noncomputable def val (m:Nat) (l:List Nat):Nat:=l.foldl (fun m d=>m * 128 + d) m
noncomputable def dgs (l:List Nat) (x:Nat):List Int:=l.map (fun d=>((128 + d:Nat):Int)) ++ [(x:Int)]
theorem nb_step (F:D) (d m a:Nat) (y':Int) (hcall:callLD F (.int ((a:Int) + 1)) = some (.int y')):NB' [.sh F,.sh (.int (a:Int)),.sh (.int (m:Int)),.sh (.int ((128 + d:Nat):Int))] = some (.nx [.sh F,.sh (.int ((a + 1:Nat):Int)),.sh (.int ((m * 128 + d:Nat):Int)),.sh (.int y')]):=by
 have e1:o2 (o2 (o2 (gv 2) (gc (.int 128)) mulA) (gv 3) addA) (gc (.int 128)) subD [.sh F,.sh (.int (a:Int)),.sh (.int (m:Int)),.sh (.int ((128 + d:Nat):Int))] = some (.int ((m * 128 + d:Nat):Int)):=by
  rw [o2_of (x:=.int ((m:Int) * 128 + ((128 + d:Nat):Int))) (y:=.int 128) (by
   rw [o2_of (x:=.int ((m:Int) * 128)) (y:=.int ((128 + d:Nat):Int)) (by
    rw [o2_of (x:=.int (m:Int)) (y:=.int 128) rfl rfl]
    simp only [mulA]
    rw [if_pos (.inr (by decide))]) rfl]
   rfl) rfl]
  show some (D.int ((m:Int) * 128 + ((128 + d:Nat):Int) - 128)) = _
  rw [show (m:Int) * 128 + ((128 + d:Nat):Int) - 128 = ((m * 128 + d:Nat):Int) by omega]
 refine seq_to (set_of e1) (seq_to (δ':=[.sh F,.sh (.int ((a:Int) + 1)),.sh (.int ((m * 128 + d:Nat):Int)),.sh (.int ((128 + d:Nat):Int))]) rfl (seq_to (set_of (d:=.int y') ?_) ?_))
 ·rw [o2_of (x:=F) (y:=.int ((a:Int) + 1)) rfl rfl]
  exact hcall
 ·rw [show (a:Int) + 1 = ((a + 1:Nat):Int) by omega]
  rfl
noncomputable def fst' (l:List Nat) (x:Nat):Int:=match l with
 | []=>(x:Int)
 | d :: _=>((128 + d:Nat):Int)
theorem dgs_fst (l:List Nat) (x:Nat):∃ r,dgs l x = fst' l x :: r:=by
 cases l with
 | nil=>exact ⟨[],rfl⟩
 | cons d l=>exact ⟨dgs l x,rfl⟩
theorem while_f {gt:GB} {G:GS} {f:Nat} {δ:Ds} (h:gt δ = some false):whileD gt G (f + 1) δ = some (.nx δ):=by
 unfold whileD
 rw [h]
theorem while_t {gt:GB} {G:GS} {f:Nat} {δ δ':Ds} (h:gt δ = some true) (hb:G δ = some (.nx δ')):whileD gt G (f + 1) δ = whileD gt G f δ':=by
 conv=>lhs; unfold whileD
 rw [h]
 simp only [hb]
theorem go (F:D) (x:Nat) (hx:x < 128):∀ (l:List Nat) (m a:Nat) (f:Nat),l.length < f → Tel F a (dgs l x) →
  whileD NT NB' f [.sh F,.sh (.int (a:Int)),.sh (.int (m:Int)),.sh (.int (fst' l x))] = some (.nx [.sh F,.sh (.int ((a + l.length:Nat):Int)),.sh (.int (val m l:Int)),.sh (.int (x:Int))]):=by
 intro l
 induction l with
 | nil =>
  intro m a f hf ht
  cases f with
  | zero=>exact absurd hf (Nat.not_lt_zero _)
  | succ f =>
   have t:NT [.sh F,.sh (.int (a:Int)),.sh (.int (m:Int)),.sh (.int (x:Int))] = some false:=by
    rw [nt,decide_eq_false (by omega)]
   exact while_f t
 | cons d l ih =>
  intro m a f hf ht
  cases f with
  | zero=>exact absurd hf (Nat.not_lt_zero _)
  | succ f =>
   have ht':Tel F (a + 1) (dgs l x):=by
    have e:dgs (d :: l) x = fst' (d :: l) x :: dgs l x:=rfl
    rw [e] at ht
    exact ht.tail
   obtain ⟨r,hr⟩:=dgs_fst l x
   have hcall:callLD F (.int ((a:Int) + 1)) = some (.int (fst' l x)):=by
    have h2:=ht'
    rw [hr] at h2
    have h3:=h2.head
    rw [show (((a + 1:Nat)):Int) = (a:Int) + 1 by omega] at h3
    exact h3
   have t:NT [.sh F,.sh (.int (a:Int)),.sh (.int (m:Int)),.sh (.int ((128 + d:Nat):Int))] = some true:=by
    rw [nt,decide_eq_true (by omega)]
   have h1:=ih (m * 128 + d) (a + 1) f (by rw [List.length_cons] at hf; omega) ht'
   have h2:=(while_t (f:=f) t (nb_step F d m a _ hcall)).trans h1
   rw [show a + 1 + l.length = a + (d :: l).length by rw [List.length_cons]; omega] at h2
   exact h2
theorem hi_ex:∀ (k r:Nat),r < 2 ^ k → ∃ l:List Nat,(∀ d ∈ l,d < 128) ∧ hi r = l.map (fun d=>((128 + d:Nat):Int)) ∧ val 0 l = r ∧ l.length ≤ k:=by
 intro k
 induction k with
 | zero =>
  intro r h
  have:r = 0:=by simpa using h
  subst this
  exact ⟨[],fun d hd=>(by cases hd),hi_0,rfl,Nat.le_refl _⟩
 | succ k ih =>
  intro r h
  by_cases h0:r = 0
  ·subst h0
   exact ⟨[],fun d hd=>(by cases hd),hi_0,rfl,Nat.zero_le _⟩
  ·have:2 ^ (k + 1) = 2 ^ k * 2:=Nat.pow_succ 2 k
   obtain ⟨l,h1,h2,h3,h4⟩:=ih (r / 128) (by omega)
   refine ⟨l ++ [r % 128],fun d hd=>?_,?_,?_,by simp; omega⟩
   ·rcases List.mem_append.mp hd with q | q
    ·exact h1 d q
    ·rw [List.mem_singleton.mp q]; omega
   ·rw [hi_s r h0,h2,List.map_append]
    rfl
   ·unfold val at h3 ⊢
    rw [List.foldl_append,h3]
    show r / 128 * 128 + r % 128 = r
    omega
theorem num_ok {F:D} {a n:Nat} (hn:n < 2 ^ 300) (h:Tel F a (bs n)):m_number_at [F,.int (a:Int)] = some (.tup [.int (n:Int),.int ((a + (bs n).length:Nat):Int)]):=by
 have z:(1000:Nat) ≤ sizeLine:=by decide
 obtain ⟨l,h1,h2,h3,h4⟩:=hi_ex 300 (n / 128) (by omega)
 have e:bs n = dgs l (n % 128):=by unfold Bw.bs dgs; rw [h2]
 rw [e] at h
 obtain ⟨r,hr⟩:=dgs_fst l (n % 128)
 have hc:callLD F (.int (a:Int)) = some (.int (fst' l (n % 128))):=by
  have h2:=h
  rw [hr] at h2
  exact h2.head
 have hl:(bs n).length = l.length + 1:=by rw [e]; unfold dgs; simp
 refine mkF_rt rfl (seq_to (set_of (d:=.int 0) rfl) (seq_to (set_of (d:=.int (fst' l (n % 128))) ?_) (seq_to (δ':=[.sh F,.sh (.int ((a + l.length:Nat):Int)),.sh (.int (val 0 l:Int)),.sh (.int ((n % 128:Nat):Int))]) ?_ (seq_rt (ret_of ?_)))))
 ·rw [o2_of (x:=F) (y:=.int (a:Int)) rfl rfl]
  exact hc
 ·exact go F (n % 128) (by omega) l 0 a 100000 (by omega) h
 ·refine tup_of (cons_of (d:=.int (n:Int)) ?_ (cons_of (d:=.int ((a + (bs n).length:Nat):Int)) ?_ rfl)) (by show 2 ≤ sizeLine; omega)
  ·rw [o2_of (x:=.int ((val 0 l:Int) * 128)) (y:=.int ((n % 128:Nat):Int)) (by
    rw [o2_of (x:=.int (val 0 l:Int)) (y:=.int 128) rfl rfl]
    simp only [mulA]
    rw [if_pos (.inr (by decide))]) rfl,h3]
   show some (D.int (((n / 128:Nat):Int) * 128 + ((n % 128:Nat):Int))) = _
   rw [show ((n / 128:Nat):Int) * 128 + ((n % 128:Nat):Int) = (n:Int) by omega]
  ·show some (D.int (((a + l.length:Nat):Int) + 1)) = _
   rw [hl,show ((a + l.length:Nat):Int) + 1 = ((a + (l.length + 1):Nat):Int) by omega]
theorem count_ok {F:D} {n:Nat} (hn:n < 2 ^ 300) (h:Tel F 0 (bs n)):m_count_of [F] = some (.int (n:Int)):=by
 refine mkF_rt rfl (seq_rt (ret_of ?_))
 rw [o2_of (x:=.tup [.int (n:Int),.int ((0 + (bs n).length:Nat):Int)]) (y:=.int 0) (by rw [oA_of (ds:=[F,.int 0]) rfl]; exact num_ok (a:=0) hn h) rfl]
 rfl
end Ia
namespace Ia
open PySem DL W
section
variable {κ:Type} [DecidableEq κ]
theorem has_cons (k0 k:κ) (ks:List κ):hasK (k0 :: ks) k = (decide (k0 = k) || hasK ks k):=rfl
theorem get_map (q k:κ) (v:D):∀ (ks:List κ) (ds:List D),ks.length = ds.length → getK ks ((ks.zip ds).map fun p=>if p.1 = k then v else p.2) q = if q = k then (if hasK ks k = true then some v else none) else getK ks ds q
 | [],[],_=>by unfold getK hasK; simp
 | k0 :: ks,d :: ds,h=>by
  have ih:=get_map q k v ks ds (by simpa using h)
  rw [List.zip_cons_cons,List.map_cons,has_cons]
  unfold getK
  by_cases h1:k0 = q
  ·subst h1
   by_cases h2:k0 = k
   ·subst h2; simp
   ·simp [h2]
  ·rw [if_neg h1,if_neg h1,ih]
   by_cases h3:q = k
   ·subst h3; simp [h1]
   ·simp [h3]
theorem get_snoc (q k:κ) (v:D):∀ (ks:List κ) (ds:List D),ks.length = ds.length → hasK ks k = false → getK (ks ++ [k]) (ds ++ [v]) q = if q = k then some v else getK ks ds q
 | [],[],_,_=>by
  show (if k = q then some v else none) = if q = k then some v else none
  by_cases h:k = q
  ·rw [if_pos h,if_pos h.symm]
  ·rw [if_neg h,if_neg fun z=>h z.symm]
 | k0 :: ks,d :: ds,h,hh=>by
  rw [has_cons,Bool.or_eq_false_iff] at hh
  have h0:k0 ≠ k:=of_decide_eq_false hh.1
  have ih:=get_snoc q k v ks ds (by simpa using h) hh.2
  rw [List.cons_append,List.cons_append]
  unfold getK
  by_cases h1:k0 = q
  ·rw [if_pos h1,if_pos h1,if_neg (fun z=>h0 (h1.trans z))]
  ·rw [if_neg h1,if_neg h1,ih]
theorem get_put (q k:κ) (v:D) (ks:List κ) (ds:List D) (h:ks.length = ds.length):getK (putKs ks k) (putDs ks ds k v) q = if q = k then some v else getK ks ds q:=by
 unfold putKs putDs
 cases hh:hasK ks k with
 | true =>
  rw [if_pos rfl,if_pos rfl,get_map q k v ks ds h,hh,if_pos rfl]
 | false =>
  rw [if_neg (by simp),if_neg (by simp)]
  exact get_snoc q k v ks ds h hh
theorem len_put (k:κ) (v:D) (ks:List κ) (ds:List D) (h:ks.length = ds.length):(putKs ks k).length = (putDs ks ds k v).length ∧ (putKs ks k).length ≤ ks.length + 1:=by
 unfold putKs putDs
 cases hh:hasK ks k with
 | true=>simp [h]
 | false=>simp [h]
end
noncomputable def LB:GS:=(seqD (asgX (pureX (o2 (gv 0) (gv 5) ixD)) (putAt 2 (gv 5)))
 nilD)
noncomputable def Cov (T:List D) (ks:List KeyD) (ds:List D) (P:Nat → Prop):Prop:=∀ i,P i → getK ks ds (.inl (i:Int)) = some (T.getD i .non)
theorem lb_ok (T:List D) (S s3 s4:Sl) {ks:List KeyD} {ds:List D} {P:Nat → Prop} (h:ks.length = ds.length) (hc:Cov T ks ds P) (hl:ks.length < sizeLine) {j:Nat} (hj:j < T.length) :
  ∃ ks' ds',LB [.sh (.lst T),S,.ow (.dct (.inl ks) ds),s3,s4,.sh (.int (j:Int))] = some (.nx [.sh (.lst T),S,.ow (.dct (.inl ks') ds'),s3,s4,.sh (.int (j:Int))]) ∧ ks'.length = ds'.length ∧ ks'.length ≤ ks.length + 1 ∧ Cov T ks' ds' (fun i=>P i ∨ i = j):=by
 obtain ⟨l1,l2⟩:=len_put (.inl (j:Int):KeyD) (T.getD j .non) ks ds h
 refine ⟨_,_,seq_to (δ':=[.sh (.lst T),S,.ow (.dct (.inl (putKs ks (.inl (j:Int)))) (putDs ks ds (.inl (j:Int)) (T.getD j .non))),s3,s4,.sh (.int (j:Int))]) ?_ rfl,l1,l2,fun i hi=>?_⟩
 ·have e:o2 (gv 0) (gv 5) ixD [.sh (.lst T),S,.ow (.dct (.inl ks) ds),s3,s4,.sh (.int (j:Int))] = some (T.getD j .non):=by
   rw [o2_of (x:=.lst T) (y:=.int (j:Int)) rfl rfl]
   show atI T (j:Int) = _
   rw [atI_in (by omega) (by omega) .non,Int.toNat_natCast]
  unfold asgX pureX
  rw [e]
  show Option.map Res.nx (Option.bind (some (ks,ds)) fun r=>Option.bind (some (D.int (j:Int))) fun d=>Option.bind (asKey d) fun k=>if r.1.length < sizeLine then some _ else none) = _
  simp only [Option.bind_some,asKey]
  rw [if_pos hl]
  rfl
 ·rw [get_put _ _ _ _ _ h]
  by_cases hij:i = j
  ·subst hij
   rw [if_pos rfl]
  ·rw [if_neg (fun z=>hij (by injection z with z; omega))]
   exact hc i (hi.resolve_right hij)
theorem in_ok (T:List D) (S s3 s4 s5:Sl) {ks:List KeyD} {ds:List D} {P:Nat → Prop} (h:ks.length = ds.length) (hc:Cov T ks ds P) {lo hi:Nat} (hlo:lo ≤ hi) (hh:hi ≤ T.length) (hl:ks.length + (hi - lo) < sizeLine) :
  ∃ ks' ds' s5',forD (gN 5) LB (rngD (lo:Int) (hi:Int)) [.sh (.lst T),S,.ow (.dct (.inl ks) ds),s3,s4,s5] = some (.nx [.sh (.lst T),S,.ow (.dct (.inl ks') ds'),s3,s4,s5']) ∧ ks'.length = ds'.length ∧ ks'.length ≤ ks.length + (hi - lo) ∧ Cov T ks' ds' (fun i=>P i ∨ (lo ≤ i ∧ i < hi)):=by
 have hn:(rngD (lo:Int) (hi:Int)).length = hi - lo:=by unfold rngD; rw [List.length_map,List.length_range]; omega
 obtain ⟨δ',l1,ks',ds',s5',rfl,a1,a2,a3⟩:=forD_inv (f:=gN 5) (G:=LB) (fun j δ=>∃ ks' ds' s5',δ = [.sh (.lst T),S,.ow (.dct (.inl ks') ds'),s3,s4,s5'] ∧ ks'.length = ds'.length ∧ ks'.length ≤ ks.length + j ∧ Cov T ks' ds' (fun i=>P i ∨ (lo ≤ i ∧ i < lo + j))) (rngD (lo:Int) (hi:Int)) 0 [.sh (.lst T),S,.ow (.dct (.inl ks) ds),s3,s4,s5] (by
  rintro j d δ hj ⟨ks',ds',s5',rfl,a1,a2,a3⟩
  rw [Nat.zero_add] at a2 a3 ⊢
  have hjl:j < hi - lo:=by have:=(List.getElem?_eq_some_iff.mp hj).1; omega
  have ed:d = .int ((lo + j:Nat):Int):=by
   unfold rngD at hj
   rw [List.getElem?_map,List.getElem?_range (by omega)] at hj
   cases hj
   show D.int ((lo:Int) + (j:Int)) = _
   rw [show (lo:Int) + (j:Int) = ((lo + j:Nat):Int) by omega]
  subst ed
  obtain ⟨k2,d2,b1,b2,b3,b4⟩:=lb_ok T S s3 s4 a1 a3 (by omega) (j:=lo + j) (by omega)
  exact ⟨_,_,rfl,b1,k2,d2,_,rfl,b2,by omega,fun i hi=>b4 i (by
   rcases hi with z | ⟨z1,z2⟩
   ·exact .inl (.inl z)
   ·by_cases e:i = lo + j
    ·exact .inr e
    ·exact .inl (.inr ⟨z1,by omega⟩))⟩) ⟨ks,ds,s5,rfl,h,Nat.le_refl _,fun i hi=>hc i (hi.resolve_right fun z=>by omega)⟩
 rw [Nat.zero_add,hn] at a2 a3
 exact ⟨ks',ds',s5',l1,a1,a2,fun i hi=>a3 i (hi.imp id fun z=>⟨z.1,by omega⟩)⟩
theorem rng2' {gA:GA} {δ:Ds} {i j:Nat} (h:gA δ = some [.int (i:Int),.int (j:Int)]) (h1:i ≤ 2000000) (h2:j ≤ 2000000):rng2I gA δ = some (rngD (i:Int) (j:Int)):=by
 unfold rng2I
 rw [h,Option.bind_some]
 have c:(2000000:Int) < 2 ^ 62:=by decide
 have c0:-(2 ^ 62) ≤ (0:Int):=by decide
 have a1:(i:Int) ≤ 2000000:=by omega
 have a2:(j:Int) ≤ 2000000:=by omega
 have b1:-(2 ^ 62) ≤ (i:Int) ∧ (i:Int) < 2 ^ 62:=⟨Int.le_trans c0 (Int.natCast_nonneg i),Int.lt_of_le_of_lt a1 c⟩
 have b2:-(2 ^ 62) ≤ (j:Int) ∧ (j:Int) < 2 ^ 62:=⟨Int.le_trans c0 (Int.natCast_nonneg j),Int.lt_of_le_of_lt a2 c⟩
 simp only [rng2D]
 rw [if_pos ⟨b1,b2⟩]
noncomputable def spn (p:Nat × Nat):D:=.tup [.int (p.1:Int),.int (p.2:Int)]
noncomputable def LO:GS:=(seqD (forG (rng2I (consA (gv 3) (consA (gv 4) nilA))) (gN 5) LB)
 nilD)
theorem look_ok (T:List D) (sp:List (Nat × Nat)) (hT:T.length ≤ 2000000) (hs:sp.length ≤ 3) (h:∀ p ∈ sp,p.1 ≤ p.2 ∧ p.2 ≤ T.length):∃ ks ds,m__law_look [.lst T,.lst (sp.map spn)] = some (.fn ks ds) ∧ ∀ p ∈ sp,∀ i,p.1 ≤ i → i < p.2 → getK ks ds (.inl (i:Int)) = some (T.getD i .non):=by
 have z:(10000000:Nat) ≤ sizeLine:=by decide
 obtain ⟨δ',l1,ks,ds,s3,s4,s5,rfl,a1,a2,a3⟩:=forD_inv (f:=tup2 3 4) (G:=LO) (fun j δ=>∃ ks ds s3 s4 s5,δ = [.sh (.lst T),.sh (.lst (sp.map spn)),.ow (.dct (.inl ks) ds),s3,s4,s5] ∧ ks.length = ds.length ∧ ks.length ≤ 2000000 * j ∧ Cov T ks ds (fun i=>∃ p ∈ sp.take j,p.1 ≤ i ∧ i < p.2)) (sp.map spn) 0 [.sh (.lst T),.sh (.lst (sp.map spn)),.ow (.dct (.inl []) []),.un,.un,.un] (by
  rintro j d δ hj ⟨ks,ds,s3,s4,s5,rfl,a1,a2,a3⟩
  rw [Nat.zero_add] at a2 a3 ⊢
  rw [List.getElem?_map] at hj
  obtain ⟨p,hp,rfl⟩:=Option.map_eq_some_iff.mp hj
  have hjl:=(List.getElem?_eq_some_iff.mp hp).1
  obtain ⟨q1,q2⟩:=h p (List.mem_of_getElem? hp)
  obtain ⟨k2,d2,s5',b1,b2,b3,b4⟩:=in_ok T (.sh (.lst (sp.map spn))) (.sh (.int (p.1:Int))) (.sh (.int (p.2:Int))) s5 a1 a3 q1 q2 (by omega)
  refine ⟨[.sh (.lst T),.sh (.lst (sp.map spn)),.ow (.dct (.inl ks) ds),.sh (.int (p.1:Int)),.sh (.int (p.2:Int)),s5],_,rfl,seq_to (for_of (items:=rngD (p.1:Int) (p.2:Int)) ?_ b1) rfl,k2,d2,_,_,s5',rfl,b2,by omega,fun i hi=>b4 i ?_⟩
  ·exact rng2' (cons_of rfl (cons_of rfl rfl)) (by omega) (by omega)
  ·obtain ⟨r,hr,z1,z2⟩:=hi
   rw [List.take_succ,hp] at hr
   rcases List.mem_append.mp hr with y | y
   ·exact .inl ⟨r,y,z1,z2⟩
   ·have:r = p:=by simpa using y
    subst this
    exact .inr ⟨z1,z2⟩) ⟨[],[],.un,.un,.un,rfl,rfl,by simp,fun i hi=>by obtain ⟨p,hp,_⟩:=hi; simp at hp⟩
 rw [Nat.zero_add,List.length_map,List.take_length] at a3
 refine ⟨ks,ds,?_,fun p hp i h1 h2=>a3 i ⟨p,hp,h1,h2⟩⟩
 have g:G__law_look (dStart N__law_look [.lst T,.lst (sp.map spn)]) = some (.nx [.sh (.lst T),.sh (.lst (sp.map spn)),.ow (.dct (.inl ks) ds),s3,s4,s5]) :=
  seq_to (δ':=[.sh (.lst T),.sh (.lst (sp.map spn)),.ow (.dct (.inl []) []),.un,.un,.un]) rfl (seq_to (for_of (items:=sp.map spn) rfl l1) rfl)
 show mkL 2 2 N__law_look G__law_look _ = _
 unfold mkL
 rw [if_pos (show [D.lst T,D.lst (List.map spn sp)].length = 2 from rfl),g]
 rfl
end Ia
namespace Ia
open PySem DL W
open Bw (Vb fold vn b_of)
theorem unf_ok (z:Int):m_unfolded [.int (fold z:Int)] = some (.int z):=by
 have t:ob (o2 (o2 (gv 0) (gc (.int 2)) modD) (gc (.int 1)) eqD) [.sh (.int (fold z:Int))] = some (decide ((fold z:Int) % 2 = 1)):=b_of (by
  rw [o2_of (x:=.int ((fold z:Int) % 2)) (y:=.int 1) rfl rfl]
  rfl)
 by_cases h:z < 0
 ·have e:(fold z:Int) = -2 * z - 1:=by unfold Bw.fold; rw [if_pos h]; omega
  refine mkF_rt rfl (seq_rt ?_)
  show ifD _ _ _ [.sh (.int (fold z:Int))] = _
  rw [if_t (by rw [t,decide_eq_true (by omega)])]
  refine seq_rt (ret_of ?_)
  show some (D.int (-((fold z:Int) / 2) - 1)) = _
  rw [e,show -((-2 * z - 1) / 2) - 1 = z by omega]
 ·have e:(fold z:Int) = 2 * z:=by unfold Bw.fold; rw [if_neg h]; omega
  refine mkF_rt rfl (seq_to (δ':=[.sh (.int (fold z:Int))]) ?_ (seq_rt (ret_of ?_)))
  ·show ifD _ _ _ [.sh (.int (fold z:Int))] = _
   rw [if_f (by rw [t,decide_eq_false (by omega)])]
   rfl
  ·show some (D.int ((fold z:Int) / 2)) = _
   rw [e,show 2 * z / 2 = z by omega]
theorem numv_ok {v:D} (h:Vb v):m_numbered_value [.int (vn v:Int)] = some v:=by
 have z:(1000:Nat) ≤ sizeLine:=by decide
 have t1:∀ n:Int,ob (o2 (gv 0) (gc (.int 0)) eqD) [.sh (.int n)] = some (decide (n = 0)):=fun n=>b_of rfl
 have t2:∀ n:Int,ob (o2 (o2 (gv 0) (gc (.int 2)) modD) (gc (.int 0)) eqD) [.sh (.int n)] = some (decide (n % 2 = 0)):=fun n=>b_of (by
  rw [o2_of (x:=.int (n % 2)) (y:=.int 0) rfl rfl]
  rfl)
 cases h with
 | non =>
  refine mkF_rt rfl (seq_rt ?_)
  show ifD _ _ _ [.sh (.int 0)] = _
  rw [if_t (by rw [t1,decide_eq_true rfl])]
  rfl
 | lk j hj =>
  have e:((vn (.tup [.str "at",.int (j:Int)]):Nat):Int) = 2 * (j:Int) + 2:=by show (((2 * (j:Int) + 2).toNat:Nat):Int) = _; omega
  rw [e]
  refine mkF_rt rfl (seq_to (δ':=[.sh (.int (2 * (j:Int) + 2))]) ?_ (seq_rt ?_))
  ·show ifD _ _ _ [.sh (.int (2 * (j:Int) + 2))] = _
   rw [if_f (by rw [t1,decide_eq_false (by omega)])]
   rfl
  ·show ifD _ _ _ [.sh (.int (2 * (j:Int) + 2))] = _
   rw [if_t (by rw [t2,decide_eq_true (by omega)])]
   refine seq_rt (ret_of (tup_of (cons_of rfl (cons_of (d:=.int (j:Int)) ?_ rfl)) (by show 2 ≤ sizeLine; omega)))
   show some (D.int ((2 * (j:Int) + 2) / 2 - 1)) = _
   rw [show (2 * (j:Int) + 2) / 2 - 1 = (j:Int) by omega]
 | int x hx =>
  have e:((vn (.int x):Nat):Int) = 2 * (fold x:Int) + 1:=by show ((2 * fold x + 1:Nat):Int) = _; omega
  rw [e]
  refine mkF_rt rfl (seq_to (δ':=[.sh (.int (2 * (fold x:Int) + 1))]) ?_ (seq_to (δ':=[.sh (.int (2 * (fold x:Int) + 1))]) ?_ (seq_rt (ret_of ?_))))
  ·show ifD _ _ _ [.sh (.int (2 * (fold x:Int) + 1))] = _
   rw [if_f (by rw [t1,decide_eq_false (by omega)])]
   rfl
  ·show ifD _ _ _ [.sh (.int (2 * (fold x:Int) + 1))] = _
   rw [if_f (by rw [t2,decide_eq_false (by omega)])]
   rfl
  ·rw [oA_of (ds:=[.int (fold x:Int)]) (cons_of (by
    show some (D.int ((2 * (fold x:Int) + 1) / 2)) = _
    rw [show (2 * (fold x:Int) + 1) / 2 = (fold x:Int) by omega]) rfl)]
   exact unf_ok x
end Ia
namespace Ia
open PySem DL W
open Bw (b_of)
noncomputable def SB:GS:=(seqD (ifD (ob (o2 (oA (consA (gv 2) nilA) ordD) (gv 0) eqD))
 (seqD (retD (gv 2))
 nilD)
 nilD)
 nilD)
theorem sb_t (c e:Nat) (S:Sl):ob (o2 (oA (consA (gv 2) nilA) ordD) (gv 0) eqD) [.sh (.int (c:Int)),S,.sh (.str ⟨#[e]⟩)] = some (decide ((e:Int) = (c:Int))):=b_of (by
 rw [o2_of (x:=.int (e:Int)) (y:=.int (c:Int)) rfl rfl]
 rfl)
theorem sgn_loop (c:Nat) (S:Sl):∀ (l:List Nat) (s:Sl),c ∈ l → forD (gN 2) SB (l.map fun e=>D.str ⟨#[e]⟩) [.sh (.int (c:Int)),S,s] = some (.rt (.str ⟨#[c]⟩))
 | [],s,h=>by cases h
 | e :: l,s,h=>by
  rw [List.map_cons,forD]
  show (match SB [.sh (.int (c:Int)),S,.sh (.str ⟨#[e]⟩)] with
   | some (.nx δn)=>forD (gN 2) SB (l.map fun e=>D.str ⟨#[e]⟩) δn
   | some (.ct δn)=>forD (gN 2) SB (l.map fun e=>D.str ⟨#[e]⟩) δn
   | some (.bk δn)=>some (.nx δn)
   | r=>r) = _
  by_cases hc:e = c
  ·subst hc
   have b:SB [.sh (.int (e:Int)),S,.sh (.str ⟨#[e]⟩)] = some (.rt (.str ⟨#[e]⟩)):=by
    refine seq_rt ?_
    rw [if_t (by rw [sb_t,decide_eq_true rfl])]
    rfl
   rw [b]
  ·have b:SB [.sh (.int (c:Int)),S,.sh (.str ⟨#[e]⟩)] = some (.nx [.sh (.int (c:Int)),S,.sh (.str ⟨#[e]⟩)]):=by
    refine seq_to (δ':=[.sh (.int (c:Int)),S,.sh (.str ⟨#[e]⟩)]) ?_ rfl
    rw [if_f (by rw [sb_t,decide_eq_false (by omega)])]
    rfl
   rw [b]
   exact sgn_loop c S l _ ((List.mem_cons.mp h).resolve_left fun z=>hc z.symm)
theorem sign_ok (x:Str) (c:Nat) (h:c ∈ x.cps.toList):m_sign_of [.int (c:Int),.str x] = some (.str ⟨#[c]⟩):=by
 refine mkF_rt rfl (seq_rt (for_of (items:=x.cps.toList.map fun e=>D.str ⟨#[e]⟩) rfl (sgn_loop c _ _ _ h)))
end Ia
namespace Ia
open PySem DL W
open Bw (sg b_of)
theorem comp_l {f:D → Ds → Option Ds} {gt:GB} {ge:GE} {δ:Ds} (r h:Nat → D):∀ l:List Nat,(∀ j ∈ l,∃ δ',f (r j) δ = some δ' ∧ gt δ' = some true ∧ ge δ' = some (h j)) → compD f gt ge δ (l.map r) = some (l.map h)
 | [],_=>rfl
 | j :: l,H=>by
  obtain ⟨δ',e1,e2,e3⟩:=H j List.mem_cons_self
  have ih:=comp_l r h l fun i hi=>H i (List.mem_cons_of_mem _ hi)
  rw [List.map_cons]
  unfold compD
  rw [e1]
  dsimp only
  rw [e2]
  dsimp only
  rw [e3,ih]
  rfl
theorem name_ok {F:D} {a:Nat} {s:Str} (hs:s.length ≤ 20) (ha:a ≤ 1900000) (h:Tel F a (sg s)) (hc:∀ c ∈ s.cps.toList,c ∈ nameS.cps.toList):m_name_at [F,.int (a:Int),.int (s.length:Int)] = some (.str s):=by
 have z:(1000:Nat) ≤ sizeLine:=by decide
 obtain ⟨l,hl⟩:∃ l:List Nat,l = s.cps.toList:=⟨_,rfl⟩
 have ll:l.length = s.length:=by rw [hl]; rfl
 have es:s = strOf l:=by unfold strOf; rw [hl]
 refine mkF_rt rfl (seq_rt (ret_of ?_))
 change joinG _ _ [.sh F,.sh (.int (a:Int)),.sh (.int (s.length:Int))] = _
 rw [join_of (x:=.str "") (ds:=[.lst ((ones l).map .str)]) rfl (cons_of (comp_of (items:=rngD (a:Int) ((a + s.length:Nat):Int)) (rng2' (i:=a) (j:=a + s.length) (cons_of rfl (cons_of (by
   show some (D.int ((a:Int) + (s.length:Int))) = _
   rw [show (a:Int) + (s.length:Int) = ((a + s.length:Nat):Int) by omega]) rfl)) (by omega) (by omega)) (by unfold rngD; rw [List.length_map,List.length_range]; omega) (by
   have e0:(ones l).map D.str = (List.range s.length).map fun j=>D.str ⟨#[l.getD j 0]⟩:=by
    refine List.ext_getElem (by unfold ones; simp [ll]) fun i h1 h2=>?_
    have hi:i < l.length:=by rw [List.length_map,List.length_range] at h2; omega
    unfold ones
    simp [hi]
   have e1:rngD (a:Int) ((a + s.length:Nat):Int) = (List.range s.length).map fun (k:Nat)=>D.int ((a:Int) + (k:Int)):=by
    unfold rngD
    rw [show (((a + s.length:Nat):Int) - (a:Int)).toNat = s.length by omega]
   rw [e0,e1]
   refine comp_l _ _ _ fun j hj=>⟨[.sh (.int ((a:Int) + (j:Int))),.sh F],rfl,rfl,?_⟩
   have hj:j < s.length:=List.mem_range.mp hj
   have hjl:j < l.length:=by omega
   have ej:l.getD j 0 = l[j]:=by simp [hjl]
   rw [oA_of (ds:=[.int ((l.getD j 0:Nat):Int),.str nameS]) (cons_of (by
    rw [o2_of (x:=F) (y:=.int ((a:Int) + (j:Int))) rfl rfl,show (a:Int) + (j:Int) = ((a + j:Nat):Int) by omega]
    have q:=h j (by rw [Bw.sg_len]; exact hj)
    rw [q,ej]
    have:(sg s)[j]'(by rw [Bw.sg_len]; exact hj) = ((l[j]:Nat):Int):=by
     unfold Bw.sg
     rw [List.getElem_map]
     subst hl
     rfl
    rw [this]) rfl)]
   exact sign_ok nameS _ (hc _ (by rw [ej,← hl]; exact List.getElem_mem _)))) rfl)]
 have e1:=strs_map id (ones l)
 have e1':strL ((ones l).map D.str) = some (ones l):=by simpa using e1
 simp only [joinD]
 rw [e1',Option.bind_some,sum_ones',join_ones,if_pos (by
  have:("" : PySem.Str).length = 0:=by decide +kernel
  rw [this]; omega),es]
end Ia
namespace Ia
open PySem DL W
open Bw (sg b_of bs vn Vb vn_lt small)
theorem want_t {F:Sl} {p s3:Sl} {x y:Str}:ob (o2 (gv 2) (gc (.str y)) eqD) [F,p,.sh (.str x),s3] = some (decide (x = y)):=b_of rfl
theorem it_sign {F:D} {a c:Nat} (h:Tel F a [(c:Int)]) (hc:c ∈ wordS.cps.toList):m_item_at [F,.int (a:Int),.str "sign"] = some (.tup [.str ⟨#[c]⟩,.int ((a + 1:Nat):Int)]):=by
 have z:(1000:Nat) ≤ sizeLine:=by decide
 refine mkF_rt rfl (seq_rt ?_)
 change ifD _ _ _ [.sh F,.sh (.int (a:Int)),.sh (.str "sign"),.un] = _
 rw [if_t (by rw [want_t,decide_eq_true rfl])]
 refine seq_rt (ret_of (tup_of (cons_of (d:=.str ⟨#[c]⟩) ?_ (cons_of (d:=.int ((a + 1:Nat):Int)) ?_ rfl)) (by show 2 ≤ sizeLine; omega)))
 ·rw [oA_of (ds:=[.int (c:Int),.str wordS]) (cons_of (by rw [o2_of (x:=F) (y:=.int (a:Int)) rfl rfl]; exact h.head) rfl)]
  exact sign_ok wordS c hc
 ·show some (D.int ((a:Int) + 1)) = _
  rw [show (a:Int) + 1 = ((a + 1:Nat):Int) by omega]
theorem it_value {F:D} {a:Nat} {v:D} (hv:Vb v) (h:Tel F a (bs (vn v))):m_item_at [F,.int (a:Int),.str "value"] = some (.tup [v,.int ((a + (bs (vn v)).length:Nat):Int)]):=by
 have z:(1000:Nat) ≤ sizeLine:=by decide
 have hn:=num_ok (vn_lt hv) h
 refine mkF_rt rfl (seq_to (δ':=[.sh F,.sh (.int (a:Int)),.sh (.str "value"),.un]) ?_ (seq_to (set_of (d:=.tup [.int (vn v:Int),.int ((a + (bs (vn v)).length:Nat):Int)]) ?_) (seq_rt ?_)))
 ·change ifD _ _ _ [.sh F,.sh (.int (a:Int)),.sh (.str "value"),.un] = _
  rw [if_f (by rw [want_t,decide_eq_false (by decide +kernel)])]
  rfl
 ·rw [oA_of (ds:=[F,.int (a:Int)]) rfl]
  exact hn
 ·change ifD _ _ _ [.sh F,.sh (.int (a:Int)),.sh (.str "value"),.sh (.tup [.int (vn v:Int),.int ((a + (bs (vn v)).length:Nat):Int)])] = _
  rw [if_t (by rw [want_t,decide_eq_true rfl])]
  refine seq_rt (ret_of (tup_of (cons_of (d:=v) ?_ (cons_of rfl rfl)) (by show 2 ≤ sizeLine; omega)))
  rw [oA_of (ds:=[.int (vn v:Int)]) (cons_of (by rw [o2_of (x:=.tup [.int (vn v:Int),.int ((a + (bs (vn v)).length:Nat):Int)]) (y:=.int 0) rfl rfl]; rfl) rfl)]
  exact numv_ok hv
theorem it_name {F:D} {a:Nat} {s:Str} {w:Str} (hw1:w ≠ "sign") (hw2:w ≠ "value") (hs:s.length ≤ 20) (ha:a ≤ 1800000) (h:Tel F a (bs s.length ++ sg s)) (hc:∀ c ∈ s.cps.toList,c ∈ nameS.cps.toList) :
  m_item_at [F,.int (a:Int),.str w] = some (.tup [.str s,.int ((a + (bs s.length ++ sg s).length:Nat):Int)]):=by
 have z:(1000:Nat) ≤ sizeLine:=by decide
 have h300:s.length < 2 ^ 300:=small (by omega)
 have hn:=num_ok h300 h.left
 have hl:=Bw.bs_len s.length h300
 have hm:=name_ok hs (a:=a + (bs s.length).length) (by omega) h.right hc
 refine mkF_rt rfl (seq_to (δ':=[.sh F,.sh (.int (a:Int)),.sh (.str w),.un]) ?_ (seq_to (set_of (d:=.tup [.int (s.length:Int),.int ((a + (bs s.length).length:Nat):Int)]) ?_) (seq_to (δ':=[.sh F,.sh (.int (a:Int)),.sh (.str w),.sh (.tup [.int (s.length:Int),.int ((a + (bs s.length).length:Nat):Int)])]) ?_ (seq_rt (ret_of ?_)))))
 ·change ifD _ _ _ [.sh F,.sh (.int (a:Int)),.sh (.str w),.un] = _
  rw [if_f (by rw [want_t,decide_eq_false hw1])]
  rfl
 ·rw [oA_of (ds:=[F,.int (a:Int)]) rfl]
  exact hn
 ·change ifD _ _ _ [.sh F,.sh (.int (a:Int)),.sh (.str w),.sh (.tup [.int (s.length:Int),.int ((a + (bs s.length).length:Nat):Int)])] = _
  rw [if_f (by rw [want_t,decide_eq_false hw2])]
  rfl
 ·refine tup_of (cons_of (d:=.str s) ?_ (cons_of (d:=.int ((a + (bs s.length ++ sg s).length:Nat):Int)) ?_ rfl)) (by show 2 ≤ sizeLine; omega)
  ·rw [oA_of (ds:=[F,.int ((a + (bs s.length).length:Nat):Int),.int (s.length:Int)]) rfl]
   exact hm
  ·show some (D.int (((a + (bs s.length).length:Nat):Int) + (s.length:Int))) = _
   rw [List.length_append,Bw.sg_len,show ((a + (bs s.length).length:Nat):Int) + (s.length:Int) = ((a + ((bs s.length).length + s.length):Nat):Int) by omega]
end Ia
namespace Ia
open PySem DL W
noncomputable def PAB:GS:=(seqD (setD (gN 7) (oA (consA (gv 0) (consA (gv 4) (consA (gv 6) nilA))) m_item_at))
 (seqD (exprX (appX 5 (o2 (gv 7) (gc (.int 0)) ixD)))
 (seqD (setD (gN 4) (o2 (gv 7) (gc (.int 1)) ixD))
 nilD)))
structure Itm where
 w:Str
 d:D
 b:List Int
noncomputable def Itm.ok (F:D) (t:Itm):Prop:=∀ a:Nat,a ≤ 1800000 → Tel F a t.b → m_item_at [F,.int (a:Int),.str t.w] = some (.tup [t.d,.int ((a + t.b.length:Nat):Int)])
theorem items_go (F:D) (b c k:Sl):∀ (l:List Itm) (a:Nat) (held:List D) (s6 s7:Sl),(∀ t ∈ l,t.ok F) → Tel F a (l.flatMap Itm.b) → a + (l.flatMap Itm.b).length ≤ 1800000 → held.length + l.length < sizeLine →
  ∃ s6' s7',forD (gN 6) PAB (l.map fun t:Itm=>D.str t.w) [.sh F,b,c,k,.sh (.int (a:Int)),.ow (.lst held),s6,s7] = some (.nx [.sh F,b,c,k,.sh (.int ((a + (l.flatMap Itm.b).length:Nat):Int)),.ow (.lst (held ++ l.map Itm.d)),s6',s7'])
 | [],a,held,s6,s7,_,_,_,_=>⟨s6,s7,by simp [forD]⟩
 | t :: l,a,held,s6,s7,ho,ht,hb,hl=>by
  rw [List.flatMap_cons] at ht hb ⊢
  rw [List.length_append] at hb ⊢
  have h1:=ho t List.mem_cons_self a (by omega) ht.left
  obtain ⟨s6',s7',ih⟩:=items_go F b c k l (a + t.b.length) (held ++ [t.d]) (.sh (.str t.w)) (.sh (.tup [t.d,.int ((a + t.b.length:Nat):Int)])) (fun u hu=>ho u (List.mem_cons_of_mem _ hu)) ht.right (by omega) (by simp only [List.length_append,List.length_cons,List.length_nil] at hl ⊢; omega)
  refine ⟨s6',s7',?_⟩
  have body:PAB [.sh F,b,c,k,.sh (.int (a:Int)),.ow (.lst held),.sh (.str t.w),s7] = some (.nx [.sh F,b,c,k,.sh (.int ((a + t.b.length:Nat):Int)),.ow (.lst (held ++ [t.d])),.sh (.str t.w),.sh (.tup [t.d,.int ((a + t.b.length:Nat):Int)])]):=by
   refine seq_to (set_of (d:=.tup [t.d,.int ((a + t.b.length:Nat):Int)]) ?_) (seq_to (Gw.app_ow (l:=held) (d:=t.d) rfl rfl (by rw [List.length_cons] at hl; omega)) rfl)
   rw [oA_of (ds:=[F,.int (a:Int),.str t.w]) rfl]
   exact h1
  rw [List.map_cons,forD]
  show (match PAB [.sh F,b,c,k,.sh (.int (a:Int)),.ow (.lst held),.sh (.str t.w),s7] with
   | some (.nx δn)=>forD (gN 6) PAB (l.map fun t:Itm=>D.str t.w) δn
   | some (.ct δn)=>forD (gN 6) PAB (l.map fun t:Itm=>D.str t.w) δn
   | some (.bk δn)=>some (.nx δn)
   | r=>r) = _
  rw [body]
  show forD (gN 6) PAB (l.map fun t:Itm=>D.str t.w) _ = _
  rw [ih,List.append_assoc,Nat.add_assoc]
  rfl
end Ia
namespace Ia
open PySem DL W
open Bw (b_of)
theorem kind_t {s1:Sl} {x y:Str}:ob (o2 (gv 0) (gc (.str y)) eqD) [.sh (.str x),s1] = some (decide (x = y)):=b_of rfl
theorem mul_ok (xs:List D) (n:Nat) (hn:n ≤ 100) (h0:xs ≠ []) (hx:xs.length ≤ 2):mulL (.lst xs) (.int (n:Int)) = some (.lst (List.replicate n xs).flatten):=by
 have h1:xs.length * n ≤ 2 * 100:=Nat.mul_le_mul hx hn
 have c:(100:Int) < 2 ^ 62:=by decide
 have c2:(2:Nat) * 100 ≤ 2 ^ 20:=by decide
 have q1:(0:Int) ≤ (n:Int):=Int.natCast_nonneg n
 have q2:(n:Int) < 2 ^ 62:=Int.lt_of_le_of_lt (by omega) c
 have q3:xs.length * ((n:Int)).toNat ≤ 2 ^ 20:=by rw [Int.toNat_natCast]; exact Nat.le_trans h1 c2
 simp only [mulL]
 rw [if_pos ⟨h0,q1,q2,q3⟩,Int.toNat_natCast]
noncomputable def kw:Nat → Str
 | 0 => "text"
 | 1 => "row"
 | 2 => "table"
 | _ => "record"
noncomputable def wnt:Nat → Nat → List D
 | 0,n=>(List.replicate n [D.str "sign"]).flatten
 | 1,n=>(List.replicate n [D.str "value"]).flatten
 | 2,n=>(List.replicate n [D.str "name",.str "value"]).flatten
 | _,n=>D.str "class" :: (List.replicate n [D.str "name",.str "value"]).flatten
theorem want_ok (k n:Nat) (hk:k ≤ 3) (hn:n ≤ 100):m_wanted_items [.str (kw k),.int (n:Int)] = some (.lst (wnt k n)):=by
 have z:(1000:Nat) ≤ sizeLine:=by decide
 have m1:∀ (w:Str) (δ0:Sl),o2 (lstG (consA (gc (.str w)) nilA)) (gv 1) mulL [δ0,.sh (.int (n:Int))] = some (.lst (List.replicate n [D.str w]).flatten):=fun w δ0=>by
  rw [o2_of (x:=.lst [.str w]) (y:=.int (n:Int)) (lst_of rfl (by show 1 ≤ sizeLine; omega)) rfl]
  exact mul_ok _ n hn (by simp) (by simp)
 have m2:∀ (δ0:Sl),o2 (lstG (consA (gc (.str "name")) (consA (gc (.str "value")) nilA))) (gv 1) mulL [δ0,.sh (.int (n:Int))] = some (.lst (List.replicate n [D.str "name",.str "value"]).flatten):=fun δ0=>by
  rw [o2_of (x:=.lst [.str "name",.str "value"]) (y:=.int (n:Int)) (lst_of rfl (by show 2 ≤ sizeLine; omega)) rfl]
  exact mul_ok _ n hn (by simp) (by simp)
 have f:∀ (x y:Str) (G:GS),x ≠ y → ifD (ob (o2 (gv 0) (gc (.str y)) eqD)) G nilD [.sh (.str x),.sh (.int (n:Int))] = some (.nx [.sh (.str x),.sh (.int (n:Int))]):=fun x y G h=>by
  rw [if_f (by rw [kind_t,decide_eq_false h])]
  rfl
 have t:∀ (x:Str) (G:GS),ifD (ob (o2 (gv 0) (gc (.str x)) eqD)) G nilD [.sh (.str x),.sh (.int (n:Int))] = G [.sh (.str x),.sh (.int (n:Int))]:=fun x G=>if_t (by rw [kind_t,decide_eq_true rfl])
 match k,hk with
 | 0,_=>exact mkF_rt rfl (seq_rt ((t "text" _).trans (seq_rt (ret_of (m1 _ _)))))
 | 1,_=>exact mkF_rt rfl (seq_to (f "row" "text" _ (by decide +kernel)) (seq_rt ((t "row" _).trans (seq_rt (ret_of (m1 _ _))))))
 | 2,_=>exact mkF_rt rfl (seq_to (f "table" "text" _ (by decide +kernel)) (seq_to (f "table" "row" _ (by decide +kernel)) (seq_rt ((t "table" _).trans (seq_rt (ret_of (m2 _)))))))
 | 3,_ =>
  refine mkF_rt rfl (seq_to (f "record" "text" _ (by decide +kernel)) (seq_to (f "record" "row" _ (by decide +kernel)) (seq_to (f "record" "table" _ (by decide +kernel)) (seq_rt (ret_of ?_)))))
  rw [o2_of (x:=.lst [.str "class"]) (y:=.lst (List.replicate n [D.str "name",.str "value"]).flatten) (lst_of rfl (by show 1 ≤ sizeLine; omega)) (m2 _)]
  simp only [addA]
  rw [if_pos (by simp; omega)]
  rfl
end Ia
namespace Ia
open PySem DL W
open Bw (two)
theorem pick_ev (l:List D) (lo:Nat) (h:lo ≤ l.length):pickG l (some (lo:Int)) none (some 2) = (List.range ((l.length - lo + 1) / 2)).filterMap fun k=>l[lo + 2 * k]?:=by
 have e:sliceBounds (some (lo:Int)) none (some 2) l.length = ((lo:Int),(l.length:Int),2):=by
  unfold sliceBounds
  have h2:¬ ((lo:Int) < 0):=by omega
  have h3:(2:Int) > 0:=by decide
  simp only [Option.getD_some,if_neg h2,if_pos h3]
  have:max (0:Int) (min (lo:Int) (l.length:Int)) = (lo:Int):=by omega
  rw [this]
 unfold pickG
 rw [e]
 unfold sliceRange
 simp only
 rw [if_pos (by decide),List.filterMap_map]
 have c:(if (lo:Int) < (l.length:Int) then ((l.length:Int) - (lo:Int) + 2 - 1) / 2 else 0).toNat = (l.length - lo + 1) / 2:=by
  split <;> omega
 rw [c]
 have fe:((fun x:Nat=>l[x]?) ∘ fun k:Nat=>((lo:Int) + 2 * (k:Int)).toNat) = fun k=>l[lo + 2 * k]?:=by
  funext k
  show l[((lo:Int) + 2 * (k:Int)).toNat]? = _
  rw [show ((lo:Int) + 2 * (k:Int)).toNat = lo + 2 * k by omega]
 rw [fe]
end Ia
namespace Ia
open PySem DL W
open Bw (two two_len sg bs vn ib pb cnt kn its tx Gq Gs)
theorem cut_from (xs:List D) (k:Int) (h:0 ≤ k):cutD xs (some k) none = xs.drop k.toNat:=by
 unfold cutD sIx
 simp only []
 rw [if_neg (by omega)]
 by_cases q:k.toNat ≤ xs.length
 ·rw [Nat.min_eq_left q,List.take_of_length_le (by rw [List.length_drop]; exact Nat.le_refl _)]
 ·rw [Nat.min_eq_right (by omega),List.drop_of_length_le (Nat.le_refl _),List.drop_of_length_le (by omega),List.take_nil]
theorem sl_fr {g gk:GE} {δ:Ds} {xs:List D} {k:Nat} (h1:g δ = some (.lst xs)) (h2:gk δ = some (.int (k:Int))):slAG g (someO gk) noneO δ = some (.lst (xs.drop k)):=by
 unfold slAG someO
 rw [h1,h2]
 show slA (.lst xs) (some (k:Int)) none = _
 simp only [slA]
 rw [cut_from _ _ (by omega),Int.toNat_natCast]
theorem fm_rng {α:Type}:∀ l:List α,(List.range l.length).filterMap (fun k=>l[k]?) = l
 | []=>rfl
 | a :: l=>by
  rw [List.length_cons,List.range_succ_eq_map,List.filterMap_cons]
  simp only [List.getElem?_cons_zero]
  rw [List.filterMap_map]
  have:=fm_rng l
  congr 1
theorem two_0:∀ (ps:List (Str × D)) (k:Nat),(ps.flatMap two)[2 * k]? = (ps.map fun q=>D.str q.1)[k]?
 | [],k=>by simp
 | q :: ps,0=>rfl
 | q :: ps,k + 1=>by
  have:=two_0 ps k
  rw [List.flatMap_cons,List.map_cons,List.getElem?_cons_succ,← this]
  rfl
theorem two_1:∀ (ps:List (Str × D)) (k:Nat),(ps.flatMap two)[1 + 2 * k]? = (ps.map fun q=>q.2)[k]?
 | [],k=>by simp
 | q :: ps,0=>rfl
 | q :: ps,k + 1=>by
  have:=two_1 ps k
  rw [List.flatMap_cons,List.map_cons,List.getElem?_cons_succ,← this,show 1 + 2 * (k + 1) = (1 + 2 * k) + 2 by omega]
  rfl
theorem pick_0 (ps:List (Str × D)):pickG (ps.flatMap two) (some 0) none (some 2) = ps.map fun q=>D.str q.1:=by
 have h:=pick_ev (ps.flatMap two) 0 (Nat.zero_le _)
 rw [two_len,show (2 * ps.length - 0 + 1) / 2 = (ps.map fun q=>D.str q.1).length by rw [List.length_map]; omega] at h
 refine h.trans (Eq.trans ?_ (fm_rng (ps.map fun q=>D.str q.1)))
 congr 1
 funext k
 rw [Nat.zero_add]
 exact two_0 ps k
theorem pick_1 (ps:List (Str × D)):pickG (ps.flatMap two) (some 1) none (some 2) = ps.map fun q=>q.2:=by
 cases ps with
 | nil=>rfl
 | cons q ps =>
  have h:=pick_ev ((q :: ps).flatMap two) 1 (by rw [two_len,List.length_cons]; omega)
  rw [two_len,show (2 * (q :: ps).length - 1 + 1) / 2 = ((q :: ps).map fun q=>q.2).length by rw [List.length_map,List.length_cons]; omega] at h
  refine h.trans (Eq.trans ?_ (fm_rng ((q :: ps).map fun q=>q.2)))
  congr 1
  funext k
  exact two_1 (q :: ps) k
theorem zip_pr:∀ ps:List (Str × D),((ps.map fun q=>D.str q.1).zip (ps.map fun q=>q.2)).map (fun p=>D.tup [p.1,p.2]) = ps.map pr
 | []=>rfl
 | q :: ps=>by
  rw [List.map_cons,List.map_cons,List.zip_cons_cons,List.map_cons,zip_pr ps]
  rfl
theorem pairs_ok (ps:List (Str × D)):m_made_pairs [.lst (ps.flatMap two)] = some (.tup (ps.map pr)):=by
 refine mkF_rt rfl (seq_rt (ret_of ?_))
 have e0:stepG (gv 0) (someO (gc (.int 0))) noneO (someO (gc (.int 2))) [.sh (.lst (ps.flatMap two))] = some (.lst (pickG (ps.flatMap two) (some 0) none (some 2))):=rfl
 have e1:stepG (gv 0) (someO (gc (.int 1))) noneO (someO (gc (.int 2))) [.sh (.lst (ps.flatMap two))] = some (.lst (pickG (ps.flatMap two) (some 1) none (some 2))):=rfl
 refine (oA_of (cons_of e0 (cons_of e1 rfl))).trans ?_
 rw [pick_0,pick_1]
 show some (D.tup _) = _
 rw [zip_pr]
noncomputable def held:Pt → List D
 | .text w=>(ones w.cps.toList).map .str
 | .row vs=>vs
 | .table ps=>ps.flatMap two
 | .rcd c ps=>.str c :: ps.flatMap two
theorem made_ok (p:Pt) (h:cnt p ≤ 20):m_made_part [.str (kw (kn p)),.lst (held p)] = some p.d:=by
 have z:(1000:Nat) ≤ sizeLine:=by decide
 have f:∀ (x y:Str) (G:GS) (s:Sl),x ≠ y → ifD (ob (o2 (gv 0) (gc (.str y)) eqD)) G nilD [.sh (.str x),s] = some (.nx [.sh (.str x),s]):=fun x y G s h=>by
  rw [if_f (by rw [kind_t,decide_eq_false h])]
  rfl
 have t:∀ (x:Str) (G:GS) (s:Sl),ifD (ob (o2 (gv 0) (gc (.str x)) eqD)) G nilD [.sh (.str x),s] = G [.sh (.str x),s]:=fun x G s=>if_t (by rw [kind_t,decide_eq_true rfl])
 cases p with
 | text w =>
  refine mkF_rt rfl (seq_rt ((t "text" _ _).trans (seq_rt (ret_of (tup_of (cons_of rfl (cons_of (d:=.str w) ?_ rfl)) (by show 2 ≤ sizeLine; omega))))))
  obtain ⟨l,hl⟩:∃ l:List Nat,l = w.cps.toList:=⟨_,rfl⟩
  have es:w = strOf l:=by unfold strOf; rw [hl]
  have ll:l.length ≤ 20:=by rw [hl]; exact h
  change joinG _ _ [.sh (.str "text"),.sh (.lst ((ones w.cps.toList).map .str))] = _
  rw [join_of (x:=.str "") (ds:=[.lst ((ones l).map .str)]) rfl (cons_of (by rw [hl]; rfl) rfl)]
  have e1:=strs_map id (ones l)
  have e1':strL ((ones l).map D.str) = some (ones l):=by simpa using e1
  simp only [joinD]
  rw [e1',Option.bind_some,sum_ones',join_ones,if_pos (by
   have:("" : PySem.Str).length = 0:=by decide +kernel
   rw [this]; omega),es]
 | row vs =>
  exact mkF_rt rfl (seq_to (f "row" "text" _ _ (by decide +kernel)) (seq_rt ((t "row" _ _).trans (seq_rt (ret_of (tup_of (cons_of rfl (cons_of (d:=.tup vs) rfl rfl)) (by show 2 ≤ sizeLine; omega)))))))
 | table ps =>
  refine mkF_rt rfl (seq_to (f "table" "text" _ _ (by decide +kernel)) (seq_to (f "table" "row" _ _ (by decide +kernel)) (seq_rt ((t "table" _ _).trans (seq_rt (ret_of (tup_of (cons_of rfl (cons_of (d:=.tup (ps.map pr)) ?_ rfl)) (by show 2 ≤ sizeLine; omega))))))))
  rw [oA_of (ds:=[.lst (ps.flatMap two)]) rfl]
  exact pairs_ok ps
 | rcd c ps =>
  refine mkF_rt rfl (seq_to (f "record" "text" _ _ (by decide +kernel)) (seq_to (f "record" "row" _ _ (by decide +kernel)) (seq_to (f "record" "table" _ _ (by decide +kernel)) (seq_rt (ret_of (tup_of (cons_of rfl (cons_of (d:=.str c) (by
   show atI (D.str c :: ps.flatMap two) 0 = _
   rw [atI_in (by omega) (by rw [List.length_cons]; omega) .non]
   rfl) (cons_of (d:=.tup (ps.map pr)) ?_ rfl))) (by show 3 ≤ sizeLine; omega)))))))
  have e:slAG (gv 1) (someO (gc (.int 1))) noneO [.sh (.str "record"),.sh (.lst (.str c :: ps.flatMap two))] = some (.lst (ps.flatMap two)):=by
   have:=sl_fr (g:=gv 1) (gk:=gc (.int 1)) (δ:=[.sh (.str "record"),.sh (.lst (.str c :: ps.flatMap two))]) (k:=1) rfl rfl
   exact this
  refine (oA_of (cons_of e rfl)).trans ?_
  exact pairs_ok ps
end Ia
namespace Ia
open PySem DL W
open Bw (two two_len sg bs vn ib pb cnt kn kn_le its tx Gq Gs Vb small)
noncomputable def i2 (q:Str × D):List Itm:=[⟨"name",.str q.1,bs q.1.length ++ sg q.1⟩,⟨"value",q.2,bs (vn q.2)⟩]
noncomputable def itm:Pt → List Itm
 | .text w=>w.cps.toList.map fun c=>⟨"sign",.str ⟨#[c]⟩,[(c:Int)]⟩
 | .row vs=>vs.map fun v=>⟨"value",v,bs (vn v)⟩
 | .table ps=>ps.flatMap i2
 | .rcd c ps=>⟨"class",.str c,bs c.length ++ sg c⟩ :: ps.flatMap i2
theorem rep_fm {α:Type} (x:List D):∀ l:List α,(List.replicate l.length x).flatten = l.flatMap fun _=>x
 | []=>rfl
 | a :: l=>by rw [List.length_cons,List.replicate_succ,List.flatten_cons,List.flatMap_cons,rep_fm x l]
theorem fm_one {α β:Type} (f:α → β):∀ l:List α,(l.flatMap fun a=>[f a]) = l.map f
 | []=>rfl
 | a :: l=>by rw [List.flatMap_cons,List.map_cons,fm_one f l]; rfl
theorem i2_w:∀ ps:List (Str × D),(ps.flatMap i2).map (fun t:Itm=>D.str t.w) = ps.flatMap fun _=>[D.str "name",.str "value"]
 | []=>rfl
 | q :: ps=>by rw [List.flatMap_cons,List.map_append,i2_w ps,List.flatMap_cons]; rfl
theorem i2_d:∀ ps:List (Str × D),(ps.flatMap i2).map Itm.d = ps.flatMap two
 | []=>rfl
 | q :: ps=>by rw [List.flatMap_cons,List.map_append,i2_d ps,List.flatMap_cons]; rfl
theorem i2_b:∀ ps:List (Str × D),(∀ q ∈ ps,Vb q.2) → (ps.flatMap i2).flatMap Itm.b = (ps.flatMap two).flatMap ib
 | [],_=>rfl
 | q :: ps,h=>by
  rw [List.flatMap_cons,List.flatMap_append,i2_b ps fun r hr=>h r (List.mem_cons_of_mem _ hr),List.flatMap_cons,List.flatMap_append]
  congr 1
  show (bs q.1.length ++ sg q.1) ++ (bs (vn q.2) ++ []) = ib (.str q.1) ++ (ib q.2 ++ [])
  rw [(h q List.mem_cons_self).ib]
  rfl
theorem itm_w (p:Pt):(itm p).map (fun t:Itm=>D.str t.w) = wnt (kn p) (cnt p):=by
 cases p with
 | text w =>
  show _ = (List.replicate w.cps.toList.length [D.str "sign"]).flatten
  rw [rep_fm,fm_one]
  show List.map _ (w.cps.toList.map _) = _
  rw [List.map_map]
  rfl
 | row vs =>
  show _ = (List.replicate vs.length [D.str "value"]).flatten
  rw [rep_fm,fm_one]
  show List.map _ (vs.map _) = _
  rw [List.map_map]
  rfl
 | table ps =>
  show _ = (List.replicate ps.length [D.str "name",.str "value"]).flatten
  rw [rep_fm]
  exact i2_w ps
 | rcd c ps =>
  show _ = D.str "class" :: (List.replicate ps.length [D.str "name",.str "value"]).flatten
  rw [rep_fm,← i2_w ps]
  rfl
theorem itm_d (p:Pt):(itm p).map Itm.d = held p:=by
 cases p with
 | text w =>
  show List.map _ (w.cps.toList.map _) = ((w.cps.toList.map fun c=>(⟨#[c]⟩:Str))).map D.str
  rw [List.map_map,List.map_map]
  rfl
 | row vs =>
  show List.map _ (vs.map _) = vs
  rw [List.map_map]
  exact List.map_id _
 | table ps=>exact i2_d ps
 | rcd c ps =>
  show D.str c :: (ps.flatMap i2).map Itm.d = D.str c :: ps.flatMap two
  rw [i2_d]
theorem fm_val:∀ vs:List D,(∀ v ∈ vs,Vb v) → (vs.map fun v=>(⟨"value",v,bs (vn v)⟩:Itm)).flatMap Itm.b = vs.flatMap ib
 | [],_=>rfl
 | v :: vs,h=>by
  rw [List.map_cons,List.flatMap_cons,List.flatMap_cons,fm_val vs fun r hr=>h r (List.mem_cons_of_mem _ hr),(h v List.mem_cons_self).ib]
theorem fm_sg:∀ l:List Nat,(l.map fun (c:Nat)=>(⟨"sign",.str ⟨#[c]⟩,[(c:Int)]⟩:Itm)).flatMap Itm.b = l.map fun (c:Nat)=>(c:Int)
 | []=>rfl
 | v :: vs=>by
  rw [List.map_cons,List.flatMap_cons,fm_sg vs]
  rfl
theorem mem2 {ps:List (Str × D)} (h:∀ v ∈ ps.map (·.2),Vb v):∀ q ∈ ps,Vb q.2:=fun q hq=>h _ (List.mem_map.mpr ⟨q,hq,rfl⟩)
theorem itm_b {p:Pt} (h:Gq p):(itm p).flatMap Itm.b = tx p ++ (its p).flatMap ib:=by
 cases p with
 | text w =>
  show (w.cps.toList.map _).flatMap _ = sg w ++ []
  rw [List.append_nil]
  exact fm_sg _
 | row vs=>exact fm_val vs h.vals
 | table ps=>exact i2_b ps (mem2 h.vals)
 | rcd c ps =>
  show (bs c.length ++ sg c) ++ (ps.flatMap i2).flatMap Itm.b = ([]:List Int) ++ (D.str c :: ps.flatMap two).flatMap ib
  rw [i2_b ps (mem2 h.vals),List.nil_append,List.flatMap_cons]
  rfl
theorem name_in {s:Str} (h:isName s = true):∀ c ∈ s.cps.toList,c ∈ nameS.cps.toList:=by
 unfold isName at h
 rw [Bool.and_eq_true,Bool.and_eq_true] at h
 have h2:=h.1.2
 unfold hasAll at h2
 rw [List.all_eq_true] at h2
 exact fun c hc=>of_decide_eq_true (h2 c hc)
theorem itm_ok {F:D} {p:Pt} (h:Gq p) (hs:Gs p):∀ t ∈ itm p,t.ok F:=by
 have nm:∀ (s:Str) (w:Str),s ∈ p.all → w ≠ "sign" → w ≠ "value" → Itm.ok F ⟨w,.str s,bs s.length ++ sg s⟩:=fun s w hm h1 h2 a ha ht=>it_name h1 h2 (h.names s hm) ha ht (name_in (hs.1 s hm))
 have vl:∀ v:D,Vb v → Itm.ok F ⟨"value",v,bs (vn v)⟩:=fun v hv a ha ht=>it_value hv ht
 have pr2:∀ ps:List (Str × D),(∀ q ∈ ps,Vb q.2) → (∀ q ∈ ps,q.1 ∈ p.all) → ∀ t ∈ ps.flatMap i2,t.ok F:=fun ps h1 h2 t ht=>by
  obtain ⟨q,hq,ht⟩:=List.mem_flatMap.mp ht
  rcases List.mem_cons.mp ht with rfl | ht
  ·exact nm _ _ (h2 q hq) (by decide +kernel) (by decide +kernel)
  ·rw [List.mem_singleton.mp ht]
   exact vl _ (h1 q hq)
 cases p with
 | text w =>
  intro t ht
  obtain ⟨c,hc,rfl⟩:=List.mem_map.mp ht
  exact fun a ha ht=>it_sign ht (hs.2 w rfl c hc)
 | row vs =>
  intro t ht
  obtain ⟨v,hv,rfl⟩:=List.mem_map.mp ht
  exact vl v (h.vals v hv)
 | table ps=>exact pr2 ps (mem2 h.vals) fun q hq=>List.mem_append.mpr (.inl (List.mem_map.mpr ⟨q,hq,rfl⟩))
 | rcd c ps =>
  intro t ht
  rcases List.mem_cons.mp ht with rfl | ht
  ·exact nm c _ (List.mem_append.mpr (.inr (List.mem_singleton.mpr rfl))) (by decide +kernel) (by decide +kernel)
  ·exact pr2 ps (mem2 h.vals) (fun q hq=>List.mem_append.mpr (.inl (List.mem_map.mpr ⟨q,hq,rfl⟩))) t ht
theorem itm_len {p:Pt} (h:Gq p):(itm p).length ≤ 50:=by
 have h1:((itm p).map Itm.d).length = (itm p).length:=List.length_map _
 rw [← h1,itm_d]
 have hc:=h.cnt
 cases p with
 | text w =>
  have hc:w.cps.toList.length ≤ 20:=hc
  show (((w.cps.toList.map fun c=>(⟨#[c]⟩:Str))).map D.str).length ≤ 50
  rw [List.length_map,List.length_map]
  omega
 | row vs=>exact Nat.le_trans hc (by decide)
 | table ps =>
  have hc:ps.length ≤ 20:=hc
  show (ps.flatMap two).length ≤ 50
  rw [two_len]
  omega
 | rcd c ps =>
  have hc:ps.length ≤ 20:=hc
  show (D.str c :: ps.flatMap two).length ≤ 50
  rw [List.length_cons,two_len]
  omega
theorem part_at_ok {F:D} {a:Nat} {p:Pt} (h:Gq p) (hs:Gs p) (ht:Tel F a (pb p)) (ha:a + (pb p).length ≤ 1800000):m_part_at [F,.int (a:Int)] = some p.d:=by
 have z:(1000:Nat) ≤ sizeLine:=by decide
 have hc:=h.cnt
 have hk:=kn_le p
 obtain ⟨n,hn⟩:∃ n,n = 4 * cnt p + kn p:=⟨_,rfl⟩
 have ep:pb p = bs n ++ (itm p).flatMap Itm.b:=by
  rw [itm_b h,hn]
  unfold Bw.pb
  rw [List.append_assoc]
 rw [ep] at ht ha
 rw [List.length_append] at ha
 have hnum:=num_ok (F:=F) (a:=a) (n:=n) (small (by omega)) ht.left
 obtain ⟨s6,s7,hgo⟩:=items_go F (.sh (.int (a:Int))) (.sh (.tup [.int (n:Int),.int ((a + (bs n).length:Nat):Int)])) (.sh (.str (kw (kn p)))) (itm p) (a + (bs n).length) [] .un .un (itm_ok h hs) ht.right (by omega) (by have:=itm_len h; show 0 + _ < _; omega)
 rw [List.nil_append,itm_d,itm_w] at hgo
 have hw:=want_ok (kn p) (cnt p) hk (by omega)
 have hm:=made_ok p hc
 refine mkF_rt rfl (seq_to (set_of (d:=.tup [.int (n:Int),.int ((a + (bs n).length:Nat):Int)]) ?_) (seq_to (set_of (d:=.str (kw (kn p))) ?_) (seq_to (set_of (d:=.int ((a + (bs n).length:Nat):Int)) rfl) (seq_to (δ':=[.sh F,.sh (.int (a:Int)),.sh (.tup [.int (n:Int),.int ((a + (bs n).length:Nat):Int)]),.sh (.str (kw (kn p))),.sh (.int ((a + (bs n).length:Nat):Int)),.ow (.lst []),.un,.un]) rfl (seq_to (for_of (items:=wnt (kn p) (cnt p)) ?_ hgo) (seq_rt (ret_of ?_)))))))
 ·rw [oA_of (ds:=[F,.int (a:Int)]) rfl]
  exact hnum
 ·show unG _ _ [.sh F,.sh (.int (a:Int)),.sh (.tup [.int (n:Int),.int ((a + (bs n).length:Nat):Int)]),.un,.un,.un,.un,.un] = _
  have e:o2 (o2 (gv 2) (gc (.int 0)) ixD) (gc (.int 4)) modD [.sh F,.sh (.int (a:Int)),.sh (.tup [.int (n:Int),.int ((a + (bs n).length:Nat):Int)]),.un,.un,.un,.un,.un] = some (.int (kn p:Int)):=by
   rw [o2_of (x:=.int (n:Int)) (y:=.int 4) rfl rfl]
   show some (D.int ((n:Int) % 4)) = _
   rw [show (n:Int) % 4 = (kn p:Int) by omega]
  unfold unG
  rw [e,Option.bind_some]
  cases p <;> rfl
 ·have e:oA (consA (gv 3) (consA (o2 (o2 (gv 2) (gc (.int 0)) ixD) (gc (.int 4)) fdivD) nilA)) m_wanted_items [.sh F,.sh (.int (a:Int)),.sh (.tup [.int (n:Int),.int ((a + (bs n).length:Nat):Int)]),.sh (.str (kw (kn p))),.sh (.int ((a + (bs n).length:Nat):Int)),.ow (.lst []),.un,.un] = some (.lst (wnt (kn p) (cnt p))):=by
   rw [oA_of (ds:=[.str (kw (kn p)),.int (cnt p:Int)]) (cons_of rfl (cons_of (by
    rw [o2_of (x:=.int (n:Int)) (y:=.int 4) rfl rfl]
    show some (D.int ((n:Int) / 4)) = _
    rw [show (n:Int) / 4 = (cnt p:Int) by omega]) rfl))]
   exact hw
  show lstI _ _ = _
  unfold lstI
  rw [e]
  rfl
 ·show oA _ _ [.sh F,.sh (.int (a:Int)),.sh (.tup [.int (n:Int),.int ((a + (bs n).length:Nat):Int)]),.sh (.str (kw (kn p))),_,.sh (.lst (held p)),_,_] = _
  rw [oA_of (ds:=[.str (kw (kn p)),.lst (held p)]) rfl]
  exact hm
end Ia
namespace Ia
open PySem DL W
open Bw (bg sts sts_s sts_len bs pb pb_len bs_len ix bun ix_len pbs_len bun_len take_fm Gw' Gs small b_of)
section
variable {G1 G2 Ga Gb:GZ} {G:GS} {g1:GB} {δ δ':Ds} {c:Str} {m:Option Int} {d:D} {r:Option RX}
theorem zex (h:G1 δ = some (.ex c m δ')):seqZ G1 G2 δ = some (.ex c m δ'):=by unfold seqZ; rw [h]
theorem zto (h:G1 δ = some (.ok (.nx δ'))) (k:G2 δ' = r):seqZ G1 G2 δ = r:=by unfold seqZ; rw [h]; exact k
theorem zrt (h:G1 δ = some (.ok (.rt d))):seqZ G1 G2 δ = some (.ok (.rt d)):=by unfold seqZ; rw [h]
theorem zok {r:Res} (h:G δ = some r):okZ G δ = some (.ok r):=by unfold okZ; rw [h]; rfl
theorem zt (h:g1 δ = some true):ifZ g1 Ga Gb δ = Ga δ:=by unfold ifZ; rw [h]; rfl
theorem zf (h:g1 δ = some false):ifZ g1 Ga Gb δ = Gb δ:=by unfold ifZ; rw [h]; rfl
theorem or_l {g1 g2:GB} (h1:g1 δ = some true):tOrG g1 g2 δ = some true:=by
 unfold tOrG
 rw [h1,Option.bind_some,if_pos rfl]
theorem or_r {g1 g2:GB} {b:Bool} (h1:g1 δ = some false) (h2:g2 δ = some b):tOrG g1 g2 δ = some b:=by
 unfold tOrG
 rw [h1,Option.bind_some,if_neg (by decide),h2]
end
noncomputable def lp (p:Pt):D:=.int ((pb p).length:Int)
theorem bg_s {ps:List Pt} {j:Nat} {p:Pt} (h:ps[j]? = some p):bg ps (j + 1) = bg ps j + (pb p).length:=by
 unfold Bw.bg
 rw [← take_fm pb h,List.length_append]
 omega
theorem bg_le {ps:List Pt} (h:Gw' ps) (j:Nat):bg ps j ≤ 1300000:=by
 have:=ix_len h
 have:=pbs_len h j
 unfold Bw.bg
 omega
noncomputable def PT:GB:=(ob (o2 (borE (oA (consA (gv 4) nilA) lenD)) (o2 (gv 2) (gc (.int 0)) ixD) ltD))
noncomputable def PB:GS:=(seqD (setD (gN 5) (oA (consA (gv 0) (consA (gv 3) nilA)) m_number_at))
 (seqD (exprX (appX 4 (o2 (gv 5) (gc (.int 0)) ixD)))
 (seqD (setD (gN 3) (o2 (gv 5) (gc (.int 1)) ixD))
 nilD)))
theorem pt (F k:Sl) (N c a:Int) (l:List D) (s5 s6:Sl):PT [F,k,.sh (.tup [.int N,.int c]),.sh (.int a),.ow (.lst l),s5,s6] = some (decide ((l.length:Int) < N)):=b_of (by
 rw [o2_of (x:=.int (l.length:Int)) (y:=.int N) (by
  unfold borE
  rw [len_of (ds:=l) rfl]
  rfl) rfl]
 rfl)
theorem sizes_go (F:D) (k:Sl) (N c:Int) (s6:Sl):∀ (l:List Pt) (pre:List Pt) (a f:Nat) (s5:Sl),l.length < f → N = ((pre.length + l.length:Nat):Int) → pre.length + l.length ≤ 60 → (∀ p ∈ l,(pb p).length ≤ 20000) → Tel F a (l.flatMap fun p=>bs (pb p).length) →
  ∃ s5',whileD PT PB f [.sh F,k,.sh (.tup [.int N,.int c]),.sh (.int (a:Int)),.ow (.lst (pre.map lp)),s5,s6] = some (.nx [.sh F,k,.sh (.tup [.int N,.int c]),.sh (.int ((a + (l.flatMap fun p=>bs (pb p).length).length:Nat):Int)),.ow (.lst ((pre ++ l).map lp)),s5',s6]):=by
 have z:(1000:Nat) ≤ sizeLine:=by decide
 intro l
 induction l with
 | nil =>
  intro pre a f s5 hf hN h60 hp ht
  cases f with
  | zero=>exact absurd hf (Nat.not_lt_zero _)
  | succ f =>
   refine ⟨s5,?_⟩
   rw [while_f (by rw [pt,decide_eq_false (by rw [List.length_map,hN]; simp)]),List.append_nil]
   rfl
 | cons p l ih =>
  intro pre a f s5 hf hN h60 hp ht
  cases f with
  | zero=>exact absurd hf (Nat.not_lt_zero _)
  | succ f =>
   rw [List.length_cons] at hf hN h60
   rw [List.flatMap_cons] at ht
   have hn:=num_ok (F:=F) (a:=a) (n:=(pb p).length) (small (by have:=hp p List.mem_cons_self; omega)) ht.left
   obtain ⟨s5',e⟩:=ih (pre ++ [p]) (a + (bs (pb p).length).length) f (.sh (.tup [.int ((pb p).length:Int),.int ((a + (bs (pb p).length).length:Nat):Int)])) (by omega) (by rw [hN,List.length_append]; show _ = (((pre.length + 1) + l.length:Nat):Int); omega) (by rw [List.length_append]; show (pre.length + 1) + _ ≤ _; omega) (fun q hq=>hp q (List.mem_cons_of_mem _ hq)) ht.right
   refine ⟨s5',?_⟩
   have body:PB [.sh F,k,.sh (.tup [.int N,.int c]),.sh (.int (a:Int)),.ow (.lst (pre.map lp)),s5,s6] = some (.nx [.sh F,k,.sh (.tup [.int N,.int c]),.sh (.int ((a + (bs (pb p).length).length:Nat):Int)),.ow (.lst ((pre ++ [p]).map lp)),.sh (.tup [.int ((pb p).length:Int),.int ((a + (bs (pb p).length).length:Nat):Int)]),s6]):=by
    refine seq_to (set_of (d:=.tup [.int ((pb p).length:Int),.int ((a + (bs (pb p).length).length:Nat):Int)]) ?_) (seq_to (Gw.app_ow (l:=pre.map lp) (d:=lp p) rfl rfl (by rw [List.length_map]; omega)) ?_)
    ·rw [oA_of (ds:=[F,.int (a:Int)]) rfl]
     exact hn
    ·rw [List.map_append]
     rfl
   rw [while_t (by rw [pt,decide_eq_true (by rw [List.length_map,hN]; omega)]) body,e,List.flatMap_cons,List.length_append,List.append_assoc,Nat.add_assoc]
   rfl
noncomputable def SB':GS:=(seqD (exprX (appX 6 (gv 3)))
 (seqD (augD 3 (gv 5))
 nilD))
theorem starts_go {ps:List Pt} (h:Gw' ps) (F k cn zs s5:Sl):∃ s3 s5',forD (gN 5) SB' (ps.map lp) [F,k,cn,.sh (.int ((bg ps 0:Nat):Int)),zs,s5,.ow (.lst [])] = some (.nx [F,k,cn,s3,zs,s5',.ow (.lst (sts ps ps.length))]):=by
 have z:(1000:Nat) ≤ sizeLine:=by decide
 have hl:=h.len
 obtain ⟨δ',l1,s5',rfl⟩:=forD_inv (f:=gN 5) (G:=SB') (fun j δ=>∃ s5',δ = [F,k,cn,.sh (.int ((bg ps j:Nat):Int)),zs,s5',.ow (.lst (sts ps j))]) (ps.map lp) 0 [F,k,cn,.sh (.int ((bg ps 0:Nat):Int)),zs,s5,.ow (.lst [])] (by
  rintro j d δ hj ⟨s5',rfl⟩
  rw [List.getElem?_map] at hj
  obtain ⟨p,hp,rfl⟩:=Option.map_eq_some_iff.mp hj
  have hjl:=(List.getElem?_eq_some_iff.mp hp).1
  rw [Nat.zero_add]
  refine ⟨_,[F,k,cn,.sh (.int ((bg ps (j + 1):Nat):Int)),zs,.sh (lp p),.ow (.lst (sts ps (j + 1)))],rfl,?_,.sh (lp p),rfl⟩
  refine seq_to (Gw.app_ow (l:=sts ps j) (d:=.int ((bg ps j:Nat):Int)) rfl rfl (by rw [sts_len]; omega)) (seq_to (δ':=[F,k,cn,.sh (.int (((bg ps j:Nat):Int) + ((pb p).length:Int))),zs,.sh (lp p),.ow (.lst (sts ps j ++ [.int ((bg ps j:Nat):Int)]))]) rfl ?_)
  rw [← sts_s,bg_s hp,show ((bg ps j:Nat):Int) + ((pb p).length:Int) = ((bg ps j + (pb p).length:Nat):Int) by omega]
  rfl) ⟨s5,rfl⟩
 rw [Nat.zero_add,List.length_map] at l1
 exact ⟨_,_,l1⟩
theorem out_t {F:Sl} {k n c:Int} {s3 s4 s5 s6:Sl}:tOrG (ob (o2 (gv 1) (gc (.int 0)) ltD)) (ob (o2 (gv 1) (o2 (gv 2) (gc (.int 0)) ixD) geD)) [F,.sh (.int k),.sh (.tup [.int n,.int c]),s3,s4,s5,s6] = some (decide (k < 0 ∨ n ≤ k)):=by
 have t1:ob (o2 (gv 1) (gc (.int 0)) ltD) [F,.sh (.int k),.sh (.tup [.int n,.int c]),s3,s4,s5,s6] = some (decide (k < 0)):=b_of rfl
 have t2:ob (o2 (gv 1) (o2 (gv 2) (gc (.int 0)) ixD) geD) [F,.sh (.int k),.sh (.tup [.int n,.int c]),s3,s4,s5,s6] = some (decide (n ≤ k)):=b_of (by
  rw [o2_of (x:=.int k) (y:=.int n) rfl rfl]
  rfl)
 by_cases h:k < 0
 ·rw [or_l (by rw [t1,decide_eq_true h]),decide_eq_true (.inl h)]
 ·rw [or_r (by rw [t1,decide_eq_false h]) t2]
  congr 1
  exact decide_eq_decide.mpr ⟨.inr,fun q=>q.resolve_left h⟩
section
variable {ps:List Pt} {F:D} (h:Gw' ps) (ht:Tel F 0 (ix ps))
include h ht
theorem cnt_n:m_number_at [F,.int 0] = some (.tup [.int (ps.length:Int),.int ((bs ps.length).length:Int)]):=by
 have:=num_ok (F:=F) (a:=0) (n:=ps.length) (small (by have:=h.len; omega)) (Tel.left ht)
 rw [Nat.zero_add] at this
 exact this
theorem starts_no (k:Int) (hk:k < 0 ∨ (ps.length:Int) ≤ k):m_part_starts [F,.int k] = some (.ex "NoPlace" none):=by
 have hn:=cnt_n h ht
 refine mkX_ex (δ:=[.sh F,.sh (.int k),.sh (.tup [.int (ps.length:Int),.int ((bs ps.length).length:Int)]),.un,.un,.un,.un]) rfl (zto (δ':=[.sh F,.sh (.int k),.sh (.tup [.int (ps.length:Int),.int ((bs ps.length).length:Int)]),.un,.un,.un,.un]) (zok (set_of (i:=2) ?_)) (zex ?_))
 ·rw [oA_of (ds:=[F,.int 0]) rfl]
  exact hn
 ·rw [zt (by rw [out_t,decide_eq_true hk])]
  rfl
theorem starts_ok (k:Int) (h0:0 ≤ k) (hk:k < (ps.length:Int)):m_part_starts [F,.int k] = some (.ok (.lst (sts ps ps.length))):=by
 have hn:=cnt_n h ht
 have hl:=h.len
 obtain ⟨s5,e1⟩:=sizes_go F (.sh (.int k)) (ps.length:Int) ((bs ps.length).length:Int) .un ps [] (bs ps.length).length 100000 .un (by omega) (by simp) (by simpa using hl) (fun p hp=>pb_len (h.it p hp).gp) (by
  have q:=Tel.right ht
  rw [Nat.zero_add] at q
  exact q)
 rw [List.nil_append,show (bs ps.length).length + (ps.flatMap fun p=>bs (pb p).length).length = bg ps 0 by unfold Bw.bg Bw.ix; rw [List.length_append]; simp] at e1
 obtain ⟨s3,s5',e2⟩:=starts_go h (.sh F) (.sh (.int k)) (.sh (.tup [.int (ps.length:Int),.int ((bs ps.length).length:Int)])) (.sh (.lst (ps.map lp))) s5
 refine mkX_rt rfl (zto (δ':=[.sh F,.sh (.int k),.sh (.tup [.int (ps.length:Int),.int ((bs ps.length).length:Int)]),.un,.un,.un,.un]) (zok (set_of (i:=2) ?_)) (zto (δ':=[.sh F,.sh (.int k),.sh (.tup [.int (ps.length:Int),.int ((bs ps.length).length:Int)]),.un,.un,.un,.un]) ?_ (zto (δ':=[.sh F,.sh (.int k),.sh (.tup [.int (ps.length:Int),.int ((bs ps.length).length:Int)]),.sh (.int ((bs ps.length).length:Int)),.un,.un,.un]) (zok rfl) (zto (δ':=[.sh F,.sh (.int k),.sh (.tup [.int (ps.length:Int),.int ((bs ps.length).length:Int)]),.sh (.int ((bs ps.length).length:Int)),.ow (.lst []),.un,.un]) (zok rfl) (zto (zok e1) (zto (δ':=[.sh F,.sh (.int k),.sh (.tup [.int (ps.length:Int),.int ((bs ps.length).length:Int)]),.sh (.int ((bg ps 0:Nat):Int)),.sh (.lst (ps.map lp)),s5,.ow (.lst [])]) (zok rfl) (zto (zok (for_of (items:=ps.map lp) rfl e2)) (zrt (zok rfl)))))))))
 ·rw [oA_of (ds:=[F,.int 0]) rfl]
  exact hn
 ·rw [zf (by rw [out_t,decide_eq_false (by omega)])]
  rfl
theorem part_no (k:Int) (hk:k < 0 ∨ (ps.length:Int) ≤ k):m_part_of [F,.int k] = some (.ex "NoPlace" none):=by
 refine mkX_ex (δ:=[.sh F,.sh (.int k)]) rfl (zex ?_)
 show Option.bind (some F) _ = _
 rw [Option.bind_some]
 show Option.bind (some [F,D.int k]) _ = _
 rw [Option.bind_some,starts_no h ht k hk]
 rfl
theorem part_of_ok (k:Nat) (hk:k < ps.length) (hs:Gs ps[k]) (hp:Tel F (bg ps k) (pb ps[k])):m_part_of [F,.int (k:Int)] = some (.ok ps[k].d):=by
 refine mkX_rt rfl (zrt ?_)
 show Option.bind (some F) _ = _
 rw [Option.bind_some]
 show Option.bind (some [F,D.int (k:Int)]) _ = _
 rw [Option.bind_some,starts_ok h ht (k:Int) (by omega) (by omega),Option.bind_some]
 show Option.bind (some (D.int (k:Int))) _ = _
 rw [Option.bind_some]
 have e:ixD (.lst (sts ps ps.length)) (.int (k:Int)) = some (.int ((bg ps k:Nat):Int)):=by
  show atI (sts ps ps.length) (k:Int) = _
  unfold Bw.sts
  rw [atI_in (by omega) (by rw [List.length_map,List.length_range]; omega) .non]
  simp [List.getD_eq_getElem?_getD,hk]
 rw [e,Option.bind_some,part_at_ok (h.it _ (List.getElem_mem hk)) hs hp (by have:=bg_le h k; have:=pb_len (h.it _ (List.getElem_mem hk)).gp; omega)]
 rfl
end
end Ia
namespace Ia
open PySem DL W
open Bw (bg sts sts_s sts_len bg_end bs pb pb_len bs_len ix bun ix_len pbs_len bun_len take_fm Gw' Gq Gs Vb small b_of web)
theorem tel_of {ks:List KeyD} {ds:List D} {T l pre post:List Int} {a:Nat} (hT:T = pre ++ (l ++ post)) (ha:pre.length = a) (h:∀ i,a ≤ i → i < a + l.length → getK ks ds (.inl (i:Int)) = some ((T.map D.int).getD i .non)):Tel (.fn ks ds) a l:=fun i hi=>by
 show getK ks ds (.inl ((a + i:Nat):Int)) = _
 rw [h (a + i) (by omega) (by omega)]
 subst hT ha
 have:(pre ++ (l ++ post))[pre.length + i]? = some l[i]:=by
  rw [List.getElem?_append_right (by omega),Nat.add_sub_cancel_left,List.getElem?_append_left hi,List.getElem?_eq_getElem hi]
 rw [List.getD_eq_getElem?_getD,List.getElem?_map,this]
 rfl
theorem bun_at {ps:List Pt} {k:Nat} (hk:k < ps.length):∃ post,bun ps = (ix ps ++ (ps.take k).flatMap pb) ++ (pb ps[k] ++ post):=by
 refine ⟨(ps.drop (k + 1)).flatMap pb,?_⟩
 unfold Bw.bun
 have e:ps = ps.take k ++ ps[k] :: ps.drop (k + 1):=by
  rw [← List.drop_eq_getElem_cons hk,List.take_append_drop]
 have e2:ps.flatMap pb = (ps.take k).flatMap pb ++ (pb ps[k] ++ (ps.drop (k + 1)).flatMap pb):=by
  conv=>lhs; rw [e]
  rw [List.flatMap_append,List.flatMap_cons]
 rw [e2,List.append_assoc]
theorem bs_1 {n:Nat} (h:n < 128):bs n = [(n:Int)]:=by
 unfold Bw.bs
 rw [show n / 128 = 0 by omega,Bw.hi_0,show n % 128 = n by omega]
 rfl
section
variable {ps:List Pt} (h:Gw' ps) (h0:0 < ps.length)
include h h0
theorem ix_pos:0 < (ix ps).length:=by
 unfold Bw.ix
 rw [bs_1 (by have:=h.len; omega),List.length_append]
 show 0 < 1 + _
 omega
theorem look_1:∃ F,m__law_look [.lst ((bun ps).map .int),.lst [.tup [.int 0,.int 1]]] = some F ∧ m_count_of [F] = some (.int (ps.length:Int)):=by
 have hl:=bun_len h
 have hx:=ix_pos h h0
 have hbl:(ix ps).length ≤ (bun ps).length:=by unfold Bw.bun; rw [List.length_append]; omega
 obtain ⟨ks,ds,e,c⟩:=look_ok ((bun ps).map .int) [(0,1)] (by rw [List.length_map]; omega) (by decide) (fun p hp=>by
  rw [List.mem_singleton.mp hp,List.length_map]
  exact ⟨by decide,by show 1 ≤ _; omega⟩)
 have h128:ps.length < 128:=by have:=h.len; omega
 refine ⟨_,e,count_ok (small (by omega)) ?_⟩
 rw [bs_1 h128]
 refine tel_of (T:=bun ps) (pre:=[]) (post:=(ps.flatMap fun p=>bs (pb p).length) ++ ps.flatMap pb) ?_ rfl fun i _ hi=>c (0,1) List.mem_cons_self i (Nat.zero_le _) (by simpa using hi)
 unfold Bw.bun Bw.ix
 rw [bs_1 h128]
 simp
theorem look_2:∃ F,m__law_look [.lst ((bun ps).map .int),.lst [.tup [.int 0,.int ((ix ps).length:Int)]]] = some F ∧ Tel F 0 (ix ps):=by
 have hl:=bun_len h
 have hbl:(ix ps).length ≤ (bun ps).length:=by unfold Bw.bun; rw [List.length_append]; omega
 obtain ⟨ks,ds,e,c⟩:=look_ok ((bun ps).map .int) [(0,(ix ps).length)] (by rw [List.length_map]; omega) (by show 1 ≤ 3; decide) (fun p hp=>by
  rw [List.mem_singleton.mp hp,List.length_map]
  exact ⟨Nat.zero_le _,hbl⟩)
 exact ⟨_,e,tel_of (T:=bun ps) (pre:=[]) (post:=ps.flatMap pb) rfl rfl fun i _ hi=>c (0,(ix ps).length) List.mem_cons_self i (Nat.zero_le _) (by simpa using hi)⟩
theorem look_3 {k:Nat} (hk:k < ps.length):∃ F,m__law_look [.lst ((bun ps).map .int),.lst [.tup [.int 0,.int ((ix ps).length:Int)],.tup [.int ((bg ps k:Nat):Int),.int ((bg ps (k + 1):Nat):Int)]]] = some F ∧ Tel F 0 (ix ps) ∧ Tel F (bg ps k) (pb ps[k]):=by
 have hl:=bun_len h
 have hbl:(ix ps).length ≤ (bun ps).length:=by unfold Bw.bun; rw [List.length_append]; omega
 obtain ⟨post,ep⟩:=bun_at hk
 have el:(bun ps).length = bg ps k + ((pb ps[k]).length + post.length):=by
  conv=>lhs; rw [ep]
  unfold Bw.bg
  simp only [List.length_append]
 have es:=bg_s (List.getElem?_eq_getElem hk)
 obtain ⟨ks,ds,e,c⟩:=look_ok ((bun ps).map .int) [(0,(ix ps).length),(bg ps k,bg ps (k + 1))] (by rw [List.length_map]; omega) (by show 2 ≤ 3; decide) (fun p hp=>by
  rw [List.length_map]
  rcases List.mem_cons.mp hp with rfl | hp
  ·exact ⟨Nat.zero_le _,hbl⟩
  ·rw [List.mem_singleton.mp hp]
   exact ⟨by show bg ps k ≤ bg ps (k + 1); omega,by show bg ps (k + 1) ≤ _; omega⟩)
 refine ⟨_,e,tel_of (T:=bun ps) (pre:=[]) (post:=ps.flatMap pb) rfl rfl fun i _ hi=>c (0,(ix ps).length) List.mem_cons_self i (Nat.zero_le _) (by simpa using hi),tel_of (T:=bun ps) ep (by unfold Bw.bg; rw [List.length_append]) fun i h1 h2=>c (bg ps k,bg ps (k + 1)) (List.mem_cons_of_mem _ List.mem_cons_self) i h1 (by show i < bg ps (k + 1); omega)⟩
end
theorem refused {F:D} {k:Int} (h:m_part_of [F,.int k] = some (.ex "NoPlace" none)):m__law_refused [F,.int k] = some (.bl true):=by
 refine mkF_rt rfl (seq_to (δ':=[.sh F,.sh (.int k),.sh .non,.un]) rfl (seq_to (δ':=[.sh F,.sh (.int k),.ex "NoPlace" none,.un]) ?_ (seq_to (δ':=[.sh F,.sh (.int k),.ex "NoPlace" none,.un]) ?_ (seq_rt (ret_of ?_)))))
 ·unfold tryD
  rw [zex (c := "NoPlace") (m:=none) (δ':=[.sh F,.sh (.int k),.sh .non,.un]) (by
   unfold callEZ
   show Option.map _ (m_part_of [F,.int k]) = _
   rw [h]
   rfl)]
  rfl
 ·rfl
 ·rfl
theorem al_step (m:Nat) {X:D} {ds:List D} (hX:X = .tup ds ∨ X = .lst ds) (hl:ds.length ≤ 1000) (h:∀ d ∈ ds,Bw.mR__law_alike m [d,d] = some (.bl true)):Bw.mR__law_alike (m + 1) [X,X] = some (.bl true):=by
 have z:(10000000:Nat) ≤ sizeLine:=by decide
 refine mkF_rt rfl (seq_to (δ':=[.sh X,.sh X]) (by rcases hX with rfl | rfl <;> rfl) (seq_to (δ':=[.sh X,.sh X]) (by rcases hX with rfl | rfl <;> rfl) (seq_to (δ':=[.sh X,.sh X]) (by rcases hX with rfl | rfl <;> rfl) (seq_to (δ':=[.sh X,.sh X]) (by rcases hX with rfl | rfl <;> rfl) (seq_rt (ret_of ?_))))))
 have ln:∀ (g:GE) (δ:Ds),g δ = some X → oA (consA g nilA) lenD δ = some (.int (ds.length:Int)):=fun g δ hg=>by rw [oA_of (ds:=[X]) (cons_of hg rfl)]; rcases hX with rfl | rfl <;> rfl
 have ix:∀ k:Nat,(hk:k < ds.length) → ixD X (.int (k:Int)) = some ds[k]:=fun k hk=>by
  have e:atI ds (k:Int) = some ds[k]:=by
   rw [atI_in (by omega) (by omega) .non]
   simp [List.getD_eq_getElem?_getD,hk]
  rcases hX with rfl | rfl <;> exact e
 unfold andG
 rw [Bw.b_of (b:=true) (by
  rw [o2_of (x:=.int (ds.length:Int)) (y:=.int (ds.length:Int)) (ln _ _ rfl) (ln _ _ rfl)]
  show some (D.bl (decide ((ds.length:Int) = (ds.length:Int)))) = _
  rw [decide_eq_true rfl]),Option.bind_some,if_pos rfl]
 rw [oA_of (ds:=[.lst ((List.range ds.length).map fun _=>.bl true)]) (cons_of (comp_of (items:=rngD 0 (ds.length:Int)) (rng1_of (cons_of (ln _ _ rfl) rfl) (by omega) (by omega)) (by rw [rng_len]; omega) (by
  have q:=comp_rng (gt:=noT) (ge:=oA (consA (o2 (gv 1) (gv 0) ixD) (consA (o2 (gv 2) (gv 0) ixD) nilA)) (Bw.mR__law_alike m)) (δ:=[.un,.sh X,.sh X]) (n:=(ds.length:Int)) (fun _=>.bl true) (fun k hk=>⟨[.sh (.int (k:Int)),.sh X,.sh X],rfl,rfl,by
   have hk':k < ds.length:=by omega
   rw [oA_of (ds:=[ds[k],ds[k]]) (cons_of (by rw [o2_of (x:=X) (y:=.int (k:Int)) rfl rfl]; exact ix k hk') (cons_of (by rw [o2_of (x:=X) (y:=.int (k:Int)) rfl rfl]; exact ix k hk') rfl))]
   exact h _ (List.getElem_mem hk')⟩)
  rw [Int.toNat_natCast] at q
  exact q)) rfl)]
 simp only [allD]
 rw [bools_map (fun _=>true)]
 simp
inductive Ok:Nat → D → Prop
 | non:Ok 0 .non
 | int (z:Int):Ok 0 (.int z)
 | str (s:Str):Ok 0 (.str s)
 | up {n:Nat} {d:D}:Ok n d → Ok (n + 1) d
 | tup {n:Nat} {ds:List D} (hl:ds.length ≤ 1000) (h:∀ d ∈ ds,Ok n d):Ok (n + 1) (.tup ds)
theorem al_refl:∀ {n:Nat} {d:D},Ok n d → ∀ m,n ≤ m → Bw.mR__law_alike (m + 1) [d,d] = some (.bl true):=by
 intro n d h
 induction h with
 | non=>intro m _; rfl
 | int z=>intro m _; exact Bw.al_int m z
 | str s =>
  intro m _
  show Bw.mR__law_alike (m + 1) [.str s,.str s] = _
  refine mkF_rt rfl (seq_to (δ':=[.sh (.str s),.sh (.str s)]) rfl (seq_rt ?_))
  rw [if_t rfl]
  refine seq_rt (ret_of ?_)
  show some (D.bl (decide (s = s))) = _
  rw [decide_eq_true rfl]
 | up _ ih=>intro m hm; exact ih m (by omega)
 | @tup n ds hl hd ih =>
  intro m hm
  obtain ⟨m,rfl⟩:∃ m',m = m' + 1:=⟨m - 1,by omega⟩
  exact al_step (m + 1) (.inl rfl) hl fun d hd=>ih d hd m (by omega)
theorem ok_v {v:D} (h:Vb v):Ok 1 v:=by
 cases h with
 | non=>exact .up .non
 | lk j h =>
  refine .tup (by show 2 ≤ 1000; decide) fun d hd=>?_
  rcases List.mem_cons.mp hd with rfl | hd
  ·exact .str _
  ·rw [List.mem_singleton.mp hd]; exact .int _
 | int z h=>exact .up (.int z)
theorem ok_two {n:Nat} {a b:D} (ha:Ok n a) (hb:Ok n b):Ok (n + 1) (.tup [a,b]):=.tup (by show 2 ≤ 1000; decide) fun d hd=>by
 rcases List.mem_cons.mp hd with rfl | hd
 ·exact ha
 ·rw [List.mem_singleton.mp hd]; exact hb
theorem ok_prs {ps:List (Str × D)} (hl:ps.length ≤ 20) (hv:∀ v ∈ ps.map (·.2),Vb v):Ok 3 (.tup (ps.map pr)):=.tup (by rw [List.length_map]; omega) fun d hd=>by
 obtain ⟨p,hp,rfl⟩:=List.mem_map.mp hd
 exact ok_two (.up (.str _)) (ok_v (hv _ (List.mem_map.mpr ⟨p,hp,rfl⟩)))
theorem ok_p {p:Pt} (h:Gq p):Ok 4 p.d:=by
 have hc:=h.few
 have s4:∀ s:Str,Ok 3 (.str s):=fun s=>.up (.up (.up (.str s)))
 cases p with
 | text w=>exact ok_two (s4 _) (s4 _)
 | row vs=>exact ok_two (s4 _) (.up (.tup (by have:vs.length ≤ 12:=hc; omega) fun v hv=>ok_v (h.vals v hv)))
 | table ps=>exact ok_two (s4 _) (ok_prs (by have:(ps.map (·.2)).length ≤ 12:=hc; rw [List.length_map] at this; omega) h.vals)
 | rcd c ps =>
  refine .tup (by show 3 ≤ 1000; decide) fun d hd=>?_
  rcases List.mem_cons.mp hd with rfl | hd
  ·exact s4 _
  ·rcases List.mem_cons.mp hd with rfl | hd
   ·exact s4 _
   ·rw [List.mem_singleton.mp hd]
    exact ok_prs (by have:(ps.map (·.2)).length ≤ 12:=hc; rw [List.length_map] at this; omega) h.vals
end Ia
namespace Ia
open PySem DL W
open Bw (bg sts sts_s sts_len bg_end bs pb pb_len ix bun ix_len bun_len Gw' Gq Gs Vb small b_of web)
theorem mix_ok (c k:Int) (h0:0 ≤ k) (h1:k ≤ 1000000):∃ x,0 ≤ x ∧ x < 2147483647 ∧ m__law_mix [.int c,.int k] = some (.int x):=Bw.mix_ok c k h0 h1
theorem cell_b (ns:List Int) (hb:∀ z ∈ ns,z.natAbs.log2 ≤ 1048576) (k:Int) (h0:0 ≤ k) (h1:k ≤ 1000):∃ z,m__law_cell_at [.lst (ns.map .int),.int k] = some (.int z) ∧ z.natAbs.log2 ≤ 1048576:=Bw.cell_b ns hb k h0 h1
theorem lo_e {ps:List Pt} (h:Gw' ps):m__law_laid_out [web ps] = some (.tup [.lst ((bun ps).map .int),.int ((ix ps).length:Int),.lst (sts ps (ps.length + 1))]):=Bw.lo_ex h
theorem pow59:powD (.int 10) (.int 59) = some (.int (10 ^ 59)):=by kernel_rfl
noncomputable def LB1:GS:=(seqD (setD (gN 7) (o2 (oA (consA (oA (consA (gv 0) (consA (gc (.int 62)) nilA)) m__law_cell_at) (consA (o2 (gc (.int 90)) (gv 6) addA) nilA)) m__law_mix) (oA (consA (gv 2) nilA) lenD) modD))
 (seqD (setD (gN 8) (oA (consA (gv 3) (consA (lstG (consA (tupG (consA (gc (.int 0)) (consA (gv 4) nilA))) (consA (tupG (consA (o2 (gv 5) (gv 7) ixD) (consA (o2 (gv 5) (o2 (gv 7) (gc (.int 1)) addA) ixD) nilA))) nilA))) nilA)) m__law_look))
 (seqD (ifD (tNotG (ob (oA (consA (oA (consA (gv 8) (consA (gv 7) nilA)) (okPart m_part_of)) (consA (o2 (gv 2) (gv 7) ixD) nilA)) m__law_alike)))
 (seqD (retD (gc (.bl false)))
 nilD)
 nilD)
 nilD)))
noncomputable def LB2:GS:=(seqD (ifD (tNotG (ob (oA (consA (oA (consA (gv 3) (consA (lstG (consA (tupG (consA (gc (.int 0)) (consA (gv 4) nilA))) nilA)) nilA)) m__law_look) (consA (gv 10) nilA)) m__law_refused)))
 (seqD (retD (gc (.bl false)))
 nilD)
 nilD)
 nilD)
theorem sts_at (ps:List Pt) (n k:Nat) (hk:k < n):ixD (.lst (sts ps n)) (.int (k:Int)) = some (.int ((bg ps k:Nat):Int)):=by
 show atI (sts ps n) (k:Int) = _
 unfold Bw.sts
 rw [atI_in (by omega) (by rw [List.length_map,List.length_range]; omega) .non]
 simp [List.getD_eq_getElem?_getD,hk]
theorem web_at (ps:List Pt) (k:Nat) (hk:k < ps.length):ixD (web ps) (.int (k:Int)) = some ps[k].d:=by
 show atI (ps.map Pt.d) (k:Int) = _
 rw [atI_in (by omega) (by rw [List.length_map]; omega) .non]
 simp [List.getD_eq_getElem?_getD,hk]
theorem web_len (ps:List Pt) (δ:Ds) (h:δ[2]? = some (.sh (web ps))):oA (consA (gv 2) nilA) lenD δ = some (.int (ps.length:Int)):=by
 rw [oA_of (ds:=[web ps]) (cons_of (by unfold gv; rw [h]) rfl)]
 show some (D.int (((ps.map Pt.d).length:Nat):Int)) = _
 rw [List.length_map]
theorem law_true (ns:List Int) (hl:ns.length ≤ 63) (hb:∀ z ∈ ns,z.natAbs.log2 ≤ 1048576):m_law [.lst (ns.map .int)] = some (.bl true):=by
 have z:(10000000:Nat) ≤ sizeLine:=by decide
 obtain ⟨c0,e0,_⟩:=cell_b ns hb 0 (by decide) (by decide)
 obtain ⟨c61,e61,_⟩:=cell_b ns hb 61 (by decide) (by decide)
 obtain ⟨c62,e62,_⟩:=cell_b ns hb 62 (by decide) (by decide)
 obtain ⟨most,hm,hme⟩:∃ most:Int,(0 < most ∧ most ≤ 60) ∧ ∀ δ:Ds,ifD (ob (o2 (o2 (oA (consA (gv 0) (consA (gc (.int 0)) nilA)) m__law_cell_at) (gc (.int 4)) modD) (gc (.int 1)) eqD)) (seqD (setD (gN 1) (gc (.int 60))) nilD) nilD (.sh (.lst (ns.map .int)) :: .sh (.int 12) :: δ) = some (.nx (.sh (.lst (ns.map .int)) :: .sh (.int most) :: δ)):=by
  have t:∀ δ:Ds,ob (o2 (o2 (oA (consA (gv 0) (consA (gc (.int 0)) nilA)) m__law_cell_at) (gc (.int 4)) modD) (gc (.int 1)) eqD) (.sh (.lst (ns.map .int)) :: .sh (.int 12) :: δ) = some (decide (c0 % 4 = 1)):=fun δ=>b_of (by
   rw [o2_of (x:=.int (c0 % 4)) (y:=.int 1) (by
    rw [o2_of (x:=.int c0) (y:=.int 4) (by rw [oA_of (ds:=[.lst (ns.map .int),.int 0]) rfl]; exact e0) rfl]
    rfl) rfl]
   rfl)
  by_cases h:c0 % 4 = 1
  ·exact ⟨60,by decide,fun δ=>by rw [if_t (by rw [t,decide_eq_true h])]; rfl⟩
  ·exact ⟨12,by decide,fun δ=>by rw [if_f (by rw [t,decide_eq_false h])]; rfl⟩
 obtain ⟨ps,hp,hg,hpos,_,hsg⟩:=Bw.built_ok ns hb 1 (by decide) most hm
 have hlo:=lo_e hg
 have h60:=hg.len
 obtain ⟨F1,f1,g1⟩:=look_1 hg hpos
 obtain ⟨F2,f2,g2⟩:=look_2 hg hpos
 have W0:∀ s6 s7 s8 s9 s10:Sl,∃ δ,δ = [Sl.sh (.lst (ns.map .int)),.sh (.int most),.sh (web ps),.sh (.lst ((bun ps).map .int)),.sh (.int ((ix ps).length:Int)),.sh (.lst (sts ps (ps.length + 1))),s6,s7,s8,s9,s10]:=fun _ _ _ _ _=>⟨_,rfl⟩
 have al_n:m__law_alike [.int (ps.length:Int),.int (ps.length:Int)] = some (.bl true):=Bw.al_int 7 _
 obtain ⟨δ1,l1,s6,s7,s8,rfl⟩:=forD_inv (f:=gN 6) (G:=LB1) (fun j δ=>∃ s6 s7 s8:Sl,δ = [.sh (.lst (ns.map .int)),.sh (.int most),.sh (web ps),.sh (.lst ((bun ps).map .int)),.sh (.int ((ix ps).length:Int)),.sh (.lst (sts ps (ps.length + 1))),s6,s7,s8,.un,.un]) (rngD 0 3) 0 [.sh (.lst (ns.map .int)),.sh (.int most),.sh (web ps),.sh (.lst ((bun ps).map .int)),.sh (.int ((ix ps).length:Int)),.sh (.lst (sts ps (ps.length + 1))),.un,.un,.un,.un,.un] (by
  rintro j d δ hj ⟨s6,s7,s8,rfl⟩
  obtain ⟨hj3,rfl⟩:=rng_get hj
  have hj3:j < 3:=hj3
  obtain ⟨x,x0,x1,x2⟩:=mix_ok c62 (90 + (j:Int)) (by omega) (by omega)
  have j0:0 ≤ x % (ps.length:Int):=Int.emod_nonneg _ (by omega)
  have j1:x % (ps.length:Int) < (ps.length:Int):=Int.emod_lt_of_pos _ (by omega)
  obtain ⟨k,hk⟩:∃ k:Nat,(k:Int) = x % (ps.length:Int):=⟨(x % (ps.length:Int)).toNat,by omega⟩
  have hkl:k < ps.length:=by omega
  obtain ⟨F3,f3,g3,g4⟩:=look_3 hg hpos hkl
  have hpo:=part_of_ok hg g3 k hkl (hsg _ (List.getElem_mem hkl)) g4
  refine ⟨[.sh (.lst (ns.map .int)),.sh (.int most),.sh (web ps),.sh (.lst ((bun ps).map .int)),.sh (.int ((ix ps).length:Int)),.sh (.lst (sts ps (ps.length + 1))),.sh (.int (j:Int)),s7,s8,.un,.un],_,rfl,seq_to (set_of (d:=.int (k:Int)) ?_) (seq_to (set_of (d:=F3) ?_) (seq_to (δ':=[.sh (.lst (ns.map .int)),.sh (.int most),.sh (web ps),.sh (.lst ((bun ps).map .int)),.sh (.int ((ix ps).length:Int)),.sh (.lst (sts ps (ps.length + 1))),.sh (.int (j:Int)),.sh (.int (k:Int)),.sh F3,.un,.un]) ?_ rfl)),_,_,_,rfl⟩
  ·rw [o2_of (x:=.int x) (y:=.int (ps.length:Int)) (by
    rw [oA_of (ds:=[.int c62,.int (90 + (j:Int))]) (cons_of (by rw [oA_of (ds:=[.lst (ns.map .int),.int 62]) rfl]; exact e62) rfl)]
    exact x2) (web_len ps _ rfl),Gw.mod_p _ _ (by omega),hk]
  ·change oA _ _ [.sh (.lst (ns.map .int)),.sh (.int most),.sh (web ps),.sh (.lst ((bun ps).map .int)),.sh (.int ((ix ps).length:Int)),.sh (.lst (sts ps (ps.length + 1))),.sh (.int (j:Int)),.sh (.int (k:Int)),s8,.un,.un] = _
   have t2:tupG (consA (o2 (gv 5) (gv 7) ixD) (consA (o2 (gv 5) (o2 (gv 7) (gc (.int 1)) addA) ixD) nilA)) [.sh (.lst (ns.map .int)),.sh (.int most),.sh (web ps),.sh (.lst ((bun ps).map .int)),.sh (.int ((ix ps).length:Int)),.sh (.lst (sts ps (ps.length + 1))),.sh (.int (j:Int)),.sh (.int (k:Int)),s8,.un,.un] = some (.tup [.int ((bg ps k:Nat):Int),.int ((bg ps (k + 1):Nat):Int)]):=by
    refine tup_of (cons_of ?_ (cons_of ?_ rfl)) (by show 2 ≤ sizeLine; omega)
    ·rw [o2_of (x:=.lst (sts ps (ps.length + 1))) (y:=.int (k:Int)) rfl rfl]
     exact sts_at ps _ k (by omega)
    ·rw [o2_of (x:=.lst (sts ps (ps.length + 1))) (y:=.int ((k + 1:Nat):Int)) rfl rfl]
     exact sts_at ps _ (k + 1) (by omega)
   refine (oA_of (cons_of rfl (cons_of (lst_of (cons_of (tup_of (cons_of rfl (cons_of rfl rfl)) (by show 2 ≤ sizeLine; omega)) (cons_of t2 rfl)) (by show 2 ≤ sizeLine; omega)) rfl))).trans ?_
   exact f3
  ·change ifD _ _ _ [.sh (.lst (ns.map .int)),.sh (.int most),.sh (web ps),.sh (.lst ((bun ps).map .int)),.sh (.int ((ix ps).length:Int)),.sh (.lst (sts ps (ps.length + 1))),.sh (.int (j:Int)),.sh (.int (k:Int)),.sh F3,.un,.un] = _
   rw [if_f (by
    unfold tNotG
    rw [b_of (b:=true) (by
     rw [oA_of (ds:=[ps[k].d,ps[k].d]) (cons_of (by rw [oA_of (ds:=[F3,.int (k:Int)]) rfl]; exact okPart_of hpo) (cons_of (by rw [o2_of (x:=web ps) (y:=.int (k:Int)) rfl rfl]; exact web_at ps k hkl) rfl))]
     exact al_refl (ok_p (hg.it _ (List.getElem_mem hkl))) 7 (by decide))]
    rfl)]
   rfl) ⟨.un,.un,.un,rfl⟩
 obtain ⟨far,hfar⟩:∃ far:Int,far = c61 % (10 ^ 59):=⟨_,rfl⟩
 have far0:0 ≤ far:=by rw [hfar]; exact Int.emod_nonneg _ (by decide)
 obtain ⟨odds,hodds⟩:∃ odds:List Int,odds = [-1,(ps.length:Int),(ps.length:Int) + far,-1 - far]:=⟨_,rfl⟩
 obtain ⟨δ2,l2,s10,rfl⟩:=forD_inv (f:=gN 10) (G:=LB2) (fun j δ=>∃ s10:Sl,δ = [.sh (.lst (ns.map .int)),.sh (.int most),.sh (web ps),.sh (.lst ((bun ps).map .int)),.sh (.int ((ix ps).length:Int)),.sh (.lst (sts ps (ps.length + 1))),s6,s7,s8,.sh (.int far),s10]) (odds.map .int) 0 [.sh (.lst (ns.map .int)),.sh (.int most),.sh (web ps),.sh (.lst ((bun ps).map .int)),.sh (.int ((ix ps).length:Int)),.sh (.lst (sts ps (ps.length + 1))),s6,s7,s8,.sh (.int far),.un] (by
  rintro j d δ hj ⟨s10,rfl⟩
  rw [List.getElem?_map] at hj
  obtain ⟨k,hk,rfl⟩:=Option.map_eq_some_iff.mp hj
  have hk:k < 0 ∨ (ps.length:Int) ≤ k:=by
   have:=List.mem_of_getElem? hk
   rw [hodds] at this
   simp only [List.mem_cons,List.not_mem_nil,or_false] at this
   omega
  have hr:=refused (part_no hg g2 k hk)
  refine ⟨[.sh (.lst (ns.map .int)),.sh (.int most),.sh (web ps),.sh (.lst ((bun ps).map .int)),.sh (.int ((ix ps).length:Int)),.sh (.lst (sts ps (ps.length + 1))),s6,s7,s8,.sh (.int far),.sh (.int k)],_,rfl,seq_to (δ':=[.sh (.lst (ns.map .int)),.sh (.int most),.sh (web ps),.sh (.lst ((bun ps).map .int)),.sh (.int ((ix ps).length:Int)),.sh (.lst (sts ps (ps.length + 1))),s6,s7,s8,.sh (.int far),.sh (.int k)]) ?_ rfl,_,rfl⟩
  rw [if_f (by
   unfold tNotG
   rw [b_of (b:=true) (by
    rw [oA_of (ds:=[F2,.int k]) (cons_of (by
     refine (oA_of (cons_of rfl (cons_of (lst_of (cons_of (tup_of (cons_of rfl (cons_of rfl rfl)) (by show 2 ≤ sizeLine; omega)) rfl) (by show 1 ≤ sizeLine; omega)) rfl))).trans ?_
     exact f2) rfl)]
    exact hr)]
   rfl)]
  rfl) ⟨.un,rfl⟩
 refine mkF_rt rfl (seq_to (set_of (d:=.int 12) rfl) (seq_to (hme _) (seq_to (set_of (d:=web ps) ?_) (seq_to (δ':=[.sh (.lst (ns.map .int)),.sh (.int most),.sh (web ps),.sh (.lst ((bun ps).map .int)),.sh (.int ((ix ps).length:Int)),.sh (.lst (sts ps (ps.length + 1))),.un,.un,.un,.un,.un]) ?_ (seq_to (δ':=[.sh (.lst (ns.map .int)),.sh (.int most),.sh (web ps),.sh (.lst ((bun ps).map .int)),.sh (.int ((ix ps).length:Int)),.sh (.lst (sts ps (ps.length + 1))),.un,.un,.un,.un,.un]) ?_ (seq_to (for_of (items:=rngD 0 3) rfl l1) (seq_to (set_of (d:=.int far) ?_) (seq_to (for_of (items:=odds.map .int) ?_ l2) (seq_rt (ret_of rfl))))))))))
 ·rw [oA_of (ds:=[.lst (ns.map .int),.int 1,.int most]) rfl]
  exact hp
 ·unfold asgX pureX
  rw [oA_of (ds:=[web ps]) rfl,hlo]
  rfl
 ·rw [if_f (by
   unfold tNotG
   rw [b_of (b:=true) (by
    rw [oA_of (ds:=[.int (ps.length:Int),.int (ps.length:Int)]) (cons_of (by
     rw [oA_of (ds:=[F1]) (cons_of (by
      refine (oA_of (cons_of rfl (cons_of (lst_of (cons_of (tup_of (cons_of rfl (cons_of rfl rfl)) (by show 2 ≤ sizeLine; omega)) rfl) (by show 1 ≤ sizeLine; omega)) rfl))).trans ?_
      exact f1) rfl)]
     exact g1) (cons_of (web_len ps _ rfl) rfl))]
    exact al_n)]
   rfl)]
  rfl
 ·rw [o2_of (x:=.int c61) (y:=.int (10 ^ 59)) (by rw [oA_of (ds:=[.lst (ns.map .int),.int 61]) rfl]; exact e61) (by rw [o2_of (x:=.int 10) (y:=.int 59) rfl rfl]; exact pow59),Gw.mod_p _ _ (by decide),hfar]
 ·have e:lstG (consA (unG negD (gc (.int 1))) (consA (oA (consA (gv 2) nilA) lenD) (consA (o2 (oA (consA (gv 2) nilA) lenD) (gv 9) addA) (consA (o2 (unG negD (gc (.int 1))) (gv 9) subD) nilA)))) [.sh (.lst (ns.map .int)),.sh (.int most),.sh (web ps),.sh (.lst ((bun ps).map .int)),.sh (.int ((ix ps).length:Int)),.sh (.lst (sts ps (ps.length + 1))),s6,s7,s8,.sh (.int far),.un] = some (.lst (odds.map .int)):=by
   have w:=web_len ps [.sh (.lst (ns.map .int)),.sh (.int most),.sh (web ps),.sh (.lst ((bun ps).map .int)),.sh (.int ((ix ps).length:Int)),.sh (.lst (sts ps (ps.length + 1))),s6,s7,s8,.sh (.int far),.un] rfl
   rw [hodds]
   exact lst_of (cons_of (d:=.int (-1)) rfl (cons_of w (cons_of (by rw [o2_of (x:=.int (ps.length:Int)) (y:=.int far) w rfl]; rfl) (cons_of rfl rfl)))) (by show 4 ≤ sizeLine; omega)
  show Option.bind (lstG _ [.sh (.lst (ns.map .int)),.sh (.int most),.sh (web ps),.sh (.lst ((bun ps).map .int)),.sh (.int ((ix ps).length:Int)),.sh (.lst (sts ps (ps.length + 1))),s6,s7,s8,.sh (.int far),.un]) _ = _
  rw [e]
  rfl
end Ia
namespace Ia
open PySem L2 DL W
noncomputable def top (i:Nat):Stmt:=PySem.Challenge.pw_graphpack_k36_parts_read_alone.main.body.getD i (.Pass ⟨0,0,0,0⟩)
theorem b_ValueError:bootBuiltins "ValueError" = some (.type "ValueError"):=by decide +kernel
theorem b_all:bootBuiltins "all" = some (.builtin "all"):=by decide +kernel
theorem b_bool:bootBuiltins "bool" = some (.type "bool"):=by decide +kernel
theorem b_int:bootBuiltins "int" = some (.type "int"):=by decide +kernel
theorem b_list:bootBuiltins "list" = some (.type "list"):=by decide +kernel
theorem b_ord:bootBuiltins "ord" = some (.builtin "ord"):=by decide +kernel
theorem b_str:bootBuiltins "str" = some (.type "str"):=by decide +kernel
theorem b_tuple:bootBuiltins "tuple" = some (.type "tuple"):=by decide +kernel
theorem b_zip:bootBuiltins "zip" = some (.type "zip"):=by decide +kernel
structure Txt (mg:Str → Option Value):Prop where
 b_ValueError:mg "ValueError" = none
 b_all:mg "all" = none
 b_bool:mg "bool" = none
 b_int:mg "int" = none
 b_isinstance:mg "isinstance" = none
 b_len:mg "len" = none
 b_list:mg "list" = none
 b_ord:mg "ord" = none
 b_range:mg "range" = none
 b_str:mg "str" = none
 b_tuple:mg "tuple" = none
 b_zip:mg "zip" = none
 c_BASE:∃ t,mg "BASE" = some (.int 128 t)
 c_NAME_SIGNS:∃ t,mg "NAME_SIGNS" = some (.str "0123456789abcdefghijklmnopqrstuvwxyz" t)
 c_WORD_SIGNS:∃ t,mg "WORD_SIGNS" = some (.str " 0123456789abcdefghijklmnopqrstuvwxyz" t)
section
variable {P:Program} {w:World} {K:W.Frag} {mg:Str → Option Value} {base:Heap}
theorem sc_unfolded:FnScope ["number"] ["number"] (defScope (top 14)):=⟨rfl,rfl,rfl,by decide +kernel,rfl,by decide +kernel,by decide +kernel⟩
set_option maxHeartbeats 0 in
theorem ok_unfolded {fa:Addr} {fd:FuncData} (F:Fun K "unfolded" "unfolded" (top 14) fa fd) (T:Txt mg)  : FnOk P w K mg base CX0 1 fa fd ["number"] (spD K m_unfolded) :=
 okD (k:=0) (G:=G_unfolded) F sc_unfolded (fun cdv A outer s H E hr=>(pssd_cons (psd_if (ptd_cmp op_eq op2_eq (pd_mod (pd_var 0) pd_int) pd_int)
   (pssd_cons (psd_ret (pd_sub (pd_neg (pd_fdiv (pd_var 0) pd_int)) pd_int))
   pssd_nil)
   pssd_nil)
   (pssd_cons (psd_ret (pd_fdiv (pd_var 0) pd_int))
   pssd_nil))) (fun ds d h=>mkF_ok h)
theorem sc_sign_of:FnScope ["byte", "signs", "sign"] ["byte", "signs"] (defScope (top 19)):=⟨rfl,rfl,rfl,by decide +kernel,rfl,by decide +kernel,by decide +kernel⟩
set_option maxHeartbeats 0 in
theorem ok_sign_of {fa:Addr} {fd:FuncData} (F:Fun K "sign_of" "sign_of" (top 19) fa fd) (T:Txt mg)  : FnOk P w K mg base CX0 1 fa fd ["byte", "signs"] (spD K m_sign_of) :=
 okD (k:=0) (G:=G_sign_of) F sc_sign_of (fun cdv A outer s H E hr=>(pssd_cons (psd_for PassesOwn.never rfl (pid_str (pd_var 1)) (pgd_name 2 sc_sign_of.nd)
   (pssd_cons (psd_if (ptd_cmp op_eq op2_eq (pd_callB call_ord fn_ord T.b_ord b_ord (pda_cons (pd_var 2) pda_nil)) (pd_var 0))
   (pssd_cons (psd_ret (pd_var 2))
   pssd_nil)
   pssd_nil)
   pssd_nil))
   (pssd_cons (psd_ret pd_non)
   pssd_nil))) (fun ds d h=>mkF_ok h)
theorem sc_wanted_items:FnScope ["kind", "size"] ["kind", "size"] (defScope (top 20)):=⟨rfl,rfl,rfl,by decide +kernel,rfl,by decide +kernel,by decide +kernel⟩
set_option maxHeartbeats 0 in
theorem ok_wanted_items {fa:Addr} {fd:FuncData} (F:Fun K "wanted_items" "wanted_items" (top 20) fa fd) (T:Txt mg)  : FnOk P w K mg base CX0 1 fa fd ["kind", "size"] (spD K m_wanted_items) :=
 okD (k:=0) (G:=G_wanted_items) F sc_wanted_items (fun cdv A outer s H E hr=>(pssd_cons (psd_if (ptd_cmp op_eq op2_eq (pd_var 0) pd_str)
   (pssd_cons (psd_ret (pd_mulL (pd_lst (pda_cons pd_str pda_nil)) (pd_var 1)))
   pssd_nil)
   pssd_nil)
   (pssd_cons (psd_if (ptd_cmp op_eq op2_eq (pd_var 0) pd_str)
   (pssd_cons (psd_ret (pd_mulL (pd_lst (pda_cons pd_str pda_nil)) (pd_var 1)))
   pssd_nil)
   pssd_nil)
   (pssd_cons (psd_if (ptd_cmp op_eq op2_eq (pd_var 0) pd_str)
   (pssd_cons (psd_ret (pd_mulL (pd_lst (pda_cons pd_str (pda_cons pd_str pda_nil))) (pd_var 1)))
   pssd_nil)
   pssd_nil)
   (pssd_cons (psd_ret (pd_addA (pd_lst (pda_cons pd_str pda_nil)) (pd_mulL (pd_lst (pda_cons pd_str (pda_cons pd_str pda_nil))) (pd_var 1))))
   pssd_nil))))) (fun ds d h=>mkF_ok h)
theorem sc_made_part:FnScope ["kind", "held"] ["kind", "held"] (defScope (top 21)):=⟨rfl,rfl,rfl,by decide +kernel,rfl,by decide +kernel,by decide +kernel⟩
set_option maxHeartbeats 0 in
theorem ok_made_part {fa:Addr} {fd:FuncData} (F:Fun K "made_part" "made_part" (top 21) fa fd) (T:Txt mg) (C_made_pairs:FnD P w K mg base "made_pairs" 1 ["held"] m_made_pairs):FnOk P w K mg base CX0 2 fa fd ["kind", "held"] (spD K m_made_part) :=
 okD (k:=1) (G:=G_made_part) F sc_made_part (fun cdv A outer s H E hr=>(pssd_cons (psd_if (ptd_cmp op_eq op2_eq (pd_var 0) pd_str)
   (pssd_cons (psd_ret (pd_tup (pda_cons pd_str (pda_cons (pd_join pd_str (pda_cons (pd_var 1) pda_nil)) pda_nil))))
   pssd_nil)
   pssd_nil)
   (pssd_cons (psd_if (ptd_cmp op_eq op2_eq (pd_var 0) pd_str)
   (pssd_cons (psd_ret (pd_tup (pda_cons pd_str (pda_cons (pd_callTy call_tuple_of fn_tup T.b_tuple b_tuple (pda_cons (pd_var 1) pda_nil)) pda_nil))))
   pssd_nil)
   pssd_nil)
   (pssd_cons (psd_if (ptd_cmp op_eq op2_eq (pd_var 0) pd_str)
   (pssd_cons (psd_ret (pd_tup (pda_cons pd_str (pda_cons (pd_fn C_made_pairs hr (by decide) (pda_cons (pd_var 1) pda_nil)) pda_nil))))
   pssd_nil)
   pssd_nil)
   (pssd_cons (psd_ret (pd_tup (pda_cons pd_str (pda_cons (pd_ix' (pd_var 1) pd_int) (pda_cons (pd_fn C_made_pairs hr (by decide) (pda_cons (pd_sliceA (pd_var 1) (pdo_some pd_int) pdo_none) pda_nil)) pda_nil)))))
   pssd_nil))))) (fun ds d h=>mkF_ok h)
theorem sc_made_pairs:FnScope ["held"] ["held"] (defScope (top 22)):=⟨rfl,rfl,rfl,by decide +kernel,rfl,by decide +kernel,by decide +kernel⟩
set_option maxHeartbeats 0 in
theorem ok_made_pairs {fa:Addr} {fd:FuncData} (F:Fun K "made_pairs" "made_pairs" (top 22) fa fd) (T:Txt mg)  : FnOk P w K mg base CX0 1 fa fd ["held"] (spD K m_made_pairs) :=
 okD (k:=0) (G:=G_made_pairs) F sc_made_pairs (fun cdv A outer s H E hr=>(pssd_cons (psd_ret (pd_nestTT call_tuple_zip fn_tupZip T.b_tuple T.b_zip b_tuple b_zip (pda_cons (pd_step (pd_var 0) (pdo_some pd_int) pdo_none (pdo_some pd_int)) (pda_cons (pd_step (pd_var 0) (pdo_some pd_int) pdo_none (pdo_some pd_int)) pda_nil))))
   pssd_nil)) (fun ds d h=>mkF_ok h)
theorem sc_numbered_value:FnScope ["number"] ["number"] (defScope (top 24)):=⟨rfl,rfl,rfl,by decide +kernel,rfl,by decide +kernel,by decide +kernel⟩
set_option maxHeartbeats 0 in
theorem ok_numbered_value {fa:Addr} {fd:FuncData} (F:Fun K "numbered_value" "numbered_value" (top 24) fa fd) (T:Txt mg) (C_unfolded:FnD P w K mg base "unfolded" 1 ["number"] m_unfolded):FnOk P w K mg base CX0 2 fa fd ["number"] (spD K m_numbered_value) :=
 okD (k:=1) (G:=G_numbered_value) F sc_numbered_value (fun cdv A outer s H E hr=>(pssd_cons (psd_if (ptd_cmp op_eq op2_eq (pd_var 0) pd_int)
   (pssd_cons (psd_ret pd_non)
   pssd_nil)
   pssd_nil)
   (pssd_cons (psd_if (ptd_cmp op_eq op2_eq (pd_mod (pd_var 0) pd_int) pd_int)
   (pssd_cons (psd_ret (pd_tup (pda_cons pd_str (pda_cons (pd_sub (pd_fdiv (pd_var 0) pd_int) pd_int) pda_nil))))
   pssd_nil)
   pssd_nil)
   (pssd_cons (psd_ret (pd_fn C_unfolded hr (by decide) (pda_cons (pd_fdiv (pd_var 0) pd_int) pda_nil)))
   pssd_nil)))) (fun ds d h=>mkF_ok h)
theorem sc_count_of:FnScope ["look"] ["look"] (defScope (top 25)):=⟨rfl,rfl,rfl,by decide +kernel,rfl,by decide +kernel,by decide +kernel⟩
set_option maxHeartbeats 0 in
theorem ok_count_of {fa:Addr} {fd:FuncData} (F:Fun K "count_of" "count_of" (top 25) fa fd) (T:Txt mg) (C_number_at:FnD P w K mg base "number_at" 1 ["look", "place"] m_number_at):FnOk P w K mg base CX0 2 fa fd ["look"] (spD K m_count_of) :=
 okD (k:=1) (G:=G_count_of) F sc_count_of (fun cdv A outer s H E hr=>(pssd_cons (psd_ret (pd_ix' (pd_fn C_number_at hr (by decide) (pda_cons (pd_var 0) (pda_cons pd_int pda_nil))) pd_int))
   pssd_nil)) (fun ds d h=>mkF_ok h)
theorem sc_part_of:FnScope ["look", "k"] ["look", "k"] (defScope (top 26)):=⟨rfl,rfl,rfl,by decide +kernel,rfl,by decide +kernel,by decide +kernel⟩
set_option maxHeartbeats 0 in
theorem ok_part_of {fa:Addr} {fd:FuncData} (F:Fun K "part_of" "part_of" (top 26) fa fd) (T:Txt mg) (C_part_at:FnD P w K mg base "part_at" 4 ["look", "start"] m_part_at) (X_part_starts:FnX P w K mg base "part_starts" 2 ["look", "k"] m_part_starts):FnOk P w K mg base (CXE P w) 5 fa fd ["look", "k"] (spX K m_part_of) :=
 okX (k:=4) (G:=G_part_of) F sc_part_of (fun cdv A outer s H E hr=>(pssx_cons (psx_retI X_part_starts C_part_at hr (by decide) (by decide) (pd_var 0) (pda_cons (pd_var 0) (pda_cons (pd_var 1) pda_nil)) (pd_var 1))
   pssx_nil))
theorem sc_number_at:FnScope ["look", "place", "number", "byte"] ["look", "place"] (defScope (top 27)):=⟨rfl,rfl,rfl,by decide +kernel,rfl,by decide +kernel,by decide +kernel⟩
set_option maxHeartbeats 0 in
theorem ok_number_at {fa:Addr} {fd:FuncData} (F:Fun K "number_at" "number_at" (top 27) fa fd) (T:Txt mg)  : FnOk P w K mg base CX0 1 fa fd ["look", "place"] (spD K m_number_at) :=
 okD (k:=0) (G:=G_number_at) F sc_number_at (fun cdv A outer s H E hr=>(pssd_cons (psd_asg pd_int (pgd_name 2 sc_number_at.nd))
   (pssd_cons (psd_asg (pd_callL hr (pd_var 0) (pd_var 1)) (pgd_name 3 sc_number_at.nd))
   (pssd_cons (psd_while 100000 PassesOwn.never (ptd_cmp op_ge op2_ge (pd_var 3) (pd_gint T.c_BASE))
   (pssd_cons (psd_asg (pd_sub (pd_addA (pd_mulA (pd_var 2) (pd_gint T.c_BASE)) (pd_var 3)) (pd_gint T.c_BASE)) (pgd_name 2 sc_number_at.nd))
   (pssd_cons (psd_aug 1 sc_number_at.nd pd_int)
   (pssd_cons (psd_asg (pd_callL hr (pd_var 0) (pd_var 1)) (pgd_name 3 sc_number_at.nd))
   pssd_nil))))
   (pssd_cons (psd_ret (pd_tup (pda_cons (pd_addA (pd_mulA (pd_var 2) (pd_gint T.c_BASE)) (pd_var 3)) (pda_cons (pd_addA (pd_var 1) pd_int) pda_nil))))
   pssd_nil))))) (fun ds d h=>mkF_ok h)
theorem sc_part_starts:FnScope ["look", "k", "count", "place", "sizes", "size", "starts"] ["look", "k"] (defScope (top 28)):=⟨rfl,rfl,rfl,by decide +kernel,rfl,by decide +kernel,by decide +kernel⟩
set_option maxHeartbeats 0 in
theorem ok_part_starts {fa:Addr} {fd:FuncData} (F:Fun K "part_starts" "part_starts" (top 28) fa fd) (T:Txt mg) {rr:Addr} (XT:XC.Tab K mg "WebError" rr ["NoText", "NoPlace", "NoValue", "TooMany", "NoMake", "NoBase", "NoRow", "NoName", "NoWay", "NoPack"] ["NoText", "NoPlace", "NoValue", "TooMany", "NoMake", "NoBase", "NoRow", "NoName"]) (C_number_at:FnD P w K mg base "number_at" 1 ["look", "place"] m_number_at):FnOk P w K mg base (CXE P w) 2 fa fd ["look", "k"] (spX K m_part_starts) :=
 okX (k:=1) (G:=G_part_starts) F sc_part_starts (fun cdv A outer s H E hr=>(pssx_cons (psx_of (psd_asg (pd_fn C_number_at hr (by decide) (pda_cons (pd_var 0) (pda_cons pd_int pda_nil))) (pgd_name 2 sc_part_starts.nd)))
   (pssx_cons (psx_if (PWD.pt (pwd_or (ptd_cmp op_lt op2_lt (pd_var 1) pd_int) (pwd_or1 (ptd_cmp op_ge op2_ge (pd_var 1) (pd_ix' (pd_var 2) pd_int)))))
   (pssx_cons (psx_raise XT (by decide) (by decide))
   pssx_nil)
   pssx_nil)
   (pssx_cons (psx_of (psd_asg (pd_ix' (pd_var 2) pd_int) (pgd_name 3 sc_part_starts.nd)))
   (pssx_cons (psx_of (psd_own 4 (pdf_lst pda_nil) sc_part_starts.nd))
   (pssx_cons (psx_of (psd_while 100000 PassesOwn.leaving (ptd_cmp op_lt op2_lt (pd_bor (pd_len T.b_len (pda_cons (pd_var 4) pda_nil))) (pd_ix' (pd_var 2) pd_int))
   (pssd_cons (psd_asg (pd_fn C_number_at hr (by decide) (pda_cons (pd_var 0) (pda_cons (pd_var 3) pda_nil))) (pgd_name 5 sc_part_starts.nd))
   (pssd_cons (psd_exprX (px_app 4 (pd_ix' (pd_var 5) pd_int)))
   (pssd_cons (psd_asg (pd_ix' (pd_var 5) pd_int) (pgd_name 3 sc_part_starts.nd))
   pssd_nil)))))
   (pssx_cons (psx_of (psd_frzS 4 (psd_own 6 (pdf_lst pda_nil) sc_part_starts.nd)))
   (pssx_cons (psx_of (psd_for PassesOwn.leaving rfl (pid_list (pd_var 4)) (pgd_name 5 sc_part_starts.nd)
   (pssd_cons (psd_exprX (px_app 6 (pd_var 3)))
   (pssd_cons (psd_aug 3 sc_part_starts.nd (pd_var 5))
   pssd_nil))))
   (pssx_cons (psx_of (psd_retB (pd_var 6)))
   pssx_nil)))))))))
theorem sc_part_at:FnScope ["look", "start", "number", "kind", "place", "held", "want", "item"] ["look", "start"] (defScope (top 29)):=⟨rfl,rfl,rfl,by decide +kernel,rfl,by decide +kernel,by decide +kernel⟩
set_option maxHeartbeats 0 in
theorem ok_part_at {fa:Addr} {fd:FuncData} (F:Fun K "part_at" "part_at" (top 29) fa fd) (T:Txt mg) (K_KINDS:TupK K mg "KINDS" ["text", "row", "table", "record"]) (C_item_at:FnD P w K mg base "item_at" 3 ["look", "place", "want"] m_item_at) (C_made_part:FnD P w K mg base "made_part" 2 ["kind", "held"] m_made_part) (C_number_at:FnD P w K mg base "number_at" 1 ["look", "place"] m_number_at) (C_wanted_items:FnD P w K mg base "wanted_items" 1 ["kind", "size"] m_wanted_items):FnOk P w K mg base CX0 4 fa fd ["look", "start"] (spD K m_part_at) :=
 okD (k:=3) (G:=G_part_at) F sc_part_at (fun cdv A outer s H E hr=>(pssd_cons (psd_asg (pd_fn C_number_at hr (by decide) (pda_cons (pd_var 0) (pda_cons (pd_var 1) pda_nil))) (pgd_name 2 sc_part_at.nd))
   (pssd_cons (psd_asg (pd_gIx K_KINDS (pd_mod (pd_ix' (pd_var 2) pd_int) pd_int)) (pgd_name 3 sc_part_at.nd))
   (pssd_cons (psd_asg (pd_ix' (pd_var 2) pd_int) (pgd_name 4 sc_part_at.nd))
   (pssd_cons (psd_own 5 (pdf_lst pda_nil) sc_part_at.nd)
   (pssd_cons (psd_for PassesOwn.never rfl (pid_list (pd_fn C_wanted_items hr (by decide) (pda_cons (pd_var 3) (pda_cons (pd_fdiv (pd_ix' (pd_var 2) pd_int) pd_int) pda_nil)))) (pgd_name 6 sc_part_at.nd)
   (pssd_cons (psd_asg (pd_fn C_item_at hr (by decide) (pda_cons (pd_var 0) (pda_cons (pd_var 4) (pda_cons (pd_var 6) pda_nil)))) (pgd_name 7 sc_part_at.nd))
   (pssd_cons (psd_exprX (px_app 5 (pd_ix' (pd_var 7) pd_int)))
   (pssd_cons (psd_asg (pd_ix' (pd_var 7) pd_int) (pgd_name 4 sc_part_at.nd))
   pssd_nil))))
   (pssd_cons (psd_retB (pd_fn C_made_part hr (by decide) (pda_cons (pd_var 3) (pda_cons (pd_var 5) pda_nil))))
   pssd_nil))))))) (fun ds d h=>mkF_ok h)
theorem sc_item_at:FnScope ["look", "place", "want", "number"] ["look", "place", "want"] (defScope (top 30)):=⟨rfl,rfl,rfl,by decide +kernel,rfl,by decide +kernel,by decide +kernel⟩
set_option maxHeartbeats 0 in
theorem ok_item_at {fa:Addr} {fd:FuncData} (F:Fun K "item_at" "item_at" (top 30) fa fd) (T:Txt mg) (C_name_at:FnD P w K mg base "name_at" 2 ["look", "start", "length"] m_name_at) (C_number_at:FnD P w K mg base "number_at" 1 ["look", "place"] m_number_at) (C_numbered_value:FnD P w K mg base "numbered_value" 2 ["number"] m_numbered_value) (C_sign_of:FnD P w K mg base "sign_of" 1 ["byte", "signs"] m_sign_of):FnOk P w K mg base CX0 3 fa fd ["look", "place", "want"] (spD K m_item_at) :=
 okD (k:=2) (G:=G_item_at) F sc_item_at (fun cdv A outer s H E hr=>(pssd_cons (psd_if (ptd_cmp op_eq op2_eq (pd_var 2) pd_str)
   (pssd_cons (psd_ret (pd_tup (pda_cons (pd_fn C_sign_of hr (by decide) (pda_cons (pd_callL hr (pd_var 0) (pd_var 1)) (pda_cons (pd_gstr T.c_WORD_SIGNS) pda_nil))) (pda_cons (pd_addA (pd_var 1) pd_int) pda_nil))))
   pssd_nil)
   pssd_nil)
   (pssd_cons (psd_asg (pd_fn C_number_at hr (by decide) (pda_cons (pd_var 0) (pda_cons (pd_var 1) pda_nil))) (pgd_name 3 sc_item_at.nd))
   (pssd_cons (psd_if (ptd_cmp op_eq op2_eq (pd_var 2) pd_str)
   (pssd_cons (psd_ret (pd_tup (pda_cons (pd_fn C_numbered_value hr (by decide) (pda_cons (pd_ix' (pd_var 3) pd_int) pda_nil)) (pda_cons (pd_ix' (pd_var 3) pd_int) pda_nil))))
   pssd_nil)
   pssd_nil)
   (pssd_cons (psd_ret (pd_tup (pda_cons (pd_fn C_name_at hr (by decide) (pda_cons (pd_var 0) (pda_cons (pd_ix' (pd_var 3) pd_int) (pda_cons (pd_ix' (pd_var 3) pd_int) pda_nil)))) (pda_cons (pd_addA (pd_ix' (pd_var 3) pd_int) (pd_ix' (pd_var 3) pd_int)) pda_nil))))
   pssd_nil))))) (fun ds d h=>mkF_ok h)
theorem sc_name_at:FnScope ["look", "start", "length"] ["look", "start", "length"] (defScope (top 31)):=⟨rfl,rfl,rfl,by decide +kernel,rfl,by decide +kernel,by decide +kernel⟩
set_option maxHeartbeats 0 in
theorem ok_name_at {fa:Addr} {fd:FuncData} (F:Fun K "name_at" "name_at" (top 31) fa fd) (T:Txt mg) (C_sign_of:FnD P w K mg base "sign_of" 1 ["byte", "signs"] m_sign_of):FnOk P w K mg base CX0 2 fa fd ["look", "start", "length"] (spD K m_name_at) :=
 okD (k:=1) (G:=G_name_at) F sc_name_at (fun cdv A outer s H E hr=>(pssd_cons (psd_ret (pd_join pd_str (pda_cons (pd_cmpD (sc:=defScope (top 31)) (N:=["look", "start", "length"]) (N':=["place", "look"]) (n:=1) (caps:=[0]) ⟨rfl,by decide +kernel,by decide +kernel,by decide +kernel,by decide +kernel,rfl,by decide +kernel⟩ (by decide) (pid_range2 T.b_range (pda_cons (pd_var 1) (pda_cons (pd_addA (pd_var 1) (pd_var 2)) pda_nil))) (fun cl s H ex=>pgd_name 0 (by decide +kernel:(["place", "look"]:List Str).Nodup)) (fun cl s H ex=>pfd_nil) (fun cl s H ex=>(pd_fn C_sign_of hr (by decide) (pda_cons (pd_callL hr (pd_var 1) (pd_var 0)) (pda_cons (pd_gstr T.c_NAME_SIGNS) pda_nil))))) pda_nil)))
   pssd_nil)) (fun ds d h=>mkF_ok h)
theorem sc__law_cell_at:FnScope ["_law_script", "_law_k"] ["_law_script", "_law_k"] (defScope (top 33)):=⟨rfl,rfl,rfl,by decide +kernel,rfl,by decide +kernel,by decide +kernel⟩
set_option maxHeartbeats 0 in
theorem ok__law_cell_at {fa:Addr} {fd:FuncData} (F:Fun K "_law_cell_at" "_law_cell_at" (top 33) fa fd) (T:Txt mg)  : FnOk P w K mg base CX0 1 fa fd ["_law_script", "_law_k"] (spD K m__law_cell_at) :=
 okD (k:=0) (G:=G__law_cell_at) F sc__law_cell_at (fun cdv A outer s H E hr=>(pssd_cons (psd_if (ptd_cmp op_lt op2_lt (pd_var 1) (pd_len T.b_len (pda_cons (pd_var 0) pda_nil)))
   (pssd_cons (psd_ret (pd_ix' (pd_var 0) (pd_var 1)))
   pssd_nil)
   pssd_nil)
   (pssd_cons (psd_ret (pd_mulA (pd_addA (pd_mulA (pd_var 1) pd_int) pd_int) (pd_addA (pd_var 1) pd_int)))
   pssd_nil))) (fun ds d h=>mkF_ok h)
theorem sc__law_mix:FnScope ["_law_cell", "_law_k"] ["_law_cell", "_law_k"] (defScope (top 34)):=⟨rfl,rfl,rfl,by decide +kernel,rfl,by decide +kernel,by decide +kernel⟩
set_option maxHeartbeats 0 in
theorem ok__law_mix {fa:Addr} {fd:FuncData} (F:Fun K "_law_mix" "_law_mix" (top 34) fa fd) (T:Txt mg)  : FnOk P w K mg base CX0 1 fa fd ["_law_cell", "_law_k"] (spD K m__law_mix) :=
 okD (k:=0) (G:=G__law_mix) F sc__law_mix (fun cdv A outer s H E hr=>(pssd_cons (psd_ret (pd_fdiv (pd_mod (pd_addA (pd_mulA (pd_addA (pd_mod (pd_var 0) pd_int) pd_int) (pd_addA (pd_addA pd_int (pd_mulA pd_int (pd_var 1))) (pd_mulA (pd_mulA pd_int (pd_var 1)) (pd_var 1)))) (pd_var 1)) pd_int) pd_int))
   pssd_nil)) (fun ds d h=>mkF_ok h)
theorem sc__law_pool:FnScope ["_law_cell", "_law_many", "_law_signs_here", "_law_base", "_law_at"] ["_law_cell", "_law_many"] (defScope (top 35)):=⟨rfl,rfl,rfl,by decide +kernel,rfl,by decide +kernel,by decide +kernel⟩
set_option maxHeartbeats 0 in
theorem ok__law_pool {fa:Addr} {fd:FuncData} (F:Fun K "_law_pool" "_law_pool" (top 35) fa fd) (T:Txt mg) (C__law_mix:FnD P w K mg base "_law_mix" 1 ["_law_cell", "_law_k"] m__law_mix):FnOk P w K mg base CX0 2 fa fd ["_law_cell", "_law_many"] (spN K m__law_pool) :=
 okN (k:=1) (G:=G__law_pool) F sc__law_pool (fun cdv A outer s H E hr=>(pssd_cons (psd_asg pd_str (pgd_name 2 sc__law_pool.nd))
   (pssd_cons (psd_asg (pd_join pd_str (pda_cons (pd_cmpD (sc:=defScope (top 35)) (N:=["_law_cell", "_law_many", "_law_signs_here", "_law_base", "_law_at"]) (N':=["_law_j", "_law_cell", "_law_signs_here"]) (n:=1) (caps:=[0,2]) ⟨rfl,by decide +kernel,by decide +kernel,by decide +kernel,by decide +kernel,rfl,by decide +kernel⟩ (by decide) (pid_range1 T.b_range (pda_cons (pd_mod (pd_fn C__law_mix hr (by decide) (pda_cons (pd_var 0) (pda_cons pd_int pda_nil))) pd_int) pda_nil)) (fun cl s H ex=>pgd_name 0 (by decide +kernel:(["_law_j", "_law_cell", "_law_signs_here"]:List Str).Nodup)) (fun cl s H ex=>pfd_nil) (fun cl s H ex=>(pd_ix' (pd_var 2) (pd_mod (pd_fn C__law_mix hr (by decide) (pda_cons (pd_var 1) (pda_cons (pd_var 0) pda_nil))) pd_int)))) pda_nil)) (pgd_name 3 sc__law_pool.nd))
   (pssd_cons (psd_asg (pd_mod (pd_fn C__law_mix hr (by decide) (pda_cons (pd_var 0) (pda_cons pd_int pda_nil))) (pd_addA (pd_len T.b_len (pda_cons (pd_var 3) pda_nil)) pd_int)) (pgd_name 4 sc__law_pool.nd))
   (pssd_cons (psd_retF (pdf_cmpD (sc:=defScope (top 35)) (N:=["_law_cell", "_law_many", "_law_signs_here", "_law_base", "_law_at"]) (N':=["_law_k", "_law_cell", "_law_signs_here", "_law_base", "_law_at"]) (n:=1) (caps:=[0,2,3,4]) ⟨rfl,by decide +kernel,by decide +kernel,by decide +kernel,by decide +kernel,rfl,by decide +kernel⟩ (by decide) (pid_range1 T.b_range (pda_cons (pd_var 1) pda_nil)) (fun cl s H ex=>pgd_name 0 (by decide +kernel:(["_law_k", "_law_cell", "_law_signs_here", "_law_base", "_law_at"]:List Str).Nodup)) (fun cl s H ex=>pfd_nil) (fun cl s H ex=>(pd_addA (pd_addA (pd_sliceA (pd_var 3) pdo_none (pdo_some (pd_var 4))) (pd_ix' (pd_var 2) (pd_mod (pd_addA (pd_mulA pd_int (pd_var 0)) (pd_var 1)) pd_int))) (pd_sliceA (pd_var 3) (pdo_some (pd_var 4)) pdo_none)))))
   pssd_nil))))) (fun ds d h=>mkN_ok h)
theorem sc__law_one_value:FnScope ["_law_cell", "_law_k", "_law_many", "_law_way"] ["_law_cell", "_law_k", "_law_many"] (defScope (top 36)):=⟨rfl,rfl,rfl,by decide +kernel,rfl,by decide +kernel,by decide +kernel⟩
set_option maxHeartbeats 0 in
theorem ok__law_one_value {fa:Addr} {fd:FuncData} (F:Fun K "_law_one_value" "_law_one_value" (top 36) fa fd) (T:Txt mg) (C__law_mix:FnD P w K mg base "_law_mix" 1 ["_law_cell", "_law_k"] m__law_mix):FnOk P w K mg base CX0 2 fa fd ["_law_cell", "_law_k", "_law_many"] (spD K m__law_one_value) :=
 okD (k:=1) (G:=G__law_one_value) F sc__law_one_value (fun cdv A outer s H E hr=>(pssd_cons (psd_asg (pd_mod (pd_fn C__law_mix hr (by decide) (pda_cons (pd_var 0) (pda_cons (pd_var 1) pda_nil))) pd_int) (pgd_name 3 sc__law_one_value.nd))
   (pssd_cons (psd_if (ptd_cmp op_eq op2_eq (pd_var 3) pd_int)
   (pssd_cons (psd_ret pd_non)
   pssd_nil)
   pssd_nil)
   (pssd_cons (psd_if (ptd_cmp op_lt op2_lt (pd_var 3) pd_int)
   (pssd_cons (psd_ret (pd_tup (pda_cons pd_str (pda_cons (pd_mod (pd_fn C__law_mix hr (by decide) (pda_cons (pd_var 0) (pda_cons (pd_addA pd_int (pd_var 1)) pda_nil))) (pd_var 2)) pda_nil))))
   pssd_nil)
   pssd_nil)
   (pssd_cons (psd_if (ptd_cmp op_eq op2_eq (pd_var 3) pd_int)
   (pssd_cons (psd_ret (pd_sub (pd_mod (pd_fn C__law_mix hr (by decide) (pda_cons (pd_var 0) (pda_cons (pd_addA pd_int (pd_var 1)) pda_nil))) pd_int) pd_int))
   pssd_nil)
   pssd_nil)
   (pssd_cons (psd_ret (pd_sub (pd_addA (pd_mod (pd_mulW (pd_mulA (pd_addA (pd_var 0) pd_int) (pd_addA (pd_var 1) pd_int)) (pd_pow pd_int pd_int)) (pd_sub (pd_mulA pd_int (pd_pow pd_int pd_int)) pd_int)) pd_int) (pd_pow pd_int pd_int)))
   pssd_nil)))))) (fun ds d h=>mkF_ok h)
theorem sc__law_drawn_part:FnScope ["_law_cell", "_law_names", "_law_many", "_law_kind", "_law_size", "_law_signs_here", "_law_some", "_law_turn", "_law_pairs"] ["_law_cell", "_law_names", "_law_many"] (defScope (top 37)):=⟨rfl,rfl,rfl,by decide +kernel,rfl,by decide +kernel,by decide +kernel⟩
set_option maxHeartbeats 0 in
theorem ok__law_drawn_part {fa:Addr} {fd:FuncData} (F:Fun K "_law_drawn_part" "_law_drawn_part" (top 37) fa fd) (T:Txt mg) (C__law_mix:FnD P w K mg base "_law_mix" 1 ["_law_cell", "_law_k"] m__law_mix) (C__law_one_value:FnD P w K mg base "_law_one_value" 2 ["_law_cell", "_law_k", "_law_many"] m__law_one_value):FnOk P w K mg base CX0 3 fa fd ["_law_cell", "_law_names", "_law_many"] (spD K m__law_drawn_part) :=
 okD (k:=2) (G:=G__law_drawn_part) F sc__law_drawn_part (fun cdv A outer s H E hr=>(pssd_cons (psd_asg (pd_mod (pd_fn C__law_mix hr (by decide) (pda_cons (pd_var 0) (pda_cons pd_int pda_nil))) pd_int) (pgd_name 3 sc__law_drawn_part.nd))
   (pssd_cons (psd_asg (pd_ix' (pd_lst (pda_cons pd_int (pda_cons pd_int (pda_cons pd_int (pda_cons pd_int (pda_cons pd_int (pda_cons pd_int (pda_cons pd_int (pda_cons pd_int pda_nil))))))))) (pd_mod (pd_fn C__law_mix hr (by decide) (pda_cons (pd_var 0) (pda_cons pd_int pda_nil))) pd_int)) (pgd_name 4 sc__law_drawn_part.nd))
   (pssd_cons (psd_if (ptd_cmp op_eq op2_eq (pd_var 3) pd_int)
   (pssd_cons (psd_asg pd_str (pgd_name 5 sc__law_drawn_part.nd))
   (pssd_cons (psd_ret (pd_tup (pda_cons pd_str (pda_cons (pd_join pd_str (pda_cons (pd_cmpD (sc:=defScope (top 37)) (N:=["_law_cell", "_law_names", "_law_many", "_law_kind", "_law_size", "_law_signs_here", "_law_some", "_law_turn", "_law_pairs"]) (N':=["_law_j", "_law_cell", "_law_signs_here"]) (n:=1) (caps:=[0,5]) ⟨rfl,by decide +kernel,by decide +kernel,by decide +kernel,by decide +kernel,rfl,by decide +kernel⟩ (by decide) (pid_range1 T.b_range (pda_cons (pd_mod (pd_fn C__law_mix hr (by decide) (pda_cons (pd_var 0) (pda_cons pd_int pda_nil))) pd_int) pda_nil)) (fun cl s H ex=>pgd_name 0 (by decide +kernel:(["_law_j", "_law_cell", "_law_signs_here"]:List Str).Nodup)) (fun cl s H ex=>pfd_nil) (fun cl s H ex=>(pd_ix' (pd_var 2) (pd_mod (pd_fn C__law_mix hr (by decide) (pda_cons (pd_var 1) (pda_cons (pd_addA pd_int (pd_var 0)) pda_nil))) pd_int)))) pda_nil)) pda_nil))))
   pssd_nil))
   pssd_nil)
   (pssd_cons (psd_asg (pd_cmpD (sc:=defScope (top 37)) (N:=["_law_cell", "_law_names", "_law_many", "_law_kind", "_law_size", "_law_signs_here", "_law_some", "_law_turn", "_law_pairs"]) (N':=["_law_k", "_law_cell", "_law_many"]) (n:=1) (caps:=[0,2]) ⟨rfl,by decide +kernel,by decide +kernel,by decide +kernel,by decide +kernel,rfl,by decide +kernel⟩ (by decide) (pid_range1 T.b_range (pda_cons (pd_var 4) pda_nil)) (fun cl s H ex=>pgd_name 0 (by decide +kernel:(["_law_k", "_law_cell", "_law_many"]:List Str).Nodup)) (fun cl s H ex=>pfd_nil) (fun cl s H ex=>(pd_fn C__law_one_value hr (by decide) (pda_cons (pd_var 1) (pda_cons (pd_addA pd_int (pd_var 0)) (pda_cons (pd_var 2) pda_nil)))))) (pgd_name 6 sc__law_drawn_part.nd))
   (pssd_cons (psd_if (ptd_cmp op_eq op2_eq (pd_var 3) pd_int)
   (pssd_cons (psd_ret (pd_tup (pda_cons pd_str (pda_cons (pd_callTy call_tuple_of fn_tup T.b_tuple b_tuple (pda_cons (pd_var 6) pda_nil)) pda_nil))))
   pssd_nil)
   pssd_nil)
   (pssd_cons (psd_asg (pd_mod (pd_fn C__law_mix hr (by decide) (pda_cons (pd_var 0) (pda_cons pd_int pda_nil))) pd_int) (pgd_name 7 sc__law_drawn_part.nd))
   (pssd_cons (psd_asg (pd_callTy call_tuple_of fn_tup T.b_tuple b_tuple (pda_cons (pd_cmpD (sc:=defScope (top 37)) (N:=["_law_cell", "_law_names", "_law_many", "_law_kind", "_law_size", "_law_signs_here", "_law_some", "_law_turn", "_law_pairs"]) (N':=["_law_k", "_law_names", "_law_some", "_law_turn"]) (n:=1) (caps:=[1,6,7]) ⟨rfl,by decide +kernel,by decide +kernel,by decide +kernel,by decide +kernel,rfl,by decide +kernel⟩ (by decide) (pid_range1 T.b_range (pda_cons (pd_var 4) pda_nil)) (fun cl s H ex=>pgd_name 0 (by decide +kernel:(["_law_k", "_law_names", "_law_some", "_law_turn"]:List Str).Nodup)) (fun cl s H ex=>pfd_nil) (fun cl s H ex=>(pd_tup (pda_cons (pd_ix' (pd_var 1) (pd_mod (pd_addA (pd_var 3) (pd_var 0)) pd_int)) (pda_cons (pd_ix' (pd_var 2) (pd_var 0)) pda_nil))))) pda_nil)) (pgd_name 8 sc__law_drawn_part.nd))
   (pssd_cons (psd_if (ptd_cmp op_eq op2_eq (pd_var 3) pd_int)
   (pssd_cons (psd_ret (pd_tup (pda_cons pd_str (pda_cons (pd_var 8) pda_nil))))
   pssd_nil)
   pssd_nil)
   (pssd_cons (psd_ret (pd_tup (pda_cons pd_str (pda_cons (pd_ix' (pd_var 1) (pd_mod (pd_fn C__law_mix hr (by decide) (pda_cons (pd_var 0) (pda_cons pd_int pda_nil))) pd_int)) (pda_cons (pd_var 8) pda_nil)))))
   pssd_nil)))))))))) (fun ds d h=>mkF_ok h)
theorem sc__law_built:FnScope ["_law_script", "_law_start", "_law_most", "_law_many", "_law_names"] ["_law_script", "_law_start", "_law_most"] (defScope (top 38)):=⟨rfl,rfl,rfl,by decide +kernel,rfl,by decide +kernel,by decide +kernel⟩
set_option maxHeartbeats 0 in
theorem ok__law_built {fa:Addr} {fd:FuncData} (F:Fun K "_law_built" "_law_built" (top 38) fa fd) (T:Txt mg) (C__law_cell_at:FnD P w K mg base "_law_cell_at" 1 ["_law_script", "_law_k"] m__law_cell_at) (C__law_drawn_part:FnD P w K mg base "_law_drawn_part" 3 ["_law_cell", "_law_names", "_law_many"] m__law_drawn_part) (C__law_mix:FnD P w K mg base "_law_mix" 1 ["_law_cell", "_law_k"] m__law_mix) (C__law_pool:FnN P w K mg base "_law_pool" 2 ["_law_cell", "_law_many"] m__law_pool):FnOk P w K mg base CX0 4 fa fd ["_law_script", "_law_start", "_law_most"] (spD K m__law_built) :=
 okD (k:=3) (G:=G__law_built) F sc__law_built (fun cdv A outer s H E hr=>(pssd_cons (psd_asg (pd_addA pd_int (pd_mod (pd_fn C__law_mix hr (by decide) (pda_cons (pd_fn C__law_cell_at hr (by decide) (pda_cons (pd_var 0) (pda_cons (pd_var 1) pda_nil))) (pda_cons pd_int pda_nil))) (pd_var 2))) (pgd_name 3 sc__law_built.nd))
   (pssd_cons (psd_asg (pd_fnN C__law_pool hr (by decide) (pda_cons (pd_fn C__law_cell_at hr (by decide) (pda_cons (pd_var 0) (pda_cons (pd_addA (pd_var 1) pd_int) pda_nil))) (pda_cons pd_int pda_nil))) (pgd_name 4 sc__law_built.nd))
   (pssd_cons (psd_ret (pd_callTy call_tuple_of fn_tup T.b_tuple b_tuple (pda_cons (pd_cmpD (sc:=defScope (top 38)) (N:=["_law_script", "_law_start", "_law_most", "_law_many", "_law_names"]) (N':=["_law_k", "_law_script", "_law_start", "_law_many", "_law_names"]) (n:=1) (caps:=[0,1,3,4]) ⟨rfl,by decide +kernel,by decide +kernel,by decide +kernel,by decide +kernel,rfl,by decide +kernel⟩ (by decide) (pid_range1 T.b_range (pda_cons (pd_var 3) pda_nil)) (fun cl s H ex=>pgd_name 0 (by decide +kernel:(["_law_k", "_law_script", "_law_start", "_law_many", "_law_names"]:List Str).Nodup)) (fun cl s H ex=>pfd_nil) (fun cl s H ex=>(pd_fn C__law_drawn_part hr (by decide) (pda_cons (pd_fn C__law_cell_at hr (by decide) (pda_cons (pd_var 1) (pda_cons (pd_addA (pd_addA (pd_var 2) pd_int) (pd_var 0)) pda_nil))) (pda_cons (pd_var 4) (pda_cons (pd_var 3) pda_nil)))))) pda_nil)))
   pssd_nil)))) (fun ds d h=>mkF_ok h)
theorem sc__law_digits:FnScope ["_law_number", "_law_found"] ["_law_number"] (defScope (top 39)):=⟨rfl,rfl,rfl,by decide +kernel,rfl,by decide +kernel,by decide +kernel⟩
set_option maxHeartbeats 0 in
theorem ok__law_digits {fa:Addr} {fd:FuncData} (F:Fun K "_law_digits" "_law_digits" (top 39) fa fd) (T:Txt mg)  : FnOk P w K mg base CX0 1 fa fd ["_law_number"] (spN K m__law_digits) :=
 okN (k:=0) (G:=G__law_digits) F sc__law_digits (fun cdv A outer s H E hr=>(pssd_cons (psd_own 1 (pdf_lst (pda_cons (pd_mod (pd_var 0) pd_int) pda_nil)) sc__law_digits.nd)
   (pssd_cons (psd_while 100000 PassesOwn.never (ptd_cmp op_gt op2_gt (pd_var 0) pd_int)
   (pssd_cons (psd_asg (pd_fdiv (pd_var 0) pd_int) (pgd_name 0 sc__law_digits.nd))
   (pssd_cons (psd_exprX (px_ins0 1 (pd_addA pd_int (pd_mod (pd_var 0) pd_int))))
   pssd_nil)))
   (pssd_cons (psd_retO 1)
   pssd_nil)))) (fun ds d h=>mkN_ok h)
theorem sc__law_signs:FnScope ["_law_word"] ["_law_word"] (defScope (top 40)):=⟨rfl,rfl,rfl,by decide +kernel,rfl,by decide +kernel,by decide +kernel⟩
set_option maxHeartbeats 0 in
theorem ok__law_signs {fa:Addr} {fd:FuncData} (F:Fun K "_law_signs" "_law_signs" (top 40) fa fd) (T:Txt mg)  : FnOk P w K mg base CX0 1 fa fd ["_law_word"] (spN K m__law_signs) :=
 okN (k:=0) (G:=G__law_signs) F sc__law_signs (fun cdv A outer s H E hr=>(pssd_cons (psd_retF (pdf_cmpD (sc:=defScope (top 40)) (N:=["_law_word"]) (N':=["_law_sign"]) (n:=1) (caps:=[]) ⟨rfl,by decide +kernel,by decide +kernel,by decide +kernel,by decide +kernel,rfl,by decide +kernel⟩ (by decide) (pid_str (pd_var 0)) (fun cl s H ex=>pgd_name 0 (by decide +kernel:(["_law_sign"]:List Str).Nodup)) (fun cl s H ex=>pfd_nil) (fun cl s H ex=>(pd_callB call_ord fn_ord T.b_ord b_ord (pda_cons (pd_var 0) pda_nil)))))
   pssd_nil)) (fun ds d h=>mkN_ok h)
theorem sc__law_value_bytes:FnScope ["_law_value"] ["_law_value"] (defScope (top 41)):=⟨rfl,rfl,rfl,by decide +kernel,rfl,by decide +kernel,by decide +kernel⟩
set_option maxHeartbeats 0 in
theorem ok__law_value_bytes {fa:Addr} {fd:FuncData} (F:Fun K "_law_value_bytes" "_law_value_bytes" (top 41) fa fd) (T:Txt mg) (C__law_digits:FnN P w K mg base "_law_digits" 1 ["_law_number"] m__law_digits):FnOk P w K mg base CX0 2 fa fd ["_law_value"] (spN K m__law_value_bytes) :=
 okN (k:=1) (G:=G__law_value_bytes) F sc__law_value_bytes (fun cdv A outer s H E hr=>(pssd_cons (psd_if (ptd_cmp op_isN op2_isN (pd_var 0) pd_non)
   (pssd_cons (psd_retF (pdf_lst (pda_cons pd_int pda_nil)))
   pssd_nil)
   pssd_nil)
   (pssd_cons (psd_if (ptd_val (pd_isi okT_tuple b_tuple T.b_isinstance T.b_tuple (pd_var 0)))
   (pssd_cons (psd_retF (pdf_fn C__law_digits hr (by decide) (pda_cons (pd_addA (pd_mulA pd_int (pd_ix' (pd_var 0) pd_int)) pd_int) pda_nil)))
   pssd_nil)
   pssd_nil)
   (pssd_cons (psd_if (ptd_cmp op_lt op2_lt (pd_var 0) pd_int)
   (pssd_cons (psd_retF (pdf_fn C__law_digits hr (by decide) (pda_cons (pd_addA (pd_mulA pd_int (pd_sub (pd_sub pd_int (pd_mulA pd_int (pd_var 0))) pd_int)) pd_int) pda_nil)))
   pssd_nil)
   pssd_nil)
   (pssd_cons (psd_retF (pdf_fn C__law_digits hr (by decide) (pda_cons (pd_addA (pd_mulA pd_int (pd_var 0)) pd_int) pda_nil)))
   pssd_nil))))) (fun ds d h=>mkN_ok h)
theorem sc__law_part_bytes:FnScope ["_law_part", "_law_kind", "_law_found", "_law_value", "_law_name"] ["_law_part"] (defScope (top 42)):=⟨rfl,rfl,rfl,by decide +kernel,rfl,by decide +kernel,by decide +kernel⟩
set_option maxHeartbeats 0 in
theorem ok__law_part_bytes {fa:Addr} {fd:FuncData} (F:Fun K "_law_part_bytes" "_law_part_bytes" (top 42) fa fd) (T:Txt mg) (C__law_digits:FnN P w K mg base "_law_digits" 1 ["_law_number"] m__law_digits) (C__law_signs:FnN P w K mg base "_law_signs" 1 ["_law_word"] m__law_signs) (C__law_value_bytes:FnN P w K mg base "_law_value_bytes" 2 ["_law_value"] m__law_value_bytes):FnOk P w K mg base CX0 3 fa fd ["_law_part"] (spD K m__law_part_bytes) :=
 okD (k:=2) (G:=G__law_part_bytes) F sc__law_part_bytes (fun cdv A outer s H E hr=>(pssd_cons (psd_asg (pd_idx (pd_lst (pda_cons pd_str (pda_cons pd_str (pda_cons pd_str (pda_cons pd_str pda_nil))))) (pda_cons (pd_ix' (pd_var 0) pd_int) pda_nil)) (pgd_name 1 sc__law_part_bytes.nd))
   (pssd_cons (psd_asg (pd_fnN C__law_digits hr (by decide) (pda_cons (pd_addA (pd_mulA pd_int (pd_len T.b_len (pda_cons (pd_ix' (pd_var 0) (pd_neg pd_int)) pda_nil))) (pd_var 1)) pda_nil)) (pgd_name 2 sc__law_part_bytes.nd))
   (pssd_cons (psd_if (ptd_cmp op_eq op2_eq (pd_var 1) pd_int)
   (pssd_cons (psd_ret (pd_addA (pd_var 2) (pd_fnN C__law_signs hr (by decide) (pda_cons (pd_ix' (pd_var 0) pd_int) pda_nil))))
   pssd_nil)
   pssd_nil)
   (pssd_cons (psd_if (ptd_cmp op_eq op2_eq (pd_var 1) pd_int)
   (pssd_cons (psd_for PassesOwn.never rfl (pid_tup (pd_ix' (pd_var 0) pd_int)) (pgd_name 3 sc__law_part_bytes.nd)
   (pssd_cons (psd_asg (pd_addA (pd_var 2) (pd_fnN C__law_value_bytes hr (by decide) (pda_cons (pd_var 3) pda_nil))) (pgd_name 2 sc__law_part_bytes.nd))
   pssd_nil))
   (pssd_cons (psd_ret (pd_var 2))
   pssd_nil))
   pssd_nil)
   (pssd_cons (psd_if (ptd_cmp op_eq op2_eq (pd_var 1) pd_int)
   (pssd_cons (psd_asg (pd_addA (pd_addA (pd_var 2) (pd_fnN C__law_digits hr (by decide) (pda_cons (pd_len T.b_len (pda_cons (pd_ix' (pd_var 0) pd_int) pda_nil)) pda_nil))) (pd_fnN C__law_signs hr (by decide) (pda_cons (pd_ix' (pd_var 0) pd_int) pda_nil))) (pgd_name 2 sc__law_part_bytes.nd))
   pssd_nil)
   pssd_nil)
   (pssd_cons (psd_for PassesOwn.never rfl (pid_tup (pd_ix' (pd_var 0) (pd_neg pd_int))) (pgd_tup2 4 3 sc__law_part_bytes.nd (by decide))
   (pssd_cons (psd_asg (pd_addA (pd_addA (pd_var 2) (pd_fnN C__law_digits hr (by decide) (pda_cons (pd_len T.b_len (pda_cons (pd_var 4) pda_nil)) pda_nil))) (pd_fnN C__law_signs hr (by decide) (pda_cons (pd_var 4) pda_nil))) (pgd_name 2 sc__law_part_bytes.nd))
   (pssd_cons (psd_asg (pd_addA (pd_var 2) (pd_fnN C__law_value_bytes hr (by decide) (pda_cons (pd_var 3) pda_nil))) (pgd_name 2 sc__law_part_bytes.nd))
   pssd_nil)))
   (pssd_cons (psd_ret (pd_var 2))
   pssd_nil)))))))) (fun ds d h=>mkF_ok h)
theorem sc__law_laid_out:FnScope ["_law_web", "_law_some", "_law_index", "_law_one", "_law_begins", "_law_whole"] ["_law_web"] (defScope (top 43)):=⟨rfl,rfl,rfl,by decide +kernel,rfl,by decide +kernel,by decide +kernel⟩
set_option maxHeartbeats 0 in
theorem ok__law_laid_out {fa:Addr} {fd:FuncData} (F:Fun K "_law_laid_out" "_law_laid_out" (top 43) fa fd) (T:Txt mg) (C__law_digits:FnN P w K mg base "_law_digits" 1 ["_law_number"] m__law_digits) (C__law_part_bytes:FnD P w K mg base "_law_part_bytes" 3 ["_law_part"] m__law_part_bytes):FnOk P w K mg base CX0 4 fa fd ["_law_web"] (spD K m__law_laid_out) :=
 okD (k:=3) (G:=G__law_laid_out) F sc__law_laid_out (fun cdv A outer s H E hr=>(pssd_cons (psd_cmpD 1 sc__law_laid_out.nd (sc:=defScope (top 43)) (N:=["_law_web", "_law_some", "_law_index", "_law_one", "_law_begins", "_law_whole"]) (N':=["_law_part"]) (n:=1) (caps:=[]) ⟨rfl,by decide +kernel,by decide +kernel,by decide +kernel,by decide +kernel,rfl,by decide +kernel⟩ (by decide) (pid_tup (pd_var 0)) (fun cl s H ex=>pgd_name 0 (by decide +kernel:(["_law_part"]:List Str).Nodup)) (fun cl s H ex=>pfd_nil) (fun cl s H ex=>(pd_fn C__law_part_bytes hr (by decide) (pda_cons (pd_var 0) pda_nil))))
   (pssd_cons (psd_asg (pd_fnN C__law_digits hr (by decide) (pda_cons (pd_len T.b_len (pda_cons (pd_var 0) pda_nil)) pda_nil)) (pgd_name 2 sc__law_laid_out.nd))
   (pssd_cons (psd_for PassesOwn.never rfl (pid_list (pd_var 1)) (pgd_name 3 sc__law_laid_out.nd)
   (pssd_cons (psd_asg (pd_addA (pd_var 2) (pd_fnN C__law_digits hr (by decide) (pda_cons (pd_len T.b_len (pda_cons (pd_var 3) pda_nil)) pda_nil))) (pgd_name 2 sc__law_laid_out.nd))
   pssd_nil))
   (pssd_cons (psd_own 4 (pdf_lst pda_nil) sc__law_laid_out.nd)
   (pssd_cons (psd_own 5 (pdf_list T.b_list b_list (pd_var 2)) sc__law_laid_out.nd)
   (pssd_cons (psd_for PassesOwn.never rfl (pid_list (pd_var 1)) (pgd_name 3 sc__law_laid_out.nd)
   (pssd_cons (psd_exprX (px_app 4 (pd_bor (pd_len T.b_len (pda_cons (pd_var 5) pda_nil)))))
   (pssd_cons (psd_exprX (px_ext 5 (pd_var 3)))
   pssd_nil)))
   (pssd_cons (psd_retB (pd_tup (pda_cons (pd_var 5) (pda_cons (pd_len T.b_len (pda_cons (pd_var 2) pda_nil)) (pda_cons (pd_addA (pd_var 4) (pd_lst (pda_cons (pd_len T.b_len (pda_cons (pd_var 5) pda_nil)) pda_nil))) pda_nil)))))
   pssd_nil)))))))) (fun ds d h=>mkF_ok h)
theorem sc__law_alike:FnScope ["_law_found", "_law_due"] ["_law_found", "_law_due"] (defScope (top 44)):=⟨rfl,rfl,rfl,by decide +kernel,rfl,by decide +kernel,by decide +kernel⟩
set_option maxHeartbeats 0 in
theorem ok__law_alike {fa:Addr} {fd:FuncData} (F:Fun K "_law_alike" "_law_alike" (top 44) fa fd) (T:Txt mg) (mp:List D → Option D) (kk:Nat) (C__law_alike:FnD P w K mg base "_law_alike" kk ["_law_found", "_law_due"] mp)  : FnOk P w K mg base CX0 (kk + 1) fa fd ["_law_found", "_law_due"] (spD K (mkF 2 N__law_alike (GR__law_alike mp))) :=
 okD (k:=kk) (G:=GR__law_alike mp) F sc__law_alike (fun cdv A outer s H E hr=>(pssd_cons (psd_if (ptd_cmp op_isN op2_isN (pd_var 1) pd_non)
   (pssd_cons (psd_ret (pd_cmp op_isN op2_isN (pd_var 0) pd_non))
   pssd_nil)
   pssd_nil)
   (pssd_cons (psd_if (ptd_val (pd_isi okT_str b_str T.b_isinstance T.b_str (pd_var 1)))
   (pssd_cons (psd_ret (pd_and (pd_isi okT_str b_str T.b_isinstance T.b_str (pd_var 0)) (pd_one (pd_cmp op_eq op2_eq (pd_var 0) (pd_var 1)))))
   pssd_nil)
   pssd_nil)
   (pssd_cons (psd_if (ptd_val (pd_isi okT_int b_int T.b_isinstance T.b_int (pd_var 1)))
   (pssd_cons (psd_ret (pd_and (pd_isi okT_int b_int T.b_isinstance T.b_int (pd_var 0)) (pd_and (pd_not (pd_isi okT_bool b_bool T.b_isinstance T.b_bool (pd_var 0))) (pd_one (pd_cmp op_eq op2_eq (pd_var 0) (pd_var 1))))))
   pssd_nil)
   pssd_nil)
   (pssd_cons (psd_if (PWD.pt (pwd_or (ptd_cmp op_ne op2_ne (pd_isi okT_tuple b_tuple T.b_isinstance T.b_tuple (pd_var 0)) (pd_isi okT_tuple b_tuple T.b_isinstance T.b_tuple (pd_var 1))) (pwd_or1 (ptd_cmp op_ne op2_ne (pd_isi okT_list b_list T.b_isinstance T.b_list (pd_var 0)) (pd_isi okT_list b_list T.b_isinstance T.b_list (pd_var 1))))))
   (pssd_cons (psd_ret pd_bl)
   pssd_nil)
   pssd_nil)
   (pssd_cons (psd_ret (pd_and (pd_cmp op_eq op2_eq (pd_len T.b_len (pda_cons (pd_var 0) pda_nil)) (pd_len T.b_len (pda_cons (pd_var 1) pda_nil))) (pd_one (pd_callB (call_all rfl) fn_all T.b_all b_all (pda_cons (pd_cmpD (sc:=defScope (top 44)) (N:=["_law_found", "_law_due"]) (N':=["_law_k", "_law_found", "_law_due"]) (n:=1) (caps:=[0,1]) ⟨rfl,by decide +kernel,by decide +kernel,by decide +kernel,by decide +kernel,rfl,by decide +kernel⟩ (by decide) (pid_range1 T.b_range (pda_cons (pd_len T.b_len (pda_cons (pd_var 1) pda_nil)) pda_nil)) (fun cl s H ex=>pgd_name 0 (by decide +kernel:(["_law_k", "_law_found", "_law_due"]:List Str).Nodup)) (fun cl s H ex=>pfd_nil) (fun cl s H ex=>(pd_fn C__law_alike hr (Nat.le_refl _) (pda_cons (pd_ix' (pd_var 1) (pd_var 0)) (pda_cons (pd_ix' (pd_var 2) (pd_var 0)) pda_nil))))) pda_nil)))))
   pssd_nil)))))) (fun ds d h=>mkF_ok h)
theorem sc__law_look:FnScope ["_law_whole", "_law_spans", "_law_there", "_law_low", "_law_high", "_law_place"] ["_law_whole", "_law_spans"] (defScope (top 45)):=⟨rfl,rfl,rfl,by decide +kernel,rfl,by decide +kernel,by decide +kernel⟩
set_option maxHeartbeats 0 in
theorem ok__law_look {fa c0 Pt:Addr} {fd:FuncData} (F:FunL K "_law_look" "_law_look" (top 45) fa fd c0) (C:W.CodeHd base c0 Pt) (hB:base.BuiltinsAt mg Pt) (T:Txt mg)  : FnOk P w K mg base CX0 1 fa fd ["_law_whole", "_law_spans"] (spT Pt (("_law_look" : Str) ++ ".<locals>." ++ "<lambda>") (spD K m__law_look)) :=
 okL (k:=0) (i:=2) (G:=G__law_look) (init:=(defBody (top 45)).dropLast) F sc__law_look C hB rfl rfl rfl (fun env c hc=>clos_one rfl env c hc) (fun env=>rfl) (fun qn c pm ctv cd=>⟨_,_,_,rfl,rfl,rfl,rfl,rfl,rfl,nc_two,rfl,rfl,rfl,by decide +kernel,by decide +kernel,by decide +kernel,fun u=>rfl⟩) (fun cdv A outer s H E hr=>(pssd_cons (psd_own 2 pdf_dict0 sc__law_look.nd)
   (pssd_cons (psd_for PassesOwn.never rfl (pid_list (pd_var 1)) (pgd_tup2 3 4 sc__law_look.nd (by decide))
   (pssd_cons (psd_for PassesOwn.never rfl (pid_range2 T.b_range (pda_cons (pd_var 3) (pda_cons (pd_var 4) pda_nil))) (pgd_name 5 sc__law_look.nd)
   (pssd_cons (psd_asgX (px_pure (pd_ix' (pd_var 0) (pd_var 5))) (ptg_put 2 (hu_of hr) (pd_var 5)))
   pssd_nil))
   pssd_nil))
   pssd_nil))) (fun ds d h=>mkL_ok h)
theorem sc__law_refused:FnScope ["_law_look_here", "_law_k", "_law_kept", "e"] ["_law_look_here", "_law_k"] (defScope (top 46)):=⟨rfl,rfl,rfl,by decide +kernel,rfl,by decide +kernel,by decide +kernel⟩
set_option maxHeartbeats 0 in
theorem ok__law_refused {fa:Addr} {fd:FuncData} (F:Fun K "_law_refused" "_law_refused" (top 46) fa fd) (T:Txt mg) {rr:Addr} (XT:XC.Tab K mg "WebError" rr ["NoText", "NoPlace", "NoValue", "TooMany", "NoMake", "NoBase", "NoRow", "NoName", "NoWay", "NoPack"] ["NoText", "NoPlace", "NoValue", "TooMany", "NoMake", "NoBase", "NoRow", "NoName"]) (X_part_of:FnX P w K mg base "part_of" 5 ["look", "k"] m_part_of):FnOk P w K mg base CX0 6 fa fd ["_law_look_here", "_law_k"] (spD K m__law_refused) :=
 okD (k:=5) (G:=G__law_refused) F sc__law_refused (fun cdv A outer s H E hr=>(pssd_cons (psd_asg pd_non (pgd_name 2 sc__law_refused.nd))
   (pssd_cons (psd_try 3 XT (fun pn xe=>(pssx_cons (psx_callE X_part_of hr (by decide) (pda_cons (pd_var 0) (pda_cons (pd_var 1) pda_nil)))
   pssx_nil))
   (fun ea=>(pssd_cons (psd_cpX 2 3 sc__law_refused.nd)
   pssd_nil)) sc__law_refused.nd)
   (pssd_cons (psd_if (ptd_val (pd_isiXs 2 XT (by decide) (pcl_cons XT (by decide) (pcl_cons XT (by decide) (pcl_cons XT (by decide) (pcl_cons XT (by decide) (pcl_cons XT (by decide) (pcl_cons XT (by decide) (pcl_cons XT (by decide) (pcl_cons XT (by decide) (pcl_cons XT (by decide) pcl_nil))))))))) (by decide) T.b_isinstance))
   (pssd_cons (psd_ret pd_bl)
   pssd_nil)
   pssd_nil)
   (pssd_cons (psd_ret (pd_and (pd_isiX 2 XT (by decide) (by decide) T.b_isinstance) (pd_one (pd_isiV 2 XT b_ValueError ty_ValueError (by decide +kernel) T.b_isinstance T.b_ValueError))))
   pssd_nil))))) (fun ds d h=>mkF_ok h)
theorem sc_law:FnScope ["_law_script", "_law_most", "_law_web", "_law_whole", "_law_index", "_law_begins", "_law_k", "_law_at", "_law_look_here", "_law_far", "_law_odd"] ["_law_script"] (defScope (top 47)):=⟨rfl,rfl,rfl,by decide +kernel,rfl,by decide +kernel,by decide +kernel⟩
set_option maxHeartbeats 0 in
theorem ok_law {fa Pt:Addr} {fd:FuncData} (F:Fun K "law" "law" (top 47) fa fd) (T:Txt mg) (C__law_alike:FnD P w K mg base "_law_alike" 8 ["_law_found", "_law_due"] m__law_alike) (C__law_built:FnD P w K mg base "_law_built" 4 ["_law_script", "_law_start", "_law_most"] m__law_built) (C__law_cell_at:FnD P w K mg base "_law_cell_at" 1 ["_law_script", "_law_k"] m__law_cell_at) (C__law_laid_out:FnD P w K mg base "_law_laid_out" 4 ["_law_web"] m__law_laid_out) (C__law_look:FnDT P w K mg base Pt (("_law_look" : Str) ++ ".<locals>." ++ "<lambda>") "_law_look" 1 ["_law_whole", "_law_spans"] m__law_look) (C__law_mix:FnD P w K mg base "_law_mix" 1 ["_law_cell", "_law_k"] m__law_mix) (C__law_refused:FnD P w K mg base "_law_refused" 6 ["_law_look_here", "_law_k"] m__law_refused) (C_count_of:FnD P w K mg base "count_of" 2 ["look"] m_count_of) (C_part_of:FnD P w K mg base "part_of" 5 ["look", "k"] (okPart m_part_of)):FnOk P w K mg base CX0 9 fa fd ["_law_script"] (spT Pt (("_law_look" : Str) ++ ".<locals>." ++ "<lambda>") (spD K m_law)) :=
 okDT (k:=8) (G:=G_law) F sc_law (fun cdv A outer s H E hT hr=>(pssd_cons (psd_asg pd_int (pgd_name 1 sc_law.nd))
   (pssd_cons (psd_if (ptd_cmp op_eq op2_eq (pd_mod (pd_fn C__law_cell_at hr (by decide) (pda_cons (pd_var 0) (pda_cons pd_int pda_nil))) pd_int) pd_int)
   (pssd_cons (psd_asg pd_int (pgd_name 1 sc_law.nd))
   pssd_nil)
   pssd_nil)
   (pssd_cons (psd_asg (pd_fn C__law_built hr (by decide) (pda_cons (pd_var 0) (pda_cons pd_int (pda_cons (pd_var 1) pda_nil)))) (pgd_name 2 sc_law.nd))
   (pssd_cons (psd_asgX (px_pure (pd_fn C__law_laid_out hr (by decide) (pda_cons (pd_var 2) pda_nil))) (ptg_of (pgd_tup3 3 4 5 sc_law.nd (by decide))))
   (pssd_cons (psd_if (ptd_not (ptd_val (pd_fn C__law_alike hr (by decide) (pda_cons (pd_fn C_count_of hr (by decide) (pda_cons (pd_fnT C__law_look hT hr (by decide) (pda_cons (pd_var 3) (pda_cons (pd_lst (pda_cons (pd_tup (pda_cons pd_int (pda_cons pd_int pda_nil))) pda_nil)) pda_nil))) pda_nil)) (pda_cons (pd_len T.b_len (pda_cons (pd_var 2) pda_nil)) pda_nil)))))
   (pssd_cons (psd_ret pd_bl)
   pssd_nil)
   pssd_nil)
   (pssd_cons (psd_for PassesOwn.never rfl (pid_range1 T.b_range (pda_cons pd_int pda_nil)) (pgd_name 6 sc_law.nd)
   (pssd_cons (psd_asg (pd_mod (pd_fn C__law_mix hr (by decide) (pda_cons (pd_fn C__law_cell_at hr (by decide) (pda_cons (pd_var 0) (pda_cons pd_int pda_nil))) (pda_cons (pd_addA pd_int (pd_var 6)) pda_nil))) (pd_len T.b_len (pda_cons (pd_var 2) pda_nil))) (pgd_name 7 sc_law.nd))
   (pssd_cons (psd_asg (pd_fnT C__law_look hT hr (by decide) (pda_cons (pd_var 3) (pda_cons (pd_lst (pda_cons (pd_tup (pda_cons pd_int (pda_cons (pd_var 4) pda_nil))) (pda_cons (pd_tup (pda_cons (pd_ix' (pd_var 5) (pd_var 7)) (pda_cons (pd_ix' (pd_var 5) (pd_addA (pd_var 7) pd_int)) pda_nil))) pda_nil))) pda_nil))) (pgd_name 8 sc_law.nd))
   (pssd_cons (psd_if (ptd_not (ptd_val (pd_fn C__law_alike hr (by decide) (pda_cons (pd_fn C_part_of hr (by decide) (pda_cons (pd_var 8) (pda_cons (pd_var 7) pda_nil))) (pda_cons (pd_ix' (pd_var 2) (pd_var 7)) pda_nil)))))
   (pssd_cons (psd_ret pd_bl)
   pssd_nil)
   pssd_nil)
   pssd_nil))))
   (pssd_cons (psd_asg (pd_mod (pd_fn C__law_cell_at hr (by decide) (pda_cons (pd_var 0) (pda_cons pd_int pda_nil))) (pd_pow pd_int pd_int)) (pgd_name 9 sc_law.nd))
   (pssd_cons (psd_for PassesOwn.never rfl (pid_list (pd_lst (pda_cons (pd_neg pd_int) (pda_cons (pd_len T.b_len (pda_cons (pd_var 2) pda_nil)) (pda_cons (pd_addA (pd_len T.b_len (pda_cons (pd_var 2) pda_nil)) (pd_var 9)) (pda_cons (pd_sub (pd_neg pd_int) (pd_var 9)) pda_nil)))))) (pgd_name 10 sc_law.nd)
   (pssd_cons (psd_if (ptd_not (ptd_val (pd_fn C__law_refused hr (by decide) (pda_cons (pd_fnT C__law_look hT hr (by decide) (pda_cons (pd_var 3) (pda_cons (pd_lst (pda_cons (pd_tup (pda_cons pd_int (pda_cons (pd_var 4) pda_nil))) pda_nil)) pda_nil))) (pda_cons (pd_var 10) pda_nil)))))
   (pssd_cons (psd_ret pd_bl)
   pssd_nil)
   pssd_nil)
   pssd_nil))
   (pssd_cons (psd_ret pd_bl)
   pssd_nil)))))))))) (fun ds d h=>mkF_ok h)
end
theorem us1 {α:Type}:∀ {us:List α},us.length = 1 → ∃ a,us = [a]
 | [a],_=>⟨a,rfl⟩
theorem us2 {α:Type}:∀ {us:List α},us.length = 2 → ∃ a b,us = [a,b]
 | [a,b],_=>⟨a,b,rfl⟩
theorem us3 {α:Type}:∀ {us:List α},us.length = 3 → ∃ a b c,us = [a,b,c]
 | [a,b,c],_=>⟨a,b,c,rfl⟩
set_option maxHeartbeats 0 in
theorem all_mk {l:W.OpenLaw} {w:World} {K:W.Frag} {h:Heap} {mg:Str → Option Value} {fa:Addr} (X:K.In h) (G:h.Ns mainGlobals mg) (hfa:mg "law" = some (.ref fa))
  {f0 f1 f2 f3 f4 f5 f6 f7 f8 f9 f10 f11 f12 f13 f14 f15 f16 f17 f18 f19 f20 f21 f22 f23 f24 f25 f26 f27:Addr}
  {od0 an0 od1 an1 od2 an2 od3 an3 od4 an4 od5 an5 od6 an6 od7 an7 od8 an8 od9 an9 od10 an10 od11 an11 od12 an12 od13 an13 od14 an14 od15 an15 od16 an16 od17 an17 od18 an18 od19 an19 od20 an20 od21 an21 od22 an22 od23 an23 od24 an24 od25 an25 od26 an26 od27 an27:Option Addr} {sl0 sl1 sl2 sl3 sl4 sl5 sl6 sl7 sl8 sl9 sl10 sl11 sl12 sl13 sl14 sl15 sl16 sl17 sl18 sl19 sl20 sl21 sl22 sl23 sl24 sl25 sl26 sl27:Array (Option Value)} {oc0 kV0 dc0 pm0 cd0 ct0 oc1 kV1 dc1 pm1 cd1 ct1 oc2 kV2 dc2 pm2 cd2 ct2 oc3 kV3 dc3 pm3 cd3 ct3 oc4 kV4 dc4 pm4 cd4 ct4 oc5 kV5 dc5 pm5 cd5 ct5 oc6 kV6 dc6 pm6 cd6 ct6 oc7 kV7 dc7 pm7 cd7 ct7 oc8 kV8 dc8 pm8 cd8 ct8 oc9 kV9 dc9 pm9 cd9 ct9 oc10 kV10 dc10 pm10 cd10 ct10 oc11 kV11 dc11 pm11 cd11 ct11 oc12 kV12 dc12 pm12 cd12 ct12 oc13 kV13 dc13 pm13 cd13 ct13 oc14 kV14 dc14 pm14 cd14 ct14 oc15 kV15 dc15 pm15 cd15 ct15 oc16 kV16 dc16 pm16 cd16 ct16 oc17 kV17 dc17 pm17 cd17 ct17 oc18 kV18 dc18 pm18 cd18 ct18 oc19 kV19 dc19 pm19 cd19 ct19 oc20 kV20 dc20 pm20 cd20 ct20 oc21 kV21 dc21 pm21 cd21 ct21 oc22 kV22 dc22 pm22 cd22 ct22 oc23 kV23 dc23 pm23 cd23 ct23 oc24 kV24 dc24 pm24 cd24 ct24 oc25 kV25 dc25 pm25 ct25 oc26 kV26 dc26 pm26 cd26 ct26 oc27 kV27 dc27 pm27 cd27 ct27:Value}
  {cL Pt:Addr}
  {t_BASE t_NAME_SIGNS t_WORD_SIGNS:Tok}
  (a0:W.nsIn K mainGlobals "unfolded" = some (some (.ref f0))) (l0:K.lookup f0 = some ⟨oc0,od0,.func (W.fnOf "unfolded" "unfolded" (defArgs (top 14)) (defBody (top 14)) (defScope (top 14)) .none kV0 dc0 pm0 an0 cd0 ct0),sl0⟩) (c0:W.codeIn K cd0 "unfolded" = true) (k0:W.keepIn K (.ref f0) = true)
  (a1:W.nsIn K mainGlobals "sign_of" = some (some (.ref f1))) (l1:K.lookup f1 = some ⟨oc1,od1,.func (W.fnOf "sign_of" "sign_of" (defArgs (top 19)) (defBody (top 19)) (defScope (top 19)) .none kV1 dc1 pm1 an1 cd1 ct1),sl1⟩) (c1:W.codeIn K cd1 "sign_of" = true) (k1:W.keepIn K (.ref f1) = true)
  (a2:W.nsIn K mainGlobals "wanted_items" = some (some (.ref f2))) (l2:K.lookup f2 = some ⟨oc2,od2,.func (W.fnOf "wanted_items" "wanted_items" (defArgs (top 20)) (defBody (top 20)) (defScope (top 20)) .none kV2 dc2 pm2 an2 cd2 ct2),sl2⟩) (c2:W.codeIn K cd2 "wanted_items" = true) (k2:W.keepIn K (.ref f2) = true)
  (a3:W.nsIn K mainGlobals "made_part" = some (some (.ref f3))) (l3:K.lookup f3 = some ⟨oc3,od3,.func (W.fnOf "made_part" "made_part" (defArgs (top 21)) (defBody (top 21)) (defScope (top 21)) .none kV3 dc3 pm3 an3 cd3 ct3),sl3⟩) (c3:W.codeIn K cd3 "made_part" = true) (k3:W.keepIn K (.ref f3) = true)
  (a4:W.nsIn K mainGlobals "made_pairs" = some (some (.ref f4))) (l4:K.lookup f4 = some ⟨oc4,od4,.func (W.fnOf "made_pairs" "made_pairs" (defArgs (top 22)) (defBody (top 22)) (defScope (top 22)) .none kV4 dc4 pm4 an4 cd4 ct4),sl4⟩) (c4:W.codeIn K cd4 "made_pairs" = true) (k4:W.keepIn K (.ref f4) = true)
  (a5:W.nsIn K mainGlobals "numbered_value" = some (some (.ref f5))) (l5:K.lookup f5 = some ⟨oc5,od5,.func (W.fnOf "numbered_value" "numbered_value" (defArgs (top 24)) (defBody (top 24)) (defScope (top 24)) .none kV5 dc5 pm5 an5 cd5 ct5),sl5⟩) (c5:W.codeIn K cd5 "numbered_value" = true) (k5:W.keepIn K (.ref f5) = true)
  (a6:W.nsIn K mainGlobals "count_of" = some (some (.ref f6))) (l6:K.lookup f6 = some ⟨oc6,od6,.func (W.fnOf "count_of" "count_of" (defArgs (top 25)) (defBody (top 25)) (defScope (top 25)) .none kV6 dc6 pm6 an6 cd6 ct6),sl6⟩) (c6:W.codeIn K cd6 "count_of" = true) (k6:W.keepIn K (.ref f6) = true)
  (a7:W.nsIn K mainGlobals "part_of" = some (some (.ref f7))) (l7:K.lookup f7 = some ⟨oc7,od7,.func (W.fnOf "part_of" "part_of" (defArgs (top 26)) (defBody (top 26)) (defScope (top 26)) .none kV7 dc7 pm7 an7 cd7 ct7),sl7⟩) (c7:W.codeIn K cd7 "part_of" = true) (k7:W.keepIn K (.ref f7) = true)
  (a8:W.nsIn K mainGlobals "number_at" = some (some (.ref f8))) (l8:K.lookup f8 = some ⟨oc8,od8,.func (W.fnOf "number_at" "number_at" (defArgs (top 27)) (defBody (top 27)) (defScope (top 27)) .none kV8 dc8 pm8 an8 cd8 ct8),sl8⟩) (c8:W.codeIn K cd8 "number_at" = true) (k8:W.keepIn K (.ref f8) = true)
  (a9:W.nsIn K mainGlobals "part_starts" = some (some (.ref f9))) (l9:K.lookup f9 = some ⟨oc9,od9,.func (W.fnOf "part_starts" "part_starts" (defArgs (top 28)) (defBody (top 28)) (defScope (top 28)) .none kV9 dc9 pm9 an9 cd9 ct9),sl9⟩) (c9:W.codeIn K cd9 "part_starts" = true) (k9:W.keepIn K (.ref f9) = true)
  (a10:W.nsIn K mainGlobals "part_at" = some (some (.ref f10))) (l10:K.lookup f10 = some ⟨oc10,od10,.func (W.fnOf "part_at" "part_at" (defArgs (top 29)) (defBody (top 29)) (defScope (top 29)) .none kV10 dc10 pm10 an10 cd10 ct10),sl10⟩) (c10:W.codeIn K cd10 "part_at" = true) (k10:W.keepIn K (.ref f10) = true)
  (a11:W.nsIn K mainGlobals "item_at" = some (some (.ref f11))) (l11:K.lookup f11 = some ⟨oc11,od11,.func (W.fnOf "item_at" "item_at" (defArgs (top 30)) (defBody (top 30)) (defScope (top 30)) .none kV11 dc11 pm11 an11 cd11 ct11),sl11⟩) (c11:W.codeIn K cd11 "item_at" = true) (k11:W.keepIn K (.ref f11) = true)
  (a12:W.nsIn K mainGlobals "name_at" = some (some (.ref f12))) (l12:K.lookup f12 = some ⟨oc12,od12,.func (W.fnOf "name_at" "name_at" (defArgs (top 31)) (defBody (top 31)) (defScope (top 31)) .none kV12 dc12 pm12 an12 cd12 ct12),sl12⟩) (c12:W.codeIn K cd12 "name_at" = true) (k12:W.keepIn K (.ref f12) = true)
  (a13:W.nsIn K mainGlobals "_law_cell_at" = some (some (.ref f13))) (l13:K.lookup f13 = some ⟨oc13,od13,.func (W.fnOf "_law_cell_at" "_law_cell_at" (defArgs (top 33)) (defBody (top 33)) (defScope (top 33)) .none kV13 dc13 pm13 an13 cd13 ct13),sl13⟩) (c13:W.codeIn K cd13 "_law_cell_at" = true) (k13:W.keepIn K (.ref f13) = true)
  (a14:W.nsIn K mainGlobals "_law_mix" = some (some (.ref f14))) (l14:K.lookup f14 = some ⟨oc14,od14,.func (W.fnOf "_law_mix" "_law_mix" (defArgs (top 34)) (defBody (top 34)) (defScope (top 34)) .none kV14 dc14 pm14 an14 cd14 ct14),sl14⟩) (c14:W.codeIn K cd14 "_law_mix" = true) (k14:W.keepIn K (.ref f14) = true)
  (a15:W.nsIn K mainGlobals "_law_pool" = some (some (.ref f15))) (l15:K.lookup f15 = some ⟨oc15,od15,.func (W.fnOf "_law_pool" "_law_pool" (defArgs (top 35)) (defBody (top 35)) (defScope (top 35)) .none kV15 dc15 pm15 an15 cd15 ct15),sl15⟩) (c15:W.codeIn K cd15 "_law_pool" = true) (k15:W.keepIn K (.ref f15) = true)
  (a16:W.nsIn K mainGlobals "_law_one_value" = some (some (.ref f16))) (l16:K.lookup f16 = some ⟨oc16,od16,.func (W.fnOf "_law_one_value" "_law_one_value" (defArgs (top 36)) (defBody (top 36)) (defScope (top 36)) .none kV16 dc16 pm16 an16 cd16 ct16),sl16⟩) (c16:W.codeIn K cd16 "_law_one_value" = true) (k16:W.keepIn K (.ref f16) = true)
  (a17:W.nsIn K mainGlobals "_law_drawn_part" = some (some (.ref f17))) (l17:K.lookup f17 = some ⟨oc17,od17,.func (W.fnOf "_law_drawn_part" "_law_drawn_part" (defArgs (top 37)) (defBody (top 37)) (defScope (top 37)) .none kV17 dc17 pm17 an17 cd17 ct17),sl17⟩) (c17:W.codeIn K cd17 "_law_drawn_part" = true) (k17:W.keepIn K (.ref f17) = true)
  (a18:W.nsIn K mainGlobals "_law_built" = some (some (.ref f18))) (l18:K.lookup f18 = some ⟨oc18,od18,.func (W.fnOf "_law_built" "_law_built" (defArgs (top 38)) (defBody (top 38)) (defScope (top 38)) .none kV18 dc18 pm18 an18 cd18 ct18),sl18⟩) (c18:W.codeIn K cd18 "_law_built" = true) (k18:W.keepIn K (.ref f18) = true)
  (a19:W.nsIn K mainGlobals "_law_digits" = some (some (.ref f19))) (l19:K.lookup f19 = some ⟨oc19,od19,.func (W.fnOf "_law_digits" "_law_digits" (defArgs (top 39)) (defBody (top 39)) (defScope (top 39)) .none kV19 dc19 pm19 an19 cd19 ct19),sl19⟩) (c19:W.codeIn K cd19 "_law_digits" = true) (k19:W.keepIn K (.ref f19) = true)
  (a20:W.nsIn K mainGlobals "_law_signs" = some (some (.ref f20))) (l20:K.lookup f20 = some ⟨oc20,od20,.func (W.fnOf "_law_signs" "_law_signs" (defArgs (top 40)) (defBody (top 40)) (defScope (top 40)) .none kV20 dc20 pm20 an20 cd20 ct20),sl20⟩) (c20:W.codeIn K cd20 "_law_signs" = true) (k20:W.keepIn K (.ref f20) = true)
  (a21:W.nsIn K mainGlobals "_law_value_bytes" = some (some (.ref f21))) (l21:K.lookup f21 = some ⟨oc21,od21,.func (W.fnOf "_law_value_bytes" "_law_value_bytes" (defArgs (top 41)) (defBody (top 41)) (defScope (top 41)) .none kV21 dc21 pm21 an21 cd21 ct21),sl21⟩) (c21:W.codeIn K cd21 "_law_value_bytes" = true) (k21:W.keepIn K (.ref f21) = true)
  (a22:W.nsIn K mainGlobals "_law_part_bytes" = some (some (.ref f22))) (l22:K.lookup f22 = some ⟨oc22,od22,.func (W.fnOf "_law_part_bytes" "_law_part_bytes" (defArgs (top 42)) (defBody (top 42)) (defScope (top 42)) .none kV22 dc22 pm22 an22 cd22 ct22),sl22⟩) (c22:W.codeIn K cd22 "_law_part_bytes" = true) (k22:W.keepIn K (.ref f22) = true)
  (a23:W.nsIn K mainGlobals "_law_laid_out" = some (some (.ref f23))) (l23:K.lookup f23 = some ⟨oc23,od23,.func (W.fnOf "_law_laid_out" "_law_laid_out" (defArgs (top 43)) (defBody (top 43)) (defScope (top 43)) .none kV23 dc23 pm23 an23 cd23 ct23),sl23⟩) (c23:W.codeIn K cd23 "_law_laid_out" = true) (k23:W.keepIn K (.ref f23) = true)
  (a24:W.nsIn K mainGlobals "_law_alike" = some (some (.ref f24))) (l24:K.lookup f24 = some ⟨oc24,od24,.func (W.fnOf "_law_alike" "_law_alike" (defArgs (top 44)) (defBody (top 44)) (defScope (top 44)) .none kV24 dc24 pm24 an24 cd24 ct24),sl24⟩) (c24:W.codeIn K cd24 "_law_alike" = true) (k24:W.keepIn K (.ref f24) = true)
  (a25:W.nsIn K mainGlobals "_law_look" = some (some (.ref f25))) (l25:K.lookup f25 = some ⟨oc25,od25,.func (W.fnOf "_law_look" "_law_look" (defArgs (top 45)) (defBody (top 45)) (defScope (top 45)) .none kV25 dc25 pm25 an25 (.ref cL) ct25),sl25⟩) (c25:W.codeIn K (.ref cL) "_law_look" = true) (k25:W.keepIn K (.ref f25) = true)
  (a26:W.nsIn K mainGlobals "_law_refused" = some (some (.ref f26))) (l26:K.lookup f26 = some ⟨oc26,od26,.func (W.fnOf "_law_refused" "_law_refused" (defArgs (top 46)) (defBody (top 46)) (defScope (top 46)) .none kV26 dc26 pm26 an26 cd26 ct26),sl26⟩) (c26:W.codeIn K cd26 "_law_refused" = true) (k26:W.keepIn K (.ref f26) = true)
  (a27:W.nsIn K mainGlobals "law" = some (some (.ref f27))) (l27:K.lookup f27 = some ⟨oc27,od27,.func (W.fnOf "law" "law" (defArgs (top 47)) (defBody (top 47)) (defScope (top 47)) .none kV27 dc27 pm27 an27 cd27 ct27),sl27⟩) (c27:W.codeIn K cd27 "law" = true) (k27:W.keepIn K (.ref f27) = true)
  (z_ValueError:W.nsIn K mainGlobals "ValueError" = some none)
  (z_all:W.nsIn K mainGlobals "all" = some none)
  (z_bool:W.nsIn K mainGlobals "bool" = some none)
  (z_int:W.nsIn K mainGlobals "int" = some none)
  (z_isinstance:W.nsIn K mainGlobals "isinstance" = some none)
  (z_len:W.nsIn K mainGlobals "len" = some none)
  (z_list:W.nsIn K mainGlobals "list" = some none)
  (z_ord:W.nsIn K mainGlobals "ord" = some none)
  (z_range:W.nsIn K mainGlobals "range" = some none)
  (z_str:W.nsIn K mainGlobals "str" = some none)
  (z_tuple:W.nsIn K mainGlobals "tuple" = some none)
  (z_zip:W.nsIn K mainGlobals "zip" = some none)
  (y_BASE:W.nsIn K mainGlobals "BASE" = some (some (.int 128 t_BASE)))
  (y_NAME_SIGNS:W.nsIn K mainGlobals "NAME_SIGNS" = some (some (.str "0123456789abcdefghijklmnopqrstuvwxyz" t_NAME_SIGNS)))
  (y_WORD_SIGNS:W.nsIn K mainGlobals "WORD_SIGNS" = some (some (.str " 0123456789abcdefghijklmnopqrstuvwxyz" t_WORD_SIGNS)))
  {kA_KINDS:Addr} {kn_KINDS:Nat} {ks_KINDS:Array (Option Value)} {kt_KINDS_0 kt_KINDS_1 kt_KINDS_2 kt_KINDS_3:Tok}
  (kN_KINDS:W.nsIn K mainGlobals "KINDS" = some (some (.ref kA_KINDS))) (kL_KINDS:K.lookup kA_KINDS = some ⟨.type "tuple",none,.seq #[.str "text" kt_KINDS_0,.str "row" kt_KINDS_1,.str "table" kt_KINDS_2,.str "record" kt_KINDS_3] kn_KINDS,ks_KINDS⟩)
  (xt:XC.tabB K "WebError" ["NoText", "NoPlace", "NoValue", "TooMany", "NoMake", "NoBase", "NoRow", "NoName", "NoWay", "NoPack"] ["NoText", "NoPlace", "NoValue", "TooMany", "NoMake", "NoBase", "NoRow", "NoName"] = true)
  : ∃ fd:FuncData,(∀ (s:Shared) (v:Value),BindsTo s fd ⟨[v],[]⟩ [("_law_script",v)]) ∧ ∀ base:Heap,K.In base → base.Ns mainGlobals mg → W.CodeHd base cL Pt → base.BuiltinsAt mg Pt → FnOk l.prog w K mg base CX0 9 fa fd ["_law_script"] (spT Pt (("_law_look" : Str) ++ ".<locals>." ++ "<lambda>") (spD K m_law)):=by
 have e:=hfa.symm.trans (W.mg_of X G a27)
 cases e
 have T:Txt mg:=⟨W.mg_none_of X G z_ValueError,W.mg_none_of X G z_all,W.mg_none_of X G z_bool,W.mg_none_of X G z_int,W.mg_none_of X G z_isinstance,W.mg_none_of X G z_len,W.mg_none_of X G z_list,W.mg_none_of X G z_ord,W.mg_none_of X G z_range,W.mg_none_of X G z_str,W.mg_none_of X G z_tuple,W.mg_none_of X G z_zip,⟨_,W.mg_of X G y_BASE⟩,⟨_,W.mg_of X G y_NAME_SIGNS⟩,⟨_,W.mg_of X G y_WORD_SIGNS⟩⟩
 have K_KINDS:TupK K mg "KINDS" ["text", "row", "table", "record"]:=⟨_,_,_,_,W.mg_of X G kN_KINDS,kL_KINDS,rfl,rfl,rfl,(by show 4 ≤ sizeLine; decide),.cons ⟨_,rfl⟩ (.cons ⟨_,rfl⟩ (.cons ⟨_,rfl⟩ (.cons ⟨_,rfl⟩ (.nil))))⟩
 obtain ⟨rr,XT⟩:=XC.tab_of X G xt
 have F0:=fun_mk (st:=top 14) l0 c0 k0
 have F1:=fun_mk (st:=top 19) l1 c1 k1
 have F2:=fun_mk (st:=top 20) l2 c2 k2
 have F3:=fun_mk (st:=top 21) l3 c3 k3
 have F4:=fun_mk (st:=top 22) l4 c4 k4
 have F5:=fun_mk (st:=top 24) l5 c5 k5
 have F6:=fun_mk (st:=top 25) l6 c6 k6
 have F7:=fun_mk (st:=top 26) l7 c7 k7
 have F8:=fun_mk (st:=top 27) l8 c8 k8
 have F9:=fun_mk (st:=top 28) l9 c9 k9
 have F10:=fun_mk (st:=top 29) l10 c10 k10
 have F11:=fun_mk (st:=top 30) l11 c11 k11
 have F12:=fun_mk (st:=top 31) l12 c12 k12
 have F13:=fun_mk (st:=top 33) l13 c13 k13
 have F14:=fun_mk (st:=top 34) l14 c14 k14
 have F15:=fun_mk (st:=top 35) l15 c15 k15
 have F16:=fun_mk (st:=top 36) l16 c16 k16
 have F17:=fun_mk (st:=top 37) l17 c17 k17
 have F18:=fun_mk (st:=top 38) l18 c18 k18
 have F19:=fun_mk (st:=top 39) l19 c19 k19
 have F20:=fun_mk (st:=top 40) l20 c20 k20
 have F21:=fun_mk (st:=top 41) l21 c21 k21
 have F22:=fun_mk (st:=top 42) l22 c22 k22
 have F23:=fun_mk (st:=top 43) l23 c23 k23
 have F24:=fun_mk (st:=top 44) l24 c24 k24
 have F25:=fun_mk (st:=top 45) l25 c25 k25
 have F26:=fun_mk (st:=top 46) l26 c26 k26
 have F27:=fun_mk (st:=top 47) l27 c27 k27
 refine ⟨W.fnOf "law" "law" (defArgs (top 47)) (defBody (top 47)) (defScope (top 47)) .none kV27 dc27 pm27 an27 cd27 ct27,fun s v=>.of_eq rfl,fun base _ _ hCd hBt=>?_⟩
 have C_unfolded:FnD l.prog w K mg base "unfolded" 1 ["number"] m_unfolded:=⟨f0,_,ok_unfolded F0 T ,W.mg_of X G a0,k0,F0.binds (ps:=["number"]) fun _ _ _ _ _ _ us hl=>by obtain ⟨_,rfl⟩:=us1 hl; rfl⟩
 have C_sign_of:FnD l.prog w K mg base "sign_of" 1 ["byte", "signs"] m_sign_of:=⟨f1,_,ok_sign_of F1 T ,W.mg_of X G a1,k1,F1.binds (ps:=["byte", "signs"]) fun _ _ _ _ _ _ us hl=>by obtain ⟨_,_,rfl⟩:=us2 hl; rfl⟩
 have C_wanted_items:FnD l.prog w K mg base "wanted_items" 1 ["kind", "size"] m_wanted_items:=⟨f2,_,ok_wanted_items F2 T ,W.mg_of X G a2,k2,F2.binds (ps:=["kind", "size"]) fun _ _ _ _ _ _ us hl=>by obtain ⟨_,_,rfl⟩:=us2 hl; rfl⟩
 have C_made_pairs:FnD l.prog w K mg base "made_pairs" 1 ["held"] m_made_pairs:=⟨f4,_,ok_made_pairs F4 T ,W.mg_of X G a4,k4,F4.binds (ps:=["held"]) fun _ _ _ _ _ _ us hl=>by obtain ⟨_,rfl⟩:=us1 hl; rfl⟩
 have C_number_at:FnD l.prog w K mg base "number_at" 1 ["look", "place"] m_number_at:=⟨f8,_,ok_number_at F8 T ,W.mg_of X G a8,k8,F8.binds (ps:=["look", "place"]) fun _ _ _ _ _ _ us hl=>by obtain ⟨_,_,rfl⟩:=us2 hl; rfl⟩
 have C__law_cell_at:FnD l.prog w K mg base "_law_cell_at" 1 ["_law_script", "_law_k"] m__law_cell_at:=⟨f13,_,ok__law_cell_at F13 T ,W.mg_of X G a13,k13,F13.binds (ps:=["_law_script", "_law_k"]) fun _ _ _ _ _ _ us hl=>by obtain ⟨_,_,rfl⟩:=us2 hl; rfl⟩
 have C__law_mix:FnD l.prog w K mg base "_law_mix" 1 ["_law_cell", "_law_k"] m__law_mix:=⟨f14,_,ok__law_mix F14 T ,W.mg_of X G a14,k14,F14.binds (ps:=["_law_cell", "_law_k"]) fun _ _ _ _ _ _ us hl=>by obtain ⟨_,_,rfl⟩:=us2 hl; rfl⟩
 have C__law_digits:FnN l.prog w K mg base "_law_digits" 1 ["_law_number"] m__law_digits:=⟨f19,_,ok__law_digits F19 T ,W.mg_of X G a19,k19,F19.binds (ps:=["_law_number"]) fun _ _ _ _ _ _ us hl=>by obtain ⟨_,rfl⟩:=us1 hl; rfl⟩
 have C__law_signs:FnN l.prog w K mg base "_law_signs" 1 ["_law_word"] m__law_signs:=⟨f20,_,ok__law_signs F20 T ,W.mg_of X G a20,k20,F20.binds (ps:=["_law_word"]) fun _ _ _ _ _ _ us hl=>by obtain ⟨_,rfl⟩:=us1 hl; rfl⟩
 have C__law_look:FnDT l.prog w K mg base Pt (("_law_look" : Str) ++ ".<locals>." ++ "<lambda>") "_law_look" 1 ["_law_whole", "_law_spans"] m__law_look:=⟨f25,_,ok__law_look ⟨⟨_,_,_,_,_,_,_,_,rfl,l25,c25⟩⟩ hCd hBt T ,W.mg_of X G a25,k25,F25.binds (ps:=["_law_whole", "_law_spans"]) fun _ _ _ _ _ _ us hl=>by obtain ⟨_,_,rfl⟩:=us2 hl; rfl⟩
 have C_made_part:FnD l.prog w K mg base "made_part" 2 ["kind", "held"] m_made_part:=⟨f3,_,ok_made_part F3 T C_made_pairs,W.mg_of X G a3,k3,F3.binds (ps:=["kind", "held"]) fun _ _ _ _ _ _ us hl=>by obtain ⟨_,_,rfl⟩:=us2 hl; rfl⟩
 have C_numbered_value:FnD l.prog w K mg base "numbered_value" 2 ["number"] m_numbered_value:=⟨f5,_,ok_numbered_value F5 T C_unfolded,W.mg_of X G a5,k5,F5.binds (ps:=["number"]) fun _ _ _ _ _ _ us hl=>by obtain ⟨_,rfl⟩:=us1 hl; rfl⟩
 have C_count_of:FnD l.prog w K mg base "count_of" 2 ["look"] m_count_of:=⟨f6,_,ok_count_of F6 T C_number_at,W.mg_of X G a6,k6,F6.binds (ps:=["look"]) fun _ _ _ _ _ _ us hl=>by obtain ⟨_,rfl⟩:=us1 hl; rfl⟩
 have X_part_starts:FnX l.prog w K mg base "part_starts" 2 ["look", "k"] m_part_starts:=⟨⟨f9,_,ok_part_starts F9 T XT C_number_at,W.mg_of X G a9,k9,F9.binds (ps:=["look", "k"]) fun _ _ _ _ _ _ us hl=>by obtain ⟨_,_,rfl⟩:=us2 hl; rfl⟩⟩
 have C_name_at:FnD l.prog w K mg base "name_at" 2 ["look", "start", "length"] m_name_at:=⟨f12,_,ok_name_at F12 T C_sign_of,W.mg_of X G a12,k12,F12.binds (ps:=["look", "start", "length"]) fun _ _ _ _ _ _ us hl=>by obtain ⟨_,_,_,rfl⟩:=us3 hl; rfl⟩
 have C__law_pool:FnN l.prog w K mg base "_law_pool" 2 ["_law_cell", "_law_many"] m__law_pool:=⟨f15,_,ok__law_pool F15 T C__law_mix,W.mg_of X G a15,k15,F15.binds (ps:=["_law_cell", "_law_many"]) fun _ _ _ _ _ _ us hl=>by obtain ⟨_,_,rfl⟩:=us2 hl; rfl⟩
 have C__law_one_value:FnD l.prog w K mg base "_law_one_value" 2 ["_law_cell", "_law_k", "_law_many"] m__law_one_value:=⟨f16,_,ok__law_one_value F16 T C__law_mix,W.mg_of X G a16,k16,F16.binds (ps:=["_law_cell", "_law_k", "_law_many"]) fun _ _ _ _ _ _ us hl=>by obtain ⟨_,_,_,rfl⟩:=us3 hl; rfl⟩
 have C__law_value_bytes:FnN l.prog w K mg base "_law_value_bytes" 2 ["_law_value"] m__law_value_bytes:=⟨f21,_,ok__law_value_bytes F21 T C__law_digits,W.mg_of X G a21,k21,F21.binds (ps:=["_law_value"]) fun _ _ _ _ _ _ us hl=>by obtain ⟨_,rfl⟩:=us1 hl; rfl⟩
 have C_item_at:FnD l.prog w K mg base "item_at" 3 ["look", "place", "want"] m_item_at:=⟨f11,_,ok_item_at F11 T C_name_at C_number_at C_numbered_value C_sign_of,W.mg_of X G a11,k11,F11.binds (ps:=["look", "place", "want"]) fun _ _ _ _ _ _ us hl=>by obtain ⟨_,_,_,rfl⟩:=us3 hl; rfl⟩
 have C__law_drawn_part:FnD l.prog w K mg base "_law_drawn_part" 3 ["_law_cell", "_law_names", "_law_many"] m__law_drawn_part:=⟨f17,_,ok__law_drawn_part F17 T C__law_mix C__law_one_value,W.mg_of X G a17,k17,F17.binds (ps:=["_law_cell", "_law_names", "_law_many"]) fun _ _ _ _ _ _ us hl=>by obtain ⟨_,_,_,rfl⟩:=us3 hl; rfl⟩
 have C__law_part_bytes:FnD l.prog w K mg base "_law_part_bytes" 3 ["_law_part"] m__law_part_bytes:=⟨f22,_,ok__law_part_bytes F22 T C__law_digits C__law_signs C__law_value_bytes,W.mg_of X G a22,k22,F22.binds (ps:=["_law_part"]) fun _ _ _ _ _ _ us hl=>by obtain ⟨_,rfl⟩:=us1 hl; rfl⟩
 have C_part_at:FnD l.prog w K mg base "part_at" 4 ["look", "start"] m_part_at:=⟨f10,_,ok_part_at F10 T K_KINDS C_item_at C_made_part C_number_at C_wanted_items,W.mg_of X G a10,k10,F10.binds (ps:=["look", "start"]) fun _ _ _ _ _ _ us hl=>by obtain ⟨_,_,rfl⟩:=us2 hl; rfl⟩
 have C__law_built:FnD l.prog w K mg base "_law_built" 4 ["_law_script", "_law_start", "_law_most"] m__law_built:=⟨f18,_,ok__law_built F18 T C__law_cell_at C__law_drawn_part C__law_mix C__law_pool,W.mg_of X G a18,k18,F18.binds (ps:=["_law_script", "_law_start", "_law_most"]) fun _ _ _ _ _ _ us hl=>by obtain ⟨_,_,_,rfl⟩:=us3 hl; rfl⟩
 have C__law_laid_out:FnD l.prog w K mg base "_law_laid_out" 4 ["_law_web"] m__law_laid_out:=⟨f23,_,ok__law_laid_out F23 T C__law_digits C__law_part_bytes,W.mg_of X G a23,k23,F23.binds (ps:=["_law_web"]) fun _ _ _ _ _ _ us hl=>by obtain ⟨_,rfl⟩:=us1 hl; rfl⟩
 have X_part_of:FnX l.prog w K mg base "part_of" 5 ["look", "k"] m_part_of:=⟨⟨f7,_,ok_part_of F7 T C_part_at X_part_starts,W.mg_of X G a7,k7,F7.binds (ps:=["look", "k"]) fun _ _ _ _ _ _ us hl=>by obtain ⟨_,_,rfl⟩:=us2 hl; rfl⟩⟩
 have C_part_of:=X_part_of.plain
 have C__law_refused:FnD l.prog w K mg base "_law_refused" 6 ["_law_look_here", "_law_k"] m__law_refused:=⟨f26,_,ok__law_refused F26 T XT X_part_of,W.mg_of X G a26,k26,F26.binds (ps:=["_law_look_here", "_law_k"]) fun _ _ _ _ _ _ us hl=>by obtain ⟨_,_,rfl⟩:=us2 hl; rfl⟩
 have C__law_alike_0:FnD l.prog w K mg base "_law_alike" 0 ["_law_found", "_law_due"] (mR__law_alike 0):=⟨f24,W.fnOf "_law_alike" "_law_alike" (defArgs (top 44)) (defBody (top 44)) (defScope (top 44)) .none kV24 dc24 pm24 an24 cd24 ct24,fnOk_never,W.mg_of X G a24,k24,F24.binds (ps:=["_law_found", "_law_due"]) fun _ _ _ _ _ _ us hl=>by obtain ⟨_,_,rfl⟩:=us2 hl; rfl⟩
 have C__law_alike_1:FnD l.prog w K mg base "_law_alike" 1 ["_law_found", "_law_due"] (mR__law_alike 1):=⟨f24,_,ok__law_alike F24 T _ 0 C__law_alike_0 ,W.mg_of X G a24,k24,F24.binds (ps:=["_law_found", "_law_due"]) fun _ _ _ _ _ _ us hl=>by obtain ⟨_,_,rfl⟩:=us2 hl; rfl⟩
 have C__law_alike_2:FnD l.prog w K mg base "_law_alike" 2 ["_law_found", "_law_due"] (mR__law_alike 2):=⟨f24,_,ok__law_alike F24 T _ 1 C__law_alike_1 ,W.mg_of X G a24,k24,F24.binds (ps:=["_law_found", "_law_due"]) fun _ _ _ _ _ _ us hl=>by obtain ⟨_,_,rfl⟩:=us2 hl; rfl⟩
 have C__law_alike_3:FnD l.prog w K mg base "_law_alike" 3 ["_law_found", "_law_due"] (mR__law_alike 3):=⟨f24,_,ok__law_alike F24 T _ 2 C__law_alike_2 ,W.mg_of X G a24,k24,F24.binds (ps:=["_law_found", "_law_due"]) fun _ _ _ _ _ _ us hl=>by obtain ⟨_,_,rfl⟩:=us2 hl; rfl⟩
 have C__law_alike_4:FnD l.prog w K mg base "_law_alike" 4 ["_law_found", "_law_due"] (mR__law_alike 4):=⟨f24,_,ok__law_alike F24 T _ 3 C__law_alike_3 ,W.mg_of X G a24,k24,F24.binds (ps:=["_law_found", "_law_due"]) fun _ _ _ _ _ _ us hl=>by obtain ⟨_,_,rfl⟩:=us2 hl; rfl⟩
 have C__law_alike_5:FnD l.prog w K mg base "_law_alike" 5 ["_law_found", "_law_due"] (mR__law_alike 5):=⟨f24,_,ok__law_alike F24 T _ 4 C__law_alike_4 ,W.mg_of X G a24,k24,F24.binds (ps:=["_law_found", "_law_due"]) fun _ _ _ _ _ _ us hl=>by obtain ⟨_,_,rfl⟩:=us2 hl; rfl⟩
 have C__law_alike_6:FnD l.prog w K mg base "_law_alike" 6 ["_law_found", "_law_due"] (mR__law_alike 6):=⟨f24,_,ok__law_alike F24 T _ 5 C__law_alike_5 ,W.mg_of X G a24,k24,F24.binds (ps:=["_law_found", "_law_due"]) fun _ _ _ _ _ _ us hl=>by obtain ⟨_,_,rfl⟩:=us2 hl; rfl⟩
 have C__law_alike_7:FnD l.prog w K mg base "_law_alike" 7 ["_law_found", "_law_due"] (mR__law_alike 7):=⟨f24,_,ok__law_alike F24 T _ 6 C__law_alike_6 ,W.mg_of X G a24,k24,F24.binds (ps:=["_law_found", "_law_due"]) fun _ _ _ _ _ _ us hl=>by obtain ⟨_,_,rfl⟩:=us2 hl; rfl⟩
 have C__law_alike_8:FnD l.prog w K mg base "_law_alike" 8 ["_law_found", "_law_due"] (mR__law_alike 8):=⟨f24,_,ok__law_alike F24 T _ 7 C__law_alike_7 ,W.mg_of X G a24,k24,F24.binds (ps:=["_law_found", "_law_due"]) fun _ _ _ _ _ _ us hl=>by obtain ⟨_,_,rfl⟩:=us2 hl; rfl⟩
 have C__law_alike:FnD l.prog w K mg base "_law_alike" 8 ["_law_found", "_law_due"] m__law_alike:=C__law_alike_8
 exact ok_law F27 T C__law_alike C__law_built C__law_cell_at C__law_laid_out C__law_look C__law_mix C__law_refused C_count_of C_part_of
theorem rps_ints {K:W.Frag} {H:Hp} {B:BS}:∀ ns:List Int,Rps K H B (ns.map D.int) (ns.map V.int)
 | []=>by rw [List.map_nil,List.map_nil,rps_nil]
 | n :: ns=>by
  rw [List.map_cons,List.map_cons,rps_cons]
  exact ⟨_,_,rfl,by rw [rp_int],rps_ints ns⟩
theorem start_law {K:W.Frag} {H:Hp} {a:Addr} {ns:List Int} (hS:SqL K H a (ns.map V.int)) (hm:m_law [.lst (ns.map .int)] = some (.bl true)):spD K m_law [.ref a] H (fun v _=>v = .bl true) fun _ _ _=>False:=by
 refine ⟨fun _=>False,[.lst (ns.map .int)],.bl true,fun _ z=>z.elim,?_,hm,fun v H' _ r=>by rw [rp_bl] at r; exact r⟩
 rw [rps_cons]
 refine ⟨_,[],rfl,?_,by rw [rps_nil]⟩
 rw [rp_lst]
 refine ⟨a,ns.map V.int,rfl,?_,rps_ints ns⟩
 rcases hS with h | h
 ·exact .inl ⟨fun z=>z,h⟩
 ·exact .inr (.inr h)
end Ia
open PySem PySem.W PyProof.Rows
theorem PySem.W.Fast.tw11735392364143689416:True:=trivial
theorem PySem.W.Fast.tw7192162097062917608:True:=trivial
theorem PySem.W.Fast.tw6864610877203330460:True:=trivial
theorem PySem.W.Fast.tw10427279594351998573:True:=trivial
theorem PySem.W.Fast.tw17413750274604436659:True:=trivial
theorem PySem.W.Fast.tw17582120043481242503:True:=trivial
theorem PySem.W.Fast.tw6348551330320979264:True:=trivial
theorem PySem.W.Fast.tw7620241062588867629:True:=trivial
theorem PySem.W.Fast.tw8402582303541762636:True:=trivial
theorem PySem.W.Fast.tw10786890372207650371:True:=trivial
theorem PySem.W.Fast.tw13468600484074647155:True:=trivial
theorem PySem.W.Fast.tw2568064288478636690:True:=trivial
theorem PySem.W.Fast.tw13216537749643369318:True:=trivial
theorem PySem.W.Fast.tw14183487461249899206:True:=trivial
theorem PySem.W.Fast.tw2656106425171935510:True:=trivial
theorem PySem.W.Fast.tw904851037067317214:True:=trivial
theorem PySem.W.Fast.tw6819011264910937006:True:=trivial
theorem PySem.W.Fast.tw306006706308949516:True:=trivial
theorem PySem.W.Fast.tw3408671741238765349:True:=trivial
theorem PySem.W.Fast.tw11832314025897894039:True:=trivial
theorem PySem.W.Fast.tw6170311698384936196:True:=trivial
theorem PySem.W.Fast.tw7831661622105760075:True:=trivial
theorem PySem.W.Fast.tw7232719271648350786:True:=trivial
theorem PySem.W.Fast.tw13769772245321913086:True:=trivial
theorem PySem.W.Fast.tw14780733223666345744:True:=trivial
theorem PySem.W.Fast.tw14336801670934764720:True:=trivial
theorem PySem.W.Fast.tw3030548634987212672:True:=trivial
theorem PySem.W.Fast.tw8258021961738592072:True:=trivial
theorem PySem.W.Fast.tw9327946417197388749:True:=trivial
theorem PySem.W.Fast.tw18131268130760499559:True:=trivial
theorem PySem.W.Fast.tw9824668523709495208:True:=trivial
theorem PySem.W.Fast.tw1101671961883215355:True:=trivial
theorem PySem.W.Fast.tw14131303831779503291:True:=trivial
theorem PySem.W.Fast.tw290023486697972564:True:=trivial
theorem PySem.W.Fast.tw6869356025672176385:True:=trivial
theorem PySem.W.Fast.tw11631452242276691925:True:=trivial
theorem PySem.W.Fast.tw6056310038062401540:True:=trivial
theorem PySem.W.Fast.tw3348959498597235522:True:=trivial
theorem PySem.W.Fast.tw8231217863806411627:True:=trivial
theorem PySem.W.Fast.tw11480957073995180790:True:=trivial
set_option maxRecDepth 100000 in
set_option maxHeartbeats 0 in
theorem PySem.Challenge.cw_graphpack_k36_parts_read_alone_holds : PySem.Challenge.rw_graphpack_k36_parts_read_alone.Holds := by
 w_on; o_law; k_head; (case hw=>w_witness2)
 k_fill
 refine L2.walk_ofT (l:=PySem.Challenge.rw_graphpack_k36_parts_read_alone) (n:=63) (k:=9) (x := "_law_script") (c0:=?cL) (q:=(("_law_look" : Str) ++ ".<locals>." ++ "<lambda>")) (CX:=L2.CX0) (sp:=fun K=>DL.spD K Ia.m_law) rfl (by decide) rfl ⟨rfl,by decide,by decide⟩ ?KP ?HC ?F ?S ?C
 case F =>
  intro w mg fa h KX G hmg
  refine' Ia.all_mk KX G hmg ?a0 ?l0 ?c0 ?k0 ?a1 ?l1 ?c1 ?k1 ?a2 ?l2 ?c2 ?k2 ?a3 ?l3 ?c3 ?k3 ?a4 ?l4 ?c4 ?k4 ?a5 ?l5 ?c5 ?k5 ?a6 ?l6 ?c6 ?k6 ?a7 ?l7 ?c7 ?k7 ?a8 ?l8 ?c8 ?k8 ?a9 ?l9 ?c9 ?k9 ?a10 ?l10 ?c10 ?k10 ?a11 ?l11 ?c11 ?k11 ?a12 ?l12 ?c12 ?k12 ?a13 ?l13 ?c13 ?k13 ?a14 ?l14 ?c14 ?k14 ?a15 ?l15 ?c15 ?k15 ?a16 ?l16 ?c16 ?k16 ?a17 ?l17 ?c17 ?k17 ?a18 ?l18 ?c18 ?k18 ?a19 ?l19 ?c19 ?k19 ?a20 ?l20 ?c20 ?k20 ?a21 ?l21 ?c21 ?k21 ?a22 ?l22 ?c22 ?k22 ?a23 ?l23 ?c23 ?k23 ?a24 ?l24 ?c24 ?k24 ?a25 ?l25 ?c25 ?k25 ?a26 ?l26 ?c26 ?k26 ?a27 ?l27 ?c27 ?k27 ?z_ValueError ?z_all ?z_bool ?z_int ?z_isinstance ?z_len ?z_list ?z_ord ?z_range ?z_str ?z_tuple ?z_zip ?y_BASE ?y_NAME_SIGNS ?y_WORD_SIGNS ?kN_KINDS ?kL_KINDS ?xt
  (case a0=>k_is)
  (case l0=>k_is)
  (case c0=>k_is)
  (case k0=>k_is)
  (case a1=>k_is)
  (case l1=>k_is)
  (case c1=>k_is)
  (case k1=>k_is)
  (case a2=>k_is)
  (case l2=>k_is)
  (case c2=>k_is)
  (case k2=>k_is)
  (case a3=>k_is)
  (case l3=>k_is)
  (case c3=>k_is)
  (case k3=>k_is)
  (case a4=>k_is)
  (case l4=>k_is)
  (case c4=>k_is)
  (case k4=>k_is)
  (case a5=>k_is)
  (case l5=>k_is)
  (case c5=>k_is)
  (case k5=>k_is)
  (case a6=>k_is)
  (case l6=>k_is)
  (case c6=>k_is)
  (case k6=>k_is)
  (case a7=>k_is)
  (case l7=>k_is)
  (case c7=>k_is)
  (case k7=>k_is)
  (case a8=>k_is)
  (case l8=>k_is)
  (case c8=>k_is)
  (case k8=>k_is)
  (case a9=>k_is)
  (case l9=>k_is)
  (case c9=>k_is)
  (case k9=>k_is)
  (case a10=>k_is)
  (case l10=>k_is)
  (case c10=>k_is)
  (case k10=>k_is)
  (case a11=>k_is)
  (case l11=>k_is)
  (case c11=>k_is)
  (case k11=>k_is)
  (case a12=>k_is)
  (case l12=>k_is)
  (case c12=>k_is)
  (case k12=>k_is)
  (case a13=>k_is)
  (case l13=>k_is)
  (case c13=>k_is)
  (case k13=>k_is)
  (case a14=>k_is)
  (case l14=>k_is)
  (case c14=>k_is)
  (case k14=>k_is)
  (case a15=>k_is)
  (case l15=>k_is)
  (case c15=>k_is)
  (case k15=>k_is)
  (case a16=>k_is)
  (case l16=>k_is)
  (case c16=>k_is)
  (case k16=>k_is)
  (case a17=>k_is)
  (case l17=>k_is)
  (case c17=>k_is)
  (case k17=>k_is)
  (case a18=>k_is)
  (case l18=>k_is)
  (case c18=>k_is)
  (case k18=>k_is)
  (case a19=>k_is)
  (case l19=>k_is)
  (case c19=>k_is)
  (case k19=>k_is)
  (case a20=>k_is)
  (case l20=>k_is)
  (case c20=>k_is)
  (case k20=>k_is)
  (case a21=>k_is)
  (case l21=>k_is)
  (case c21=>k_is)
  (case k21=>k_is)
  (case a22=>k_is)
  (case l22=>k_is)
  (case c22=>k_is)
  (case k22=>k_is)
  (case a23=>k_is)
  (case l23=>k_is)
  (case c23=>k_is)
  (case k23=>k_is)
  (case a24=>k_is)
  (case l24=>k_is)
  (case c24=>k_is)
  (case k24=>k_is)
  (case a25=>k_is)
  (case l25=>k_is)
  (case c25=>k_is)
  (case k25=>k_is)
  (case a26=>k_is)
  (case l26=>k_is)
  (case c26=>k_is)
  (case k26=>k_is)
  (case a27=>k_is)
  (case l27=>k_is)
  (case c27=>k_is)
  (case k27=>k_is)
  (case z_ValueError=>k_is)
  (case z_all=>k_is)
  (case z_bool=>k_is)
  (case z_int=>k_is)
  (case z_isinstance=>k_is)
  (case z_len=>k_is)
  (case z_list=>k_is)
  (case z_ord=>k_is)
  (case z_range=>k_is)
  (case z_str=>k_is)
  (case z_tuple=>k_is)
  (case z_zip=>k_is)
  (case y_BASE=>k_is)
  (case y_NAME_SIGNS=>k_is)
  (case y_WORD_SIGNS=>k_is)
  (case kN_KINDS=>k_is)
  (case kL_KINDS=>k_is)
  (case xt=>kernel_rfl)
 case KP=>exact fun P=>rfl
 case HC=>exact fun P=>by kernel_rfl
 case S=>exact fun K H a ns hl hb hS=>Ia.start_law hS (Ia.law_true ns hl hb)
 case C=>exact fun _ _ _ _ z=>z
#print axioms PySem.Challenge.cw_graphpack_k36_parts_read_alone_holds
