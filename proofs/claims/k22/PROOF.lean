import PyProof.Rows.All
import Wide.All
import OpenK.AllK
import Wide.FinOn
import Lean
import PyProof.EqAt
import PyProof.EqKinds
import PyProof.TupleCall
import PyProof.NeKinds
import PyProof.Rows.SetFrom
import KE.KRevIter
import PyProof.ZipIter
import PyProof.TupleOfGen
import PyProof.Rows.ZipGen
import PyProof.EnumMake
import PyProof.EnumFor
import PyProof.ListRange
import PyProof.LayNew
import KE.KDictOf
import KE.KIntText
import KE.IntTextLaws
import PyProof.StrCalls2
import PyProof.Rows.StrNews2
import PyProof.StrLawsTight
import PyProof.ListMulRight
import PyProof.AttrMissHeap
import PyProof.AutoListH
import PyProof.CallFns
import PyProof.Rows.SortStr
import KE.KDictSum
import PyProof.Draws
import PyProof.RaisesMany
import PyProof.RulesTry
import PyProof.ExcArgsOwn
import PyProof.ExcAttrAll.ValueError
import PyProof.IsInstanceT
import PyProof.RulesAs
import PyProof.Rows.Tup
import OpenK.KOwn
import PyProof.NsDelKeeps
import PyProof.ExcInit
import OpenK.KCls
import OpenK.KMake
import PyProof.InstStoreFacts
import PyProof.Rows.FStr
import OpenK.KWalk
import PyProof.Rows.CallKwBuiltin
import PySem.Challenge.RW_graphpack_k22_copies_but_for_kept_parts
set_option Elab.async false
set_option linter.all false
set_option maxRecDepth 100000
namespace L2
open PySem PySem.Spec PyProof.Rows
noncomputable abbrev Key:=Sum Int Str
noncomputable def keyIs:Key→Value→Bool
 | .inl k,v=>Value.isInt k v
 | .inr x,v=>Value.isStrOf x v
noncomputable def keyH (w:World):Key→Int
 | .inl k=>hashInt k
 | .inr x=>hashStr w x
theorem keyIs_shape:∀ {k:Key} {v:Value},keyIs k v = true→(∃ i t,k = Sum.inl i∧v = Value.int i t) ∨ (∃ x t,k = Sum.inr x∧v = Value.str x t)
 | .inl i,v,h=>by
  obtain ⟨t,e⟩:=Value.isInt_shape (k:=i) (v:=v) h
  exact .inl ⟨i,t,rfl,e⟩
 | .inr x,v,h=>by
  obtain ⟨t,e⟩:=Value.isStrOf_shape (x:=x) (v:=v) h
  exact .inr ⟨x,t,rfl,e⟩
theorem keyIs_int (i:Int) (t:Tok):keyIs (.inl i) (.int i t) = true:=by simp [keyIs,Value.isInt]
theorem keyIs_str (x:Str) (t:Tok):keyIs (.inr x) (.str x t) = true:=by simp [keyIs,Value.isStrOf]
theorem key_ll (a b:Int):decide ((Sum.inl a:Key) = Sum.inl b) = (a == b):=by
 by_cases e:a = b
 ·subst e; simp
 ·have h:¬ (Sum.inl a:Key) = Sum.inl b:=fun q=>e (Sum.inl.inj q)
  rw [decide_eq_false h]
  exact (beq_eq_false_iff_ne.mpr e).symm
theorem key_rr (a b:Str):decide ((Sum.inr a:Key) = Sum.inr b) = decide (a = b):=by
 by_cases e:a = b
 ·subst e; simp
 ·have h:¬ (Sum.inr a:Key) = Sum.inr b:=fun q=>e (Sum.inr.inj q)
  rw [decide_eq_false h,decide_eq_false e]
theorem key_lr (a:Int) (b:Str):decide ((Sum.inl a:Key) = Sum.inr b) = false:=decide_eq_false (fun q=>nomatch q)
theorem key_rl (a:Str) (b:Int):decide ((Sum.inr a:Key) = Sum.inl b) = false:=decide_eq_false (fun q=>nomatch q)
noncomputable def mixKind (prog:Program) (w:World):PySem.KeyKind prog w Key where
 is:=keyIs
 hash:=keyH w
 inj:=fun v a b ha hb=>by
  rcases keyIs_shape ha with ⟨i,t,rfl,rfl⟩ | ⟨x,t,rfl,rfl⟩
  ·rcases keyIs_shape hb with ⟨j,u,rfl,e⟩ | ⟨y,u,rfl,e⟩
   ·injection e with e1 _; rw [e1]
   ·exact nomatch e
  ·rcases keyIs_shape hb with ⟨j,u,rfl,e⟩ | ⟨y,u,rfl,e⟩
   ·exact nomatch e
   ·injection e with e1 _; rw [e1]
 byValue:=fun k v h=>by
  rcases keyIs_shape h with ⟨i,t,rfl,rfl⟩ | ⟨x,t,rfl,rfl⟩ <;> rfl
 pyHash:=fun hv h=>by
  rcases keyIs_shape hv with ⟨i,t,rfl,rfl⟩ | ⟨x,t,rfl,rfl⟩
  ·exact wpAny_pyHash_int h
  ·exact wpAny_pyHash_str h
 eqBool:=fun hu hv h=>by
  rcases keyIs_shape hu with ⟨i,t,rfl,rfl⟩ | ⟨x,t,rfl,rfl⟩
  ·rcases keyIs_shape hv with ⟨j,u,rfl,rfl⟩ | ⟨y,u,rfl,rfl⟩
   ·rw [key_ll] at h; exact wpAny_eqBool_int h
   ·rw [key_lr] at h; exact SeqAt.EqAt.int_str i t y u _ _ _ _ h
  ·rcases keyIs_shape hv with ⟨j,u,rfl,rfl⟩ | ⟨y,u,rfl,rfl⟩
   ·rw [key_rl] at h; exact SeqAt.EqAt.str_int x t j u _ _ _ _ h
   ·rw [key_rr] at h; exact wpAny_eqBool_str h
 «strs»:=fun k x t v h=>by
  rcases keyIs_shape h with ⟨i,u,rfl,e⟩ | ⟨y,u,rfl,e⟩
  ·exact nomatch e
  ·injection e with e1 _
   subst e1
   cases v <;> rfl
theorem mixKind_int (prog:Program) (w:World) (i:Int) (t:Tok):(mixKind prog w).is (.inl i) (.int i t) = true:=keyIs_int i t
theorem mixKind_str (prog:Program) (w:World) (x:Str) (t:Tok):(mixKind prog w).is (.inr x) (.str x t) = true:=keyIs_str x t
inductive V where
 | non | bl (b:Bool) | int (i:Int) | str (x:Str) | byt (b:Array UInt8) | flt (b:UInt64) | ref (a:Addr) | ty (n:String)
 deriving DecidableEq
noncomputable def RelV:V→Value→Prop
 | .non,u=>u = Value.none
 | .bl b,u=>u = Value.bool b
 | .int i,u=>∃ t,u = Value.int i t
 | .str x,u=>∃ t,u = Value.str x t
 | .byt b,u=>∃ t,u = Value.bytes b t
 | .flt b,u=>∃ t,u = Value.float b t
 | .ref a,u=>u = Value.ref a
 | .ty n,u=>u = Value.type n
noncomputable abbrev Vals:List V→List Value→Prop:=Paired RelV
theorem Vals.length {xs:List V} {us:List Value} (r:Vals xs us):xs.length = us.length:=Paired.length r
theorem Vals.get:∀ {xs:List V} {us:List Value} {i:Nat} {x:V},Vals xs us→xs[i]? = some x→∃ u,us[i]? = some u∧RelV x u
 | _,_,_,_,.nil,e=>by simp at e
 | _,_,0,_,.cons r _,e=>by simp at e; subst e; exact ⟨_,rfl,r⟩
 | _,_,i + 1,x,.cons _ t,e=>by
  obtain ⟨u,h1,h2⟩:=Vals.get (i:=i) (x:=x) t (by simpa using e)
  exact ⟨u,by simpa using h1,h2⟩
theorem Vals.set {x:V} {u:Value} (r:RelV x u):∀ {xs:List V} {us:List Value} (i:Nat),Vals xs us→Vals (xs.set i x) (us.set i u)
 | _,_,_,.nil=>.nil
 | _,_,0,.cons _ t=>.cons r t
 | _,_,i + 1,.cons q t=>.cons q (Vals.set r i t)
theorem Vals.append:∀ {xs ys:List V} {us ws:List Value},Vals xs us→Vals ys ws→Vals (xs ++ ys) (us ++ ws)
 | _,_,_,_,.nil,s=>s
 | _,_,_,_,.cons r t,s=>.cons r (Vals.append t s)
theorem Vals.take:∀ {xs:List V} {us:List Value} (n:Nat),Vals xs us→Vals (xs.take n) (us.take n)
 | _,_,0,_=>.nil
 | _,_,_ + 1,.nil=>.nil
 | _,_,n + 1,.cons r t=>.cons r (Vals.take n t)
theorem Vals.drop:∀ {xs:List V} {us:List Value} (n:Nat),Vals xs us→Vals (xs.drop n) (us.drop n)
 | _,_,0,r=>r
 | _,_,_ + 1,.nil=>.nil
 | _,_,n + 1,.cons _ t=>Vals.drop n t
noncomputable def RelO:Option V→Option Value→Prop
 | some v,some u=>RelV v u
 | none,none=>True
 | _,_=>False
noncomputable def KV {κ:Type}:List (κ × V)→List (κ × Value)→Prop:=Paired fun (p:κ × V) (q:κ × Value)=>p.1 = q.1∧RelV p.2 q.2
noncomputable def kV:Key→V
 | .inl i=>.int i
 | .inr x=>.str x
inductive HO where
 | lst (xs:List V)
 | tup (xs:List V)
 | dK (kvs:List (Key × V)) | dT (kvs:List (List Key × V))
 | set (S:Int→Bool) (n:Nat)
 | ins (C dx:Addr) (fs:List (Str × V))
 | own (x:Addr)
 | xd (fs:List (Str × V))
 | met (f x:Addr)
 | rng (lo hi:Int)
 | frz (o:Obj) (u:HO)
 | tbl (ps:Array Value)
 | ext (φ:Heap→Prop)
noncomputable abbrev Hp:=Addr→Option HO
noncomputable def upd (H:Hp) (a:Addr) (o:HO):Hp:=fun b=>if b = a then some o else H b
theorem upd_same {H:Hp} {a:Addr} {o:HO}:upd H a o a = some o:=by unfold upd; rw [if_pos rfl]
theorem upd_ne {H:Hp} {a b:Addr} {o:HO} (h:b ≠ a):upd H a o b = H b:=by unfold upd; rw [if_neg h]
theorem ne_of {H:Hp} {a b:Addr} {o u:HO} (h:H a = some o) (h':H b = some u) (d:o ≠ u):a ≠ b:=by
 intro e; subst e; rw [h] at h'; exact d (Option.some.inj h')
theorem ne_of_none {H:Hp} {a b:Addr} {o:HO} (h:H a = some o) (h':H b = none):a ≠ b:=by
 intro e; subst e; rw [h] at h'; cases h'
noncomputable def IsTupN (h:Heap) (a:Addr) (items:Array Value):Prop:=∃ o,h.get? a = some o∧o.cls = .type "tuple"∧∃ n,o.data = .seq items n∧o.dict = none
theorem IsTupN.tup {h:Heap} {a:Addr} {items:Array Value} (x:IsTupN h a items):IsTup h a items:=let ⟨o,e,c,n,d,_⟩:=x; ⟨o,e,c,n,d⟩
theorem IsTupN.new (h:Heap) (items:Array Value):IsTupN (h.push { cls:=.type "tuple",data:=.seq items }) h.objs.size items:=⟨_,Heap.get?_push_size _ rfl,rfl,_,rfl,rfl⟩
section
variable (P:Program) (w:World)
noncomputable def ObjOk (H:Hp) (h:Heap) (a:Addr):HO→Prop
 | .lst xs=>xs.length ≤ sizeLine∧∃ (its:List Value) (n:Nat),Vals xs its∧h.get? a = some { cls:=.type "list",data:=.seq its.toArray n }
 | .tup xs=>xs.length ≤ sizeLine∧∃ its:List Value,Vals xs its∧IsTupN h a its.toArray
 | .dK kvs=>kvs.length ≤ sizeLine∧(a == sysModules) = false∧∃ vs,KV kvs vs∧h.DictOf (mixKind P w) a vs
 | .dT kvs=>kvs.length ≤ sizeLine∧(a == sysModules) = false∧∃ xs:List (List Key × Addr × Value),
   Paired (fun (p:List Key × V) (q:List Key × Addr × Value)=>p.1 = q.1∧H q.2.1 = some (.tup (p.1.map kV))∧RelV p.2 q.2.2) kvs xs ∧
   ∃ o es ep,h.get? a = some o∧o.ExactDict∧o.data = .dict es ep∧es.toList = xs.map (entryOfKey (tupleKind (mixKind P w)))∧(xs.map (·.1)).Nodup
 | .set S n=>h.SetOf (intKind P w) a S n
 | .ins C dx fs=>H dx = some (.own a)∧fs.length ≤ 1000∧dx ≠ a∧h.get? a = some (W.instObj C dx) ∧
   ∃ mA,h.Ns1 dx mA∧(∀ f,RelO (fs.lookup f) (mA f))∧PySem.Within mA (fs.map (·.1))
 | .own _=>∃ o,h.get? a = some o
 | .xd fs=>∃ mA,h.Ns1 a mA∧∀ f,RelO (fs.lookup f) (mA f)
 | .rng lo hi=>∃ t u v,h.get? a = some { cls:=.type "range",data:=.fields #[.int lo t,.int hi u,.int 1 v] }
 | .frz o u=>h.get? a = some o∧ObjOk H h a u
 | .tbl ps=>h.get? a = some { cls:=.none,data:=.fields ps }
 | .met f x=>h.get? a = some (W.methodObj (.ref f) (.ref x))
 | .ext φ=>φ h∧(∃ o,h.get? a = some o)∧∀ h1 h2:Heap,φ h1→(∀ o,h1.get? a = some o→h2.get? a = some o)→φ h2
noncomputable def HOk (H:Hp) (h:Heap):Prop:=∀ a o,H a = some o→ObjOk P w H h a o
end
section
variable {P:Program} {w:World} {H H':Hp} {h h':Heap} {a:Addr} {o:HO}
theorem ObjOk.lt (x:ObjOk P w H h a o):a < h.objs.size:=by
 cases o with
 | lst xs=>obtain ⟨_,_,_,_,e⟩:=x; exact Heap.lt_size e
 | tup xs=>obtain ⟨_,_,_,p⟩:=x; exact p.tup.lt
 | dK kvs=>obtain ⟨_,_,_,_,o,_,_,e,_⟩:=x; exact Heap.lt_size e
 | dT kvs=>obtain ⟨_,_,_,_,o,_,_,e,_⟩:=x; exact Heap.lt_size e
 | set S n=>obtain ⟨o,_,_,_,e,_⟩:=x; exact Heap.lt_size e
 | ins C dx fs=>obtain ⟨_,_,_,e,_⟩:=x; exact Heap.lt_size e
 | own y=>obtain ⟨_,e⟩:=x; exact Heap.lt_size e
 | xd fs=>obtain ⟨_,⟨_,_,_,e,_⟩,_⟩:=x; exact Heap.lt_size e
 | rng lo hi=>obtain ⟨_,_,_,e⟩:=x; exact Heap.lt_size e
 | frz ob u=>obtain ⟨e,_⟩:=x; exact Heap.lt_size e
 | tbl ps=>exact Heap.lt_size (show h.get? a = some _ from x)
 | met f y=>exact Heap.lt_size (show h.get? a = some _ from x)
 | ext φ=>obtain ⟨_,⟨_,e⟩,_⟩:=x; exact Heap.lt_size e
theorem Paired.mapP {α β:Type} {F G:α→β→Prop}:∀ {l₁:List α} {l₂:List β},Paired F l₁ l₂→(∀ a b,F a b→G a b)→Paired G l₁ l₂
 | _,_,.nil,_=>.nil
 | _,_,.cons r t,f=>.cons (f _ _ r) (Paired.mapP t f)
theorem ObjOk.stay (x:ObjOk P w H h a o) (k:∀ b u,(b = a ∨ H b = some (.own a))→h.get? b = some u→h'.get? b = some u)
  (ho:∀ b,H b = some (.own a)→H' b = some (.own a)) (ht:∀ b xs,H b = some (.tup xs)→H' b = some (.tup xs)):ObjOk P w H' h' a o:=by
 induction o with
 | lst xs=>obtain ⟨z,its,n,r,e⟩:=x; exact ⟨z,its,n,r,k _ _ (.inl rfl) e⟩
 | tup xs=>obtain ⟨z,its,r,ob,e,c⟩:=x; exact ⟨z,its,r,ob,k _ _ (.inl rfl) e,c⟩
 | dK kvs=>obtain ⟨z,y,vs,r,ob,es,ep,e,c⟩:=x; exact ⟨z,y,vs,r,ob,es,ep,k _ _ (.inl rfl) e,c⟩
 | dT kvs =>
  obtain ⟨z,y,xs,r,ob,es,ep,e,c⟩:=x
  exact ⟨z,y,xs,Paired.mapP r fun p q z=>⟨z.1,ht _ _ z.2.1,z.2.2⟩,ob,es,ep,k _ _ (.inl rfl) e,c⟩
 | set S n=>obtain ⟨ob,es,ep,t,e,c⟩:=x; exact ⟨ob,es,ep,t,k _ _ (.inl rfl) e,c⟩
 | ins C dx fs =>
  obtain ⟨d,z,ne,e,mA,⟨od,es,ep,e2,c⟩,r⟩:=x
  exact ⟨ho _ d,z,ne,k _ _ (.inl rfl) e,mA,⟨od,es,ep,k _ _ (.inr d) e2,c⟩,r⟩
 | own y=>obtain ⟨ob,e⟩:=x; exact ⟨ob,k _ _ (.inl rfl) e⟩
 | xd fs=>obtain ⟨mA,⟨od,es,ep,e,c⟩,r⟩:=x; exact ⟨mA,⟨od,es,ep,k _ _ (.inl rfl) e,c⟩,r⟩
 | rng lo hi=>obtain ⟨t,u,v,e⟩:=x; exact ⟨t,u,v,k _ _ (.inl rfl) e⟩
 | frz ob u ih=>obtain ⟨e,q⟩:=x; exact ⟨k _ _ (.inl rfl) e,ih q⟩
 | tbl ps =>
  have e:h.get? a = some { cls:=.none,data:=.fields ps }:=x
  show h'.get? a = some { cls:=.none,data:=.fields ps }
  exact k a _ (.inl rfl) e
 | met f y =>
  have e:h.get? a = some (W.methodObj (.ref f) (.ref y)):=x
  show h'.get? a = some (W.methodObj (.ref f) (.ref y))
  exact k a _ (.inl rfl) e
 | ext φ=>obtain ⟨p,⟨o,e⟩,st⟩:=x; exact ⟨st _ _ p fun o q=>k _ _ (.inl rfl) q,⟨o,k _ _ (.inl rfl) e⟩,st⟩
theorem HOk.lt (x:HOk P w H h) (e:H a = some o):a < h.objs.size:=(x a o e).lt
theorem HOk.fresh (x:HOk P w H h) (e:h.objs.size ≤ a):H a = none:=by
 cases q:H a with
 | none=>rfl
 | some u=>exact absurd (Nat.lt_of_lt_of_le (x.lt q) e) (Nat.lt_irrefl _)
theorem HOk.kept (x:HOk P w H h) (k:∀ b u,h.get? b = some u→h'.get? b = some u):HOk P w H h':=fun a o e =>
 (x a o e).stay (fun b u _ q=>k b u q) (fun _ q=>q) fun _ _ q=>q
theorem HOk.laid (x:HOk P w H h) (k:∀ b u,h.get? b = some u→h'.get? b = some u) (hp:h.objs.size ≤ a) (new:ObjOk P w (upd H a o) h' a o):HOk P w (upd H a o) h':=fun b u e=>by
 have hn:=x.fresh hp
 by_cases hb:b = a
 ·subst hb; rw [upd_same] at e; cases e; exact new
 ·rw [upd_ne hb] at e
  exact (x b u e).stay (fun c v _ q=>k c v q) (fun c q=>by rw [upd_ne (ne_of_none q hn)]; exact q) fun c xs q=>by rw [upd_ne (ne_of_none q hn)]; exact q
end
noncomputable def Rd (H:Hp) (a:Addr) (u:HO):Prop:=H a = some u ∨ ∃ o,H a = some (.frz o u)
theorem Rd.ok {P:Program} {w:World} {H:Hp} {h:Heap} {a:Addr} {u:HO} (r:Rd H a u) (x:HOk P w H h):ObjOk P w H h a u:=by
 rcases r with r | ⟨o,r⟩
 ·exact x a u r
 ·obtain ⟨_,q⟩:=x a _ r
  exact q
noncomputable def Mut:Option HO→Prop
 | some (.lst _)=>True
 | some (.dK _)=>True
 | some (.dT _)=>True
 | some (.set _ _)=>True
 | some (.ins _ _ _)=>True
 | some (.ext _)=>True
 | _=>False
section
variable {P:Program} {w:World} {H:Hp} {h h':Heap} {x e:Addr} {o':HO}
theorem HOk.write (ok:HOk P w H h) (mu:Mut (H x)) (he:e = x ∨ H e = some (.own x)) (k:∀ b u,b ≠ e→h.get? b = some u→h'.get? b = some u) (heo:∃ u,h'.get? e = some u)
  (new:ObjOk P w (upd H x o') h' x o'):HOk P w (upd H x o') h':=fun b u q=>by
 have nown:∀ c y,H c = some (.own y)→c ≠ x:=fun c y r z=>by subst z; rw [r] at mu; exact mu
 have ntup:∀ c xs,H c = some (.tup xs)→c ≠ x:=fun c xs r z=>by subst z; rw [r] at mu; exact mu
 by_cases hb:b = x
 ·subst hb; rw [upd_same] at q; cases q; exact new
 ·rw [upd_ne hb] at q
  by_cases hbe:b = e
  ·have q':H b = some (.own x):=by
    rcases he with z | z
    ·exact absurd (hbe.trans z) hb
    ·rw [hbe]; exact z
   rw [q] at q'; cases q'
   obtain ⟨v,hv⟩:=heo
   exact ⟨v,by rw [hbe]; exact hv⟩
  ·refine (ok b u q).stay (fun c v hc r=>k c v ?_ r) (fun c r=>by rw [upd_ne (nown c b r)]; exact r) fun c xs r=>by rw [upd_ne (ntup c xs r)]; exact r
   rcases hc with rfl | hc
   ·exact hbe
   ·rintro rfl
    rcases he with z | z
    ·exact nown c b hc z
    ·rw [hc] at z; cases z; exact hb rfl
end
structure Un (fs ex:List Addr) (H H':Hp) (h h':Heap):Prop where
 keep:∀ b o,h.get? b = some o→H b = none→b ∉ fs→b ∉ ex→h'.get? b = some o
 slot:∀ b o,h.get? b = some o→H b = none→b ∈ fs→b ∉ ex→∃ sl,h'.get? b = some { o with slots:=sl }
 free:∀ b o,h.get? b = some o→H b = none→b ∉ ex→H' b = none
 there:∀ b o,h.get? b = some o→b ∉ ex→∃ o',h'.get? b = some o'
 tups:∀ b xs,H b = some (.tup xs)→H' b = some (.tup xs)
 frzs:∀ b o u,H b = some (.frz o u)→H' b = some (.frz o u)
 tbls:∀ b ps,H b = some (.tbl ps)→∃ more,H' b = some (.tbl (ps ++ more))
section
variable {fs fs' ex ex':List Addr} {H H1 H2:Hp} {h h1 h2 h':Heap} {a x e:Addr} {o:HO}
theorem Un.any (u:Un fs ex H H1 h h1) {b:Addr} {ob:Obj} (q:h.get? b = some ob) (n:H b = none) (hx:b ∉ ex):∃ sl,h1.get? b = some { ob with slots:=sl }:=by
 by_cases hb:b ∈ fs
 ·exact u.slot b ob q n hb hx
 ·exact ⟨ob.slots,u.keep b ob q n hb hx⟩
theorem Un.kept (k:∀ b u,h.get? b = some u→h'.get? b = some u):Un fs ex H H h h' :=
 ⟨fun b ob q _ _ _=>k b ob q,fun b ob q _ _ _=>⟨ob.slots,k b ob q⟩,fun _ _ _ n _=>n,fun b ob q _=>⟨ob,k b ob q⟩,fun _ _ q=>q,fun _ _ _ q=>q,fun _ ps q=>⟨#[],by rw [q]; simp⟩⟩
theorem Un.refl:Un fs ex H H h h:=Un.kept fun _ _ q=>q
theorem Un.laid (k:∀ b u,h.get? b = some u→h'.get? b = some u) (hp:h.objs.size ≤ a) (hn:H a = none):Un fs ex H (upd H a o) h h' where
 keep:=fun b u q _ _ _=>k b u q
 slot:=fun b u q _ _ _=>⟨u.slots,k b u q⟩
 free:=fun b u q n _=>by rw [upd_ne (Nat.ne_of_lt (Nat.lt_of_lt_of_le (Heap.lt_size q) hp))]; exact n
 there:=fun b u q _=>⟨u,k b u q⟩
 tups:=fun b xs q=>by rw [upd_ne (ne_of_none q hn)]; exact q
 frzs:=fun b u xs q=>by rw [upd_ne (ne_of_none q hn)]; exact q
 tbls:=fun b ps q=>⟨#[],by rw [upd_ne (ne_of_none q hn),q]; simp⟩
theorem Un.write (mu:Mut (H x)) (he:e = x ∨ H e = some (.own x)) (k:∀ b u,b ≠ e→h.get? b = some u→h'.get? b = some u) (heo:∃ u,h'.get? e = some u):Un fs ex H (upd H x o) h h':=by
 have hx:∀ b,H b = none→b ≠ x:=fun b n z=>by subst z; rw [n] at mu; exact mu
 have hb:∀ b,H b = none→b ≠ e:=fun b n z=>by
  subst z
  rcases he with r | r
  ·exact hx b n r
  ·rw [n] at r; cases r
 have hm:∀ b u,H b = some u→¬ Mut (some u)→b ≠ x:=fun b u q nm z=>by subst z; rw [q] at mu; exact nm mu
 refine ⟨fun b u q n _ _=>k b u (hb b n) q,fun b u q n _ _=>⟨u.slots,k b u (hb b n) q⟩,fun b u q n _=>by rw [upd_ne (hx b n)]; exact n,fun b u q _=>?_,
  fun b xs q=>by rw [upd_ne (hm b _ q fun z=>z)]; exact q,fun b u xs q=>by rw [upd_ne (hm b _ q fun z=>z)]; exact q,fun b ps q=>⟨#[],by rw [upd_ne (hm b _ q fun z=>z),q]; simp⟩⟩
 by_cases hbe:b = e
 ·subst hbe; exact heo
 ·exact ⟨u,k b u hbe q⟩
end
noncomputable def trk (h:Heap) (H:Hp):List Addr:=(List.range h.objs.size).filter fun a=>(H a).isSome
noncomputable def hidT (h:Heap) (H:Hp):Heap:=W.hideAll h (trk h H)
theorem hidT_size (h:Heap) (H:Hp):(hidT h H).objs.size = h.objs.size:=W.hideAll_size _ _
theorem hidT_get {h:Heap} {H:Hp} {b:Addr} {o:Obj} (e:h.get? b = some o) (n:H b = none):(hidT h H).get? b = some o :=
 W.hideAll_get _ e fun hm=>by
  have q:(H b).isSome = true:=(List.mem_filter.mp hm).2
  rw [n] at q; simp at q
theorem of_hidT {h:Heap} {H:Hp} {b:Addr} {o:Obj} (e:(hidT h H).get? b = some o):h.get? b = some o∧H b = none:=by
 have e':h.get? b = some o:=W.of_hideAll (trk h H) e
 refine ⟨e',?_⟩
 cases q:H b with
 | none=>rfl
 | some x =>
  have hm:b ∈ trk h H:=List.mem_filter.mpr ⟨List.mem_range.mpr (Heap.lt_size e'),by simp [q]⟩
  have z:(hidT h H).get? b = none:=W.hideAll_none (trk h H) hm
  rw [z] at e; cases e
structure Mod (K:W.Frag) (mg:Str→Option Value) (base:Heap):Prop where
 kin:K.In base
 glob:base.Ns mainGlobals mg
 blt:∃ mb,base.Ns builtinsNs mb∧∀ x:Str,x ≠ "__name__"→mb x = bootBuiltins x
 nolimit:base.NoLimit
structure Cx where
 prog:Program
 w:World
 K:W.Frag
 mg:Str→Option Value
 base:Heap
 A:Around
 N:List Str
 s₀:Shared
 H₀:Hp
 env:Env
 outer:List Env
 stack:List Env
 ex:List Addr
 fn:Str→Bool
 calm:Bool
 pn:List (Addr × Obj)
 xe:Value→Shared→Prop
noncomputable def frs (l:List Env):List Addr:=l.filterMap (·.frame)
noncomputable abbrev Cx.fs (X:Cx):List Addr:=frs X.outer
noncomputable def Vis (sc:Scope) (x:Str):Prop:=sc.names.lookup x = some .local ∨ sc.names.lookup x = some .cell ∨ sc.names.lookup x = some .free
noncomputable def Loc (sc:Scope) (x:Str):Prop:=sc.names.lookup x = some .local ∨ sc.names.lookup x = some .cell
noncomputable def Look (env:Env) (h:Heap) (m:Str→Option Value) (x:Str) (u:Value):Prop :=
 (env.kindOf x = some .local∧m x = some u) ∨ ((env.kindOf x = some .cell ∨ env.kindOf x = some .free)∧∃ c,env.cells.lookup x = some c∧h.IsCell c (some u))
structure Cx.Ok (X:Cx):Prop where
 mod:Mod X.K X.mg X.base
 kind:X.env.scope.kind = .function
 glob:X.env.globals = mainGlobals
 blt:X.env.builtins = builtinsNs
 above:X.s₀.heap.objs.size ≤ X.env.locals
 inj:∀ x y c,X.env.cells.lookup x = some c→X.env.cells.lookup y = some c→x = y
 has:∀ x,(X.env.kindOf x = some .cell ∨ X.env.kindOf x = some .free)→∃ c,X.env.cells.lookup x = some c
 cab:∀ x c,X.fn x = true→X.env.cells.lookup x = some c→X.s₀.heap.objs.size ≤ c
 hd:X.calm = true→X.A.handled = none
 frames:X.A.frames = some X.stack
 stk:X.stack = X.outer ∨ (X.stack = X.env :: X.outer∧X.env.frame = some X.env.locals)
 exf:∀ b ∈ X.ex,b ≠ X.env.locals∧∀ x c,X.env.cells.lookup x = some c→c ≠ b
 bs:∀ b o,X.base.get? b = some o→X.s₀.heap.get? b = some o∧X.H₀ b = none
 bsz:X.base.objs.size ≤ X.s₀.heap.objs.size
 noex:∀ b o,X.base.get? b = some o→b ∉ X.ex
 exfs:∀ b ∈ X.ex,b ∉ X.fs
 funs:X.s₀.heap.FunFrames X.base X.outer
 frf:∀ b ∈ X.fs,X.H₀ b = none
structure Inv (X:Cx) (pins:List (Addr × Obj)) (σ:List (Option V)) (H:Hp) (s:Shared):Prop where
 ok:X.Ok
 os:s.os = X.s₀.os
 bare:AllBare s.gens
 base:Un X.fs X.ex X.H₀ H X.s₀.heap s.heap
 loc:∃ m,s.heap.Ns X.env.locals m∧∀ (i:Nat) (x:Str) (v:V),X.N[i]? = some x→σ[i]? = some (some v)→Vis X.env.scope x→∃ u,RelV v u∧Look X.env s.heap m x u
 cell:∀ x c,X.env.cells.lookup x = some c→∃ v,s.heap.IsCell c v
 free:H X.env.locals = none
 freeC:∀ x c,X.env.cells.lookup x = some c→H c = none
 pin:∀ p ∈ X.pn ++ pins,s.heap.get? p.1 = some p.2∧H p.1 = none∧p.1 ≠ X.env.locals∧p.1 ∉ X.fs∧∀ v,p.2.data ≠ .cell v
 hok:HOk X.prog X.w H s.heap
 len:σ.length = X.N.length
section
variable {X:Cx} {pins:List (Addr × Obj)} {σ:List (Option V)} {H H':Hp} {s:Shared} {h':Heap}
theorem Cx.Ok.nofr (ok:X.Ok) {b:Addr} {o:Obj} (e:X.base.get? b = some o):b ∉ X.fs:=fun hb=>by
 have:=(ok.funs.mem hb).1
 rw [e] at this; cases this
theorem Inv.bs (I:Inv X pins σ H s):∀ b o,X.base.get? b = some o→s.heap.get? b = some o∧H b = none:=fun b o e =>
 ⟨I.base.keep b o (I.ok.bs b o e).1 (I.ok.bs b o e).2 (I.ok.nofr e) (I.ok.noex b o e),I.base.free b o (I.ok.bs b o e).1 (I.ok.bs b o e).2 (I.ok.noex b o e)⟩
theorem Inv.bk (I:Inv X pins σ H s):∀ b o,X.base.get? b = some o→s.heap.get? b = some o:=fun b o e=>(I.bs b o e).1
theorem Inv.mod (I:Inv X pins σ H s):Mod X.K X.mg X.base:=I.ok.mod
theorem Inv.kIn (I:Inv X pins σ H s):X.K.In s.heap:=I.ok.mod.kin.keeps I.bk
theorem Inv.lt (I:Inv X pins σ H s):X.env.locals < s.heap.objs.size:=let ⟨_,hn,_⟩:=I.loc; hn.lt
theorem Inv.sz (I:Inv X pins σ H s):X.s₀.heap.objs.size ≤ s.heap.objs.size:=Nat.le_trans I.ok.above (Nat.le_of_lt I.lt)
theorem Inv.nofs (I:Inv X pins σ H s) {a:Addr} (h:s.heap.objs.size ≤ a):a ∉ X.fs:=fun hb=>by
 obtain ⟨_,o,ho,_⟩:=I.ok.funs.mem hb
 exact absurd (Nat.lt_of_lt_of_le (Heap.lt_size ho) (Nat.le_trans I.sz h)) (Nat.lt_irrefl _)
theorem Inv.cne (I:Inv X pins σ H s):∀ x c,X.env.cells.lookup x = some c→c ≠ X.env.locals:=fun x c e z=>by
 obtain ⟨v,o,ho,hd⟩:=I.cell x c e
 obtain ⟨m,⟨o',es,ep,ho',hd',_⟩,_⟩:=I.loc
 rw [z,ho'] at ho; cases ho; rw [hd'] at hd; cases hd
theorem Inv.funs (I:Inv X pins σ H s):s.heap.FunFrames X.base X.outer:=by
 have all:∀ (l:List Env),(∀ b ∈ frs l,b ∈ X.fs)→X.s₀.heap.FunFrames X.base l→s.heap.FunFrames X.base l:=by
  intro l
  induction l with
  | nil=>intro _ _; trivial
  | cons env r ih =>
   intro hs hl
   obtain ⟨hk,⟨L,o,hf,hn,ho,hd⟩,hr⟩:=hl
   have hL:L ∈ X.fs:=hs L (by unfold frs; rw [List.filterMap_cons,hf]; exact List.mem_cons_self)
   obtain ⟨sl,e⟩:=I.base.slot L o ho (I.ok.frf L hL) hL fun z=>I.ok.exfs L z hL
   exact ⟨hk,⟨L,_,hf,hn,e,hd⟩,ih (fun b hb=>hs b (by unfold frs; rw [List.filterMap_cons,hf]; exact List.mem_cons_of_mem _ hb)) hr⟩
 exact all X.outer (fun _ hb=>hb) I.ok.funs
theorem Inv.stack (I:Inv X pins σ H s):s.heap.FunFrames X.base X.stack:=by
 rcases I.ok.stk with e | ⟨e,hf⟩
 ·rw [e]; exact I.funs
 ·rw [e]
  obtain ⟨m,hn,_⟩:=I.loc
  refine .cons (by rw [I.ok.kind]; decide) hf hn ?_ I.funs
  exact Heap.get?_none_of_le (Nat.le_trans I.ok.bsz I.ok.above)
theorem Inv.stkSub (I:Inv X pins σ H s):∀ b ∈ frs X.stack,b ∈ X.env.locals :: X.fs:=fun b hb=>by
 rcases I.ok.stk with e | ⟨e,hf⟩
 ·rw [e] at hb; exact List.mem_cons_of_mem _ hb
 ·rw [e] at hb
  unfold frs at hb
  rw [List.filterMap_cons,hf] at hb
  exact hb
theorem Inv.stkFree (I:Inv X pins σ H s):∀ b ∈ frs X.stack,H b = none:=fun b hb=>by
 rcases List.mem_cons.mp (I.stkSub b hb) with e | hb
 ·rw [e]; exact I.free
 ·obtain ⟨_,o,ho,_⟩:=I.ok.funs.mem hb
  exact I.base.free b o ho (I.ok.frf b hb) fun z=>I.ok.exfs b z hb
theorem Inv.step {g':Array GenState} {t':Nat} {d':Drawn} {ch:List Addr} (I:Inv X pins σ H s)
  (hch:∀ b ∈ ch,(b ∈ X.ex ∨ X.s₀.heap.objs.size ≤ b)∧b ≠ X.env.locals∧(∀ x c,X.env.cells.lookup x = some c→c ≠ b)∧∀ p ∈ X.pn ++ pins,p.1 ≠ b)
  (keep:∀ b o,b ≠ X.env.locals→b ∉ X.fs→b ∉ ch→s.heap.get? b = some o→H b = none→h'.get? b = some o)
  (slot:∀ b o,b ≠ X.env.locals→b ∈ X.fs→b ∉ ch→s.heap.get? b = some o→H b = none→∃ sl,h'.get? b = some { o with slots:=sl }) (free:∀ b o,b ∉ ch→s.heap.get? b = some o→H b = none→H' b = none)
  (there:∀ b o,b ∉ ch→s.heap.get? b = some o→∃ o',h'.get? b = some o')
  (tups:∀ b xs,H b = some (.tup xs)→H' b = some (.tup xs)) (frzs:∀ b o u,H b = some (.frz o u)→H' b = some (.frz o u)) (tbls:∀ b ps,H b = some (.tbl ps)→∃ more,H' b = some (.tbl (ps ++ more)))
  (ns:∀ m,s.heap.Ns X.env.locals m→h'.Ns X.env.locals m) (hok:HOk X.prog X.w H' h') (hg:AllBare g') :
  Inv X pins σ H' { s with heap:=h',gens:=g',drawn:=d',toks:=t' }:=by
 have neL:∀ b o,X.s₀.heap.get? b = some o→b ≠ X.env.locals:=fun b o e=>Nat.ne_of_lt (Nat.lt_of_lt_of_le (Heap.lt_size e) I.ok.above)
 have neC:∀ b o,X.s₀.heap.get? b = some o→b ∉ X.ex→b ∉ ch:=fun b o e hx hb=>by
  rcases (hch b hb).1 with z | z
  ·exact hx z
  ·exact absurd (Nat.lt_of_lt_of_le (Heap.lt_size e) z) (Nat.lt_irrefl _)
 have cellK:∀ x c,X.env.cells.lookup x = some c→∀ v,s.heap.IsCell c v→h'.IsCell c v:=fun x c e v ⟨o,ho,hd⟩=>by
  have nch:c ∉ ch:=fun z=>(hch c z).2.2.1 x c e rfl
  by_cases hc:c ∈ X.fs
  ·obtain ⟨sl,q⟩:=slot c o (I.cne x c e) hc nch ho (I.freeC x c e)
   exact ⟨_,q,hd⟩
  ·exact ⟨o,keep c o (I.cne x c e) hc nch ho (I.freeC x c e),hd⟩
 refine ⟨I.ok,I.os,hg,⟨fun b o e n hb hx=>?_,fun b o e n hb hx=>?_,fun b o e n hx=>?_,fun b o e hx=>?_,fun b xs e=>tups b xs (I.base.tups b xs e),fun b o xs e=>frzs b o xs (I.base.frzs b o xs e),fun b ps e=>?_⟩,?_,fun x c e=>?_,?_,fun x c e=>?_,fun p hp=>?_,hok,I.len⟩
 ·exact keep b o (neL b o e) hb (neC b o e hx) (I.base.keep b o e n hb hx) (I.base.free b o e n hx)
 ·obtain ⟨sl,e1⟩:=I.base.slot b o e n hb hx
  obtain ⟨sl',e2⟩:=slot b _ (neL b o e) hb (neC b o e hx) e1 (I.base.free b o e n hx)
  exact ⟨sl',e2⟩
 ·obtain ⟨o',e1⟩:=I.base.there b o e hx
  exact free b o' (neC b o e hx) e1 (I.base.free b o e n hx)
 ·obtain ⟨o',e1⟩:=I.base.there b o e hx
  exact there b o' (neC b o e hx) e1
 ·obtain ⟨m1,e1⟩:=I.base.tbls b ps e
  obtain ⟨m2,e2⟩:=tbls b _ e1
  exact ⟨m1 ++ m2,by rw [e2,Array.append_assoc]⟩
 ·obtain ⟨m,hn,hl⟩:=I.loc
  refine ⟨m,ns m hn,fun i x v e1 e2 e3=>?_⟩
  obtain ⟨u,r,l⟩:=hl i x v e1 e2 e3
  refine ⟨u,r,?_⟩
  rcases l with l | ⟨k,c,e,z⟩
  ·exact .inl l
  ·exact .inr ⟨k,c,e,cellK x c e _ z⟩
 ·obtain ⟨v,z⟩:=I.cell x c e
  exact ⟨v,cellK x c e v z⟩
 ·obtain ⟨m,⟨o,_,_,ho,_⟩,_⟩:=I.loc
  exact free _ o (fun z=>(hch _ z).2.1 rfl) ho I.free
 ·obtain ⟨v,o,ho,hd⟩:=I.cell x c e
  exact free c o (fun z=>(hch c z).2.2.1 x c e rfl) ho (I.freeC x c e)
 ·obtain ⟨e,n,ne,nf,d⟩:=I.pin p hp
  have nch:p.1 ∉ ch:=fun z=>(hch p.1 z).2.2.2 p hp rfl
  exact ⟨keep p.1 p.2 ne nf nch e n,free p.1 p.2 nch e n,ne,nf,d⟩
theorem Inv.un {t':Nat} (I:Inv X pins σ H s) (u:Un X.fs [] H H' s.heap h') (hok:HOk X.prog X.w H' h'):Inv X pins σ H' { s with heap:=h',toks:=t' }:=by
 obtain ⟨m,⟨o,es,ep,ho,r⟩,_⟩:=id I.loc
 obtain ⟨sl,hL⟩:=u.any ho I.free (by simp)
 exact I.step (g':=s.gens) (d':=s.drawn) (ch:=[]) (fun _ z=>nomatch z) (fun b o _ hb _ e n=>u.keep b o e n hb (by simp)) (fun b o _ hb _ e n=>u.slot b o e n hb (by simp)) (fun b o _ e n=>u.free b o e n (by simp)) (fun b o _ e=>u.there b o e (by simp)) u.tups u.frzs u.tbls (fun m' hm=>by
  obtain ⟨o',es',ep',ho',r'⟩:=hm
  rw [ho] at ho'; cases ho'
  exact ⟨_,es',ep',hL,r'⟩) hok I.bare
theorem Inv.call {g':Array GenState} {t':Nat} {d':Drawn} {ch:List Addr} (I:Inv X pins σ H s) (u:Un (frs X.stack) ch H H' s.heap h') (hok:HOk X.prog X.w H' h') (hg:AllBare g')
  (hch:∀ b ∈ ch,(b ∈ X.ex ∨ X.s₀.heap.objs.size ≤ b)∧b ≠ X.env.locals∧(∀ x c,X.env.cells.lookup x = some c→c ≠ b)∧∀ p ∈ X.pn ++ pins,p.1 ≠ b) :
  Inv X pins σ H' { s with heap:=h',gens:=g',drawn:=d',toks:=t' }:=by
 obtain ⟨m,⟨o,es,ep,ho,r⟩,_⟩:=id I.loc
 obtain ⟨sl,hL⟩:=u.any ho I.free fun z=>(hch _ z).2.1 rfl
 exact I.step (ch:=ch) hch (fun b o hL hb hc e n=>u.keep b o e n (fun z=>(List.mem_cons.mp (I.stkSub b z)).elim hL hb) hc) (fun b o _ _ hc e n=>u.any e n hc) (fun b o hc e n=>u.free b o e n hc) (fun b o hc e=>u.there b o e hc) u.tups u.frzs u.tbls (fun m' hm=>by
  obtain ⟨o',es',ep',ho',r'⟩:=hm
  rw [ho] at ho'; cases ho'
  exact ⟨_,es',ep',hL,r'⟩) hok hg
theorem Inv.turned {t':Nat} {it:Addr} (I:Inv X pins σ H s) (k:∀ b o,b ≠ it→s.heap.get? b = some o→h'.get? b = some o) (hn:H it = none) (hL:it ≠ X.env.locals)
  (h1:it ∈ X.ex ∨ X.s₀.heap.objs.size ≤ it) (h2:∀ x c,X.env.cells.lookup x = some c→c ≠ it) (h3:∀ p ∈ X.pn ++ pins,p.1 ≠ it):Inv X pins σ H { s with heap:=h',toks:=t' }:=by
 have nit:∀ b u,H b = some u→b ≠ it:=fun b u e z=>by rw [z,hn] at e; cases e
 refine I.step (g':=s.gens) (d':=s.drawn) (ch:=[it]) (fun b hb=>?_) (fun b o _ _ hc e _=>k b o (fun z=>hc (by simp [z])) e) (fun b o _ _ hc e _=>⟨o.slots,k b o (fun z=>hc (by simp [z])) e⟩) (fun _ _ _ _ n=>n)
  (fun b o hc e=>⟨o,k b o (fun z=>hc (by simp [z])) e⟩) (fun _ _ e=>e) (fun _ _ _ e=>e) (fun b ps e=>⟨#[],by rw [e]; simp⟩) (fun m hm=>?_) (fun b u e=>?_) I.bare
 ·have e:b = it:=by simpa using hb
  subst e
  exact ⟨h1,hL,h2,h3⟩
 ·obtain ⟨o,es,ep,ho,r⟩:=hm
  exact ⟨o,es,ep,k _ o (Ne.symm hL) ho,r⟩
 ·refine (I.hok b u e).stay (fun c v hc q=>k c v ?_ q) (fun _ q=>q) fun _ _ q=>q
  rcases hc with z | z
  ·rw [z]; exact nit b u e
  ·exact nit c _ z
theorem Inv.tok (I:Inv X pins σ H s) (t:Nat):Inv X pins σ H { s with toks:=t }:=I.un (h':=s.heap) (t':=t) Un.refl I.hok
theorem Inv.kept {t':Nat} (I:Inv X pins σ H s) (k:∀ b u,s.heap.get? b = some u→h'.get? b = some u):Inv X pins σ H { s with heap:=h',toks:=t' }:=I.un (Un.kept k) (I.hok.kept k)
theorem Inv.laid {a:Addr} {o:HO} {t':Nat} (I:Inv X pins σ H s) (k:∀ b u,s.heap.get? b = some u→h'.get? b = some u) (hp:s.heap.objs.size ≤ a) (new:ObjOk X.prog X.w (upd H a o) h' a o) :
  Inv X pins σ (upd H a o) { s with heap:=h',toks:=t' }:=I.un (Un.laid k hp (I.hok.fresh hp)) (I.hok.laid k hp new)
theorem Inv.write {x e:Addr} {o:HO} {t':Nat} (I:Inv X pins σ H s) (mu:Mut (H x)) (he:e = x ∨ H e = some (.own x)) (k:∀ b u,b ≠ e→s.heap.get? b = some u→h'.get? b = some u) (heo:∃ u,h'.get? e = some u)
  (new:ObjOk X.prog X.w (upd H x o) h' x o):Inv X pins σ (upd H x o) { s with heap:=h',toks:=t' }:=I.un (Un.write mu he k heo) (I.hok.write mu he k heo new)
theorem Inv.weak {σ':List (Option V)} (I:Inv X pins σ H s) (hl:σ'.length = σ.length) (w:∀ (i:Nat) v,σ'[i]? = some (some v)→σ[i]? = some (some v)):Inv X pins σ' H s :=
 ⟨I.ok,I.os,I.bare,I.base,let ⟨m,hn,hl'⟩:=I.loc; ⟨m,hn,fun i x v e1 e2 e3=>hl' i x v e1 (w i v e2) e3⟩,I.cell,I.free,I.freeC,I.pin,I.hok,hl.trans I.len⟩
theorem Inv.pins_of {pins':List (Addr × Obj)} (I:Inv X pins σ H s) (h:∀ p ∈ pins',s.heap.get? p.1 = some p.2∧H p.1 = none∧p.1 ≠ X.env.locals∧p.1 ∉ X.fs∧∀ v,p.2.data ≠ .cell v):Inv X pins' σ H s :=
 ⟨I.ok,I.os,I.bare,I.base,I.loc,I.cell,I.free,I.freeC,fun p hp=>(List.mem_append.mp hp).elim (fun z=>I.pin p (List.mem_append_left _ z)) (h p),I.hok,I.len⟩
theorem nodup_ix {N:List Str} (hN:N.Nodup) {i j:Nat} {x:Str} (a:N[i]? = some x) (b:N[j]? = some x):i = j:=by
 obtain ⟨h1,e1⟩:=List.getElem?_eq_some_iff.mp a
 obtain ⟨h2,e2⟩:=List.getElem?_eq_some_iff.mp b
 exact (List.getElem_inj hN).mp (e1.trans e2.symm)
theorem store_ok2 {M:Model} {A:Around} {E:Value→Shared→Prop} {i:Nat} {x:Str} {v:V} {u:Value} {Q:Unit→Shared→Prop} (I:Inv X pins σ H s) (hN:X.N.Nodup) (hi:X.N[i]? = some x) (hx:Loc X.env.scope x) (r:RelV v u)
  (h:∀ s',Inv X pins (σ.set i (some v)) H s'→(∃ a,Heap.SameBut a s.heap s'.heap∧(a = X.env.locals ∨ X.env.cells.lookup x = some a))→Q () s') (hf:X.fn x = true ∨ X.env.scope.names.lookup x = some .local:=by first | exact .inl rfl | exact .inr rfl | assumption):wpAny M A (storeName X.env x u) Q E s:=by
 obtain ⟨m,hn,hl⟩:=id I.loc
 have hcls:(X.env.scope.kind == .class || (X.env.scope.kind == .module && X.env.locals != X.env.globals)) = false:=by rw [I.ok.kind]; rfl
 have hiσ:i < σ.length:=by rw [I.len]; exact (List.getElem?_eq_some_iff.mp hi).1
 have cne:=I.cne
 have tracked:∀ {a:Addr} {h':Heap},(∃ o,s.heap.get? a = some o∧H a = none)→Heap.SameBut a s.heap h'→HOk X.prog X.w H h':=fun {a h'} ha hs b ob e=>by
  obtain ⟨_,_,hfree⟩:=ha
  refine (I.hok b ob e).stay (fun c w' hc q=>(hs.2 c ?_).trans q) (fun _ q=>q) fun _ _ q=>q
  rintro rfl
  rcases hc with rfl | hc
  ·rw [hfree] at e; cases e
  ·rw [hfree] at hc; cases hc
 rcases hx with hk | hk
 ·refine wpAny_storeName_local hk hn (fun h' hn' hs=>?_) hcls
  obtain ⟨oL,_,_,hoL,_⟩:=id hn
  refine h _ ⟨I.ok,I.os,I.bare,⟨fun b o e n hb hx=>?_,fun b o e n hb hx=>?_,I.base.free,fun b o e hx=>?_,I.base.tups,I.base.frzs,I.base.tbls⟩,⟨_,hn',fun j y v' e1 e2 e3=>?_⟩,fun y c e=>?_,I.free,I.freeC,fun p hp=>?_,tracked ⟨oL,hoL,I.free⟩ hs,by simpa using I.len⟩ ⟨_,hs,.inl rfl⟩
  ·exact (hs.2 b (Nat.ne_of_lt (Nat.lt_of_lt_of_le (Heap.lt_size e) I.ok.above))).trans (I.base.keep b o e n hb hx)
  ·obtain ⟨sl,e1⟩:=I.base.slot b o e n hb hx
   exact ⟨sl,(hs.2 b (Nat.ne_of_lt (Nat.lt_of_lt_of_le (Heap.lt_size e) I.ok.above))).trans e1⟩
  ·obtain ⟨o',e1⟩:=I.base.there b o e hx
   exact ⟨o',(hs.2 b (Nat.ne_of_lt (Nat.lt_of_lt_of_le (Heap.lt_size e) I.ok.above))).trans e1⟩
  ·by_cases hj:j = i
   ·subst hj
    rw [hi] at e1; cases e1
    rw [List.getElem?_set_self hiσ] at e2
    cases e2
    exact ⟨u,r,.inl ⟨hk,by simp⟩⟩
   ·rw [List.getElem?_set_ne (Ne.symm hj)] at e2
    obtain ⟨u',r',q⟩:=hl j y v' e1 e2 e3
    refine ⟨u',r',?_⟩
    rcases q with ⟨k,e⟩ | ⟨k,c,e,z⟩
    ·refine .inl ⟨k,?_⟩
     have:y ≠ x:=fun e=>hj (nodup_ix hN e1 (e ▸ hi))
     simp [this,e]
    ·exact .inr ⟨k,c,e,z.sameBut hs (cne y c e)⟩
  ·obtain ⟨w',z⟩:=I.cell y c e
   exact ⟨w',z.sameBut hs (cne y c e)⟩
  ·obtain ⟨e,n,ne,nf,d⟩:=I.pin p hp
   exact ⟨(hs.2 p.1 ne).trans e,n,ne,nf,d⟩
 ·have hfn:X.fn x = true:=by
   rcases hf with z | z
   ·exact z
   ·rw [z] at hk; cases hk
  obtain ⟨c,hc⟩:=I.ok.has x (.inl hk)
  obtain ⟨w',z⟩:=I.cell x c hc
  refine wpAny_storeName_cell I.ok.kind hk hc z (fun h' hc' hs=>?_)
  obtain ⟨oc,hoc,hocd⟩:=id z
  refine h { s with heap:=h' } ⟨I.ok,I.os,I.bare,⟨fun b o e n hb hx=>?_,fun b o e n hb hx=>?_,I.base.free,fun b o e hx=>?_,I.base.tups,I.base.frzs,I.base.tbls⟩,⟨m,hn.sameBut hs (Ne.symm (cne x c hc)),fun j y v' e1 e2 e3=>?_⟩,fun y c' e=>?_,I.free,I.freeC,fun p hp=>?_,tracked ⟨oc,hoc,I.freeC x c hc⟩ hs,by simpa using I.len⟩ ⟨c,hs,.inr hc⟩
  ·exact (hs.2 b (Nat.ne_of_lt (Nat.lt_of_lt_of_le (Heap.lt_size e) (I.ok.cab x c hfn hc)))).trans (I.base.keep b o e n hb hx)
  ·obtain ⟨sl,e1⟩:=I.base.slot b o e n hb hx
   exact ⟨sl,(hs.2 b (Nat.ne_of_lt (Nat.lt_of_lt_of_le (Heap.lt_size e) (I.ok.cab x c hfn hc)))).trans e1⟩
  ·obtain ⟨o',e1⟩:=I.base.there b o e hx
   exact ⟨o',(hs.2 b (Nat.ne_of_lt (Nat.lt_of_lt_of_le (Heap.lt_size e) (I.ok.cab x c hfn hc)))).trans e1⟩
  ·by_cases hj:j = i
   ·subst hj
    rw [hi] at e1; cases e1
    rw [List.getElem?_set_self hiσ] at e2
    cases e2
    exact ⟨u,r,.inr ⟨.inl hk,c,hc,hc'⟩⟩
   ·rw [List.getElem?_set_ne (Ne.symm hj)] at e2
    obtain ⟨u',r',q⟩:=hl j y v' e1 e2 e3
    refine ⟨u',r',?_⟩
    rcases q with q | ⟨k,c',e,z'⟩
    ·exact .inl q
    ·refine .inr ⟨k,c',e,z'.sameBut hs ?_⟩
     rintro rfl
     exact hj (nodup_ix hN e1 (I.ok.inj _ _ _ e hc ▸ hi))
  ·by_cases hcc:c' = c
   ·subst hcc; exact ⟨_,hc'⟩
   ·obtain ⟨w2,z2⟩:=I.cell y c' e
    exact ⟨w2,z2.sameBut hs hcc⟩
  ·obtain ⟨e,n,ne,nf,d⟩:=I.pin p hp
   refine ⟨(hs.2 p.1 ?_).trans e,n,ne,nf,d⟩
   intro q
   rw [q,hoc] at e
   have q':oc = p.2:=Option.some.inj e
   exact d w' (by rw [← q']; exact hocd)
theorem store_ok {M:Model} {A:Around} {E:Value→Shared→Prop} {i:Nat} {x:Str} {v:V} {u:Value} {Q:Unit→Shared→Prop} (I:Inv X pins σ H s) (hN:X.N.Nodup) (hi:X.N[i]? = some x) (hx:Loc X.env.scope x) (r:RelV v u)
  (h:∀ s',Inv X pins (σ.set i (some v)) H s'→Q () s') (hf:X.fn x = true ∨ X.env.scope.names.lookup x = some .local:=by first | exact .inl rfl | exact .inr rfl | assumption):wpAny M A (storeName X.env x u) Q E s :=
 store_ok2 I hN hi hx r (fun s' I' _=>h s' I') hf
theorem Inv.call' {s':Shared} {ch:List Addr} (I:Inv X pins σ H s) (ho:s'.os = s.os) (u:Un (frs X.stack) ch H H' s.heap s'.heap) (hok:HOk X.prog X.w H' s'.heap) (hg:AllBare s'.gens)
  (hch:∀ b ∈ ch,(b ∈ X.ex ∨ X.s₀.heap.objs.size ≤ b)∧b ≠ X.env.locals∧(∀ x c,X.env.cells.lookup x = some c→c ≠ b)∧∀ p ∈ X.pn ++ pins,p.1 ≠ b):Inv X pins σ H' s':=by
 obtain ⟨h',g',d',t',o'⟩:=s'
 have e:o' = s.os:=ho
 subst e
 exact I.call (g':=g') (t':=t') (d':=d') u hok hg hch
end
noncomputable abbrev XK:=Value→Option Addr→Hp→Prop
noncomputable abbrev St:=List (Option V)
noncomputable abbrev VK:=V→Hp→Prop
noncomputable abbrev TE:=St→Hp→VK→Prop
noncomputable abbrev TT:=St→Hp→(Bool→Hp→Prop)→Prop
noncomputable abbrev TA:=St→Hp→(List V→Hp→Prop)→Prop
structure Ends where
 nx:St→Hp→Prop
 rt:VK
 bk:St→Hp→Prop:=fun _ _=>False
 ct:St→Hp→Prop:=fun _ _=>False
noncomputable abbrev TS:=Ends→St→Hp→Prop
noncomputable def EP (X:Cx) (pins:List (Addr × Obj)) (σ:St) (Q:VK) (u:Value) (s':Shared):Prop:=∃ v H',Inv X pins σ H' s'∧RelV v u∧Q v H'
noncomputable def TP (X:Cx) (pins:List (Addr × Obj)) (σ:St) (Q:Bool→Hp→Prop) (b:Bool) (s':Shared):Prop:=∃ H',Inv X pins σ H' s'∧Q b H'
noncomputable def AP (X:Cx) (pins:List (Addr × Obj)) (σ:St) (Q:List V→Hp→Prop) (us:List Value) (s':Shared):Prop:=∃ vs H',Inv X pins σ H' s'∧Vals vs us∧Q vs H'
noncomputable def SP (X:Cx) (pins:List (Addr × Obj)) (D:Ends) (f:Flow) (s':Shared):Prop :=
 match f with
 | .next=>∃ σ' H',Inv X pins σ' H' s'∧D.nx σ' H'
 | .brk=>∃ σ' H',Inv X pins σ' H' s'∧D.bk σ' H'
 | .cont=>∃ σ' H',Inv X pins σ' H' s'∧D.ct σ' H'
 | .ret u=>∃ v σ' H',Inv X pins σ' H' s'∧RelV v u∧D.rt v H'
noncomputable def PE (X:Cx) (e:Expr) (t:TE):Prop :=
 ∀ (pins:List (Addr × Obj)) (s:Shared) (σ:St) (H:Hp) (Q:VK),Inv X pins σ H s→t σ H Q→wpAny (model X.prog X.w) X.A (eval e X.env) (EP X pins σ Q) X.xe s
noncomputable def PT (X:Cx) (e:Expr) (t:TT):Prop :=
 ∀ (pins:List (Addr × Obj)) (s:Shared) (σ:St) (H:Hp) (Q:Bool→Hp→Prop),Inv X pins σ H s→t σ H Q→wpAny (model X.prog X.w) X.A (isTrue e X.env (eval e X.env)) (TP X pins σ Q) X.xe s
noncomputable def PW (X:Cx) (e:Expr) (t:TT):Prop :=
 ∀ (whole:Sem Value) (pins:List (Addr × Obj)) (s:Shared) (σ:St) (H:Hp) (Q:Bool→Hp→Prop),Inv X pins σ H s→t σ H Q→wpAny (model X.prog X.w) X.A (isTrue e X.env whole) (TP X pins σ Q) X.xe s
theorem PW.pt {X:Cx} {e:Expr} {t:TT} (h:PW X e t):PT X e t:=h _
noncomputable def PA (X:Cx) (es:List Expr) (t:TA):Prop :=
 ∀ (pos:Pos) (pins:List (Addr × Obj)) (s:Shared) (σ:St) (H:Hp) (Q:List V→Hp→Prop),Inv X pins σ H s→t σ H Q→wpAny (model X.prog X.w) X.A (spliced (backTo pos (starEach es X.env))) (AP X pins σ Q) X.xe s
noncomputable def PS (X:Cx) (st:Stmt) (t:TS):Prop :=
 ∀ (pins:List (Addr × Obj)) (s:Shared) (σ:St) (H:Hp) (D:Ends),Inv X pins σ H s→t D σ H→wpAny (model X.prog X.w) X.A (exec st X.env) (SP X pins D) X.xe s
noncomputable def PSs (X:Cx) (st:List Stmt) (t:TS):Prop :=
 ∀ (pins:List (Addr × Obj)) (s:Shared) (σ:St) (H:Hp) (D:Ends),Inv X pins σ H s→t D σ H→wpAny (model X.prog X.w) X.A (execs st X.env) (SP X pins D) X.xe s
theorem thn {α:Type} {t:Sem α} {Q Q':α→Shared→Prop} {M:Model} {A:Around} {E:Value→Shared→Prop} {s:Shared} (h:wpAny M A t Q E s) (hQ:∀ a s,Q a s→Q' a s):wpAny M A t Q' E s:=wpAny_mono h hQ fun _ _ x=>x
section
variable {X:Cx}
noncomputable def tVar (i:Nat):TE:=fun σ H Q=>∃ v,σ[i]? = some (some v)∧Q v H
noncomputable def tC (v:V):TE:=fun _ H Q=>Q v H
theorem pe_var {i:Nat} {x:Str} {pos:Pos} (hN:X.N[i]? = some x) (hv:Vis X.env.scope x) (hd:(x == ("__debug__" : Str)) = false:=by decide) (hcd:(x == ("__classdict__" : Str)) = false:=by decide):PE X (.Name x pos) (tVar i):=by
 intro pins s σ H Q I h
 obtain ⟨v,e,h⟩:=h
 obtain ⟨m,hn,hl⟩:=I.loc
 obtain ⟨u,r,l⟩:=hl i x v hN e hv
 have fin:EP X pins σ Q u s:=⟨v,H,I,r,h⟩
 rcases l with ⟨hk,hm⟩ | ⟨hk,c,hc,hcell⟩
 ·exact wpAny_Name (wpAny_loadName_local I.ok.kind hk hn hm fin) hd
 ·rcases hk with hk | hk
  ·exact wpAny_Name (wpAny_loadName_cell I.ok.kind hk hc hcell fin) hd
  ·exact wpAny_Name (wpAny_loadName_free I.ok.kind hk hc hcell fin hcd) hd
theorem pe_int {i j pos}:PE X (.Constant (.int i) j pos) (tC (.int i)):=fun _ _ _ H _ I h=>wpAny_Constant_int ⟨.int i,H,I.tok _,⟨_,rfl⟩,h⟩
theorem pe_bl {b j pos}:PE X (.Constant (.bool b) j pos) (tC (.bl b)):=fun _ _ _ H _ I h=>Constant_bool ⟨.bl b,H,I,rfl,h⟩
theorem pe_non {j pos}:PE X (.Constant .none j pos) (tC .non):=fun _ _ _ H _ I h=>Constant_none ⟨.non,H,I,rfl,h⟩
theorem pe_str {x j pos}:PE X (.Constant (.str x) j pos) (tC (.str x)):=fun _ _ _ H _ I h=>Calls.Constant_str ⟨.str x,H,I.tok _,⟨_,rfl⟩,h⟩
noncomputable def Gl (X:Cx) (x:Str):Prop:=X.env.kindOf x = some .globalImplicit
theorem ld_glob {E:Value→Shared→Prop} {pins:List (Addr × Obj)} {s:Shared} {σ:St} {H:Hp} {x:Str} {u:Value} {pos:Pos} {Q:Value→Shared→Prop} (I:Inv X pins σ H s) (hg:Gl X x) (hm:X.mg x = some u) (h:Q u s)
  (hd:(x == ("__debug__" : Str)) = false:=by decide):wpAny (model X.prog X.w) X.A (eval (.Name x pos) X.env) Q E s :=
 Calls.Name_function_global I.ok.kind hg (Calls.loadGlobal_global (by rw [I.ok.glob]; exact I.mod.glob.keeps I.bk) hm h) hd
theorem ld_blt {E:Value→Shared→Prop} {pins:List (Addr × Obj)} {s:Shared} {σ:St} {H:Hp} {x:Str} {u:Value} {pos:Pos} {Q:Value→Shared→Prop} (I:Inv X pins σ H s) (hg:Gl X x) (hm:X.mg x = none) (hv:bootBuiltins x = some u) (h:Q u s)
  (hn:x ≠ "__name__" := by decide) (hd:(x == ("__debug__" : Str)) = false:=by decide):wpAny (model X.prog X.w) X.A (eval (.Name x pos) X.env) Q E s:=by
 obtain ⟨mb,h1,h2⟩:=I.mod.blt
 exact Calls.Name_function_global I.ok.kind hg (Calls.loadGlobal_builtin (by rw [I.ok.glob]; exact I.mod.glob.keeps I.bk) hm (by rw [I.ok.blt]; exact h1.keeps I.bk) ((h2 x hn).trans hv) h) hd
theorem pe_glob {x:Str} {v:V} {u:Value} {pos:Pos} (hg:Gl X x) (hm:X.mg x = some u) (r:RelV v u) (hd:(x == ("__debug__" : Str)) = false:=by decide):PE X (.Name x pos) (tC v) :=
 fun _ _ _ H _ I h=>ld_glob I hg hm ⟨v,H,I,r,h⟩ hd
theorem pe_bltn {x:Str} {v:V} {u:Value} {pos:Pos} (hg:Gl X x) (hm:X.mg x = none) (hv:bootBuiltins x = some u) (r:RelV v u) (hn:x ≠ "__name__" := by decide) (hd:(x == ("__debug__" : Str)) = false:=by decide):PE X (.Name x pos) (tC v) :=
 fun _ _ _ H _ I h=>ld_blt I hg hm hv ⟨v,H,I,r,h⟩ hn hd
variable {a b:Expr} {ta tb:TE} {pos:Pos}
noncomputable def PC (X:Cx) (op:CmpOp) (a b:Expr) (t:TE):Prop :=
 ∀ (pins:List (Addr × Obj)) (s:Shared) (σ:St) (H:Hp) (Q:VK),Inv X pins σ H s→t σ H Q →
  wpAny (model X.prog X.w) X.A (eval a X.env) (fun v s₁=>wpAny (model X.prog X.w) X.A (eval b X.env) (fun u s₂=>wpAny (model X.prog X.w) X.A (compareOp op v u) (EP X pins σ Q) X.xe s₂) X.xe s₁) X.xe s
noncomputable def tB (t:TE):TT:=fun σ H Q=>t σ H fun x H1=>∃ c,x = .bl c∧Q c H1
theorem pt_cmp {op:CmpOp} {t:TE} (h:PC X op a b t) (h1:behindInMarks op b = false:=by first | exact nobehind _ (by decide) (by decide) | rfl):PT X (.Compare a [op] [b] pos) (tB t):=by
 intro pins s σ H Q I hw
 refine wpAny_isTrue_Compare1 (thn (h pins s σ H _ I hw) fun v s1 h1=>thn h1 fun u s2 h2=>thn h2 fun c s3 ⟨x,H1,I1,r1,q1⟩=>?_) h1
 obtain ⟨d,rfl,q⟩:=q1
 cases r1
 exact wpAny_truthy_bool ⟨H1,I1,q⟩
theorem pt_val {e:Expr} {t:TE} (h:PE X e t) (he:∀ whole,isTrue e X.env whole = (do let v ← whole; standAt e.pos; holding [v] (truthy v)):=by intro _; rfl):PT X e (tB t):=by
 intro pins s σ H Q I hw
 refine isTrue_plain (thn (h pins s σ H _ I hw) fun v s1 ⟨x,H1,I1,r1,q1⟩=>?_) (he _)
 obtain ⟨d,rfl,q⟩:=q1
 cases r1
 exact wpAny_truthy_bool ⟨H1,I1,q⟩
variable {tA tB':TT} {rest:List Expr}
noncomputable def tAnd (t u:TT):TT:=fun σ H Q=>t σ H fun c H1=>if c = true then u σ H1 Q else Q false H1
noncomputable def tOr (t u:TT):TT:=fun σ H Q=>t σ H fun c H1=>if c = true then Q true H1 else u σ H1 Q
noncomputable def tNot (t:TT):TT:=fun σ H Q=>t σ H fun c H1=>Q (!c) H1
theorem pw_and1 (ha:PT X a tA):PW X (.BoolOp .And [a] pos) tA:=by
 intro wh pins s σ H Q I h
 refine isTrue_and (thn (ha pins s σ H Q I h) fun c s1 e=>?_)
 cases c with
 | true=>exact isTrue_and_nil e
 | false=>exact e
theorem pw_or1 (ha:PT X a tA):PW X (.BoolOp .Or [a] pos) tA:=by
 intro wh pins s σ H Q I h
 refine isTrue_or (thn (ha pins s σ H Q I h) fun c s1 e=>?_)
 cases c with
 | false=>exact isTrue_or_nil e
 | true=>exact e
theorem pw_and (ha:PT X a tA) (hb:PW X (.BoolOp .And (b :: rest) pos) tB'):PW X (.BoolOp .And (a :: b :: rest) pos) (tAnd tA tB'):=by
 intro wh pins s σ H Q I h
 refine isTrue_and (thn (ha pins s σ H _ I h) fun c s1 ⟨H1,I1,q1⟩=>?_)
 cases c with
 | true=>exact hb wh pins s1 σ H1 Q I1 q1
 | false=>exact ⟨H1,I1,q1⟩
theorem pw_or (ha:PT X a tA) (hb:PW X (.BoolOp .Or (b :: rest) pos) tB'):PW X (.BoolOp .Or (a :: b :: rest) pos) (tOr tA tB'):=by
 intro wh pins s σ H Q I h
 refine isTrue_or (thn (ha pins s σ H _ I h) fun c s1 ⟨H1,I1,q1⟩=>?_)
 cases c with
 | true=>exact ⟨H1,I1,q1⟩
 | false=>exact hb wh pins s1 σ H1 Q I1 q1
theorem pt_not (ha:PT X a tA):PT X (.UnaryOp .Not a pos) (tNot tA):=by
 intro pins s σ H Q I h
 exact isTrue_not (ha pins s σ H (fun c H1=>Q (!c) H1) I h)
noncomputable def tIf (t:TT) (ta tb:TE):TE:=fun σ H Q=>t σ H fun c H1=>if c = true then ta σ H1 Q else tb σ H1 Q
theorem pe_ifExp {c:Expr} (hc:PT X c tA) (ha:PE X a ta) (hb:PE X b tb):PE X (.IfExp c a b pos) (tIf tA ta tb):=by
 intro pins s σ H Q I h
 refine wpAny_IfExp (thn (hc pins s σ H _ I h) fun d s1 ⟨H1,I1,q1⟩=>?_)
 cases d with
 | true=>exact ha pins s1 σ H1 Q I1 q1
 | false=>exact hb pins s1 σ H1 Q I1 q1
end
noncomputable def SqL (K:W.Frag) (H:Hp) (a:Addr) (xs:List V):Prop :=
 Rd H a (.lst xs) ∨
  ∃ (o:Obj) (its:Array Value) (n:Nat),K.lookup a = some o∧o.cls = .type "list"∧o.dict = none∧o.data = .seq its n∧its.size ≤ sizeLine∧Vals xs its.toList
noncomputable def SqT (K:W.Frag) (H:Hp) (a:Addr) (xs:List V):Prop :=
 Rd H a (.tup xs) ∨
  ∃ (o:Obj) (its:Array Value) (n:Nat),K.lookup a = some o∧o.cls = .type "tuple"∧o.data = .seq its n∧its.size ≤ sizeLine∧Vals xs its.toList
noncomputable def absV:Value→Option V
 | .none=>some .non
 | .bool b=>some (.bl b)
 | .int i _=>some (.int i)
 | .str x _=>some (.str x)
 | .bytes b _=>some (.byt b)
 | .float b _=>some (.flt b)
 | .ref a=>some (.ref a)
 | .type n=>some (.ty n)
 | _=>none
theorem RelV.abs {x:V} {u:Value} (r:RelV x u):absV u = some x:=by
 cases x with
 | non=>cases r; rfl
 | bl _=>cases r; rfl
 | int _=>obtain ⟨t,rfl⟩:=r; rfl
 | str _=>obtain ⟨t,rfl⟩:=r; rfl
 | byt _=>obtain ⟨t,rfl⟩:=r; rfl
 | flt _=>obtain ⟨t,rfl⟩:=r; rfl
 | ref _=>cases r; rfl
 | ty _=>cases r; rfl
theorem RelV.inj {x y:V} {u:Value} (r:RelV x u) (q:RelV y u):x = y:=Option.some.inj (r.abs.symm.trans q.abs)
theorem Vals.inj:∀ {xs ys:List V} {us:List Value},Vals xs us→Vals ys us→xs = ys
 | _,_,_,.nil,.nil=>rfl
 | _,_,_,.cons r t,.cons r' t'=>by rw [r.inj r',Vals.inj t t']
section
variable {X:Cx} {pins:List (Addr × Obj)} {σ:St} {H:Hp} {s:Shared} {a:Addr} {xs ys:List V}
theorem SqT.of {K:W.Frag} (h:H a = some (.tup xs)):SqT K H a xs:=.inl (.inl h)
theorem Inv.list (I:Inv X pins σ H s) (h:SqL X.K H a xs):∃ its:List Value,Vals xs its∧PlainL s.heap a its.toArray∧xs.length ≤ sizeLine:=by
 rcases h with h | ⟨o,its,n,hk,hc,hd,hs,hz,r⟩
 ·obtain ⟨z,its,n,r,e⟩:=h.ok I.hok
  exact ⟨its,r,⟨_,n,e,rfl,rfl,rfl⟩,z⟩
 ·refine ⟨its.toList,r,⟨o,n,I.kIn a o hk,hc,hd,by simpa using hs⟩,?_⟩
  have e:=r.length
  simp only [Array.length_toList] at e
  omega
theorem Inv.tuple (I:Inv X pins σ H s) (h:SqT X.K H a xs):∃ its:List Value,Vals xs its∧IsTup s.heap a its.toArray∧xs.length ≤ sizeLine:=by
 rcases h with h | ⟨o,its,n,hk,hc,hs,hz,r⟩
 ·obtain ⟨z,its,r,p⟩:=h.ok I.hok
  exact ⟨its,r,p.tup,z⟩
 ·refine ⟨its.toList,r,⟨o,I.kIn a o hk,hc,n,by simpa using hs⟩,?_⟩
  have e:=r.length
  simp only [Array.length_toList] at e
  omega
theorem Inv.list_inj (I:Inv X pins σ H s) (h:SqL X.K H a xs) (h':SqL X.K H a ys):xs = ys:=by
 obtain ⟨its,r,⟨o,n,e,_,_,d⟩,_⟩:=I.list h
 obtain ⟨its',r',⟨o',n',e',_,_,d'⟩,_⟩:=I.list h'
 rw [e] at e'; cases e'
 rw [d] at d'
 injection d' with d1 _
 have:its = its':=by simpa using congrArg Array.toList d1
 subst this
 exact r.inj r'
theorem Inv.tuple_inj (I:Inv X pins σ H s) (h:SqT X.K H a xs) (h':SqT X.K H a ys):xs = ys:=by
 obtain ⟨its,r,⟨o,e,_,n,d⟩,_⟩:=I.tuple h
 obtain ⟨its',r',⟨o',e',_,n',d'⟩,_⟩:=I.tuple h'
 rw [e] at e'; cases e'
 rw [d] at d'
 injection d' with d1 _
 have:its = its':=by simpa using congrArg Array.toList d1
 subst this
 exact r.inj r'
end
noncomputable abbrev Cx.wish (X:Cx) (E:Value→Shared→Prop):Cx:={ X with xe:=E }
noncomputable abbrev Cx.nox (X:Cx):Cx:=X.wish fun _ _=>False
theorem Cx.Ok.wish {X:Cx} (ok:X.Ok) (E:Value→Shared→Prop):(X.wish E).Ok :=
 ⟨ok.mod,ok.kind,ok.glob,ok.blt,ok.above,ok.inj,ok.has,ok.cab,ok.hd,ok.frames,ok.stk,ok.exf,ok.bs,ok.bsz,ok.noex,ok.exfs,ok.funs,ok.frf⟩
theorem Cx.Ok.unwish {X:Cx} {E:Value→Shared→Prop} (ok:(X.wish E).Ok):X.Ok :=
 ⟨ok.mod,ok.kind,ok.glob,ok.blt,ok.above,ok.inj,ok.has,ok.cab,ok.hd,ok.frames,ok.stk,ok.exf,ok.bs,ok.bsz,ok.noex,ok.exfs,ok.funs,ok.frf⟩
section
variable {X:Cx} {pins:List (Addr × Obj)} {σ:St} {H:Hp} {s:Shared} {E:Value→Shared→Prop}
theorem Inv.wish (I:Inv X pins σ H s) (E:Value→Shared→Prop):Inv (X.wish E) pins σ H s:=⟨I.ok.wish E,I.os,I.bare,I.base,I.loc,I.cell,I.free,I.freeC,I.pin,I.hok,I.len⟩
theorem Inv.unwish (I:Inv (X.wish E) pins σ H s):Inv X pins σ H s:=⟨I.ok.unwish,I.os,I.bare,I.base,I.loc,I.cell,I.free,I.freeC,I.pin,I.hok,I.len⟩
theorem SP.unwish {D:Ends} {f:Flow} {s':Shared} (h:SP (X.wish E) pins D f s'):SP X pins D f s':=by
 cases f with
 | next=>obtain ⟨σ',H',I,q⟩:=h; exact ⟨σ',H',I.unwish,q⟩
 | brk=>obtain ⟨σ',H',I,q⟩:=h; exact ⟨σ',H',I.unwish,q⟩
 | cont=>obtain ⟨σ',H',I,q⟩:=h; exact ⟨σ',H',I.unwish,q⟩
 | ret u=>obtain ⟨v,σ',H',I,r,q⟩:=h; exact ⟨v,σ',H',I.unwish,r,q⟩
theorem PSs.nox {st:List Stmt} {t:TS} (h:PSs X.nox st t):PSs X st t:=fun pins s σ H D I hw =>
 wpAny_mono (h pins s σ H D (I.wish _) hw) (fun _ _ q=>q.unwish) fun _ _ z=>False.elim z
end
section
variable {X:Cx} {st:Stmt} {rest:List Stmt} {t u:TS} {e:Expr} {te:TE} {pos:Pos}
noncomputable def tNext:TS:=fun D σ H=>D.nx σ H
noncomputable def tSeq (t u:TS):TS:=fun D σ H=>t { D with nx:=u D } σ H
theorem pss_nil:PSs X [] tNext:=fun _ _ σ H _ I h=>wpAny_execs_nil ⟨σ,H,I,h⟩
theorem pss_cons (h1:PS X st t) (h2:PSs X rest u):PSs X (st :: rest) (tSeq t u):=by
 intro pins s σ H D I h
 refine wpAny_execs_cons (thn (h1 pins s σ H { D with nx:=u D } I h) fun f s1 q=>?_)
 cases f with
 | next =>
  obtain ⟨σ',H',I',q⟩:=q
  exact h2 pins s1 σ' H' D I' q
 | ret v=>exact q
 | brk=>exact q
 | cont=>exact q
theorem Inv.quiet {pins:List (Addr × Obj)} {σ:St} {H:Hp} {s:Shared} (I:Inv X pins σ H s):interactive X.env = false:=by simp [interactive,I.ok.kind]
noncomputable def tDrop (te:TE):TS:=fun D σ H=>te σ H fun _ H1=>D.nx σ H1
theorem ps_expr (he:PE X e te) (hs:swapsWith e none pos.line X.env = pure false:=by rfl):PS X (.Expr e pos) (tDrop te):=by
 intro pins s σ H D I h
 exact wpAny_Expr_any (thn (he pins s σ H _ I h) fun v s1 ⟨x,H1,I1,r1,q1⟩=>⟨σ,H1,I1,q1⟩) I.quiet hs
noncomputable def tRet (te:TE):TS:=fun D σ H=>te σ H D.rt
theorem ps_ret (he:PE X e te):PS X (.Return (some e) pos) (tRet te):=by
 intro pins s σ H D I h
 exact wpAny_Return_some (thn (he pins s σ H _ I h) fun v s1 ⟨x,H1,I1,r1,q1⟩=>⟨x,σ,H1,I1,r1,q1⟩)
noncomputable def tIfS (c:TT) (t u:TS):TS:=fun D σ H=>c σ H fun b H1=>if b = true then t D σ H1 else u D σ H1
theorem ps_if {c:Expr} {a b:List Stmt} {tc:TT} (hc:PT X c tc) (ha:PSs X a t) (hb:PSs X b u):PS X (.If c a b pos) (tIfS tc t u):=by
 intro pins s σ H D I h
 refine wpAny_If (thn (hc pins s σ H _ I h) fun d s1 ⟨H1,I1,q1⟩=>?_)
 cases d with
 | true=>exact ha pins s1 σ H1 D I1 q1
 | false=>exact hb pins s1 σ H1 D I1 q1
noncomputable def tNever:TS:=fun _ _ _=>False
theorem pss_never {sts:List Stmt}:PSs X sts tNever:=fun _ _ _ _ _ _ h=>h.elim
end
noncomputable abbrev TG:=V→St→Hp→(St→Hp→Prop)→Prop
noncomputable abbrev TGs:=List V→St→Hp→(St→Hp→Prop)→Prop
noncomputable def PG (X:Cx) (target:Expr) (t:TG):Prop :=
 ∀ (pins:List (Addr × Obj)) (s:Shared) (σ:St) (H:Hp) (v:V) (u:Value) (Q:St→Hp→Prop),Inv X pins σ H s→RelV v u→t v σ H Q →
  wpAny (model X.prog X.w) X.A (assign target X.env u) (fun _ s'=>∃ σ' H',Inv X pins σ' H' s'∧Q σ' H') X.xe s
noncomputable def PGs (X:Cx) (ts:List Expr) (t:TGs):Prop :=
 ∀ (pins:List (Addr × Obj)) (s:Shared) (σ:St) (H:Hp) (vs:List V) (us:List Value) (Q:St→Hp→Prop),Inv X pins σ H s→Vals vs us→t vs σ H Q →
  wpAny (model X.prog X.w) X.A (assignInOrder ((assignEach ts X.env).map (·.2)) us) (fun _ s'=>∃ σ' H',Inv X pins σ' H' s'∧Q σ' H') X.xe s
noncomputable abbrev TSet:=V→V→V→Hp→(Hp→Prop)→Prop
noncomputable def PSet (X:Cx) (t:TSet):Prop :=
 ∀ (pins:List (Addr × Obj)) (s:Shared) (σ:St) (H:Hp) (o i v:V) (ov iv u:Value) (Q:Hp→Prop),Inv X pins σ H s→RelV o ov→RelV i iv→RelV v u→t o i v H Q →
  wpAny (model X.prog X.w) X.A (setItem ov iv u) (fun _ s'=>∃ H',Inv X pins σ H' s'∧Q H') X.xe s
section
variable {X:Cx} {pos:Pos}
noncomputable def gName (i:Nat):TG:=fun v σ H Q=>Q (σ.set i (some v)) H
theorem pg_name {i:Nat} {x:Str} (hN:X.N.Nodup) (hi:X.N[i]? = some x) (hx:Loc X.env.scope x) (hf:X.fn x = true ∨ X.env.scope.names.lookup x = some .local:=by first | exact .inl rfl | exact .inr rfl | assumption):PG X (.Name x pos) (gName i):=by
 intro pins s σ H v u Q I r h
 exact wpAny_assign_Name (store_ok I hN hi hx r (fun s' I'=>⟨_,H,I',h⟩) hf)
noncomputable def gNil:TGs:=fun vs σ H Q=>vs = []∧Q σ H
noncomputable def gCons (t:TG) (u:TGs):TGs:=fun vs σ H Q=>∃ v r,vs = v :: r∧t v σ H fun σ' H'=>u r σ' H' Q
theorem pgs_nil:PGs X [] gNil:=by
 intro pins s σ H vs us Q I r h
 obtain ⟨e,h⟩:=h
 subst e
 cases r
 exact assignInOrder_nil ⟨σ,H,I,h⟩
theorem pgs_cons {e:Expr} {es:List Expr} {t:TG} {u:TGs} (h1:PG X e t) (h2:PGs X es u)
  (hs:(assignEach (e :: es) X.env).map (·.2) = assign e X.env :: (assignEach es X.env).map (·.2):=by rfl):PGs X (e :: es) (gCons t u):=by
 intro pins s σ H vs us Q I r h
 obtain ⟨v,vr,e1,h⟩:=h
 subst e1
 cases r with
 | cons r rr =>
  rw [hs]
  refine assignInOrder_cons (thn (h1 pins s σ H _ _ _ I r h) fun _ s1 ⟨σ1,H1,I1,q1⟩=>?_)
  exact h2 pins s1 σ1 H1 _ _ Q I1 rr q1
noncomputable def gTup (K:W.Frag) (n:Nat) (t:TGs):TG:=fun v σ H Q=>∃ a xs,v = .ref a∧SqT K H a xs∧xs.length = n∧t xs σ H Q
theorem pg_tup {es:List Expr} {k:Nat} {t:TGs} {n:Nat} (hc:X.calm = true) (h:PGs X es t)
  (hn:(assignEach es X.env).length = n:=by rfl) (hst:(assignEach es X.env).findIdx? (·.1) = none:=by rfl):PG X (.Tuple es k pos) (gTup X.K n t):=by
 intro pins s σ H v u Q I r hw
 obtain ⟨a,xs,e1,hq,hl,hw⟩:=hw
 subst e1
 cases r
 obtain ⟨its,rv,ht,hz⟩:=I.tuple hq
 refine assign_Tuple_tuple (I.ok.hd hc) ht (by simp [hn,← hl,rv.length]) hst fun h' hx=>?_
 have I1:Inv X pins σ H { s with heap:=h' }:=I.kept (t':=s.toks) fun b o e=>hx b o (Nat.ne_of_lt (Heap.lt_size e)) e
 exact h pins _ σ H xs _ Q I1 (by simpa using rv) hw
noncomputable def gSub (to ti:TE) (t:TSet):TG:=fun v σ H Q=>to σ H fun o H1=>ti σ H1 fun i H2=>t o i v H2 fun H3=>Q σ H3
theorem pg_sub {o i:Expr} {to ti:TE} {t:TSet} (ho:PE X o to) (hi:PE X i ti) (hs:PSet X t)
  (ha:∀ v,assign (.Subscript o i pos) X.env v = (do
   let ov ← holding [v] (eval o X.env)
   let iv ← holding [v,ov] (eval i X.env)
   standAt pos
   holding [v,ov,iv] (setItem ov iv v)
   release [v,ov,iv] []):=by intro _; rfl):PG X (.Subscript o i pos) (gSub to ti t):=by
 intro pins s σ H v u Q I r h
 rw [ha]
 refine wpAny_bind (wpAny_holding (thn (ho pins s σ H _ I h) fun ov s1 ⟨x,H1,I1,r1,q1⟩=>?_))
 refine wpAny_bind (wpAny_holding (thn (hi pins s1 σ H1 _ I1 q1) fun iv s2 ⟨y,H2,I2,r2,q2⟩=>?_))
 refine wpAny_bind (wpAny_standAt (wpAny_bind (wpAny_holding (thn (hs pins s2 σ H2 x y v ov iv u _ I2 r1 r2 r q2) fun _ s3 ⟨H3,I3,q3⟩=>?_))))
 exact wpAny_release ⟨σ,H3,I3,q3⟩
noncomputable def tAsg (te:TE) (g:TG):TS:=fun D σ H=>te σ H fun x H1=>g x σ H1 D.nx
theorem ps_asg {tg e:Expr} {te:TE} {g:TG} (he:PE X e te) (hg:PG X tg g) (hs:swapsWithSole [tg] e pos.line X.env = pure false:=by rfl) (hw:swappedStores [tg] e X.env = pure none:=by rfl)
  (h1:(assignEach [tg] X.env).map (·.2) = [assign tg X.env]:=by rfl):PS X (.Assign [tg] e pos) (tAsg te g):=by
 intro pins s σ H D I h
 refine wpAny_Assign_stores (thn (he pins s σ H _ I h) fun v s1 ⟨x,H1,I1,r1,q1⟩=>?_) hs hw
 rw [h1]
 exact thn (hg pins s1 σ H1 x v _ I1 r1 q1) fun _ s2 q=>q
end
section
variable {X:Cx} {pos:Pos}
noncomputable def tWhile (c:TT) (tb:TS):TS:=fun D σ H=>∃ W:Nat→St→Hp→Prop,(∃ m,W m σ H)∧∀ m σ H,W m σ H →
 c σ H fun b H1=>if b = true then ∃ N:St→Hp→Prop,(∀ σ' H',N σ' H'→∃ m',m' < m∧W m' σ' H')∧tb { D with nx:=N,ct:=N,bk:=D.nx } σ H1 else D.nx σ H1
theorem ps_while {c:Expr} {body:List Stmt} {tc:TT} {tb:TS} (hp:PassesOwn (model X.prog X.w) X.A X.env X.xe) (hc:PT X c tc) (hb:PSs X body tb):PS X (.While c body [] pos) (tWhile tc tb):=by
 intro pins s σ H D I h
 obtain ⟨W,⟨m0,w0⟩,turn⟩:=h
 refine wpAny_While (codeAny_whileLoop (fun n s'=>∃ σ' H',Inv X pins σ' H' s'∧W n σ' H') ?_ m0 ⟨σ,H,I,w0⟩)
 rintro n s1 ⟨σ1,H1,I1,w1⟩
 refine wpAny_passesOwn hp (thn (hc pins s1 σ1 H1 _ I1 (turn n σ1 H1 w1)) fun b s2 ⟨H2,I2,q2⟩=>?_)
 cases b with
 | true =>
  obtain ⟨N,hN,q2⟩:=q2
  rw [if_pos rfl]
  refine wpAny_passesOwn hp (thn (hb pins s2 σ1 H2 _ I2 q2) fun f s3 q3=>?_)
  cases f with
  | next =>
   obtain ⟨σ3,H3,I3,n3⟩:=q3
   obtain ⟨m',hm,w3⟩:=hN σ3 H3 n3
   exact ⟨m',hm,σ3,H3,I3,w3⟩
  | cont =>
   obtain ⟨σ3,H3,I3,n3⟩:=q3
   obtain ⟨m',hm,w3⟩:=hN σ3 H3 n3
   exact ⟨m',hm,σ3,H3,I3,w3⟩
  | brk=>exact q3
  | ret v=>exact q3
 | false =>
  rw [if_neg Bool.false_ne_true]
  exact wpAny_execs_nil ⟨σ1,H2,I2,q2⟩
end
structure It where
 go:Nat→Hp→Prop
 yld:Nat→Hp→V→Hp→Prop
 stop:Nat→Hp→Prop
noncomputable def FpOk (X:Cx) (pins:List (Addr × Obj)) (H:Hp) (b:Addr):Prop :=
 H b = none∧b ≠ X.env.locals∧b ∉ X.fs∧(b ∈ X.ex ∨ X.s₀.heap.objs.size ≤ b)∧(∀ x c,X.env.cells.lookup x = some c→c ≠ b)∧∀ p ∈ X.pn ++ pins,p.1 ≠ b
theorem Inv.fpOk {X:Cx} {pins:List (Addr × Obj)} {σ:St} {H H':Hp} {s:Shared} {b:Addr} (I:Inv X pins σ H s) (hb:s.heap.objs.size ≤ b) (hn:H' b = none):FpOk X pins H' b:=by
 refine ⟨hn,Nat.ne_of_gt (Nat.lt_of_lt_of_le I.lt hb),I.nofs hb,.inr (Nat.le_trans I.sz hb),fun x c e z=>?_,fun p hp z=>?_⟩
 ·obtain ⟨v,q⟩:=I.cell x c e
  exact absurd (Nat.lt_of_lt_of_le q.lt (by rw [z]; exact hb)) (Nat.lt_irrefl _)
 ·exact absurd (Nat.lt_of_lt_of_le (Heap.lt_size (I.pin p hp).1) (by rw [z]; exact hb)) (Nat.lt_irrefl _)
structure Turn (P:Program) (w:World) (K:W.Frag) (tg:Expr) (J:It) (fp:List Addr) (it:Addr) (tn:Nat→Heap→Prop):Prop where
 mem:it ∈ fp
 obj:∀ i h,tn i h→∀ b ∈ fp,∃ o,h.get? b = some o∧∀ v,o.data ≠ .cell v
 keep:∀ i h h',tn i h→(∀ b ∈ fp,∀ o,h.get? b = some o→h'.get? b = some o)→tn i h'
 item:∀ (X:Cx),X.prog = P→X.w = w→X.K = K→X.calm = true→∀ (i:Nat) (pins:List (Addr × Obj)) (s:Shared) (σ:St) (H:Hp) (E:Value→Shared→Prop),Inv X pins σ H s→(∀ b ∈ fp,FpOk X pins H b)→tn i s.heap→J.go i H →
  wpAny (model P w) X.A (pyNext (.ref it)) (fun r s1=>∃ u,r = some u ∧
   wpAny (model P w) X.A (letOwnedTupleGo tg (.ref it) u) (fun _ s2=>∃ x H',Inv X pins σ H' s2∧RelV x u∧J.yld i H x H'∧tn (i + 1) s2.heap∧∀ b ∈ fp,H' b = none) E s1) E s
 done:∀ (X:Cx),X.prog = P→X.w = w→X.K = K→X.calm = true→∀ (i:Nat) (pins:List (Addr × Obj)) (s:Shared) (σ:St) (H:Hp) (E:Value→Shared→Prop),Inv X pins σ H s→(∀ b ∈ fp,FpOk X pins H b)→tn i s.heap→J.stop i H →
  wpAny (model P w) X.A (pyNext (.ref it)) (fun r s1=>r = none∧Inv X pins σ H s1) E s
 self:∀ (A:Around) (i:Nat) (s:Shared) (Q:Value→Shared→Prop) (E:Value→Shared→Prop),tn i s.heap→Q (.ref it) s→wpAny (model P w) A (pyIter (.ref it)) Q E s
noncomputable abbrev TI:=St→Hp→(It→Hp→Prop)→Prop
noncomputable def PIE (X:Cx) (pins:List (Addr × Obj)) (σ:St) (tg:Expr) (R:It→Hp→Prop) (itv:Value) (s2:Shared):Prop :=
 ∃ (it:Addr) (fp:List Addr) (tn:Nat→Heap→Prop) (J:It) (H':Hp),itv = .ref it∧Inv X pins σ H' s2∧Turn X.prog X.w X.K tg J fp it tn∧tn 0 s2.heap∧(∀ b ∈ fp,FpOk X pins H' b)∧R J H'
noncomputable def PI (X:Cx) (tg iter:Expr) (wi:TI):Prop :=
 ∀ (pins:List (Addr × Obj)) (s:Shared) (σ:St) (H:Hp) (R:It→Hp→Prop),Inv X pins σ H s→wi σ H R →
  wpAny (model X.prog X.w) X.A (eval iter X.env) (fun v s1=>wpAny (model X.prog X.w) X.A (pyIter v) (PIE X pins σ tg R) X.xe s1) X.xe s
theorem go_of {M:Model} {A:Around} {E:Value→Shared→Prop} {s:Shared} {tg:Expr} {it:Addr} {u:Value} {o:Obj} {n:String} {vs:Array Value} {Q:Unit→Shared→Prop} (ho:s.heap.get? it = some o) (hc:o.cls = .type n) (hd:o.data = .fields vs)
  (hn:["enumerate", "zip", "dict_itemiterator", "dict_reverseitemiterator", "odict_iterator", "itertools.zip_longest", "itertools.pairwise"].contains n = false) (hQ:Q () s):wpAny M A (letOwnedTupleGo tg (.ref it) u) Q E s:=by
 unfold letOwnedTupleGo
 cases tg <;> first
  | exact wpAny_pure hQ
  | (cases u <;> first
    | exact wpAny_pure hQ
    | (refine wpAny_bind (wpAny_load ho ?_)
       rw [hc,hd]
       show wpAny M A (if (["enumerate", "zip", "dict_itemiterator", "dict_reverseitemiterator", "odict_iterator", "itertools.zip_longest", "itertools.pairwise"].contains n && vs[0]? == some (rawInt _)) = true then _ else _) Q E s
       rw [if_neg (by intro h; rw [hn,Bool.false_and] at h; cases h)]
       exact wpAny_pure hQ))
noncomputable def Itl (K:W.Frag) (a:Addr):It :=
 ⟨fun i H=>∃ xs x,SqL K H a xs∧xs[i]? = some x,fun i H x H'=>H' = H∧∀ xs,SqL K H a xs→xs[i]? = some x,fun i H=>∃ xs,SqL K H a xs∧xs.length ≤ i⟩
noncomputable def Itt (K:W.Frag) (a:Addr):It :=
 ⟨fun i H=>∃ xs x,SqT K H a xs∧xs[i]? = some x,fun i H x H'=>H' = H∧∀ xs,SqT K H a xs→xs[i]? = some x,fun i H=>∃ xs,SqT K H a xs∧xs.length ≤ i⟩
noncomputable def Itr (lo:Int) (n:Nat):It:=⟨fun i _=>i < n,fun i H x H'=>H' = H∧x = .int (lo + i),fun i _=>n ≤ i⟩
theorem turn_list {P:Program} {w:World} {K:W.Frag} {tg:Expr} (a it:Addr):Turn P w K tg (Itl K a) [it] it (fun i h=>h.IsListIter it a i) where
 mem:=by simp
 obj:=fun i h st b hb=>by
  have e:b = it:=by simpa using hb
  subst e
  obtain ⟨o,e,c,d⟩:=st
  exact ⟨o,e,fun v z=>by rw [d] at z; cases z⟩
 keep:=fun i h h' st k=>st.at fun o e=>k it (by simp) o e
 item:=by
  intro X hP hw hK hc i pins s σ H E I hf st hg
  subst hP hw hK
  obtain ⟨xs,x,hq,hx⟩:=hg
  obtain ⟨its,rv,p,hz⟩:=I.list hq
  obtain ⟨u,hu,ru⟩:=rv.get hx
  obtain ⟨f0,f1,f2,f3,f4,f5⟩:=hf it (by simp)
  refine wpAny_pyNext_list_item st p.isList (x:=u) (by simpa using hu) fun h' st' sb=>?_
  have I1:Inv X pins σ H { s with heap:=h' }:=I.turned (t':=s.toks) (fun b o hb e=>(sb.2 b hb).trans e) f0 f1 f3 f4 f5
  obtain ⟨o,e,c,d⟩:=id st'
  exact ⟨u,rfl,go_of (s:={ s with heap:=h' }) e c d (by decide) ⟨x,H,I1,ru,⟨rfl,fun ys hy=>by rw [I.list_inj hy hq]; exact hx⟩,st',fun b hb=>(hf b hb).1⟩⟩
 done:=by
  intro X hP hw hK hc i pins s σ H E I hf st hg
  subst hP hw hK
  obtain ⟨xs,hq,hx⟩:=hg
  obtain ⟨its,rv,p,hz⟩:=I.list hq
  obtain ⟨f0,f1,f2,f3,f4,f5⟩:=hf it (by simp)
  have hl:=rv.length
  exact wpAny_pyNext_list_end (I.ok.hd hc) st p.isList (by simp; omega) fun h' eb=>⟨rfl,I.turned (t':=s.toks) (fun b o hb e=>eb b o hb e) f0 f1 f3 f4 f5⟩
 self:=fun _ _ _ _ _ st h=>wpAny_pyIter_listiter st h
theorem turn_tuple {P:Program} {w:World} {K:W.Frag} {tg:Expr} (a it:Addr):Turn P w K tg (Itt K a) [it] it (fun i h=>h.IsTupleIter it a i) where
 mem:=by simp
 obj:=fun i h st b hb=>by
  have e:b = it:=by simpa using hb
  subst e
  obtain ⟨o,e,c,d⟩:=st
  exact ⟨o,e,fun v z=>by rw [d] at z; cases z⟩
 keep:=fun i h h' st k=>st.at fun o e=>k it (by simp) o e
 item:=by
  intro X hP hw hK hc i pins s σ H E I hf st hg
  subst hP hw hK
  obtain ⟨xs,x,hq,hx⟩:=hg
  obtain ⟨its,rv,p,hz⟩:=I.tuple hq
  obtain ⟨u,hu,ru⟩:=rv.get hx
  obtain ⟨f0,f1,f2,f3,f4,f5⟩:=hf it (by simp)
  refine wpAny_pyNext_tuple_item st (show s.heap.IsTuple a its.toArray from p) (x:=u) (by simpa using hu) fun h' st' sb=>?_
  have I1:Inv X pins σ H { s with heap:=h' }:=I.turned (t':=s.toks) (fun b o hb e=>(sb.2 b hb).trans e) f0 f1 f3 f4 f5
  obtain ⟨o,e,c,d⟩:=id st'
  exact ⟨u,rfl,go_of (s:={ s with heap:=h' }) e c d (by decide) ⟨x,H,I1,ru,⟨rfl,fun ys hy=>by rw [I.tuple_inj hy hq]; exact hx⟩,st',fun b hb=>(hf b hb).1⟩⟩
 done:=by
  intro X hP hw hK hc i pins s σ H E I hf st hg
  subst hP hw hK
  obtain ⟨xs,hq,hx⟩:=hg
  obtain ⟨its,rv,p,hz⟩:=I.tuple hq
  obtain ⟨f0,f1,f2,f3,f4,f5⟩:=hf it (by simp)
  have hl:=rv.length
  exact wpAny_pyNext_tuple_end (I.ok.hd hc) st (show s.heap.IsTuple a its.toArray from p) (by simp; omega) fun h' eb=>⟨rfl,I.turned (t':=s.toks) (fun b o hb e=>eb b o hb e) f0 f1 f3 f4 f5⟩
 self:=fun _ _ _ _ _ st h=>wpAny_pyIter_tupleiter st h
theorem turn_range {P:Program} {w:World} {K:W.Frag} {tg:Expr} (it:Addr) (lo:Int) (n:Nat):Turn P w K tg (Itr lo n) [it] it (fun i h=>IsRangeIter h it (lo + (i:Nat) * 1) ((n:Int) - (i:Nat)) 1) where
 mem:=by simp
 obj:=fun i h st b hb=>by
  have e:b = it:=by simpa using hb
  subst e
  exact ⟨_,st,fun v z=>by
   have z':Data.fields _ = Data.cell v:=z
   cases z'⟩
 keep:=fun i h h' st k=>k it (by simp) _ st
 item:=by
  intro X hP hw hK hc i pins s σ H E I hf st hg
  subst hP hw hK
  obtain ⟨f0,f1,f2,f3,f4,f5⟩:=hf it (by simp)
  have W:=Walks.range (prog:=X.prog) (w:=X.w) (I.ok.hd hc) it lo 1 n
  refine W.item i s _ _ hg st fun v h' tk hv st' kk=>?_
  obtain ⟨t,rfl⟩:=hv
  have I1:Inv X pins σ H { s with heap:=h',toks:=tk }:=I.turned (fun b o hb e=>kk b o (by simpa using hb) e) f0 f1 f3 f4 f5
  refine ⟨_,rfl,go_of (s:={ s with heap:=h',toks:=tk }) (n := "range_iterator") st' rfl rfl (by decide) ⟨.int (lo + i),H,I1,⟨t,?_⟩,⟨rfl,rfl⟩,st',fun b hb=>(hf b hb).1⟩⟩
  rw [Int.mul_one]
 done:=by
  intro X hP hw hK hc i pins s σ H E I hf st hg
  subst hP hw hK
  obtain ⟨f0,f1,f2,f3,f4,f5⟩:=hf it (by simp)
  exact wpAny_pyNext_range_end (I.ok.hd hc) st (by have:n ≤ i:=hg; omega) fun h' eb=>⟨rfl,I.turned (t':=s.toks) (fun b o hb e=>eb b o hb e) f0 f1 f3 f4 f5⟩
 self:=fun _ _ _ _ _ st h=>wpAny_pyIter_rangeiter st h
section
variable {X:Cx} {tg:Expr}
noncomputable def iList (K:W.Frag) (tl:TE):TI:=fun σ H R=>tl σ H fun x H1=>∃ a,x = .ref a∧(∃ xs,SqL K H1 a xs)∧R (Itl K a) H1
noncomputable def iTup (K:W.Frag) (tl:TE):TI:=fun σ H R=>tl σ H fun x H1=>∃ a,x = .ref a∧(∃ xs,SqT K H1 a xs)∧R (Itt K a) H1
theorem pi_list {l:Expr} {tl:TE} (hl:PE X l tl):PI X tg l (iList X.K tl):=by
 intro pins s σ H R I h
 refine thn (hl pins s σ H _ I h) fun v s1 ⟨x,H1,I1,r1,q1⟩=>?_
 obtain ⟨a,e,⟨xs,hq⟩,q⟩:=q1
 subst e
 cases r1
 obtain ⟨its,rv,p,hz⟩:=I1.list hq
 refine wpAny_pyIter_list p.isList ?_
 refine ⟨s1.heap.objs.size,[s1.heap.objs.size],_,_,H1,rfl,I1.kept (t':=s1.toks) fun b o e=>Heap.get?_push_of_some _ e,turn_list a _,⟨_,Heap.get?_push_size _ rfl,rfl,rfl⟩,fun b hb=>?_,q⟩
 have e:b = s1.heap.objs.size:=by simpa using hb
 subst e
 exact I1.fpOk (Nat.le_refl _) (I1.hok.fresh (Nat.le_refl _))
theorem pi_tup {l:Expr} {tl:TE} (hl:PE X l tl):PI X tg l (iTup X.K tl):=by
 intro pins s σ H R I h
 refine thn (hl pins s σ H _ I h) fun v s1 ⟨x,H1,I1,r1,q1⟩=>?_
 obtain ⟨a,e,⟨xs,hq⟩,q⟩:=q1
 subst e
 cases r1
 obtain ⟨its,rv,p,hz⟩:=I1.tuple hq
 refine wpAny_pyIter_tuple (show s1.heap.IsTuple a its.toArray from p) ?_
 refine ⟨s1.heap.objs.size,[s1.heap.objs.size],_,_,H1,rfl,I1.kept (t':=s1.toks) fun b o e=>Heap.get?_push_of_some _ e,turn_tuple a _,⟨_,Heap.get?_push_size _ rfl,rfl,rfl⟩,fun b hb=>?_,q⟩
 have e:b = s1.heap.objs.size:=by simpa using hb
 subst e
 exact I1.fpOk (Nat.le_refl _) (I1.hok.fresh (Nat.le_refl _))
theorem range_it {pins:List (Addr × Obj)} {σ:St} {H:Hp} {s:Shared} {R:It→Hp→Prop} {E:Value→Shared→Prop} {lo hi:Int} {t u v:Tok} {tk:Nat} (I:Inv X pins σ H s) (h1:-(2 ^ 62) ≤ lo) (h2:lo < 2 ^ 62) (h3:-(2 ^ 62) ≤ hi) (h4:hi < 2 ^ 62)
  (q:R (Itr lo (hi - lo).toNat) H):wpAny (model X.prog X.w) X.A (pyIter (.ref s.heap.objs.size)) (PIE X pins σ tg R) E { s with heap:=s.heap.push { cls:=.type "range",data:=.fields #[.int lo t,.int hi u,.int 1 v] },toks:=tk }:=by
 refine wpAny_pyIter_range (IsRange.new ..) (small_one h1 h2 h3 h4) ?_
 have I1:Inv X pins σ H { s with heap:=s.heap.push { cls:=.type "range",data:=.fields #[.int lo t,.int hi u,.int 1 v] },toks:=tk }:=I.kept fun b o e=>Heap.get?_push_of_some _ e
 refine ⟨(s.heap.push { cls:=.type "range",data:=.fields #[.int lo t,.int hi u,.int 1 v] }).objs.size,[(s.heap.push { cls:=.type "range",data:=.fields #[.int lo t,.int hi u,.int 1 v] }).objs.size],_,_,H,rfl,
  I1.kept (t':=tk) fun b o e=>Heap.get?_push_of_some _ e,turn_range _ lo (hi - lo).toNat,?_,fun b hb=>?_,q⟩
 ·have e1:lo + ((0:Nat):Int) * 1 = lo:=by simp
  have e2:(((hi - lo).toNat:Nat):Int) - ((0:Nat):Int) = Builtin.Range.rangeSize lo hi 1:=by rw [rangeSize_one]; split <;> omega
  show IsRangeIter _ _ (lo + ((0:Nat):Int) * 1) ((((hi - lo).toNat:Nat):Int) - ((0:Nat):Int)) 1
  rw [e1,e2]
  exact Heap.get?_push_size _ rfl
 ·have e:b = (s.heap.push { cls:=.type "range",data:=.fields #[.int lo t,.int hi u,.int 1 v] }).objs.size:=by simpa using hb
  subst e
  exact I1.fpOk (Nat.le_refl _) (I1.hok.fresh (Nat.le_refl _))
noncomputable def iRng1 (ta:TA):TI:=fun σ H R=>ta σ H fun vs H1=>∃ j:Int,vs = [.int j]∧-(2 ^ 62) ≤ j∧j < 2 ^ 62∧R (Itr 0 j.toNat) H1
noncomputable def iRng2 (ta:TA):TI:=fun σ H R=>ta σ H fun vs H1=>∃ i j:Int,vs = [.int i,.int j]∧(-(2 ^ 62) ≤ i∧i < 2 ^ 62∧-(2 ^ 62) ≤ j∧j < 2 ^ 62)∧R (Itr i (j - i).toNat) H1
theorem pi_range1 {a:Expr} {ta:TA} {p pos:Pos} (hg:Gl X "range") (hm:X.mg "range" = none) (ha:PA X [a] ta) (hs:starEach [a] X.env = [(false,eval a X.env)]:=by rfl):PI X tg (.Call (.Name "range" p) [a] [] pos) (iRng1 ta):=by
 intro pins s σ H R I h
 refine Call_ (ld_blt I hg hm boot_range (PyProof.Rows.callWith_type1 (thn (ha pos pins s σ H _ I h) fun us s1 ⟨vs,H1,I1,r1,q1⟩=>?_) hs rfl))
 obtain ⟨j,e,q1,q2,q⟩:=q1
 subst e
 cases r1 with
 | cons r rr =>
  cases rr
  obtain ⟨t,rfl⟩:=r
  exact call_range_1 (range_it I1 (by omega) (by omega) q1 q2 (by simpa using q))
theorem pi_range2 {a b:Expr} {ta:TA} {p pos:Pos} (hg:Gl X "range") (hm:X.mg "range" = none) (ha:PA X [a,b] ta) (hs:starEach [a,b] X.env = [(false,eval a X.env),(false,eval b X.env)]:=by rfl) (hs2:starEach [b] X.env = [(false,eval b X.env)]:=by rfl) :
  PI X tg (.Call (.Name "range" p) [a,b] [] pos) (iRng2 ta):=by
 intro pins s σ H R I h
 refine Call_ (ld_blt I hg hm boot_range (PyProof.Rows.callWith_type1 (thn (ha pos pins s σ H _ I h) fun us s1 ⟨vs,H1,I1,r1,q1⟩=>?_) (by rw [hs,hs2]) (by rw [hs2]; rfl)))
 obtain ⟨i,j,e,⟨q1,q2,q3,q4⟩,q⟩:=q1
 subst e
 cases r1 with
 | cons r rr =>
  cases rr with
  | cons r' rr =>
   cases rr
   obtain ⟨t,rfl⟩:=r
   obtain ⟨t',rfl⟩:=r'
   exact call_range_2 (range_it I1 q1 q2 q3 q4 q)
noncomputable def tFor (wi:TI) (g:TG) (tb:TS):TS:=fun D σ H=>wi σ H fun J H1=>∃ W:Nat→Nat→St→Hp→Prop,(∃ m,W 0 m σ H1)∧∀ i m σ H,W i m σ H →
 (J.stop i H∧D.nx σ H) ∨ (J.go i H∧∃ N:St→Hp→Prop,(∀ σ' H',N σ' H'→∃ m',m' < m∧W (i + 1) m' σ' H')∧∀ x H',J.yld i H x H'→g x σ H' fun σ2 H2=>tb { D with nx:=N,ct:=N,bk:=D.nx } σ2 H2)
noncomputable def pinsAt (fp:List Addr) (h:Heap):List (Addr × Obj):=fp.filterMap fun b=>(h.get? b).map fun o=>(b,o)
theorem mem_pinsAt {fp:List Addr} {h:Heap} {b:Addr} {o:Obj} (hb:b ∈ fp) (e:h.get? b = some o):(b,o) ∈ pinsAt fp h:=List.mem_filterMap.mpr ⟨b,hb,by rw [e]; rfl⟩
theorem of_pinsAt {fp:List Addr} {h:Heap} {p:Addr × Obj} (hp:p ∈ pinsAt fp h):p.1 ∈ fp∧h.get? p.1 = some p.2:=by
 obtain ⟨b,hb,e⟩:=List.mem_filterMap.mp hp
 cases q:h.get? b with
 | none=>rw [q] at e; cases e
 | some o =>
  rw [q] at e
  have e':(b,o) = p:=Option.some.inj e
  subst e'
  exact ⟨hb,q⟩
theorem Inv.pinned {pins:List (Addr × Obj)} {σ:St} {H:Hp} {s:Shared} {fp:List Addr} (I:Inv X pins σ H s) (hf:∀ b ∈ fp,FpOk X pins H b) (ho:∀ b ∈ fp,∃ o,s.heap.get? b = some o∧∀ v,o.data ≠ .cell v):Inv X (pins ++ pinsAt fp s.heap) σ H s :=
 I.pins_of fun p hp=>(List.mem_append.mp hp).elim (fun z=>I.pin p (List.mem_append_right _ z)) fun z=>by
  obtain ⟨hb,e⟩:=of_pinsAt z
  obtain ⟨f0,f1,f2,_⟩:=hf p.1 hb
  obtain ⟨o,e',d⟩:=ho p.1 hb
  rw [e] at e'; cases e'
  exact ⟨e,f0,f1,f2,d⟩
theorem Inv.unpinned {pins pl:List (Addr × Obj)} {σ:St} {H:Hp} {s:Shared} (I:Inv X (pins ++ pl) σ H s):Inv X pins σ H s:=I.pins_of fun p hp=>I.pin p (List.mem_append_right _ (List.mem_append_left _ hp))
theorem ps_for {iter:Expr} {body:List Stmt} {wi:TI} {g:TG} {tb:TS} {pos:Pos} (hp:PassesOwn (model X.prog X.w) X.A X.env X.xe) (hc:X.calm = true) (hi:PI X tg iter wi) (hg:PG X tg g) (hb:PSs X body tb)
  (hs:∀ x,foldedSetIterable iter X.env x = pure x:=by intro _; rfl):PS X (.For tg iter body [] pos) (tFor wi g tb):=by
 intro pins s σ H D I h
 refine wpAny_For (thn (hi pins s σ H _ I h) fun v s1 h1=>thn h1 fun itv s2 h2=>?_) hs
 obtain ⟨it,fp,tn,J,H2,e,I2,T,st2,f2,W,⟨m0,w0⟩,turn⟩:=h2
 subst e
 have stat:∀ {H':Hp},(∀ b ∈ fp,H' b = none)→∀ b ∈ fp,FpOk X pins H' b:=fun hn b hb=>⟨hn b hb,(f2 b hb).2⟩
 refine codeAny_forLoop_any (fun n s'=>∃ i σ' H',Inv X pins σ' H' s'∧tn i s'.heap∧(∀ b ∈ fp,H' b = none)∧W i n σ' H') ?_ m0 ⟨0,σ,H2,I2,st2,fun b hb=>(f2 b hb).1,w0⟩
 rintro n s3 ⟨i,σ3,H3,I3,st3,fr3,w3⟩
 rcases turn i n σ3 H3 w3 with ⟨stop,qn⟩ | ⟨go,N,hN,step⟩
 ·refine wpAny_passesOwn hp (thn (T.done X rfl rfl rfl hc i pins s3 σ3 H3 X.xe I3 (stat fr3) st3 stop) fun r s4 ⟨hr,I4⟩=>?_)
  subst hr
  exact wpAny_execs_nil ⟨σ3,H3,I4,qn⟩
 ·refine wpAny_passesOwn hp (thn (T.item X rfl rfl rfl hc i pins s3 σ3 H3 X.xe I3 (stat fr3) st3 go) fun r s4 ⟨u,hr,h4⟩=>?_)
  subst hr
  refine wpAny_passesOwn hp (thn h4 fun _ s5 ⟨x,H5,I5,r5,y5,st5,fr5⟩=>?_)
  have I5':=I5.pinned (stat fr5) (T.obj _ _ st5)
  refine wpAny_passesOwn hp (thn (hg _ s5 σ3 H5 x u _ I5' r5 (step x H5 y5)) fun _ s6 ⟨σ6,H6,I6,q6⟩=>?_)
  refine wpAny_passesOwn hp (thn (hb _ s6 σ6 H6 _ I6 q6) fun f s7 q7=>?_)
  have again:∀ {σ7:St} {H7:Hp},Inv X (pins ++ pinsAt fp s5.heap) σ7 H7 s7→N σ7 H7→∃ m,m < n∧∃ i σ' H',Inv X pins σ' H' s7∧tn i s7.heap∧(∀ b ∈ fp,H' b = none)∧W i m σ' H':=fun {σ7 H7} I7 n7=>by
   obtain ⟨m',hm,w7⟩:=hN σ7 H7 n7
   refine ⟨m',hm,i + 1,σ7,H7,I7.unpinned,T.keep _ _ _ st5 fun b hb o e=>(I7.pin (b,o) (List.mem_append_right _ (List.mem_append_right _ (mem_pinsAt hb e)))).1,fun b hb=>?_,w7⟩
   obtain ⟨o,e,d⟩:=T.obj _ _ st5 b hb
   exact (I7.pin (b,o) (List.mem_append_right _ (List.mem_append_right _ (mem_pinsAt hb e)))).2.1
  cases f with
  | next=>obtain ⟨σ7,H7,I7,n7⟩:=q7; exact again I7 n7
  | cont=>obtain ⟨σ7,H7,I7,n7⟩:=q7; exact again I7 n7
  | brk=>obtain ⟨σ7,H7,I7,q7⟩:=q7; exact ⟨σ7,H7,I7.unpinned,q7⟩
  | ret v=>obtain ⟨x7,σ7,H7,I7,r7,q7⟩:=q7; exact ⟨x7,σ7,H7,I7.unpinned,r7,q7⟩
end
noncomputable abbrev R2:=V→V→Hp→VK→Prop
noncomputable def OpR (X:Cx) (f:Value→Value→Sem Value) (r:R2):Prop :=
 ∀ (pins:List (Addr × Obj)) (s:Shared) (σ:St) (H:Hp) (x y:V) (v u:Value) (Q:VK),Inv X pins σ H s→RelV x v→RelV y u→r x y H Q →
  wpAny (model X.prog X.w) X.A (f v u) (EP X pins σ Q) X.xe s
noncomputable def UnR (X:Cx) (f:Value→Sem Value) (r:V→Hp→VK→Prop):Prop :=
 ∀ (pins:List (Addr × Obj)) (s:Shared) (σ:St) (H:Hp) (x:V) (v:Value) (Q:VK),Inv X pins σ H s→RelV x v→r x H Q →
  wpAny (model X.prog X.w) X.A (f v) (EP X pins σ Q) X.xe s
noncomputable def CallR (X:Cx) (f:Value) (r:List V→Hp→VK→Prop):Prop :=
 ∀ (pins:List (Addr × Obj)) (s:Shared) (σ:St) (H:Hp) (xs:List V) (us:List Value) (Q:VK),Inv X pins σ H s→Vals xs us→r xs H Q →
  wpAny (model X.prog X.w) X.A (call f us) (EP X pins σ Q) X.xe s
noncomputable def tOp (r:R2) (ta tb:TE):TE:=fun σ H Q=>ta σ H fun x H1=>tb σ H1 fun y H2=>r x y H2 Q
noncomputable def tUn (r:V→Hp→VK→Prop) (ta:TE):TE:=fun σ H Q=>ta σ H fun x H1=>r x H1 Q
noncomputable def rI (C:Int→Int→Prop) (g:Int→Int→V):R2:=fun x y H Q=>∃ i j,x = .int i∧y = .int j∧C i j∧Q (g i j) H
noncomputable def rI0 (g:Int→Int→V):R2:=fun x y H Q=>∃ i j,x = .int i∧y = .int j∧Q (g i j) H
noncomputable def rU (g:Int→V):V→Hp→VK→Prop:=fun x H Q=>∃ i,x = .int i∧Q (g i) H
section
variable {X:Cx} {a b c:Expr} {ta tb tc:TE} {pos:Pos}
theorem binT (ha:PE X a ta) (hb:PE X b tb) {pins:List (Addr × Obj)} {s:Shared} {σ:St} {H:Hp} {R:V→V→Hp→Prop} (I:Inv X pins σ H s)
  (h:ta σ H fun x H1=>tb σ H1 fun y H2=>R x y H2) {Q:Value→Shared→Prop} {f:Value→Value→Sem Value}
  (hf:∀ v u s2 x y H2,Inv X pins σ H2 s2→RelV x v→RelV y u→R x y H2→wpAny (model X.prog X.w) X.A (f v u) Q X.xe s2) :
  wpAny (model X.prog X.w) X.A (eval a X.env) (fun v s₁=>wpAny (model X.prog X.w) X.A (eval b X.env) (fun u s₂=>wpAny (model X.prog X.w) X.A (f v u) Q X.xe s₂) X.xe s₁) X.xe s:=by
 refine thn (ha pins s σ H _ I h) fun v s1 ⟨x,H1,I1,r1,q1⟩=>?_
 refine thn (hb pins s1 σ H1 _ I1 q1) fun u s2 ⟨y,H2,I2,r2,q2⟩=>?_
 exact hf v u s2 x y H2 I2 r1 r2 q2
theorem pe_op {op:Operator} {r:R2} (ho:OpR X (binaryOp op) r) (ha:PE X a ta) (hb:PE X b tb):PE X (.BinOp a op b pos) (tOp r ta tb):=by
 intro pins s σ H Q I h
 exact wpAny_BinOp (binT ha hb I h fun v u s2 x y H2 I2 rx ry q=>ho pins s2 σ H2 x y v u Q I2 rx ry q)
theorem pe_un {op:UnaryOp} {r:V→Hp→VK→Prop} (ho:UnR X (unaryOp op) r) (ha:PE X a ta):PE X (.UnaryOp op a pos) (tUn r ta):=by
 intro pins s σ H Q I h
 exact UnaryOp_ (thn (ha pins s σ H _ I h) fun v s1 ⟨x,H1,I1,r1,q1⟩=>ho pins s1 σ H1 x v Q I1 r1 q1)
theorem opI {f:Value→Value→Sem Value} {C:Int→Int→Prop} {g:Int→Int→Int}
  (rule:∀ (i j:Int) (t u:Tok) (s:Shared) (Q:Value→Shared→Prop) (E:Value→Shared→Prop),C i j→Q (.int (g i j) s.toks) { s with toks:=s.toks + 1 }→wpAny (model X.prog X.w) X.A (f (.int i t) (.int j u)) Q E s) :
  OpR X f (rI C fun i j=>.int (g i j)):=by
 intro pins s σ H x y v u Q I rx ry h
 obtain ⟨i,j,rfl,rfl,hc,q⟩:=h
 obtain ⟨t,rfl⟩:=rx
 obtain ⟨t',rfl⟩:=ry
 exact rule i j t t' s _ _ hc ⟨.int (g i j),H,I.tok _,⟨_,rfl⟩,q⟩
theorem opI0 {f:Value→Value→Sem Value} {g:Int→Int→Int}
  (rule:∀ (i j:Int) (t u:Tok) (s:Shared) (Q:Value→Shared→Prop) (E:Value→Shared→Prop),Q (.int (g i j) s.toks) { s with toks:=s.toks + 1 }→wpAny (model X.prog X.w) X.A (f (.int i t) (.int j u)) Q E s) :
  OpR X f (rI0 fun i j=>.int (g i j)):=by
 intro pins s σ H x y v u Q I rx ry h
 obtain ⟨i,j,rfl,rfl,q⟩:=h
 obtain ⟨t,rfl⟩:=rx
 obtain ⟨t',rfl⟩:=ry
 exact rule i j t t' s _ _ ⟨.int (g i j),H,I.tok _,⟨_,rfl⟩,q⟩
theorem opB0 {f:Value→Value→Sem Value} {g:Int→Int→Bool}
  (rule:∀ (i j:Int) (t u:Tok) (s:Shared) (Q:Value→Shared→Prop) (E:Value→Shared→Prop),Q (.bool (g i j)) s→wpAny (model X.prog X.w) X.A (f (.int i t) (.int j u)) Q E s) :
  OpR X f (rI0 fun i j=>.bl (g i j)):=by
 intro pins s σ H x y v u Q I rx ry h
 obtain ⟨i,j,rfl,rfl,q⟩:=h
 obtain ⟨t,rfl⟩:=rx
 obtain ⟨t',rfl⟩:=ry
 exact rule i j t t' s _ _ ⟨.bl (g i j),H,I,rfl,q⟩
noncomputable def CDiv (i j:Int):Prop:=0 < j∧j < 1073741824
noncomputable def CPow (i j:Int):Prop:=0 ≤ j∧j ≤ 1000000∧i.natAbs < 2 ^ 64
noncomputable def CMul (i j:Int):Prop:=(-(2 ^ 64) < i∧i < 2 ^ 64) ∨ (-(2 ^ 64) < j∧j < 2 ^ 64)
theorem CMul.ok {i j:Int} (h:CMul i j):IntMulOk i j:=by
 rcases h with ⟨h1,h2⟩ | ⟨h1,h2⟩
 ·exact .of_left (intBits_le_64 h1 h2)
 ·exact .of_right (intBits_le_64 h1 h2)
theorem op_add:OpR X (binaryOp .Add) (rI0 fun i j=>.int (i + j)):=opI0 fun _ _ _ _ _ _ _ q=>add_int q
theorem op_sub:OpR X (binaryOp .Sub) (rI0 fun i j=>.int (i - j)):=opI0 fun _ _ _ _ _ _ _ q=>sub_int q
theorem op_mul:OpR X (binaryOp .Mult) (rI CMul fun i j=>.int (i * j)):=opI fun _ _ _ _ _ _ _ hc q=>mul_int q hc.ok
theorem op_fdiv:OpR X (binaryOp .FloorDiv) (rI CDiv fun i j=>.int (i / j)):=opI fun i j _ _ _ _ _ hc q=>by
 have h1:(0:Int) < j:=hc.1
 have h2:j < 1073741824:=hc.2
 exact floordiv_int (by omega) (by rw [Int.fdiv_eq_ediv_of_nonneg i (by omega)]; exact q) (.inl (PyProof.noPylong_small (by omega)))
theorem op_mod:OpR X (binaryOp .Mod) (rI (fun _ j=>0 < j) fun i j=>.int (i % j)):=opI fun i j _ _ _ _ _ hc q=>by
 have h1:(0:Int) < j:=hc
 exact mod_int' (by omega) (by rw [Int.fmod_eq_emod_of_nonneg i (by omega)]; exact q)
theorem op_pow:OpR X (binaryOp .Pow) (rI CPow fun i j=>.int (i ^ j.toNat)):=opI fun _ _ _ _ _ _ _ hc q=>pow_int_small hc.1 hc.2.1 hc.2.2 q
theorem unI {f:Value→Sem Value} {g:Int→Int}
  (rule:∀ (i:Int) (t:Tok) (s:Shared) (Q:Value→Shared→Prop) (E:Value→Shared→Prop),Q (.int (g i) s.toks) { s with toks:=s.toks + 1 }→wpAny (model X.prog X.w) X.A (f (.int i t)) Q E s) :
  UnR X f (rU fun i=>.int (g i)):=by
 intro pins s σ H x v Q I rx h
 obtain ⟨i,rfl,q⟩:=h
 obtain ⟨t,rfl⟩:=rx
 exact rule i t s _ _ ⟨.int (g i),H,I.tok _,⟨_,rfl⟩,q⟩
theorem un_neg:UnR X (unaryOp .USub) (rU fun i=>.int (-i)):=unI fun _ _ _ _ _ q=>neg_int q
end
noncomputable def scal:V→V→Bool
 | .non,.non=>true | .non,.int _=>true | .int _,.non=>true | .non,.bl _=>true | .bl _,.non=>true | .non,.str _=>true | .str _,.non=>true
 | .int _,.int _=>true | .bl _,.bl _=>true | .str _,.str _=>true | .byt _,.byt _=>true
 | .int _,.str _=>true | .str _,.int _=>true | .bl _,.str _=>true | .str _,.bl _=>true
 | _,_=>false
noncomputable def rEq:R2:=fun x y H Q=>scal x y = true∧Q (.bl (decide (x = y))) H
noncomputable def rNe:R2:=fun x y H Q=>scal x y = true∧Q (.bl (!decide (x = y))) H
theorem dec_int {i j:Int}:decide (V.int i = V.int j) = (i == j):=by
 rw [Bool.eq_iff_iff]
 simp
theorem dec_bl {i j:Bool}:decide (V.bl i = V.bl j) = (i == j):=by
 rw [Bool.eq_iff_iff]
 simp
theorem dec_str {i j:Str}:decide (V.str i = V.str j) = (i == j):=by
 rw [Bool.eq_iff_iff]
 simp
theorem dec_byt {i j:Array UInt8}:decide (V.byt i = V.byt j) = (i.toList == j.toList):=by
 rw [Bool.eq_iff_iff]
 cases i
 cases j
 simp
section
variable {X:Cx} {a b c:Expr} {ta tb tc:TE} {pos:Pos}
theorem fin_bl {pins:List (Addr × Obj)} {σ:St} {H:Hp} {s:Shared} {Q:VK} {k k':Bool} (I:Inv X pins σ H s) (q:Q (.bl k) H) (e:k = k'):EP X pins σ Q (.bool k') s:=by
 subst e
 exact ⟨.bl k,H,I,rfl,q⟩
theorem op_eq:OpR X (compareOp .Eq) rEq:=by
 intro pins s σ H x y v u Q I rx ry h
 obtain ⟨hs,q⟩:=h
 cases x with
 | non =>
  cases rx
  cases y with
  | non=>cases ry; exact PySem.EqNone.eq_none_none (fin_bl I q (by simp))
  | bl j=>cases ry; exact PySem.EqNone.eq_none_bool (fin_bl I q (by simp))
  | int j=>obtain ⟨t',rfl⟩:=ry; exact PySem.EqNone.eq_none_int (fin_bl I q (by simp))
  | str j=>obtain ⟨t',rfl⟩:=ry; exact PySem.EqNone.eq_none_str (fin_bl I q (by simp))
  | _=>exact absurd (show false = true from hs) Bool.false_ne_true
 | bl i =>
  cases rx
  cases y with
  | non=>cases ry; exact PySem.EqNone.eq_bool_none (fin_bl I q (by simp))
  | bl j=>cases ry; exact eq_bool (fin_bl I q dec_bl)
  | str j=>obtain ⟨t',rfl⟩:=ry; exact PySem.EqMixed.eq_bool_str (fin_bl I q (by simp))
  | _=>exact absurd (show false = true from hs) Bool.false_ne_true
 | int i =>
  obtain ⟨t,rfl⟩:=rx
  cases y with
  | non=>cases ry; exact PySem.EqNone.eq_int_none (fin_bl I q (by simp))
  | int j=>obtain ⟨t',rfl⟩:=ry; exact eq_int (fin_bl I q dec_int)
  | str j=>obtain ⟨t',rfl⟩:=ry; exact PySem.EqMixed.eq_int_str (fin_bl I q (by simp))
  | _=>exact absurd (show false = true from hs) Bool.false_ne_true
 | str i =>
  obtain ⟨t,rfl⟩:=rx
  cases y with
  | non=>cases ry; exact PySem.EqNone.eq_str_none (fin_bl I q (by simp))
  | bl j=>cases ry; exact PySem.EqMixed.eq_str_bool (fin_bl I q (by simp))
  | int j=>obtain ⟨t',rfl⟩:=ry; exact PySem.EqMixed.eq_str_int (fin_bl I q (by simp))
  | str j=>obtain ⟨t',rfl⟩:=ry; exact eq_str (fin_bl I q dec_str)
  | _=>exact absurd (show false = true from hs) Bool.false_ne_true
 | byt i =>
  obtain ⟨t,rfl⟩:=rx
  cases y with
  | byt j=>obtain ⟨t',rfl⟩:=ry; exact W.eq_bytes (fin_bl I q dec_byt)
  | _=>exact absurd (show false = true from hs) Bool.false_ne_true
 | _=>cases y <;> exact absurd (show false = true from hs) Bool.false_ne_true
theorem op_ne:OpR X (compareOp .NotEq) rNe:=by
 intro pins s σ H x y v u Q I rx ry h
 obtain ⟨hs,q⟩:=h
 cases x with
 | non =>
  cases rx
  cases y with
  | non=>cases ry; exact PySem.EqNone.ne_none_none (fin_bl I q (by simp))
  | bl j=>cases ry; exact PySem.EqNone.ne_none_bool (fin_bl I q (by simp))
  | int j=>obtain ⟨t',rfl⟩:=ry; exact PySem.EqNone.ne_none_int (fin_bl I q (by simp))
  | str j=>obtain ⟨t',rfl⟩:=ry; exact PySem.EqNone.ne_none_str (fin_bl I q (by simp))
  | _=>exact absurd (show false = true from hs) Bool.false_ne_true
 | bl i =>
  cases rx
  cases y with
  | non=>cases ry; exact PySem.EqNone.ne_bool_none (fin_bl I q (by simp))
  | bl j=>cases ry; exact ne_bool (fin_bl I q (congrArg not dec_bl))
  | str j=>obtain ⟨t',rfl⟩:=ry; exact PySem.EqMixed.ne_bool_str (fin_bl I q (by simp))
  | _=>exact absurd (show false = true from hs) Bool.false_ne_true
 | int i =>
  obtain ⟨t,rfl⟩:=rx
  cases y with
  | non=>cases ry; exact PySem.EqNone.ne_int_none (fin_bl I q (by simp))
  | int j=>obtain ⟨t',rfl⟩:=ry; exact ne_int (fin_bl I q (congrArg not dec_int))
  | str j=>obtain ⟨t',rfl⟩:=ry; exact PySem.EqMixed.ne_int_str (fin_bl I q (by simp))
  | _=>exact absurd (show false = true from hs) Bool.false_ne_true
 | str i =>
  obtain ⟨t,rfl⟩:=rx
  cases y with
  | non=>cases ry; exact PySem.EqNone.ne_str_none (fin_bl I q (by simp))
  | bl j=>cases ry; exact PySem.EqMixed.ne_str_bool (fin_bl I q (by simp))
  | int j=>obtain ⟨t',rfl⟩:=ry; exact PySem.EqMixed.ne_str_int (fin_bl I q (by simp))
  | str j=>obtain ⟨t',rfl⟩:=ry; exact ne_str (fin_bl I q (congrArg not dec_str))
  | _=>exact absurd (show false = true from hs) Bool.false_ne_true
 | byt i =>
  obtain ⟨t,rfl⟩:=rx
  cases y with
  | byt j=>obtain ⟨t',rfl⟩:=ry; exact W.ne_bytes (fin_bl I q (congrArg not dec_byt))
  | _=>exact absurd (show false = true from hs) Bool.false_ne_true
 | _=>cases y <;> exact absurd (show false = true from hs) Bool.false_ne_true
theorem op_lt:OpR X (compareOp .Lt) (rI0 fun i j=>.bl (decide (i < j))):=opB0 fun _ _ _ _ _ _ _ q=>lt_int q
theorem op_gt:OpR X (compareOp .Gt) (rI0 fun i j=>.bl (decide (j < i))):=opB0 fun _ _ _ _ _ _ _ q=>gt_int q
theorem op_isN:OpR X (compareOp .Is) (fun x y H Q=>y = .non∧Q (.bl (decide (x = .non))) H):=by
 intro pins s σ H x y v u Q I rx ry h
 obtain ⟨rfl,q⟩:=h
 cases ry
 refine is_none_gen (fin_bl I q ?_)
 cases x <;> first
  | (cases rx; rfl)
  | (obtain ⟨t,rfl⟩:=rx; rfl)
theorem OpR.or {f:Value→Value→Sem Value} {r r':R2} (h:OpR X f r) (h':OpR X f r'):OpR X f (fun x y H Q=>r x y H Q ∨ r' x y H Q):=by
 intro pins s σ H x y v u Q I rx ry q
 rcases q with q | q
 ·exact h pins s σ H x y v u Q I rx ry q
 ·exact h' pins s σ H x y v u Q I rx ry q
theorem nomark (b:Expr) {op:CmpOp} (h:op ≠ .In:=by decide) (h2:op ≠ .NotIn:=by decide):behindInMarks op b = false:=by
 have e1:(op == CmpOp.In) = false:=by cases op <;> first | rfl | exact absurd rfl h
 have e2:(op == CmpOp.NotIn) = false:=by cases op <;> first | rfl | exact absurd rfl h2
 cases b <;> simp [behindInMarks,e1,e2]
theorem pe_cmpR {op:CmpOp} {r:R2} (ho:OpR X (compareOp op) r) (ha:PE X a ta) (hb:PE X b tb) (hm:behindInMarks op b = false):PE X (.Compare a [op] [b] pos) (tOp r ta tb):=by
 intro pins s σ H Q I h
 exact wpAny_Compare1 (binT ha hb I h fun v u s2 x y H2 I2 rx ry q=>ho pins s2 σ H2 x y v u Q I2 rx ry q) hm
noncomputable def tTest (t:TE):TT:=fun σ H Q=>t σ H fun x H'=>∃ k,x = .bl k∧Q k H'
theorem pt_cmpR {op:CmpOp} {r:R2} (ho:OpR X (compareOp op) r) (ha:PE X a ta) (hb:PE X b tb) (hm:behindInMarks op b = false):PT X (.Compare a [op] [b] pos) (tTest (tOp r ta tb)):=by
 intro pins s σ H Q I h
 refine wpAny_isTrue_Compare1 (thn (ha pins s σ H _ I h) fun v s1 ⟨x,H1,I1,r1,q1⟩=>thn (hb pins s1 σ H1 _ I1 q1) fun u s2 ⟨y,H2,I2,r2,q2⟩ =>
  thn (ho pins s2 σ H2 x y v u _ I2 r1 r2 q2) fun c s3 ⟨z,H3,I3,r3,k,e,q3⟩=>?_) hm
 subst e
 cases r3
 exact wpAny_truthy_bool ⟨H3,I3,q3⟩
theorem line63:(sizeLine:Nat) < 2 ^ 63:=by rw [sizeLine_eq]; decide
theorem op_add_str:OpR X (binaryOp .Add) (fun x y H Q=>∃ i j,x = .str i∧y = .str j∧i.length + j.length ≤ sizeLine∧Q (.str (i ++ j)) H):=by
 intro pins s σ H x y v u Q I rx ry h
 obtain ⟨i,j,rfl,rfl,hz,q⟩:=h
 obtain ⟨t,rfl⟩:=rx
 obtain ⟨t',rfl⟩:=ry
 exact add_str (fun t' tk=>⟨.str (i ++ j),H,I.tok _,⟨_,rfl⟩,q⟩) hz
theorem vals1 {x:V} {us:List Value} (r:Vals [x] us):∃ u,us = [u]∧RelV x u:=by
 cases r with
 | cons r1 r2=>cases r2; exact ⟨_,rfl,r1⟩
theorem call_int1:CallR X (.type "int") (fun xs H Q=>(∃ i,xs = [.int i]∧Q (.int i) H) ∨ ∃ k,xs = [.bl k]∧Q (.int (if k then 1 else 0)) H):=by
 intro pins s σ H xs us Q I r h
 rcases h with ⟨i,rfl,q⟩ | ⟨k,rfl,q⟩
 ·obtain ⟨u,rfl,t,rfl⟩:=vals1 r
  exact call_int_int ⟨.int i,H,I,⟨_,rfl⟩,q⟩
 ·obtain ⟨u,rfl,r1⟩:=vals1 r
  cases r1
  exact call_int_bool ⟨.int (if k then 1 else 0),H,I.tok _,⟨_,rfl⟩,q⟩
end
section
variable {prog:Program} {w:World} {A:Around} {E:Value→Shared→Prop} {s:Shared} {K:W.Frag} {x dx C f:Addr} {mA:Str→Option Value} {name:Str} {v:Value}
end
theorem RelO.some_of {v:V} {o:Option Value} (r:RelO (some v) o):∃ u,o = some u∧RelV v u:=by
 cases o with
 | none=>exact (show False from r).elim
 | some u=>exact ⟨u,rfl,r⟩
section
variable {P:Program} {w:World} {H H':Hp} {h h':Heap} {a C dx:Addr} {fs fs':List (Str × V)}
end
section
variable {X:Cx} {pins:List (Addr × Obj)} {σ:St} {H:Hp} {s:Shared} {a C dx:Addr} {fs:List (Str × V)} {f:Str} {v:V} {A:Around} {E:Value→Shared→Prop}
end
section
variable {X:Cx} {o e value:Expr} {f:Str} {pos pos' tpos:Pos} {ta tv:TE}
end
section
variable {X:Cx} {pins:List (Addr × Obj)} {σ:St} {H:Hp} {s:Shared} {A:Around} {E:Value→Shared→Prop} {Q:Value→Shared→Prop} {c:Value} {b:Bool}
end
structure Room (k:Nat) (A:Around):Prop where
 hd:A.handled = none
 dp:A.depth + 3 * k + 5 < recursionLimit
 un:A.units + 16 * k + 200 < cLine
theorem Room.mono {j k:Nat} {A:Around} (r:Room k A) (h:j ≤ k):Room j A:=⟨r.hd,by have:=r.dp; omega,by have:=r.un; omega⟩
theorem Room.deeper {k:Nat} {A:Around} (r:Room (k + 1) A) (env:Env):Room k (A.deeper env) :=
 ⟨r.hd,by have:=r.dp; show A.depth + 1 + 3 * k + 5 < _; omega,by have:=r.un; show A.units + 3 + 16 * k + 200 < _; omega⟩
theorem Room.depth {k:Nat} {A:Around} (r:Room k A):A.depth < recursionLimit:=by have:=r.dp; omega
theorem Room.units {k:Nat} {A:Around} (r:Room k A):A.units + 64 < cLine:=by have:=r.un; omega
noncomputable def tNil:TA:=fun _ H Q=>Q [] H
noncomputable def tCons (ta:TE) (tr:TA):TA:=fun σ H Q=>ta σ H fun x H1=>tr σ H1 fun xs H2=>Q (x :: xs) H2
section
variable {X:Cx} {e:Expr} {es:List Expr} {te:TE} {t:TA} {pos:Pos}
theorem pa_nil:PA X [] tNil:=fun _ _ _ _ H Q I h=>Calls.spliced_nil ⟨[],H,I,.nil,h⟩
theorem pa_cons (ha:PE X e te) (hr:PA X es t) (hs:starEach (e :: es) X.env = (false,eval e X.env) :: starEach es X.env:=by rfl):PA X (e :: es) (tCons te t):=by
 intro pos pins s σ H Q I h
 rw [hs]
 show wpAny _ _ (spliced ((false,eval e X.env) :: backTo pos (starEach es X.env))) _ _ s
 refine Calls.spliced_cons (thn (ha pins s σ H _ I h) fun u s1 ⟨x,H1,I1,r1,q1⟩=>?_)
 exact thn (hr pos pins s1 σ H1 _ I1 q1) fun us s2 ⟨xs,H2,I2,r2,q2⟩=>⟨x :: xs,H2,I2,.cons r1 r2,q2⟩
noncomputable def tTup (t:TA):TE:=fun σ H Q=>t σ H fun xs H1=>xs.length ≤ sizeLine∧∀ p,H1 p = none→Q (.ref p) (upd H1 p (.tup xs))
noncomputable def tLst (t:TA):TE:=fun σ H Q=>t σ H fun xs H1=>xs.length ≤ sizeLine∧∀ p,H1 p = none→Q (.ref p) (upd H1 p (.lst xs))
theorem pe_tup {x1} (h:PA X es t):PE X (.Tuple es x1 pos) (tTup t):=by
 intro pins s σ H Q I hq
 refine wpAny_Tuple_spliced (thn (h pos pins s σ H _ I hq) fun us s1 ⟨xs,H1,I1,r,z,q⟩=>⟨by rw [← r.length]; exact z,?_⟩)
 have hf:H1 s1.heap.objs.size = none:=I1.hok.fresh (Nat.le_refl _)
 refine ⟨.ref s1.heap.objs.size,upd H1 s1.heap.objs.size (.tup xs),I1.laid (t':=s1.toks) (fun b u e=>Heap.get?_push_of_some _ e) (Nat.le_refl _) ?_,rfl,q _ hf⟩
 exact ⟨z,us,r,⟨_,Heap.get?_push_size _ rfl,rfl,_,rfl,rfl⟩⟩
theorem pe_lst (h:PA X es t):PE X (.List es pos) (tLst t):=by
 intro pins s σ H Q I hq
 refine wpAny_List_spliced (thn (h pos pins s σ H _ I hq) fun us s1 ⟨xs,H1,I1,r,z,q⟩=>⟨by rw [← r.length]; exact z,?_⟩)
 have hf:H1 s1.heap.objs.size = none:=I1.hok.fresh (Nat.le_refl _)
 refine ⟨.ref s1.heap.objs.size,upd H1 s1.heap.objs.size (.lst xs),I1.laid (t':=s1.toks) (fun b u e=>Heap.get?_push_of_some _ e) (Nat.le_refl _) ?_,rfl,q _ hf⟩
 exact ⟨z,us,0,r,Heap.get?_push_size _ rfl⟩
end
noncomputable abbrev Sp:=List V→Hp→VK→XK→Prop
noncomputable abbrev CXT:=List Env→Hp→Shared→XK→Value→Shared→Prop
structure Env0 (P:Program) (w:World) (K:W.Frag) (mg:Str→Option Value) (base:Heap) (A:Around) (outer:List Env) (s:Shared) (H:Hp):Prop where
 frames:A.frames = some outer
 mod:Mod K mg base
 bs:∀ b o,base.get? b = some o→s.heap.get? b = some o∧H b = none
 bsz:base.objs.size ≤ s.heap.objs.size
 funs:s.heap.FunFrames base outer
 frf:∀ b ∈ frs outer,H b = none
 hok:HOk P w H s.heap
 bare:AllBare s.gens
noncomputable def CE (outer:List Env) (P:Program) (w:World) (H:Hp) (s:Shared) (Q:VK) (u:Value) (s':Shared):Prop :=
 ∃ v H',s'.os = s.os∧AllBare s'.gens∧Un (frs outer) [] H H' s.heap s'.heap∧HOk P w H' s'.heap∧RelV v u∧Q v H'
noncomputable def CR (CX:CXT) (outer:List Env) (P:Program) (w:World) (H:Hp) (s:Shared) (Q:VK) (E:XK) (r:Result) (s':Shared):Prop :=
 match r with
 | .ok (.ret u)=>CE outer P w H s Q u s'
 | .ok _=>False
 | .error e=>CX outer H s E e s'
structure FnOk (P:Program) (w:World) (K:W.Frag) (mg:Str→Option Value) (base:Heap) (CX:CXT) (k:Nat) (f:Addr) (fd:FuncData) (ps:List Str) (sp:Sp):Prop where
 len:∀ vs H Q E,sp vs H Q E→vs.length = ps.length
 run:∀ (A:Around) (outer:List Env) (s:Shared) (H:Hp) (args:Args) (us:List Value) (vs:List V) (Q:VK) (E:XK),Room k A→Env0 P w K mg base A outer s H→BindsTo s fd args (ps.zip us)→Vals vs us→sp vs H Q E →
  codeAny (model P w) A (.call (.ref f) args) (CR CX outer P w H s Q E) s
section
variable {X:Cx} {pins:List (Addr × Obj)} {σ:St} {H:Hp} {s s':Shared}
theorem Inv.env0 (I:Inv X pins σ H s):Env0 X.prog X.w X.K X.mg X.base X.A X.stack s H :=
 ⟨I.ok.frames,I.ok.mod,I.bs,Nat.le_trans I.ok.bsz I.sz,I.stack,I.stkFree,I.hok,I.bare⟩
theorem Inv.after {Q:VK} {u:Value} (I:Inv X pins σ H s) (h:CE X.stack X.prog X.w H s Q u s'):EP X pins σ Q u s':=by
 obtain ⟨v,H',os,bare,un,hok,r,q⟩:=h
 obtain ⟨hh,g,d,t,os'⟩:=s'
 obtain rfl:os' = s.os:=os
 exact ⟨v,H',I.call (h':=hh) (g':=g) (d':=d) (t':=t) (ch:=[]) un hok bare (fun b z=>absurd z (by simp)),r,q⟩
end
noncomputable def tCall (sp:Sp) (dvs:List V) (E:XK) (t:TA):TE:=fun σ H Q=>t σ H fun vs H1=>sp (vs ++ dvs) H1 Q E
noncomputable def Binds (K:W.Frag) (fd:FuncData) (ps:List Str) (ds:List Value):Prop :=
 ∀ (s:Shared) (us:List Value),K.In s.heap→(us ++ ds).length = ps.length→BindsTo s fd ⟨us,[]⟩ (ps.zip (us ++ ds))
theorem Binds.all {K:W.Frag} {fd:FuncData} {ps:List Str} (h:∀ us:List Value,us.length = ps.length→bindArgs fd ⟨us,[]⟩ = pure (ps.zip us)):Binds K fd ps []:=fun s us _ hl=>by
 rw [List.append_nil] at hl ⊢
 exact .of_eq (h us hl)
noncomputable def Passes (CX:CXT) (X:Cx) (E:XK):Prop:=∀ (pins:List (Addr × Obj)) (σ:St) (H:Hp) (s:Shared) (e:Value) (s':Shared),Inv X pins σ H s→CX X.stack H s E e s'→X.xe e s'
section
variable {X:Cx} {CX:CXT} {k:Nat} {f C:Addr} {fd:FuncData} {ps:List Str} {sp:Sp} {dvs:List V} {ds:List Value} {E:XK} {x m:Str} {p pos apos:Pos} {e o:Expr} {es:List Expr} {ta:TE} {t:TA}
theorem run_fn {pins:List (Addr × Obj)} {σ:St} {H:Hp} {s:Shared} {Q:VK} {us:List Value} {vs:List V} (F:FnOk X.prog X.w X.K X.mg X.base CX k f fd ps sp) (hr:Room k X.A) (hb:Binds X.K fd ps ds) (hd:Vals dvs ds) (hx:Passes CX X E)
  (I:Inv X pins σ H s) (r:Vals vs us) (h:sp (vs ++ dvs) H Q E):wpAny (model X.prog X.w) X.A (call (.ref f) us) (EP X pins σ Q) X.xe s:=by
 have r2:Vals (vs ++ dvs) (us ++ ds):=r.append hd
 have hl:(us ++ ds).length = ps.length:=by rw [← r2.length]; exact F.len _ _ _ _ h
 refine wpAny_call (codeAny_mono (F.run X.A X.stack s H ⟨us,[]⟩ (us ++ ds) (vs ++ dvs) Q E hr I.env0 (hb s us I.kIn hl) r2 h) fun r s' hq=>?_)
 cases r with
 | error e=>exact hx pins σ H s e s' I hq
 | ok fl =>
  cases fl with
  | ret u=>exact I.after hq
  | next=>exact False.elim hq
  | brk=>exact False.elim hq
  | cont=>exact False.elim hq
theorem pe_call (F:FnOk X.prog X.w X.K X.mg X.base CX k f fd ps sp) (hr:Room k X.A) (hg:Gl X x) (hm:X.mg x = some (.ref f)) (hk:W.keepIn X.K (.ref f) = true) (hb:Binds X.K fd ps ds) (hd:Vals dvs ds) (hx:Passes CX X E)
  (ha:PA X (e :: es) t) (hdb:(x == ("__debug__" : Str)) = false:=by decide) (he:starEach (e :: es) X.env = (false,eval e X.env) :: starEach es X.env:=by rfl) (hpl:(backTo pos (starEach es X.env)).any (·.1) = false:=by rfl) :
  PE X (.Call (.Name x p) (e :: es) [] pos) (tCall sp dvs E t):=by
 intro pins s σ H Q I h
 refine wpAny_Call_Name_kw (ld_glob I hg hm ?_ hdb)
 refine W.callWith_K (h₀:=X.base) I.ok.mod.kin hk (thn (ha pos pins s σ H _ I h) fun us s1 ⟨vs,H1,I1,r,q⟩=>⟨I1.kIn,?_⟩) he hpl
 exact run_fn F hr hb hd hx I1 r q
end
section
variable {X:Cx} {CX:CXT} {k:Nat} {f C:Addr} {fd:FuncData} {ps ks:List Str} {sp:Sp} {E:XK} {x m:Str} {p pos apos kpos:Pos} {e o:Expr} {es:List Expr} {kws:List Keyword} {te ta:TE} {t tk:TA} {nm:Option Str}
variable {g:List Value→List Value→List Value} {gV:List V→List V→List V}
end
structure FnScope (N P:List Str) (sc:Scope):Prop where
 kind:sc.kind = .function
 co:sc.isCoroutine = false
 gen:sc.isGenerator = false
 nd:N.Nodup
 pre:N.take P.length = P
 par:∀ x ∈ P,sc.names.lookup x = some .local ∨ sc.names.lookup x = some .cell
 nofree:∀ y ∈ sc.names,y.2 ≠ .free
theorem bindL_out {kindOf:Str→Option NameKind} {x:Str}:∀ {binds:List (Str × Value)} {m:Str→Option Value},(∀ v,(x,v) ∉ binds)→bindL kindOf binds m x = m x
 | [],_,_=>rfl
 | (n,v) :: r,m,h=>by
  unfold bindL
  rw [bindL_out fun w hw=>h w (List.mem_cons_of_mem _ hw)]
  split
  ·have:x ≠ n:=by rintro rfl; exact h v List.mem_cons_self
   simp [this]
  ·rfl
theorem bindC_out {kindOf:Str→Option NameKind} {x:Str}:∀ {binds:List (Str × Value)} {m:Str→Option Value},(∀ v,(x,v) ∉ binds)→bindC kindOf binds m x = m x
 | [],_,_=>rfl
 | (n,v) :: r,m,h=>by
  unfold bindC
  rw [bindC_out fun w hw=>h w (List.mem_cons_of_mem _ hw)]
  split
  ·rfl
  ·have:x ≠ n:=by rintro rfl; exact h v List.mem_cons_self
   simp [this]
theorem bindL_get {kindOf:Str→Option NameKind} {x:Str} {v:Value}:∀ {P:List Str} {vs:List Value} {i:Nat} {m:Str→Option Value},P.Nodup→P[i]? = some x→vs[i]? = some v→kindOf x = some .local →
  bindL kindOf (P.zip vs) m x = some v
 | [],_,_,_,_,h,_,_=>by simp at h
 | _ :: _,[],_,_,_,_,h,_=>by simp at h
 | p :: P,w :: vs,0,m,nd,h1,h2,hk=>by
  simp at h1 h2; subst h1; subst h2
  show bindL kindOf ((p,w) :: P.zip vs) m p = _
  unfold bindL
  rw [bindL_out fun v hv=>(List.nodup_cons.mp nd).1 (List.of_mem_zip hv).1,if_pos hk]
  simp
 | p :: P,w :: vs,i + 1,m,nd,h1,h2,hk=>by
  show bindL kindOf ((p,w) :: P.zip vs) m x = _
  unfold bindL
  exact bindL_get (i:=i) (List.nodup_cons.mp nd).2 (by simpa using h1) (by simpa using h2) hk
theorem bindC_get {kindOf:Str→Option NameKind} {x:Str} {v:Value}:∀ {P:List Str} {vs:List Value} {i:Nat} {m:Str→Option Value},P.Nodup→P[i]? = some x→vs[i]? = some v→kindOf x ≠ some .local →
  bindC kindOf (P.zip vs) m x = some v
 | [],_,_,_,_,h,_,_=>by simp at h
 | _ :: _,[],_,_,_,_,h,_=>by simp at h
 | p :: P,w :: vs,0,m,nd,h1,h2,hk=>by
  simp at h1 h2; subst h1; subst h2
  show bindC kindOf ((p,w) :: P.zip vs) m p = _
  unfold bindC
  rw [bindC_out fun v hv=>(List.nodup_cons.mp nd).1 (List.of_mem_zip hv).1,if_neg hk]
  simp
 | p :: P,w :: vs,i + 1,m,nd,h1,h2,hk=>by
  show bindC kindOf ((p,w) :: P.zip vs) m x = _
  unfold bindC
  exact bindC_get (i:=i) (List.nodup_cons.mp nd).2 (by simpa using h1) (by simpa using h2) hk
noncomputable def start (N:List Str) (vs:List V):St:=vs.map some ++ List.replicate (N.length - vs.length) none
noncomputable def cxOf (CX:CXT) (P:Program) (w:World) (K:W.Frag) (mg:Str→Option Value) (base:Heap) (N:List Str) (qual:Str) (scope:Scope) (f:Addr) (cd:Value) (A:Around) (outer:List Env) (s:Shared) (H:Hp) (E:XK):Cx where
 prog:=P
 w:=w
 K:=K
 mg:=mg
 base:=base
 A:=A.deeper (envOfC qual scope s.heap.objs.size f cd)
 N:=N
 s₀:=s
 H₀:=H
 env:=envOfC qual scope s.heap.objs.size f cd
 outer:=outer
 stack:=envOfC qual scope s.heap.objs.size f cd :: outer
 ex:=[]
 calm:=true
 fn:=fun _=>true
 pn:=[]
 xe:=fun e s'=>wpAny (model P w) (A.deeper (envOfC qual scope s.heap.objs.size f cd)) (leaving (envOfC qual scope s.heap.objs.size f cd) e) (fun _ s''=>CX outer H s E e s'') (fun e' s''=>CX outer H s E e' s'') s'
theorem cell_has {sc:Scope} {n:Nat} {x:Str} (h:sc.names.lookup x = some .cell):∃ c,(cellsFrom n sc.names []).lookup x = some c:=by
 have q:=W.cellsFrom_some sc.names n [] (.inl h)
 exact Option.isSome_iff_exists.mp q
theorem inv_start {CX:CXT} {P:Program} {w:World} {K:W.Frag} {mg:Str→Option Value} {base:Heap} {N ps:List Str} {qual:Str} {scope:Scope} {f:Addr} {cd:Value} {A:Around} {outer:List Env} {s s1:Shared} {H:Hp} {E:XK} {us:List Value} {vs:List V}
  (S:FnScope N ps scope) (hd:A.handled = none) (e0:Env0 P w K mg base A outer s H) (hl:vs.length = ps.length) (r:Vals vs us)
  (x:InCallC s s.heap.objs.size (bindL (envOfC qual scope s.heap.objs.size f cd).kindOf (ps.zip us) fun _=>none) (cellsFrom (s.heap.objs.size + 1) scope.names []) (bindC (envOfC qual scope s.heap.objs.size f cd).kindOf (ps.zip us) fun _=>none) s1) :
  Inv (cxOf CX P w K mg base N qual scope f cd A outer s H E) [] (start N vs) H s1:=by
 have hpl:ps.length ≤ N.length:=by have:=congrArg List.length S.pre; rw [List.length_take] at this; omega
 obtain ⟨h1,tk,rfl,hk⟩:=x.done
 have noA:∀ b:Addr,b ∉ (cxOf CX P w K mg base N qual scope f cd A outer s H E).ex:=fun b z=>absurd (show b ∈ ([]:List Addr) from z) (by simp)
 refine ⟨⟨e0.mod,S.kind,rfl,rfl,Nat.le_refl _,fun y z c h1 h2=>?_,fun y hy=>?_,fun y c _ h=>?_,fun _=>hd,Around.frames_deeper e0.frames,.inr ⟨rfl,rfl⟩,fun b z=>absurd z (noA b),e0.bs,e0.bsz,fun b _ _=>noA b,fun b z=>absurd z (noA b),e0.funs,e0.frf⟩,
  rfl,e0.bare,Un.kept hk,⟨_,x.toInCall.ns,fun i y v h1 h2 h3=>?_⟩,fun y c h=>⟨_,x.cell y c h⟩,e0.hok.fresh (Nat.le_refl _),fun y c h=>?_,fun p hp=>absurd (show p ∈ ([]:List (Addr × Obj)) from hp) (by simp),e0.hok.kept hk,?_⟩
 ·exact name_of_addr x.apart (PySem.mem_of_lookup h1) (PySem.mem_of_lookup h2)
 ·have hy:scope.names.lookup y = some .cell ∨ scope.names.lookup y = some .free:=hy
  rcases hy with hy | hy
  ·exact cell_has hy
  ·exact absurd rfl (S.nofree _ (PySem.mem_of_lookup hy))
 ·exact Nat.le_of_lt (x.above y c (PySem.mem_of_lookup h))
 ·have hi:i < vs.length:=by
   unfold start at h2
   by_cases hi:i < vs.length
   ·exact hi
   ·rw [List.getElem?_append_right (by simpa using hi)] at h2
    rw [List.getElem?_replicate] at h2
    split at h2 <;> cases h2
  have ha:vs[i]? = some v:=by
   unfold start at h2
   rw [List.getElem?_append_left (by simpa using hi),List.getElem?_map] at h2
   cases e:vs[i]? with
   | none=>rw [e] at h2; cases h2
   | some a=>rw [e] at h2; cases h2; rfl
  obtain ⟨u,hu,rv⟩:=r.get ha
  have hp:ps[i]? = some y:=by
   rw [← S.pre,List.getElem?_take_of_lt (by omega)]; exact h1
  have ndP:ps.Nodup:=by rw [← S.pre]; exact S.nd.sublist (List.take_sublist _ _)
  refine ⟨u,rv,?_⟩
  rcases S.par y (List.mem_of_getElem? hp) with k | k
  ·exact .inl ⟨k,bindL_get ndP hp hu k⟩
  ·obtain ⟨c,e⟩:=cell_has (n:=s.heap.objs.size + 1) k
   refine .inr ⟨.inl k,c,e,?_⟩
   have q:=x.cell y c e
   rw [bindC_get ndP hp hu (by show scope.names.lookup y ≠ _; rw [k]; decide)] at q
   exact q
 ·exact e0.hok.fresh (Nat.le_of_lt (x.above y c (PySem.mem_of_lookup h)))
 ·unfold start
  show _ = N.length
  rw [List.length_append,List.length_map,List.length_replicate]
  omega
theorem fn_of {CX:CXT} {P:Program} {w:World} {K:W.Frag} {mg:Str→Option Value} {base:Heap} {k:Nat} {f:Addr} {name qual:Str} {params:Arguments} {body:List Stmt} {scope:Scope} {dV kV doc pm cdv ct oc:Value} {an od:Option Addr}
  {osl:Array (Option Value)} {N ps:List Str} {sp:Sp} (lk:K.lookup f = some ⟨oc,od,.func (W.fnOf name qual params body scope dV kV doc pm an cdv ct),osl⟩) (hcd:W.codeIn K cdv qual = true) (S:FnScope N ps scope)
  (len:∀ vs H Q E,sp vs H Q E→vs.length = ps.length)
  (hbody:∀ (A:Around) (outer:List Env) (s:Shared) (H:Hp) (vs:List V) (Q:VK) (E:XK),Room k (A.deeper (envOfC qual scope s.heap.objs.size f cdv))→sp vs H Q E →
   ∃ t,PSs (cxOf CX P w K mg base N qual scope f cdv A outer s H E) body t∧t { nx:=fun _ H'=>Q .non H',rt:=Q } (start N vs) H) :
  FnOk P w K mg base CX (k + 1) f (W.fnOf name qual params body scope dV kV doc pm an cdv ct) ps sp:=by
 refine ⟨len,fun A outer s H args us vs Q E hr e0 hb r hsp=>?_⟩
 have hl:=len _ _ _ _ hsp
 have KX:K.In s.heap:=e0.mod.kin.keeps fun b o e=>(e0.bs b o e).1
 have lim:s.heap.NoLimit:=e0.mod.nolimit.keeps fun b o e=>(e0.bs b o e).1
 have hkind:∀ y ∈ ps.zip us,scope.names.lookup y.1 = some .local ∨ (scope.names.lookup y.1 = some .cell∧((cellsFrom (s.heap.objs.size + 1) scope.names []).lookup y.1).isSome = true):=fun ⟨n,v⟩ hy=>by
  rcases S.par n (List.of_mem_zip hy).1 with q | q
  ·exact .inl q
  ·exact .inr ⟨q,W.cellsFrom_some _ _ _ (.inl q)⟩
 refine codeAny_call_function hr.depth (KX _ _ lk) rfl S.co S.gen rfl (W.codeRec_of KX hcd) (hb _ _ _ _ ?_)
 refine wpAny_newFunctionEnv_cells S.kind hkind fun env he s1 x=>?_
 subst he
 refine ⟨lim.keeps x.toInCall.keep,codeAny_func ?_⟩
 obtain ⟨t,ht,hq⟩:=hbody A outer s H vs Q E (hr.deeper _) hsp
 have I:Inv (cxOf CX P w K mg base N qual scope f cdv A outer s H E) [] (start N vs) H s1:=inv_start S hr.hd e0 hl r x
 refine wpAny_mono (ht [] s1 (start N vs) H _ I hq) (fun fl s' hs=>?_) fun e s' hs=>hs
 have fin:∀ {σ':St} {H':Hp} {v:V} {u:Value},Inv (cxOf CX P w K mg base N qual scope f cdv A outer s H E) [] σ' H' s'→RelV v u→Q v H'→CE outer P w H s Q u s' :=
  fun {σ' H' v u} J rv q=>⟨v,H',J.os,J.bare,J.base,J.hok,rv,q⟩
 cases fl with
 | ret u =>
  obtain ⟨v,σ',H',J,rv,q⟩:=hs
  exact fin J rv q
 | next =>
  obtain ⟨σ',H',J,q⟩:=hs
  exact fin (v:=V.non) (u:=Value.none) J rfl q
 | brk =>
  obtain ⟨_,_,_,q⟩:=hs
  exact False.elim q
 | cont =>
  obtain ⟨_,_,_,q⟩:=hs
  exact False.elim q
section
variable {X:Cx} {x:Str} {p pos:Pos} {e:Expr} {es:List Expr} {t:TA} {id T:String} {r:List V→Hp→VK→Prop}
noncomputable def tCB (r:List V→Hp→VK→Prop) (t:TA):TE:=fun σ H Q=>t σ H fun vs H1=>r vs H1 Q
theorem pe_callB (hc:CallR X (.builtin id) r) (hg:Gl X x) (hm:X.mg x = none) (hv:bootBuiltins x = some (.builtin id)) (ha:PA X (e :: es) t) (hn:x ≠ "__name__" := by decide) (hdb:(x == ("__debug__" : Str)) = false:=by decide)
  (he:starEach (e :: es) X.env = (false,eval e X.env) :: starEach es X.env:=by rfl) (hpl:(backTo pos (starEach es X.env)).any (·.1) = false:=by rfl):PE X (.Call (.Name x p) (e :: es) [] pos) (tCB r t):=by
 intro pins s σ H Q I h
 refine wpAny_Call_Name_kw (ld_blt I hg hm hv ?_ hn hdb)
 exact PyProof.Rows.callWith_builtin1 (thn (ha pos pins s σ H _ I h) fun us s1 ⟨vs,H1,I1,r1,q1⟩=>hc pins s1 σ H1 vs us Q I1 r1 q1) he hpl
theorem pe_callTy (hc:CallR X (.type T) r) (hg:Gl X x) (hm:X.mg x = none) (hv:bootBuiltins x = some (.type T)) (ha:PA X (e :: es) t) (hn:x ≠ "__name__" := by decide) (hdb:(x == ("__debug__" : Str)) = false:=by decide)
  (he:starEach (e :: es) X.env = (false,eval e X.env) :: starEach es X.env:=by rfl) (hpl:(backTo pos (starEach es X.env)).any (·.1) = false:=by rfl):PE X (.Call (.Name x p) (e :: es) [] pos) (tCB r t):=by
 intro pins s σ H Q I h
 refine wpAny_Call_Name_kw (ld_blt I hg hm hv ?_ hn hdb)
 exact PyProof.Rows.callWith_type1 (thn (ha pos pins s σ H _ I h) fun us s1 ⟨vs,H1,I1,r1,q1⟩=>hc pins s1 σ H1 vs us Q I1 r1 q1) he hpl
end
end L2
namespace HT
open PySem PyProof.Rows
section
open PySem.SeqAt
open PySem.AutoSeq1 (wpAny_loadPart')
open PySem.MeetsSeq PySem.MeetsSeq2 PySem.MeetsSeq3
end
section
variable {prog:Program} {w:World} {A:Around} {E:Value→Shared→Prop} {s:Shared}
theorem cat_tup {t b:Addr} {vs ws:List Value} {Q:Value→Shared→Prop} (ht:IsTup s.heap t vs.toArray) (hb:IsTup s.heap b ws.toArray) (hv:vs ≠ [])
  (h1:ws = []→Q (.ref t) s) (h2:ws ≠ []→Q (.ref s.heap.objs.size) { s with heap:=s.heap.push { cls:=.type "tuple",data:=.seq (vs ++ ws).toArray } })
  (hsz:vs.length + ws.length ≤ sizeLine):wpAny (model prog w) A (binaryOp .Add (.ref t) (.ref b)) Q E s:=by
 obtain ⟨⟨cls,dd,data,sl⟩,ho,hc,n,hd⟩:=id ht
 obtain ⟨⟨cls2,dd2,data2,sl2⟩,ho2,hc2,n2,hd2⟩:=id hb
 simp only at hc hd hc2 hd2
 subst hc hd hc2 hd2
 have e:vs.toArray ++ ws.toArray = (vs ++ ws).toArray:=by simp
 by_cases hw:ws = []
 ·exact concat_meets ⟨_,ho,rfl⟩ ⟨_,ho2,rfl⟩ noFill_tuple_add seq_tuple_add PySem.F.slot_tuple_add PySem.F.entry_tuple_add (PySem.F.args_tuple_add_2 _ _)
   (tuple_addW1 t b vs.toArray ws.toArray n n2 dd dd2 sl sl2 (by simpa using hv) (by simp [hw])) ⟨ho,ho2,h1 hw⟩
 ·refine concat_meets ⟨_,ho,rfl⟩ ⟨_,ho2,rfl⟩ noFill_tuple_add seq_tuple_add PySem.F.slot_tuple_add PySem.F.entry_tuple_add (PySem.F.args_tuple_add_2 _ _)
   (tuple_addW2 t b vs.toArray ws.toArray n n2 dd dd2 sl sl2 (by simpa using hv) (by simpa using hw) (by rw [List.size_toArray,List.size_toArray]; exact hsz)) ⟨ho,ho2,?_⟩
  rw [e]
  exact h2 hw
noncomputable def sIx (n d:Nat):Option Int→Nat
 | none=>d
 | some v=>if v < 0 then (v + (n:Int)).toNat else min v.toNat n
theorem sIx_le (n d:Nat) (hd:d ≤ n) (o:Option Int):sIx n d o ≤ n:=by
 cases o with
 | none=>exact hd
 | some v =>
  show (if v < 0 then (v + (n:Int)).toNat else min v.toNat n) ≤ n
  by_cases hv:v < 0
  ·rw [if_pos hv]; omega
  ·rw [if_neg hv]; exact Nat.min_le_right _ _
theorem clip_eq (v:Int) (n d:Nat):(if v < 0 then max (v + (n:Int)) 0 else min v (n:Int)) = ((sIx n d (some v):Nat):Int):=by
 show (if v < 0 then max (v + (n:Int)) 0 else min v (n:Int)) = (((if v < 0 then (v + (n:Int)).toNat else min v.toNat n):Nat):Int)
 by_cases hv:v < 0
 ·simp only [if_pos hv]; omega
 ·simp only [if_neg hv]; omega
theorem adjust_gen (lo hi:Option Int) (n:Nat):Builtin.Slice.sliceAdjust lo hi 1 (n:Int) = (((sIx n 0 lo:Nat):Int),((sIx n n hi:Nat):Int)):=by
 have h1:¬ ((1:Int) < 0):=by omega
 unfold Builtin.Slice.sliceAdjust
 simp only [h1,if_false]
 refine Prod.ext ?_ ?_
 ·cases lo with
  | none=>rfl
  | some v=>exact clip_eq v n 0
 ·cases hi with
  | none=>rfl
  | some v=>exact clip_eq v n n
theorem places_gen (i j:Nat):Builtin.Slice.slicePlaces (i:Int) (j:Int) 1 = j - i:=by
 unfold Builtin.Slice.slicePlaces
 have h1:(1:Int) > 0:=by omega
 simp only [h1,if_true,Int.ediv_one]
 split <;> omega
theorem slicePart_ {v:Value} {o:Option Int} {Q:Option Int→Shared→Prop} (p:IsPart v o) (h:Q o s):wpAny (model prog w) A (Builtin.Slice.slicePartIndex v) Q E s:=by
 cases p with
 | none=>exact slicePart_none h
 | int i t=>exact slicePart_int h
theorem sliceApplied_gen {sl:Addr} {vl vu:Value} {lo hi:Option Int} {n:Nat} {Q:Int × Int × Nat→Shared→Prop} (hs:s.heap.IsSliceOf sl vl vu .none) (pl:IsPart vl lo) (pu:IsPart vu hi)
  (h:Q (((sIx n 0 lo:Nat):Int),1,sIx n n hi - sIx n 0 lo) s):wpAny (model prog w) A (Builtin.Slice.sliceApplied (.ref sl) (pure (n:Int))) Q E s:=by
 obtain ⟨os,hos,hcs,hds⟩:=id hs
 unfold Builtin.Slice.sliceApplied Builtin.Slice.sliceFields
 refine wpAny_bind (wpAny_bind (wpAny_field hos hds (x:=vl) rfl (wpAny_bind (wpAny_field hos hds (x:=vu) rfl (wpAny_bind (wpAny_field hos hds (x:=.none) rfl (wpAny_pure ?_)))))))
 refine wpAny_bind (slicePart_none ?_)
 show wpAny _ _ (if ((1:Int) == 0) = true then _ else _) _ _ s
 rw [if_neg (by decide)]
 refine wpAny_bind (slicePart_ pl (wpAny_bind (slicePart_ pu (wpAny_bind (wpAny_pure ?_)))))
 show wpAny _ _ (match Builtin.Slice.sliceAdjust lo hi 1 (n:Int) with | (lo,hi)=>pure (lo,(1:Int),Builtin.Slice.slicePlaces lo hi 1)) _ _ s
 rw [adjust_gen lo hi n]
 show wpAny _ _ (pure (((sIx n 0 lo:Nat):Int),(1:Int),Builtin.Slice.slicePlaces ((sIx n 0 lo:Nat):Int) ((sIx n n hi:Nat):Int) 1)) _ _ s
 rw [places_gen]
 exact wpAny_pure h
theorem pick_gen (xs:Array Value) (i k:Nat):((List.range k).filterMap fun (m:Nat)=>xs[((i:Int) + (m:Int) * 1).toNat]?).toArray = ((xs.toList.drop i).take k).toArray:=by
 have e:(fun (m:Nat)=>xs[((i:Int) + (m:Int) * 1).toNat]?) = fun m=>xs[i + m]?:=by
  funext m
  have:((i:Int) + (m:Int) * 1).toNat = i + m:=by omega
  rw [this]
 rw [e]
 have:=pick_run xs i k
 rw [List.filterMap_map] at this
 have e2:((fun x=>xs[x]?) ∘ fun x=>i + x) = fun m=>xs[i + m]?:=rfl
 rw [e2] at this
 rw [this]
theorem getItem_tuple_cut {t sl:Addr} {items:Array Value} {vl vu:Value} {lo hi:Option Int} {Q:Value→Shared→Prop} (ht:IsTup s.heap t items) (hs:s.heap.IsSliceOf sl vl vu .none) (pl:IsPart vl lo) (pu:IsPart vu hi)
  (hw:¬ (sIx items.size 0 lo = 0∧sIx items.size items.size hi = items.size))
  (h:Q (.ref s.heap.objs.size) { s with heap:=s.heap.push { cls:=.type "tuple",data:=.seq ((items.toList.drop (sIx items.size 0 lo)).take (sIx items.size items.size hi - sIx items.size 0 lo)).toArray } })
  (hsz:items.size ≤ sizeLine):wpAny (model prog w) A (getItem (.ref t) (.ref sl)) Q E s:=by
 have htake:sizeOk (.seq ((items.toList.drop (sIx items.size 0 lo)).take (sIx items.size items.size hi - sIx items.size 0 lo)).toArray):=by
  show ((items.toList.drop (sIx items.size 0 lo)).take (sIx items.size items.size hi - sIx items.size 0 lo)).toArray.size ≤ sizeLine
  rw [List.size_toArray,List.length_take,List.length_drop,Array.length_toList]
  omega
 have hj:sIx items.size items.size hi ≤ items.size:=sIx_le _ _ (Nat.le_refl _) hi
 obtain ⟨os,hos,hcs,hds⟩:=id hs
 have hTs:s.TypeIs (.ref sl) "slice" := ⟨os,hos,hcs⟩
 unfold getItem
 try with_reducible refine wpAny_holding ?_
 first | refine wpAny_bind (wpAny_pure ?_) | skip
 refine wpAny_bind (wpAny_sequenceKey ht.typeIs (by decide) ?_)
 refine wpAny_bind (wpAny_callSpecial?_slot (name:=Str.ofString "__getitem__") ht.typeIs PyProof.Rows.slot_tuple_getitem
  (wpAny_call_entry PyProof.Rows.slot_tuple_getitem ht.typeIs entry_tuple_getitem ?_ (args_tuple_getitem _ _)))
 show wpAny _ _ (Builtin.Tuple.tupleItemsOf (.ref t) >>= _) _ _ s
 refine wpAny_bind (tupleItemsOf_ ht ?_)
 refine wpAny_bind (wpAny_typeOf hTs ?_)
 rw [if_pos (by decide)]
 refine wpAny_bind (sliceApplied_gen hs pl pu ?_)
 have hno:¬ ((((sIx items.size 0 lo:Nat):Int) == 0 && (1:Int) == 1 && (sIx items.size items.size hi - sIx items.size 0 lo) == items.size) = true):=by
  intro q
  rw [Bool.and_eq_true,Bool.and_eq_true] at q
  have q1:((sIx items.size 0 lo:Nat):Int) = 0:=eq_of_beq q.1.1
  have q2:sIx items.size items.size hi - sIx items.size 0 lo = items.size:=eq_of_beq q.2
  exact hw ⟨by omega,by omega⟩
 show wpAny _ _ (if (((sIx items.size 0 lo:Nat):Int) == 0 && (1:Int) == 1 && (sIx items.size items.size hi - sIx items.size 0 lo) == items.size) = true then _ else _) _ _ s
 rw [if_neg hno,pick_gen]
 first
  | exact wpAny_bind (m:=Builtin.Tuple.tupleExact _) (wpAny_newObj_type (wpAny_pure ⟨_,rfl,wpAny_pure h⟩) htake)
  | exact wpAny_bind (m:=Builtin.Tuple.tupleExact _) (wpAny_newObj_type (wpAny_bind (wpAny_pure (wpAny_pure ⟨_,rfl,wpAny_pure h⟩))) htake)
  | exact wpAny_bind (wpAny_bind (m:=Builtin.Tuple.tupleExact _) (wpAny_newObj_type (wpAny_pure (wpAny_pure ⟨_,rfl,wpAny_pure h⟩)) htake))
  | exact wpAny_bind (wpAny_bind (m:=Builtin.Tuple.tupleExact _) (wpAny_newObj_type (wpAny_pure ⟨_,rfl,wpAny_pure h⟩) htake))
end
end HT
namespace L2
open PySem PySem.Spec PyProof.Rows
noncomputable abbrev TO:=St→Hp→(Option Int→Hp→Prop)→Prop
noncomputable def PO (X:Cx) (e:Option Expr) (t:TO):Prop :=
 ∀ (pins:List (Addr × Obj)) (s:Shared) (σ:St) (H:Hp) (Q:Option Int→Hp→Prop),Inv X pins σ H s→t σ H Q →
  wpAny (model X.prog X.w) X.A (evalPart e X.env) (fun u s'=>∃ o H',Inv X pins σ H' s'∧IsPart u o∧Q o H') X.xe s
noncomputable def tNoPart:TO:=fun _ H Q=>Q none H
noncomputable def tPart (t:TE):TO:=fun σ H Q=>t σ H fun x H1=>∃ i,x = .int i∧Q (some i) H1
section
variable {X:Cx} {e:Expr} {te:TE} {lo hi:Option Expr} {tl th:TO} {pos p2:Pos}
theorem po_none:PO X none tNoPart:=by
 intro pins s σ H Q I h
 rw [evalPart_none]
 exact wpAny_pure ⟨none,H,I,.none,h⟩
theorem po_some (h:PE X e te):PO X (some e) (tPart te):=by
 intro pins s σ H Q I hw
 rw [evalPart_some]
 refine thn (h pins s σ H _ I hw) fun u s1 ⟨x,H1,I1,r1,q1⟩=>?_
 obtain ⟨i,rfl,q⟩:=q1
 obtain ⟨t,rfl⟩:=r1
 exact ⟨some i,H1,I1,.int i t,q⟩
noncomputable def SlR (X:Cx) (r:V→Option Int→Option Int→Hp→VK→Prop):Prop :=
 ∀ (pins:List (Addr × Obj)) (s:Shared) (σ:St) (H:Hp) (x:V) (v vl vu:Value) (lo hi:Option Int) (sl:Addr) (Q:VK),Inv X pins σ H s→RelV x v→s.heap.IsSliceOf sl vl vu .none→IsPart vl lo→IsPart vu hi→r x lo hi H Q →
  ∃ T id,typeLookup (.type T) "__getitem__" = pure (some (.builtin id))∧s.TypeIs v T∧wpAny (model X.prog X.w) X.A (getItem v (.ref sl)) (EP X pins σ Q) X.xe s
theorem SlR.or {r r':V→Option Int→Option Int→Hp→VK→Prop} (h:SlR X r) (h':SlR X r'):SlR X (fun x lo hi H Q=>r x lo hi H Q ∨ r' x lo hi H Q):=by
 intro pins s σ H x v vl vu lo hi sl Q I rx hs pl pu q
 rcases q with q | q
 ·exact h pins s σ H x v vl vu lo hi sl Q I rx hs pl pu q
 ·exact h' pins s σ H x v vl vu lo hi sl Q I rx hs pl pu q
noncomputable def tSl (r:V→Option Int→Option Int→Hp→VK→Prop) (te:TE) (tl th:TO):TE:=fun σ H Q=>te σ H fun x H1=>tl σ H1 fun l H2=>th σ H2 fun u H3=>r x l u H3 Q
theorem pe_slice {r:V→Option Int→Option Int→Hp→VK→Prop} (hr:SlR X r) (he:PE X e te) (hl:PO X lo tl) (hu:PO X hi th):PE X (.Subscript e (.Slice lo hi none p2) pos) (tSl r te tl th):=by
 intro pins s σ H Q I h
 refine Subscript_ (thn (he pins s σ H _ I h) fun v s1 ⟨x,H1,I1,r1,q1⟩=>?_)
 refine wpAny_Slice (thn (hl pins s1 σ H1 _ I1 q1) fun vl s2 ⟨l,H2,I2,pl,q2⟩=>thn (hu pins s2 σ H2 _ I2 q2) fun vu s3 ⟨u,H3,I3,pu,q3⟩=>?_)
 rw [evalPart_none]
 refine wpAny_pure ?_
 have I4:Inv X pins σ H3 { s3 with heap:=s3.heap.push { cls:=.type "slice",data:=.fields #[vl,vu,.none] } }:=I3.kept (t':=s3.toks) fun b ob q=>Heap.get?_push_of_some _ q
 obtain ⟨T,id,hT,ht,hg⟩:=hr pins { s3 with heap:=s3.heap.push { cls:=.type "slice",data:=.fields #[vl,vu,.none] } } σ H3 x v vl vu l u s3.heap.objs.size Q I4 r1 (Heap.IsSliceOf.new ..) pl pu q3
 show wpAny (model X.prog X.w) X.A (subscriptTail e (.Slice lo hi none p2) v (.ref s3.heap.objs.size)) (EP X pins σ Q) X.xe { s3 with heap:=s3.heap.push { cls:=.type "slice",data:=.fields #[vl,vu,.none] } }
 exact tail_any (ops:=[.ref s3.heap.objs.size,v]) ht hT hg (by with_unfolding_all rfl)
noncomputable def cutV (xs:List V) (lo hi:Option Int):List V:=(xs.drop (HT.sIx xs.length 0 lo)).take (HT.sIx xs.length xs.length hi - HT.sIx xs.length 0 lo)
theorem cutV_length (xs:List V) (lo hi:Option Int):(cutV xs lo hi).length ≤ xs.length:=by
 unfold cutV
 rw [List.length_take,List.length_drop]
 omega
noncomputable def rSlT (K:W.Frag):V→Option Int→Option Int→Hp→VK→Prop:=fun x lo hi H Q=>∃ a xs,x = .ref a∧SqT K H a xs ∧
 ¬ (HT.sIx xs.length 0 lo = 0∧HT.sIx xs.length xs.length hi = xs.length)∧∀ p,H p = none→Q (.ref p) (upd H p (.tup (cutV xs lo hi)))
theorem sl_tup:SlR X (rSlT X.K):=by
 intro pins s σ H x v vl vu lo hi sl Q I rx hs pl pu h
 obtain ⟨a,xs,rfl,hx,hw,q⟩:=h
 cases rx
 obtain ⟨its,r,ht,hz⟩:=I.tuple hx
 have hlen:its.toArray.size = xs.length:=by rw [List.size_toArray]; exact r.length.symm
 refine ⟨"tuple",_,PyProof.Rows.slot_tuple_getitem.lookup,ht.typeIs,?_⟩
 refine HT.getItem_tuple_cut ht hs pl pu (by rw [hlen]; exact hw) ?_ (by rw [hlen]; exact hz)
 rw [hlen]
 refine ⟨.ref s.heap.objs.size,_,I.laid (t':=s.toks) (o:=.tup (cutV xs lo hi)) (fun b ob q=>Heap.get?_push_of_some _ q) (Nat.le_refl _) ?_,rfl,q _ (I.hok.fresh (Nat.le_refl _))⟩
 exact ⟨Nat.le_trans (cutV_length xs lo hi) hz,_,(r.drop (HT.sIx xs.length 0 lo)).take (HT.sIx xs.length xs.length hi - HT.sIx xs.length 0 lo),IsTupN.new _ _⟩
noncomputable def rCatT (K:W.Frag):R2:=fun x y H Q=>∃ a b xs ys,x = .ref a∧y = .ref b∧SqT K H a xs∧SqT K H b ys∧xs ≠ []∧xs.length + ys.length ≤ sizeLine ∧
 (ys = []→Q (.ref a) H)∧(ys ≠ []→∀ p,H p = none→Q (.ref p) (upd H p (.tup (xs ++ ys))))
theorem Vals.nil_iff {xs:List V} {us:List Value} (r:Vals xs us):us = [] ↔ xs = []:=by
 cases r with
 | nil=>simp
 | cons _ _=>simp
theorem op_catT:OpR X (binaryOp .Add) (rCatT X.K):=by
 intro pins s σ H x y v u Q I rx ry h
 obtain ⟨a,b,xs,ys,rfl,rfl,ha,hb,hx,hz,q1,q2⟩:=h
 cases rx
 cases ry
 obtain ⟨its,r1,p1,_⟩:=I.tuple ha
 obtain ⟨its2,r2,p2,_⟩:=I.tuple hb
 refine HT.cat_tup p1 p2 (fun z=>hx (r1.nil_iff.mp z)) (fun z=>⟨.ref a,H,I,rfl,q1 (r2.nil_iff.mp z)⟩) (fun z=>?_) (by rw [← r1.length,← r2.length]; exact hz)
 refine ⟨.ref s.heap.objs.size,_,I.laid (t':=s.toks) (o:=.tup (xs ++ ys)) (fun b ob q=>Heap.get?_push_of_some _ q) (Nat.le_refl _) ?_,rfl,q2 (fun w=>z (r2.nil_iff.mpr w)) _ (I.hok.fresh (Nat.le_refl _))⟩
 exact ⟨by rw [List.length_append]; exact hz,_,r1.append r2,IsTupN.new _ _⟩
end
noncomputable def ixN (n:Nat) (i:Int):Option Nat:=if 0 ≤ i then (if i < n then some i.toNat else none) else if -(n:Int) ≤ i then some (i + n).toNat else none
noncomputable def atI {α:Type} (xs:List α) (i:Int):Option α:=(ixN xs.length i).bind fun j=>xs[j]?
theorem ixN_seq {n:Nat} {i:Int} {j:Nat} (h:ixN n i = some j):seqIndex? i n = some j∧j < n∧-(n:Int) ≤ i∧i < n:=by
 unfold ixN at h
 by_cases h0:0 ≤ i
 ·rw [if_pos h0] at h
  by_cases h1:i < n
  ·rw [if_pos h1] at h
   have e:i.toNat = j:=Option.some.inj h
   exact ⟨by rw [seqIndex_of h0 h1,e],by omega,by omega,h1⟩
  ·rw [if_neg h1] at h; cases h
 ·rw [if_neg h0] at h
  by_cases h1:-(n:Int) ≤ i
  ·rw [if_pos h1] at h
   have e:(i + n).toNat = j:=Option.some.inj h
   exact ⟨by rw [seqIndex_neg (by omega) h1,e],by omega,h1,by omega⟩
  ·rw [if_neg h1] at h; cases h
theorem atI_get {α:Type} {xs:List α} {i:Int} {v:α} (h:atI xs i = some v):∃ j,seqIndex? i xs.length = some j∧xs[j]? = some v∧j < xs.length∧-(xs.length:Int) ≤ i∧i < xs.length:=by
 unfold atI at h
 cases e:ixN xs.length i with
 | none=>rw [e] at h; cases h
 | some j =>
  rw [e] at h
  obtain ⟨h1,h2,h3,h4⟩:=ixN_seq e
  exact ⟨j,h1,h,h2,h3,h4⟩
noncomputable def PlainIx (b:Expr):Prop:=∀ o i,subscripted b false o i = operate [o,i] (getItem o i)
noncomputable def IxR (X:Cx) (r:R2):Prop :=
 ∀ (value slice:Expr) (pins:List (Addr × Obj)) (s:Shared) (σ:St) (H:Hp) (x y:V) (v u:Value) (Q:VK),Inv X pins σ H s→RelV x v→RelV y u→r x y H Q →
  subscripted slice false v u = operate [v,u] (getItem v u)→wpAny (model X.prog X.w) X.A (subscriptTail value slice v u) (EP X pins σ Q) X.xe s
noncomputable def MtR (X:Cx) (id:String) (r:V→List V→Hp→VK→Prop):Prop :=
 ∀ (pins:List (Addr × Obj)) (s:Shared) (σ:St) (H:Hp) (x:V) (xs:List V) (v:Value) (us:List Value) (Q:VK),Inv X pins σ H s→RelV x v→Vals xs us→r x xs H Q →
  wpAny (model X.prog X.w) X.A (call (.builtin id) (v :: us)) (EP X pins σ Q) X.xe s
section
variable {X:Cx} {a b:Expr} {ta tb:TE} {pos:Pos}
theorem IxR.or {r r':R2} (h:IxR X r) (h':IxR X r'):IxR X (fun x y H Q=>r x y H Q ∨ r' x y H Q):=by
 intro value slice pins s σ H x y v u Q I rx ry q hs
 rcases q with q | q
 ·exact h value slice pins s σ H x y v u Q I rx ry q hs
 ·exact h' value slice pins s σ H x y v u Q I rx ry q hs
theorem pe_ix {r:R2} (hr:IxR X r) (ha:PE X a ta) (hb:PE X b tb) (hs:PlainIx b):PE X (.Subscript a b pos) (tOp r ta tb):=by
 intro pins s σ H Q I h
 exact Subscript_ (binT ha hb I h fun v u s2 x y H2 I2 rx ry q=>hr a b pins s2 σ H2 x y v u Q I2 rx ry q (hs _ _))
noncomputable def rIxL (K:W.Frag):R2:=fun x y H Q=>∃ p xs i v,x = .ref p∧y = .int i∧SqL K H p xs∧atI xs i = some v∧Q v H
noncomputable def rIxT (K:W.Frag):R2:=fun x y H Q=>∃ p xs i v,x = .ref p∧y = .int i∧SqT K H p xs∧atI xs i = some v∧Q v H
noncomputable def rIxS:R2:=fun x y H Q=>∃ z i c,x = .str z∧y = .int i∧z.length ≤ sizeLine∧atI z.cps.toList i = some c∧Q (.str ⟨#[c]⟩) H
theorem ix_list:IxR X (rIxL X.K):=by
 intro value slice pins s σ H x y v u Q I rx ry h hs
 obtain ⟨p,xs,i,z,rfl,rfl,hq,he,q⟩:=h
 cases rx
 obtain ⟨t,rfl⟩:=ry
 obtain ⟨its,r,pl,hz⟩:=I.list hq
 obtain ⟨j,h1,h2,h3,h4,h5⟩:=atI_get he
 obtain ⟨w,ew,rw'⟩:=r.get h2
 have hl:=r.length
 have hn:=line63
 have fin:EP X pins σ Q w s:=⟨z,H,I,rw',q⟩
 by_cases h0:0 ≤ i
 ·have hj:i.toNat = j:=by
   rw [seqIndex_of h0 h5] at h1
   exact Option.some.inj h1
  exact item_listR pl.isList h0 (by omega) (by rw [hj]; simpa using ew) fin hs
 ·have hj:(i + (its.toArray.size:Int)).toNat = j:=by
   rw [seqIndex_neg (by omega) h4] at h1
   rw [List.size_toArray,← hl]
   exact Option.some.inj h1
  exact subscriptTail_builtinR (x:=w) pl.isList.typeIs slot_list_getitem.lookup
   (wpAny_getItem_list_neg (Q:=fun r s'=>r = w∧EP X pins σ Q r s') pl.isList (by omega) (by rw [List.size_toArray] <;> omega) (by omega) (by rw [hj]; simpa using ew) ⟨rfl,fin⟩) hs
theorem ix_tup:IxR X (rIxT X.K):=by
 intro value slice pins s σ H x y v u Q I rx ry h hs
 obtain ⟨p,xs,i,z,rfl,rfl,hq,he,q⟩:=h
 cases rx
 obtain ⟨t,rfl⟩:=ry
 obtain ⟨its,r,pl,hz⟩:=I.tuple hq
 obtain ⟨j,h1,h2,h3,h4,h5⟩:=atI_get he
 obtain ⟨w,ew,rw'⟩:=r.get h2
 have hl:=r.length
 have hn:=line63
 have fin:EP X pins σ Q w s:=⟨z,H,I,rw',q⟩
 exact subscriptTail_builtinR (x:=w) pl.typeIs slot_tuple_getitem.lookup
  (getItem_tuple (j:=j) (Q:=fun r s'=>r = w∧EP X pins σ Q r s') pl (by omega) (by omega) (by rw [List.size_toArray,← hl]; exact h1) (by simpa using ew) ⟨rfl,fin⟩) hs
theorem ix_str:IxR X rIxS:=by
 intro value slice pins s σ H x y v u Q I rx ry h hs
 obtain ⟨z,i,c,rfl,rfl,hz,he,q⟩:=h
 obtain ⟨t,rfl⟩:=rx
 obtain ⟨t',rfl⟩:=ry
 obtain ⟨j,h1,h2,h3,h4,h5⟩:=atI_get he
 have hl:z.cps.toList.length = z.length:=by simp [Str.length]
 rw [hl] at h1 h4 h5
 have hn:=line63
 exact tail_any (typeIs_str s z t) slot_str_getitem.lookup (getItem_str (c:=c) (by
  have e1:decide (i < -(2 ^ 63:Int)) = false:=decide_eq_false (by omega)
  have e2:decide (i ≥ 2 ^ 63) = false:=decide_eq_false (by omega)
  rw [e1,e2,Bool.or_false]) (by rw [h1]; simpa using h2) ⟨.str ⟨#[c]⟩,H,I.tok _,⟨_,rfl⟩,q⟩) hs
noncomputable def rIx (K:W.Frag):R2:=fun x y H Q=>rIxL K x y H Q ∨ rIxT K x y H Q ∨ rIxS x y H Q
theorem ix_seq:IxR X (rIx X.K):=ix_list.or (ix_tup.or ix_str)
theorem mapSeq_set (its:List Value) (n j:Nat) (u:Value):Obj.mapSeq (·.setIfInBounds j u) { cls:=.type "list",data:=.seq its.toArray n } = { cls:=.type "list",data:=.seq (its.set j u).toArray n }:=by
 simp [Obj.mapSeq]
theorem Inv.lst {pins:List (Addr × Obj)} {σ:St} {H:Hp} {s:Shared} {p:Addr} {xs:List V} (I:Inv X pins σ H s) (h:H p = some (.lst xs)) :
  ∃ (its:List Value) (n:Nat),Vals xs its∧s.heap.get? p = some { cls:=.type "list",data:=.seq its.toArray n }∧xs.length ≤ sizeLine:=by
 obtain ⟨z,its,n,r,e⟩:=I.hok p _ h
 exact ⟨its,n,r,e,z⟩
theorem Inv.lstUpd {pins:List (Addr × Obj)} {σ:St} {H:Hp} {s:Shared} {p:Addr} {xs ys:List V} {its its':List Value} {n n':Nat} {f:Obj→Obj} (I:Inv X pins σ H s) (h:H p = some (.lst xs))
  (ho:s.heap.get? p = some { cls:=.type "list",data:=.seq its.toArray n }) (hf:f { cls:=.type "list",data:=.seq its.toArray n } = { cls:=.type "list",data:=.seq its'.toArray n' }) (r:Vals ys its') (hz:ys.length ≤ sizeLine) (t:Nat) :
  Inv X pins σ (upd H p (.lst ys)) { s with heap:=s.heap.update p f,toks:=t }:=by
 have e:(s.heap.update p f).get? p = some { cls:=.type "list",data:=.seq its'.toArray n' }:=by
  rw [Heap.get?_update_self f ho (by rw [hf] <;> rfl),hf]
 refine I.write (x:=p) (e:=p) (by rw [h]; trivial) (.inl rfl) (fun b u hb q=>(Heap.get?_update_other _ _ (Ne.symm hb)).trans q) ⟨_,e⟩ ?_
 exact ⟨hz,its',n',r,e⟩
noncomputable def rSetL:V→V→V→Hp→(Hp→Prop)→Prop:=fun o i v H Q=>∃ p xs k j,o = .ref p∧i = .int k∧H p = some (.lst xs)∧ixN xs.length k = some j∧Q (upd H p (.lst (xs.set j v)))
theorem set_list:PSet X rSetL:=by
 intro pins s σ H o i v ov iv u Q I ro ri rv h
 obtain ⟨p,xs,k,j,rfl,rfl,hp,hj,q⟩:=h
 cases ro
 obtain ⟨t,rfl⟩:=ri
 obtain ⟨its,n,r,ho,hz⟩:=I.lst hp
 obtain ⟨h1,h2,h3,h4⟩:=ixN_seq hj
 have hl:=r.length
 have hn:=line63
 have I':Inv X pins σ (upd H p (.lst (xs.set j v))) { s with heap:=s.heap.update p (Obj.mapSeq (·.setIfInBounds j u)) } :=
  I.lstUpd hp ho (mapSeq_set its n j u) (r.set rv j) (by rw [List.length_set]; exact hz) s.toks
 by_cases h0:0 ≤ k
 ·have hk:k.toNat = j:=by
   rw [seqIndex_of h0 h4] at h1
   exact Option.some.inj h1
  exact W.ki_setAt ho h0 (by omega) (by rw [List.size_toArray,← hl]; exact h4) (by rw [hk]; exact ⟨_,I',q⟩)
 ·have hk:(k + (its.toArray.size:Int)).toNat = j:=by
   rw [seqIndex_neg (by omega) h3] at h1
   rw [List.size_toArray,← hl]
   exact Option.some.inj h1
  exact W.ki_setBack ho (by omega) (by rw [List.size_toArray,← hl]; exact h3) (by omega) (by rw [hk]; exact ⟨_,I',q⟩)
theorem slice_bounds (lo hi:Option Int) (n:Nat):(sliceBounds lo hi none n).1 = ((HT.sIx n 0 lo:Nat):Int)∧(sliceBounds lo hi none n).2.1 = ((HT.sIx n n hi:Nat):Int)∧(sliceBounds lo hi none n).2.2 = 1:=by
 refine ⟨?_,?_,rfl⟩
 ·cases lo with
  | none=>simp [sliceBounds,HT.sIx]
  | some i =>
   simp only [sliceBounds,HT.sIx,Option.getD_none,show (1:Int) > 0 by decide,if_true]
   by_cases h:i < 0
   ·simp only [h,if_true] <;> omega
   ·simp only [h,if_false] <;> omega
 ·cases hi with
  | none=>simp [sliceBounds,HT.sIx]
  | some i =>
   simp only [sliceBounds,HT.sIx,Option.getD_none,show (1:Int) > 0 by decide,if_true]
   by_cases h:i < 0
   ·simp only [h,if_true] <;> omega
   ·simp only [h,if_false] <;> omega
theorem slicePick_cut (its:List Value) (lo hi:Option Int):slicePick its.toArray lo hi none = ((its.drop (HT.sIx its.length 0 lo)).take (HT.sIx its.length its.length hi - HT.sIx its.length 0 lo)).toArray:=by
 obtain ⟨h1,h2,h3⟩:=slice_bounds lo hi its.toArray.size
 unfold slicePick
 rw [h1,h2,h3]
 simp only [sliceRange_one,pick_run,List.size_toArray] <;> rfl
noncomputable def rSlL (K:W.Frag):V→Option Int→Option Int→Hp→VK→Prop:=fun x lo hi H Q=>∃ a xs,x = .ref a∧SqL K H a xs∧∀ p,H p = none→Q (.ref p) (upd H p (.lst (cutV xs lo hi)))
theorem sl_list:SlR X (rSlL X.K):=by
 intro pins s σ H x v vl vu lo hi sl Q I rx hs pl pu h
 obtain ⟨a,xs,rfl,hx,q⟩:=h
 cases rx
 obtain ⟨its,r,ht,hz⟩:=I.list hx
 have hlen:=r.length
 refine ⟨"list",_,slot_list_getitem.lookup,ht.isList.typeIs,?_⟩
 refine wpAny_getItem_list_slice ht.isList hs pl pu .none (by simp) ?_ (by rw [List.size_toArray] <;> omega)
 rw [slicePick_cut,← hlen]
 refine ⟨.ref s.heap.objs.size,_,I.laid (t':=s.toks) (o:=.lst (cutV xs lo hi)) (fun b ob q=>Heap.get?_push_of_some _ q) (Nat.le_refl _) ?_,rfl,q _ (I.hok.fresh (Nat.le_refl _))⟩
 exact ⟨Nat.le_trans (cutV_length xs lo hi) hz,_,0,(r.drop (HT.sIx xs.length 0 lo)).take (HT.sIx xs.length xs.length hi - HT.sIx xs.length 0 lo),Heap.get?_push_size _ rfl⟩
noncomputable def flatV:V→Bool
 | .non=>true
 | .bl _=>true
 | .int _=>true
 | .str _=>true
 | _=>false
noncomputable def eqV:V→V→Bool
 | .non,.non=>true
 | .bl a,.bl b=>a == b
 | .bl a,.int b=>(if a then 1 else 0) == b
 | .int a,.bl b=>a == (if b then 1 else 0)
 | .int a,.int b=>a == b
 | .str a,.str b=>a == b
 | _,_=>false
theorem eqAt_V {A:Around} {s:Shared} {y x:V} {u v:Value} (ry:RelV y u) (rx:RelV x v) (fy:flatV y = true) (fx:flatV x = true):SeqAt.EqAt A s u v (eqV y x):=by
 cases y with
 | non =>
  cases ry
  cases x with
  | non=>cases rx; exact SeqAt.EqAt.same _
  | bl b=>cases rx; exact SeqAt.EqAt.none_bool b
  | int b=>obtain ⟨t,rfl⟩:=rx; exact SeqAt.EqAt.none_int b t
  | str b=>obtain ⟨t,rfl⟩:=rx; exact SeqAt.EqAt.none_str b t
  | _=>exact absurd (show false = true from fx) Bool.false_ne_true
 | bl a =>
  cases ry
  cases x with
  | non=>cases rx; exact SeqAt.EqAt.bool_none a
  | bl b=>cases rx; exact SeqAt.EqAt.bool_bool a b
  | int b=>obtain ⟨t,rfl⟩:=rx; exact SeqAt.EqAt.bool_int a b t
  | str b=>obtain ⟨t,rfl⟩:=rx; exact SeqAt.EqAt.bool_str a b t
  | _=>exact absurd (show false = true from fx) Bool.false_ne_true
 | int a =>
  obtain ⟨t',rfl⟩:=ry
  cases x with
  | non=>cases rx; exact SeqAt.EqAt.int_none a t'
  | bl b=>cases rx; exact SeqAt.EqAt.int_bool a t' b
  | int b=>obtain ⟨t,rfl⟩:=rx; exact SeqAt.EqAt.int_int a t' b t
  | str b=>obtain ⟨t,rfl⟩:=rx; exact SeqAt.EqAt.int_str a t' b t
  | _=>exact absurd (show false = true from fx) Bool.false_ne_true
 | str a =>
  obtain ⟨t',rfl⟩:=ry
  cases x with
  | non=>cases rx; exact SeqAt.EqAt.str_none a t'
  | bl b=>cases rx; exact SeqAt.EqAt.str_bool a t' b
  | int b=>obtain ⟨t,rfl⟩:=rx; exact SeqAt.EqAt.str_int a t' b t
  | str b=>obtain ⟨t,rfl⟩:=rx; exact SeqAt.EqAt.str_str a t' b t
  | _=>exact absurd (show false = true from fx) Bool.false_ne_true
 | _=>exact absurd (show false = true from fy) Bool.false_ne_true
noncomputable def eqU (x:V) (u:Value):Bool:=match u with
 | .none=>eqV .non x
 | .bool b=>eqV (.bl b) x
 | .int i _=>eqV (.int i) x
 | .str z _=>eqV (.str z) x
 | _=>false
theorem eqU_of {x y:V} {u:Value} (r:RelV y u) (f:flatV y = true):eqU x u = eqV y x:=by
 cases y with
 | non=>cases r; rfl
 | bl b=>cases r; rfl
 | int i=>obtain ⟨t,rfl⟩:=r; rfl
 | str z=>obtain ⟨t,rfl⟩:=r; rfl
 | _=>exact absurd (show false = true from f) Bool.false_ne_true
theorem any_eqU {x:V}:∀ {xs:List V} {us:List Value},Vals xs us→xs.all flatV = true→us.any (eqU x) = xs.any fun y=>eqV y x
 | _,_,.nil,_=>rfl
 | y :: xs,u :: us,.cons r t,f=>by
  rw [List.all_cons,Bool.and_eq_true] at f
  rw [List.any_cons,List.any_cons,eqU_of r f.1,any_eqU t f.2]
theorem mem_eqAt {A:Around} {s:Shared} {x:V} {v:Value} (rx:RelV x v) (fx:flatV x = true):∀ {xs:List V} {us:List Value},Vals xs us→xs.all flatV = true→∀ u ∈ us,SeqAt.EqAt A s u v (eqU x u)
 | _,_,.nil,_=>fun u hu=>by cases hu
 | y :: xs,u :: us,.cons r t,f=>fun u' hu=>by
  rw [List.all_cons,Bool.and_eq_true] at f
  rcases List.mem_cons.mp hu with rfl | hu
  ·rw [eqU_of r f.1]; exact eqAt_V r rx f.1 fx
  ·exact mem_eqAt rx fx t f.2 u' hu
noncomputable def inV (x:V) (xs:List V):Bool:=xs.any fun y=>eqV y x
noncomputable def rIn (K:W.Frag) (neg:Bool):R2:=fun x y H Q=>∃ p xs,y = .ref p∧(SqL K H p xs ∨ SqT K H p xs)∧flatV x = true∧xs.all flatV = true∧Q (.bl (if neg then !inV x xs else inV x xs)) H
theorem op_in_seq:OpR X (compareOp .In) (rIn X.K false):=by
 intro pins s σ H x y v u Q I rx ry h
 obtain ⟨p,xs,rfl,hq,fx,fs,q⟩:=h
 cases ry
 rcases hq with hq | hq
 ·obtain ⟨its,r,pl,hz⟩:=I.list hq
  refine SeqAt.in_listAt (eqU x) pl.isList (fun w hw=>mem_eqAt rx fx r fs w (by simpa using hw)) ⟨.bl _,H,I,rfl,?_⟩
  rw [show its.toArray.any (eqU x) = its.any (eqU x) by simp,any_eqU r fs]
  exact q
 ·obtain ⟨its,r,pl,hz⟩:=I.tuple hq
  refine SeqAt.in_tupleAt (eqU x) pl (fun w hw=>mem_eqAt rx fx r fs w (by simpa using hw)) ⟨.bl _,H,I,rfl,?_⟩
  rw [show its.toArray.any (eqU x) = its.any (eqU x) by simp,any_eqU r fs]
  exact q
theorem op_notIn_seq:OpR X (compareOp .NotIn) (rIn X.K true):=by
 intro pins s σ H x y v u Q I rx ry h
 obtain ⟨p,xs,rfl,hq,fx,fs,q⟩:=h
 cases ry
 rcases hq with hq | hq
 ·obtain ⟨its,r,pl,hz⟩:=I.list hq
  refine SeqAt.notIn_listAt (eqU x) pl.isList (fun w hw=>mem_eqAt rx fx r fs w (by simpa using hw)) ⟨.bl _,H,I,rfl,?_⟩
  rw [show its.toArray.any (eqU x) = its.any (eqU x) by simp,any_eqU r fs]
  exact q
 ·obtain ⟨its,r,pl,hz⟩:=I.tuple hq
  refine SeqAt.notIn_tupleAt (eqU x) pl (fun w hw=>mem_eqAt rx fx r fs w (by simpa using hw)) ⟨.bl _,H,I,rfl,?_⟩
  rw [show its.toArray.any (eqU x) = its.any (eqU x) by simp,any_eqU r fs]
  exact q
theorem call_len_seq:CallR X (.builtin "len") (fun xs H Q=>∃ p ys,xs = [.ref p]∧(SqL X.K H p ys ∨ SqT X.K H p ys)∧Q (.int ys.length) H):=by
 intro pins s σ H xs us Q I r h
 obtain ⟨p,ys,rfl,hq,q⟩:=h
 obtain ⟨u,rfl,rx⟩:=vals1 r
 cases rx
 have hn:=line63
 rcases hq with hq | hq
 ·obtain ⟨its,r',pl,hz⟩:=I.list hq
  have hlen:=r'.length
  exact Calls.call_len_list pl.isList (by simp only [List.size_toArray] <;> omega) ⟨.int ys.length,H,I.tok _,⟨s.toks + 1,by rw [List.size_toArray,hlen]⟩,q⟩
 ·obtain ⟨its,r',pl,hz⟩:=I.tuple hq
  have hlen:=r'.length
  exact len_tuple pl (by simp only [List.size_toArray] <;> omega) ⟨.int ys.length,H,I.tok _,⟨s.toks + 1,by rw [List.size_toArray,hlen]⟩,q⟩
theorem call_len_str:CallR X (.builtin "len") (fun xs H Q=>∃ z,xs = [.str z]∧z.length ≤ sizeLine∧Q (.int z.length) H):=by
 intro pins s σ H xs us Q I r h
 obtain ⟨z,rfl,hz,q⟩:=h
 obtain ⟨u,rfl,t,rfl⟩:=vals1 r
 have hn:=line63
 exact len_str (by omega) ⟨.int z.length,H,I.tok _,⟨_,rfl⟩,q⟩
theorem CallR.or {f:Value} {r r':List V→Hp→VK→Prop} (h:CallR X f r) (h':CallR X f r'):CallR X f (fun xs H Q=>r xs H Q ∨ r' xs H Q):=by
 intro pins s σ H xs us Q I rs q
 rcases q with q | q
 ·exact h pins s σ H xs us Q I rs q
 ·exact h' pins s σ H xs us Q I rs q
theorem call_list_of:CallR X (.type "list") (fun xs H Q=>∃ p ys,xs = [.ref p]∧(SqL X.K H p ys ∨ SqT X.K H p ys)∧∀ l,H l = none→Q (.ref l) (upd H l (.lst ys))):=by
 intro pins s σ H xs us Q I r h
 obtain ⟨p,ys,rfl,hq,q⟩:=h
 obtain ⟨u,rfl,rx⟩:=vals1 r
 cases rx
 have fin:∀ (its:List Value),Vals ys its→ys.length ≤ sizeLine→∀ (h':Heap) (c':Nat),(∀ b o',s.heap.get? b = some o'→h'.get? b = some o') →
   h'.get? s.heap.objs.size = some { cls:=.type "list",dict:=none,data:=.seq its.toArray c',slots:=#[] }→EP X pins σ Q (.ref s.heap.objs.size) { s with heap:=h' }:=fun its r' hz h' c' kp e =>
  ⟨.ref s.heap.objs.size,_,I.laid (t':=s.toks) kp (Nat.le_refl _) (show ObjOk X.prog X.w _ h' _ (.lst ys) from ⟨hz,its,c',r',e⟩),rfl,q _ (I.hok.fresh (Nat.le_refl _))⟩
 rcases hq with hq | hq
 ·obtain ⟨its,r',pl,hz⟩:=I.list hq
  have hlen:=r'.length
  obtain ⟨o,ho,hc,n,hd⟩:=pl.isList
  exact call_list_seq p (.inl rfl) ho hc hd (fun h' c' kp e=>fin its r' hz h' c' kp e) (by simp only [List.size_toArray] <;> omega)
 ·obtain ⟨its,r',pl,hz⟩:=I.tuple hq
  have hlen:=r'.length
  obtain ⟨o,ho,hc,n,hd⟩:=pl
  exact call_list_seq p (.inr rfl) ho hc hd (fun h' c' kp e=>fin its r' hz h' c' kp e) (by simp only [List.size_toArray] <;> omega)
theorem call_tuple_of:CallR X (.type "tuple") (fun xs H Q=>∃ p ys,xs = [.ref p]∧((SqL X.K H p ys∧∀ l,H l = none→Q (.ref l) (upd H l (.tup ys))) ∨ (SqT X.K H p ys∧Q (.ref p) H))):=by
 intro pins s σ H xs us Q I r h
 obtain ⟨p,ys,rfl,h⟩:=h
 obtain ⟨u,rfl,rx⟩:=vals1 r
 cases rx
 rcases h with ⟨hq,q⟩ | ⟨hq,q⟩
 ·obtain ⟨its,r',pl,hz⟩:=I.list hq
  have hlen:=r'.length
  refine call_tuple_list pl.isList (fun h' kp=>?_) (by simp only [List.size_toArray] <;> omega)
  have I1:Inv X pins σ H { s with heap:=h' }:=I.kept (t':=s.toks) kp
  have I2:Inv X pins σ (upd H h'.objs.size (.tup ys)) { s with heap:=h'.push { cls:=.type "tuple",data:=.seq its.toArray } } :=
   I1.laid (t':=s.toks) (fun b o e=>Heap.get?_push_of_some _ e) (Nat.le_refl _) (show ObjOk X.prog X.w _ _ _ (.tup ys) from ⟨hz,its,r',IsTupN.new _ _⟩)
  exact ⟨.ref h'.objs.size,_,I2,rfl,q _ (I1.hok.fresh (Nat.le_refl _))⟩
 ·obtain ⟨its,r',pl,hz⟩:=I.tuple hq
  exact call_tuple_same pl ⟨.ref p,H,I,rfl,q⟩
noncomputable def tyV (K:W.Frag) (T:String) (x:V) (H:Hp):Prop:=match x with
 | .str _=>T = "str"
 | .int _=>T = "int"
 | .ref p=>(T = "list"∧∃ xs,SqL K H p xs) ∨ (T = "tuple"∧∃ o,K.lookup p = some o∧o.cls = .type "tuple"∧o.dict = none) ∨
   (T = "dict"∧((∃ kvs,H p = some (.dK kvs)) ∨ ∃ kvs,H p = some (.dT kvs))) ∨ (T = "set"∧∃ S n,H p = some (.set S n))
 | _=>False
theorem tyV_is {pins:List (Addr × Obj)} {σ:St} {H:Hp} {s:Shared} {T:String} {x:V} {v:Value} (I:Inv X pins σ H s) (r:RelV x v) (ty:tyV X.K T x H) :
  s.TypeIs v T∧∀ a,v = .ref a→∃ ob,s.heap.get? a = some ob∧ob.dict = none:=by
 cases x with
 | str z =>
  obtain ⟨t,rfl⟩:=r
  cases (show T = "str" from ty)
  exact ⟨typeIs_str s z t,fun _ e=>nomatch e⟩
 | int i =>
  obtain ⟨t,rfl⟩:=r
  cases (show T = "int" from ty)
  exact ⟨typeIs_int s i t,fun _ e=>nomatch e⟩
 | ref p =>
  cases r
  rcases ty with ⟨rfl,xs,hq⟩ | ⟨rfl,o,hk,hc,hd⟩ | ⟨rfl,hk⟩ | ⟨rfl,S,n,hk⟩
  ·obtain ⟨its,_,pl,_⟩:=I.list hq
   refine ⟨pl.isList.typeIs,fun a e=>?_⟩
   cases e
   obtain ⟨o,n,e,c,hd,_⟩:=pl
   exact ⟨o,e,hd⟩
  ·refine ⟨⟨o,I.kIn p o hk,hc⟩,fun a e=>?_⟩
   cases e
   exact ⟨o,I.kIn _ o hk,hd⟩
  ·have z:∃ o,s.heap.get? p = some o∧o.ExactDict:=by
    rcases hk with ⟨kvs,hk⟩ | ⟨kvs,hk⟩
    ·obtain ⟨_,_,_,_,o,_,_,e,ex,_⟩:=I.hok p _ hk
     exact ⟨o,e,ex⟩
    ·obtain ⟨_,_,_,_,o,_,_,e,ex,_⟩:=I.hok p _ hk
     exact ⟨o,e,ex⟩
   obtain ⟨o,e,ex⟩:=z
   refine ⟨⟨o,e,ex.1⟩,fun a e2=>?_⟩
   cases e2
   exact ⟨o,e,ex.2.1⟩
  ·obtain ⟨o,_,_,_,e,ex,_⟩:=I.hok p _ hk
   refine ⟨⟨o,e,ex.1⟩,fun a e2=>?_⟩
   cases e2
   exact ⟨o,e,ex.2.1⟩
 | _=>exact False.elim ty
noncomputable def tBM0 (K:W.Frag) (T:String) (r:V→List V→Hp→VK→Prop) (to:TE):TE:=fun σ H Q=>to σ H fun x H1=>tyV K T x H1∧r x [] H1 Q
noncomputable def tBM (K:W.Frag) (T:String) (r:V→List V→Hp→VK→Prop) (to:TE) (t:TA):TE:=fun σ H Q=>to σ H fun x H1=>tyV K T x H1∧t σ H1 fun xs H2=>r x xs H2 Q
variable {o e:Expr} {es:List Expr} {to:TE} {t:TA} {name:Str} {apos cpos:Pos} {T id:String} {r:V→List V→Hp→VK→Prop}
theorem pe_bm0 (pa:PlainAttrs T) (slot:Slot T name id) (hty:typeOf (.builtin id) = pure (.type "method_descriptor")) (hm:MtR X id r) (ho:PE X o to)
  (hbase:attributeBase o name X.env (eval o X.env) = eval o X.env:=by rfl) (hline:(apos.endLine == cpos.line) = true:=by rfl):PE X (.Call (.Attribute o name apos) [] [] cpos) (tBM0 X.K T r to):=by
 intro pins s σ H Q I h
 refine wpAny_Call_method0_late hbase hline (thn (ho pins s σ H _ I h) fun v s1 ⟨x,H1,I1,r1,ty,q1⟩=>?_)
 obtain ⟨h1,h2⟩:=tyV_is I1 r1 ty
 exact ⟨T,id,pa,slot,hty,h1,h2,Calls.callWith_builtin rfl (PySem.evalArgs_none (hm pins s1 σ H1 x [] v [] Q I1 r1 .nil q1))⟩
theorem pe_bm (pa:PlainAttrs T) (slot:Slot T name id) (hty:typeOf (.builtin id) = pure (.type "method_descriptor")) (hm:MtR X id r) (ho:PE X o to) (ha:PA X (e :: es) t)
  (hbase:attributeBase o name X.env (eval o X.env) = eval o X.env:=by rfl)
  (hfew:((backTo cpos (starEach (e :: es) X.env)).all (fun x=>!x.1) && (backToKw cpos (keywordEach [] X.env)).all (fun x=>x.1.isSome)
   && decide ((e :: es).length + ([]:List Keyword).length + (if ([]:List Keyword).isEmpty then 0 else 1) < 30)) = true:=by rfl)
  (hline:(apos.endLine == cpos.line) = true:=by rfl) (hs:starEach (e :: es) X.env = (false,eval e X.env) :: starEach es X.env:=by rfl) (hplain:(backTo cpos (starEach es X.env)).any (·.1) = false:=by rfl) :
  PE X (.Call (.Attribute o name apos) (e :: es) [] cpos) (tBM X.K T r to t):=by
 intro pins s σ H Q I h
 refine wpAny_Call_method_late hbase hfew hline rfl (thn (ho pins s σ H _ I h) fun v s1 ⟨x,H1,I1,r1,ty,q1⟩=>?_)
 obtain ⟨h1,h2⟩:=tyV_is I1 r1 ty
 refine ⟨T,id,pa,slot,hty,h1,h2,?_⟩
 have hA:=ha cpos pins s1 σ H1 _ I1 q1
 rw [hs] at hA ⊢
 refine Calls.callWith_builtin (by show (false || (backTo cpos (starEach es X.env)).any (·.1)) = false; rw [hplain] <;> rfl) (Calls.evalArgs_plain ?_)
 exact thn hA fun us s2 ⟨vs,H2,I2,r2,q2⟩=>hm pins s2 σ H2 x vs v us Q I2 r1 r2 q2
end
noncomputable def MtM (X:Cx) (id:String) (r:V→List V→Hp→VK→Prop):Prop :=
 ∀ (pins:List (Addr × Obj)) (s:Shared) (σ:St) (H:Hp) (x:V) (xs:List V) (v:Value) (us:List Value) (Q:VK),Inv X pins σ H s→RelV x v→Vals xs us→r x xs H Q →
  wpAny (model X.prog X.w) X.A (call (.builtin id) (v :: us)) (EP X pins σ Q) X.xe s
theorem Vals.one:∀ {x:V} {us:List Value},Vals [x] us→∃ u,us = [u]∧RelV x u
 | _,_,.cons r .nil=>⟨_,rfl,r⟩
theorem Vals.two:∀ {x y:V} {us:List Value},Vals [x,y] us→∃ u v,us = [u,v]∧RelV x u∧RelV y v
 | _,_,_,.cons r (.cons q .nil)=>⟨_,_,rfl,r,q⟩
theorem Vals.zero:∀ {us:List Value},Vals [] us→us = []
 | _,.nil=>rfl
theorem Vals.dropLast {xs:List V} {us:List Value} (h:Vals xs us):Vals xs.dropLast us.dropLast:=by
 induction h with
 | nil=>exact .nil
 | cons r t ih =>
  cases t with
  | nil=>exact .nil
  | cons q t'=>exact .cons r ih
theorem Vals.reverse {xs:List V} {us:List Value} (h:Vals xs us):Vals xs.reverse us.reverse:=by
 induction h with
 | nil=>exact .nil
 | cons r t ih=>rw [List.reverse_cons,List.reverse_cons]; exact Vals.append ih (.cons r .nil)
theorem Vals.rep {xs:List V} {us:List Value} (h:Vals xs us):∀ k:Nat,Vals (List.replicate k xs).flatten (List.replicate k us).flatten
 | 0=>.nil
 | k + 1=>by
  rw [List.replicate_succ,List.replicate_succ,List.flatten_cons,List.flatten_cons]
  exact Vals.append h (Vals.rep h k)
theorem erase_last {α:Type} (l:List α):l.eraseIdx (l.length - 1) = l.dropLast:=by
 induction l with
 | nil=>rfl
 | cons a r ih =>
  cases r with
  | nil=>rfl
  | cons b r =>
   have e:(a :: b :: r).length - 1 = ((b :: r).length - 1) + 1:=by
    have h1:(a :: b :: r).length = r.length + 2:=rfl
    have h2:(b :: r).length = r.length + 1:=rfl
    omega
   rw [e,List.eraseIdx_cons_succ,ih]
   all_goals rfl
theorem foldl_rep (its:List Value):∀ (k:Nat) (acc:List Value),
  List.foldl (fun x1 x2=>x1 ++ x2) acc.toArray (List.replicate k its.toArray) = (acc ++ (List.replicate k its).flatten).toArray
 | 0,acc=>by simp
 | k + 1,acc=>by
  have e:acc.toArray ++ its.toArray = (acc ++ its).toArray:=by simp
  have e2:(acc ++ its) ++ (List.replicate k its).flatten = acc ++ (List.replicate (k + 1) its).flatten:=by
   rw [List.replicate_succ,List.flatten_cons,List.append_assoc]
  rw [← e2,← foldl_rep its k (acc ++ its),← e,List.replicate_succ,List.foldl_cons]
section
variable {X:Cx} {pins:List (Addr × Obj)} {σ:St} {H:Hp} {s:Shared} {l b:Addr} {xs ys zs:List V}
theorem Inv.lset {its its':List Value} {n:Nat} {f:Array Value→Array Value} {t':Nat} (I:Inv X pins σ H s) (hH:H l = some (.lst xs))
  (e:s.heap.get? l = some { cls:=.type "list",data:=.seq its.toArray n }) (hf:f its.toArray = its'.toArray) (hv:Vals ys its') (hz:ys.length ≤ sizeLine) :
  Inv X pins σ (upd H l (.lst ys)) { s with heap:=s.heap.update l (Obj.mapSeq f),toks:=t' }:=by
 have q:=PySem.IsL.update e f
 rw [hf] at q
 refine I.write (x:=l) (e:=l) (by rw [hH]; exact trivial) (.inl rfl) (fun b' u hb hu=>(Heap.get?_update_other s.heap (Obj.mapSeq f) (Ne.symm hb)).trans hu) ⟨_,q⟩ ?_
 exact ⟨hz,its',_,hv,q⟩
theorem Inv.lnew {its:List Value} {t':Nat} (I:Inv X pins σ H s) (hv:Vals ys its) (hz:ys.length ≤ sizeLine) :
  Inv X pins σ (upd H s.heap.objs.size (.lst ys)) { s with heap:=s.heap.push { cls:=.type "list",data:=.seq its.toArray },toks:=t' } :=
 I.laid (fun _ _ q=>Heap.get?_push_of_some _ q) (Nat.le_refl _) ⟨hz,its,0,hv,Heap.get?_push_size _ rfl⟩
theorem Inv.fresh (I:Inv X pins σ H s):H s.heap.objs.size = none:=I.hok.fresh (Nat.le_refl _)
theorem Inv.lstM (I:Inv X pins σ H s) (hH:H l = some (.lst xs)):xs.length ≤ sizeLine∧∃ (its:List Value) (n:Nat),Vals xs its∧xs.length = its.length∧s.heap.get? l = some { cls:=.type "list",data:=.seq its.toArray n }:=by
 obtain ⟨z,its,n,r,e⟩:=I.hok l _ hH
 exact ⟨z,its,n,r,r.length,e⟩
theorem notLongL {n:Nat} (h:n ≤ sizeLine):Builtin.List.listTooLong n = false:=by
 unfold Builtin.List.listTooLong
 exact decide_eq_false (by omega)
end
section
variable {X:Cx}
noncomputable def rAppend:V→List V→Hp→VK→Prop:=fun x vs H Q=>∃ l xs y,x = .ref l∧vs = [y]∧H l = some (.lst xs)∧xs.length < sizeLine∧Q .non (upd H l (.lst (xs ++ [y])))
theorem mt_append:MtM X "list.append" rAppend:=by
 intro pins s σ H x vs v us Q I rx rv h
 obtain ⟨l,xs,y,rfl,rfl,hH,hz,q⟩:=h
 cases rx
 obtain ⟨u,rfl,ru⟩:=rv.one
 obtain ⟨z,its,n,r,hl,e⟩:=I.lstM hH
 refine call_meets F.slot_list_append ⟨_,e,rfl⟩ F.entry_list_append (F.args_list_append_2 _ _) (PySem.list_append l its.toArray n u (by rw [List.size_toArray]; omega)) ⟨e,?_⟩
 refine ⟨.non,_,I.lset (its':=its ++ [u]) hH e (by simp) (r.append (.cons ru .nil)) ?_,rfl,q⟩
 rw [List.length_append,List.length_singleton]
 omega
noncomputable def rPop:V→List V→Hp→VK→Prop:=fun x vs H Q=>∃ l xs y,x = .ref l∧vs = []∧H l = some (.lst xs)∧xs[xs.length - 1]? = some y∧Q y (upd H l (.lst xs.dropLast))
theorem mt_pop:MtM X "list.pop" rPop:=by
 intro pins s σ H x vs v us Q I rx rv h
 obtain ⟨l,xs,y,rfl,rfl,hH,hy,q⟩:=h
 cases rx
 have hus:=rv.zero
 subst hus
 obtain ⟨z,its,n,r,hl,e⟩:=I.lstM hH
 obtain ⟨u,hu,ru⟩:=r.get hy
 have hy':its.toArray[its.toArray.size - 1]? = some u:=by
  show its.toArray[its.length - 1]? = some u
  rw [← Array.getElem?_toList,← hl]
  exact hu
 refine call_meets F.slot_list_pop ⟨_,e,rfl⟩ F.entry_list_pop (F.args_list_pop_1 _) (MeetsSeq.list_pop_last l its.toArray n u hy' (by rw [List.size_toArray]; omega)) ⟨e,?_⟩
 refine ⟨y,_,I.lset (its':=its.dropLast) hH e ?_ r.dropLast ?_,ru,q⟩
 ·show its.toArray.eraseIdxIfInBounds (its.toArray.size - 1) = its.dropLast.toArray
  rw [List.size_toArray,List.eraseIdxIfInBounds_toArray,erase_last]
 ·rw [List.length_dropLast]
  omega
theorem len_rep {α:Type} (xs:List α) (k:Nat):(List.replicate k xs).flatten.length = k * xs.length:=by
 induction k with
 | zero=>simp
 | succ k ih=>rw [List.replicate_succ,List.flatten_cons,List.length_append,ih,Nat.succ_mul,Nat.add_comm]
end
section
variable {prog:Program} {w:World} {A:Around} {E:Value→Shared→Prop} {s:Shared}
end
section
variable {X:Cx}
end
end L2
namespace Att
open PySem PySem.W PySem.Calls PyProof.Rows
theorem ints_of_wellAll {P:Params} {h:Heap}:∀ (ns:List Int) (vs:List Value),WellAll P h vs (ns.map WData.int)→IntsAre vs ns:=by
 intro ns
 induction ns with
 | nil =>
  intro vs w
  rw [List.map_nil] at w
  cases w
  exact .nil
 | cons n ns ih =>
  intro vs w
  rw [List.map_cons] at w
  cases w with
  | cons a b =>
   cases a
   exact .cons _ _ (ih _ b)
theorem script_of {l:OpenLaw} {n:Nat} (hn:l.most = some n) {P:Params} {h:Heap} {args:List WData} {vals:List Value}
  (hpre:l.row.toRowW.claim.pre args = true) (hwl:WellAll P h vals args) :
  ∃ a vs ns,vals = [Value.ref a]∧args = [WData.list (ns.map WData.int)]∧h.get? a = some { cls:=.type "list",data:=.seq vs.toArray }∧IntsAre vs ns∧ns.length ≤ n:=by
 have hsh:WShape.hasAll [] args [.list .int] = true:=(pre_splitW hpre).1
 have hc:l.pre.holds [] { args:=args } = true:=(pre_splitW hpre).2
 obtain ⟨d,r,rfl,h1,h2⟩:=hasAllW_cons hsh
 obtain rfl:=hasAllW_nil h2
 obtain ⟨xs,rfl,h3⟩:=hasW_list h1
 obtain ⟨ns,rfl⟩:=items_int h3
 have hlen:ns.length ≤ n:=by
  unfold OpenLaw.pre at hc
  have h4:(WTm.not (.lt (.lit (.int (n:Int))) (.len (.arg 0)))).holds [] { args:=[.list (ns.map .int)] } = true:=by
   have h4:=(holds_andW hc).1
   rw [hn] at h4
   exact h4
  have h5:=condW_of h4 (w_not (w_lt w_lit (w_len_list (w_arg rfl))))
  rw [List.length_map] at h5
  refine Nat.le_of_not_lt fun q=>?_
  have q':(n:Int) < ((ns.length:Nat):Int):=by omega
  first
   | (rw [decide_eq_true q'] at h5; exact absurd h5 (by decide))
   | (simp at h5; omega)
 cases hwl with
 | cons w1 w2 =>
  cases w2
  cases w1 with
  | list ho hall=>exact ⟨_,_,ns,rfl,rfl,ho,ints_of_wellAll ns _ hall,hlen⟩
theorem post_true (l:OpenLaw) (args:List WData):l.row.toRowW.claim.post args (.bool true) args = true :=
 postW_of (r:=l.row.toRowW) (X:=(true == true))
  (show WShape.has [] (.bool true) .bool = true by first | rfl | decide | simp [WShape.has,WShape.arms,WShape.armsAll])
  (show (WTm.eq .res (.lit (.bool true))).value [] { args:=args,res:=some (.bool true),after:=args } = some (.bool (true == true)) from w_eq_bool (w_res rfl) w_lit) rfl
theorem attach_call {l:OpenLaw} {n:Nat} {q:Program} {loose:List Str} {XP:(Str→Option Value)→Heap→Prop} {YP:World→Heap→Prop} {d:DefRec}
  (hn:l.most = some n) (hdf:d.params.defaults = [])
  (call:∀ (w:World) (s₀ s₁:Shared) (mg mb:Str→Option Value) (fa:Addr) (o:Obj) (pm cd doc:Value) (a:Addr) (vs:List Value) (ns:List Int),
   Ground q loose [] XP w s₀ mg mb s₁.heap→YP w s₁.heap →
   s₁.heap.get? fa = some o→o.data = .func (docDef d.name d.params d.body d.scope pm cd doc)→s₁.heap.CodeRec cd d.name→mg d.name = some (.ref fa) →
   s₁.heap.get? a = some { cls:=.type "list",data:=.seq vs.toArray }→IntsAre vs ns→ns.length ≤ n→s₁.gens = #[] →
   codeAny (model l.prog w) callerA (.call (.ref fa) ⟨[.ref a],[]⟩) (fun r s'=>r = .ok (.ret (.bool true))∧OldK s₁.heap s'.heap∧s'.os = s₁.os∧AllBare s'.gens) s₁) :
  WalkO q loose XP YP l.row.toRowW d [] (fun f vs=>PySem.call f vs):=by
 intro w s₀ s₁ mg mb G Y fa o pm cd doc dV kV ho hd hcd hD hmg hg args vals as hpre hlay hrd hwl hlo
 obtain rfl:dV = .none:=Dflts.none hD hdf
 obtain rfl:kV = .none:=Dflts.noKw hD
 obtain ⟨a,vs,ns,rfl,rfl,hobj,hints,hlen⟩:=script_of hn hpre hwl
 refine enter_call (codeAny_mono (call w s₀ s₁ mg mb fa o pm cd doc a vs ns G Y ho (fd_plain hd) hcd hmg hobj hints hlen hg) fun r s' hq=>?_)
 obtain ⟨rfl,h2,h3,h4⟩:=hq
 exact ⟨.inl ⟨.bool true,.bool true,[],rfl,fun _=>rfl,.bool true,post_true l _,fun _=>⟨List.Pairwise.nil,fun _ hm=>(nomatch hm)⟩⟩,h2,h3,h4⟩
section
variable {prog:Program} {w:World} {A:Around} {E:Value→Shared→Prop} {s:Shared} {K:Frag}
end
end Att
namespace L2
open PySem PySem.Spec PyProof.Rows
theorem vals_ints:∀ {vs:List Value} {ns:List Int},IntsAre vs ns→Vals (ns.map V.int) vs
 | _,_,.nil=>.nil
 | _,_,.cons n t h=>.cons ⟨t,rfl⟩ (vals_ints h)
noncomputable def Only (H:Hp):Prop:=∀ b,H b = none ∨ ∃ o xs,H b = some (.frz o (.lst xs))
theorem law_call {P:Program} {w:World} {K:W.Frag} {mg mb:Str→Option Value} {CX:CXT} {k:Nat} {fa a:Addr} {fd:FuncData} {x:Str} {sp:Sp} {s₁:Shared} {vs:List Value} {ns:List Int}
  (KX:K.In s₁.heap) (hns:s₁.heap.Ns mainGlobals mg) (hb:s₁.heap.Ns builtinsNs mb) (hbb:∀ x:Str,x ≠ "__name__"→mb x = bootBuiltins x) (hlim:s₁.heap.NoLimit) (hg:s₁.gens = #[])
  (ha:s₁.heap.get? a = some { cls:=.type "list",data:=.seq vs.toArray }) (hi:IntsAre vs ns) (hl:ns.length ≤ sizeLine) (hr:Room k callerA)
  (F:∀ base:Heap,K.In base→base.Ns mainGlobals mg→FnOk P w K mg base CX k fa fd [x] sp) (hbind:∀ (s:Shared) (u:Value),BindsTo s fd ⟨[u],[]⟩ [(x,u)])
  (hsp:∀ H:Hp,Only H→SqL K H a (ns.map V.int)→sp [.ref a] H (fun v _=>v = .bl true) fun _ _ _=>False)
  (hCX:∀ H e s',CX [] H s₁ (fun _ _ _=>False) e s'→False) :
  codeAny (model P w) callerA (.call (.ref fa) ⟨[.ref a],[]⟩) (fun r s'=>r = .ok (.ret (.bool true))∧OldK s₁.heap s'.heap∧s'.os = s₁.os∧AllBare s'.gens) s₁:=by
 have rv:=vals_ints hi
 have lenV:=hi.length
 have core:∀ H:Hp,Only H→SqL K H a (ns.map V.int)→HOk P w H s₁.heap→(∀ b,H b ≠ none→b = a)→(H a ≠ none→K.lookup a = none) →
   codeAny (model P w) callerA (.call (.ref fa) ⟨[.ref a],[]⟩) (fun r s'=>r = .ok (.ret (.bool true))∧OldK s₁.heap s'.heap∧s'.os = s₁.os∧AllBare s'.gens) s₁:=by
  intro H hO hS hok hA hK
  have base_of:∀ {b:Addr} {o:Obj},s₁.heap.get? b = some o→H b = none→(hidT s₁.heap H).get? b = some o:=fun e n=>hidT_get e n
  have noA:∀ {b:Addr} {o:Obj} {es:Array DictEntry} {ep:Nat},s₁.heap.get? b = some o→o.data = .dict es ep→H b = none:=fun {b o es ep} e d=>by
   cases q:H b with
   | none=>rfl
   | some u =>
    have e':b = a:=hA b (by rw [q]; simp)
    subst e'
    rw [ha] at e; cases e
    have d':Data.seq vs.toArray _ = Data.dict es ep:=d
    cases d'
  have nsK:∀ {b:Addr} {m:Str→Option Value},s₁.heap.Ns b m→(hidT s₁.heap H).Ns b m:=fun {b m} ⟨o,es,ep,e,d,r⟩=>⟨o,es,ep,base_of e (noA e d),d,r⟩
  have hKb:K.In (hidT s₁.heap H):=fun b o e=>base_of (KX b o e) (by
   cases q:H b with
   | none=>rfl
   | some u =>
    have e':b = a:=hA b (by rw [q]; simp)
    subst e'
    rw [hK (by rw [q]; simp)] at e; cases e)
  have hM:Mod K mg (hidT s₁.heap H):=⟨hKb,nsK hns,⟨mb,nsK hb,hbb⟩,let ⟨mc,h1,h2⟩:=hlim; ⟨mc,nsK h1,h2⟩⟩
  have e0:Env0 P w K mg (hidT s₁.heap H) callerA [] s₁ H:=⟨rfl,hM,fun b o e=>of_hidT e,Nat.le_of_eq (hidT_size _ _),trivial,fun b hb=>absurd (show b ∈ ([]:List Addr) from hb) (by simp),hok,.of_eq hg⟩
  refine codeAny_mono ((F _ hKb (nsK hns)).run callerA [] s₁ H ⟨[.ref a],[]⟩ [.ref a] [.ref a] _ _ hr e0 (hbind s₁ (.ref a)) (.cons rfl .nil) (hsp H hO hS)) fun r s' h=>?_
  cases r with
  | error e=>exact (hCX H e s' h).elim
  | ok fl =>
   cases fl with
   | next=>exact False.elim h
   | brk=>exact False.elim h
   | cont=>exact False.elim h
   | ret u =>
    obtain ⟨v,H',os,bare,un,hok',r',q⟩:=h
    have q':v = .bl true:=q
    subst q'
    obtain rfl:u = Value.bool true:=r'
    refine ⟨rfl,OldK.of_keep fun b o e=>?_,os,bare⟩
    cases q:H b with
    | none=>exact un.keep b o e q (by intro z; exact absurd (show b ∈ ([]:List Addr) from z) (by simp)) (by simp)
    | some u =>
     rcases hO b with z | ⟨ob,xs,z⟩
     ·rw [q] at z; cases z
     ·have z2:=un.frzs b ob _ z
      obtain ⟨e1,_⟩:=hok b _ z
      obtain ⟨e2,_⟩:=hok' b _ z2
      rw [e] at e1; cases e1
      exact e2
 cases hk:K.lookup a with
 | some o =>
  have e:=KX a o hk
  rw [ha] at e
  cases e
  refine core (fun _=>none) (fun _=>.inl rfl) (.inr ⟨_,vs.toArray,_,hk,rfl,rfl,rfl,by rw [List.size_toArray,lenV]; exact hl,by simpa using rv⟩) (fun b u z=>by have z':(none:Option HO) = some u:=z; cases z') (fun b z=>absurd rfl z) fun z=>absurd rfl z
 | none =>
  refine core (fun b=>if b = a then some (.frz { cls:=.type "list",data:=.seq vs.toArray } (.lst (ns.map V.int))) else none) (fun b=>?_) (.inl (.inr ⟨{ cls:=.type "list",data:=.seq vs.toArray },if_pos rfl⟩)) (fun b u z=>?_) (fun b z=>?_) fun _=>hk
  ·by_cases hb:b = a
   ·exact .inr ⟨_,_,if_pos hb⟩
   ·exact .inl (if_neg hb)
  ·by_cases hb:b = a
   ·have z':=(if_pos hb).symm.trans z
    cases z'
    subst hb
    exact ⟨ha,by rw [List.length_map]; exact hl,vs,_,rv,ha⟩
   ·have z':=(if_neg hb).symm.trans z
    cases z'
  ·by_cases hb:b = a
   ·exact hb
   ·exact absurd (if_neg hb) z
theorem walk_of {l:W.OpenLaw} {n k:Nat} {q:Program} {loose:List Str} {XP:(Str→Option Value)→Heap→Prop} {YP:World→Heap→Prop} {d:DefRec} {K:Params→W.Frag} {CX:World→CXT} {sp:World→Sp} {x:Str}
  (hn:l.most = some n) (hn2:n ≤ sizeLine) (hdf:d.params.defaults = []) (hr:Room k callerA)
  (hY:∀ (w:World) (h:Heap),YP w h→(K w.params).In h)
  (F:∀ (w:World) (mg:Str→Option Value) (fa:Addr) (h:Heap),(K w.params).In h→h.Ns mainGlobals mg→mg d.name = some (.ref fa) →
   ∃ fd:FuncData,(∀ (s:Shared) (u:Value),BindsTo s fd ⟨[u],[]⟩ [(x,u)]) ∧
    ∀ base:Heap,(K w.params).In base→base.Ns mainGlobals mg→FnOk l.prog w (K w.params) mg base (CX w) k fa fd [x] (sp w))
  (hsp:∀ (w:World) (H:Hp) (a:Addr) (ns:List Int),ns.length ≤ n→Only H→SqL (K w.params) H a (ns.map V.int)→sp w [.ref a] H (fun v _=>v = .bl true) fun _ _ _=>False)
  (hCX:∀ (w:World) (H:Hp) (s:Shared) (e:Value) (s':Shared),CX w [] H s (fun _ _ _=>False) e s'→False) :
  W.WalkO q loose XP YP l.row.toRowW d [] (fun f vs=>PySem.call f vs):=by
 refine Att.attach_call hn hdf fun w s₀ s₁ mg mb fa o pm cd doc a vs ns G Y ho hd hcd hmg hobj hints hlen hg=>?_
 have KX:=hY w _ Y
 obtain ⟨fd,hb,hF⟩:=F w mg fa _ KX G.T.g hmg
 exact law_call KX G.T.g G.T.b G.T.builtins G.T.nolimit hg hobj hints (Nat.le_trans hlen hn2) hr hF hb (fun H hO hS=>hsp w H a ns hlen hO hS) fun H e s'=>hCX w H s₁ e s'
theorem walk_ofK {l:W.OpenLaw} {n k:Nat} {q:Program} {loose:List Str} {XP:(Str→Option Value)→Heap→Prop} {YP:World→Heap→Prop} {d:DefRec} {K:Params→W.Frag} {CX:CXT} {sp:W.Frag→Sp} {x:Str}
  (hn:l.most = some n) (hn2:n ≤ sizeLine) (hdf:d.params.defaults = []) (hr:Room k callerA)
  (hY:∀ (w:World) (h:Heap),YP w h→(K w.params).In h)
  (F:∀ (w:World) (mg:Str→Option Value) (fa:Addr) (h:Heap),(K w.params).In h→h.Ns mainGlobals mg→mg d.name = some (.ref fa) →
   ∃ fd:FuncData,(∀ (s:Shared) (u:Value),BindsTo s fd ⟨[u],[]⟩ [(x,u)]) ∧
    ∀ base:Heap,(K w.params).In base→base.Ns mainGlobals mg→FnOk l.prog w (K w.params) mg base CX k fa fd [x] (sp (K w.params)))
  (hsp:∀ (K:W.Frag) (H:Hp) (a:Addr) (ns:List Int),ns.length ≤ n→Only H→SqL K H a (ns.map V.int)→sp K [.ref a] H (fun v _=>v = .bl true) fun _ _ _=>False)
  (hCX:∀ (H:Hp) (s:Shared) (e:Value) (s':Shared),CX [] H s (fun _ _ _=>False) e s'→False) :
  W.WalkO q loose XP YP l.row.toRowW d [] (fun f vs=>PySem.call f vs) :=
 walk_of (K:=K) (CX:=fun _=>CX) (sp:=fun w=>sp (K w.params)) hn hn2 hdf hr hY F (fun w H a ns h1 h2 h3=>hsp (K w.params) H a ns h1 h2 h3) fun _ H s e s'=>hCX H s e s'
noncomputable def defArgs (s:Stmt):Arguments:=match s with
 | .FunctionDef _ a _ _ _ _ _ _ _ _=>a
 | _=>{ posonlyargs:=[],args:=[],vararg:=none,kwonlyargs:=[],kw_defaults:=[],kwarg:=none,defaults:=[] }
noncomputable def defBody (s:Stmt):List Stmt:=match s with
 | .FunctionDef _ _ b _ _ _ _ _ _ _=>b
 | _=>[]
noncomputable def defScope (s:Stmt):Scope:=match s with
 | .FunctionDef _ _ _ _ _ _ sc _ _ _=>sc
 | _=>{ kind:=.function,names:=[],isGenerator:=false,isCoroutine:=false }
noncomputable abbrev CX0:CXT:=fun _ _ _ _ _ _=>False
noncomputable abbrev E0:XK:=fun _ _ _=>False
theorem pass0 {X:Cx}:Passes CX0 X E0:=fun _ _ _ _ _ _ _ h=>h.elim
structure Fun (K:W.Frag) (x qual:Str) (st:Stmt) (f:Addr) (fd:FuncData):Prop where
 ex:∃ (oc:Value) (od:Option Addr) (kV doc pm:Value) (an:Option Addr) (cdv ct:Value) (osl:Array (Option Value)),
  fd = W.fnOf x qual (defArgs st) (defBody st) (defScope st) .none kV doc pm an cdv ct∧K.lookup f = some ⟨oc,od,.func fd,osl⟩∧W.codeIn K cdv qual = true
 kp:W.keepIn K (.ref f) = true
section
variable {P:Program} {w:World} {K:W.Frag} {mg:Str→Option Value} {base:Heap}
theorem Fun.ok {x qual:Str} {st:Stmt} {f:Addr} {fd:FuncData} {N ps:List Str} {k:Nat} {sp:Sp} (F:Fun K x qual st f fd) (S:FnScope N ps (defScope st)) (len:∀ vs H Q E,sp vs H Q E→vs.length = ps.length)
  (hbody:∀ (cdv:Value) (A:Around) (outer:List Env) (s:Shared) (H:Hp) (vs:List V) (Q:VK) (E:XK),Room k (A.deeper (envOfC qual (defScope st) s.heap.objs.size f cdv))→sp vs H Q E →
   ∃ t,PSs (cxOf CX0 P w K mg base N qual (defScope st) f cdv A outer s H E).nox (defBody st) t∧t { nx:=fun _ H'=>Q .non H',rt:=Q } (start N vs) H):FnOk P w K mg base CX0 (k + 1) f fd ps sp:=by
 obtain ⟨oc,od,kV,doc,pm,an,cdv,ct,osl,rfl,lk,hcd⟩:=F.ex
 refine fn_of lk hcd S len fun A outer s H vs Q E hr hsp=>?_
 obtain ⟨t,h,q⟩:=hbody cdv A outer s H vs Q E hr hsp
 exact ⟨t,h.nox,q⟩
theorem Fun.binds {x qual:Str} {st:Stmt} {f:Addr} {fd:FuncData} {ps:List Str} (F:Fun K x qual st f fd)
  (h:∀ (kV doc pm:Value) (an:Option Addr) (cdv ct:Value) (us:List Value),us.length = ps.length→bindArgs (W.fnOf x qual (defArgs st) (defBody st) (defScope st) .none kV doc pm an cdv ct) ⟨us,[]⟩ = pure (ps.zip us)):Binds K fd ps []:=by
 obtain ⟨oc,od,kV,doc,pm,an,cdv,ct,osl,rfl,lk,hcd⟩:=F.ex
 exact .all (h kV doc pm an cdv ct)
theorem fun_mk {x qual:Str} {st:Stmt} {f:Addr} {oc:Value} {od an:Option Addr} {osl:Array (Option Value)} {kV doc pm cdv ct:Value} (l:K.lookup f = some ⟨oc,od,.func (W.fnOf x qual (defArgs st) (defBody st) (defScope st) .none kV doc pm an cdv ct),osl⟩)
  (c:W.codeIn K cdv qual = true) (k:W.keepIn K (.ref f) = true):Fun K x qual st f (W.fnOf x qual (defArgs st) (defBody st) (defScope st) .none kV doc pm an cdv ct):=⟨⟨oc,od,kV,doc,pm,an,cdv,ct,osl,rfl,l,c⟩,k⟩
end
theorem hu_of {A:Around} {k:Nat} (hr:Room k A):A.units + 1 < cLine:=Nat.lt_of_le_of_lt (Nat.add_le_add_left (by decide:1 ≤ 64) _) hr.units
section
variable {X:Cx}
end
noncomputable def Same (H H':Hp):Prop:=∀ b o,H b = some o→H' b = some o
theorem Same.refl (H:Hp):Same H H:=fun _ _ h=>h
theorem Same.trans {H H1 H2:Hp} (a:Same H H1) (b:Same H1 H2):Same H H2:=fun c o h=>b c o (a c o h)
theorem Same.free {H H':Hp} (e:Same H H') {l:Addr} (h:H' l = Option.none):H l = Option.none:=by
 cases q:H l with
 | none=>rfl
 | some o =>
  rw [e l o q] at h
  cases h
end L2
set_option maxHeartbeats 0
namespace L2
open PySem PySem.Spec PyProof.Rows
section
variable {κ:Type} [DecidableEq κ]
noncomputable def valV (kvs:List (κ × V)) (k:κ):Option V:=(kvs.find? fun kv=>decide (kv.1 = k)).map (·.2)
noncomputable def putK (kvs:List (κ × V)) (k:κ) (v:V):List (κ × V) :=
 if (kvs.any fun kv=>decide (kv.1 = k)) = true then kvs.map (fun kv=>if kv.1 = k then (kv.1,v) else kv) else kvs ++ [(k,v)]
theorem valV_pos {p:κ × V} {r:List (κ × V)} {k:κ} (e:p.1 = k):valV (p :: r) k = some p.2:=by simp [valV,List.find?_cons,e]
theorem valV_neg {p:κ × V} {r:List (κ × V)} {k:κ} (e:¬ p.1 = k):valV (p :: r) k = valV r k:=by simp [valV,List.find?_cons,e]
theorem valV_any (k:κ):∀ kvs:List (κ × V),(kvs.any fun kv=>decide (kv.1 = k)) = (valV kvs k).isSome
 | []=>rfl
 | p :: r=>by
  rw [List.any_cons]
  by_cases e:p.1 = k
  ·simp only [valV_pos e,decide_eq_true e,Bool.true_or,Option.isSome_some]
  ·rw [valV_neg e,decide_eq_false e,Bool.false_or]; exact valV_any k r
theorem length_putK (kvs:List (κ × V)) (k:κ) (v:V):(putK kvs k v).length ≤ kvs.length + 1:=by
 unfold putK
 split
 ·rw [List.length_map]; omega
 ·rw [List.length_append,List.length_cons,List.length_nil]; omega
theorem RelO.isSome_eq {o:Option V} {u:Option Value} (r:RelO o u):o.isSome = u.isSome:=by
 cases o with
 | none=>cases u with
  | none=>rfl
  | some _=>exact (show False from r).elim
 | some _=>cases u with
  | none=>exact (show False from r).elim
  | some _=>rfl
theorem KV.val {kvs:List (κ × V)} {vs:List (κ × Value)} (r:KV kvs vs) (k:κ):RelO (valV kvs k) (valueAt vs k):=by
 unfold KV at r
 induction r with
 | nil=>exact True.intro
 | @cons p q ps qs h t ih =>
  obtain ⟨h1,h2⟩:=h
  by_cases e:p.1 = k
  ·have e':q.1 = k:=h1.symm.trans e
   have b:valueAt (q :: qs) k = some q.2:=by simp [valueAt,List.find?_cons,e']
   rw [valV_pos e,b]; exact h2
  ·have e':¬ q.1 = k:=fun z=>e (h1.trans z)
   have b:valueAt (q :: qs) k = valueAt qs k:=by simp [valueAt,List.find?_cons,e']
   rw [valV_neg e,b]; exact ih
theorem KV.any {kvs:List (κ × V)} {vs:List (κ × Value)} (r:KV kvs vs) (k:κ):(kvs.any fun kv=>decide (kv.1 = k)) = vs.any fun kv=>decide (kv.1 = k):=by
 unfold KV at r
 induction r with
 | nil=>rfl
 | cons h t ih=>rw [List.any_cons,List.any_cons,ih,h.1]
theorem KV.repl {kvs:List (κ × V)} {vs:List (κ × Value)} (r:KV kvs vs) (k:κ) {y:V} {u:Value} (ry:RelV y u) :
  KV (kvs.map fun kv=>if kv.1 = k then (kv.1,y) else kv) (vs.map fun kv=>if kv.1 = k then (kv.1,u) else kv):=by
 unfold KV at r ⊢
 induction r with
 | nil=>exact .nil
 | @cons p q ps qs h t ih =>
  rw [List.map_cons,List.map_cons]
  refine .cons ?_ ih
  obtain ⟨h1,h2⟩:=h
  by_cases e:p.1 = k
  ·rw [if_pos e,if_pos (h1.symm.trans e)]; exact ⟨h1,ry⟩
  ·rw [if_neg e,if_neg (fun z=>e (h1.trans z))]; exact ⟨h1,h2⟩
theorem KV.put {kvs:List (κ × V)} {vs:List (κ × Value)} (r:KV kvs vs) (k:κ) {y:V} {u:Value} (ry:RelV y u):KV (putK kvs k y) (stored vs k u):=by
 unfold putK stored
 rw [r.any k]
 by_cases e:(vs.any fun kv=>decide (kv.1 = k)) = true
 ·rw [if_pos e,if_pos e]; exact r.repl k ry
 ·rw [if_neg e,if_neg e]; exact Paired.snoc r ⟨rfl,ry⟩
theorem KV.length {kvs:List (κ × V)} {vs:List (κ × Value)} (r:KV kvs vs):kvs.length = vs.length:=Paired.length r
end
theorem kV_is {P:Program} {w:World} {k:Key} {u:Value} (r:RelV (kV k) u):(mixKind P w).is k u = true:=by
 cases k with
 | inl i=>obtain ⟨t,e⟩:=(show ∃ t,u = Value.int i t from r); subst e; exact mixKind_int P w i t
 | inr x=>obtain ⟨t,e⟩:=(show ∃ t,u = Value.str x t from r); subst e; exact mixKind_str P w x t
theorem items_are {P:Program} {w:World}:∀ {ks:List Key} {us:List Value},Vals (ks.map kV) us→ItemsAre (mixKind P w) ks us
 | [],_,r=>by rw [List.map_nil] at r; cases r; exact .nil
 | k :: ks,_,r=>by
  rw [List.map_cons] at r
  cases r with
  | cons h t=>exact .cons (kV_is h) (items_are t)
noncomputable abbrev KT (H:Hp):List (List Key × V)→List (List Key × Addr × Value)→Prop:=Paired fun p q=>p.1 = q.1∧H q.2.1 = some (.tup (p.1.map kV))∧RelV p.2 q.2.2
theorem KT.val {H:Hp} {kvs:List (List Key × V)} {xs:List (List Key × Addr × Value)} (r:KT H kvs xs) (k:List Key):RelO (valV kvs k) ((atKey xs k).map (·.2)):=by
 induction r with
 | nil=>exact True.intro
 | @cons p q ps qs h t ih =>
  obtain ⟨h1,_,h2⟩:=h
  by_cases e:p.1 = k
  ·have e':q.1 = k:=h1.symm.trans e
   have b:atKey (q :: qs) k = some q.2:=by simp [atKey,List.find?_cons,e']
   rw [valV_pos e,b]; exact h2
  ·have e':¬ q.1 = k:=fun z=>e (h1.trans z)
   have b:atKey (q :: qs) k = atKey qs k:=by simp [atKey,List.find?_cons,e']
   rw [valV_neg e,b]; exact ih
theorem KT.repl {H:Hp} {kvs:List (List Key × V)} {xs:List (List Key × Addr × Value)} (r:KT H kvs xs) (k:List Key) {y:V} {u:Value} (ry:RelV y u) :
  KT H (kvs.map fun kv=>if kv.1 = k then (kv.1,y) else kv) (xs.map (putAt k u)):=by
 induction r with
 | nil=>exact .nil
 | @cons p q ps qs h t ih =>
  rw [List.map_cons,List.map_cons]
  refine .cons ?_ ih
  obtain ⟨h1,h2,h3⟩:=h
  unfold putAt
  by_cases e:p.1 = k
  ·rw [if_pos e,if_pos (h1.symm.trans e)]; exact ⟨h1,h2,ry⟩
  ·rw [if_neg e,if_neg (fun z=>e (h1.trans z))]; exact ⟨h1,h2,h3⟩
theorem KT.put {H:Hp} {kvs:List (List Key × V)} {xs:List (List Key × Addr × Value)} (r:KT H kvs xs) (k:List Key) {b:Addr} {y:V} {u:Value} (hb:H b = some (.tup (k.map kV))) (ry:RelV y u) :
  KT H (putK kvs k y) (storedH xs k b u):=by
 have e:(kvs.any fun kv=>decide (kv.1 = k)) = (atKey xs k).isSome:=by
  rw [valV_any,(r.val k).isSome_eq,Option.isSome_map]
 unfold putK storedH
 rw [e]
 by_cases q:(atKey xs k).isSome = true
 ·rw [if_pos q,if_pos q]; exact r.repl k ry
 ·rw [if_neg q,if_neg q]; exact Paired.snoc r ⟨rfl,hb,ry⟩
theorem KT.keeps {H H':Hp} {kvs:List (List Key × V)} {xs:List (List Key × Addr × Value)} (r:KT H kvs xs) (ht:∀ b ys,H b = some (.tup ys)→H' b = some (.tup ys)):KT H' kvs xs :=
 Paired.mapP r fun _ _ z=>⟨z.1,ht _ _ z.2.1,z.2.2⟩
section
variable {P:Program} {w:World} {H:Hp} {h:Heap} {a:Addr}
theorem rd_of {u:HO} (ok:HOk P w H h) (e:Rd H a u):ObjOk P w H h a u:=e.ok ok
theorem dk_rd {kvs:List (Key × V)} (ok:HOk P w H h) (e:Rd H a (.dK kvs)):kvs.length ≤ sizeLine∧(a == sysModules) = false∧∃ vs,KV kvs vs∧h.DictOf (mixKind P w) a vs :=
 show ObjOk P w H h a (.dK kvs) from rd_of ok e
theorem dk_of {kvs:List (Key × V)} (ok:HOk P w H h) (e:H a = some (.dK kvs)):kvs.length ≤ sizeLine∧(a == sysModules) = false∧∃ vs,KV kvs vs∧h.DictOf (mixKind P w) a vs:=dk_rd ok (.inl e)
theorem key_of {ks:List Key} (ok:HOk P w H h) (e:H a = some (.tup (ks.map kV))):(tupleKind (mixKind P w)).is h ks a:=by
 obtain ⟨_,its,r,o,h1,h2,n,h3,_⟩:=(show ObjOk P w H h a (.tup (ks.map kV)) from ok a _ e)
 exact ⟨o,its.toArray,n,h1,h2,h3,by simpa using items_are r⟩
theorem dt_rd {kvs:List (List Key × V)} (ok:HOk P w H h) (e:Rd H a (.dT kvs)):kvs.length ≤ sizeLine∧(a == sysModules) = false ∧
  ∃ xs,KT H kvs xs∧h.DictOfH (tupleKind (mixKind P w)) a xs:=by
 obtain ⟨z,y,xs,r,o,es,ep,h1,h2,h3,h4,h5⟩:=(show ObjOk P w H h a (.dT kvs) from rd_of ok e)
 refine ⟨z,y,xs,r,o,es,ep,h1,h2,h3,h4,fun x hx=>?_,h5⟩
 have all:∀ {l:List (List Key × V)} {m:List (List Key × Addr × Value)},KT H l m→∀ x ∈ m,(tupleKind (mixKind P w)).is h x.1 x.2.1:=by
  intro l m q
  induction q with
  | nil=>intro x hx; exact nomatch hx
  | @cons p q ps qs hq t ih =>
   intro x hx
   rcases List.mem_cons.mp hx with e | hx
   ·subst e
    exact key_of ok (by rw [← hq.1]; exact hq.2.1)
   ·exact ih x hx
 exact all r x hx
theorem dt_of {kvs:List (List Key × V)} (ok:HOk P w H h) (e:H a = some (.dT kvs)):kvs.length ≤ sizeLine∧(a == sysModules) = false ∧
  ∃ xs,KT H kvs xs∧h.DictOfH (tupleKind (mixKind P w)) a xs:=dt_rd ok (.inl e)
end
noncomputable def DGet (H:Hp) (a:Addr) (y:V) (r:Option V):Prop :=
 (∃ kvs k,Rd H a (.dK kvs)∧y = kV k∧r = valV kvs k) ∨ ∃ kvs k b,Rd H a (.dT kvs)∧y = .ref b∧H b = some (.tup (k.map kV))∧r = valV kvs k
noncomputable def DPut (H:Hp) (a:Addr) (y v:V) (H':Hp):Prop :=
 (∃ kvs k,H a = some (.dK kvs)∧y = kV k∧kvs.length < sizeLine∧H' = upd H a (.dK (putK kvs k v))) ∨
 ∃ kvs k b,H a = some (.dT kvs)∧y = .ref b∧H b = some (.tup (k.map kV))∧kvs.length < sizeLine∧H' = upd H a (.dT (putK kvs k v))
theorem DGet.k {H:Hp} {a:Addr} {kvs:List (Key × V)} {k:Key} (e:H a = some (.dK kvs)):DGet H a (kV k) (valV kvs k):=.inl ⟨kvs,k,.inl e,rfl,rfl⟩
theorem DGet.t {H:Hp} {a b:Addr} {kvs:List (List Key × V)} {k:List Key} (e:H a = some (.dT kvs)) (eb:H b = some (.tup (k.map kV))):DGet H a (.ref b) (valV kvs k):=.inr ⟨kvs,k,b,.inl e,rfl,eb,rfl⟩
theorem DPut.k {H:Hp} {a:Addr} {kvs:List (Key × V)} {k:Key} {v:V} (e:H a = some (.dK kvs)) (hl:kvs.length < sizeLine):DPut H a (kV k) v (upd H a (.dK (putK kvs k v))):=.inl ⟨kvs,k,e,rfl,hl,rfl⟩
section
variable {X:Cx} {pins:List (Addr × Obj)} {σ:St} {H:Hp} {s:Shared} {a:Addr} {y v:V} {u r:Value} {o:Option V} {A:Around} {E:Value→Shared→Prop}
theorem d_getItem {Q:Value→Shared→Prop} (hu:A.units + 1 < cLine) (I:Inv X pins σ H s) (g:DGet H a y (some v)) (ry:RelV y u) (h:∀ w' s',Inv X pins σ H s'→RelV v w'→Q w' s') :
  wpAny (model X.prog X.w) A (getItem (.ref a) u) Q E s:=by
 rcases g with ⟨kvs,k,e,ey,l⟩ | ⟨kvs,k,b,e,ey,eb,l⟩
 ·subst ey
  obtain ⟨z,hd,vs,rel,dd⟩:=dk_rd I.hok e
  obtain ⟨w',hw,rw'⟩:=RelO.some_of (v:=v) (o:=valueAt vs k) (by rw [l]; exact rel.val k)
  exact wpAny_getItem_of (kV_is ry) dd.mapOf hw (h w' _ (I.tok _) rw')
 ·subst ey
  cases (show u = Value.ref b from ry)
  obtain ⟨z,hd,xs,rel,dd⟩:=dt_rd I.hok e
  obtain ⟨w',hw,rw'⟩:=RelO.some_of (v:=v) (o:=(atKey xs k).map (·.2)) (by rw [l]; exact rel.val k)
  obtain ⟨p,hp,hp2⟩:=Option.map_eq_some_iff.mp hw
  refine wpAny_getItem_heap (tupleKind_room_in1 hu) (key_of I.hok eb) dd hp ?_
  rw [hp2]
  exact h w' _ (I.tok _) rw'
theorem d_notIn {Q:Value→Shared→Prop} (hu:A.units + 1 < cLine) (I:Inv X pins σ H s) (g:DGet H a y o) (ry:RelV y u) (h:∀ s',Inv X pins σ H s'→Q (.bool (!o.isSome)) s') :
  wpAny (model X.prog X.w) A (compareOp .NotIn u (.ref a)) Q E s:=by
 rcases g with ⟨kvs,k,e,ey,l⟩ | ⟨kvs,k,b,e,ey,eb,l⟩
 ·subst ey
  obtain ⟨z,hd,vs,rel,dd⟩:=dk_rd I.hok e
  refine wpAny_notIn_of (kV_is ry) hd dd.mapOf ?_
  rw [← (rel.val k).isSome_eq,← l]
  exact h _ (I.tok _)
 ·subst ey
  cases (show u = Value.ref b from ry)
  obtain ⟨z,hd,xs,rel,dd⟩:=dt_rd I.hok e
  refine wpAny_notIn_heap (tupleKind_room_in1 hu) (key_of I.hok eb) hd dd ?_
  have q:=(rel.val k).isSome_eq
  rw [Option.isSome_map] at q
  rw [← q,← l]
  exact h _ (I.tok _)
theorem d_write {h':Heap} {t':Nat} {ob:HO} (I:Inv X pins σ H s) (mu:Mut (H a)) (hs:Heap.SameBut a s.heap h') (he:∃ q,h'.get? a = some q) (new:ObjOk X.prog X.w (upd H a ob) h' a ob) :
  Inv X pins σ (upd H a ob) { s with heap:=h',toks:=t' } :=
 I.write (x:=a) (e:=a) mu (.inl rfl) (fun b q hb z=>(hs.2 b hb).trans z) he new
theorem dk_new {P:Program} {w:World} {H':Hp} {h':Heap} {kvs:List (Key × V)} {vs:List (Key × Value)} (z:kvs.length ≤ sizeLine) (hd:(a == sysModules) = false) (rel:KV kvs vs) (dd:h'.DictOf (mixKind P w) a vs) :
  ObjOk P w H' h' a (.dK kvs):=⟨z,hd,vs,rel,dd⟩
theorem d_setItem {H':Hp} {Q:Unit→Shared→Prop} (hu:A.units + 1 < cLine) (I:Inv X pins σ H s) (g:DPut H a y v H') (ry:RelV y u) (rv:RelV v r) (h:∀ s',Inv X pins σ H' s'→Q () s') :
  wpAny (model X.prog X.w) A (setItem (.ref a) u r) Q E s:=by
 rcases g with ⟨kvs,k,e,ey,l,eH⟩ | ⟨kvs,k,b,e,ey,eb,l,eH⟩
 ·subst ey eH
  obtain ⟨z,hd,vs,rel,dd⟩:=dk_of I.hok e
  have hz:vs.length ≤ sizeLine:=by rw [← rel.length]; exact z
  have hl:(putK kvs k v).length ≤ sizeLine:=by have:=length_putK kvs k v; omega
  refine wpAny_setItem_pairs (hsz:=hz) (kV_is ry) dd fun h' dd' hs=>h _ ?_
  have he:∃ q,h'.get? a = some q:=let ⟨q,_,_,hq,_⟩:=dd'; ⟨q,hq⟩
  exact d_write I (by rw [e]; exact True.intro) hs he (dk_new hl hd (rel.put k rv) dd')
 ·subst ey eH
  cases (show u = Value.ref b from ry)
  obtain ⟨z,hd,xs,rel,dd⟩:=dt_of I.hok e
  have hz:xs.length ≤ sizeLine:=by rw [← Paired.length rel]; exact z
  have hl:(putK kvs k v).length ≤ sizeLine:=by have:=length_putK kvs k v; omega
  refine wpAny_setItem_heap (hsz:=hz) (tupleKind_room_in1 hu) (key_of I.hok eb) dd fun h' dd' hs=>h _ ?_
  obtain ⟨q,es,ep,hq,h2,h3,h4,_,h5⟩:=dd'
  refine d_write I (by rw [e]; exact True.intro) hs ⟨q,hq⟩ ⟨hl,hd,_,(rel.put k eb rv).keeps fun c ys ec=>?_,q,es,ep,hq,h2,h3,h4,h5⟩
  rw [upd_ne (ne_of ec e (fun z=>nomatch z))]
  exact ec
end
section
variable {X:Cx} {pins:List (Addr × Obj)} {σ:St} {H:Hp} {s:Shared} {a:Addr} {kvs:List (Key × V)} {k:Key} {u:Value} {A:Around} {E:Value→Shared→Prop}
end
noncomputable def NoSl (i:Expr):Prop:=∀ ov iv,subscripted i false ov iv = operate [ov,iv] (getItem ov iv)
theorem subD_of {prog:Program} {w:World} {A:Around} {E:Value→Shared→Prop} {s:Shared} {env:Env} {value slice:Expr} {pos:Pos} {T id:String} {Q:Value→Shared→Prop}
  (hl:typeLookup (.type T) "__getitem__" = pure (some (.builtin id))) (hs:NoSl slice)
  (h:wpAny (model prog w) A (eval value env) (fun o s₁=>wpAny (model prog w) A (eval slice env) (fun i s₂=>s₂.TypeIs o T∧wpAny (model prog w) A (getItem o i) Q E s₂) E s₁) E s) :
  wpAny (model prog w) A (eval (.Subscript value slice pos) env) Q E s:=by
 refine Subscript_ (wpAny_mono h (fun o s₁ h₁=>wpAny_mono h₁ (fun i s₂ h₂=>?_) fun _ _ x=>x) fun _ _ x=>x)
 obtain ⟨hT,h₂⟩:=h₂
 unfold subscriptTail
 refine wpAny_bind ?_
 rw [getitemInPython_of_ne hT.not_modules]
 refine wpAny_bind (wpAny_specialOf hT hl ?_)
 have fin:wpAny (model prog w) A (subscripted slice false o i) (fun r s₃=>wpAny (model prog w) A (letTemporaryGo value o r >>= fun _=>pure r) Q E s₃) E s₂:=by
  rw [hs o i]
  exact wpAny_operating (wpAny_mono h₂ (fun r s₃ h₃=>wpAny_bind (wpAny_letTemporaryGo (wpAny_pure h₃))) fun _ _ x=>x)
 first
  | exact wpAny_pure (wpAny_bind fin)
  | exact wpAny_bind (wpAny_pure (wpAny_bind fin))
  | exact wpAny_bind fin
theorem dict_typeIs {X:Cx} {pins:List (Addr × Obj)} {σ:St} {H:Hp} {s:Shared} {a:Addr} {y:V} {o:Option V} (I:Inv X pins σ H s) (g:DGet H a y o):s.TypeIs (.ref a) "dict" := by
 rcases g with ⟨kvs,k,e,_,_⟩ | ⟨kvs,k,b,e,_,_,_⟩
 ·obtain ⟨_,_,vs,_,dd⟩:=dk_rd I.hok e
  exact dd.typeIs
 ·obtain ⟨_,_,xs,_,dd⟩:=dt_rd I.hok e
  exact dd.typeIs
noncomputable def tDGet (td ty:TE):TE:=fun σ H Q=>td σ H fun x H1=>ty σ H1 fun y H2=>∃ a v,x = .ref a∧DGet H2 a y (some v)∧Q v H2
noncomputable def tDNotIn (ty td:TE):TE:=fun σ H Q=>ty σ H fun y H1=>td σ H1 fun x H2=>∃ a o,x = .ref a∧DGet H2 a y o∧Q (.bl (!o.isSome)) H2
section
variable {X:Cx} {o i e value:Expr} {pos pos' tpos:Pos} {td ty tv:TE}
theorem pe_dget (hu:X.A.units + 1 < cLine) (ho:PE X o td) (hi:PE X i ty) (hs:NoSl i):PE X (.Subscript o i pos) (tDGet td ty):=by
 intro pins s σ H Q I h
 refine subD_of PySem.F.slot_dict_getitem.lookup hs (thn (ho pins s σ H _ I h) fun u s1 ⟨x,H1,I1,rx,q1⟩=>thn (hi pins s1 σ H1 _ I1 q1) fun iv s2 ⟨y,H2,I2,ry,a,v,ex,g,q2⟩=>?_)
 subst ex
 obtain rfl:u = Value.ref a:=rx
 exact ⟨dict_typeIs I2 g,d_getItem hu I2 g ry fun w' s3 I3 rw'=>⟨v,H2,I3,rw',q2⟩⟩
theorem pc_dnotin (hu:X.A.units + 1 < cLine) (hi:PE X i ty) (ho:PE X o td):PC X .NotIn i o (tDNotIn ty td):=by
 intro pins s σ H Q I h
 refine thn (hi pins s σ H _ I h) fun iv s1 ⟨y,H1,I1,ry,q1⟩=>thn (ho pins s1 σ H1 _ I1 q1) fun u s2 ⟨x,H2,I2,rx,a,ov,ex,g,q2⟩=>?_
 subst ex
 obtain rfl:u = Value.ref a:=rx
 exact d_notIn hu I2 g ry fun s3 I3=>⟨.bl (!ov.isSome),H2,I3,rfl,q2⟩
end
theorem dk_empty {P:Program} {w:World} {H:Hp} (h:Heap) (hb:sysModules < h.objs.size):ObjOk P w H (h.push { cls:=.type "dict",data:=.dict #[] }) h.objs.size (.dK []) :=
 ⟨Nat.zero_le _,beq_eq_false_iff_ne.mpr (Ne.symm (Nat.ne_of_lt hb)),[],.nil,Heap.DictOf.new h⟩
section
variable {X:Cx} {pos:Pos}
end
section
variable {X:Cx} {pins:List (Addr × Obj)} {σ:St} {H:Hp} {s:Shared} {a:Addr} {y d:V} {u r:Value} {o:Option V} {A:Around} {E:Value→Shared→Prop}
end
section
variable {X:Cx} {o e f:Expr} {apos cpos:Pos} {td ty tx:TE}
end
section
variable {X:Cx} {pins:List (Addr × Obj)} {σ:St} {H:Hp} {s:Shared} {a:Addr} {kvs:List (Key × V)} {A:Around} {E:Value→Shared→Prop}
end
section
variable {X:Cx} {pins:List (Addr × Obj)} {σ:St} {H:Hp} {s:Shared} {a:Addr} {y:V} {u:Value} {A:Around} {E:Value→Shared→Prop}
end
noncomputable def cxComp (X:Cx) (scope:Scope) (cl:List (Str × Addr)) (N':List Str) (s:Shared) (H:Hp) (ex:List Addr):Cx :=
 { X with N:=N',s₀:=s,H₀:=H,env:=compEnvC scope cl s.heap.objs.size X.env,outer:=X.stack,ex:=ex,fn:=fun _=>false,pn:=[],xe:=fun _ _=>False }
structure CompOk (sc scope:Scope) (N N':List Str) (n:Nat) (caps:List Nat):Prop where
 kind:scope.kind = .function
 nocell:∀ y ∈ scope.names,y.2 ≠ .cell
 loc:∀ y ∈ scope.names,y.2 = .local→scope.names.lookup y.1 = some .local
 free:∀ y ∈ scope.names,y.2 = .free→sc.names.lookup y.1 = some .cell ∨ sc.names.lookup y.1 = some .free
 nd:N'.Nodup
 len:N'.length = n + caps.length
 cap:∀ k ∈ List.range caps.length,N'[n + k]? = (caps[k]?).bind (N[·]?)∧(N'[n + k]?).all (fun y=>scope.names.lookup y == some .free) = true
noncomputable def sComp (n:Nat) (caps:List Nat) (σ:St):St:=List.replicate n none ++ caps.map fun j=>(σ[j]?).join
theorem sComp_len (n:Nat) (caps:List Nat) (σ:St):(sComp n caps σ).length = n + caps.length:=by simp [sComp]
theorem closure_some {env:Env}:∀ (names:List (Str × NameKind)),(∀ x ∈ names,x.2 = .free→∃ c,env.cells.lookup x.1 = some c)→∀ acc:List (Str × Addr),
  ∃ cl:List (Str × Addr),(forIn names acc (fun (x:Str × NameKind) (cs:List (Str × Addr))=>if (x.2 == .free) = true then do let a ← cellOf env x.1; pure (ForInStep.yield ((x.1,a) :: cs)) else pure (ForInStep.yield cs)):Sem (List (Str × Addr))) = pure cl ∧
   (∀ y c,cl.lookup y = some c→env.cells.lookup y = some c ∨ acc.lookup y = some c)∧(∀ x ∈ names,x.2 = .free→∃ c,cl.lookup x.1 = some c)∧(∀ y c,acc.lookup y = some c→∃ c',cl.lookup y = some c')
 | [],_,acc=>⟨acc,rfl,fun _ _ h=>.inr h,(fun _ h=>nomatch h),fun _ c h=>⟨c,h⟩⟩
 | (n,k) :: r,h,acc=>by
  cases hk:(k == NameKind.free) with
  | true =>
   have hk':k = .free:=by simpa using hk
   obtain ⟨c,hc⟩:=h (n,k) List.mem_cons_self hk'
   obtain ⟨cl,e,h1,h2,h3⟩:=closure_some r (fun x hx=>h x (List.mem_cons_of_mem _ hx)) ((n,c) :: acc)
   refine ⟨cl,?_,fun y d hy=>?_,fun x hx hf=>?_,fun y d hy=>?_⟩
   ·rw [List.forIn_cons]
    simp only [hk,if_true,cellOf,hc,pure_bind]
    exact e
   ·rcases h1 y d hy with z | z
    ·exact .inl z
    ·rw [List.lookup_cons] at z
     cases q:(y == n) with
     | true =>
      rw [q] at z
      cases z
      have:y = n:=by simpa using q
      subst this
      exact .inl hc
     | false =>
      rw [q] at z
      exact .inr z
   ·rcases List.mem_cons.mp hx with rfl | hx
    ·exact h3 n c (by simp [List.lookup_cons])
    ·exact h2 x hx hf
   ·by_cases q:y = n
    ·subst q
     exact h3 y c (by simp [List.lookup_cons])
    ·refine h3 y d ?_
     have:(y == n) = false:=by simpa using q
     rw [List.lookup_cons,this]
     exact hy
  | false =>
   obtain ⟨cl,e,h1,h2,h3⟩:=closure_some r (fun x hx=>h x (List.mem_cons_of_mem _ hx)) acc
   refine ⟨cl,?_,h1,fun x hx hf=>?_,h3⟩
   ·rw [List.forIn_cons]
    simp only [hk,Bool.false_eq_true,if_false,pure_bind]
    exact e
   ·rcases List.mem_cons.mp hx with rfl | hx
    ·have:k = .free:=hf
     rw [this] at hk
     exact absurd hk (by decide)
    ·exact h2 x hx hf
theorem closureFor_some {env:Env} {scope:Scope} (h:∀ x ∈ scope.names,x.2 = .free→∃ c,env.cells.lookup x.1 = some c) :
  ∃ cl:List (Str × Addr),closureFor scope env = pure cl∧(∀ y c,cl.lookup y = some c→env.cells.lookup y = some c)∧∀ x ∈ scope.names,x.2 = .free→∃ c,cl.lookup x.1 = some c:=by
 obtain ⟨cl,e,h1,h2,_⟩:=closure_some scope.names h []
 refine ⟨cl,?_,fun y c hy=>(h1 y c hy).elim id (fun z=>nomatch z),h2⟩
 simp only [closureFor]
 rw [← bind_pure (forIn _ _ _)] at e
 first
  | exact e
  | (refine Eq.trans ?_ e; rfl)
theorem lookup_relabel {env:Env}:∀ (names:List (Str × NameKind)) (x:Str),
  (names.map fun (n,k)=>if (k == NameKind.free && env.scope.kind == .function && env.kindOf n == some .cell) then (n,NameKind.cell) else (n,k)).lookup x =
   (names.lookup x).map fun k=>if (k == NameKind.free && env.scope.kind == .function && env.kindOf x == some .cell) = true then NameKind.cell else k
 | [],_=>rfl
 | (n,k) :: r,x=>by
  have ih:=@lookup_relabel env r x
  have l1:List.lookup x (((n,k) :: r).map fun (n,k)=>if (k == NameKind.free && env.scope.kind == .function && env.kindOf n == some .cell) then (n,NameKind.cell) else (n,k)) =
    List.lookup x ((if (k == NameKind.free && env.scope.kind == .function && env.kindOf n == some .cell) = true then (n,NameKind.cell) else (n,k)) :: r.map fun (n,k)=>if (k == NameKind.free && env.scope.kind == .function && env.kindOf n == some .cell) then (n,NameKind.cell) else (n,k)):=rfl
  rw [l1,List.lookup_cons (as:=r)]
  by_cases hc:(k == NameKind.free && env.scope.kind == .function && env.kindOf n == some .cell) = true
  ·rw [if_pos hc,List.lookup_cons]
   cases hx:x == n with
   | true =>
    have e:x = n:=by simpa using hx
    subst e
    show some NameKind.cell = some (if (k == NameKind.free && env.scope.kind == .function && env.kindOf x == some .cell) = true then NameKind.cell else k)
    rw [if_pos hc]
   | false=>exact ih
  ·rw [if_neg hc,List.lookup_cons]
   cases hx:x == n with
   | true =>
    have e:x = n:=by simpa using hx
    subst e
    show some k = some (if (k == NameKind.free && env.scope.kind == .function && env.kindOf x == some .cell) = true then NameKind.cell else k)
    rw [if_neg hc]
   | false=>exact ih
section
variable {prog:Program} {w:World} {A:Around} {R:Result→Shared→Prop} {s:Shared}
theorem compLoop_any {elt target iter:Expr} {ifs:List Expr} {scope:Scope} {pos:Pos} {it acc:Value} {env:Env} (I:Nat→Shared→Prop)
  (turn:∀ n s,I n s→wpAny (model prog w) A (pyNext it) (fun r s₁=>match r with
   | none=>R (.ok .next) s₁
   | some v=>wpAny (model prog w) A (letOwnedTupleGo target it v) (fun _ s₁'=>wpAny (model prog w) A (assign target env v) (fun _ s₂ =>
     wpAny (model prog w) A (forIn ifs true fun c r=>if r = true then do let ok ← isTrue c env (eval c env); pure (ForInStep.yield ok) else pure (ForInStep.yield r)) (fun ok s₃ =>
      if ok = true then wpAny (model prog w) A (eval elt env) (fun x s₄ =>
       wpAny (model prog w) A (call (.builtin "list.append") [acc,x]) (fun _ s₅=>∃ m,m < n∧I m s₅) (fun _ _=>False) s₄) (fun _ _=>False) s₃
      else ∃ m,m < n∧I m s₃) (fun _ _=>False) s₂) (fun _ _=>False) s₁') (fun _ _=>False) s₁) (fun _ _=>False) s)
  (n:Nat) (h:I n s) :
  codeAny (model prog w) A (.compLoop (.ListComp elt [⟨target,iter,ifs,0⟩] scope pos) 0 it acc env) R s:=by
 refine codeAny_loop rfl I (fun n s hI=>?_) n h
 show wpAny _ A ((compTurn (.ListComp elt [⟨target,iter,ifs,0⟩] scope pos) 0 it acc env).onRaise (fun x=>do noteFrame x env; theTreesLotGoes x)) _ _ s
 refine wpAny_noted ?_
 rw [compTurn_list]
 refine wpAny_bind (wpAny_standAt (wpAny_bind (wpAny_mono (turn n s hI) (fun r s₁ h₁=>?_) fun _ _ h'=>h'.elim)))
 cases r with
 | none=>exact wpAny_pure h₁
 | some v =>
  refine wpAny_bind (wpAny_mono h₁ (fun _ s₁' h₁'=>?_) fun _ _ h'=>h'.elim)
  refine wpAny_bind (wpAny_mono h₁' (fun _ s₂ h₂=>wpAny_bind (wpAny_mono h₂ (fun ok s₃ h₃=>?_) fun _ _ h'=>h'.elim)) fun _ _ h'=>h'.elim)
  cases ok with
  | false=>exact wpAny_pure ⟨rfl,h₃⟩
  | true =>
   exact wpAny_bind (wpAny_bind (wpAny_mono h₃ (fun x s₄ h₄=>wpAny_bind (wpAny_mono h₄ (fun _ s₅ h₅=>wpAny_pure (wpAny_pure ⟨rfl,h₅⟩)) fun _ _ h'=>h'.elim)) fun _ _ h'=>h'.elim))
end
noncomputable def PF (X:Cx) (ifs:List Expr) (t:TT):Prop :=
 ∀ (pins:List (Addr × Obj)) (s:Shared) (σ:St) (H:Hp) (Q:Bool→Hp→Prop),Inv X pins σ H s→t σ H Q →
  wpAny (model X.prog X.w) X.A (forIn ifs true fun c r=>if r = true then do let ok ← isTrue c X.env (eval c X.env); pure (ForInStep.yield ok) else pure (ForInStep.yield r)) (TP X pins σ Q) X.xe s
theorem pf_nil {X:Cx}:PF X [] fun _ H Q=>Q true H:=fun _ _ _ H _ I h=>wpAny_tests_nil ⟨H,I,h⟩
theorem pf_one {X:Cx} {c:Expr} {t:TT} (h:PT X c t):PF X [c] t:=fun pins s σ H Q I q=>wpAny_tests_one (h pins s σ H Q I q)
noncomputable def Wk (σ σ':St):Prop:=σ'.length = σ.length∧∀ (j:Nat) (v:V),σ[j]? = some (some v)→σ'[j]? = some (some v)
noncomputable def tComp (n:Nat) (caps:List Nat) (wi:TI) (g:TG) (tt:TT) (te:TE):TE:=fun σ H Q=>wi σ H fun J H1=>∀ D,H1 D = none →
 ∃ W:Nat→Nat→List V→Hp→Prop,(∃ m,W 0 m [] (upd H1 D (.lst [])))∧∀ i m ys H2,W i m ys H2 →
  (J.stop i H2∧Q (.ref D) H2) ∨ (J.go i H2∧∀ x H3,J.yld i H2 x H3→g x (sComp n caps σ) H3 fun σ4 H4=>Wk (sComp n caps σ) σ4∧tt σ4 H4 fun b H5 =>
   if b = true then te σ4 H5 fun y H6=>H6 D = some (.lst ys)∧ys.length < sizeLine∧∃ m',m' < m∧W (i + 1) m' (ys ++ [y]) (upd H6 D (.lst (ys ++ [y]))) else ∃ m',m' < m∧W (i + 1) m' ys H5)
section
variable {X:Cx} {sc:Scope} {elt iter tg:Expr} {ifs:List Expr} {scope:Scope} {pos:Pos} {N':List Str} {n:Nat} {caps:List Nat} {wi:TI} {g:TG} {tt:TT} {te:TE}
noncomputable def Aside (X:Cx) (pins:List (Addr × Obj)) (H:Hp) (C:Addr):Prop :=
 H C = none∧C ≠ X.env.locals∧X.s₀.heap.objs.size ≤ C∧(∀ x c,X.env.cells.lookup x = some c→c ≠ C)∧∀ p ∈ X.pn ++ pins,p.1 ≠ C
theorem comp_core {pins:List (Addr × Obj)} {σ:St} {H2:Hp} {s2:Shared} {it:Addr} {fp:List Addr} {tn:Nat→Heap→Prop} {J:It} {cl:List (Str × Addr)} {Q:VK} {RR:Value→Addr→Result→Shared→Prop} {E:Value→Shared→Prop}
  (hc:X.calm = true) (hsc:X.env.scope = sc) (ok:CompOk sc scope X.N N' n caps)
  (hcl1:∀ y c,cl.lookup y = some c→X.env.cells.lookup y = some c) (hcl2:∀ x ∈ scope.names,x.2 = .free→∃ c,cl.lookup x.1 = some c)
  (hg:∀ s H ex,PG (cxComp X scope cl N' s H ex) tg g) (ht:∀ s H ex,PF (cxComp X scope cl N' s H ex) ifs tt) (he:∀ s H ex,PE (cxComp X scope cl N' s H ex) elt te)
  (I2:Inv X pins σ H2 s2) (T:Turn X.prog X.w X.K tg J fp it tn) (st2:tn 0 s2.heap) (f2:∀ b ∈ fp,FpOk X pins H2 b)
  (q:∀ D,H2 D = none→∃ W:Nat→Nat→List V→Hp→Prop,(∃ m,W 0 m [] (upd H2 D (.lst [])))∧∀ i m ys H2,W i m ys H2 →
   (J.stop i H2∧Q (.ref D) H2) ∨ (J.go i H2∧∀ x H3,J.yld i H2 x H3→g x (sComp n caps σ) H3 fun σ4 H4=>Wk (sComp n caps σ) σ4∧tt σ4 H4 fun b H5 =>
    if b = true then te σ4 H5 fun y H6=>H6 D = some (.lst ys)∧ys.length < sizeLine∧∃ m',m' < m∧W (i + 1) m' (ys ++ [y]) (upd H6 D (.lst (ys ++ [y]))) else ∃ m',m' < m∧W (i + 1) m' ys H5))
  (hend:∀ (D C:Addr) (H':Hp) (s':Shared) (m:Str→Option Value),Inv X pins σ H' s'→Aside X pins H' C→s'.heap.Ns C m→Q (.ref D) H'→RR (.ref D) C (.ok .next) s') :
  wpAny (model X.prog X.w) X.A (newList []) (fun acc s₃=>wpAny (model X.prog X.w) X.A (newFunctionEnv scope X.env.globals cl [] X.env.qual none .none (some X.env)) (fun cenv s₄ =>
   codeAny (model X.prog X.w) X.A (.compStart (.ListComp elt [⟨tg,iter,ifs,0⟩] scope pos) 0 (.ref it) acc { cenv with scope:=relabel scope X.env }) (RR acc cenv.locals) s₄) E s₃) E s2:=by
 refine wpAny_newObj_type (wpAny_newFunctionEnv ok.nocell (by intro y hy; simp at hy) (fun h₁ hns₁ hsb₁=>?_) ok.kind)
 dsimp only at hns₁ hsb₁ ⊢
 obtain ⟨D,hD⟩:∃ D,D = s2.heap.objs.size:=⟨_,rfl⟩
 have I3:Inv X pins σ (upd H2 s2.heap.objs.size (.lst [])) { s2 with heap:=s2.heap.push { cls:=.type "list",data:=.seq ([]:List Value).toArray } }:=I2.lnew (its:=[]) (t':=s2.toks) .nil (Nat.zero_le _)
 have hfD:H2 s2.heap.objs.size = none:=I2.fresh
 obtain ⟨W,⟨m0,w0⟩,turn⟩:=q s2.heap.objs.size hfD
 generalize hs3:({ s2 with heap:=s2.heap.push { cls:=.type "list",data:=.seq ([]:List Value).toArray } }:Shared) = s3 at *
 have hs3h:s2.heap.push { cls:=.type "list",data:=.seq ([]:List Value).toArray } = s3.heap:=by rw [← hs3]
 have hs3t:s2.toks = s3.toks:=by rw [← hs3]
 rw [hs3h] at hns₁ hsb₁ ⊢
 generalize hH3:upd H2 s2.heap.objs.size (HO.lst []) = H3 at *
 rw [← hD] at turn hH3 hfD ⊢
 have old:∀ b o,s3.heap.get? b = some o→h₁.get? b = some o:=fun b o e=>hsb₁.extBut b o (Nat.ne_of_lt (Heap.lt_size e)) (Heap.get?_push_of_some _ e)
 have old2:∀ b o,s2.heap.get? b = some o→s3.heap.get? b = some o:=fun b o e=>by rw [← hs3h]; exact Heap.get?_push_of_some _ e
 have fpl:∀ b ∈ fp,b < s3.heap.objs.size:=fun b hb=>by
  obtain ⟨o,e,_⟩:=T.obj _ _ st2 b hb
  exact Heap.lt_size (old2 b o e)
 have fpD:∀ b ∈ fp,b ≠ D:=fun b hb z=>by
  obtain ⟨o,e,_⟩:=T.obj _ _ st2 b hb
  rw [z,hD] at e
  exact absurd (Heap.lt_size e) (Nat.lt_irrefl _)
 obtain ⟨X',hX'⟩:∃ X',X' = cxComp X scope cl N' s3 H3 fp:=⟨_,rfl⟩
 have okX:X'.Ok:=by
  subst hX'
  refine ⟨I3.ok.mod,ok.kind,I3.ok.glob,I3.ok.blt,Nat.le_refl _,fun x y c h1 h2=>I3.ok.inj x y c (hcl1 x c h1) (hcl1 y c h2),fun x hx=>?_,fun x c h _=>absurd h (by simp [cxComp]),I3.ok.hd,I3.ok.frames,.inl rfl,
   fun b hb=>⟨Nat.ne_of_lt (fpl b hb),fun x c e=>(f2 b hb).2.2.2.2.1 x c (hcl1 x c e)⟩,fun b o e=>I3.bs b o e,Nat.le_trans I3.ok.bsz I3.sz,fun b o e hb=>?_,fun b hb hf=>?_,I3.stack,I3.stkFree⟩
  ·have hx':((relabel scope X.env).names.lookup x = some .cell) ∨ ((relabel scope X.env).names.lookup x = some .free):=hx
   have q2:=lookup_relabel (env:=X.env) scope.names x
   have q3:(relabel scope X.env).names.lookup x = (scope.names.lookup x).map fun k=>if (k == NameKind.free && X.env.scope.kind == .function && X.env.kindOf x == some .cell) = true then NameKind.cell else k:=q2
   cases e:scope.names.lookup x with
   | none =>
    rw [q3,e] at hx'
    rcases hx' with z | z <;> cases z
   | some k =>
    have hk:k = .free:=by
     rw [q3,e] at hx'
     have nc:=ok.nocell (x,k) (PySem.mem_of_lookup e)
     cases k <;> first
      | rfl
      | exact absurd rfl nc
      | (rcases hx' with z | z <;> simp at z)
    subst hk
    exact hcl2 (x,.free) (PySem.mem_of_lookup e) rfl
  ·rcases (f2 b hb).2.2.2.1 with z | z
   ·exact I3.ok.noex b o e z
   ·exact absurd (Nat.lt_of_lt_of_le (Heap.lt_size (I3.ok.bs b o e).1) z) (Nat.lt_irrefl _)
  ·rcases List.mem_cons.mp (I3.stkSub b hf) with z | z
   ·exact (f2 b hb).2.1 z
   ·exact (f2 b hb).2.2.1 z
 have I4:Inv X' [] (sComp n caps σ) H3 { s3 with heap:=h₁,toks:=s2.toks + ([]:List (Str × Value)).length }:=by
  refine ⟨okX,?_,?_,?_,?_,fun x c e=>?_,?_,fun x c e=>?_,fun p hp=>?_,(by subst hX'; exact I3.hok.kept old),?_⟩
  ·subst hX'; rfl
  ·exact I3.bare
  ·subst hX'; exact Un.kept old
  ·subst hX'
   refine ⟨_,hns₁,fun i x v e1 e2 e3=>?_⟩
   have hi:n ≤ i:=by
    by_cases hi:i < n
    ·unfold sComp at e2
     rw [List.getElem?_append_left (by simpa using hi),List.getElem?_replicate,if_pos hi] at e2
     cases e2
    ·omega
   obtain ⟨k,rfl⟩:∃ k,i = n + k:=⟨i - n,by omega⟩
   have hk:k < caps.length:=by
    have:=(List.getElem?_eq_some_iff.mp e1).1
    have e5:(cxComp X scope cl N' s3 H3 fp).N.length = n + caps.length:=ok.len
    omega
   obtain ⟨c1,c2⟩:=ok.cap k (List.mem_range.mpr hk)
   have e1':N'[n + k]? = some x:=e1
   unfold sComp at e2
   rw [List.getElem?_append_right (by simp),List.length_replicate,Nat.add_sub_cancel_left,List.getElem?_map] at e2
   obtain ⟨j,hj⟩:∃ j,caps[k]? = some j:=⟨caps[k],by simp [hk]⟩
   rw [hj] at e2 c1
   have hj2:X.N[j]? = some x:=by rw [← e1',c1]; rfl
   have e2':(σ[j]?).join = some v:=Option.some.inj e2
   have e2'':σ[j]? = some (some v):=by
    cases q:σ[j]? with
    | none=>rw [q] at e2'; cases e2'
    | some o=>rw [q] at e2'; rw [show o = some v from e2']
   rw [e1'] at c2
   have hfree:scope.names.lookup x = some .free:=by simpa using c2
   have hvis:=ok.free (x,.free) (PySem.mem_of_lookup hfree) rfl
   obtain ⟨m,hn,hl⟩:=I3.loc
   obtain ⟨u,ru,l⟩:=hl j x v hj2 e2'' (by
    rcases hvis with z | z
    ·exact .inr (.inl (by rw [hsc]; exact z))
    ·exact .inr (.inr (by rw [hsc]; exact z)))
   refine ⟨u,ru,.inr ⟨?_,?_⟩⟩
   ·have q3:(relabel scope X.env).names.lookup x = (scope.names.lookup x).map fun k=>if (k == NameKind.free && X.env.scope.kind == .function && X.env.kindOf x == some .cell) = true then NameKind.cell else k:=lookup_relabel scope.names x
    rw [hfree] at q3
    show (relabel scope X.env).names.lookup x = _ ∨ (relabel scope X.env).names.lookup x = _
    rw [q3]
    by_cases hcc:(NameKind.free == NameKind.free && X.env.scope.kind == .function && X.env.kindOf x == some .cell) = true
    ·left; simp only [Option.map_some,if_pos hcc]
    ·right; simp only [Option.map_some,if_neg hcc]
   ·obtain ⟨c',hc'⟩:=hcl2 (x,.free) (PySem.mem_of_lookup hfree) rfl
    rcases l with ⟨hkk,_⟩ | ⟨_,c,hc2,hcell⟩
    ·have hkk':X.env.scope.names.lookup x = some .local:=hkk
     rw [hsc] at hkk'
     rcases hvis with z | z <;> (rw [hkk'] at z; cases z)
    ·have:=hcl1 x c' hc'
     rw [hc2] at this
     cases this
     obtain ⟨o,ho,hd⟩:=hcell
     exact ⟨_,hc',o,old _ o ho,hd⟩
  ·have e':cl.lookup x = some c:=by subst hX'; exact e
   obtain ⟨v,o,ho,hd⟩:=I3.cell x c (hcl1 x c e')
   exact ⟨v,o,old _ o ho,hd⟩
  ·subst hX'; exact I3.hok.fresh (Nat.le_refl _)
  ·have e':cl.lookup x = some c:=by subst hX'; exact e
   exact I3.freeC x c (hcl1 x c e')
  ·subst hX'; exact absurd hp (by simp [cxComp])
  ·subst hX'
   show _ = N'.length
   rw [sComp_len,ok.len]
 have hX'c:X'.calm = true:=by subst hX'; exact hc
 have hfpX:∀ {H':Hp},(∀ b ∈ fp,H' b = none)→∀ b ∈ fp,FpOk X' [] H' b:=fun {H'} hn b hb=>by
  subst hX'
  refine ⟨hn b hb,Nat.ne_of_lt (fpl b hb),fun hf=>?_,.inl hb,fun x c e=>(f2 b hb).2.2.2.2.1 x c (hcl1 x c e),fun p hp=>absurd hp (by simp [cxComp])⟩
  rcases List.mem_cons.mp (I3.stkSub b hf) with z | z
  ·exact (f2 b hb).2.1 z
  ·exact (f2 b hb).2.2.1 z
 have fr3:∀ b ∈ fp,H3 b = none:=fun b hb=>by rw [← hH3,upd_ne (fpD b hb)]; exact (f2 b hb).1
 have st4:tn 0 h₁:=T.keep _ _ _ st2 fun b hb o e=>old b o (old2 b o e)
 have loop:∀ s4:Shared,s4 = { s3 with heap:=h₁,toks:=s2.toks + ([]:List (Str × Value)).length } →
   codeAny (model X.prog X.w) X.A (.compLoop (.ListComp elt [⟨tg,iter,ifs,0⟩] scope pos) 0 (.ref it) (.ref D) X'.env) (RR (.ref D) s3.heap.objs.size) s4:=by
  rintro s4 rfl
  refine compLoop_any (fun k s'=>∃ i ys H',Inv X' [] (sComp n caps σ) H' s'∧tn i s'.heap∧(∀ b ∈ fp,H' b = none)∧W i k ys H') ?_ m0 ⟨0,[],H3,I4,st4,fr3,w0⟩
  rintro k s5 ⟨i,ys,H5,I5,st5,fr5,w5⟩
  have eP:X'.prog = X.prog:=by subst hX'; rfl
  have ew:X'.w = X.w:=by subst hX'; rfl
  have eK:X'.K = X.K:=by subst hX'; rfl
  have eA:X'.A = X.A:=by subst hX'; rfl
  rcases turn i k ys H5 w5 with ⟨stop,qe⟩ | ⟨go,step⟩
  ·have T':=T.done X' eP ew eK hX'c i [] s5 (sComp n caps σ) H5 (fun _ _=>False) I5 (hfpX fr5) st5 stop
   rw [eA] at T'
   refine thn T' fun r s6 ⟨hr,I6⟩=>?_
   subst hr
   have un6:Un (frs X.stack) fp H3 H5 s3.heap s6.heap:=by have:=I6.base; subst hX'; exact this
   have hos:s6.os = s3.os:=by have:=I6.os; subst hX'; exact this
   have hok6:HOk X.prog X.w H5 s6.heap:=by have:=I6.hok; subst hX'; exact this
   have IX:Inv X pins σ H5 s6:=I3.call' hos un6 hok6 I6.bare fun b hb=>⟨(f2 b hb).2.2.2.1,(f2 b hb).2.1,(f2 b hb).2.2.2.2.1,(f2 b hb).2.2.2.2.2⟩
   obtain ⟨m6,hn6,_⟩:=I6.loc
   have hn6':s6.heap.Ns s3.heap.objs.size m6:=by subst hX'; exact hn6
   refine hend D s3.heap.objs.size H5 s6 m6 IX ⟨by have:=I6.free; subst hX'; exact this,Nat.ne_of_gt I3.lt,I3.sz,fun x c e z=>?_,fun p hp z=>?_⟩ hn6' qe
   ·obtain ⟨v,qc⟩:=I3.cell x c e
    exact absurd (Nat.lt_of_lt_of_le qc.lt (Nat.le_of_eq z.symm)) (Nat.lt_irrefl _)
   ·exact absurd (Nat.lt_of_lt_of_le (Heap.lt_size (I3.pin p hp).1) (Nat.le_of_eq z.symm)) (Nat.lt_irrefl _)
  ·have T':=T.item X' eP ew eK hX'c i [] s5 (sComp n caps σ) H5 (fun _ _=>False) I5 (hfpX fr5) st5 go
   rw [eA] at T'
   refine thn T' fun r s6 ⟨u,hr,h6⟩=>?_
   subst hr
   refine thn h6 fun _ s7 ⟨x,H7,I7,r7,y7,st7,fr7⟩=>?_
   have I7':=I7.pinned (hfpX fr7) (T.obj _ _ st7)
   have hg':=hg s3 H3 fp
   have ht':=ht s3 H3 fp
   have he':=he s3 H3 fp
   rw [← hX'] at hg' ht' he'
   have g1:=hg' _ s7 (sComp n caps σ) H7 x u _ I7' r7 (step x H7 y7)
   rw [eP,ew,eA] at g1
   have exe:X'.xe = fun _ _=>False:=by subst hX'; rfl
   rw [exe] at g1
   refine thn g1 fun _ s8 ⟨σ8,H8,I8,wk8,q8⟩=>?_
   have t1:=ht' _ s8 σ8 H8 _ I8 q8
   rw [eP,ew,eA,exe] at t1
   refine thn t1 fun b s9 ⟨H9,I9,q9⟩=>?_
   have back:∀ {σa:St} {Ha:Hp} {sa:Shared} {ysa:List V} {ma:Nat},Inv X' ([] ++ pinsAt fp s7.heap) σa Ha sa→σa.length = (sComp n caps σ).length→(∀ (j:Nat) v,(sComp n caps σ)[j]? = some (some v)→σa[j]? = some (some v))→W (i + 1) ma ysa Ha →
     ∃ i ys H',Inv X' [] (sComp n caps σ) H' sa∧tn i sa.heap∧(∀ b ∈ fp,H' b = none)∧W i ma ys H':=fun {σa Ha sa ysa ma} Ia hl hw wa=>by
    refine ⟨i + 1,ysa,Ha,(Ia.weak hl.symm hw).unpinned,T.keep _ _ _ st7 fun b hb o e=>(Ia.pin (b,o) (List.mem_append_right _ (List.mem_append_right _ (mem_pinsAt hb e)))).1,fun b hb=>?_,wa⟩
    obtain ⟨o,e,d⟩:=T.obj _ _ st7 b hb
    exact (Ia.pin (b,o) (List.mem_append_right _ (List.mem_append_right _ (mem_pinsAt hb e)))).2.1
   cases b with
   | false =>
    rw [if_neg Bool.false_ne_true]
    rw [if_neg Bool.false_ne_true] at q9
    obtain ⟨m',hm,w9⟩:=q9
    exact ⟨m',hm,back I9 wk8.1 wk8.2 w9⟩
   | true =>
    rw [if_pos rfl]
    rw [if_pos rfl] at q9
    have e1:=he' _ s9 σ8 H9 _ I9 q9
    rw [eP,ew,eA,exe] at e1
    refine thn e1 fun v s10 ⟨y,H10,I10,r10,hD10,hlen,m',hm,w10⟩=>?_
    have a1:=mt_append (X:=X') _ s10 σ8 H10 (.ref D) [y] (.ref D) [v] (fun _ H'=>W (i + 1) m' (ys ++ [y]) H') I10 rfl (.cons r10 .nil) ⟨D,ys,y,rfl,rfl,hD10,hlen,w10⟩
    rw [eP,ew,eA,exe] at a1
    refine thn a1 fun _ s11 ⟨_,H11,I11,_,w11⟩=>?_
    exact ⟨m',hm,back I11 wk8.1 wk8.2 w11⟩
 subst hX'
 exact codeAny_compStart_list (loop _ (by rw [← hs3])) (T.self X.A 0 _ _ _ st4 (loop _ (by rw [← hs3])))
theorem pe_comp (hc:X.calm = true) (hsc:X.env.scope = sc) (ok:CompOk sc scope X.N N' n caps) (hi:PI X tg iter wi)
  (hg:∀ cl s H ex,PG (cxComp X scope cl N' s H ex) tg g) (ht:∀ cl s H ex,PF (cxComp X scope cl N' s H ex) ifs tt) (he:∀ cl s H ex,PE (cxComp X scope cl N' s H ex) elt te)
  (hs:∀ x,foldedSetIterable iter X.env x = pure x:=by intro _; rfl) :
  PE X (.ListComp elt [⟨tg,iter,ifs,0⟩] scope pos) (tComp n caps wi g tt te):=by
 intro pins s σ H Q I h
 obtain ⟨cl,hclos,hcl1,hcl2⟩:=closureFor_some (env:=X.env) (scope:=scope) fun x hx hf=>I.ok.has x.1 (by
  rcases ok.free x hx hf with z | z
  ·exact .inl (by show X.env.scope.names.lookup x.1 = _; rw [hsc]; exact z)
  ·exact .inr (by show X.env.scope.names.lookup x.1 = _; rw [hsc]; exact z))
 rw [eval_ListComp]
 refine wpAny_comprehension_free (use:=none) rfl hs hclos ok.kind ok.loc (thn (hi pins s σ H _ I h) fun v s1 h1=>thn h1 fun itv s2 h2=>?_)
 obtain ⟨it,fp,tn,J,H2,rfl,I2,T,st2,f2,q2⟩:=h2
 refine comp_core (Q:=Q) (RR:=fun acc C=>compPost (model X.prog X.w) X.A X.xe none (EP X pins σ Q) acc C) hc hsc ok hcl1 hcl2 (hg cl) (ht cl) (he cl) I2 T st2 f2 q2 ?_
 intro D C H' s' m IX as hn qe
 refine ⟨m,hn,fun h' sb=>⟨.ref D,H',IX.turned (t':=s'.toks) (fun b o hb e=>(sb.2 b hb).trans e) as.1 as.2.1 (.inr as.2.2.1) as.2.2.2.1 as.2.2.2.2,rfl,qe⟩⟩
theorem ps_setComp {i:Nat} {y:Str} {py spos:Pos} (hN:X.N.Nodup) (hiN:X.N[i]? = some y) (hy:Loc X.env.scope y) (hc:X.calm = true) (hsc:X.env.scope = sc) (ok:CompOk sc scope X.N N' n caps) (hi:PI X tg iter wi)
  (hg:∀ cl s H ex,PG (cxComp X scope cl N' s H ex) tg g) (ht:∀ cl s H ex,PF (cxComp X scope cl N' s H ex) ifs tt) (he:∀ cl s H ex,PE (cxComp X scope cl N' s H ex) elt te)
  (hsw:swapsWith (.ListComp elt [⟨tg,iter,ifs,0⟩] scope pos) (some (.Name y py)) spos.line X.env = pure true:=by rfl)
  (hs:∀ x,foldedSetIterable iter X.env x = pure x:=by intro _; rfl)
  (hf:X.fn y = true ∨ X.env.scope.names.lookup y = some .local:=by first | exact .inl rfl | exact .inr rfl | assumption) :
  PS X (.Assign [.Name y py] (.ListComp elt [⟨tg,iter,ifs,0⟩] scope pos) spos) (fun D σ H=>tComp n caps wi g tt te σ H fun v H'=>D.nx (σ.set i (some v)) H'):=by
 intro pins s σ H D I h
 obtain ⟨cl,hclos,hcl1,hcl2⟩:=closureFor_some (env:=X.env) (scope:=scope) fun x hx hf=>I.ok.has x.1 (by
  rcases ok.free x hx hf with z | z
  ·exact .inl (by show X.env.scope.names.lookup x.1 = _; rw [hsc]; exact z)
  ·exact .inr (by show X.env.scope.names.lookup x.1 = _; rw [hsc]; exact z))
 rw [exec_Assign_Name_used _ _ _ _ hsw]
 refine wpAny_bind (wpAny_standAt (wpAny_bind ?_))
 show wpAny _ X.A (do let _ ← comprehension (.ListComp elt [⟨tg,iter,ifs,0⟩] scope pos) scope X.env _ (newList []) false (eval iter X.env) (some (assign (.Name y py) X.env))) _ _ s
 refine wpAny_bind (wpAny_mono (wpAny_comprehension_free (use:=some (assign (.Name y py) X.env)) (Q:=fun _ s'=>SP X pins D .next s') rfl hs hclos ok.kind ok.loc
  (thn (hi pins s σ H _ I h) fun v s1 h1=>thn h1 fun itv s2 h2=>?_)) (fun _ s' hq=>wpAny_pure (wpAny_pure hq)) fun _ _ e=>e)
 obtain ⟨it,fp,tn,J,H2,rfl,I2,T,st2,f2,q2⟩:=h2
 refine comp_core (Q:=fun v H'=>D.nx (σ.set i (some v)) H') (RR:=fun acc C=>compPost (model X.prog X.w) X.A X.xe (some (assign (.Name y py) X.env)) (fun _ s'=>SP X pins D .next s') acc C) hc hsc ok hcl1 hcl2 (hg cl) (ht cl) (he cl) I2 T st2 f2 q2 ?_
 intro Da C H' s' m IX as hn qe
 show wpAny _ X.A (assign (.Name y py) X.env (.ref Da)) _ _ _
 refine wpAny_assign_Name (store_ok2 IX hN hiN hy (v:=.ref Da) rfl (fun s'' I'' ⟨a,sb,ha⟩=>?_) hf)
 have hCa:C ≠ a:=by
  rcases ha with z | z
  ·rw [z]; exact as.2.1
  ·exact Ne.symm (as.2.2.2.1 y a z)
 refine ⟨m,hn.sameBut sb hCa,fun h' sb'=>⟨_,H',I''.turned (t':=s''.toks) (fun b o hb e=>(sb'.2 b hb).trans e) as.1 as.2.1 (.inr as.2.2.1) as.2.2.2.1 as.2.2.2.2,qe⟩⟩
end
end L2
namespace DL
open PySem PySem.Spec PyProof.Rows
inductive D where
 | non | bl (b:Bool) | int (i:Int) | str (x:Str) | tup (ds:List D) | lst (ds:List D) | dct (ks:Sum (List (Sum Int Str)) (List (List (Sum Int Str)))) (ds:List D)
 deriving Inhabited
@[simp] noncomputable def unl:D→D
 | .tup [_,d]=>d
 | d=>d
@[simp] noncomputable def isL:D→Bool
 | .tup _=>true
 | _=>false
inductive Sl where
 | un | sh (d:D) | ow (d:D)
 | ex (c:Str) (n:Option Int)
noncomputable abbrev Ds:=List Sl
inductive Res where
 | nx (δ:Ds) | rt (d:D) | bk (δ:Ds) | ct (δ:Ds) | rf (d:D)
noncomputable abbrev GE:=Ds→Option D
noncomputable abbrev GB:=Ds→Option Bool
noncomputable abbrev GA:=Ds→Option (List D)
noncomputable abbrev GS:=Ds→Option Res
@[simp] noncomputable def asB:D→Option Bool
 | .bl b=>some b
 | _=>none
@[simp] noncomputable def asI:D→Option Int
 | .int i=>some i
 | _=>none
@[simp] noncomputable def gv (i:Nat):GE:=fun δ=>match δ[i]? with
 | some (.sh d)=>some d
 | _=>none
@[simp] noncomputable def gc (d:D):GE:=fun _=>some d
@[simp] noncomputable def o2 (ga gb:GE) (f:D→D→Option D):GE:=fun δ=>(ga δ).bind fun x=>(gb δ).bind fun y=>f x y
@[simp] noncomputable def ob (g:GE):GB:=fun δ=>(g δ).bind asB
@[simp] noncomputable def tNotG (g:GB):GB:=fun δ=>(g δ).map (!·)
@[simp] noncomputable def tAndG (gt gu:GB):GB:=fun δ=>(gt δ).bind fun t=>if t = true then gu δ else some false
@[simp] noncomputable def tOrG (gt gu:GB):GB:=fun δ=>(gt δ).bind fun t=>if t = true then some true else gu δ
@[simp] noncomputable def ifG (gt:GB) (ga gb:GE):GE:=fun δ=>(gt δ).bind fun t=>if t = true then ga δ else gb δ
@[simp] noncomputable def nilA:GA:=fun _=>some []
@[simp] noncomputable def consA (g:GE) (gA:GA):GA:=fun δ=>(g δ).bind fun d=>(gA δ).map fun ds=>d :: ds
@[simp] noncomputable def tupG (gA:GA):GE:=fun δ=>(gA δ).bind fun ds=>if ds.length ≤ sizeLine then some (.tup ds) else none
@[simp] noncomputable def lstG (gA:GA):GE:=fun δ=>(gA δ).bind fun ds=>if ds.length ≤ sizeLine then some (.lst ds) else none
@[simp] noncomputable def oA (gA:GA) (f:List D→Option D):GE:=fun δ=>(gA δ).bind f
@[simp] noncomputable def isiG (f:D→Bool) (g:GE):GE:=fun δ=>(g δ).map fun d=>.bl (f d)
@[simp] noncomputable def negD (d:D):Option D:=match d with
 | .int i=>some (.int (-i))
 | _=>none
@[simp] noncomputable def unG (f:D→Option D) (g:GE):GE:=fun δ=>(g δ).bind f
@[simp] noncomputable def seqD (G1 G2:GS):GS:=fun δ=>match G1 δ with
 | some (.nx δ')=>G2 δ'
 | r=>r
@[simp] noncomputable def nilD:GS:=fun δ=>some (.nx δ)
@[simp] noncomputable def retD (g:GE):GS:=fun δ=>(g δ).map .rt
@[simp] noncomputable def gN (i:Nat):D→Ds→Option Ds:=fun d δ=>some (δ.set i (.sh d))
@[simp] noncomputable def setD (f:D→Ds→Option Ds) (g:GE):GS:=fun δ=>(g δ).bind fun d=>(f d δ).map .nx
@[simp] noncomputable def ifD (gt:GB) (Ga Gb:GS):GS:=fun δ=>(gt δ).bind fun t=>if t = true then Ga δ else Gb δ
noncomputable def forD (f:D→Ds→Option Ds) (G:GS):List D→Ds→Option Res
 | [],δ=>some (.nx δ)
 | d :: ds,δ=>match (f d δ).bind G with
  | some (.nx δ')=>forD f G ds δ'
  | some (.ct δ')=>forD f G ds δ'
  | some (.bk δ')=>some (.nx δ')
  | r=>r
@[simp] noncomputable def forG (gi:GA) (f:D→Ds→Option Ds) (G:GS):GS:=fun δ=>(gi δ).bind fun items=>forD f G items δ
@[simp] noncomputable def asLst:D→Option (List D)
 | .lst ds=>some ds
 | _=>none
@[simp] noncomputable def asTup:D→Option (List D)
 | .tup ds=>some ds
 | _=>none
@[simp] noncomputable def lstI (g:GE):GA:=fun δ=>(g δ).bind asLst
@[simp] noncomputable def tupI (g:GE):GA:=fun δ=>(g δ).bind asTup
noncomputable def rngD (lo hi:Int):List D:=(List.range (hi - lo).toNat).map fun k=>.int (lo + (k:Nat))
@[simp] noncomputable def rng1D (ds:List D):Option (List D):=match ds with
 | [.int j]=>if -(2 ^ 62) ≤ j∧j < 2 ^ 62 then some (rngD 0 j) else none
 | _=>none
@[simp] noncomputable def rng2D (ds:List D):Option (List D):=match ds with
 | [.int i,.int j]=>if (-(2 ^ 62) ≤ i∧i < 2 ^ 62)∧-(2 ^ 62) ≤ j∧j < 2 ^ 62 then some (rngD i j) else none
 | _=>none
@[simp] noncomputable def rng1I (gA:GA):GA:=fun δ=>(gA δ).bind rng1D
@[simp] noncomputable def rng2I (gA:GA):GA:=fun δ=>(gA δ).bind rng2D
@[simp] noncomputable def noT:GB:=fun _=>some true
@[simp] noncomputable def capSl:Option Sl→Sl
 | some (.sh d)=>.sh d
 | _=>.un
@[simp] noncomputable def dComp (n:Nat) (caps:List Nat) (δ:Ds):Ds:=List.replicate n .un ++ caps.map fun j=>capSl δ[j]?
noncomputable def compD (f:D→Ds→Option Ds) (gt:GB) (ge:GE) (δ:Ds):List D→Option (List D)
 | []=>some []
 | d :: ds=>match f d δ with
  | none=>none
  | some δ'=>match gt δ' with
   | none=>none
   | some false=>compD f gt ge δ ds
   | some true=>match ge δ' with
    | none=>none
    | some y=>(compD f gt ge δ ds).map fun r=>y :: r
@[simp] noncomputable def compG (n:Nat) (caps:List Nat) (gi:GA) (f:D→Ds→Option Ds) (gt:GB) (ge:GE):GE :=
 fun δ=>(gi δ).bind fun items=>if items.length ≤ sizeLine then (compD f gt ge (dComp n caps δ) items).map .lst else none
@[simp] noncomputable def dStart (N:List Str) (ds:List D):Ds:=ds.map .sh ++ List.replicate (N.length - ds.length) .un
@[simp] noncomputable def isBool:D→Bool
 | .bl _=>true | _=>false
@[simp] noncomputable def isTup:D→Bool
 | .tup _=>true | _=>false
@[simp] noncomputable def ii (f:Int→Int→Option D):D→D→Option D
 | .int i,.int j=>f i j
 | _,_=>none
@[simp] noncomputable def subD:D→D→Option D:=ii fun i j=>some (.int (i - j))
@[simp] noncomputable def fdivD:D→D→Option D:=ii fun i j=>if 0 < j∧j < 1073741824 then some (.int (i / j)) else none
@[simp] noncomputable def modD:D→D→Option D:=ii fun i j=>if 0 < j then some (.int (i % j)) else none
@[simp] noncomputable def powD:D→D→Option D:=ii fun i j=>if 0 ≤ j∧j ≤ 1000000∧i.natAbs < 2 ^ 64 then some (.int (i ^ j.toNat)) else none
@[simp] noncomputable def ltD:D→D→Option D:=ii fun i j=>some (.bl (decide (i < j)))
@[simp] noncomputable def gtD:D→D→Option D:=ii fun i j=>some (.bl (decide (j < i)))
@[simp] noncomputable def eqS:D→D→Option Bool
 | .non,.non=>some true
 | .non,.int _=>some false | .int _,.non=>some false | .non,.bl _=>some false | .bl _,.non=>some false | .non,.str _=>some false | .str _,.non=>some false
 | .int i,.int j=>some (decide (i = j))
 | .bl i,.bl j=>some (decide (i = j))
 | .str i,.str j=>some (decide (i = j))
 | .int _,.str _=>some false | .str _,.int _=>some false | .bl _,.str _=>some false | .str _,.bl _=>some false
 | _,_=>none
@[simp] noncomputable def eqD (x y:D):Option D:=(eqS x y).map .bl
@[simp] noncomputable def neD (x y:D):Option D:=(eqS x y).map fun b=>.bl (!b)
@[simp] noncomputable def isNon:D→Bool
 | .non=>true | _=>false
@[simp] noncomputable def isND (x y:D):Option D:=match y with
 | .non=>some (.bl (isNon x))
 | _=>none
noncomputable def ixN (n:Nat) (i:Int):Option Nat:=if 0 ≤ i then (if i < n then some i.toNat else none) else if -(n:Int) ≤ i then some (i + n).toNat else none
noncomputable def atI {α:Type} (xs:List α) (i:Int):Option α:=(ixN xs.length i).bind fun j=>xs[j]?
@[simp] noncomputable def ixD:D→D→Option D
 | .lst xs,.int i=>atI xs i
 | .tup xs,.int i=>atI xs i
 | .str z,.int i=>if z.length ≤ sizeLine then (atI z.cps.toList i).map fun c=>.str ⟨#[c]⟩ else none
 | _,_=>none
noncomputable def sIx (n d:Nat):Option Int→Nat
 | none=>d
 | some v=>if v < 0 then (v + (n:Int)).toNat else min v.toNat n
noncomputable def cutD (xs:List D) (lo hi:Option Int):List D:=(xs.drop (sIx xs.length 0 lo)).take (sIx xs.length xs.length hi - sIx xs.length 0 lo)
noncomputable abbrev GO:=Ds→Option (Option Int)
@[simp] noncomputable def noneO:GO:=fun _=>some none
@[simp] noncomputable def someO (g:GE):GO:=fun δ=>(g δ).bind fun d=>(asI d).map some
@[simp] noncomputable def lenD:List D→Option D
 | [.str z]=>if z.length ≤ sizeLine then some (.int z.length) else none
 | [.lst xs]=>some (.int xs.length)
 | [.tup xs]=>some (.int xs.length)
 | _=>none
noncomputable def strL:List D→Option (List Str)
 | []=>some []
 | .str b :: ds=>(strL ds).map fun r=>b :: r
 | _=>none
@[simp] noncomputable def joinD (d:D) (ds:List D):Option D:=match d,ds with
 | .str sep,[.lst xs]=>(strL xs).bind fun ys=>if (ys.map (·.length)).sum + ys.length * sep.length ≤ 16777216 then some (.str (Txt.join sep ys)) else none
 | _,_=>none
@[simp] noncomputable def joinG (g:GE) (gA:GA):GE:=fun δ=>(g δ).bind fun d=>(gA δ).bind fun ds=>joinD d ds
@[simp] noncomputable def tupOfD:List D→Option D
 | [.lst ds]=>some (.tup ds)
 | [.tup ds]=>some (.tup ds)
 | _=>none
theorem compD_filter {f:D→Ds→Option Ds} {gt:GB} {ge:GE} {δ:Ds} (p:D→Bool) (h:D→D):∀ {items:List D},(∀ d ∈ items,∃ δ',f d δ = some δ'∧gt δ' = some (p d)∧(p d = true→ge δ' = some (h d))) →
  compD f gt ge δ items = some ((items.filter p).map h)
 | [],_=>rfl
 | d :: ds,H=>by
  obtain ⟨δ',e1,e2,e3⟩:=H d List.mem_cons_self
  have ih:=compD_filter p h fun d hd=>H d (List.mem_cons_of_mem _ hd)
  unfold compD
  rw [e1]
  dsimp only
  rw [e2]
  cases hp:p d with
  | false =>
   dsimp only
   rw [List.filter_cons_of_neg (by simp [hp])]
   exact ih
  | true =>
   dsimp only
   rw [e3 hp,ih,List.filter_cons_of_pos hp]
   rfl
theorem compD_map {f:D→Ds→Option Ds} {gt:GB} {ge:GE} {δ:Ds} (h:D→D) {items:List D} (H:∀ d ∈ items,∃ δ',f d δ = some δ'∧gt δ' = some true∧ge δ' = some (h d)):compD f gt ge δ items = some (items.map h):=by
 have:=compD_filter (f:=f) (gt:=gt) (ge:=ge) (δ:=δ) (fun _=>true) h (items:=items) fun d hd=>by
  obtain ⟨δ',a,b,c⟩:=H d hd
  exact ⟨δ',a,b,fun _=>c⟩
 rw [List.filter_eq_self.mpr (by simp)] at this
 exact this
theorem strs_map {α:Type} (h:α→Str):∀ l:List α,strL (l.map fun a=>.str (h a)) = some (l.map h)
 | []=>rfl
 | a :: l=>by
  show (strL (l.map fun a=>.str (h a))).map (fun r=>h a :: r) = _
  rw [strs_map h l]
  rfl
theorem forD_inv {f:D→Ds→Option Ds} {G:GS} (P:Nat→Ds→Prop):∀ (items:List D) (i:Nat) (δ:Ds),(∀ j d δ,items[j]? = some d→P (i + j) δ→∃ δ1 δ2,f d δ = some δ1∧G δ1 = some (.nx δ2)∧P (i + j + 1) δ2)→P i δ →
  ∃ δ',forD f G items δ = some (.nx δ')∧P (i + items.length) δ'
 | [],i,δ,_,h=>⟨δ,rfl,h⟩
 | d :: ds,i,δ,H,h=>by
  obtain ⟨δ1,δ2,e1,e2,h2⟩:=H 0 d δ rfl h
  obtain ⟨δ',e3,h3⟩:=forD_inv P ds (i + 1) δ2 (fun j d δ hj hp=>by
   have q:i + (j + 1) = i + 1 + j:=by omega
   obtain ⟨a,b,c,d',e⟩:=H (j + 1) d δ (by simpa using hj) (by rw [q]; exact hp)
   exact ⟨a,b,c,d',by rw [q] at e; exact e⟩) h2
  have q:i + (d :: ds).length = i + 1 + ds.length:=by rw [List.length_cons]; omega
  refine ⟨δ',?_,by rw [q]; exact h3⟩
  unfold forD
  rw [e1]
  simp only [Option.bind_some,e2]
  exact e3
theorem seq_nx {G1 G2:GS} {δ δ':Ds} (h:G1 δ = some (.nx δ')):seqD G1 G2 δ = G2 δ':=by unfold seqD; rw [h]
theorem seq_rt {G1 G2:GS} {δ:Ds} {d:D} (h:G1 δ = some (.rt d)):seqD G1 G2 δ = some (.rt d):=by unfold seqD; rw [h]
theorem ret_of {g:GE} {δ:Ds} {d:D} (h:g δ = some d):retD g δ = some (.rt d):=by unfold retD; rw [h]; rfl
theorem set_of {g:GE} {i:Nat} {δ:Ds} {d:D} (h:g δ = some d):setD (gN i) g δ = some (.nx (δ.set i (.sh d))):=by unfold setD; rw [h]; rfl
theorem if_t {g:GB} {Ga Gb:GS} {δ:Ds} (h:g δ = some true):ifD g Ga Gb δ = Ga δ:=by unfold ifD; rw [h]; rfl
theorem if_f {g:GB} {Ga Gb:GS} {δ:Ds} (h:g δ = some false):ifD g Ga Gb δ = Gb δ:=by unfold ifD; rw [h]; rfl
theorem comp_of {n:Nat} {caps:List Nat} {gi:GA} {f:D→Ds→Option Ds} {gt:GB} {ge:GE} {δ:Ds} {items out:List D} (h1:gi δ = some items) (h2:items.length ≤ sizeLine) (h3:compD f gt ge (dComp n caps δ) items = some out):compG n caps gi f gt ge δ = some (.lst out):=by
 unfold compG
 rw [h1]
 show (if items.length ≤ sizeLine then (compD f gt ge (dComp n caps δ) items).map D.lst else none) = _
 rw [if_pos h2,h3]
 rfl
theorem for_of {gi:GA} {f:D→Ds→Option Ds} {G:GS} {δ:Ds} {items:List D} {r:Option Res} (h1:gi δ = some items) (h2:forD f G items δ = r):forG gi f G δ = r:=by
 unfold forG
 rw [h1]
 exact h2
theorem cons_of {g:GE} {gA:GA} {δ:Ds} {d:D} {ds:List D} (h1:g δ = some d) (h2:gA δ = some ds):consA g gA δ = some (d :: ds):=by unfold consA; rw [h1,h2]; rfl
theorem oA_of {gA:GA} {δ:Ds} {ds:List D} {f:List D→Option D} (h:gA δ = some ds):oA gA f δ = f ds:=by unfold oA; rw [h]; rfl
theorem o2_of {ga gb:GE} {δ:Ds} {x y:D} {f:D→D→Option D} (h1:ga δ = some x) (h2:gb δ = some y):o2 ga gb f δ = f x y:=by unfold o2; rw [h1,h2]; rfl
theorem join_of {g:GE} {gA:GA} {δ:Ds} {x:D} {ds:List D} (h1:g δ = some x) (h2:gA δ = some ds):joinG g gA δ = joinD x ds:=by unfold joinG; rw [h1,h2]; rfl
theorem atI_in {α:Type} {xs:List α} {i:Int} (h0:0 ≤ i) (h1:i < xs.length) (d:α):atI xs i = some (xs.getD i.toNat d):=by
 unfold atI ixN
 rw [if_pos h0,if_pos h1]
 show xs[i.toNat]? = _
 have:i.toNat < xs.length:=by omega
 simp [List.getD_eq_getElem?_getD,this]
@[simp] noncomputable def frz1:Sl→Sl
 | .ow d=>.sh (unl d)
 | s=>s
@[simp] noncomputable def frz (δ:Ds):Ds:=δ.map frz1
@[simp] noncomputable def flat:D→Bool
 | .non=>true | .bl _=>true | .int _=>true | .str _=>true | _=>false
@[simp] noncomputable def borE (g:GE):GE:=fun δ=>(g (frz δ)).bind fun d=>if flat d = true then some d else none
@[simp] noncomputable def borB (g:GB):GB:=fun δ=>g (frz δ)
@[simp] noncomputable def borA (g:GE):GE:=fun δ=>g (frz δ)
@[simp] noncomputable def frzAt (i:Nat) (δ:Ds):Ds:=match δ[i]? with
 | some s=>δ.set i (frz1 s)
 | none=>δ
@[simp] noncomputable def frzS (i:Nat) (G:GS):GS:=fun δ=>G (frzAt i δ)
@[simp] noncomputable def ownD (i:Nat) (g:GE):GS:=fun δ=>(g δ).map fun d=>.nx (δ.set i (.ow d))
noncomputable abbrev GX:=Ds→Option (D × Ds)
@[simp] noncomputable def pureX (g:GE):GX:=fun δ=>(g δ).map fun d=>(d,δ)
@[simp] noncomputable def asgX (gx:GX) (ft:D→Ds→Option Ds):GS:=fun δ=>(gx δ).bind fun r=>(ft r.1 r.2).map .nx
@[simp] noncomputable def exprX (gx:GX):GS:=fun δ=>(gx δ).map fun r=>.nx r.2
@[simp] noncomputable def owL (i:Nat) (δ:Ds):Option (List D):=match δ[i]? with
 | some (.ow (.lst ds))=>some ds
 | _=>none
@[simp] noncomputable def appX (i:Nat) (g:GE):GX:=fun δ=>(owL i δ).bind fun ds=>(g δ).bind fun d=>if ds.length < sizeLine then some (.non,δ.set i (.ow (.lst (ds ++ [d])))) else none
@[simp] noncomputable def extX (i:Nat) (g:GE):GX:=fun δ=>(owL i δ).bind fun ds=>(g δ).bind fun d=>match d with
 | .lst es=>if ds.length + es.length ≤ sizeLine then some (.non,δ.set i (.ow (.lst (ds ++ es)))) else none
 | _=>none
@[simp] noncomputable def popX (i:Nat):GX:=fun δ=>(owL i δ).bind fun ds=>(ds.getLast?).map fun d=>(d,δ.set i (.ow (.lst ds.dropLast)))
@[simp] noncomputable def setAt (i:Nat) (g:GE):D→Ds→Option Ds:=fun v δ=>(owL i δ).bind fun ds=>(g δ).bind fun d=>match d with
 | .int k=>(ixN ds.length k).map fun j=>δ.set i (.ow (.lst (ds.set j v)))
 | _=>none
noncomputable abbrev KeyD:=Sum Int Str
@[simp] noncomputable def asKey:D→Option KeyD
 | .int i=>some (.inl i)
 | .str x=>some (.inr x)
 | _=>none
noncomputable def asKeys:List D→Option (List KeyD)
 | []=>some []
 | d :: ds=>(asKey d).bind fun k=>(asKeys ds).map (k :: ·)
@[simp] noncomputable def asKeyT:D→Option (List KeyD)
 | .tup ds=>asKeys ds
 | _=>none
noncomputable def getK {κ:Type} [DecidableEq κ]:List κ→List D→κ→Option D
 | k :: ks,d :: ds,q=>if k = q then some d else getK ks ds q
 | _,_,_=>none
noncomputable def hasK {κ:Type} [DecidableEq κ] (ks:List κ) (k:κ):Bool:=ks.any fun q=>decide (q = k)
noncomputable def putKs {κ:Type} [DecidableEq κ] (ks:List κ) (k:κ):List κ:=if hasK ks k = true then ks else ks ++ [k]
noncomputable def putDs {κ:Type} [DecidableEq κ] (ks:List κ) (ds:List D) (q:κ) (v:D):List D:=if hasK ks q = true then (ks.zip ds).map (fun p=>if p.1 = q then v else p.2) else ds ++ [v]
@[simp] noncomputable def owDc (i:Nat) (δ:Ds):Option (List KeyD × List D):=match δ[i]? with
 | some (.ow (.dct (.inl ks) ds))=>some (ks,ds)
 | _=>none
@[simp] noncomputable def putAt (i:Nat) (g:GE):D→Ds→Option Ds:=fun v δ=>(owDc i δ).bind fun r=>(g δ).bind fun d=>(asKey d).bind fun k =>
 if r.1.length < sizeLine then some (δ.set i (.ow (.dct (.inl (putKs r.1 k)) (putDs r.1 r.2 k v)))) else none
@[simp] noncomputable def dgetD:D→D→Option D
 | .dct ks ds,d=>match ks with
  | .inl ks=>(asKey d).bind fun k=>getK ks ds k
  | .inr ks=>(asKeyT d).bind fun k=>getK ks ds k
 | _,_=>none
@[simp] noncomputable def inDctD (neg:Bool):D→D→Option D
 | d,.dct ks ds=>match ks with
  | .inl ks=>(asKey d).map fun k=>.bl (xor neg (hasK ks k))
  | .inr ks=>(asKeyT d).map fun k=>.bl (xor neg (hasK ks k))
 | _,_=>none
noncomputable def whileD (gt:GB) (G:GS):Nat→Ds→Option Res
 | 0,_=>none
 | n + 1,δ=>match gt δ with
  | some false=>some (.nx δ)
  | some true=>match G δ with
   | some (.nx δ')=>whileD gt G n δ'
   | some (.ct δ')=>whileD gt G n δ'
   | some (.bk δ')=>some (.nx δ')
   | r=>r
  | none=>none
@[simp] noncomputable def tup2 (i j:Nat):D→Ds→Option Ds
 | .tup [a,b],δ=>some ((δ.set i (.sh a)).set j (.sh b))
 | _,_=>none
mutual
noncomputable def deq:D→D→Bool
 | .non,.non=>true
 | .bl a,.bl b=>a == b
 | .bl a,.int b=>(if a then 1 else 0) == b
 | .int a,.bl b=>a == (if b then 1 else 0)
 | .int a,.int b=>a == b
 | .str a,.str b=>a == b
 | .tup xs,.tup ys=>deqs xs ys
 | .lst xs,.lst ys=>deqs xs ys
 | _,_=>false
noncomputable def deqs:List D→List D→Bool
 | [],[]=>true
 | x :: xs,y :: ys=>deq x y && deqs xs ys
 | _,_=>false
end
mutual
noncomputable def lean:D→Nat→Bool
 | .dct _ _,_=>false
 | .tup xs,n + 1=>leans xs n
 | .lst xs,n + 1=>leans xs n
 | .tup _,0=>false
 | .lst _,0=>false
 | _,_=>true
noncomputable def leans:List D→Nat→Bool
 | [],_=>true
 | x :: xs,n=>lean x n && leans xs n
end
@[simp] noncomputable def eqDD (x y:D):Option D:=if lean x 50 = true∧lean y 50 = true then some (.bl (deq x y)) else none
@[simp] noncomputable def neDD (x y:D):Option D:=if lean x 50 = true∧lean y 50 = true then some (.bl (!deq x y)) else none
@[simp] noncomputable def eqF:D→D→Bool
 | .non,.non=>true
 | .bl a,.bl b=>a == b
 | .bl a,.int b=>(if a then 1 else 0) == b
 | .int a,.bl b=>a == (if b then 1 else 0)
 | .int a,.int b=>a == b
 | .str a,.str b=>a == b
 | _,_=>false
@[simp] noncomputable def inSeqD (neg:Bool):D→D→Option D
 | x,.lst ys=>if flat x = true∧ys.all flat = true then some (.bl (xor neg (ys.any fun y=>eqF y x))) else none
 | x,.tup ys=>if flat x = true∧ys.all flat = true then some (.bl (xor neg (ys.any fun y=>eqF y x))) else none
 | _,_=>none
@[simp] noncomputable def intOfD:List D→Option D
 | [.int i]=>some (.int i)
 | [.bl k]=>some (.int (if k then 1 else 0))
 | _=>none
@[simp] noncomputable def lstOfD:List D→Option D
 | [.lst ds]=>some (.lst ds)
 | [.tup ds]=>some (.lst ds)
 | _=>none
noncomputable def mkF (n:Nat) (N:List Str) (G:GS) (ds:List D):Option D:=if ds.length = n then (match G (dStart N ds) with
 | some (.rt d)=>some d
 | some (.rf d)=>if isL d = true then none else some d
 | some (.nx _)=>some .non
 | _=>none) else none
theorem mkF_ok {n:Nat} {N:List Str} {G:GS} {ds:List D} {d:D} (h:mkF n N G ds = some d):ds.length = n∧(G (dStart N ds) = some (.rt d) ∨ (d = .non∧∃ δ,G (dStart N ds) = some (.nx δ)) ∨ G (dStart N ds) = some (.rf d)∧isL d = false):=by
 unfold mkF at h
 split at h
 ·rename_i hl
  refine ⟨hl,?_⟩
  split at h
  ·rename_i e; cases h; exact .inl e
  ·rename_i e
   split at h
   ·cases h
   ·rename_i hn
    cases h
    exact .inr (.inr ⟨e,Bool.eq_false_iff.mpr hn⟩)
  ·rename_i e; cases h; exact .inr (.inl ⟨rfl,_,e⟩)
  ·cases h
 ·cases h
noncomputable def mkN (n:Nat) (N:List Str) (G:GS) (ds:List D):Option D:=if ds.length = n then (match G (dStart N ds) with
 | some (.rf d)=>if isL d = true then none else some d
 | _=>none) else none
theorem mkN_ok {n:Nat} {N:List Str} {G:GS} {ds:List D} {d:D} (h:mkN n N G ds = some d):ds.length = n∧G (dStart N ds) = some (.rf d)∧isL d = false:=by
 unfold mkN at h
 split at h
 ·rename_i hl
  refine ⟨hl,?_⟩
  split at h
  ·rename_i e
   split at h
   ·cases h
   ·rename_i hn
    cases h
    exact ⟨e,Bool.eq_false_iff.mpr hn⟩
  ·cases h
 ·cases h
theorem mkN_rf {n:Nat} {N:List Str} {G:GS} {ds:List D} {d:D} (hl:ds.length = n) (h:G (dStart N ds) = some (.rf d)) (hn:isL d = false:=by rfl):mkN n N G ds = some d:=by
 unfold mkN
 rw [if_pos hl,h]
 simp only []
 rw [hn]
 rfl
@[simp] noncomputable def retF (g:GE):GS:=fun δ=>(g δ).map .rf
@[simp] noncomputable def retO (i:Nat):GS:=fun δ=>match δ[i]? with
 | some (.ow d)=>some (.rf d)
 | _=>none
theorem seq_rf {G1 G2:GS} {δ:Ds} {d:D} (h:G1 δ = some (.rf d)):seqD G1 G2 δ = some (.rf d):=by unfold seqD; rw [h]
theorem retF_of {g:GE} {δ:Ds} {d:D} (h:g δ = some d):retF g δ = some (.rf d):=by unfold retF; rw [h]; rfl
theorem mkF_rt {n:Nat} {N:List Str} {G:GS} {ds:List D} {d:D} (hl:ds.length = n) (h:G (dStart N ds) = some (.rt d)):mkF n N G ds = some d:=by
 unfold mkF
 rw [if_pos hl,h]
theorem seq_to {G1 G2:GS} {δ δ':Ds} {r:Option Res} (h:G1 δ = some (.nx δ')) (k:G2 δ' = r):seqD G1 G2 δ = r:=(seq_nx h).trans k
@[simp] noncomputable def addA:D→D→Option D
 | .int i,.int j=>some (.int (i + j))
 | .str x,.str y=>if x.length + y.length ≤ sizeLine then some (.str (x ++ y)) else none
 | .lst xs,.lst ys=>if xs.length + ys.length ≤ sizeLine then some (.lst (xs ++ ys)) else none
 | .tup xs,.tup ys=>if xs.length + ys.length ≤ sizeLine then some (.tup (xs ++ ys)) else none
 | _,_=>none
noncomputable def repD (x:Str) (n:Int):Str:=⟨(List.replicate n.toNat x.cps).foldl (· ++ ·) #[]⟩
@[simp] noncomputable def mulA:D→D→Option D
 | .int i,.int j=>if (-(2 ^ 64) < i∧i < 2 ^ 64) ∨ (-(2 ^ 64) < j∧j < 2 ^ 64) then some (.int (i * j)) else none
 | .str x,.int n=>if -(2 ^ 62) ≤ n∧n < 2 ^ 62∧x.length * n.toNat ≤ sizeLine then some (.str (repD x n)) else none
 | .tup xs,.int k=>if xs ≠ []∧2 ≤ k∧k < 2 ^ 62∧xs.length * k.toNat ≤ sizeLine then some (.tup (List.replicate k.toNat xs).flatten) else none
 | _,_=>none
@[simp] noncomputable def slA (d:D) (lo hi:Option Int):Option D:=match d with
 | .str z=>if z.length ≤ sizeLine then some (.str (Txt.slice z lo hi)) else none
 | .lst xs=>some (.lst (cutD xs lo hi))
 | .tup xs=>some (.tup (cutD xs lo hi))
 | _=>none
@[simp] noncomputable def slAG (g:GE) (gl gh:GO):GE:=fun δ=>(g δ).bind fun d=>(gl δ).bind fun l=>(gh δ).bind fun h=>slA d l h
end DL
namespace DL
open PySem PySem.Spec PyProof.Rows
@[simp] noncomputable def catD:D→D→Option D
 | .lst xs,.lst ys=>if xs.length + ys.length ≤ sizeLine then some (.lst (xs ++ ys)) else none
 | _,_=>none
theorem tup_of {gA:GA} {δ:Ds} {ds:List D} (h:gA δ = some ds) (hl:ds.length ≤ sizeLine):tupG gA δ = some (.tup ds):=by
 unfold tupG
 rw [h,Option.bind_some,if_pos hl]
theorem lst_of {gA:GA} {δ:Ds} {ds:List D} (h:gA δ = some ds) (hl:ds.length ≤ sizeLine):lstG gA δ = some (.lst ds):=by
 unfold lstG
 rw [h,Option.bind_some,if_pos hl]
theorem rng_mem {n:Int} {d:D} (h:d ∈ rngD 0 n):∃ k:Nat,(k:Int) < n∧d = .int (k:Int):=by
 obtain ⟨k,hk,rfl⟩:=List.mem_map.mp h
 have:=List.mem_range.mp hk
 exact ⟨k,by omega,by rw [Int.zero_add]⟩
theorem rng_map {α:Type} (f:D→α) (n:Int):(rngD 0 n).map f = (List.range n.toNat).map fun (k:Nat)=>f (.int (k:Int)):=by
 unfold rngD
 rw [List.map_map]
 have:n - 0 = n:=by omega
 rw [this]
 refine List.map_congr_left fun k _=>?_
 show f (.int (0 + (k:Int))) = _
 rw [Int.zero_add]
theorem rng_len (n:Int):(rngD 0 n).length = n.toNat:=by unfold rngD; simp
theorem rng_get {n:Int} {j:Nat} {d:D} (h:(rngD 0 n)[j]? = some d):j < n.toNat∧d = .int (j:Int):=by
 have hj:j < n.toNat:=by
  have:=(List.getElem?_eq_some_iff.mp h).1
  rwa [rng_len] at this
 refine ⟨hj,?_⟩
 unfold rngD at h
 rw [List.getElem?_map,List.getElem?_range (by simpa using hj)] at h
 have:=Option.some.inj h
 rw [← this]
 show D.int (0 + (j:Int)) = _
 rw [Int.zero_add]
theorem comp_rng {gt:GB} {ge:GE} {δ:Ds} {n:Int} (h:Nat→D) (H:∀ k:Nat,(k:Int) < n→∃ δ',gN 0 (.int (k:Int)) δ = some δ'∧gt δ' = some true∧ge δ' = some (h k)) :
  compD (gN 0) gt ge δ (rngD 0 n) = some ((List.range n.toNat).map h):=by
 rw [compD_map (fun d=>match d with | .int j=>h j.toNat | _=>.non) (fun d hd=>by
  obtain ⟨k,hk,rfl⟩:=rng_mem hd
  exact H k hk),rng_map]
 rfl
end DL
namespace DL
open PySem PySem.Spec PyProof.Rows L2
noncomputable abbrev BS:=Addr→Prop
noncomputable abbrev St:=L2.St
noncomputable abbrev noH:Hp:=fun _=>none
noncomputable def SqT' (K:W.Frag) (H:Hp) (B:BS) (a:Addr) (xs:List V):Prop:=¬ B a∧H a = some (.tup xs)
noncomputable def SqL' (K:W.Frag) (H:Hp) (B:BS) (a:Addr) (xs:List V):Prop:=(¬ B a∧Rd H a (.lst xs)) ∨ SqL K noH a xs
section
variable {K:W.Frag} {H H':Hp} {B B':BS} {a:Addr} {xs:List V}
theorem rd_no {a:Addr} {u:HO} (h:Rd noH a u):False:=by
 rcases h with h | ⟨o,h⟩ <;> cases h
theorem SqT'.to (h:SqT' K H B a xs):SqT K H a xs:=.inl (.inl h.2)
theorem SqL'.to (h:SqL' K H B a xs):SqL K H a xs:=by
 rcases h with h | h | h
 ·exact .inl h.2
 ·exact (rd_no h).elim
 ·exact .inr h
noncomputable def Gr (H H':Hp) (B B':BS):Prop:=∀ b o,¬ B b→H b = some o→¬ B' b∧H' b = some o
theorem SqT'.mono (g:Gr H H' B B') (h:SqT' K H B a xs):SqT' K H' B' a xs:=g _ _ h.1 h.2
theorem SqL'.mono (g:Gr H H' B B') (h:SqL' K H B a xs):SqL' K H' B' a xs:=by
 rcases h with ⟨n,h | ⟨o,h⟩⟩ | h
 ·exact .inl ⟨(g _ _ n h).1,.inl (g _ _ n h).2⟩
 ·exact .inl ⟨(g _ _ n h).1,.inr ⟨o,(g _ _ n h).2⟩⟩
 ·exact .inr h
theorem Gr.same (s:Same H H'):Gr H H' B B:=fun b o n h=>⟨n,s b o h⟩
theorem Gr.less (h:∀ a,B' a→B a):Gr H H B B':=fun b o n e=>⟨fun z=>n (h b z),e⟩
end
noncomputable abbrev KS:=Sum (List Key) (List (List Key))
noncomputable def dOb:KS→List V→HO
 | .inl ks,xs=>.dK (ks.zip xs)
 | .inr ks,xs=>.dT (ks.zip xs)
noncomputable def dLn:KS→Nat
 | .inl ks=>ks.length
 | .inr ks=>ks.length
mutual
noncomputable def Rp (K:W.Frag) (H:Hp) (B:BS):D→V→Prop
 | .non,v=>v = .non
 | .bl b,v=>v = .bl b
 | .int i,v=>v = .int i
 | .str x,v=>v = .str x
 | .tup ds,v=>∃ a xs,v = .ref a∧SqT' K H B a xs∧Rps K H B ds xs
 | .lst ds,v=>∃ a xs,v = .ref a∧SqL' K H B a xs∧Rps K H B ds xs
 | .dct ks ds,v=>∃ a xs,v = .ref a∧¬ B a∧H a = some (dOb ks xs)∧dLn ks = xs.length∧Rps K H B ds xs
noncomputable def Rps (K:W.Frag) (H:Hp) (B:BS):List D→List V→Prop
 | [],xs=>xs = []
 | d :: ds,xs=>∃ x r,xs = x :: r∧Rp K H B d x∧Rps K H B ds r
end
mutual
theorem Rp.mono {K:W.Frag} {H H':Hp} {B B':BS} (g:Gr H H' B B'):∀ {d:D} {v:V},Rp K H B d v→Rp K H' B' d v
 | .non,_,h=>by unfold Rp at h ⊢; exact h
 | .bl _,_,h=>by unfold Rp at h ⊢; exact h
 | .int _,_,h=>by unfold Rp at h ⊢; exact h
 | .str _,_,h=>by unfold Rp at h ⊢; exact h
 | .tup ds,_,h=>by
  unfold Rp at h ⊢
  obtain ⟨a,xs,e,q,r⟩:=h
  exact ⟨a,xs,e,q.mono g,Rps.mono g r⟩
 | .lst ds,_,h=>by
  unfold Rp at h ⊢
  obtain ⟨a,xs,e,q,r⟩:=h
  exact ⟨a,xs,e,q.mono g,Rps.mono g r⟩
 | .dct ks ds,_,h=>by
  unfold Rp at h ⊢
  obtain ⟨a,xs,e,n,q,l,r⟩:=h
  exact ⟨a,xs,e,(g _ _ n q).1,(g _ _ n q).2,l,Rps.mono g r⟩
theorem Rps.mono {K:W.Frag} {H H':Hp} {B B':BS} (g:Gr H H' B B'):∀ {ds:List D} {xs:List V},Rps K H B ds xs→Rps K H' B' ds xs
 | [],_,h=>by unfold Rps at h ⊢; exact h
 | d :: ds,_,h=>by
  unfold Rps at h ⊢
  obtain ⟨x,r,e,h1,h2⟩:=h
  exact ⟨x,r,e,Rp.mono g h1,Rps.mono g h2⟩
end
section
variable {K:W.Frag} {H H':Hp} {B B':BS} {v:V}
theorem rp_non:Rp K H B .non v = (v = .non):=by unfold Rp; rfl
theorem rp_bl {b:Bool}:Rp K H B (.bl b) v = (v = .bl b):=by unfold Rp; rfl
theorem rp_int {i:Int}:Rp K H B (.int i) v = (v = .int i):=by unfold Rp; rfl
theorem rp_str {x:Str}:Rp K H B (.str x) v = (v = .str x):=by unfold Rp; rfl
theorem rp_tup {ds:List D}:Rp K H B (.tup ds) v = ∃ a xs,v = .ref a∧SqT' K H B a xs∧Rps K H B ds xs:=by conv=>lhs; unfold Rp
theorem rp_lst {ds:List D}:Rp K H B (.lst ds) v = ∃ a xs,v = .ref a∧SqL' K H B a xs∧Rps K H B ds xs:=by conv=>lhs; unfold Rp
theorem rp_dctG {ks:KS} {ds:List D}:Rp K H B (.dct ks ds) v = ∃ a xs,v = .ref a∧¬ B a∧H a = some (dOb ks xs)∧dLn ks = xs.length∧Rps K H B ds xs:=by conv=>lhs; unfold Rp
theorem rp_dct {ks:List Key} {ds:List D}:Rp K H B (.dct (.inl ks) ds) v = ∃ a xs,v = .ref a∧¬ B a∧H a = some (.dK (ks.zip xs))∧ks.length = xs.length∧Rps K H B ds xs:=rp_dctG
theorem rp_dctT {ks:List (List Key)} {ds:List D}:Rp K H B (.dct (.inr ks) ds) v = ∃ a xs,v = .ref a∧¬ B a∧H a = some (.dT (ks.zip xs))∧ks.length = xs.length∧Rps K H B ds xs:=rp_dctG
theorem rps_nil {xs:List V}:Rps K H B [] xs = (xs = []):=by unfold Rps; rfl
theorem rps_cons {d:D} {ds:List D} {xs:List V}:Rps K H B (d :: ds) xs = ∃ x r,xs = x :: r∧Rp K H B d x∧Rps K H B ds r:=by conv=>lhs; unfold Rps
theorem Rps.length:∀ {ds:List D} {xs:List V},Rps K H B ds xs→xs.length = ds.length
 | [],_,h=>by rw [rps_nil] at h; subst h; rfl
 | d :: ds,_,h=>by
  rw [rps_cons] at h
  obtain ⟨x,r,rfl,_,h2⟩:=h
  simp [Rps.length h2]
theorem Rps.get:∀ {ds:List D} {xs:List V} {i:Nat} {d:D},Rps K H B ds xs→ds[i]? = some d→∃ x,xs[i]? = some x∧Rp K H B d x
 | [],_,_,_,_,e=>by simp at e
 | d :: ds,_,0,d',h,e=>by
  rw [rps_cons] at h
  obtain ⟨x,r,rfl,h1,_⟩:=h
  simp at e; subst e
  exact ⟨x,rfl,h1⟩
 | d :: ds,_,i + 1,d',h,e=>by
  rw [rps_cons] at h
  obtain ⟨x,r,rfl,_,h2⟩:=h
  obtain ⟨y,e1,e2⟩:=Rps.get (i:=i) h2 (by simpa using e)
  exact ⟨y,by simpa using e1,e2⟩
theorem Rps.snoc:∀ {ds:List D} {xs:List V} {d:D} {x:V},Rps K H B ds xs→Rp K H B d x→Rps K H B (ds ++ [d]) (xs ++ [x])
 | [],_,_,_,h,r=>by
  rw [rps_nil] at h; subst h
  rw [List.nil_append,List.nil_append,rps_cons]
  exact ⟨_,[],rfl,r,by rw [rps_nil]⟩
 | d :: ds,_,_,_,h,r=>by
  rw [rps_cons] at h
  obtain ⟨y,t,rfl,h1,h2⟩:=h
  rw [List.cons_append,List.cons_append,rps_cons]
  exact ⟨y,_,rfl,h1,Rps.snoc h2 r⟩
theorem Rps.append:∀ {ds es:List D} {xs ys:List V},Rps K H B ds xs→Rps K H B es ys→Rps K H B (ds ++ es) (xs ++ ys)
 | [],_,_,_,h,r=>by rw [rps_nil] at h; subst h; exact r
 | d :: ds,_,_,_,h,r=>by
  rw [rps_cons] at h
  obtain ⟨y,t,rfl,h1,h2⟩:=h
  rw [List.cons_append,List.cons_append,rps_cons]
  exact ⟨y,_,rfl,h1,Rps.append h2 r⟩
theorem Rps.drop:∀ {ds:List D} {xs:List V} (n:Nat),Rps K H B ds xs→Rps K H B (ds.drop n) (xs.drop n)
 | _,_,0,h=>h
 | [],_,n + 1,h=>by rw [rps_nil] at h; subst h; simpa [rps_nil]
 | d :: ds,_,n + 1,h=>by
  rw [rps_cons] at h
  obtain ⟨y,t,rfl,h1,h2⟩:=h
  simpa using Rps.drop n h2
theorem Rps.take:∀ {ds:List D} {xs:List V} (n:Nat),Rps K H B ds xs→Rps K H B (ds.take n) (xs.take n)
 | _,_,0,h=>by simp [rps_nil]
 | [],_,n + 1,h=>by rw [rps_nil] at h; subst h; simp [rps_nil]
 | d :: ds,_,n + 1,h=>by
  rw [rps_cons] at h
  obtain ⟨y,t,rfl,h1,h2⟩:=h
  rw [List.take_succ_cons,List.take_succ_cons,rps_cons]
  exact ⟨y,_,rfl,h1,Rps.take n h2⟩
theorem Rps.same {ds:List D} {xs:List V} (s:Same H H') (h:Rps K H B ds xs):Rps K H' B ds xs:=Rps.mono (Gr.same s) h
theorem Rp.same {d:D} {v:V} (s:Same H H') (h:Rp K H B d v):Rp K H' B d v:=Rp.mono (Gr.same s) h
end
noncomputable def RpO (K:W.Frag) (H:Hp) (B:BS) (d:D) (a:Addr):Prop:=match d with
 | .lst ds=>∃ xs,H a = some (.lst xs)∧Rps K H B ds xs
 | .dct ks ds=>∃ xs,H a = some (dOb ks xs)∧dLn ks = xs.length∧Rps K H B ds xs
 | _=>False
theorem RpO.same {K:W.Frag} {H H':Hp} {B:BS} {d:D} {a:Addr} (s:Same H H') (h:RpO K H B d a):RpO K H' B d a:=by
 cases d <;> try exact h.elim
 ·obtain ⟨xs,e,r⟩:=h; exact ⟨xs,s _ _ e,r.same s⟩
 ·obtain ⟨xs,e,l,r⟩:=h; exact ⟨xs,s _ _ e,l,r.same s⟩
theorem RpO.rp {K:W.Frag} {H:Hp} {B B':BS} {d:D} {a:Addr} (l:∀ a,B' a→B a) (n:¬ B' a) (h:RpO K H B d a):Rp K H B' d (.ref a):=by
 cases d <;> try exact h.elim
 ·obtain ⟨xs,e,r⟩:=h
  rw [rp_lst]
  exact ⟨a,xs,rfl,.inl ⟨n,.inl e⟩,r.mono (Gr.less l)⟩
 ·obtain ⟨xs,e,q,r⟩:=h
  rw [rp_dctG]
  exact ⟨a,xs,rfl,n,e,q,r.mono (Gr.less l)⟩
theorem RpO.live {K:W.Frag} {H:Hp} {B:BS} {d:D} {a:Addr} (h:RpO K H B d a):H a ≠ none:=by
 cases d <;> try exact h.elim
 ·obtain ⟨xs,e,r⟩:=h; rw [e]; exact fun z=>nomatch z
 ·obtain ⟨xs,e,q,r⟩:=h; rw [e]; exact fun z=>nomatch z
noncomputable def RpL (K:W.Frag) (H:Hp) (B:BS) (d:D) (a:Addr):Prop:=match d with
 | .tup es=>∃ ds,es = [.int (a:Int),.lst ds]∧∃ xs,H a = some (.lst xs)∧Rps K H B ds xs
 | d=>RpO K H B d a
theorem RpO.toL {K:W.Frag} {H:Hp} {B:BS} {d:D} {a:Addr} (h:RpO K H B d a):RpL K H B d a:=by
 cases d with
 | tup es=>exact (show False from h).elim
 | _=>exact h
theorem RpL.toO {K:W.Frag} {H:Hp} {B:BS} {d:D} {a:Addr} (n:isL d = false) (h:RpL K H B d a):RpO K H B d a:=by
 cases d with
 | tup es=>cases n
 | _=>exact h
theorem RpL.same {K:W.Frag} {H H':Hp} {B:BS} {d:D} {a:Addr} (s:Same H H') (h:RpL K H B d a):RpL K H' B d a:=by
 cases d with
 | tup es=>obtain ⟨ds,q,xs,e,r⟩:=h; exact ⟨ds,q,xs,s _ _ e,r.same s⟩
 | _=>exact (RpO.same s (RpL.toO rfl h)).toL
theorem RpL.rp {K:W.Frag} {H:Hp} {B B':BS} {d:D} {a:Addr} (l:∀ a,B' a→B a) (n:¬ B' a) (h:RpL K H B d a):Rp K H B' (unl d) (.ref a):=by
 cases d with
 | tup es=>obtain ⟨ds,rfl,xs,e,r⟩:=h; exact RpO.rp (d:=.lst ds) l n ⟨xs,e,r⟩
 | _=>exact RpO.rp l n (RpL.toO rfl h)
theorem RpL.live {K:W.Frag} {H:Hp} {B:BS} {d:D} {a:Addr} (h:RpL K H B d a):H a ≠ none:=by
 cases d with
 | tup es=>obtain ⟨ds,q,xs,e,r⟩:=h; rw [e]; exact fun z=>nomatch z
 | _=>exact RpO.live (RpL.toO rfl h)
noncomputable def XcAt (a C:Addr) (od:Option Addr):Heap→Prop:=fun h=>∃ oe,h.get? a = some oe∧oe.cls = .ref C∧(∀ dx,od = some dx→oe.dict = some dx)∧∃ vs,oe.data = .fields vs
noncomputable def XdAt (H:Hp) (B:BS) (od:Option Addr):Option Int→Prop
 | none=>True
 | some n=>∃ dx,od = some dx∧¬ B dx∧H dx = some (.xd [("at",.int n)])
noncomputable def XcR (K:W.Frag) (H:Hp) (B:BS) (c:Str) (n:Option Int) (a:Addr):Prop:=∃ C od,¬ B a∧H a = some (.ext (XcAt a C od))∧W.nsIn K mainGlobals c = some (some (.ref C))∧XdAt H B od n
theorem XcR.mono {K:W.Frag} {H H':Hp} {B B':BS} {c:Str} {n:Option Int} {a:Addr} (g:Gr H H' B B') (h:XcR K H B c n a):XcR K H' B' c n a:=by
 obtain ⟨C,od,h1,h2,h3,h4⟩:=h
 refine ⟨C,od,(g _ _ h1 h2).1,(g _ _ h1 h2).2,h3,?_⟩
 cases n with
 | none=>trivial
 | some n=>obtain ⟨dx,e,q1,q2⟩:=h4; exact ⟨dx,e,(g _ _ q1 q2).1,(g _ _ q1 q2).2⟩
noncomputable def SlR (K:W.Frag) (H:Hp) (B:BS) (o:Option V):Sl→Prop
 | .un=>True
 | .sh d=>∃ v,o = some v∧Rp K H B d v
 | .ow d=>∃ a,o = some (.ref a)∧B a∧RpL K H B d a
 | .ex c n=>∃ a,o = some (.ref a)∧XcR K H B c n a
theorem Pd.get {α β:Type} {F:α→β→Prop}:∀ {l:List α} {m:List β} {i:Nat} {b:β},Paired F l m→m[i]? = some b→∃ a,l[i]? = some a∧F a b
 | _,_,_,_,.nil,e=>by simp at e
 | _,_,0,_,.cons r _,e=>by simp at e; subst e; exact ⟨_,rfl,r⟩
 | _,_,i + 1,b,.cons _ t,e=>by
  obtain ⟨u,h1,h2⟩:=Pd.get (i:=i) (b:=b) t (by simpa using e)
  exact ⟨u,by simpa using h1,h2⟩
theorem Pd.imp {α β:Type} {F G:α→β→Prop} (h:∀ a b,F a b→G a b):∀ {l:List α} {m:List β},Paired F l m→Paired G l m
 | _,_,.nil=>.nil
 | _,_,.cons r t=>.cons (h _ _ r) (Pd.imp h t)
theorem Pd.set {α β:Type} {F:α→β→Prop} {a:α} {b:β} (r:F a b):∀ {l:List α} {m:List β} (i:Nat),Paired F l m→Paired F (l.set i a) (m.set i b)
 | _,_,_,.nil=>.nil
 | _,_,0,.cons _ t=>.cons r t
 | _,_,i + 1,.cons q t=>.cons q (Pd.set r i t)
theorem Pd.len {α β:Type} {F:α→β→Prop}:∀ {l:List α} {m:List β},Paired F l m→l.length = m.length
 | _,_,.nil=>rfl
 | _,_,.cons _ t=>by simp [Pd.len t]
theorem Pd.app {α β:Type} {F:α→β→Prop}:∀ {l l':List α} {m m':List β},Paired F l m→Paired F l' m'→Paired F (l ++ l') (m ++ m')
 | _,_,_,_,.nil,s=>s
 | _,_,_,_,.cons r t,s=>.cons r (Pd.app t s)
structure Env (K:W.Frag) (H:Hp) (B:BS) (σ:St) (δ:Ds):Prop where
 all:Paired (SlR K H B) σ δ
 bad:∀ a,B a→H a ≠ none
 own:∀ (i j:Nat) (a:Addr) (ds es:D),δ[i]? = some (.ow ds)→δ[j]? = some (.ow es)→σ[i]? = some (some (.ref a))→σ[j]? = some (some (.ref a))→i = j
section
variable {K:W.Frag} {H H':Hp} {B:BS} {σ σ':St} {δ δ':Ds}
theorem SlR.same {o:Option V} {s:Sl} (q:Same H H') (h:SlR K H B o s):SlR K H' B o s:=by
 cases s with
 | un=>trivial
 | sh d=>obtain ⟨v,e,r⟩:=h; exact ⟨v,e,r.same q⟩
 | ow d=>obtain ⟨a,e,b,r⟩:=h; exact ⟨a,e,b,r.same q⟩
 | ex c n=>obtain ⟨a,e,r⟩:=h; exact ⟨a,e,r.mono (Gr.same q)⟩
theorem Env.same (q:Same H H') (e:Env K H B σ δ):Env K H' B σ δ :=
 ⟨Pd.imp (fun _ _ h=>h.same q) e.all,(fun a b z=>by
  cases h:H a with
  | none=>exact e.bad a b h
  | some o=>rw [q a o h] at z; cases z),e.own⟩
theorem Env.free (e:Env K H B σ δ) {p:Addr} (h:H p = none):¬ B p:=fun z=>e.bad p z h
theorem Env.get (e:Env K H B σ δ) {i:Nat} {d:D} (h:δ[i]? = some (.sh d)):∃ v,σ[i]? = some (some v)∧Rp K H B d v:=by
 obtain ⟨o,h1,v,rfl,r⟩:=Pd.get e.all h
 exact ⟨v,h1,r⟩
theorem Env.set (e:Env K H B σ δ) (i:Nat) {d:D} {v:V} (r:Rp K H B d v):Env K H B (σ.set i (some v)) (δ.set i (.sh d)):=by
 refine ⟨Pd.set ⟨v,rfl,r⟩ i e.all,e.bad,fun j k a ds es h1 h2 h3 h4=>?_⟩
 have hj:j ≠ i:=by
  rintro rfl
  by_cases hl:j < δ.length
  ·rw [List.getElem?_set_self hl] at h1; cases h1
  ·rw [List.getElem?_eq_none (by simpa using hl)] at h1; cases h1
 have hk:k ≠ i:=by
  rintro rfl
  by_cases hl:k < δ.length
  ·rw [List.getElem?_set_self hl] at h2; cases h2
  ·rw [List.getElem?_eq_none (by simpa using hl)] at h2; cases h2
 rw [List.getElem?_set_ne (Ne.symm hj)] at h1 h3
 rw [List.getElem?_set_ne (Ne.symm hk)] at h2 h4
 exact e.own j k a ds es h1 h2 h3 h4
end
theorem same_upd {H:Hp} {p:Addr} {o:HO} (h:H p = none):Same H (upd H p o):=fun b u e=>by rw [upd_ne (ne_of_none e h)]; exact e
noncomputable def tD (K:W.Frag) (B:BS) (δ:Ds) (g:Ds→Option D):TE:=fun σ H Q=>∃ d,Env K H B σ δ∧g δ = some d∧∀ v H',Same H H'→Rp K H' B d v→Q v H'
structure PD (X:Cx) (e:Expr) (g:Ds→Option D):Prop where
 mk :: go:∀ B δ,PE X e (tD X.K B δ g)
instance {X:Cx} {e:Expr} {g:Ds→Option D}:CoeFun (PD X e g) (fun _=>∀ B δ,PE X e (tD X.K B δ g)):=⟨PD.go⟩
noncomputable def tDT (K:W.Frag) (B:BS) (δ:Ds) (g:Ds→Option Bool):TT:=fun σ H Q=>∃ b,Env K H B σ δ∧g δ = some b∧∀ H',Same H H'→Q b H'
structure PTD (X:Cx) (e:Expr) (g:Ds→Option Bool):Prop where
 mk :: go:∀ B δ,PT X e (tDT X.K B δ g)
instance {X:Cx} {e:Expr} {g:Ds→Option Bool}:CoeFun (PTD X e g) (fun _=>∀ B δ,PT X e (tDT X.K B δ g)):=⟨PTD.go⟩
structure PWD (X:Cx) (e:Expr) (g:Ds→Option Bool):Prop where
 mk :: go:∀ B δ,PW X e (tDT X.K B δ g)
instance {X:Cx} {e:Expr} {g:Ds→Option Bool}:CoeFun (PWD X e g) (fun _=>∀ B δ,PW X e (tDT X.K B δ g)):=⟨PWD.go⟩
noncomputable def tDA (K:W.Frag) (B:BS) (δ:Ds) (g:Ds→Option (List D)):TA:=fun σ H Q=>∃ ds,Env K H B σ δ∧g δ = some ds∧∀ vs H',Same H H'→Rps K H' B ds vs→Q vs H'
structure PDA (X:Cx) (es:List Expr) (g:Ds→Option (List D)):Prop where
 mk :: go:∀ B δ,PA X es (tDA X.K B δ g)
instance {X:Cx} {es:List Expr} {g:Ds→Option (List D)}:CoeFun (PDA X es g) (fun _=>∀ B δ,PA X es (tDA X.K B δ g)):=⟨PDA.go⟩
theorem asB_eq {d:D} {b:Bool} (h:asB d = some b):d = .bl b:=by
 cases d <;> simp [asB] at h
 subst h; rfl
noncomputable def Op2 (K:W.Frag) (r:R2) (f:D→D→Option D):Prop:=∀ (H:Hp) (B:BS) (x y:V) (dx dy d:D) (Q:VK),(∀ a,B a→H a ≠ none)→Rp K H B dx x→Rp K H B dy y→f dx dy = some d→(∀ v H',Same H H'→Rp K H' B d v→Q v H')→r x y H Q
noncomputable def FnR (K:W.Frag) (r:List V→Hp→VK→Prop) (f:List D→Option D):Prop:=∀ (H:Hp) (B:BS) (xs:List V) (ds:List D) (d:D) (Q:VK),(∀ a,B a→H a ≠ none)→Rps K H B ds xs→f ds = some d→(∀ v H',Same H H'→Rp K H' B d v→Q v H')→r xs H Q
section
variable {X:Cx} {e a b c:Expr} {es:List Expr} {pos:Pos} {g ga gb:Ds→Option D} {gA:Ds→Option (List D)} {gt gu:Ds→Option Bool} {rest:List Expr}
theorem _root_.L2.PE.imp {t t':TE} (h:PE X e t) (q:∀ σ H Q,t' σ H Q→t σ H Q):PE X e t':=fun pins s σ H Q I z=>h pins s σ H Q I (q σ H Q z)
theorem _root_.L2.PT.imp {t t':TT} (h:PT X e t) (q:∀ σ H Q,t' σ H Q→t σ H Q):PT X e t':=fun pins s σ H Q I z=>h pins s σ H Q I (q σ H Q z)
theorem _root_.L2.PW.imp {t t':TT} (h:PW X e t) (q:∀ σ H Q,t' σ H Q→t σ H Q):PW X e t':=fun w pins s σ H Q I z=>h w pins s σ H Q I (q σ H Q z)
theorem _root_.L2.PA.imp {t t':TA} (h:PA X es t) (q:∀ σ H Q,t' σ H Q→t σ H Q):PA X es t':=fun p pins s σ H Q I z=>h p pins s σ H Q I (q σ H Q z)
theorem gv_eq {i:Nat} {δ:Ds} {d:D} (h:gv i δ = some d):δ[i]? = some (.sh d):=by
 unfold gv at h
 split at h
 ·cases h; assumption
 ·cases h
theorem pd_var (i:Nat) {x:Str} (hN:X.N[i]? = some x:=by rfl) (hv:Vis X.env.scope x:=by first | exact Or.inl rfl | exact Or.inr (Or.inl rfl) | exact Or.inr (Or.inr rfl)) (hd:(x == ("__debug__" : Str)) = false:=by decide)
  (hcd:(x == ("__classdict__" : Str)) = false:=by decide):PD X (.Name x pos) (gv i):=.mk fun B δ=>(pe_var (i:=i) hN hv hd hcd).imp fun σ H Q ⟨d,en,h,k⟩=>by
 obtain ⟨v,e,r⟩:=en.get (gv_eq h)
 exact ⟨v,e,k v H (Same.refl H) r⟩
theorem pd_int {i:Int} {j:Nat}:PD X (.Constant (.int i) j pos) (gc (.int i)):=.mk fun B δ=>pe_int.imp fun σ H Q ⟨d,en,h,k⟩=>by cases h; exact k _ H (Same.refl H) (by rw [rp_int])
theorem pd_bl {i:Bool} {j:Nat}:PD X (.Constant (.bool i) j pos) (gc (.bl i)):=.mk fun B δ=>pe_bl.imp fun σ H Q ⟨d,en,h,k⟩=>by cases h; exact k _ H (Same.refl H) (by rw [rp_bl])
theorem pd_non {j:Nat}:PD X (.Constant .none j pos) (gc .non):=.mk fun B δ=>pe_non.imp fun σ H Q ⟨d,en,h,k⟩=>by cases h; exact k _ H (Same.refl H) (by rw [rp_non])
theorem pd_str {x:Str} {j:Nat}:PD X (.Constant (.str x) j pos) (gc (.str x)):=.mk fun B δ=>pe_str.imp fun σ H Q ⟨d,en,h,k⟩=>by cases h; exact k _ H (Same.refl H) (by rw [rp_str])
theorem pd_gint {x:Str} {i:Int} (hm:∃ t,X.mg x = some (.int i t)) (hg:Gl X x:=by rfl) (hd:(x == ("__debug__" : Str)) = false:=by decide):PD X (.Name x pos) (gc (.int i)):=.mk fun B δ=>by
 obtain ⟨t,hm⟩:=hm
 exact (pe_glob (v:=.int i) hg hm ⟨t,rfl⟩ hd).imp fun σ H Q ⟨d,en,h,k⟩=>by cases h; exact k _ H (Same.refl H) (by rw [rp_int])
theorem o2_red {K:W.Frag} {r:R2} {f:D→D→Option D} (hf:Op2 K r f) {B:BS} {δ:Ds} {σ:St} {H:Hp} {Q:VK} (h:tD K B δ (o2 ga gb f) σ H Q):tOp r (tD K B δ ga) (tD K B δ gb) σ H Q:=by
 obtain ⟨d,en,h,k⟩:=h
 unfold o2 at h
 cases e1:ga δ with
 | none=>rw [e1] at h; cases h
 | some x =>
  cases e2:gb δ with
  | none=>rw [e1,e2] at h; cases h
  | some y =>
   rw [e1,e2] at h
   refine ⟨x,en,e1,fun v1 H1 s1 r1=>⟨y,en.same s1,e2,fun v2 H2 s2 r2=>?_⟩⟩
   exact hf H2 B v1 v2 x y d Q ((en.same s1).same s2).bad (r1.same s2) r2 h fun v H' s r=>k v H' ((s1.trans s2).trans s) r
theorem pd_op {op:Operator} {r:R2} {f:D→D→Option D} (ho:OpR X (binaryOp op) r) (hf:Op2 X.K r f) (ha:PD X a ga) (hb:PD X b gb):PD X (.BinOp a op b pos) (o2 ga gb f):=.mk fun B δ=>(pe_op ho (ha B δ) (hb B δ)).imp fun σ H Q h=>o2_red hf h
theorem pd_cmp {op:CmpOp} {r:R2} {f:D→D→Option D} (ho:OpR X (compareOp op) r) (hf:Op2 X.K r f) (ha:PD X a ga) (hb:PD X b gb) (hm:behindInMarks op b = false:=by first | exact nomark _ | with_unfolding_all rfl):PD X (.Compare a [op] [b] pos) (o2 ga gb f) :=
 .mk fun B δ=>(pe_cmpR ho (ha B δ) (hb B δ) hm).imp fun σ H Q h=>o2_red hf h
theorem pd_ix {r:R2} {f:D→D→Option D} (ho:IxR X r) (hf:Op2 X.K r f) (ha:PD X a ga) (hb:PD X b gb) (hs:PlainIx b:=by exact fun _ _=>rfl):PD X (.Subscript a b pos) (o2 ga gb f) :=
 .mk fun B δ=>(pe_ix ho (ha B δ) (hb B δ) hs).imp fun σ H Q h=>o2_red hf h
theorem ptd_cmp {op:CmpOp} {r:R2} {f:D→D→Option D} (ho:OpR X (compareOp op) r) (hf:Op2 X.K r f) (ha:PD X a ga) (hb:PD X b gb) (hm:behindInMarks op b = false:=by first | exact nomark _ | with_unfolding_all rfl):PTD X (.Compare a [op] [b] pos) (ob (o2 ga gb f)) :=
 .mk fun B δ=>(pt_cmpR ho (ha B δ) (hb B δ) hm).imp fun σ H Q ⟨t,en,h,k⟩=>by
  unfold ob at h
  cases e:o2 ga gb f δ with
  | none=>rw [e] at h; cases h
  | some d =>
   rw [e] at h
   cases asB_eq h
   exact o2_red hf ⟨_,en,e,fun v H' s r=>⟨t,by rw [rp_bl] at r; exact r,k H' s⟩⟩
theorem ptd_val (h:PD X e g) (he:∀ whole,isTrue e X.env whole = (do let v ← whole; standAt e.pos; holding [v] (truthy v)):=by intro _; rfl):PTD X e (ob g) :=
 .mk fun B δ=>(pt_val (h B δ) he).imp fun σ H Q ⟨t,en,h,k⟩=>by
  unfold ob at h
  cases e:g δ with
  | none=>rw [e] at h; cases h
  | some d =>
   rw [e] at h
   cases asB_eq h
   exact ⟨_,en,e,fun v H' s r=>⟨t,by rw [rp_bl] at r; exact r,k H' s⟩⟩
theorem ptd_not (h:PTD X a gt):PTD X (.UnaryOp .Not a pos) (tNotG gt) :=
 .mk fun B δ=>(pt_not (h B δ)).imp fun σ H Q ⟨t,en,h,k⟩=>by
  unfold tNotG at h
  cases e:gt δ with
  | none=>rw [e] at h; cases h
  | some b =>
   rw [e] at h
   cases h
   exact ⟨b,en,e,fun H' s=>k H' s⟩
theorem pwd_and1 (h:PTD X a gt):PWD X (.BoolOp .And [a] pos) gt:=.mk fun B δ=>pw_and1 (h B δ)
theorem pwd_or1 (h:PTD X a gt):PWD X (.BoolOp .Or [a] pos) gt:=.mk fun B δ=>pw_or1 (h B δ)
theorem pwd_and (ha:PTD X a gt) (hb:PWD X (.BoolOp .And (b :: rest) pos) gu):PWD X (.BoolOp .And (a :: b :: rest) pos) (tAndG gt gu) :=
 .mk fun B δ=>(pw_and (ha B δ) (hb B δ)).imp fun σ H Q ⟨t,en,h,k⟩=>by
  unfold tAndG at h
  cases e:gt δ with
  | none=>rw [e] at h; cases h
  | some b =>
   rw [e] at h
   refine ⟨b,en,e,fun H' s=>?_⟩
   cases b with
   | true=>exact ⟨t,en.same s,h,fun H'' s'=>k H'' (s.trans s')⟩
   | false =>
    simp at h
    subst h
    rw [if_neg Bool.false_ne_true]
    exact k H' s
theorem pwd_or (ha:PTD X a gt) (hb:PWD X (.BoolOp .Or (b :: rest) pos) gu):PWD X (.BoolOp .Or (a :: b :: rest) pos) (tOrG gt gu) :=
 .mk fun B δ=>(pw_or (ha B δ) (hb B δ)).imp fun σ H Q ⟨t,en,h,k⟩=>by
  unfold tOrG at h
  cases e:gt δ with
  | none=>rw [e] at h; cases h
  | some b =>
   rw [e] at h
   refine ⟨b,en,e,fun H' s=>?_⟩
   cases b with
   | false=>exact ⟨t,en.same s,h,fun H'' s'=>k H'' (s.trans s')⟩
   | true =>
    simp at h
    subst h
    rw [if_pos rfl]
    exact k H' s
theorem PWD.pt (h:PWD X e gt):PTD X e gt:=.mk fun B δ=>(h B δ).pt
theorem pd_if (hc:PTD X c gt) (ha:PD X a ga) (hb:PD X b gb):PD X (.IfExp c a b pos) (ifG gt ga gb) :=
 .mk fun B δ=>(pe_ifExp (hc B δ) (ha B δ) (hb B δ)).imp fun σ H Q ⟨d,en,h,k⟩=>by
  unfold ifG at h
  cases e:gt δ with
  | none=>rw [e] at h; cases h
  | some t =>
   rw [e] at h
   refine ⟨t,en,e,fun H' s=>?_⟩
   cases t with
   | true=>exact ⟨d,en.same s,h,fun v H'' s'=>k v H'' (s.trans s')⟩
   | false=>exact ⟨d,en.same s,h,fun v H'' s'=>k v H'' (s.trans s')⟩
theorem pda_nil:PDA X [] nilA:=.mk fun B δ=>pa_nil.imp fun σ H Q ⟨ds,en,h,k⟩=>by cases h; exact k [] H (Same.refl H) (by rw [rps_nil])
theorem pda_cons (ha:PD X e g) (hr:PDA X es gA) (hs:starEach (e :: es) X.env = (false,eval e X.env) :: starEach es X.env:=by rfl):PDA X (e :: es) (consA g gA) :=
 .mk fun B δ=>(pa_cons (ha B δ) (hr B δ) hs).imp fun σ H Q ⟨ds,en,h,k⟩=>by
  unfold consA at h
  cases e1:g δ with
  | none=>rw [e1] at h; cases h
  | some d =>
   cases e2:gA δ with
   | none=>rw [e1,e2] at h; cases h
   | some es' =>
    rw [e1,e2] at h
    cases h
    refine ⟨d,en,e1,fun v H1 s1 r1=>⟨es',en.same s1,e2,fun vs H2 s2 r2=>k _ H2 (s1.trans s2) ?_⟩⟩
    rw [rps_cons]
    exact ⟨v,vs,rfl,r1.same s2,r2⟩
theorem pd_tup {x1} (h:PDA X es gA):PD X (.Tuple es x1 pos) (tupG gA) :=
 .mk fun B δ=>(pe_tup (h B δ)).imp fun σ H Q ⟨d,en,h,k⟩=>by
  unfold tupG at h
  cases e1:gA δ with
  | none=>rw [e1] at h; cases h
  | some ds =>
   rw [e1] at h
   by_cases hl:ds.length ≤ sizeLine
   ·simp only [Option.bind_some,if_pos hl] at h
    cases h
    refine ⟨ds,en,e1,fun vs H1 s1 r1=>⟨by rw [r1.length]; exact hl,fun p hp=>k _ _ (s1.trans (same_upd hp)) ?_⟩⟩
    rw [rp_tup]
    exact ⟨p,vs,rfl,⟨(en.same s1).free hp,upd_same⟩,r1.same (same_upd hp)⟩
   ·simp only [Option.bind_some,if_neg hl] at h
    cases h
theorem pd_lst (h:PDA X es gA):PD X (.List es pos) (lstG gA) :=
 .mk fun B δ=>(pe_lst (h B δ)).imp fun σ H Q ⟨d,en,h,k⟩=>by
  unfold lstG at h
  cases e1:gA δ with
  | none=>rw [e1] at h; cases h
  | some ds =>
   rw [e1] at h
   by_cases hl:ds.length ≤ sizeLine
   ·simp only [Option.bind_some,if_pos hl] at h
    cases h
    refine ⟨ds,en,e1,fun vs H1 s1 r1=>⟨by rw [r1.length]; exact hl,fun p hp=>k _ _ (s1.trans (same_upd hp)) ?_⟩⟩
    rw [rp_lst]
    exact ⟨p,vs,rfl,.inl ⟨(en.same s1).free hp,.inl upd_same⟩,r1.same (same_upd hp)⟩
   ·simp only [Option.bind_some,if_neg hl] at h
    cases h
theorem oA_red {K:W.Frag} {r:List V→Hp→VK→Prop} {f:List D→Option D} (hf:FnR K r f) {B:BS} {δ:Ds} {σ:St} {H:Hp} {Q:VK} (h:tD K B δ (oA gA f) σ H Q):tCB r (tDA K B δ gA) σ H Q:=by
 obtain ⟨d,en,h,k⟩:=h
 unfold oA at h
 cases e1:gA δ with
 | none=>rw [e1] at h; cases h
 | some ds =>
  rw [e1] at h
  exact ⟨ds,en,e1,fun vs H1 s1 r1=>hf H1 B vs ds d Q (en.same s1).bad r1 h fun v H' s r=>k v H' (s1.trans s) r⟩
theorem pd_callB {id:String} {x:Str} {p:Pos} {r:List V→Hp→VK→Prop} {f:List D→Option D} (hc:CallR X (.builtin id) r) (hf:FnR X.K r f) (hm:X.mg x = none) (hv:bootBuiltins x = some (.builtin id)) (ha:PDA X (e :: es) gA) (hg:Gl X x:=by rfl)
  (hn:x ≠ "__name__" := by decide) (hdb:(x == ("__debug__" : Str)) = false:=by decide) (he:starEach (e :: es) X.env = (false,eval e X.env) :: starEach es X.env:=by rfl) (hpl:(backTo pos (starEach es X.env)).any (·.1) = false:=by rfl) :
  PD X (.Call (.Name x p) (e :: es) [] pos) (oA gA f):=.mk fun B δ=>(pe_callB hc hg hm hv (ha B δ) hn hdb he hpl).imp fun σ H Q h=>oA_red hf h
theorem pd_callTy {T:String} {x:Str} {p:Pos} {r:List V→Hp→VK→Prop} {f:List D→Option D} (hc:CallR X (.type T) r) (hf:FnR X.K r f) (hm:X.mg x = none) (hv:bootBuiltins x = some (.type T)) (ha:PDA X (e :: es) gA) (hg:Gl X x:=by rfl)
  (hn:x ≠ "__name__" := by decide) (hdb:(x == ("__debug__" : Str)) = false:=by decide) (he:starEach (e :: es) X.env = (false,eval e X.env) :: starEach es X.env:=by rfl) (hpl:(backTo pos (starEach es X.env)).any (·.1) = false:=by rfl) :
  PD X (.Call (.Name x p) (e :: es) [] pos) (oA gA f):=.mk fun B δ=>(pe_callTy hc hg hm hv (ha B δ) hn hdb he hpl).imp fun σ H Q h=>oA_red hf h
noncomputable def spD (K:W.Frag) (f:List D→Option D):Sp:=fun vs H Q _=>∃ (B:BS) (ds:List D) (d:D),(∀ a,B a→H a ≠ none)∧Rps K H B ds vs∧f ds = some d∧∀ v H',Same H H'→Rp K H' B d v→Q v H'
theorem pd_call {k:Nat} {fa:Addr} {fd:FuncData} {ps:List Str} {x:Str} {p:Pos} {f:List D→Option D} (F:FnOk X.prog X.w X.K X.mg X.base CX0 k fa fd ps (spD X.K f)) (hr:Room k X.A) (hm:X.mg x = some (.ref fa)) (hk:W.keepIn X.K (.ref fa) = true) (hb:Binds X.K fd ps [])
  (ha:PDA X (e :: es) gA) (hg:Gl X x:=by rfl) (hdb:(x == ("__debug__" : Str)) = false:=by decide) (he:starEach (e :: es) X.env = (false,eval e X.env) :: starEach es X.env:=by rfl) (hpl:(backTo pos (starEach es X.env)).any (·.1) = false:=by rfl) :
  PD X (.Call (.Name x p) (e :: es) [] pos) (oA gA f):=.mk fun B δ=>(pe_call (E:=E0) F hr hg hm hk hb .nil pass0 (ha B δ) hdb he hpl).imp fun σ H Q h=>by
 obtain ⟨d,en,h,k⟩:=h
 unfold oA at h
 cases e1:gA δ with
 | none=>rw [e1] at h; cases h
 | some ds =>
  rw [e1] at h
  refine ⟨ds,en,e1,fun vs H1 s1 r1=>?_⟩
  show spD X.K f (vs ++ []) H1 Q E0
  rw [List.append_nil]
  exact ⟨B,ds,d,(en.same s1).bad,r1,h,fun v H' s r=>k v H' (s1.trans s) r⟩
end
end DL
namespace DL
open PySem PySem.Spec PyProof.Rows L2
structure EnvS (K:W.Frag) (H₀:Hp) (B₀:BS) (H:Hp) (σ:St) (δ:Ds):Prop where
 same:Same H₀ H
 ex:∃ B:BS,(∀ a,B₀ a→B a)∧(∀ a,B a→B₀ a ∨ H₀ a = none)∧Env K H B σ δ
 fr:∀ (i:Nat) (ds:D) (a:Addr),δ[i]? = some (.ow ds)→σ[i]? = some (some (.ref a))→H₀ a = none
 b0:∀ a,B₀ a→H₀ a ≠ none
noncomputable def ResK (K:W.Frag) (H₀:Hp) (B₀:BS) (D:Ends):Res→Prop
 | .nx δ=>∀ σ H,EnvS K H₀ B₀ H σ δ→D.nx σ H
 | .rt d=>∀ v H,Same H₀ H→Rp K H B₀ d v→D.rt v H
 | .bk δ=>∀ σ H,EnvS K H₀ B₀ H σ δ→D.bk σ H
 | .ct δ=>∀ σ H,EnvS K H₀ B₀ H σ δ→D.ct σ H
 | .rf d=>∀ p H,H₀ p = none→Same H₀ H→RpL K H (fun a=>B₀ a ∨ a = p) d p→D.rt (.ref p) H
noncomputable def tDS (K:W.Frag) (H₀:Hp) (B₀:BS) (δ:Ds) (G:Ds→Option Res):TS:=fun D σ H=>∃ r,EnvS K H₀ B₀ H σ δ∧G δ = some r∧ResK K H₀ B₀ D r
structure PSD (X:Cx) (st:Stmt) (G:Ds→Option Res):Prop where
 mk :: go:∀ H₀ B₀ δ,PS X st (tDS X.K H₀ B₀ δ G)
instance {X:Cx} {st:Stmt} {G:Ds→Option Res}:CoeFun (PSD X st G) (fun _=>∀ H₀ B₀ δ,PS X st (tDS X.K H₀ B₀ δ G)):=⟨PSD.go⟩
structure PSsD (X:Cx) (st:List Stmt) (G:Ds→Option Res):Prop where
 mk :: go:∀ H₀ B₀ δ,PSs X st (tDS X.K H₀ B₀ δ G)
instance {X:Cx} {st:List Stmt} {G:Ds→Option Res}:CoeFun (PSsD X st G) (fun _=>∀ H₀ B₀ δ,PSs X st (tDS X.K H₀ B₀ δ G)):=⟨PSsD.go⟩
section
variable {K:W.Frag} {H₀ H H':Hp} {B₀:BS} {σ:St} {δ:Ds}
theorem EnvS.grow (e:EnvS K H₀ B₀ H σ δ) (s:Same H H'):EnvS K H₀ B₀ H' σ δ:=⟨e.same.trans s,let ⟨B,b1,b2,en⟩:=e.ex; ⟨B,b1,b2,en.same s⟩,e.fr,e.b0⟩
end
structure Wr (idx:List Nat) (σ σ':St) (δ δ':Ds):Prop where
 len:σ'.length = σ.length
 oth:∀ j,j ∉ idx→σ'[j]? = σ[j]?∧δ'[j]? = δ[j]?
 own:∀ j ∈ idx,∀ ds,δ'[j]? ≠ some (.ow ds)
noncomputable def tDG (K:W.Frag) (idx:List Nat) (f:D→Ds→Option Ds) (B:BS) (d:D) (δ:Ds):TG:=fun v σ H Q=>∃ δ',Rp K H B d v∧Env K H B σ δ∧f d δ = some δ'∧∀ σ',Wr idx σ σ' δ δ'→Env K H B σ' δ'→Q σ' H
structure PGD (X:Cx) (tg:Expr) (idx:List Nat) (f:D→Ds→Option Ds):Prop where
 mk :: go:∀ B d δ,PG X tg (tDG X.K idx f B d δ)
instance {X:Cx} {tg:Expr} {idx:List Nat} {f:D→Ds→Option Ds}:CoeFun (PGD X tg idx f) (fun _=>∀ B d δ,PG X tg (tDG X.K idx f B d δ)):=⟨PGD.go⟩
theorem _root_.L2.PG.imp {X:Cx} {tg:Expr} {t t':TG} (h:PG X tg t) (q:∀ v σ H Q,t' v σ H Q→t v σ H Q):PG X tg t':=fun pins s σ H v u Q I r z=>h pins s σ H v u Q I r (q v σ H Q z)
theorem wr_set {σ:St} {δ:Ds} {i:Nat} {v:V} {d:D}:Wr [i] σ (σ.set i (some v)) δ (δ.set i (.sh d)):=by
 refine ⟨by simp,fun j hj=>?_,fun j hj ds h=>?_⟩
 ·have:j ≠ i:=by simpa using hj
  rw [List.getElem?_set_ne (Ne.symm this),List.getElem?_set_ne (Ne.symm this)]
  exact ⟨rfl,rfl⟩
 ·have:j = i:=by simpa using hj
  subst this
  by_cases hl:j < δ.length
  ·rw [List.getElem?_set_self hl] at h; cases h
  ·rw [List.getElem?_eq_none (by simpa using hl)] at h; cases h
theorem pgd_name (i:Nat) {X:Cx} {x:Str} {pos:Pos} (hN:X.N.Nodup) (hi:X.N[i]? = some x:=by rfl) (hx:Loc X.env.scope x:=by first | exact Or.inl rfl | exact Or.inr rfl)
  (hf:X.fn x = true ∨ X.env.scope.names.lookup x = some .local:=by first | exact .inl rfl | exact .inr rfl | assumption):PGD X (.Name x pos) [i] (gN i):=.mk fun B d δ=>(pg_name (i:=i) hN hi hx hf).imp fun v σ H Q ⟨δ',r,en,e,k⟩=>by
 cases e
 exact k _ wr_set (en.set i r)
section
variable {X:Cx} {e tg:Expr} {st:Stmt} {rest:List Stmt} {pos:Pos} {g:Ds→Option D} {G G1 G2 Ga Gb:Ds→Option Res} {gt:Ds→Option Bool} {c:Expr} {as bs body:List Stmt}
theorem pssd_nil:PSsD X [] nilD:=.mk fun H₀ B₀ δ pins s σ H D I ⟨r,en,e,k⟩=>by
 cases e
 exact pss_nil pins s σ H D I (k σ H en)
theorem pssd_cons (h1:PSD X st G1) (h2:PSsD X rest G2):PSsD X (st :: rest) (seqD G1 G2):=.mk fun H₀ B₀ δ pins s σ H D I ⟨r,en,e,k⟩=>by
 unfold seqD at e
 cases e1:G1 δ with
 | none=>rw [e1] at e; cases e
 | some r1 =>
  rw [e1] at e
  cases r1 with
  | nx δ'=>exact pss_cons (h1 H₀ B₀ δ) (h2 H₀ B₀ δ') pins s σ H D I ⟨_,en,e1,fun σ' H' en'=>⟨r,en',e,k⟩⟩
  | rt d=>cases e; exact pss_cons (h1 H₀ B₀ δ) pss_never pins s σ H D I ⟨_,en,e1,k⟩
  | bk δ'=>cases e; exact pss_cons (h1 H₀ B₀ δ) pss_never pins s σ H D I ⟨_,en,e1,k⟩
  | ct δ'=>cases e; exact pss_cons (h1 H₀ B₀ δ) pss_never pins s σ H D I ⟨_,en,e1,k⟩
  | rf d=>cases e; exact pss_cons (h1 H₀ B₀ δ) pss_never pins s σ H D I ⟨_,en,e1,k⟩
theorem psd_ret (h:PD X e g):PSD X (.Return (some e) pos) (retD g):=.mk fun H₀ B₀ δ pins s σ H D I ⟨r,en,e1,k⟩=>by
 unfold retD at e1
 obtain ⟨B,b1,b2,env⟩:=en.ex
 cases e2:g δ with
 | none=>rw [e2] at e1; cases e1
 | some d =>
  rw [e2] at e1
  cases e1
  exact ps_ret (h B δ) pins s σ H D I ⟨d,env,e2,fun v H' s' r=>k v H' (en.same.trans s') (r.mono (Gr.less b1))⟩
theorem EnvS.wr {K:W.Frag} {H₀ H H':Hp} {B₀ B:BS} {σ σ':St} {δ δ':Ds} {idx:List Nat} (e:EnvS K H₀ B₀ H σ δ) (b1:∀ a,B₀ a→B a) (b2:∀ a,B a→B₀ a ∨ H₀ a = none) (s:Same H H') (w:Wr idx σ σ' δ δ') (en:Env K H' B σ' δ'):EnvS K H₀ B₀ H' σ' δ':=by
 refine ⟨e.same.trans s,⟨B,b1,b2,en⟩,fun i ds a h1 h2=>?_,e.b0⟩
 by_cases hi:i ∈ idx
 ·exact absurd h1 (w.own i hi ds)
 ·rw [(w.oth i hi).2] at h1
  rw [(w.oth i hi).1] at h2
  exact e.fr i ds a h1 h2
theorem psd_asg {idx:List Nat} {f:D→Ds→Option Ds} (h:PD X e g) (hg:PGD X tg idx f) (hs:swapsWithSole [tg] e pos.line X.env = pure false:=by rfl) (hw:swappedStores [tg] e X.env = pure none:=by rfl)
  (h1:(assignEach [tg] X.env).map (·.2) = [assign tg X.env]:=by rfl):PSD X (.Assign [tg] e pos) (setD f g):=.mk fun H₀ B₀ δ pins s σ H D I ⟨r,en,e1,k⟩=>by
 unfold setD at e1
 obtain ⟨B,b1,b2,env⟩:=en.ex
 cases e2:g δ with
 | none=>rw [e2] at e1; cases e1
 | some d =>
  rw [e2] at e1
  simp only [Option.bind_some] at e1
  cases e3:f d δ with
  | none=>rw [e3] at e1; cases e1
  | some δ' =>
   rw [e3] at e1
   cases e1
   exact ps_asg (h B δ) (hg B d δ) hs hw h1 pins s σ H D I ⟨d,env,e2,fun v H' s' r=>⟨δ',r,env.same s',e3,fun σ' w en'=>k σ' H' (en.wr b1 b2 s' w en')⟩⟩
theorem psd_if (hc:PTD X c gt) (ha:PSsD X as Ga) (hb:PSsD X bs Gb):PSD X (.If c as bs pos) (ifD gt Ga Gb):=.mk fun H₀ B₀ δ pins s σ H D I ⟨r,en,e1,k⟩=>by
 unfold ifD at e1
 obtain ⟨B,b1,b2,env⟩:=en.ex
 cases e2:gt δ with
 | none=>rw [e2] at e1; cases e1
 | some t =>
  rw [e2] at e1
  refine ps_if (hc B δ) (ha H₀ B₀ δ) (hb H₀ B₀ δ) pins s σ H D I ⟨t,env,e2,fun H' s'=>?_⟩
  cases t with
  | true=>exact ⟨r,en.grow s',e1,k⟩
  | false=>exact ⟨r,en.grow s',e1,k⟩
structure ItD (K:W.Frag) (B:BS) (J:It) (items:List D) (H₁:Hp):Prop where
 go:∀ i H,Gr H₁ H B B→i < items.length→J.go i H
 yld:∀ i H x H',Gr H₁ H B B→J.yld i H x H'→i < items.length→Same H H'∧∃ d,items[i]? = some d∧∀ B':BS,Gr H₁ H' B B'→(∀ a,B' a→H a ≠ none)→Rp K H' B' d x
 stop:∀ i H,Gr H₁ H B B→items.length ≤ i→J.stop i H
noncomputable def tDI (K:W.Frag) (B:BS) (δ:Ds) (g:Ds→Option (List D)):TI:=fun σ H R=>∃ items,Env K H B σ δ∧g δ = some items∧∀ J H',Same H H'→ItD K B J items H'→R J H'
structure PID (X:Cx) (tg e:Expr) (g:Ds→Option (List D)):Prop where
 mk :: go:∀ B δ,PI X tg e (tDI X.K B δ g)
instance {X:Cx} {tg e:Expr} {g:Ds→Option (List D)}:CoeFun (PID X tg e g) (fun _=>∀ B δ,PI X tg e (tDI X.K B δ g)):=⟨PID.go⟩
theorem _root_.L2.PI.imp {t t':TI} (h:PI X tg e t) (q:∀ σ H R,t' σ H R→t σ H R):PI X tg e t':=fun pins s σ H R I z=>h pins s σ H R I (q σ H R z)
theorem pid_list (h:PD X e g):PID X tg e (lstI g):=.mk fun B δ=>L2.PI.imp (pi_list (h B δ)) fun σ H R ⟨items,en,e1,k⟩=>by
 unfold lstI at e1
 cases e2:g δ with
 | none=>rw [e2] at e1; cases e1
 | some d =>
  rw [e2] at e1
  cases d <;> simp [asLst] at e1
  subst e1
  refine ⟨_,en,e2,fun v H' s' r=>?_⟩
  rw [rp_lst] at r
  obtain ⟨a,xs,rfl,q,rs⟩:=r
  refine ⟨a,rfl,⟨xs,q.to⟩,k _ H' s' ⟨fun i H2 g2 hi=>?_,fun i H2 x H3 g2 y hi=>?_,fun i H2 g2 hi=>?_⟩⟩
  ·have:i < xs.length:=by rw [rs.length]; exact hi
   exact ⟨xs,xs[i],(q.mono g2).to,by simp [this]⟩
  ·obtain ⟨e3,y⟩:=y
   obtain ⟨x',e4,r'⟩:=rs.get (i:=i) (d:=_) (List.getElem?_eq_getElem hi)
   have:=y xs (q.mono g2).to
   rw [e4] at this
   cases this
   subst e3
   exact ⟨Same.refl _,_,List.getElem?_eq_getElem hi,fun B' gB _=>r'.mono gB⟩
  ·exact ⟨xs,(q.mono g2).to,by rw [rs.length]; exact hi⟩
theorem pid_tup (h:PD X e g):PID X tg e (tupI g):=.mk fun B δ=>L2.PI.imp (pi_tup (h B δ)) fun σ H R ⟨items,en,e1,k⟩=>by
 unfold tupI at e1
 cases e2:g δ with
 | none=>rw [e2] at e1; cases e1
 | some d =>
  rw [e2] at e1
  cases d <;> simp [asTup] at e1
  subst e1
  refine ⟨_,en,e2,fun v H' s' r=>?_⟩
  rw [rp_tup] at r
  obtain ⟨a,xs,rfl,q,rs⟩:=r
  refine ⟨a,rfl,⟨xs,q.to⟩,k _ H' s' ⟨fun i H2 g2 hi=>?_,fun i H2 x H3 g2 y hi=>?_,fun i H2 g2 hi=>?_⟩⟩
  ·have:i < xs.length:=by rw [rs.length]; exact hi
   exact ⟨xs,xs[i],(q.mono g2).to,by simp [this]⟩
  ·obtain ⟨e3,y⟩:=y
   obtain ⟨x',e4,r'⟩:=rs.get (i:=i) (d:=_) (List.getElem?_eq_getElem hi)
   have:=y xs (q.mono g2).to
   rw [e4] at this
   cases this
   subst e3
   exact ⟨Same.refl _,_,List.getElem?_eq_getElem hi,fun B' gB _=>r'.mono gB⟩
  ·exact ⟨xs,(q.mono g2).to,by rw [rs.length]; exact hi⟩
theorem rngD_len (lo hi:Int):(rngD lo hi).length = (hi - lo).toNat:=by simp [rngD]
theorem itd_rng {K:W.Frag} {B:BS} {H:Hp} (lo hi:Int):ItD K B (Itr lo (hi - lo).toNat) (rngD lo hi) H:=by
 refine ⟨fun i H2 g2 hi=>?_,fun i H2 x H3 g2 y hi=>?_,fun i H2 g2 hi=>?_⟩
 ·rw [rngD_len] at hi; exact hi
 ·obtain ⟨e3,rfl⟩:=y
  rw [rngD_len] at hi
  subst e3
  exact ⟨Same.refl _,.int (lo + i),by simp [rngD,hi],fun B' gB _=>by rw [rp_int]⟩
 ·rw [rngD_len] at hi; exact hi
theorem pid_range1 {a:Expr} {gA:Ds→Option (List D)} {p:Pos} (hm:X.mg "range" = none) (ha:PDA X [a] gA) (hg:Gl X "range" := by rfl) (hs:starEach [a] X.env = [(false,eval a X.env)]:=by rfl):PID X tg (.Call (.Name "range" p) [a] [] pos) (rng1I gA) :=
 .mk fun B δ=>L2.PI.imp (pi_range1 hg hm (ha B δ) hs) fun σ H R ⟨items,en,e1,k⟩=>by
 unfold rng1I at e1
 cases e2:gA δ with
 | none=>rw [e2] at e1; cases e1
 | some ds =>
  rw [e2] at e1
  simp only [Option.bind_some] at e1
  unfold rng1D at e1
  split at e1
  ·split at e1
   ·rename_i j hj
    cases e1
    refine ⟨_,en,e2,fun vs H' s' r=>?_⟩
    rw [rps_cons] at r
    obtain ⟨x,t,rfl,r1,r2⟩:=r
    rw [rps_nil] at r2
    subst r2
    rw [rp_int] at r1
    subst r1
    refine ⟨j,rfl,hj.1,hj.2,k _ H' s' ?_⟩
    have:=itd_rng (K:=X.K) (B:=B) (H:=H') 0 j
    rw [Int.sub_zero] at this
    exact this
   ·cases e1
  ·cases e1
theorem pid_range2 {a b:Expr} {gA:Ds→Option (List D)} {p:Pos} (hm:X.mg "range" = none) (ha:PDA X [a,b] gA) (hg:Gl X "range" := by rfl) (hs:starEach [a,b] X.env = [(false,eval a X.env),(false,eval b X.env)]:=by rfl) (hs2:starEach [b] X.env = [(false,eval b X.env)]:=by rfl) :
  PID X tg (.Call (.Name "range" p) [a,b] [] pos) (rng2I gA):=.mk fun B δ=>L2.PI.imp (pi_range2 hg hm (ha B δ) hs hs2) fun σ H R ⟨items,en,e1,k⟩=>by
 unfold rng2I at e1
 cases e2:gA δ with
 | none=>rw [e2] at e1; cases e1
 | some ds =>
  rw [e2] at e1
  simp only [Option.bind_some] at e1
  unfold rng2D at e1
  split at e1
  ·split at e1
   ·rename_i i j hj
    cases e1
    refine ⟨_,en,e2,fun vs H' s' r=>?_⟩
    rw [rps_cons] at r
    obtain ⟨x,t,rfl,r1,r2⟩:=r
    rw [rps_cons] at r2
    obtain ⟨y,t',rfl,r2,r3⟩:=r2
    rw [rps_nil] at r3
    subst r3
    rw [rp_int] at r1 r2
    subst r1 r2
    exact ⟨i,j,rfl,⟨hj.1.1,hj.1.2,hj.2.1,hj.2.2⟩,k _ H' s' (itd_rng i j)⟩
   ·cases e1
  ·cases e1
theorem EnvS.lower {K:W.Frag} {H₀ H₁ H:Hp} {B₀:BS} {σ:St} {δ:Ds} (e:EnvS K H₁ B₀ H σ δ) (s:Same H₀ H₁) (b0:∀ a,B₀ a→H₀ a ≠ none):EnvS K H₀ B₀ H σ δ:=by
 obtain ⟨B,b1,b2,en⟩:=e.ex
 exact ⟨s.trans e.same,⟨B,b1,fun a z=>(b2 a z).imp id fun q=>s.free q,en⟩,fun i ds a h1 h2=>s.free (e.fr i ds a h1 h2),b0⟩
open Classical in
theorem psd_for {iter:Expr} {gi:Ds→Option (List D)} {idx:List Nat} {f:D→Ds→Option Ds} (hp:PassesOwn (model X.prog X.w) X.A X.env X.xe) (hc:X.calm = true) (hi:PID X tg iter gi) (hg:PGD X tg idx f) (hb:PSsD X body G)
  (hs:∀ x,foldedSetIterable iter X.env x = pure x:=by intro _; rfl):PSD X (.For tg iter body [] pos) (forG gi f G):=.mk fun H₀ B₀ δ pins s σ H D I ⟨r,en,e1,k⟩=>by
 unfold forG at e1
 obtain ⟨B,b1,b2,env⟩:=en.ex
 cases e2:gi δ with
 | none=>rw [e2] at e1; cases e1
 | some items =>
  rw [e2] at e1
  simp only [Option.bind_some] at e1
  have hg':PG X tg (fun v σ H Q=>∃ B d δ,tDG X.K idx f B d δ v σ H Q):=fun pins s σ H v u Q I r ⟨B,d,δ,h⟩=>hg B d δ pins s σ H v u Q I r h
  have hb':PSs X body (fun D σ H=>∃ H₀ B₀ δ,tDS X.K H₀ B₀ δ G D σ H):=fun pins s σ H D I ⟨H₀,B₀,δ,h⟩=>hb H₀ B₀ δ pins s σ H D I h
  refine ps_for hp hc (hi B δ) hg' hb' hs pins s σ H D I ⟨items,env,e2,fun J H1 s1 it=>?_⟩
  obtain ⟨Hh,hHh⟩:∃ Hh:Hp,Hh = fun b=>if B b∧¬ B₀ b then none else H1 b:=⟨_,rfl⟩
  have hoff:∀ b,¬ B b→Hh b = H1 b:=fun b n=>by rw [hHh]; exact if_neg fun z=>n z.1
  have hown:∀ b,B b→¬ B₀ b→Hh b = none:=fun b n n'=>by rw [hHh]; exact if_pos ⟨n,n'⟩
  have hin:∀ b,B₀ b→Hh b = H1 b:=fun b n=>by rw [hHh]; exact if_neg fun z=>z.2 n
  have hle:Same Hh H1:=fun b o h=>by
   by_cases z:B b∧¬ B₀ b
   ·rw [hown b z.1 z.2] at h; cases h
   ·rw [hHh] at h
    have h':(if B b∧¬ B₀ b then none else H1 b) = some o:=h
    rw [if_neg z] at h'
    exact h'
  have hS:Same H₀ Hh:=fun b o h=>by
   have h1:=s1 b o (en.same b o h)
   by_cases z:B b
   ·rcases b2 b z with q | q
    ·rw [hin b q]; exact h1
    ·rw [h] at q; cases q
   ·rw [hoff b z]; exact h1
  have env1:=env.same s1
  have start:EnvS X.K Hh B₀ H1 σ δ:=by
   refine ⟨hle,⟨B,b1,fun a z=>?_,env1⟩,fun i ds a h1 h2=>?_,fun a z=>?_⟩
   ·by_cases q:B₀ a
    ·exact .inl q
    ·exact .inr (hown a z q)
   ·have hn:=en.fr i ds a h1 h2
    have nb:¬ B₀ a:=fun z=>en.b0 a z hn
    obtain ⟨o,e3,a',e4,hB,_⟩:=Pd.get env1.all h1
    rw [h2] at e3
    cases e3
    cases e4
    exact hown a hB nb
   ·rw [hin a z]
    exact env1.bad a (b1 a z)
  refine ⟨fun i m σ H=>m = items.length - i∧i ≤ items.length∧∃ δi,EnvS X.K Hh B₀ H σ δi∧forD f G (items.drop i) δi = some r,⟨_,rfl,Nat.zero_le _,δ,start,e1⟩,?_⟩
  rintro i m σi Hi ⟨rfl,hil,δi,eni,ei⟩
  have gr:Gr H1 Hi B B:=fun b o n h=>⟨n,eni.same b o (by rw [hoff b n]; exact h)⟩
  by_cases hlt:i < items.length
  ·refine .inr ⟨it.go i Hi gr hlt,fun σ' H'=>∃ δn,EnvS X.K Hh B₀ H' σ' δn∧forD f G (items.drop (i + 1)) δn = some r,fun σ' H' ⟨δn,en',e'⟩=>⟨items.length - (i + 1),by omega,rfl,hlt,δn,en',e'⟩,fun x H' y=>?_⟩
   obtain ⟨sm,d,hd,rd⟩:=it.yld i Hi x H' gr y hlt
   obtain ⟨B',c1,c2,env0⟩:=eni.ex
   have rd':Rp X.K H' B' d x:=rd B' (fun b o n h=>by
    have h':Hh b = some o:=by rw [hoff b n]; exact h
    refine ⟨fun z=>?_,sm b o (eni.same b o h')⟩
    rcases c2 b z with q | q
    ·exact n (b1 b q)
    ·rw [h'] at q; cases q) env0.bad
   have env':=env0.same sm
   replace eni:=eni.grow sm
   have hdrop:items.drop i = d :: items.drop (i + 1):=by
    rw [List.drop_eq_getElem_cons hlt]
    congr 1
    rw [List.getElem?_eq_getElem hlt] at hd
    exact Option.some.inj hd
   rw [hdrop] at ei
   unfold forD at ei
   cases e3:f d δi with
   | none=>rw [e3] at ei; cases ei
   | some δ2 =>
    rw [e3] at ei
    simp only [Option.bind_some] at ei
    refine ⟨B',d,δi,δ2,rd',env',e3,fun σ' w en'=>?_⟩
    have enb:EnvS X.K Hh B₀ H' σ' δ2:=eni.wr c1 c2 (Same.refl _) w en'
    cases e4:G δ2 with
    | none=>rw [e4] at ei; cases ei
    | some rb =>
     rw [e4] at ei
     refine ⟨Hh,B₀,δ2,rb,enb,e4,?_⟩
     cases rb with
     | nx δn=>exact fun σ' H' en'=>⟨δn,en',ei⟩
     | ct δn=>exact fun σ' H' en'=>⟨δn,en',ei⟩
     | bk δn =>
      cases ei
      exact fun σ' H' en'=>k σ' H' (en'.lower hS en.b0)
     | rt d' =>
      cases ei
      exact fun v H' s' r'=>k v H' (hS.trans s') r'
     | rf d' =>
      cases ei
      exact fun p H' hp s' r'=>k p H' (hS.free hp) (hS.trans s') r'
  ·have e:i = items.length:=by omega
   subst e
   refine .inl ⟨it.stop _ Hi gr (Nat.le_refl _),?_⟩
   rw [List.drop_length] at ei
   cases ei
   exact k σi Hi (eni.lower hS en.b0)
structure PFD (X:Cx) (ifs:List Expr) (g:Ds→Option Bool):Prop where
 mk :: go:∀ B δ,PF X ifs (tDT X.K B δ g)
instance {X:Cx} {ifs:List Expr} {g:Ds→Option Bool}:CoeFun (PFD X ifs g) (fun _=>∀ B δ,PF X ifs (tDT X.K B δ g)):=⟨PFD.go⟩
theorem pfd_nil:PFD X [] noT:=.mk fun B δ pins s σ H Q I ⟨b,en,e,k⟩=>by
 cases e
 exact pf_nil pins s σ H Q I (k H (Same.refl H))
theorem pfd_one (h:PTD X c gt):PFD X [c] gt:=.mk fun B δ=>pf_one (h B δ)
theorem sComp_lt {n:Nat} {caps:List Nat} {σ:St} {j:Nat} (h:j < n):(sComp n caps σ)[j]? = some none:=by
 unfold sComp
 rw [List.getElem?_append_left (by simpa using h),List.getElem?_replicate,if_pos h]
theorem rep_un {K:W.Frag} {H:Hp} {B:BS}:∀ n:Nat,Paired (SlR K H B) (List.replicate n (none:Option V)) (List.replicate n Sl.un)
 | 0=>.nil
 | n + 1=>.cons trivial (rep_un n)
theorem caps_rel {K:W.Frag} {H:Hp} {B:BS} {σ:St} {δ:Ds} (en:Env K H B σ δ):∀ caps:List Nat,Paired (SlR K H B) (caps.map fun j=>(σ[j]?).join) (caps.map fun j=>capSl δ[j]?)
 | []=>.nil
 | j :: caps=>by
  refine .cons ?_ (caps_rel en caps)
  show SlR K H B (σ[j]?).join (capSl δ[j]?)
  cases h:δ[j]? with
  | none=>trivial
  | some sl =>
   cases sl with
   | un=>trivial
   | ow ds=>trivial
   | ex c n=>trivial
   | sh d =>
    obtain ⟨v,e,r⟩:=en.get h
    rw [e]
    exact ⟨v,rfl,r⟩
theorem capSl_ow {o:Option Sl} {ds:D} (h:capSl o = .ow ds):False:=by
 cases o with
 | none=>cases h
 | some s=>cases s <;> cases h
theorem dComp_ow {n:Nat} {caps:List Nat} {δ:Ds} {i:Nat} {ds:D} (h:(dComp n caps δ)[i]? = some (.ow ds)):False:=by
 unfold dComp at h
 by_cases hi:i < n
 ·rw [List.getElem?_append_left (by simpa using hi),List.getElem?_replicate,if_pos hi] at h
  cases h
 ·rw [List.getElem?_append_right (by simpa using hi),List.getElem?_map] at h
  cases q:caps[i - (List.replicate n Sl.un).length]? with
  | none=>rw [q] at h; cases h
  | some j =>
   rw [q] at h
   exact capSl_ow (Option.some.inj h)
theorem Env.comp {K:W.Frag} {H:Hp} {B:BS} {σ:St} {δ:Ds} (en:Env K H B σ δ) (n:Nat) (caps:List Nat):Env K H B (sComp n caps σ) (dComp n caps δ) :=
 ⟨Pd.app (rep_un n) (caps_rel en caps),en.bad,fun i j a ds es h1 _ _ _=>(dComp_ow h1).elim⟩
theorem SlR.gr {K:W.Frag} {H H':Hp} {B B':BS} {o:Option V} {s:Sl} (g:Gr H H' B B') (no:∀ ds,s ≠ .ow ds) (h:SlR K H B o s):SlR K H' B' o s:=by
 cases s with
 | un=>trivial
 | sh d=>obtain ⟨v,e,r⟩:=h; exact ⟨v,e,r.mono g⟩
 | ow ds=>exact absurd rfl (no ds)
 | ex c n=>obtain ⟨a,e,r⟩:=h; exact ⟨a,e,r.mono g⟩
theorem Pd.impG {K:W.Frag} {H H':Hp} {B B':BS} (g:Gr H H' B B'):∀ {σ:St} {δ:Ds},(∀ (i:Nat) (ds:D),δ[i]? ≠ some (.ow ds))→Paired (SlR K H B) σ δ→Paired (SlR K H' B') σ δ
 | _,_,_,.nil=>.nil
 | _,_,no,.cons r t=>.cons (r.gr g fun ds z=>no 0 ds (by rw [← z]; rfl)) (Pd.impG g (fun i ds z=>no (i + 1) ds (by simpa using z)) t)
noncomputable def tDF (K:W.Frag) (B:BS) (δ:Ds) (g:Ds→Option D):TE:=fun σ H Q=>∃ d,Env K H B σ δ∧g δ = some d∧∀ p H',H p = none→Same H H'→RpO K H' (fun a=>B a ∨ a = p) d p→Q (.ref p) H'
structure PDF (X:Cx) (e:Expr) (g:Ds→Option D):Prop where
 mk :: go:∀ B δ,PE X e (tDF X.K B δ g)
instance {X:Cx} {e:Expr} {g:Ds→Option D}:CoeFun (PDF X e g) (fun _=>∀ B δ,PE X e (tDF X.K B δ g)):=⟨PDF.go⟩
theorem tD.toF {K:W.Frag} {B:BS} {δ:Ds} {g:Ds→Option D} {σ:St} {H:Hp} {Q:VK} (h:tD K B δ g σ H Q):tDF K B δ g σ H Q:=by
 obtain ⟨d,en,e,k⟩:=h
 exact ⟨d,en,e,fun p H' hp s r=>k _ H' s (r.rp (fun a z=>.inl z) (en.free hp))⟩
theorem PDF.pd {X:Cx} {e:Expr} {g:Ds→Option D} (h:PDF X e g):PD X e g:=.mk fun B δ=>(h B δ).imp fun σ H Q z=>z.toF
theorem comp_read {K:W.Frag} {B:BS} {δ:Ds} {σ:St} {H:Hp} {Q:VK} {n:Nat} {caps:List Nat} {gi:Ds→Option (List D)} {idx:List Nat} {f:D→Ds→Option Ds} {gt:Ds→Option Bool} {ge:Ds→Option D} (hidx:∀ j ∈ idx,j < n)
  (h:tDF K B δ (compG n caps gi f gt ge) σ H Q) :
  tComp n caps (tDI K B δ gi) (fun v σ H Q=>∃ B d δ,tDG K idx f B d δ v σ H Q) (fun σ H Q=>∃ B δ,tDT K B δ gt σ H Q) (fun σ H Q=>∃ B δ,tD K B δ ge σ H Q) σ H Q:=by
 obtain ⟨d,en,h,k⟩:=h
 unfold compG at h
 cases e1:gi δ with
 | none=>rw [e1] at h; cases h
 | some items =>
  rw [e1] at h
  simp only [Option.bind_some] at h
  by_cases hsz:items.length ≤ sizeLine
  ·rw [if_pos hsz] at h
   cases e2:compD f gt ge (dComp n caps δ) items with
   | none=>rw [e2] at h; cases h
   | some out =>
    rw [e2] at h
    cases h
    refine ⟨items,en,e1,fun J H1 s1 it=>fun L hL=>?_⟩
    have en1:=en.same s1
    have nBL:¬ B L:=en1.free hL
    obtain ⟨Bp,hBp⟩:∃ Bp:BS,Bp = fun a=>B a ∨ a = L:=⟨_,rfl⟩
    have bpL:Bp L:=by rw [hBp]; exact .inr rfl
    have bpB:∀ a,B a→Bp a:=fun a z=>by rw [hBp]; exact .inl z
    have bpI:∀ a,Bp a→B a ∨ a = L:=fun a z=>by rw [hBp] at z; exact z
    have gr:∀ {H2:Hp},Same H1 H2→Gr H1 H2 B Bp:=fun {H2} s2 b o nb hb=>⟨(fun z=>by
     rcases bpI b z with q | q
     ·exact nb q
     ·subst q; rw [hL] at hb; cases hb),s2 b o hb⟩
    refine ⟨fun i m ys H2=>m = items.length - i∧i ≤ items.length∧H2 L = some (.lst ys)∧Same H1 H2∧ys.length ≤ i∧∃ pre rest,out = pre ++ rest∧Rps K H2 Bp pre ys∧compD f gt ge (dComp n caps δ) (items.drop i) = some rest,
     ⟨_,rfl,Nat.zero_le _,upd_same,same_upd hL,Nat.le_refl _,[],out,rfl,by rw [rps_nil],e2⟩,?_⟩
    rintro i m ys H2 ⟨rfl,hil,hD,s2,hyl,pre,rest,ho,rp,ec⟩
    have en2:Env K H2 Bp (sComp n caps σ) (dComp n caps δ):=by
     refine ⟨Pd.impG (gr s2) (fun i ds z=>dComp_ow z) (en1.comp n caps).all,fun a z=>?_,fun i j a ds es h1 _ _ _=>(dComp_ow h1).elim⟩
     rcases bpI a z with q | q
     ·exact (en1.same s2).bad a q
     ·subst q; rw [hD]; exact fun z=>nomatch z
    by_cases hlt:i < items.length
    ·refine .inr ⟨it.go i H2 (Gr.same s2) hlt,fun x H3 y=>?_⟩
     obtain ⟨sm,dx,hdx,rx⟩:=it.yld i H2 x H3 (Gr.same s2) y hlt
     have rx':Rp K H3 Bp dx x:=rx Bp (gr (s2.trans sm)) en2.bad
     replace en2:=en2.same sm
     replace s2:=s2.trans sm
     replace hD:=sm _ _ hD
     replace rp:=rp.same sm
     have hdrop:items.drop i = dx :: items.drop (i + 1):=by
      rw [List.drop_eq_getElem_cons hlt]
      congr 1
      rw [List.getElem?_eq_getElem hlt] at hdx
      exact Option.some.inj hdx
     rw [hdrop] at ec
     unfold compD at ec
     cases e3:f dx (dComp n caps δ) with
     | none=>rw [e3] at ec; cases ec
     | some δ' =>
      rw [e3] at ec
      dsimp only at ec
      refine ⟨Bp,dx,dComp n caps δ,δ',rx',en2,e3,fun σ4 w en4=>⟨⟨w.len,fun j v z=>?_⟩,?_⟩⟩
      ·by_cases hj:j ∈ idx
       ·rw [sComp_lt (hidx j hj)] at z; cases z
       ·rw [(w.oth j hj).1]; exact z
      ·cases e4:gt δ' with
       | none=>rw [e4] at ec; cases ec
       | some t =>
        rw [e4] at ec
        refine ⟨Bp,δ',t,en4,e4,fun H5 s5=>?_⟩
        cases t with
        | false =>
         rw [if_neg Bool.false_ne_true]
         exact ⟨items.length - (i + 1),by omega,rfl,hlt,s5 _ _ hD,s2.trans s5,by omega,pre,rest,ho,rp.same s5,ec⟩
        | true =>
         rw [if_pos rfl]
         dsimp only at ec
         cases e5:ge δ' with
         | none=>rw [e5] at ec; cases ec
         | some yd =>
          rw [e5] at ec
          dsimp only at ec
          cases e6:compD f gt ge (dComp n caps δ) (items.drop (i + 1)) with
          | none=>rw [e6] at ec; cases ec
          | some rest' =>
           rw [e6] at ec
           cases ec
           refine ⟨Bp,δ',yd,en4.same s5,e5,fun v H6 s6 r6=>?_⟩
           have hD6:H6 L = some (.lst ys):=s6 _ _ (s5 _ _ hD)
           have g6:Gr H6 (upd H6 L (.lst (ys ++ [v]))) Bp Bp:=fun b o nb hb=>⟨nb,by
            rw [upd_ne (fun z=>nb (by rw [z]; exact bpL))]; exact hb⟩
           refine ⟨hD6,by omega,items.length - (i + 1),by omega,rfl,hlt,upd_same,fun b o hb=>?_,by simp; omega,pre ++ [yd],rest',by rw [ho]; simp,?_,e6⟩
           ·have nbL:b ≠ L:=fun z=>by rw [z,hL] at hb; cases hb
            rw [upd_ne nbL]
            exact s6 _ _ (s5 _ _ (s2 _ _ hb))
           ·exact (Rps.snoc ((rp.same s5).same s6) r6).mono g6
    ·have e:i = items.length:=by omega
     subst e
     refine .inl ⟨it.stop _ H2 (Gr.same s2) (Nat.le_refl _),?_⟩
     rw [List.drop_length] at ec
     have ec':([]:List D) = rest:=Option.some.inj ec
     subst ec'
     rw [List.append_nil] at ho
     subst ho
     refine k L H2 (s1.free hL) (s1.trans s2) ⟨ys,hD,?_⟩
     rw [hBp] at rp
     exact rp
  ·rw [if_neg hsz] at h; cases h
theorem pdf_comp {sc scope:Scope} {elt iter:Expr} {ifs:List Expr} {N':List Str} {n:Nat} {caps:List Nat} {gi:Ds→Option (List D)} {idx:List Nat} {f:D→Ds→Option Ds} {ge:Ds→Option D}
  (hc:X.calm = true) (hsc:X.env.scope = sc) (ok:CompOk sc scope X.N N' n caps) (hidx:∀ j ∈ idx,j < n) (hi:PID X tg iter gi)
  (hg:∀ cl s H ex,PGD (cxComp X scope cl N' s H ex) tg idx f) (ht:∀ cl s H ex,PFD (cxComp X scope cl N' s H ex) ifs gt) (he:∀ cl s H ex,PD (cxComp X scope cl N' s H ex) elt ge)
  (hs:∀ x,foldedSetIterable iter X.env x = pure x:=by intro _; rfl) :
  PDF X (.ListComp elt [⟨tg,iter,ifs,0⟩] scope pos) (compG n caps gi f gt ge):=.mk fun B δ =>
 (pe_comp hc hsc ok (hi B δ) (g:=fun v σ H Q=>∃ B d δ,tDG X.K idx f B d δ v σ H Q) (tt:=fun σ H Q=>∃ B δ,tDT X.K B δ gt σ H Q) (te:=fun σ H Q=>∃ B δ,tD X.K B δ ge σ H Q)
  (fun cl s H ex pins s' σ H v u Q I r ⟨B,d,δ,h⟩=>hg cl s _ ex B d δ pins s' σ H v u Q I r h)
  (fun cl s H ex pins s' σ H Q I ⟨B,δ,h⟩=>ht cl s _ ex B δ pins s' σ H Q I h)
  (fun cl s H ex pins s' σ H Q I ⟨B,δ,h⟩=>he cl s _ ex B δ pins s' σ H Q I h) hs).imp fun σ H Q h=>comp_read hidx h
theorem pd_comp {sc scope:Scope} {elt iter:Expr} {ifs:List Expr} {N':List Str} {n:Nat} {caps:List Nat} {gi:Ds→Option (List D)} {idx:List Nat} {f:D→Ds→Option Ds} {ge:Ds→Option D}
  (hc:X.calm = true) (hsc:X.env.scope = sc) (ok:CompOk sc scope X.N N' n caps) (hidx:∀ j ∈ idx,j < n) (hi:PID X tg iter gi)
  (hg:∀ cl s H ex,PGD (cxComp X scope cl N' s H ex) tg idx f) (ht:∀ cl s H ex,PFD (cxComp X scope cl N' s H ex) ifs gt) (he:∀ cl s H ex,PD (cxComp X scope cl N' s H ex) elt ge)
  (hs:∀ x,foldedSetIterable iter X.env x = pure x:=by intro _; rfl) :
  PD X (.ListComp elt [⟨tg,iter,ifs,0⟩] scope pos) (compG n caps gi f gt ge):=(pdf_comp hc hsc ok hidx hi hg ht he hs).pd
theorem psd_setComp (i:Nat) {y:Str} {py spos:Pos} {sc scope:Scope} {elt iter:Expr} {ifs:List Expr} {N':List Str} {n:Nat} {caps:List Nat} {gi:Ds→Option (List D)} {idx:List Nat} {f:D→Ds→Option Ds} {ge:Ds→Option D}
  (hN:X.N.Nodup) (hc:X.calm = true) (hsc:X.env.scope = sc) (ok:CompOk sc scope X.N N' n caps) (hidx:∀ j ∈ idx,j < n) (hi:PID X tg iter gi)
  (hg:∀ cl s H ex,PGD (cxComp X scope cl N' s H ex) tg idx f) (ht:∀ cl s H ex,PFD (cxComp X scope cl N' s H ex) ifs gt) (he:∀ cl s H ex,PD (cxComp X scope cl N' s H ex) elt ge)
  (hiN:X.N[i]? = some y:=by rfl) (hy:Loc X.env.scope y:=by first | exact Or.inl rfl | exact Or.inr rfl)
  (hsw:swapsWith (.ListComp elt [⟨tg,iter,ifs,0⟩] scope pos) (some (.Name y py)) spos.line X.env = pure true:=by rfl)
  (hs:∀ x,foldedSetIterable iter X.env x = pure x:=by intro _; rfl)
  (hf:X.fn y = true ∨ X.env.scope.names.lookup y = some .local:=by first | exact .inl rfl | exact .inr rfl | assumption) :
  PSD X (.Assign [.Name y py] (.ListComp elt [⟨tg,iter,ifs,0⟩] scope pos) spos) (setD (gN i) (compG n caps gi f gt ge)):=.mk fun H₀ B₀ δ pins s σ H D I ⟨r,en,e1,k⟩=>by
 unfold setD at e1
 obtain ⟨B,b1,b2,env⟩:=en.ex
 cases e2:compG n caps gi f gt ge δ with
 | none=>rw [e2] at e1; cases e1
 | some d =>
  rw [e2] at e1
  cases e1
  refine ps_setComp (i:=i) hN hiN hy hc hsc ok (hi B δ) (g:=fun v σ H Q=>∃ B d δ,tDG X.K idx f B d δ v σ H Q) (tt:=fun σ H Q=>∃ B δ,tDT X.K B δ gt σ H Q) (te:=fun σ H Q=>∃ B δ,tD X.K B δ ge σ H Q)
   (fun cl s H ex pins s' σ H v u Q I r ⟨B,d,δ,h⟩=>hg cl s _ ex B d δ pins s' σ H v u Q I r h)
   (fun cl s H ex pins s' σ H Q I ⟨B,δ,h⟩=>ht cl s _ ex B δ pins s' σ H Q I h)
   (fun cl s H ex pins s' σ H Q I ⟨B,δ,h⟩=>he cl s _ ex B δ pins s' σ H Q I h) hsw hs hf pins s σ H D I (comp_read hidx (tD.toF ⟨d,env,e2,fun v H' s' r'=>k _ H' (en.wr b1 b2 s' wr_set ((env.same s').set i r'))⟩))
end
theorem start_rel {K:W.Frag} {H:Hp} {B:BS} {N:List Str}:∀ {ds:List D} {vs:List V},Rps K H B ds vs→Paired (SlR K H B) (vs.map some) (ds.map Sl.sh)
 | [],_,h=>by rw [rps_nil] at h; subst h; exact .nil
 | d :: ds,_,h=>by
  rw [rps_cons] at h
  obtain ⟨x,r,rfl,h1,h2⟩:=h
  exact .cons ⟨x,rfl,h1⟩ (start_rel (N:=N) h2)
theorem dStart_ow {N:List Str} {ds:List D} {i:Nat} {es:D} (h:(dStart N ds)[i]? = some (.ow es)):False:=by
 unfold dStart at h
 by_cases hi:i < ds.length
 ·rw [List.getElem?_append_left (by simpa using hi),List.getElem?_map] at h
  cases q:ds[i]? with
  | none=>rw [q] at h; cases h
  | some d=>rw [q] at h; cases h
 ·rw [List.getElem?_append_right (by simpa using hi),List.getElem?_replicate] at h
  split at h <;> cases h
section
variable {P:Program} {w:World} {K:W.Frag} {mg:Str→Option Value} {base:Heap}
theorem okD {x qual:Str} {st:Stmt} {fa:Addr} {fd:FuncData} {N ps:List Str} {k:Nat} {f:List D→Option D} {G:Ds→Option Res} (F:Fun K x qual st fa fd) (S:FnScope N ps (defScope st))
  (body:∀ (cdv:Value) (A:Around) (outer:List PySem.Env) (s:Shared) (H:Hp) (E:XK),Room k (A.deeper (envOfC qual (defScope st) s.heap.objs.size fa cdv))→PSsD (cxOf CX0 P w K mg base N qual (defScope st) fa cdv A outer s H E).nox (defBody st) G)
  (hf:∀ ds d,f ds = some d→ds.length = ps.length∧(G (dStart N ds) = some (.rt d) ∨ (d = .non∧∃ δ,G (dStart N ds) = some (.nx δ)) ∨ G (dStart N ds) = some (.rf d)∧isL d = false)) :
  FnOk P w K mg base CX0 (k + 1) fa fd ps (spD K f):=by
 refine F.ok S (fun vs H Q E ⟨B,ds,d,_,r,h,_⟩=>?_) (fun cdv A outer s H vs Q E hr ⟨B,ds,d,hb,r,h,q⟩=>?_)
 ·rw [r.length]; exact (hf ds d h).1
 ·refine ⟨_,body cdv A outer s H E hr H B (dStart N ds),?_⟩
  have en:EnvS K H B H (L2.start N vs) (dStart N ds):=by
   refine ⟨Same.refl H,⟨B,fun _ z=>z,fun _ z=>.inl z,⟨?_,hb,fun i j a ds' es h1 _ _ _=>(dStart_ow h1).elim⟩⟩,fun i ds' a h1 _=>(dStart_ow h1).elim,hb⟩
   unfold L2.start dStart
   rw [r.length]
   exact Pd.app (start_rel (N:=N) r) (rep_un _)
  rcases (hf ds d h).2 with e | ⟨rfl,δ,e⟩ | ⟨e,hn⟩
  ·exact ⟨_,en,e,fun v H' s' r'=>q v H' s' r'⟩
  ·exact ⟨_,en,e,fun σ' H' en'=>q .non H' en'.same (by rw [rp_non])⟩
  ·exact ⟨_,en,e,fun p H' hp s' r'=>q _ H' s' ((r'.toO hn).rp (fun a z=>.inl z) (fun z=>hb p z hp))⟩
noncomputable def spN (K:W.Frag) (f:List D→Option D):Sp:=fun vs H Q _=>∃ (B:BS) (ds:List D) (d:D),(∀ a,B a→H a ≠ none)∧Rps K H B ds vs∧f ds = some d∧∀ p H',H p = none→Same H H'→RpO K H' (fun a=>B a ∨ a = p) d p→Q (.ref p) H'
theorem okN {x qual:Str} {st:Stmt} {fa:Addr} {fd:FuncData} {N ps:List Str} {k:Nat} {f:List D→Option D} {G:Ds→Option Res} (F:Fun K x qual st fa fd) (S:FnScope N ps (defScope st))
  (body:∀ (cdv:Value) (A:Around) (outer:List PySem.Env) (s:Shared) (H:Hp) (E:XK),Room k (A.deeper (envOfC qual (defScope st) s.heap.objs.size fa cdv))→PSsD (cxOf CX0 P w K mg base N qual (defScope st) fa cdv A outer s H E).nox (defBody st) G)
  (hf:∀ ds d,f ds = some d→ds.length = ps.length∧G (dStart N ds) = some (.rf d)∧isL d = false) :
  FnOk P w K mg base CX0 (k + 1) fa fd ps (spN K f):=by
 refine F.ok S (fun vs H Q E ⟨B,ds,d,_,r,h,_⟩=>?_) (fun cdv A outer s H vs Q E hr ⟨B,ds,d,hb,r,h,q⟩=>?_)
 ·rw [r.length]; exact (hf ds d h).1
 ·refine ⟨_,body cdv A outer s H E hr H B (dStart N ds),?_⟩
  have en:EnvS K H B H (L2.start N vs) (dStart N ds):=by
   refine ⟨Same.refl H,⟨B,fun _ z=>z,fun _ z=>.inl z,⟨?_,hb,fun i j a ds' es h1 _ _ _=>(dStart_ow h1).elim⟩⟩,fun i ds' a h1 _=>(dStart_ow h1).elim,hb⟩
   unfold L2.start dStart
   rw [r.length]
   exact Pd.app (start_rel (N:=N) r) (rep_un _)
  exact ⟨_,en,(hf ds d h).2.1,fun p H' hp s' r'=>q p H' hp s' (r'.toO (hf ds d h).2.2)⟩
end
end DL
namespace L2
open PySem PySem.Spec PyProof.Rows
section
variable {X:Cx}
theorem strs_are:∀ {ys:List Str} {us:List Value},Vals (ys.map V.str) us→StrsAre us ys
 | [],_,r=>by rw [List.map_nil] at r; cases r; exact .nil
 | y :: ys,_,r=>by
  rw [List.map_cons] at r
  cases r with
  | cons r1 r2 =>
   obtain ⟨t,e⟩:=r1
   subst e
   exact .cons y t (strs_are r2)
theorem mt_join:MtR X "str.join" (fun x xs H Q=>∃ (sep:Str) (p:Addr) (ys:List Str),x = .str sep∧xs = [.ref p]∧SqL X.K H p (ys.map V.str)∧(ys.map (·.length)).sum + ys.length * sep.length ≤ 16777216∧Q (.str (Txt.join sep ys)) H):=by
 intro pins s σ H x xs v us Q I rx rs h
 obtain ⟨sep,p,ys,rfl,rfl,hq,hz,q⟩:=h
 obtain ⟨t,rfl⟩:=rx
 obtain ⟨u,rfl,ru⟩:=rs.one
 cases ru
 obtain ⟨its,rv,pl,_⟩:=I.list hq
 exact join_list pl.isList (by simpa using strs_are rv) hz fun t' k=>⟨.str _,H,I.tok k,⟨t',rfl⟩,q⟩
theorem part_of {u:Value} {o:Option Int} (p:IsPart u o):∃ l:Option (Int × Tok),u = partValue l∧l.map (·.1) = o:=by
 cases p with
 | none=>exact ⟨none,rfl,rfl⟩
 | int i t=>exact ⟨some (i,t),rfl,rfl⟩
theorem sl_str:SlR X (fun x lo hi H Q=>∃ z,x = .str z∧z.length ≤ sizeLine∧Q (.str (Txt.slice z lo hi)) H):=by
 intro pins s σ H x v vl vu lo hi sl Q I rx hs pl pu h
 obtain ⟨z,rfl,hz,q⟩:=h
 obtain ⟨t,rfl⟩:=rx
 obtain ⟨l,rfl,rfl⟩:=part_of pl
 obtain ⟨u,rfl,rfl⟩:=part_of pu
 refine ⟨"str",_,F.slot_str_getitem.lookup,typeIs_str _ _ _,wpAny_getItem_str_slice (l:=l) (u:=u) (st:=none) ?_ rfl (post_val_or_str ⟨Nat.le_trans (Txt.slice_le z _ _) hz,fun t' k=>⟨.str _,H,I.tok k,⟨t',rfl⟩,q⟩⟩)⟩
 obtain ⟨o,h1,h2,h3⟩:=hs
 exact ⟨o,h1,h2,h3⟩
end
end L2
namespace DL
open PySem PySem.Spec PyProof.Rows L2
noncomputable def tyD:D→String
 | .non => "NoneType" | .bl _ => "bool" | .int _ => "int" | .str _ => "str" | .tup _ => "tuple" | .lst _ => "list" | .dct _ _ => "dict"
noncomputable def okT (T:String) (f:D→Bool):Prop:=∀ (K:W.Frag) (d:D),W.kitOne K (.type (tyD d)) (.type T) = some (f d)
theorem okT_bool:okT "bool" isBool:=fun K d=>by cases d <;> kernel_rfl
theorem okT_tuple:okT "tuple" isTup:=fun K d=>by cases d <;> kernel_rfl
section
variable {X:Cx}
theorem call_isi {T:String} {f:D→Bool} (hT:okT T f):CallR X (.builtin "isinstance") (fun xs H Q=>∃ B d x,xs = [x,.ty T]∧Rp X.K H B d x∧Q (.bl (f d)) H):=by
 intro pins s σ H xs us Q I rs h
 obtain ⟨B,d,x,rfl,r,q⟩:=h
 obtain ⟨u,c,rfl,ru,rc⟩:=rs.two
 obtain rfl:c = Value.type T:=rc
 have fin:∀ tk,EP X pins σ Q (.bool (f d)) { s with toks:=tk }:=fun tk=>⟨.bl _,H,I.tok tk,rfl,q⟩
 have e:=hT X.K d
 cases d with
 | non=>rw [rp_non] at r; subst r; cases (show u = Value.none from ru); exact W.kia_one W.kitx_none I.kIn True.intro e (fun z=>nomatch z) fin
 | bl y=>rw [rp_bl] at r; subst r; cases (show u = Value.bool y from ru); exact W.kia_one W.kitx_bool I.kIn True.intro e (fun z=>nomatch z) fin
 | int i=>rw [rp_int] at r; subst r; obtain ⟨t,rfl⟩:=(show ∃ t,u = Value.int i t from ru); exact W.kia_one W.kitx_int I.kIn True.intro e (fun z=>nomatch z) fin
 | str y=>rw [rp_str] at r; subst r; obtain ⟨t,rfl⟩:=(show ∃ t,u = Value.str y t from ru); exact W.kia_one W.kitx_str I.kIn True.intro e (fun z=>nomatch z) fin
 | tup ds =>
  rw [rp_tup] at r
  obtain ⟨a,xs,rfl,hq,_⟩:=r
  cases (show u = Value.ref a from ru)
  obtain ⟨its,_,p,_⟩:=I.tuple hq.to
  obtain ⟨o,h1,h2,_⟩:=p
  exact W.kia_one W.kitx_tuple I.kIn ⟨o,h1,h2⟩ e (fun z=>nomatch z) fin
 | lst ds =>
  rw [rp_lst] at r
  obtain ⟨a,xs,rfl,hq,_⟩:=r
  cases (show u = Value.ref a from ru)
  obtain ⟨its,_,p,_⟩:=I.list hq.to
  obtain ⟨o,n,h1,h2,_⟩:=p
  exact W.kia_one W.kitx_list I.kIn ⟨o,h1,h2⟩ e (fun z=>nomatch z) fin
 | dct ks ds =>
  rw [rp_dctG] at r
  obtain ⟨a,xs,rfl,_,hq,_⟩:=r
  cases (show u = Value.ref a from ru)
  cases ks with
  | inl ks =>
   obtain ⟨_,_,vs,_,p⟩:=(show ObjOk X.prog X.w H s.heap a (.dK (ks.zip xs)) from I.hok a _ hq)
   obtain ⟨o,es,ep,h1,h2,_⟩:=p
   exact W.kia_one W.kitx_dict I.kIn ⟨o,h1,h2.1⟩ e (fun z=>nomatch z) fin
  | inr ks =>
   obtain ⟨_,_,vs,_,o,es,ep,h1,h2,_⟩:=(show ObjOk X.prog X.w H s.heap a (.dT (ks.zip xs)) from I.hok a _ hq)
   exact W.kia_one W.kitx_dict I.kIn ⟨o,h1,h2.1⟩ e (fun z=>nomatch z) fin
theorem pd_isi {T:String} {f:D→Bool} {Tn:Str} {e:Expr} {g:Ds→Option D} {p p2 pos:Pos} (hT:okT T f) (hb:bootBuiltins Tn = some (.type T)) (hm:X.mg "isinstance" = none) (hmT:X.mg Tn = none) (h:PD X e g) (hg:Gl X "isinstance" := by rfl) (hgT:Gl X Tn:=by rfl)
  (hn:Tn ≠ "__name__" := by decide) (hd:(Tn == ("__debug__" : Str)) = false:=by decide)
  (he:starEach [e,.Name Tn p2] X.env = (false,eval e X.env) :: starEach [.Name Tn p2] X.env:=by rfl) (he2:starEach [.Name Tn p2] X.env = (false,eval (.Name Tn p2) X.env) :: starEach [] X.env:=by rfl)
  (hpl:(backTo pos (starEach [.Name Tn p2] X.env)).any (·.1) = false:=by rfl) :
  PD X (.Call (.Name "isinstance" p) [e,.Name Tn p2] [] pos) (isiG f g) :=
 .mk fun B δ=>(pe_callB (call_isi hT) hg hm PyProof.Rows.boot_isinstance (pa_cons (h B δ) (pa_cons (pe_bltn (v:=.ty T) hgT hmT hb rfl hn hd) pa_nil he2) he) (by decide) (by decide) he hpl).imp fun σ H Q ⟨d,en,h,k⟩=>by
  unfold isiG at h
  cases e1:g δ with
  | none=>rw [e1] at h; cases h
  | some x =>
   rw [e1] at h
   cases h
   exact ⟨x,en,e1,fun v H1 s1 r1=>⟨B,x,v,rfl,r1,k _ H1 s1 (by rw [rp_bl])⟩⟩
theorem op2_ii {K:W.Frag} {C:Int→Int→Prop} [∀ i j,Decidable (C i j)] {g:Int→Int→V} {g':Int→Int→D} (hg:∀ i j H B,Rp K H B (g' i j) (g i j)):Op2 K (rI C g) (ii fun i j=>if C i j then some (g' i j) else none):=by
 intro H B x y dx dy d Q hb rx ry h k
 cases dx <;> cases dy <;> simp only [ii] at h <;> try cases h
 rename_i i j
 split at h
 ·cases h
  rw [rp_int] at rx ry
  subst rx ry
  exact ⟨i,j,rfl,rfl,by assumption,k _ H (Same.refl H) (hg i j H B)⟩
 ·cases h
theorem op2_i0 {K:W.Frag} {g:Int→Int→V} {g':Int→Int→D} (hg:∀ i j H B,Rp K H B (g' i j) (g i j)):Op2 K (rI0 g) (ii fun i j=>some (g' i j)):=by
 intro H B x y dx dy d Q hb rx ry h k
 cases dx <;> cases dy <;> simp only [ii] at h <;> try cases h
 rename_i i j
 rw [rp_int] at rx ry
 subst rx ry
 exact ⟨i,j,rfl,rfl,k _ H (Same.refl H) (hg i j H B)⟩
instance decDiv (i j:Int):Decidable (CDiv i j):=inferInstanceAs (Decidable (0 < j∧j < 1073741824))
instance decPow (i j:Int):Decidable (CPow i j):=inferInstanceAs (Decidable (0 ≤ j∧j ≤ 1000000∧i.natAbs < 2 ^ 64))
variable {e a b:Expr} {pos:Pos} {g ga gb:Ds→Option D}
theorem pd_sub (ha:PD X a ga) (hb:PD X b gb):PD X (.BinOp a .Sub b pos) (o2 ga gb subD):=pd_op op_sub (op2_i0 (g':=fun i j=>.int (i - j)) fun _ _ _ _=>by rw [rp_int]) ha hb
theorem pd_fdiv (ha:PD X a ga) (hb:PD X b gb):PD X (.BinOp a .FloorDiv b pos) (o2 ga gb fdivD):=pd_op op_fdiv (op2_ii (C:=CDiv) (g':=fun i j=>.int (i / j)) fun _ _ _ _=>by rw [rp_int]) ha hb
theorem pd_mod (ha:PD X a ga) (hb:PD X b gb):PD X (.BinOp a .Mod b pos) (o2 ga gb modD):=pd_op op_mod (op2_ii (C:=fun _ j=>0 < j) (g':=fun i j=>.int (i % j)) fun _ _ _ _=>by rw [rp_int]) ha hb
theorem pd_pow (ha:PD X a ga) (hb:PD X b gb):PD X (.BinOp a .Pow b pos) (o2 ga gb powD):=pd_op op_pow (op2_ii (C:=CPow) (g':=fun i j=>.int (i ^ j.toNat)) fun _ _ _ _=>by rw [rp_int]) ha hb
end
end DL
namespace L2
open PySem PySem.Spec PyProof.Rows
section
variable {X:Cx}
noncomputable def rCatL (K:W.Frag):R2:=fun x y H Q=>∃ l b xs zs,x = .ref l∧y = .ref b∧SqL K H l xs∧SqL K H b zs∧xs.length + zs.length ≤ sizeLine∧∀ p,H p = none→Q (.ref p) (upd H p (.lst (xs ++ zs)))
theorem op_catL:OpR X (binaryOp .Add) (rCatL X.K):=by
 intro pins s σ H x y v u Q I rx ry h
 obtain ⟨l,b,xs,zs,rfl,rfl,hH,hB,hz,q⟩:=h
 cases rx
 cases ry
 obtain ⟨its,r,p1,z1⟩:=I.list hH
 obtain ⟨its2,r2,p2,z2⟩:=I.list hB
 obtain ⟨⟨cls,dd,data,sl⟩,ho,hc,n,hd⟩:=p1.isList
 obtain ⟨⟨cls2,dd2,data2,sl2⟩,ho2,hc2,n2,hd2⟩:=p2.isList
 simp only at hc hd hc2 hd2
 subst hc hd hc2 hd2
 have e:its.toArray ++ its2.toArray = (its ++ its2).toArray:=by simp
 have hsz:its.toArray.size + its2.toArray.size ≤ sizeLine:=by
  rw [List.size_toArray,List.size_toArray,← r.length,← r2.length]; exact hz
 refine concat_meets ⟨_,ho,rfl⟩ ⟨_,ho2,rfl⟩ noFill_list_add seq_list_add PySem.F.slot_list_add PySem.F.entry_list_add (PySem.F.args_list_add_2 _ _) (list_addW l b its.toArray its2.toArray n n2 dd dd2 sl sl2 hsz) ⟨ho,ho2,?_⟩
 rw [e]
 exact ⟨.ref _,_,I.lnew (t':=s.toks) (r.append r2) (by rw [List.length_append]; exact hz),rfl,q _ I.fresh⟩
end
end L2
namespace DL
open PySem PySem.Spec PyProof.Rows L2
section
variable {X:Cx} {K:W.Frag} {e a b:Expr} {es:List Expr} {pos p:Pos} {g ga gb:Ds→Option D} {gA:Ds→Option (List D)}
theorem fresh_not {H:Hp} {B:BS} (hb:∀ a,B a→H a ≠ none) {p:Addr} (h:H p = none):¬ B p:=fun z=>hb p z h
theorem rp_newL {H:Hp} {B:BS} {p:Addr} {ds:List D} {xs:List V} (hb:∀ a,B a→H a ≠ none) (h:H p = none) (r:Rps K H B ds xs):Rp K (upd H p (.lst xs)) B (.lst ds) (.ref p):=by
 rw [rp_lst]
 exact ⟨p,xs,rfl,.inl ⟨fresh_not hb h,.inl upd_same⟩,r.same (same_upd h)⟩
theorem rp_newT {H:Hp} {B:BS} {p:Addr} {ds:List D} {xs:List V} (hb:∀ a,B a→H a ≠ none) (h:H p = none) (r:Rps K H B ds xs):Rp K (upd H p (.tup xs)) B (.tup ds) (.ref p):=by
 rw [rp_tup]
 exact ⟨p,xs,rfl,⟨fresh_not hb h,upd_same⟩,r.same (same_upd h)⟩
theorem op2_lt:Op2 K (rI0 fun i j=>.bl (decide (i < j))) ltD:=op2_i0 (g':=fun i j=>.bl (decide (i < j))) fun _ _ _ _=>by rw [rp_bl]
theorem op2_gt:Op2 K (rI0 fun i j=>.bl (decide (j < i))) gtD:=op2_i0 (g':=fun i j=>.bl (decide (j < i))) fun _ _ _ _=>by rw [rp_bl]
theorem eqS_ok {H:Hp} {B:BS} {x y:V} {dx dy:D} {b:Bool} (rx:Rp K H B dx x) (ry:Rp K H B dy y) (h:eqS dx dy = some b):scal x y = true∧decide (x = y) = b:=by
 cases dx <;> cases dy <;> simp only [eqS] at h <;> try cases h
 all_goals
  simp only [rp_non,rp_bl,rp_int,rp_str] at rx ry
  subst rx ry
  refine ⟨rfl,?_⟩
  simp
theorem op2_eq:Op2 K rEq eqD:=by
 intro H B x y dx dy d Q hb rx ry h k
 unfold eqD at h
 cases e:eqS dx dy with
 | none=>rw [e] at h; cases h
 | some b =>
  rw [e] at h
  cases h
  obtain ⟨h1,h2⟩:=eqS_ok rx ry e
  exact ⟨h1,by rw [h2]; exact k _ H (Same.refl H) (by rw [rp_bl])⟩
theorem op2_ne:Op2 K rNe neD:=by
 intro H B x y dx dy d Q hb rx ry h k
 unfold neD at h
 cases e:eqS dx dy with
 | none=>rw [e] at h; cases h
 | some b =>
  rw [e] at h
  cases h
  obtain ⟨h1,h2⟩:=eqS_ok rx ry e
  exact ⟨h1,by rw [h2]; exact k _ H (Same.refl H) (by rw [rp_bl])⟩
theorem op2_isN:Op2 K (fun x y H Q=>y = .non∧Q (.bl (decide (x = .non))) H) isND:=by
 intro H B x y dx dy d Q hb rx ry h k
 have hy:dy = .non:=by cases dy <;> first | rfl | cases h
 subst hy
 cases h
 rw [rp_non] at ry
 refine ⟨ry,k _ H (Same.refl H) ?_⟩
 rw [rp_bl]
 cases dx <;> simp only [rp_non,rp_bl,rp_int,rp_str,rp_tup,rp_lst,rp_dctG] at rx
 all_goals first
  | (subst rx; rfl)
  | (obtain ⟨a,xs,rfl,_⟩:=rx; rfl)
theorem atI_eq {α:Type} (xs:List α) (i:Int):L2.atI xs i = DL.atI xs i:=rfl
theorem sIx_eq (n d:Nat) (o:Option Int):HT.sIx n d o = sIx n d o:=by cases o <;> rfl
theorem atI_rel {H:Hp} {B:BS} {ds:List D} {xs:List V} {i:Int} {d:D} (r:Rps K H B ds xs) (h:DL.atI ds i = some d):∃ v,L2.atI xs i = some v∧Rp K H B d v:=by
 rw [atI_eq]
 unfold DL.atI at h ⊢
 rw [r.length]
 cases e:DL.ixN ds.length i with
 | none=>rw [e] at h; cases h
 | some j =>
  rw [e] at h
  exact r.get h
theorem op2_ix:Op2 K (rIx K) ixD:=by
 intro H B x y dx dy d Q hb rx ry h k
 cases dx <;> cases dy <;> simp only [ixD] at h <;> try cases h
 ·split at h
  ·rename_i hz
   rw [rp_str] at rx
   rw [rp_int] at ry
   subst rx ry
   obtain ⟨c,hc,rfl⟩:=Option.map_eq_some_iff.mp h
   exact .inr (.inr ⟨_,_,c,rfl,rfl,hz,hc,k _ H (Same.refl H) (by rw [rp_str])⟩)
  ·cases h
 ·rw [rp_tup] at rx
  rw [rp_int] at ry
  subst ry
  obtain ⟨a,xs,rfl,q,r⟩:=rx
  obtain ⟨v,hv,rv⟩:=atI_rel r h
  exact .inr (.inl ⟨a,xs,_,v,rfl,rfl,q.to,hv,k _ H (Same.refl H) rv⟩)
 ·rw [rp_lst] at rx
  rw [rp_int] at ry
  subst ry
  obtain ⟨a,xs,rfl,q,r⟩:=rx
  obtain ⟨v,hv,rv⟩:=atI_rel r h
  exact .inl ⟨a,xs,_,v,rfl,rfl,q.to,hv,k _ H (Same.refl H) rv⟩
theorem pd_ix' (ha:PD X a ga) (hb:PD X b gb) (hs:PlainIx b:=by exact fun _ _=>rfl):PD X (.Subscript a b pos) (o2 ga gb ixD):=pd_ix ix_seq op2_ix ha hb hs
structure PDO (X:Cx) (e:Option Expr) (g:Ds→Option (Option Int)):Prop where
 mk :: go:∀ B δ,PO X e (fun σ H Q=>∃ o,Env X.K H B σ δ∧g δ = some o∧∀ H',Same H H'→Q o H')
instance {X:Cx} {e:Option Expr} {g:Ds→Option (Option Int)}:CoeFun (PDO X e g) (fun _=>∀ B δ,PO X e (fun σ H Q=>∃ o,Env X.K H B σ δ∧g δ = some o∧∀ H',Same H H'→Q o H')):=⟨PDO.go⟩
theorem pdo_none:PDO X none noneO:=.mk fun B δ pins s σ H Q I ⟨o,en,h,k⟩=>by
 cases h
 exact po_none pins s σ H Q I (k H (Same.refl H))
theorem pdo_some (h:PD X e g):PDO X (some e) (someO g):=.mk fun B δ pins s σ H Q I ⟨o,en,hq,k⟩=>by
 unfold someO at hq
 cases e1:g δ with
 | none=>rw [e1] at hq; cases hq
 | some d =>
  rw [e1] at hq
  cases d <;> simp [asI] at hq
  subst hq
  exact po_some (h B δ) pins s σ H Q I ⟨_,en,e1,fun v H' s' r=>⟨_,by rw [rp_int] at r; exact r,k H' s'⟩⟩
theorem cut_rel {H:Hp} {B:BS} {ds:List D} {xs:List V} (r:Rps K H B ds xs) (lo hi:Option Int):Rps K H B (cutD ds lo hi) (cutV xs lo hi):=by
 unfold cutD cutV
 rw [r.length,sIx_eq,sIx_eq]
 exact (r.drop _).take _
theorem rps_one {H:Hp} {B:BS} {d:D} {xs:List V} (h:Rps K H B [d] xs):∃ v,xs = [v]∧Rp K H B d v:=by
 rw [rps_cons] at h
 obtain ⟨x,r,rfl,h1,h2⟩:=h
 rw [rps_nil] at h2
 subst h2
 exact ⟨x,rfl,h1⟩
theorem fn_len:FnR K (fun xs H Q=>(∃ z,xs = [.str z]∧z.length ≤ sizeLine∧Q (.int z.length) H) ∨ ∃ p ys,xs = [.ref p]∧(SqL K H p ys ∨ SqT K H p ys)∧Q (.int ys.length) H) lenD:=by
 intro H B xs ds d Q hb r h k
 unfold lenD at h
 split at h
 ·split at h
  ·cases h
   obtain ⟨v,rfl,r1⟩:=rps_one r
   rw [rp_str] at r1
   subst r1
   exact .inl ⟨_,rfl,by assumption,k _ H (Same.refl H) (by rw [rp_int])⟩
  ·cases h
 ·cases h
  obtain ⟨v,rfl,r1⟩:=rps_one r
  rw [rp_lst] at r1
  obtain ⟨a,ys,rfl,q,rr⟩:=r1
  exact .inr ⟨a,ys,rfl,.inl q.to,k _ H (Same.refl H) (by rw [rp_int,rr.length])⟩
 ·cases h
  obtain ⟨v,rfl,r1⟩:=rps_one r
  rw [rp_tup] at r1
  obtain ⟨a,ys,rfl,q,rr⟩:=r1
  exact .inr ⟨a,ys,rfl,.inr q.to,k _ H (Same.refl H) (by rw [rp_int,rr.length])⟩
 ·cases h
theorem pd_len (hm:X.mg "len" = none) (ha:PDA X [e] gA) (hg:Gl X "len" := by rfl) (he:starEach [e] X.env = (false,eval e X.env) :: starEach [] X.env:=by rfl) (hpl:(backTo pos (starEach [] X.env)).any (·.1) = false:=by rfl) :
  PD X (.Call (.Name "len" p) [e] [] pos) (oA gA lenD):=pd_callB (call_len_str.or call_len_seq) fn_len hm PySem.boot_len ha hg (by decide) (by decide) he hpl
theorem strL_rel {H:Hp} {B:BS}:∀ {ds:List D} {xs:List V} {bs:List Str},Rps K H B ds xs→strL ds = some bs→xs = bs.map V.str
 | [],_,_,r,h=>by
  cases h
  rw [rps_nil] at r
  exact r
 | d :: ds,_,bs,r,h=>by
  rw [rps_cons] at r
  obtain ⟨x,t,rfl,r1,r2⟩:=r
  cases d <;> simp only [strL] at h <;> try cases h
  obtain ⟨t',e,rfl⟩:=Option.map_eq_some_iff.mp h
  rw [rp_str] at r1
  rw [r1,strL_rel r2 e]
  rfl
theorem pd_join {o:Expr} {apos cpos:Pos} (ho:PD X o g) (ha:PDA X [e] gA) (hbase:attributeBase o "join" X.env (eval o X.env) = eval o X.env:=by rfl)
  (hfew:((backTo cpos (starEach [e] X.env)).all (fun x=>!x.1) && (backToKw cpos (keywordEach [] X.env)).all (fun x=>x.1.isSome)
   && decide ([e].length + ([]:List Keyword).length + (if ([]:List Keyword).isEmpty then 0 else 1) < 30)) = true:=by rfl)
  (hline:(apos.endLine == cpos.line) = true:=by rfl) (hs:starEach [e] X.env = (false,eval e X.env) :: starEach [] X.env:=by rfl) (hplain:(backTo cpos (starEach [] X.env)).any (·.1) = false:=by rfl) :
  PD X (.Call (.Attribute o "join" apos) [e] [] cpos) (joinG g gA):=.mk fun B δ =>
 (pe_bm F.plainAttrs_str F.slot_str_join F.type_str_join mt_join (ho B δ) (ha B δ) hbase hfew hline hs hplain).imp fun σ H Q ⟨d,en,h,k⟩=>by
  unfold joinG at h
  cases e1:g δ with
  | none=>rw [e1] at h; cases h
  | some x =>
   cases e2:gA δ with
   | none=>rw [e1,e2] at h; cases h
   | some ds =>
    rw [e1,e2] at h
    simp only [Option.bind_some] at h
    unfold joinD at h
    split at h
    ·cases e3:strL _ with
     | none=>rw [e3] at h; cases h
     | some ys =>
      rw [e3] at h
      simp only [Option.bind_some] at h
      split at h
      ·cases h
       refine ⟨_,en,e1,fun v H1 s1 r1=>?_⟩
       rw [rp_str] at r1
       subst r1
       refine ⟨rfl,_,en.same s1,e2,fun vs H2 s2 r2=>?_⟩
       obtain ⟨w,rfl,r3⟩:=rps_one r2
       rw [rp_lst] at r3
       obtain ⟨a,zs,rfl,q,rr⟩:=r3
       have:=strL_rel rr e3
       subst this
       exact ⟨_,a,ys,rfl,rfl,q.to,by assumption,k _ H2 (s1.trans s2) (by rw [rp_str])⟩
      ·cases h
    ·cases h
theorem fn_tup:FnR K (fun xs H Q=>∃ p ys,xs = [.ref p]∧((SqL K H p ys∧∀ l,H l = none→Q (.ref l) (upd H l (.tup ys))) ∨ (SqT K H p ys∧Q (.ref p) H))) tupOfD:=by
 intro H B xs ds d Q hb r h k
 unfold tupOfD at h
 split at h
 ·cases h
  obtain ⟨v,rfl,r1⟩:=rps_one r
  rw [rp_lst] at r1
  obtain ⟨a,ys,rfl,q,rr⟩:=r1
  exact ⟨a,ys,rfl,.inl ⟨q.to,fun l hl=>k _ _ (same_upd hl) (rp_newT hb hl rr)⟩⟩
 ·cases h
  obtain ⟨v,rfl,r1⟩:=rps_one r
  have r1':=r1
  rw [rp_tup] at r1
  obtain ⟨a,ys,rfl,q,rr⟩:=r1
  exact ⟨a,ys,rfl,.inr ⟨q.to,k _ H (Same.refl H) r1'⟩⟩
 ·cases h
end
section
variable {X:Cx} {K:W.Frag} {e a b:Expr} {es:List Expr} {pos p:Pos} {g ga gb:Ds→Option D} {gA:Ds→Option (List D)}
theorem pd_neg (h:PD X a ga):PD X (.UnaryOp .USub a pos) (unG negD ga):=.mk fun B δ=>(pe_un un_neg (h B δ)).imp fun σ H Q ⟨d,en,h,k⟩=>by
 unfold unG at h
 cases e1:ga δ with
 | none=>rw [e1] at h; cases h
 | some x =>
  rw [e1] at h
  cases x <;> simp [negD] at h
  subst h
  exact ⟨_,en,e1,fun v H' s r=>⟨_,by rw [rp_int] at r; exact r,k _ H' s (by rw [rp_int])⟩⟩
noncomputable def FnD (P:Program) (w:World) (K:W.Frag) (mg:Str→Option Value) (base:Heap) (x:Str) (k:Nat) (ps:List Str) (f:List D→Option D):Prop :=
 ∃ (fa:Addr) (fd:FuncData),FnOk P w K mg base CX0 k fa fd ps (spD K f)∧mg x = some (.ref fa)∧W.keepIn K (.ref fa) = true∧Binds K fd ps []
theorem pd_fn {k m:Nat} {ps:List Str} {x:Str} {f:List D→Option D} (C:FnD X.prog X.w X.K X.mg X.base x k ps f) (hr:Room m X.A) (hk:k ≤ m) (ha:PDA X (e :: es) gA) (hg:Gl X x:=by rfl) (hdb:(x == ("__debug__" : Str)) = false:=by decide)
  (he:starEach (e :: es) X.env = (false,eval e X.env) :: starEach es X.env:=by rfl) (hpl:(backTo pos (starEach es X.env)).any (·.1) = false:=by rfl):PD X (.Call (.Name x p) (e :: es) [] pos) (oA gA f):=by
 obtain ⟨fa,fd,F,hm,kp,hb⟩:=C
 exact pd_call F (hr.mono hk) hm kp hb ha hg hdb he hpl
theorem pd_cmpD {sc scope:Scope} {elt iter tg:Expr} {ifs:List Expr} {N N':List Str} {n:Nat} {caps:List Nat} {gi:Ds→Option (List D)} {idx:List Nat} {f:D→Ds→Option Ds} {gt:Ds→Option Bool} {ge:Ds→Option D}
  (ok:CompOk sc scope N N' n caps) (hidx:∀ j ∈ idx,j < n) (hi:PID X tg iter gi)
  (hg:∀ cl s H ex,PGD (cxComp X scope cl N' s H ex) tg idx f) (ht:∀ cl s H ex,PFD (cxComp X scope cl N' s H ex) ifs gt) (he:∀ cl s H ex,PD (cxComp X scope cl N' s H ex) elt ge)
  (hc:X.calm = true:=by rfl) (hsc:X.env.scope = sc:=by rfl) (hN:X.N = N:=by rfl) (hs:∀ x,foldedSetIterable iter X.env x = pure x:=by intro _; rfl) :
  PD X (.ListComp elt [⟨tg,iter,ifs,0⟩] scope pos) (compG n caps gi f gt ge):=pd_comp hc hsc (hN ▸ ok) hidx hi hg ht he hs
theorem psd_cmpD (i:Nat) {y:Str} {py spos:Pos} {sc scope:Scope} {elt iter tg:Expr} {ifs:List Expr} {N N':List Str} {n:Nat} {caps:List Nat} {gi:Ds→Option (List D)} {idx:List Nat} {f:D→Ds→Option Ds} {gt:Ds→Option Bool} {ge:Ds→Option D}
  (hnd:N.Nodup) (ok:CompOk sc scope N N' n caps) (hidx:∀ j ∈ idx,j < n) (hi:PID X tg iter gi)
  (hg:∀ cl s H ex,PGD (cxComp X scope cl N' s H ex) tg idx f) (ht:∀ cl s H ex,PFD (cxComp X scope cl N' s H ex) ifs gt) (he:∀ cl s H ex,PD (cxComp X scope cl N' s H ex) elt ge)
  (hc:X.calm = true:=by rfl) (hsc:X.env.scope = sc:=by rfl) (hN:X.N = N:=by rfl)
  (hiN:X.N[i]? = some y:=by rfl) (hy:Loc X.env.scope y:=by first | exact Or.inl rfl | exact Or.inr rfl)
  (hsw:swapsWith (.ListComp elt [⟨tg,iter,ifs,0⟩] scope pos) (some (.Name y py)) spos.line X.env = pure true:=by rfl)
  (hs:∀ x,foldedSetIterable iter X.env x = pure x:=by intro _; rfl)
  (hf:X.fn y = true ∨ X.env.scope.names.lookup y = some .local:=by first | exact .inl rfl | exact .inr rfl | assumption) :
  PSD X (.Assign [.Name y py] (.ListComp elt [⟨tg,iter,ifs,0⟩] scope pos) spos) (setD (gN i) (compG n caps gi f gt ge)):=psd_setComp i (hN ▸ hnd) hc hsc (hN ▸ ok) hidx hi hg ht he hiN hy hsw hs hf
end
section
variable {K:W.Frag} {H H':Hp} {B B':BS} {σ σ':St} {δ δ':Ds}
theorem Gr.fresh {p:Addr} {o:HO} (h:H p = none):Gr H (upd H p o) B (fun a=>B a ∨ a = p):=fun b u n e=>by
 have hb:b ≠ p:=ne_of_none e h
 exact ⟨fun z=>z.elim n hb,by rw [upd_ne hb]; exact e⟩
theorem Gr.own {a:Addr} {o:HO} (h:B a):Gr H (upd H a o) B B:=fun b u n e=>⟨n,by rw [upd_ne (fun z=>n (by rw [z]; exact h))]; exact e⟩
theorem RpO.mono {d:D} {a:Addr} (s:∀ o,H a = some o→H' a = some o) (g:Gr H H' B B') (h:RpO K H B d a):RpO K H' B' d a:=by
 cases d <;> try exact h.elim
 ·obtain ⟨xs,e,r⟩:=h; exact ⟨xs,s _ e,r.mono g⟩
 ·obtain ⟨xs,e,l,r⟩:=h; exact ⟨xs,s _ e,l,r.mono g⟩
theorem RpL.mono {d:D} {a:Addr} (s:∀ o,H a = some o→H' a = some o) (g:Gr H H' B B') (h:RpL K H B d a):RpL K H' B' d a:=by
 cases d with
 | tup es=>obtain ⟨ds,q,xs,e,r⟩:=h; exact ⟨ds,q,xs,s _ e,r.mono g⟩
 | _=>exact (RpO.mono s g (RpL.toO rfl h)).toL
theorem Pd.impI {α β:Type} {F G:α→β→Prop}:∀ {l:List α} {m:List β},(∀ (i:Nat) a b,l[i]? = some a→m[i]? = some b→F a b→G a b)→Paired F l m→Paired G l m
 | _,_,_,.nil=>.nil
 | _,_,h,.cons r t=>.cons (h 0 _ _ rfl rfl r) (Pd.impI (fun i a b e1 e2=>h (i + 1) a b (by simpa using e1) (by simpa using e2)) t)
theorem set_self {α:Type}:∀ {l:List α} {i:Nat} {a:α},l[i]? = some a→l.set i a = l
 | [],_,_,h=>by simp at h
 | x :: l,0,a,h=>by simp at h; subst h; rfl
 | x :: l,i + 1,a,h=>by rw [List.set_cons_succ,set_self (by simpa using h)]
theorem Pd.setR {α β:Type} {F:α→β→Prop} {a:α} {b:β} {i:Nat} (r:F a b) {l:List α} {m:List β} (e:l[i]? = some a) (h:Paired F l m):Paired F l (m.set i b):=by
 have:=Pd.set r i h
 rwa [set_self e] at this
theorem get_set {α:Type} {l:List α} {i j:Nat} {a b:α} (h:(l.set i a)[j]? = some b):(i = j∧a = b∧j < l.length) ∨ (i ≠ j∧l[j]? = some b):=by
 by_cases e:i = j
 ·subst e
  by_cases hl:i < l.length
  ·rw [List.getElem?_set_self hl] at h
   exact .inl ⟨rfl,Option.some.inj h,hl⟩
  ·rw [List.getElem?_eq_none (by simpa using hl)] at h; cases h
 ·rw [List.getElem?_set_ne e] at h
  exact .inr ⟨e,h⟩
theorem Env.at (e:Env K H B σ δ) {i:Nat} {d:D} (h:δ[i]? = some (.ow d)):∃ a,σ[i]? = some (some (.ref a))∧B a∧RpL K H B d a:=by
 obtain ⟨o,h1,a,rfl,hb,r⟩:=Pd.get e.all h
 exact ⟨a,h1,hb,r⟩
theorem Env.mut (e:Env K H B σ δ) {i:Nat} {d0 d:D} {a:Addr} {o:HO} (hi:δ[i]? = some (.ow d0)) (hs:σ[i]? = some (some (.ref a))) (r:RpL K (upd H a o) B d a):Env K (upd H a o) B σ (δ.set i (.ow d)):=by
 obtain ⟨a',h1,hb,_⟩:=e.at hi
 rw [hs] at h1
 cases h1
 refine ⟨?_,fun b z=>?_,fun j k b ds es h1 h2 h3 h4=>?_⟩
 ·
  have h0:Paired (fun (o':Option V) (s:Sl)=>SlR K (upd H a o) B o' s ∨ (∃ d,s = .ow d∧o' = some (.ref a))) σ δ:=Pd.imp (fun o' s h=>by
   cases s with
   | un=>exact .inl trivial
   | ex c n=>obtain ⟨v,e,r⟩:=h; exact .inl ⟨v,e,r.mono (Gr.own hb)⟩
   | sh d=>obtain ⟨v,e,r⟩:=h; exact .inl ⟨v,e,r.mono (Gr.own hb)⟩
   | ow d =>
    obtain ⟨b,e,hb',r⟩:=h
    by_cases z:b = a
    ·subst z; exact .inr ⟨d,rfl,e⟩
    ·exact .inl ⟨b,e,hb',r.mono (fun o h=>by rw [upd_ne z]; exact h) (Gr.own hb)⟩) e.all
  have h1:=Pd.setR (i:=i) (b:=Sl.ow d) (.inl ⟨a,rfl,hb,r⟩) hs h0
  refine Pd.impI (fun j o' s e1 e2 h=>?_) h1
  rcases h with h | ⟨d',rfl,rfl⟩
  ·exact h
  ·rcases get_set e2 with ⟨rfl,e3,_⟩ | ⟨hne,e3⟩
   ·cases e3; exact ⟨a,rfl,hb,r⟩
   ·exact absurd (e.own i j a d0 d' hi e3 hs e1) hne
 ·by_cases z':b = a
  ·subst z'; rw [upd_same]; exact fun z=>nomatch z
  ·rw [upd_ne z']; exact e.bad b z
 ·have q1:∃ d,δ[j]? = some (.ow d):=by
   rcases get_set h1 with ⟨rfl,_,_⟩ | ⟨_,h⟩
   ·exact ⟨_,hi⟩
   ·exact ⟨_,h⟩
  have q2:∃ d,δ[k]? = some (.ow d):=by
   rcases get_set h2 with ⟨rfl,_,_⟩ | ⟨_,h⟩
   ·exact ⟨_,hi⟩
   ·exact ⟨_,h⟩
  obtain ⟨d1,q1⟩:=q1
  obtain ⟨d2,q2⟩:=q2
  exact e.own j k b d1 d2 q1 q2 h3 h4
theorem EnvS.mut {H₀:Hp} {B₀:BS} (en:EnvS K H₀ B₀ H σ δ) (s:Same H H') (b1:∀ a,B₀ a→B a) (b2:∀ a,B a→B₀ a ∨ H₀ a = none) {i:Nat} {d0 d:D} {a:Addr} {o:HO} (hi:δ[i]? = some (.ow d0)) (hs:σ[i]? = some (some (.ref a)))
  (env:Env K (upd H' a o) B σ (δ.set i (.ow d))):EnvS K H₀ B₀ (upd H' a o) σ (δ.set i (.ow d)):=by
 have h0:=en.fr i d0 a hi hs
 refine ⟨fun b u h=>?_,⟨B,b1,b2,env⟩,fun j ds b h1 h2=>?_,en.b0⟩
 ·have:b ≠ a:=fun z=>by rw [z,h0] at h; cases h
  rw [upd_ne this]
  exact s _ _ (en.same b u h)
 ·rcases get_set h1 with ⟨rfl,_,_⟩ | ⟨_,h⟩
  ·rw [hs] at h2; cases h2; exact h0
  ·exact en.fr j ds b h h2
theorem EnvS.take {H₀:Hp} {B₀:BS} (en:EnvS K H₀ B₀ H σ δ) (b1:∀ a,B₀ a→B a) (b2:∀ a,B a→B₀ a ∨ H₀ a = none) (e:Env K H B σ δ) (i:Nat) {d:D} {p:Addr} (hp:H p = none) (s:Same H H')
  (r:RpO K H' (fun a=>B a ∨ a = p) d p):EnvS K H₀ B₀ H' (σ.set i (some (.ref p))) (δ.set i (.ow d)):=by
 have g:Gr H H' B (fun a=>B a ∨ a = p):=fun b u n h=>⟨fun z=>z.elim n (ne_of_none h hp),s _ _ h⟩
 have h0p:H₀ p = none:=en.same.free hp
 have live:∀ {j:Nat} {d':D} {b:Addr},δ[j]? = some (.ow d')→σ[j]? = some (some (.ref b))→b ≠ p:=fun {j d' b} h1 h2=>by
  obtain ⟨a,q1,q2,q3⟩:=e.at h1
  rw [h2] at q1; cases q1
  exact fun z=>e.bad _ q2 (by rw [z]; exact hp)
 refine ⟨en.same.trans s,⟨fun a=>B a ∨ a = p,fun a z=>.inl (b1 a z),fun a z=>?_,?_,fun a z=>?_,fun j k a ds es h1 h2 h3 h4=>?_⟩,fun j ds a h1 h2=>?_,en.b0⟩
 ·rcases z with z | rfl
  ·exact b2 a z
  ·exact .inr h0p
 ·refine Pd.set ⟨p,rfl,.inr rfl,r.toL⟩ i (Pd.imp (fun o sl h=>?_) e.all)
  cases sl with
  | un=>trivial
  | ex c n=>obtain ⟨v,e,r⟩:=h; exact ⟨v,e,r.mono g⟩
  | sh d=>obtain ⟨v,e,r⟩:=h; exact ⟨v,e,r.mono g⟩
  | ow d=>obtain ⟨b,e,hb',r⟩:=h; exact ⟨b,e,.inl hb',r.mono (fun o h=>s _ _ h) g⟩
 ·rcases z with z | rfl
  ·intro q
   cases h:H a with
   | none=>exact e.bad a z h
   | some u=>rw [s _ _ h] at q; cases q
  ·exact r.live
 ·rcases get_set h1 with ⟨rfl,_,_⟩ | ⟨n1,h1⟩
  ·rcases get_set h2 with ⟨rfl,_,_⟩ | ⟨n2,h2⟩
   ·rfl
   ·rcases get_set h3 with ⟨_,e3,_⟩ | ⟨n3,_⟩
    ·cases e3
     rw [List.getElem?_set_ne n2] at h4
     exact absurd rfl (live h2 h4)
    ·exact absurd rfl n3
  ·rcases get_set h2 with ⟨rfl,_,_⟩ | ⟨n2,h2⟩
   ·rcases get_set h4 with ⟨_,e4,_⟩ | ⟨n4,_⟩
    ·cases e4
     rw [List.getElem?_set_ne n1] at h3
     exact absurd rfl (live h1 h3)
    ·exact absurd rfl n4
   ·rw [List.getElem?_set_ne n1] at h3
    rw [List.getElem?_set_ne n2] at h4
    exact e.own j k a ds es h1 h2 h3 h4
 ·rcases get_set h1 with ⟨rfl,_,_⟩ | ⟨n1,h1⟩
  ·rcases get_set h2 with ⟨_,e3,_⟩ | ⟨n3,_⟩
   ·cases e3; exact h0p
   ·exact absurd rfl n3
  ·rw [List.getElem?_set_ne n1] at h2
   exact en.fr j ds a h1 h2
theorem Env.frz (e:Env K H B σ δ):∃ B':BS,(∀ a,B' a→B a)∧(∀ a,B a→B' a ∨ ∃ (i:Nat) (d:D),δ[i]? = some (.ow d)∧σ[i]? = some (some (.ref a)))∧Env K H B' σ (DL.frz δ):=by
 refine ⟨fun a=>B a∧¬ ∃ (i:Nat) (d:D),δ[i]? = some (.ow d)∧σ[i]? = some (some (.ref a)),fun a z=>z.1,fun a z=>?_,?_,fun a z=>e.bad a z.1,fun i j a ds es h1 _ _ _=>?_⟩
 ·by_cases q:∃ (i:Nat) (d:D),δ[i]? = some (.ow d)∧σ[i]? = some (some (.ref a))
  ·exact .inr q
  ·exact .inl ⟨z,q⟩
 ·have:Paired (fun o s=>SlR K H (fun a=>B a∧¬ ∃ (i:Nat) (d:D),δ[i]? = some (.ow d)∧σ[i]? = some (some (.ref a))) o (frz1 s)) σ δ:=Pd.impI (fun i o s e1 e2 h=>by
   cases s with
   | un=>trivial
   | ex c n=>obtain ⟨v,e,r⟩:=h; exact ⟨v,e,r.mono (Gr.less fun a z=>z.1)⟩
   | sh d=>obtain ⟨v,e,r⟩:=h; exact ⟨v,e,r.mono (Gr.less fun a z=>z.1)⟩
   | ow d =>
    obtain ⟨a,rfl,hb,r⟩:=h
    exact ⟨_,rfl,r.rp (fun a z=>z.1) fun z=>z.2 ⟨i,d,e2,e1⟩⟩) e.all
  have mp:∀ {l:St} {m:Ds} {F:Option V→Sl→Prop},Paired (fun o s=>F o (frz1 s)) l m→Paired F l (m.map frz1):=by
   intro l m F h
   induction h with
   | nil=>exact .nil
   | cons r t ih=>exact .cons r ih
  exact mp this
 ·unfold DL.frz at h1
  rw [List.getElem?_map] at h1
  cases q:δ[i]? with
  | none=>rw [q] at h1; cases h1
  | some s=>rw [q] at h1; cases s <;> cases h1
theorem EnvS.frz {H₀:Hp} {B₀:BS} (en:EnvS K H₀ B₀ H σ δ):EnvS K H₀ B₀ H σ (DL.frz δ):=by
 obtain ⟨B,b1,b2,env⟩:=en.ex
 obtain ⟨B',c1,c2,env'⟩:=env.frz
 refine ⟨en.same,⟨B',fun a z=>?_,fun a z=>b2 a (c1 a z),env'⟩,fun i ds a h1 _=>?_,en.b0⟩
 ·rcases c2 a (b1 a z) with q | ⟨i,d,q1,q2⟩
  ·exact q
  ·exact absurd (en.fr i d a q1 q2) (en.b0 a z)
 ·unfold DL.frz at h1
  rw [List.getElem?_map] at h1
  cases q:δ[i]? with
  | none=>rw [q] at h1; cases h1
  | some s=>rw [q] at h1; cases s <;> cases h1
theorem Env.frzAt (e:Env K H B σ δ) (i:Nat):∃ B':BS,(∀ a,B' a→B a)∧(∀ a,B a→B' a ∨ ∃ (d:D),δ[i]? = some (.ow d)∧σ[i]? = some (some (.ref a)))∧Env K H B' σ (DL.frzAt i δ):=by
 unfold DL.frzAt
 cases h:δ[i]? with
 | none=>exact ⟨B,fun _ z=>z,fun _ z=>.inl z,e⟩
 | some s =>
  cases s with
  | un=>dsimp only [frz1]; rw [set_self h]; exact ⟨B,fun _ z=>z,fun _ z=>.inl z,e⟩
  | ex c n=>dsimp only [frz1]; rw [set_self h]; exact ⟨B,fun _ z=>z,fun _ z=>.inl z,e⟩
  | sh d=>dsimp only [frz1]; rw [set_self h]; exact ⟨B,fun _ z=>z,fun _ z=>.inl z,e⟩
  | ow d =>
   obtain ⟨a,h1,hb,r⟩:=e.at h
   refine ⟨fun b=>B b∧b ≠ a,fun b z=>z.1,fun b z=>?_,?_,fun b z=>e.bad b z.1,fun j k b ds es h1' h2' h3 h4=>?_⟩
   ·by_cases q:b = a
    ·subst q; exact .inr ⟨d,rfl,h1⟩
    ·exact .inl ⟨z,q⟩
   ·have h0:Paired (fun (o':Option V) (s:Sl)=>SlR K H (fun b=>B b∧b ≠ a) o' s ∨ (∃ d,s = .ow d∧o' = some (.ref a))) σ δ:=Pd.imp (fun o' s h=>by
     cases s with
     | un=>exact .inl trivial
     | ex c n=>obtain ⟨v,e,r⟩:=h; exact .inl ⟨v,e,r.mono (Gr.less fun a z=>z.1)⟩
     | sh d=>obtain ⟨v,e,r⟩:=h; exact .inl ⟨v,e,r.mono (Gr.less fun a z=>z.1)⟩
     | ow d =>
      obtain ⟨b,e,hb',r⟩:=h
      by_cases z:b = a
      ·subst z; exact .inr ⟨d,rfl,e⟩
      ·exact .inl ⟨b,e,⟨hb',z⟩,r.mono (fun o h=>h) (Gr.less fun a z=>z.1)⟩) e.all
    have h2:=Pd.setR (i:=i) (b:=Sl.sh (unl d)) (.inl ⟨.ref a,rfl,r.rp (fun b z=>z.1) fun z=>z.2 rfl⟩) h1 h0
    refine Pd.impI (fun j o' s e1 e2 hh=>?_) h2
    rcases hh with hh | ⟨d',rfl,rfl⟩
    ·exact hh
    ·rcases get_set e2 with ⟨rfl,e3,_⟩ | ⟨hne,e3⟩
     ·cases e3
     ·exact absurd (e.own i j a d d' h e3 h1 e1) hne
   ·rcases get_set h1' with ⟨_,q,_⟩ | ⟨_,q1⟩
    ·cases q
    ·rcases get_set h2' with ⟨_,q,_⟩ | ⟨_,q2⟩
     ·cases q
     ·exact e.own j k b ds es q1 q2 h3 h4
theorem EnvS.frzAt {H₀:Hp} {B₀:BS} (en:EnvS K H₀ B₀ H σ δ) (i:Nat):EnvS K H₀ B₀ H σ (DL.frzAt i δ):=by
 obtain ⟨B,b1,b2,env⟩:=en.ex
 obtain ⟨B',c1,c2,env'⟩:=env.frzAt i
 refine ⟨en.same,⟨B',fun a z=>?_,fun a z=>b2 a (c1 a z),env'⟩,fun j ds a h1 h2=>?_,en.b0⟩
 ·rcases c2 a (b1 a z) with q | ⟨d,q1,q2⟩
  ·exact q
  ·exact absurd (en.fr i d a q1 q2) (en.b0 a z)
 ·unfold DL.frzAt at h1
  cases q:δ[i]? with
  | none=>rw [q] at h1; exact en.fr j ds a h1 h2
  | some s =>
   rw [q] at h1
   rcases get_set h1 with ⟨rfl,q',_⟩ | ⟨_,q1⟩
   ·cases s <;> cases q'
   ·exact en.fr j ds a q1 h2
theorem flat_rp {d:D} {v:V} (h:flat d = true) (r:Rp K H B d v):Rp K H' B' d v:=by
 cases d <;> simp [flat] at h
 ·rw [rp_non] at r ⊢; exact r
 ·rw [rp_bl] at r ⊢; exact r
 ·rw [rp_int] at r ⊢; exact r
 ·rw [rp_str] at r ⊢; exact r
end
section
variable {X:Cx} {e tg:Expr} {st:Stmt} {pos:Pos} {g:GE} {gt:GB} {G:GS}
theorem pd_bor (h:PD X e g):PD X e (borE g):=.mk fun B δ pins s σ H Q I ⟨d,en,hq,k⟩=>by
 obtain ⟨B',c1,c2,en'⟩:=en.frz
 unfold borE at hq
 cases e1:g (frz δ) with
 | none=>rw [e1] at hq; cases hq
 | some x =>
  rw [e1] at hq
  by_cases hf:flat x = true
  ·simp only [Option.bind_some,if_pos hf] at hq
   cases hq
   exact h B' (frz δ) pins s σ H Q I ⟨_,en',e1,fun v H' s' r=>k v H' s' (flat_rp hf r)⟩
  ·simp only [Option.bind_some,if_neg hf] at hq
   cases hq
theorem ptd_bor (h:PTD X e gt):PTD X e (borB gt):=.mk fun B δ pins s σ H Q I ⟨d,en,hq,k⟩=>by
 obtain ⟨B',c1,c2,en'⟩:=en.frz
 exact h B' (frz δ) pins s σ H Q I ⟨d,en',hq,k⟩
theorem psd_frzS (i:Nat) (h:PSD X st G):PSD X st (frzS i G):=.mk fun H₀ B₀ δ pins s σ H D I ⟨r,en,hq,k⟩=>h H₀ B₀ _ pins s σ H D I ⟨r,en.frzAt i,hq,k⟩
theorem psd_retB (h:PD X e g):PSD X (.Return (some e) pos) (retD (borA g)):=.mk fun H₀ B₀ δ pins s σ H D I ⟨r,en,hq,k⟩ =>
 psd_ret h H₀ B₀ (frz δ) pins s σ H D I ⟨r,en.frz,hq,k⟩
theorem pdf_lst {es:List Expr} {gA:GA} (h:PDA X es gA):PDF X (.List es pos) (lstG gA) :=
 .mk fun B δ=>(pe_lst (h B δ)).imp fun σ H Q ⟨d,en,h,k⟩=>by
  unfold lstG at h
  cases e1:gA δ with
  | none=>rw [e1] at h; cases h
  | some ds =>
   rw [e1] at h
   by_cases hl:ds.length ≤ sizeLine
   ·simp only [Option.bind_some,if_pos hl] at h
    cases h
    refine ⟨ds,en,e1,fun vs H1 s1 r1=>⟨by rw [r1.length]; exact hl,fun p hp=>k _ _ (s1.free hp) (s1.trans (same_upd hp)) ⟨vs,upd_same,r1.mono (Gr.fresh hp)⟩⟩⟩
   ·simp only [Option.bind_some,if_neg hl] at h
    cases h
theorem psd_own (i:Nat) {x:Str} {px:Pos} (h:PDF X e g) (hN:X.N.Nodup) (hi:X.N[i]? = some x:=by rfl) (hx:Loc X.env.scope x:=by first | exact Or.inl rfl | exact Or.inr rfl)
  (hs:swapsWithSole [.Name x px] e pos.line X.env = pure false:=by rfl) (hw:swappedStores [.Name x px] e X.env = pure none:=by rfl)
  (h1:(assignEach [.Name x px] X.env).map (·.2) = [assign (.Name x px) X.env]:=by rfl)
  (hf:X.fn x = true ∨ X.env.scope.names.lookup x = some .local:=by first | exact .inl rfl | exact .inr rfl | assumption):PSD X (.Assign [.Name x px] e pos) (ownD i g):=.mk fun H₀ B₀ δ pins s σ H D I ⟨r,en,e1,k⟩=>by
 unfold ownD at e1
 obtain ⟨B,b1,b2,env⟩:=en.ex
 cases e2:g δ with
 | none=>rw [e2] at e1; cases e1
 | some d =>
  rw [e2] at e1
  cases e1
  exact ps_asg (h B δ) (pg_name (i:=i) hN hi hx hf) hs hw h1 pins s σ H D I ⟨d,env,e2,fun p H' hp s' r=>k _ H' (en.take b1 b2 env i hp s' r)⟩
end
end DL
namespace L2
open PySem PySem.Spec PyProof.Rows
open PySem.AutoSeq1 (wpAny_loadPart')
theorem extend_any (p:Addr) (xs:Array Value) (k:Nat) (q:Addr) (ys:Array Value) (m:Nat) (dq:Option Addr) (sq:Array (Option Value)) (h0:¬ (!xs.isEmpty && Builtin.List.listTooLong (xs.size + ys.size)) = true) (h1:xs.size ≤ sizeLine) (h2:xs.size + ys.size ≤ sizeLine + 1) :
  Meets (Builtin.«list.extend» ⟨[.ref p,.ref q],[]⟩) (fun _ R s=>s.heap.get? p = some { cls:=.type "list",dict:=none,data:=.seq xs k,slots:=#[] }∧s.heap.get? q = some { cls:=.type "list",dict:=dq,data:=.seq ys m,slots:=sq }∧R (.ok (.ret Value.none)) { s with heap:=s.heap.update p (Obj.mapSeq fun z=>z ++ ys) }) :=
 .of_wp fun prog w A R s h=>by
  obtain ⟨hp,g,d,tk,os⟩:=s
  obtain ⟨hl,hb,h⟩:=h
  have f1:=AutoSeq1.idx_int
  have f2:=AutoSeq1.sub_tuple_tuple
  have f3:=AutoSeq1.sub_list_list
  have f4:=AutoSeq1.sub_tuple_list
  have f5:=AutoSeq1.sub_list_tuple
  have hz':(xs ++ ys).size ≤ sizeLine + 1:=by rw [Array.size_append]; exact h2
  wp_walk using (wpAny_updateSeq hl rfl (hz:=h1) (_hz':=hz')),wpAny_loadPart' hl,wpAny_loadPart' hb
  exact ⟨_,rfl,h⟩
section
variable {X:Cx}
noncomputable def rExtendL (K:W.Frag):V→List V→Hp→VK→Prop:=fun x vs H Q=>∃ l b xs zs,x = .ref l∧vs = [.ref b]∧H l = some (.lst xs)∧SqL K H b zs∧xs.length + zs.length ≤ sizeLine∧Q .non (upd H l (.lst (xs ++ zs)))
theorem mt_extendL:MtM X "list.extend" (rExtendL X.K):=by
 intro pins s σ H x vs v us Q I rx rv h
 obtain ⟨l,b,xs,zs,rfl,rfl,hH,hB,hz,q⟩:=h
 cases rx
 obtain ⟨u,rfl,ru⟩:=rv.one
 cases ru
 obtain ⟨z,its,n,r,hl,e⟩:=I.lstM hH
 obtain ⟨its2,r2,p2,z2⟩:=I.list hB
 obtain ⟨⟨cls2,dd2,data2,sl2⟩,ho2,hc2,n2,hd2⟩:=p2.isList
 simp only at hc2 hd2
 subst hc2 hd2
 have hl2:=r2.length
 have hsz:its.toArray.size + its2.toArray.size ≤ sizeLine:=by rw [List.size_toArray,List.size_toArray]; omega
 have hlong:¬ (!its.toArray.isEmpty && Builtin.List.listTooLong (its.toArray.size + its2.toArray.size)) = true:=by
  rw [notLongL hsz,Bool.and_false]
  exact Bool.false_ne_true
 refine call_meets F.slot_list_extend ⟨_,e,rfl⟩ F.entry_list_extend (F.args_list_extend_2 _ _)
  (extend_any l its.toArray n b its2.toArray n2 dd2 sl2 hlong (by rw [List.size_toArray]; omega) (by omega)) ⟨e,ho2,?_⟩
 refine ⟨.non,_,I.lset (its':=its ++ its2) hH e (by simp) (r.append r2) ?_,rfl,q⟩
 rw [List.length_append]
 omega
noncomputable def rDPutS:V→V→V→Hp→(Hp→Prop)→Prop:=fun o i v H Q=>∃ a H',o = .ref a∧DPut H a i v H'∧Q H'
theorem set_dict (hu:X.A.units + 1 < cLine):PSet X rDPutS:=by
 intro pins s σ H o i v ov iv u Q I ro ri rv h
 obtain ⟨a,H',rfl,g,q⟩:=h
 cases ro
 exact d_setItem hu I g ri rv fun s3 I3=>⟨H',I3,q⟩
end
end L2
namespace DL
open PySem PySem.Spec PyProof.Rows L2
section
variable {K:W.Frag} {H H':Hp} {B B':BS} {σ σ':St} {δ δ':Ds}
theorem Rps.set:∀ {ds:List D} {xs:List V} {d:D} {v:V} (j:Nat),Rps K H B ds xs→Rp K H B d v→Rps K H B (ds.set j d) (xs.set j v)
 | [],_,_,_,_,h,_=>by rw [rps_nil] at h; subst h; simp [rps_nil]
 | d :: ds,_,_,_,0,h,r=>by
  rw [rps_cons] at h
  obtain ⟨y,t,rfl,h1,h2⟩:=h
  rw [List.set_cons_zero,List.set_cons_zero,rps_cons]
  exact ⟨_,_,rfl,r,h2⟩
 | d :: ds,_,_,_,j + 1,h,r=>by
  rw [rps_cons] at h
  obtain ⟨y,t,rfl,h1,h2⟩:=h
  rw [List.set_cons_succ,List.set_cons_succ,rps_cons]
  exact ⟨_,_,rfl,h1,Rps.set j h2 r⟩
theorem Rps.dropLast {ds:List D} {xs:List V} (h:Rps K H B ds xs):Rps K H B ds.dropLast xs.dropLast:=by
 rw [List.dropLast_eq_take,List.dropLast_eq_take,h.length]
 exact h.take _
structure EnvV (K:W.Frag) (H₀:Hp) (B₀:BS) (H:Hp) (σ:St) (δ:Ds) (d:D) (v:V):Prop where
 same:Same H₀ H
 ex:∃ B:BS,(∀ a,B₀ a→B a)∧(∀ a,B a→B₀ a ∨ H₀ a = none)∧Env K H B σ δ∧Rp K H B d v
 fr:∀ (i:Nat) (ds:D) (a:Addr),δ[i]? = some (.ow ds)→σ[i]? = some (some (.ref a))→H₀ a = none
 b0:∀ a,B₀ a→H₀ a ≠ none
theorem EnvV.s {H₀:Hp} {B₀:BS} {d:D} {v:V} (h:EnvV K H₀ B₀ H σ δ d v):EnvS K H₀ B₀ H σ δ:=⟨h.same,let ⟨B,b1,b2,e,_⟩:=h.ex; ⟨B,b1,b2,e⟩,h.fr,h.b0⟩
theorem EnvV.mk' {H₀:Hp} {B₀:BS} {d:D} {v:V} (h:EnvS K H₀ B₀ H σ δ) (b1:∀ a,B₀ a→B a) (b2:∀ a,B a→B₀ a ∨ H₀ a = none) (e:Env K H B σ δ) (r:Rp K H B d v):EnvV K H₀ B₀ H σ δ d v:=⟨h.same,⟨B,b1,b2,e,r⟩,h.fr,h.b0⟩
end
noncomputable def tX (K:W.Frag) (H₀:Hp) (B₀:BS) (δ:Ds) (gx:GX):TE:=fun σ H Q=>∃ r,EnvS K H₀ B₀ H σ δ∧gx δ = some r∧∀ v H',EnvV K H₀ B₀ H' σ r.2 r.1 v→Q v H'
structure PX (X:Cx) (e:Expr) (gx:GX):Prop where
 mk :: go:∀ H₀ B₀ δ,PE X e (tX X.K H₀ B₀ δ gx)
instance {X:Cx} {e:Expr} {gx:GX}:CoeFun (PX X e gx) (fun _=>∀ H₀ B₀ δ,PE X e (tX X.K H₀ B₀ δ gx)):=⟨PX.go⟩
noncomputable def tTG (K:W.Frag) (H₀:Hp) (B₀:BS) (ft:D→Ds→Option Ds) (d:D) (δ:Ds):TG:=fun v σ H Q=>∃ δ',EnvV K H₀ B₀ H σ δ d v∧ft d δ = some δ'∧∀ σ' H',EnvS K H₀ B₀ H' σ' δ'→Q σ' H'
structure PTG (X:Cx) (tg:Expr) (ft:D→Ds→Option Ds):Prop where
 mk :: go:∀ H₀ B₀ d δ,PG X tg (tTG X.K H₀ B₀ ft d δ)
instance {X:Cx} {tg:Expr} {ft:D→Ds→Option Ds}:CoeFun (PTG X tg ft) (fun _=>∀ H₀ B₀ d δ,PG X tg (tTG X.K H₀ B₀ ft d δ)):=⟨PTG.go⟩
section
variable {X:Cx} {e tg:Expr} {st:Stmt} {pos apos cpos px:Pos} {g:GE} {gt:GB} {G:GS} {x:Str}
theorem px_pure (h:PD X e g):PX X e (pureX g):=.mk fun H₀ B₀ δ pins s σ H Q I ⟨r,en,e1,k⟩=>by
 unfold pureX at e1
 obtain ⟨B,b1,b2,env⟩:=en.ex
 cases e2:g δ with
 | none=>rw [e2] at e1; cases e1
 | some d =>
  rw [e2] at e1
  cases e1
  exact h B δ pins s σ H Q I ⟨d,env,e2,fun v H' s' r=>k v H' (EnvV.mk' (en.grow s') b1 b2 (env.same s') r)⟩
theorem owL_eq {i:Nat} {δ:Ds} {ds:List D} (h:owL i δ = some ds):δ[i]? = some (.ow (.lst ds)):=by
 unfold owL at h
 split at h
 ·cases h; assumption
 ·cases h
theorem owDc_eq {i:Nat} {δ:Ds} {r:List KeyD × List D} (h:owDc i δ = some r):δ[i]? = some (.ow (.dct (.inl r.1) r.2)):=by
 unfold owDc at h
 split at h
 ·cases h; assumption
 ·cases h
theorem px_app (i:Nat) (h:PD X e g) (hN:X.N[i]? = some x:=by rfl) (hv:Vis X.env.scope x:=by first | exact Or.inl rfl | exact Or.inr (Or.inl rfl) | exact Or.inr (Or.inr rfl)) (hd:(x == ("__debug__" : Str)) = false:=by decide) (hcd:(x == ("__classdict__" : Str)) = false:=by decide)
  (hbase:attributeBase (.Name x px) "append" X.env (eval (.Name x px) X.env) = eval (.Name x px) X.env:=by rfl)
  (hfew:((backTo cpos (starEach [e] X.env)).all (fun x=>!x.1) && (backToKw cpos (keywordEach [] X.env)).all (fun x=>x.1.isSome)
   && decide (([e]:List Expr).length + ([]:List Keyword).length + (if ([]:List Keyword).isEmpty then 0 else 1) < 30)) = true:=by rfl)
  (hline:(apos.endLine == cpos.line) = true:=by rfl) (hs:starEach [e] X.env = (false,eval e X.env) :: starEach [] X.env:=by rfl) (hplain:(backTo cpos (starEach [] X.env)).any (·.1) = false:=by rfl) :
  PX X (.Call (.Attribute (.Name x px) "append" apos) [e] [] cpos) (appX i g):=.mk fun H₀ B₀ δ pins s σ H Q I ⟨r,en,e1,k⟩=>by
 unfold appX at e1
 obtain ⟨B,b1,b2,env⟩:=en.ex
 cases e2:owL i δ with
 | none=>rw [e2] at e1; cases e1
 | some ds =>
  cases e3:g δ with
  | none=>rw [e2,e3] at e1; cases e1
  | some d =>
   rw [e2,e3] at e1
   simp only [Option.bind_some] at e1
   split at e1
   ·rename_i hz
    cases e1
    have hi:=owL_eq e2
    obtain ⟨a,hs',hb,xs,hx,rx⟩:=env.at hi
    refine pe_bm PySem.F.plainAttrs_list PySem.F.slot_list_append PySem.F.type_list_append mt_append (pe_var (i:=i) hN hv hd hcd) (pa_cons (h B δ) pa_nil hs) hbase hfew hline hs hplain pins s σ H Q I
     ⟨_,hs',.inl ⟨rfl,xs,.inl (.inl hx)⟩,d,env,e3,fun v H1 s1 r1=>⟨a,xs,v,rfl,rfl,s1 _ _ hx,by rw [rx.length]; exact hz,?_⟩⟩
    have env2:Env X.K (upd H1 a (.lst (xs ++ [v]))) B σ (δ.set i (.ow (.lst (ds ++ [d])))):=(env.same s1).mut hi hs' ⟨_,upd_same,(Rps.snoc (rx.same s1) r1).mono (Gr.own hb)⟩
    exact k _ _ (EnvV.mk' (en.mut s1 b1 b2 hi hs' env2) b1 b2 env2 (by rw [rp_non]))
   ·cases e1
theorem px_ext (i:Nat) (h:PD X e g) (hN:X.N[i]? = some x:=by rfl) (hv:Vis X.env.scope x:=by first | exact Or.inl rfl | exact Or.inr (Or.inl rfl) | exact Or.inr (Or.inr rfl)) (hd:(x == ("__debug__" : Str)) = false:=by decide) (hcd:(x == ("__classdict__" : Str)) = false:=by decide)
  (hbase:attributeBase (.Name x px) "extend" X.env (eval (.Name x px) X.env) = eval (.Name x px) X.env:=by rfl)
  (hfew:((backTo cpos (starEach [e] X.env)).all (fun x=>!x.1) && (backToKw cpos (keywordEach [] X.env)).all (fun x=>x.1.isSome)
   && decide (([e]:List Expr).length + ([]:List Keyword).length + (if ([]:List Keyword).isEmpty then 0 else 1) < 30)) = true:=by rfl)
  (hline:(apos.endLine == cpos.line) = true:=by rfl) (hs:starEach [e] X.env = (false,eval e X.env) :: starEach [] X.env:=by rfl) (hplain:(backTo cpos (starEach [] X.env)).any (·.1) = false:=by rfl) :
  PX X (.Call (.Attribute (.Name x px) "extend" apos) [e] [] cpos) (extX i g):=.mk fun H₀ B₀ δ pins s σ H Q I ⟨r,en,e1,k⟩=>by
 unfold extX at e1
 obtain ⟨B,b1,b2,env⟩:=en.ex
 cases e2:owL i δ with
 | none=>rw [e2] at e1; cases e1
 | some ds =>
  cases e3:g δ with
  | none=>rw [e2,e3] at e1; cases e1
  | some d =>
   rw [e2,e3] at e1
   simp only [Option.bind_some] at e1
   cases d <;> try cases e1
   rename_i es
   dsimp only at e1
   split at e1
   ·rename_i hz
    cases e1
    have hi:=owL_eq e2
    obtain ⟨a,hs',hb,xs,hx,rx⟩:=env.at hi
    refine pe_bm PySem.F.plainAttrs_list PySem.F.slot_list_extend PySem.F.type_list_extend mt_extendL (pe_var (i:=i) hN hv hd hcd) (pa_cons (h B δ) pa_nil hs) hbase hfew hline hs hplain pins s σ H Q I
     ⟨_,hs',.inl ⟨rfl,xs,.inl (.inl hx)⟩,_,env,e3,fun v H1 s1 r1=>?_⟩
    rw [rp_lst] at r1
    obtain ⟨b,zs,rfl,hq,rz⟩:=r1
    refine ⟨a,b,xs,zs,rfl,rfl,s1 _ _ hx,hq.to,by rw [rx.length,rz.length]; exact hz,?_⟩
    have env2:Env X.K (upd H1 a (.lst (xs ++ zs))) B σ (δ.set i (.ow (.lst (ds ++ es)))):=(env.same s1).mut hi hs' ⟨_,upd_same,(Rps.append (rx.same s1) rz).mono (Gr.own hb)⟩
    exact k _ _ (EnvV.mk' (en.mut s1 b1 b2 hi hs' env2) b1 b2 env2 (by rw [rp_non]))
   ·cases e1
theorem px_pop (i:Nat) (hN:X.N[i]? = some x:=by rfl) (hv:Vis X.env.scope x:=by first | exact Or.inl rfl | exact Or.inr (Or.inl rfl) | exact Or.inr (Or.inr rfl)) (hd:(x == ("__debug__" : Str)) = false:=by decide) (hcd:(x == ("__classdict__" : Str)) = false:=by decide)
  (hbase:attributeBase (.Name x px) "pop" X.env (eval (.Name x px) X.env) = eval (.Name x px) X.env:=by rfl) (hline:(apos.endLine == cpos.line) = true:=by rfl) :
  PX X (.Call (.Attribute (.Name x px) "pop" apos) [] [] cpos) (popX i):=.mk fun H₀ B₀ δ pins s σ H Q I ⟨r,en,e1,k⟩=>by
 unfold popX at e1
 obtain ⟨B,b1,b2,env⟩:=en.ex
 cases e2:owL i δ with
 | none=>rw [e2] at e1; cases e1
 | some ds =>
  rw [e2] at e1
  simp only [Option.bind_some] at e1
  cases e3:ds.getLast? with
  | none=>rw [e3] at e1; cases e1
  | some d =>
   rw [e3] at e1
   cases e1
   have hi:=owL_eq e2
   obtain ⟨a,hs',hb,xs,hx,rx⟩:=env.at hi
   rw [List.getLast?_eq_getElem?] at e3
   obtain ⟨y,hy,ry⟩:=rx.get e3
   refine pe_bm0 PySem.F.plainAttrs_list PySem.F.slot_list_pop PySem.F.type_list_pop mt_pop (pe_var (i:=i) hN hv hd hcd) hbase hline pins s σ H Q I
    ⟨_,hs',.inl ⟨rfl,xs,.inl (.inl hx)⟩,a,xs,y,rfl,rfl,hx,by rw [rx.length]; exact hy,?_⟩
   have env2:Env X.K (upd H a (.lst xs.dropLast)) B σ (δ.set i (.ow (.lst ds.dropLast))):=env.mut hi hs' ⟨_,upd_same,rx.dropLast.mono (Gr.own hb)⟩
   exact k _ _ (EnvV.mk' (en.mut (Same.refl _) b1 b2 hi hs' env2) b1 b2 env2 (ry.mono (Gr.own hb)))
theorem ptg_of {idx:List Nat} {f:D→Ds→Option Ds} (h:PGD X tg idx f):PTG X tg f:=.mk fun H₀ B₀ d δ pins s σ H v u Q I r ⟨δ',en,e1,k⟩=>by
 obtain ⟨B,b1,b2,env,rv⟩:=en.ex
 exact h B d δ pins s σ H v u Q I r ⟨δ',rv,env,e1,fun σ' w en'=>k σ' H (en.s.wr b1 b2 (Same.refl _) w en')⟩
theorem ptg_set (i:Nat) (h:PD X e g) (hN:X.N[i]? = some x:=by rfl) (hv:Vis X.env.scope x:=by first | exact Or.inl rfl | exact Or.inr (Or.inl rfl) | exact Or.inr (Or.inr rfl)) (hd:(x == ("__debug__" : Str)) = false:=by decide) (hcd:(x == ("__classdict__" : Str)) = false:=by decide)
  (ha:∀ v,assign (.Subscript (.Name x px) e pos) X.env v = (do
   let ov ← holding [v] (eval (.Name x px) X.env)
   let iv ← holding [v,ov] (eval e X.env)
   standAt pos
   holding [v,ov,iv] (setItem ov iv v)
   release [v,ov,iv] []):=by intro _; rfl):PTG X (.Subscript (.Name x px) e pos) (setAt i g):=.mk fun H₀ B₀ d δ pins s σ H v u Q I r ⟨δ',en,e1,k⟩=>by
 unfold setAt at e1
 obtain ⟨B,b1,b2,env,rv⟩:=en.ex
 cases e2:owL i δ with
 | none=>rw [e2] at e1; cases e1
 | some ds =>
  cases e3:g δ with
  | none=>rw [e2,e3] at e1; cases e1
  | some dk =>
   rw [e2,e3] at e1
   simp only [Option.bind_some] at e1
   cases dk <;> try cases e1
   rename_i kk
   dsimp only at e1
   cases e4:ixN ds.length kk with
   | none=>rw [e4] at e1; cases e1
   | some j =>
    rw [e4] at e1
    cases e1
    have hi:=owL_eq e2
    obtain ⟨a,hs',hb,xs,hx,rx⟩:=env.at hi
    refine pg_sub (pe_var (i:=i) hN hv hd hcd) (h B δ) set_list ha pins s σ H v u Q I r ⟨_,hs',_,env,e3,fun iv H1 s1 r1=>?_⟩
    rw [rp_int] at r1
    subst r1
    refine ⟨a,xs,kk,j,rfl,rfl,s1 _ _ hx,by rw [rx.length]; exact e4,?_⟩
    have env2:Env X.K (upd H1 a (.lst (xs.set j v))) B σ (δ.set i (.ow (.lst (ds.set j d)))):=(env.same s1).mut hi hs' ⟨_,upd_same,(Rps.set j (rx.same s1) (rv.same s1)).mono (Gr.own hb)⟩
    exact k _ _ (en.s.mut s1 b1 b2 hi hs' env2)
theorem psd_asgX {gx:GX} {ft:D→Ds→Option Ds} (h:PX X e gx) (hg:PTG X tg ft) (hs:swapsWithSole [tg] e pos.line X.env = pure false:=by rfl) (hw:swappedStores [tg] e X.env = pure none:=by rfl)
  (h1:(assignEach [tg] X.env).map (·.2) = [assign tg X.env]:=by rfl):PSD X (.Assign [tg] e pos) (asgX gx ft):=.mk fun H₀ B₀ δ pins s σ H D I ⟨r,en,e1,k⟩=>by
 unfold asgX at e1
 cases e2:gx δ with
 | none=>rw [e2] at e1; cases e1
 | some q =>
  rw [e2] at e1
  simp only [Option.bind_some] at e1
  cases e3:ft q.1 q.2 with
  | none=>rw [e3] at e1; cases e1
  | some δ' =>
   rw [e3] at e1
   cases e1
   exact ps_asg (h H₀ B₀ δ) (hg H₀ B₀ q.1 q.2) hs hw h1 pins s σ H D I ⟨q,en,e2,fun v H' en'=>⟨δ',en',e3,fun σ' H'' en''=>k σ' H'' en''⟩⟩
theorem psd_exprX {gx:GX} (h:PX X e gx) (hs:swapsWith e none pos.line X.env = pure false:=by rfl):PSD X (.Expr e pos) (exprX gx):=.mk fun H₀ B₀ δ pins s σ H D I ⟨r,en,e1,k⟩=>by
 unfold exprX at e1
 cases e2:gx δ with
 | none=>rw [e2] at e1; cases e1
 | some q =>
  rw [e2] at e1
  cases e1
  exact ps_expr (h H₀ B₀ δ) hs pins s σ H D I ⟨q,en,e2,fun v H' en'=>k σ H' en'.s⟩
theorem psd_while (n:Nat) {c:Expr} {body:List Stmt} (hp:PassesOwn (model X.prog X.w) X.A X.env X.xe) (hc:PTD X c gt) (hb:PSsD X body G):PSD X (.While c body [] pos) (whileD gt G n):=.mk fun H₀ B₀ δ pins s σ H D I ⟨r,en,e1,k⟩=>by
 have hc':PT X c (fun σ H Q=>∃ B δ,tDT X.K B δ gt σ H Q):=fun pins s σ H Q I ⟨B,δ,h⟩=>hc B δ pins s σ H Q I h
 have hb':PSs X body (fun D σ H=>∃ δ,tDS X.K H₀ B₀ δ G D σ H):=fun pins s σ H D I ⟨δ,h⟩=>hb H₀ B₀ δ pins s σ H D I h
 refine ps_while hp hc' hb' pins s σ H D I ⟨fun m σ H=>∃ δ',EnvS X.K H₀ B₀ H σ δ'∧whileD gt G m δ' = some r,⟨n,δ,en,e1⟩,?_⟩
 rintro m σ1 H1 ⟨δ1,en1,e2⟩
 cases m with
 | zero=>cases e2
 | succ m =>
  unfold whileD at e2
  obtain ⟨B,b1,b2,env⟩:=en1.ex
  cases e3:gt δ1 with
  | none=>rw [e3] at e2; cases e2
  | some t =>
   rw [e3] at e2
   refine ⟨B,δ1,t,env,e3,fun H2 s2=>?_⟩
   cases t with
   | false =>
    rw [if_neg Bool.false_ne_true]
    cases e2
    exact k σ1 H2 (en1.grow s2)
   | true =>
    rw [if_pos rfl]
    dsimp only at e2
    refine ⟨fun σ' H'=>∃ δ',EnvS X.K H₀ B₀ H' σ' δ'∧whileD gt G m δ' = some r,fun σ' H' z=>⟨m,Nat.lt_succ_self m,z⟩,δ1,?_⟩
    cases e4:G δ1 with
    | none=>rw [e4] at e2; cases e2
    | some rb =>
     rw [e4] at e2
     refine ⟨rb,en1.grow s2,e4,?_⟩
     cases rb with
     | nx δn=>exact fun σ' H' en'=>⟨δn,en',e2⟩
     | ct δn=>exact fun σ' H' en'=>⟨δn,en',e2⟩
     | bk δn=>cases e2; exact fun σ' H' en'=>k σ' H' en'
     | rt d'=>cases e2; exact fun v H' s' r'=>k v H' s' r'
     | rf d'=>cases e2; exact fun p H' hp s' r'=>k p H' hp s' r'
theorem pgd_tup2 (i j:Nat) {y:Str} {p2 p3:Pos} {kk} (hN:X.N.Nodup) (hij:i ≠ j) (hc:X.calm = true:=by rfl) (hi:X.N[i]? = some x:=by rfl) (hj:X.N[j]? = some y:=by rfl)
  (hx:Loc X.env.scope x:=by first | exact Or.inl rfl | exact Or.inr rfl) (hy:Loc X.env.scope y:=by first | exact Or.inl rfl | exact Or.inr rfl)
  (hf:X.fn x = true ∨ X.env.scope.names.lookup x = some .local:=by first | exact .inl rfl | exact .inr rfl | assumption) (hf2:X.fn y = true ∨ X.env.scope.names.lookup y = some .local:=by first | exact .inl rfl | exact .inr rfl | assumption)
  (hs1:(assignEach [.Name x p2,.Name y p3] X.env).map (·.2) = assign (.Name x p2) X.env :: (assignEach [.Name y p3] X.env).map (·.2):=by rfl) (hs2:(assignEach [.Name y p3] X.env).map (·.2) = assign (.Name y p3) X.env :: (assignEach [] X.env).map (·.2):=by rfl)
  (hn:(assignEach [.Name x p2,.Name y p3] X.env).length = 2:=by rfl) (hst:(assignEach [.Name x p2,.Name y p3] X.env).findIdx? (·.1) = none:=by rfl) :
  PGD X (.Tuple [.Name x p2,.Name y p3] kk pos) [i,j] (tup2 i j):=.mk fun B d δ=>(pg_tup hc (pgs_cons (pg_name (i:=i) hN hi hx hf) (pgs_cons (pg_name (i:=j) hN hj hy hf2) pgs_nil hs2) hs1) hn hst).imp fun v σ H Q ⟨δ',r,en,e1,k⟩=>by
 unfold tup2 at e1
 split at e1
 ·rename_i da db
  cases e1
  rw [rp_tup] at r
  obtain ⟨p,xs,rfl,hq,rs⟩:=r
  rw [rps_cons] at rs
  obtain ⟨va,t1,rfl,ra,rs⟩:=rs
  rw [rps_cons] at rs
  obtain ⟨vb,t2,rfl,rb,rs⟩:=rs
  rw [rps_nil] at rs
  subst rs
  refine ⟨p,_,rfl,hq.to,rfl,va,[vb],rfl,vb,[],rfl,rfl,k _ ?_ ((en.set i ra).set j rb)⟩
  refine ⟨by simp,fun q hq=>?_,fun q hq ds h=>?_⟩
  ·have h1:q ≠ i:=fun z=>hq (by rw [z]; exact List.mem_cons_self)
   have h2:q ≠ j:=fun z=>hq (by rw [z]; exact List.mem_cons_of_mem _ List.mem_cons_self)
   rw [List.getElem?_set_ne (Ne.symm h2),List.getElem?_set_ne (Ne.symm h1),List.getElem?_set_ne (Ne.symm h2),List.getElem?_set_ne (Ne.symm h1)]
   exact ⟨rfl,rfl⟩
  ·rcases get_set h with ⟨rfl,e3,_⟩ | ⟨n1,e3⟩
   ·cases e3
   ·rcases get_set e3 with ⟨rfl,e4,_⟩ | ⟨n2,e4⟩
    ·cases e4
    ·simp at hq
     rcases hq with z | z
     ·exact n2 z.symm
     ·exact n1 z.symm
 ·cases e1
end
end DL
namespace HT
open PySem PyProof.Rows
section
variable {prog:Program} {w:World} {A:Around} {E:Value→Shared→Prop} {s:Shared}
theorem getItem_tuple_whole {t sl:Addr} {items:Array Value} {vl vu:Value} {lo hi:Option Int} {Q:Value→Shared→Prop} (ht:IsTup s.heap t items) (hs:s.heap.IsSliceOf sl vl vu .none) (pl:IsPart vl lo) (pu:IsPart vu hi)
  (hw:sIx items.size 0 lo = 0∧sIx items.size items.size hi = items.size) (h:Q (.ref t) s):wpAny (model prog w) A (getItem (.ref t) (.ref sl)) Q E s:=by
 obtain ⟨os,hos,hcs,hds⟩:=id hs
 have hTs:s.TypeIs (.ref sl) "slice" := ⟨os,hos,hcs⟩
 unfold getItem
 try with_reducible refine wpAny_holding ?_
 first | refine wpAny_bind (wpAny_pure ?_) | skip
 refine wpAny_bind (wpAny_sequenceKey ht.typeIs (by decide) ?_)
 refine wpAny_bind (wpAny_callSpecial?_slot (name:=Str.ofString "__getitem__") ht.typeIs PyProof.Rows.slot_tuple_getitem
  (wpAny_call_entry PyProof.Rows.slot_tuple_getitem ht.typeIs entry_tuple_getitem ?_ (args_tuple_getitem _ _)))
 show wpAny _ _ (Builtin.Tuple.tupleItemsOf (.ref t) >>= _) _ _ s
 refine wpAny_bind (tupleItemsOf_ ht ?_)
 refine wpAny_bind (wpAny_typeOf hTs ?_)
 rw [if_pos (by decide)]
 refine wpAny_bind (sliceApplied_gen hs pl pu ?_)
 have hyes:(((sIx items.size 0 lo:Nat):Int) == 0 && (1:Int) == 1 && (sIx items.size items.size hi - sIx items.size 0 lo) == items.size) = true:=by
  rw [hw.1,hw.2]
  simp
 show wpAny _ _ (if (((sIx items.size 0 lo:Nat):Int) == 0 && (1:Int) == 1 && (sIx items.size items.size hi - sIx items.size 0 lo) == items.size) = true then _ else _) _ _ s
 rw [if_pos hyes]
 unfold Builtin.Tuple.tupleIsExact
 refine wpAny_bind (wpAny_bind (wpAny_typeOf ht.typeIs (wpAny_pure ?_)))
 rw [if_pos (by decide)]
 exact wpAny_bind (wpAny_rule (wpAny_pure ⟨_,rfl,wpAny_pure h⟩))
end
end HT
namespace L2
open PySem PySem.Spec PyProof.Rows
section
variable {X:Cx}
noncomputable def rSlTW (K:W.Frag):V→Option Int→Option Int→Hp→VK→Prop:=fun x lo hi H Q=>∃ a xs,x = .ref a∧SqT K H a xs∧(HT.sIx xs.length 0 lo = 0∧HT.sIx xs.length xs.length hi = xs.length)∧Q (.ref a) H
theorem sl_tupW:SlR X (rSlTW X.K):=by
 intro pins s σ H x v vl vu lo hi sl Q I rx hs pl pu h
 obtain ⟨a,xs,rfl,hx,hw,q⟩:=h
 cases rx
 obtain ⟨its,r,ht,hz⟩:=I.tuple hx
 have hlen:its.toArray.size = xs.length:=by rw [List.size_toArray]; exact r.length.symm
 exact ⟨"tuple",_,PyProof.Rows.slot_tuple_getitem.lookup,ht.typeIs,HT.getItem_tuple_whole ht hs pl pu (by rw [hlen]; exact hw) ⟨.ref a,H,I,rfl,q⟩⟩
noncomputable def rCatT0 (K:W.Frag):R2:=fun x y H Q=>∃ a b ys,x = .ref a∧y = .ref b∧SqT K H a []∧SqT K H b ys∧Q (.ref b) H
theorem op_catT0:OpR X (binaryOp .Add) (rCatT0 X.K):=by
 intro pins s σ H x y v u Q I rx ry h
 obtain ⟨a,b,ys,rfl,rfl,ha,hb,q⟩:=h
 cases rx
 cases ry
 obtain ⟨its,r1,p1,_⟩:=I.tuple ha
 obtain ⟨its2,r2,p2,_⟩:=I.tuple hb
 have e:its = []:=r1.zero
 subst e
 obtain ⟨⟨cls,dd,data,sl⟩,ho,hc,n,hd⟩:=id p1
 obtain ⟨⟨cls2,dd2,data2,sl2⟩,ho2,hc2,n2,hd2⟩:=id p2
 simp only at hc hd hc2 hd2
 subst hc hd hc2 hd2
 exact concat_meets ⟨_,ho,rfl⟩ ⟨_,ho2,rfl⟩ noFill_tuple_add seq_tuple_add PySem.F.slot_tuple_add PySem.F.entry_tuple_add (PySem.F.args_tuple_add_2 _ _)
  (tuple_addW0 a b _ its2.toArray n n2 dd dd2 sl sl2 rfl) ⟨ho,ho2,⟨.ref b,H,I,rfl,q⟩⟩
noncomputable def repS (x:Str) (n:Int):Str:=⟨(List.replicate n.toNat x.cps).foldl (· ++ ·) #[]⟩
noncomputable def rMulS:R2:=fun x y H Q=>∃ z n,x = .str z∧y = .int n∧-(2 ^ 62) ≤ n∧n < 2 ^ 62∧z.length * n.toNat ≤ sizeLine∧Q (.str (repS z n)) H
theorem op_mulS:OpR X (binaryOp .Mult) rMulS:=by
 intro pins s σ H x y v u Q I rx ry h
 obtain ⟨z,n,rfl,rfl,h1,h2,hz,q⟩:=h
 obtain ⟨t,rfl⟩:=rx
 obtain ⟨t',rfl⟩:=ry
 have fin:∀ t'' k,EP X pins σ Q (.str (repS z n) t'') { s with toks:=k }:=fun t'' k=>⟨.str _,H,I.tok k,⟨t'',rfl⟩,q⟩
 have hsl:(sizeLine:Nat) < 2 ^ 40:=by decide
 have hdiv:¬ n < 1→¬ ((z.length:Int) > (2 ^ 63 - 1) / n):=by
  intro hn
  have hn':0 < n:=by omega
  have:(z.length:Int) * n ≤ 2 ^ 63 - 1:=by
   have e:n = (n.toNat:Int):=by omega
   rw [e]
   have:((z.length * n.toNat:Nat):Int) ≤ 2 ^ 40:=by exact_mod_cast (by omega:z.length * n.toNat ≤ 2 ^ 40)
   rw [Int.natCast_mul] at this
   omega
  exact Int.not_lt.mpr ((Int.le_ediv_iff_mul_le hn').mpr this)
 refine PySem.P.mul_str (by rw [decide_eq_false (by omega),decide_eq_false (by omega)]; rfl) (fun hn _=>hdiv hn) (fun _ _=>?_) ?_
 ·show decide (z.length * n.toNat > sizeLine) = false
  exact decide_eq_false (by omega)
 ·by_cases hn:n < 1
  ·rw [if_pos hn]
   have e:repS z n = Str.empty:=by
    unfold repS
    rw [show n.toNat = 0 by omega]
    rfl
   refine ⟨by decide,?_⟩
   rw [← e]
   exact fin _ _
  ·rw [if_neg hn]
   by_cases h3:(n == 1 || z.length == 0) = true
   ·rw [if_pos h3]
    have e:repS z n = z:=by
     rw [Bool.or_eq_true] at h3
     rcases h3 with h3 | h3
     ·have:n = 1:=eq_of_beq h3
      subst this
      unfold repS
      show (⟨#[] ++ z.cps⟩:Str) = z
      rw [Array.empty_append]
     ·have h3:z.length = 0:=eq_of_beq h3
      have hz0:z.cps = #[]:=Array.eq_empty_of_size_eq_zero h3
      have:∀ k:Nat,(List.replicate k (#[]:Array Nat)).foldl (· ++ ·) #[] = #[]:=by
       intro k
       induction k with
       | zero=>rfl
       | succ k ih=>rw [List.replicate_succ,List.foldl_cons]; exact ih
      unfold repS
      rw [hz0,this]
      cases z
      simp at hz0
      rw [hz0]
    have:=fin t s.toks
    rw [e] at this
    exact this
   ·rw [if_neg h3]
    have hl2:∀ (k:Nat) (acc:Array Nat),((List.replicate k z.cps).foldl (· ++ ·) acc).size = acc.size + k * z.cps.size:=by
     intro k
     induction k with
     | zero=>intro acc; simp
     | succ k ih=>intro acc; rw [List.replicate_succ,List.foldl_cons,ih,Array.size_append,Nat.succ_mul]; omega
    refine ⟨?_,fin _ _⟩
    show ((List.replicate n.toNat z.cps).foldl (· ++ ·) #[]).size ≤ _
    rw [hl2]
    have:z.length = z.cps.size:=rfl
    rw [this,Nat.mul_comm] at hz
    simpa using hz
theorem noFill_tup_mul:fillsNumberSlot (.type "tuple") "mul" = pure false :=
 PySem.fillsNumberSlot_seq (id := "tuple.__mul__") (r:=some (.builtin "tuple.__rmul__")) PySem.F.slot_tuple_mul.lookup (by decide +kernel) PySem.F.slot_tuple_rmul.lookup (by decide +kernel)
theorem repeat_tup:seqRepeat? (.type "tuple") = pure (some (.builtin "tuple.__mul__")):=by
 unfold seqRepeat?
 rw [PySem.seqSlot_of (T := "tuple") (name := "__mul__") (id := "tuple.__mul__") PySem.F.slot_tuple_mul.lookup (by decide +kernel),PySem.seqSlot_of (T := "tuple") (name := "__rmul__") (id := "tuple.__rmul__") PySem.F.slot_tuple_rmul.lookup (by decide +kernel)]
 rfl
theorem rmul_int_tup (a:Int) (t:Tok) (l:Addr) (items:Array Value) (n:Nat) (dd:Option Addr) (sl:Array (Option Value)) :
  Meets (Builtin.«int.__rmul__» ⟨[.int a t,.ref l],[]⟩) (fun _ R s=>s.heap.get? l = some { cls:=.type "tuple",dict:=dd,data:=.seq items n,slots:=sl }∧R (.ok (.ret Value.notImplemented)) s) :=
 .of_wp fun prog w A R s h=>by
  obtain ⟨hp,g,d,tk,os⟩:=s
  obtain ⟨hl,h⟩:=h
  wp_walk
  exact ⟨_,rfl,h⟩
theorem tup_mulW (l:Addr) (items:Array Value) (n:Nat) (dd:Option Addr) (sl:Array (Option Value)) (k:Int) (t:Tok) (h2:2 ≤ k) (h3:k < 2 ^ 62) (he:items.isEmpty = false) (hsz:items.size * k.toNat ≤ sizeLine) :
  Meets (Builtin.«tuple.__mul__» ⟨[.ref l,.int k t],[]⟩) (fun _ R s=>s.heap.get? l = some { cls:=.type "tuple",dict:=dd,data:=.seq items n,slots:=sl }∧R (.ok (.ret (Value.ref s.heap.objs.size))) { s with heap:=s.heap.push { cls:=.type "tuple",data:=.seq ((List.replicate k.toNat items).foldl (· ++ ·) #[]) } }) :=
 .of_wp fun prog w A R s h=>by
  obtain ⟨hp,g,d,tk,os⟩:=s
  obtain ⟨hl,h⟩:=h
  have f1:=AutoSeq1.idx_int
  have c1:¬ ((decide (k < -(2 ^ 63:Int)) || decide (k ≥ 2 ^ 63)) = true):=by
   rw [decide_eq_false (by omega),decide_eq_false (by omega)]; exact Bool.false_ne_true
  have c2:¬ ((items.isEmpty || k == 1) = true):=by
   rw [he,beq_eq_false_iff_ne.mpr (by omega)]; exact Bool.false_ne_true
  have c3:¬ ((decide (k ≤ 0) || items.isEmpty) = true):=by
   rw [he,decide_eq_false (by omega)]; exact Bool.false_ne_true
  have hk:((items.size:Int) * k) = ((items.size * k.toNat:Nat):Int):=by
   rw [Int.natCast_mul]; congr 1; omega
  have hb:(sizeLine:Nat) < 2 ^ 40:=by decide
  have c4:¬ ((items.size:Int) * k > (2 ^ 63 - 1) / 8):=by
   rw [hk]; omega
  have c5:¬ (Builtin.Tuple.tupleTooMany ((items.size:Int) * k) = true):=by
   rw [hk]
   unfold Builtin.Tuple.tupleTooMany
   simp only [decide_eq_true_eq]
   omega
  have hsz2:∀ (m:Nat) (acc:Array Value),((List.replicate m items).foldl (· ++ ·) acc).size = acc.size + m * items.size:=by
   intro m
   induction m with
   | zero=>intro acc; simp
   | succ m ih=>intro acc; rw [List.replicate_succ,List.foldl_cons,ih,Array.size_append,Nat.succ_mul]; omega
  have htake:sizeOk (.seq ((List.replicate k.toNat items).foldl (· ++ ·) #[])):=by
   show ((List.replicate k.toNat items).foldl (· ++ ·) #[]).size ≤ sizeLine
   rw [hsz2,Nat.mul_comm]
   simpa using hsz
  wp_walk
  rw [if_neg c1]
  show wpAny _ _ (Builtin.Tuple.tupleItemsOf (.ref l) >>= _) _ _ _
  refine wpAny_bind (tupleItemsOf_ ⟨_,hl,rfl,n,rfl⟩ ?_)
  dsimp only
  rw [if_neg c2,if_neg c3]
  rw [if_neg c4,if_neg c5]
  exact wpAny_bind (m:=Builtin.Tuple.tupleExact _) (wpAny_newObj_type (wpAny_pure ⟨_,rfl,h⟩) htake)
noncomputable def rMulT (K:W.Frag):R2:=fun x y H Q=>∃ a xs k,x = .ref a∧y = .int k∧SqT K H a xs∧xs ≠ []∧2 ≤ k∧k < 2 ^ 62∧xs.length * k.toNat ≤ sizeLine∧∀ p,H p = none→Q (.ref p) (upd H p (.tup (List.replicate k.toNat xs).flatten))
theorem op_mulT:OpR X (binaryOp .Mult) (rMulT X.K):=by
 intro pins s σ H x y v u Q I rx ry h
 obtain ⟨a,xs,k,rfl,rfl,ha,hx,h2,h3,hz,q⟩:=h
 cases rx
 obtain ⟨t,rfl⟩:=ry
 obtain ⟨its,r1,p1,_⟩:=I.tuple ha
 obtain ⟨⟨cls,dd,data,sl⟩,ho,hc,n,hd⟩:=id p1
 simp only at hc hd
 subst hc hd
 have hl:=r1.length
 have he:its.toArray.isEmpty = false:=by
  cases its with
  | nil=>exact absurd (r1.nil_iff.mp rfl) hx
  | cons a b=>rfl
 have hlen:its.toArray.size * k.toNat ≤ sizeLine:=by rw [List.size_toArray,← hl]; exact hz
 have hnew:(List.replicate k.toNat its.toArray).foldl (· ++ ·) #[] = (List.replicate k.toNat its).flatten.toArray:=by
  have:=foldl_rep its k.toNat []
  rw [List.nil_append] at this
  exact this
 refine wpAny_binaryOp_repeat_ref (T := "tuple") (U := "int") (by decide) ⟨_,ho,rfl⟩ (fun s'=>typeIs_int s' k t) noFill_tup_mul F.fills_int_mul F.slot_int_rmul repeat_tup F.slot_int_index.lookup
  (call_meets F.slot_int_rmul (typeIs_int s k t) F.entry_int_rmul (F.args_int_rmul_2 _ _) (rmul_int_tup k t a its.toArray n dd sl)
   ⟨ho,rfl,⟨_,ho,rfl⟩,call_meets F.slot_tuple_mul ⟨_,ho,rfl⟩ F.entry_tuple_mul (F.args_tuple_mul_2 _ _) (tup_mulW a its.toArray n dd sl k t h2 h3 he hlen) ⟨ho,?_⟩⟩)
 rw [hnew]
 refine ⟨.ref s.heap.objs.size,_,I.laid (t':=s.toks) (o:=.tup (List.replicate k.toNat xs).flatten) (fun b ob q=>Heap.get?_push_of_some _ q) (Nat.le_refl _) ?_,rfl,q _ (I.hok.fresh (Nat.le_refl _))⟩
 exact ⟨by rw [len_rep,Nat.mul_comm]; exact hz,_,r1.rep k.toNat,IsTupN.new _ _⟩
end
end L2
namespace DL
open PySem PySem.Spec PyProof.Rows L2
mutual
theorem deq_refl:∀ (d:D) (n:Nat),lean d n = true→deq d d = true
 | .non,_,_=>by unfold deq; rfl
 | .bl b,_,_=>by unfold deq; simp
 | .int b,_,_=>by unfold deq; simp
 | .str b,_,_=>by unfold deq; simp
 | .tup ds,0,h=>by unfold lean at h; cases h
 | .tup ds,n + 1,h=>by unfold lean at h; unfold deq; exact deqs_refl ds n h
 | .lst ds,0,h=>by unfold lean at h; cases h
 | .lst ds,n + 1,h=>by unfold lean at h; unfold deq; exact deqs_refl ds n h
 | .dct _ _,n,h=>by unfold lean at h; cases h
theorem deqs_refl:∀ (ds:List D) (n:Nat),leans ds n = true→deqs ds ds = true
 | [],_,_=>by unfold deqs; rfl
 | d :: ds,n,h=>by
  unfold leans at h
  rw [Bool.and_eq_true] at h
  unfold deqs
  rw [deq_refl d n h.1,deqs_refl ds n h.2]
  rfl
end
theorem deqs_range:∀ ds es:List D,deqs ds es = ((List.range (min ds.length es.length)).all (fun j=>deq (ds.getD j .non) (es.getD j .non)) && ds.length == es.length)
 | [],[]=>by unfold deqs; simp
 | [],_ :: _=>by unfold deqs; simp
 | _ :: _,[]=>by unfold deqs; simp
 | d :: ds,e :: es=>by
  unfold deqs
  rw [deqs_range ds es]
  have h1:min (d :: ds).length (e :: es).length = min ds.length es.length + 1:=by simp only [List.length_cons]; omega
  rw [h1,List.range_succ_eq_map,List.all_cons,List.all_map]
  have h2:((d :: ds).length == (e :: es).length) = (ds.length == es.length):=by
   rw [Bool.eq_iff_iff]
   simp
  rw [h2,Bool.and_assoc]
  rfl
theorem leans_get:∀ {ds:List D} {n j:Nat} {d:D},leans ds n = true→ds[j]? = some d→lean d n = true
 | [],_,_,_,_,h=>by simp at h
 | d :: ds,n,0,_,h,e=>by
  unfold leans at h
  rw [Bool.and_eq_true] at h
  simp at e; subst e; exact h.1
 | d :: ds,n,j + 1,_,h,e=>by
  unfold leans at h
  rw [Bool.and_eq_true] at h
  exact leans_get (j:=j) h.2 (by simpa using e)
section
variable {X:Cx} {pins:List (Addr × Obj)} {σ:St} {H:Hp} {s:Shared}
mutual
theorem Rp.inj (I:Inv X pins σ H s) {B B':BS}:∀ {d e:D} {n m:Nat} {v:V},lean d n = true→lean e m = true→Rp X.K H B d v→Rp X.K H B' e v→d = e
 | .non,e,_,m,v,_,le,h,h'=>by
  rw [rp_non] at h; subst h
  cases e with
  | non=>rfl
  | bl b=>rw [rp_bl] at h'; cases h'
  | int b=>rw [rp_int] at h'; cases h'
  | str b=>rw [rp_str] at h'; cases h'
  | tup b=>rw [rp_tup] at h'; obtain ⟨_,_,z,_⟩:=h'; cases z
  | lst b=>rw [rp_lst] at h'; obtain ⟨_,_,z,_⟩:=h'; cases z
  | dct a b=>unfold lean at le; cases le
 | .bl c,e,_,m,v,_,le,h,h'=>by
  rw [rp_bl] at h; subst h
  cases e with
  | non=>rw [rp_non] at h'; cases h'
  | bl b=>rw [rp_bl] at h'; cases h'; rfl
  | int b=>rw [rp_int] at h'; cases h'
  | str b=>rw [rp_str] at h'; cases h'
  | tup b=>rw [rp_tup] at h'; obtain ⟨_,_,z,_⟩:=h'; cases z
  | lst b=>rw [rp_lst] at h'; obtain ⟨_,_,z,_⟩:=h'; cases z
  | dct a b=>unfold lean at le; cases le
 | .int c,e,_,m,v,_,le,h,h'=>by
  rw [rp_int] at h; subst h
  cases e with
  | non=>rw [rp_non] at h'; cases h'
  | bl b=>rw [rp_bl] at h'; cases h'
  | int b=>rw [rp_int] at h'; cases h'; rfl
  | str b=>rw [rp_str] at h'; cases h'
  | tup b=>rw [rp_tup] at h'; obtain ⟨_,_,z,_⟩:=h'; cases z
  | lst b=>rw [rp_lst] at h'; obtain ⟨_,_,z,_⟩:=h'; cases z
  | dct a b=>unfold lean at le; cases le
 | .str c,e,_,m,v,_,le,h,h'=>by
  rw [rp_str] at h; subst h
  cases e with
  | non=>rw [rp_non] at h'; cases h'
  | bl b=>rw [rp_bl] at h'; cases h'
  | int b=>rw [rp_int] at h'; cases h'
  | str b=>rw [rp_str] at h'; cases h'; rfl
  | tup b=>rw [rp_tup] at h'; obtain ⟨_,_,z,_⟩:=h'; cases z
  | lst b=>rw [rp_lst] at h'; obtain ⟨_,_,z,_⟩:=h'; cases z
  | dct a b=>unfold lean at le; cases le
 | .tup ds,e,0,m,v,ld,_,_,_=>by unfold lean at ld; cases ld
 | .tup ds,e,n + 1,m,v,ld,le,h,h'=>by
  rw [rp_tup] at h
  obtain ⟨a,xs,rfl,q,r⟩:=h
  unfold lean at ld
  cases e with
  | non=>rw [rp_non] at h'; cases h'
  | bl b=>rw [rp_bl] at h'; cases h'
  | int b=>rw [rp_int] at h'; cases h'
  | str b=>rw [rp_str] at h'; cases h'
  | tup es =>
   cases m with
   | zero=>unfold lean at le; cases le
   | succ m =>
    unfold lean at le
    rw [rp_tup] at h'
    obtain ⟨a',ys,z,q',r'⟩:=h'
    cases z
    have:=I.tuple_inj q.to q'.to
    subst this
    rw [Rps.inj I ld le r r']
  | lst es =>
   rw [rp_lst] at h'
   obtain ⟨a',ys,z,q',r'⟩:=h'
   cases z
   obtain ⟨_,_,⟨o,e1,c1,_⟩,_⟩:=I.tuple q.to
   obtain ⟨_,_,p,_⟩:=I.list q'.to
   obtain ⟨o',e2,c2,_⟩:=p.isList
   rw [e1] at e2; cases e2
   rw [c1] at c2
   injection c2 with z
   exact absurd z (by decide)
  | dct a b=>unfold lean at le; cases le
 | .lst ds,e,0,m,v,ld,_,_,_=>by unfold lean at ld; cases ld
 | .lst ds,e,n + 1,m,v,ld,le,h,h'=>by
  rw [rp_lst] at h
  obtain ⟨a,xs,rfl,q,r⟩:=h
  unfold lean at ld
  cases e with
  | non=>rw [rp_non] at h'; cases h'
  | bl b=>rw [rp_bl] at h'; cases h'
  | int b=>rw [rp_int] at h'; cases h'
  | str b=>rw [rp_str] at h'; cases h'
  | lst es =>
   cases m with
   | zero=>unfold lean at le; cases le
   | succ m =>
    unfold lean at le
    rw [rp_lst] at h'
    obtain ⟨a',ys,z,q',r'⟩:=h'
    cases z
    have:=I.list_inj q.to q'.to
    subst this
    rw [Rps.inj I ld le r r']
  | tup es =>
   rw [rp_tup] at h'
   obtain ⟨a',ys,z,q',r'⟩:=h'
   cases z
   obtain ⟨_,_,⟨o,e1,c1,_⟩,_⟩:=I.tuple q'.to
   obtain ⟨_,_,p,_⟩:=I.list q.to
   obtain ⟨o',e2,c2,_⟩:=p.isList
   rw [e1] at e2; cases e2
   rw [c1] at c2
   injection c2 with z
   exact absurd z (by decide)
  | dct a b=>unfold lean at le; cases le
 | .dct a b,e,n,m,v,ld,_,_,_=>by unfold lean at ld; cases ld
theorem Rps.inj (I:Inv X pins σ H s) {B B':BS}:∀ {ds es:List D} {n m:Nat} {xs:List V},leans ds n = true→leans es m = true→Rps X.K H B ds xs→Rps X.K H B' es xs→ds = es
 | [],es,_,_,_,_,_,h,h'=>by
  rw [rps_nil] at h; subst h
  have:=h'.length
  cases es with
  | nil=>rfl
  | cons a b=>simp at this
 | d :: ds,es,n,m,_,ld,le,h,h'=>by
  rw [rps_cons] at h
  obtain ⟨x,r,rfl,h1,h2⟩:=h
  cases es with
  | nil=>rw [rps_nil] at h'; cases h'
  | cons e es =>
   rw [rps_cons] at h'
   obtain ⟨x',r',z,h1',h2'⟩:=h'
   cases z
   unfold leans at ld le
   rw [Bool.and_eq_true] at ld le
   rw [Rp.inj I ld.1 le.1 h1 h1',Rps.inj I ld.2 le.2 h2 h2']
end
theorem view (I:Inv X pins σ H s) {B:BS} {d:D} {n:Nat} {x:V} {u:Value} (l:lean d n = true) (h:Rp X.K H B d x) (r:RelV x u) :
  (d = .non∧u = .none) ∨ (∃ b,d = .bl b∧u = .bool b) ∨ (∃ i t,d = .int i∧u = .int i t) ∨ (∃ z t,d = .str z∧u = .str z t) ∨
  (∃ m ds a xs its,n = m + 1∧leans ds m = true∧d = .tup ds∧x = .ref a∧u = .ref a∧Rps X.K H B ds xs∧Vals xs its∧s.heap.IsTuple a its.toArray) ∨
  (∃ m ds a xs its,n = m + 1∧leans ds m = true∧d = .lst ds∧x = .ref a∧u = .ref a∧Rps X.K H B ds xs∧Vals xs its∧s.heap.IsList a its.toArray):=by
 cases d with
 | non=>rw [rp_non] at h; subst h; exact .inl ⟨rfl,r⟩
 | bl b=>rw [rp_bl] at h; subst h; exact .inr (.inl ⟨b,rfl,r⟩)
 | int i=>rw [rp_int] at h; subst h; obtain ⟨t,e⟩:=r; exact .inr (.inr (.inl ⟨i,t,rfl,e⟩))
 | str z=>rw [rp_str] at h; subst h; obtain ⟨t,e⟩:=r; exact .inr (.inr (.inr (.inl ⟨z,t,rfl,e⟩)))
 | tup ds =>
  cases n with
  | zero=>unfold lean at l; cases l
  | succ m =>
   unfold lean at l
   rw [rp_tup] at h
   obtain ⟨a,xs,rfl,q,rr⟩:=h
   obtain ⟨its,rv,p,_⟩:=I.tuple q.to
   exact .inr (.inr (.inr (.inr (.inl ⟨m,ds,a,xs,its,rfl,l,rfl,rfl,r,rr,rv,p⟩))))
 | lst ds =>
  cases n with
  | zero=>unfold lean at l; cases l
  | succ m =>
   unfold lean at l
   rw [rp_lst] at h
   obtain ⟨a,xs,rfl,q,rr⟩:=h
   obtain ⟨its,rv,p,_⟩:=I.list q.to
   exact .inr (.inr (.inr (.inr (.inr ⟨m,ds,a,xs,its,rfl,l,rfl,rfl,r,rr,rv,p.isList⟩))))
 | dct a b=>unfold lean at l; cases l
theorem in1_units {A:Around}:A.in1.units = A.units + 1:=rfl
theorem items_eq {ds es:List D} {xs ys:List V} {us ws:List Value} {n m:Nat} {B B':BS} {A:Around} (ld:leans ds n = true) (le:leans es m = true) (r1:Rps X.K H B ds xs) (r2:Rps X.K H B' es ys) (v1:Vals xs us) (v2:Vals ys ws)
  (ih:∀ d e x y u w,lean d n = true→lean e m = true→Rp X.K H B d x→Rp X.K H B' e y→RelV x u→RelV y w→SeqAt.EqAt A s u w (deq d e)) :
  ∀ j (h1:j < us.toArray.size) (h2:j < ws.toArray.size),SeqAt.EqAt A s us.toArray[j] ws.toArray[j] (deq (ds.getD j .non) (es.getD j .non)):=by
 intro j h1 h2
 have l1:j < ds.length:=by rw [← r1.length,v1.length]; simpa using h1
 have l2:j < es.length:=by rw [← r2.length,v2.length]; simpa using h2
 obtain ⟨x,ex,rx⟩:=r1.get (List.getElem?_eq_getElem l1)
 obtain ⟨y,ey,ry⟩:=r2.get (List.getElem?_eq_getElem l2)
 obtain ⟨u,eu,ru⟩:=v1.get ex
 obtain ⟨w,ew,rw'⟩:=v2.get ey
 have hu:us.toArray[j] = u:=by
  have:us[j]? = some u:=eu
  simp at h1
  rw [List.getElem?_eq_getElem h1] at this
  simpa using Option.some.inj this
 have hw:ws.toArray[j] = w:=by
  have:ws[j]? = some w:=ew
  simp at h2
  rw [List.getElem?_eq_getElem h2] at this
  simpa using Option.some.inj this
 rw [hu,hw]
 have e1:ds.getD j .non = ds[j]:=by simp [List.getD_eq_getElem?_getD,l1]
 have e2:es.getD j .non = es[j]:=by simp [List.getD_eq_getElem?_getD,l2]
 rw [e1,e2]
 exact ih _ _ _ _ _ _ (leans_get ld (List.getElem?_eq_getElem l1)) (leans_get le (List.getElem?_eq_getElem l2)) rx ry ru rw'
set_option maxHeartbeats 0 in
theorem eqAt_D (I:Inv X pins σ H s) {B B':BS}:∀ (n m:Nat) (d e:D) (x y:V) (u w:Value) (A:Around),A.units + n < cLine→lean d n = true→lean e m = true→Rp X.K H B d x→Rp X.K H B' e y→RelV x u→RelV y w→SeqAt.EqAt A s u w (deq d e):=by
 intro n
 induction n with
 | zero =>
  intro m d e x y u w A hu ld le hx hy rx ry
  have hu':A.units < cLine:=by omega
  rcases view I ld hx rx with ⟨rfl,rfl⟩ | ⟨b,rfl,rfl⟩ | ⟨i,t,rfl,rfl⟩ | ⟨z,t,rfl,rfl⟩ | ⟨n',_,_,_,_,hn,_⟩ | ⟨n',_,_,_,_,hn,_⟩ <;> (try (exact absurd hn (by omega))) <;>
  rcases view I le hy ry with ⟨rfl,rfl⟩ | ⟨b',rfl,rfl⟩ | ⟨i',t',rfl,rfl⟩ | ⟨z',t',rfl,rfl⟩ | ⟨m',es,a',ys,its',rfl,le',rfl,rfl,rfl,rr',rv',p'⟩ | ⟨m',es,a',ys,its',rfl,le',rfl,rfl,rfl,rr',rv',p'⟩ <;>
  unfold deq <;>
  first
  | with_reducible exact SeqAt.EqAt.same _ | with_reducible exact SeqAt.EqAt.bool_bool _ _ | with_reducible exact SeqAt.EqAt.int_int _ _ _ _ | with_reducible exact SeqAt.EqAt.str_str _ _ _ _ | with_reducible exact SeqAt.EqAt.bool_int _ _ _ | with_reducible exact SeqAt.EqAt.int_bool _ _ _
  | with_reducible exact SeqAt.EqAt.none_bool _ | with_reducible exact SeqAt.EqAt.none_int _ _ | with_reducible exact SeqAt.EqAt.none_str _ _ | with_reducible exact SeqAt.EqAt.bool_none _ | with_reducible exact SeqAt.EqAt.bool_str _ _ _ | with_reducible exact SeqAt.EqAt.int_none _ _ | with_reducible exact SeqAt.EqAt.int_str _ _ _ _
  | with_reducible exact SeqAt.EqAt.str_none _ _ | with_reducible exact SeqAt.EqAt.str_bool _ _ _ | with_reducible exact SeqAt.EqAt.str_int _ _ _ _
  | with_reducible exact SeqAt.EqAt.none_list p' hu' | with_reducible exact SeqAt.EqAt.bool_list _ p' hu' | with_reducible exact SeqAt.EqAt.int_list _ _ p' hu' | with_reducible exact SeqAt.EqAt.str_list _ _ p' hu'
  | with_reducible exact SeqAt.EqAt.none_tuple p' hu' | with_reducible exact SeqAt.EqAt.bool_tuple _ p' hu' | with_reducible exact SeqAt.EqAt.int_tuple _ _ p' hu' | with_reducible exact SeqAt.EqAt.str_tuple _ _ p' hu'
 | succ n ih =>
  intro m d e x y u w A hu ld le hx hy rx ry
  have hu':A.units < cLine:=by omega
  have hin:A.in1.units + n < cLine:=by rw [in1_units]; omega
  rcases view I ld hx rx with ⟨rfl,rfl⟩ | ⟨b,rfl,rfl⟩ | ⟨i,t,rfl,rfl⟩ | ⟨z,t,rfl,rfl⟩ | ⟨n',ds,a,xs,its,hn,ld',rfl,rfl,rfl,rr,rv,p⟩ | ⟨n',ds,a,xs,its,hn,ld',rfl,rfl,rfl,rr,rv,p⟩ <;>
  rcases view I le hy ry with ⟨rfl,rfl⟩ | ⟨b',rfl,rfl⟩ | ⟨i',t',rfl,rfl⟩ | ⟨z',t',rfl,rfl⟩ | ⟨m',es,a',ys,its',rfl,le',rfl,rfl,rfl,rr',rv',p'⟩ | ⟨m',es,a',ys,its',rfl,le',rfl,rfl,rfl,rr',rv',p'⟩
  case inr.inr.inr.inr.inl.inr.inr.inr.inr.inl =>
   cases hn
   by_cases hab:a = a'
   ·subst hab
    have e:D.tup ds = D.tup es:=Rp.inj I ld le hx hy
    rw [← e,deq_refl _ _ ld]
    exact SeqAt.EqAt.same _
   ·refine SeqAt.EqAt.of_refs hab ?_
    have:=SeqAt.RcAt.tuples (e:=fun j=>deq (ds.getD j .non) (es.getD j .non)) p p' hu' (items_eq ld' le' rr rr' rv rv' fun d e x y u w h1 h2 h3 h4 h5 h6=>ih m' d e x y u w A.in1 hin h1 h2 h3 h4 h5 h6)
    unfold deq
    rw [deqs_range]
    simpa [← rv.length,← rv'.length,rr.length,rr'.length] using this
  case inr.inr.inr.inr.inr.inr.inr.inr.inr.inr =>
   cases hn
   by_cases hab:a = a'
   ·subst hab
    have e:D.lst ds = D.lst es:=Rp.inj I ld le hx hy
    rw [← e,deq_refl _ _ ld]
    exact SeqAt.EqAt.same _
   ·refine SeqAt.EqAt.of_refs hab ?_
    have s1:its.toArray.size = ds.length:=by rw [List.size_toArray,← rv.length,rr.length]
    have s2:its'.toArray.size = es.length:=by rw [List.size_toArray,← rv'.length,rr'.length]
    unfold deq
    rw [deqs_range]
    by_cases hl:ds.length = es.length
    ·have:=SeqAt.RcAt.lists (e:=fun j=>deq (ds.getD j .non) (es.getD j .non)) p p' (by rw [s1,s2,hl]) hu' (items_eq ld' le' rr rr' rv rv' fun d e x y u w h1 h2 h3 h4 h5 h6=>ih m' d e x y u w A.in1 hin h1 h2 h3 h4 h5 h6)
     rw [s1] at this
     rw [hl] at this ⊢
     simpa using this
    ·have:=SeqAt.RcAt.lists_lengths (A:=A) p p' (by rw [s1,s2]; simpa using hl) hu'
     rw [beq_eq_false_iff_ne.mpr hl,Bool.and_false]
     exact this
  all_goals
   unfold deq
   first
   | with_reducible exact SeqAt.EqAt.same _ | with_reducible exact SeqAt.EqAt.bool_bool _ _ | with_reducible exact SeqAt.EqAt.int_int _ _ _ _ | with_reducible exact SeqAt.EqAt.str_str _ _ _ _ | with_reducible exact SeqAt.EqAt.bool_int _ _ _ | with_reducible exact SeqAt.EqAt.int_bool _ _ _
   | with_reducible exact SeqAt.EqAt.none_bool _ | with_reducible exact SeqAt.EqAt.none_int _ _ | with_reducible exact SeqAt.EqAt.none_str _ _ | with_reducible exact SeqAt.EqAt.bool_none _ | with_reducible exact SeqAt.EqAt.bool_str _ _ _ | with_reducible exact SeqAt.EqAt.int_none _ _ | with_reducible exact SeqAt.EqAt.int_str _ _ _ _
   | with_reducible exact SeqAt.EqAt.str_none _ _ | with_reducible exact SeqAt.EqAt.str_bool _ _ _ | with_reducible exact SeqAt.EqAt.str_int _ _ _ _
   | with_reducible exact SeqAt.EqAt.none_list p' hu' | with_reducible exact SeqAt.EqAt.bool_list _ p' hu' | with_reducible exact SeqAt.EqAt.int_list _ _ p' hu' | with_reducible exact SeqAt.EqAt.str_list _ _ p' hu'
   | with_reducible exact SeqAt.EqAt.none_tuple p' hu' | with_reducible exact SeqAt.EqAt.bool_tuple _ p' hu' | with_reducible exact SeqAt.EqAt.int_tuple _ _ p' hu' | with_reducible exact SeqAt.EqAt.str_tuple _ _ p' hu'
   | with_reducible exact SeqAt.EqAt.list_none p hu' | with_reducible exact SeqAt.EqAt.list_bool _ p hu' | with_reducible exact SeqAt.EqAt.list_int _ _ p hu' | with_reducible exact SeqAt.EqAt.list_str _ _ p hu'
   | with_reducible exact SeqAt.EqAt.tuple_none p hu' | with_reducible exact SeqAt.EqAt.tuple_bool _ p hu' | with_reducible exact SeqAt.EqAt.tuple_int _ _ p hu' | with_reducible exact SeqAt.EqAt.tuple_str _ _ p hu'
   | with_reducible exact SeqAt.EqAt.list_tuple p p' hu' | with_reducible exact SeqAt.EqAt.tuple_list p p' hu'
end
end DL
namespace DL
open PySem PySem.Spec PyProof.Rows L2
section
variable {X:Cx} {pins:List (Addr × Obj)} {σ:St} {H:Hp} {s:Shared}
set_option maxHeartbeats 0 in
theorem rcAt_D (I:Inv X pins σ H s) {B B':BS} (n m:Nat) (d e:D) (x y:V) (u w:Value) (A:Around) (hu:A.units + n < cLine) (ld:lean d n = true) (le:lean e m = true) (hx:Rp X.K H B d x) (hy:Rp X.K H B' e y) (rx:RelV x u) (ry:RelV y w) :
  SeqAt.RcAt A s u w (deq d e)∧SeqAt.RcNeAt A s u w (!deq d e):=by
 have hu':A.units < cLine:=by omega
 rcases view I ld hx rx with ⟨rfl,rfl⟩ | ⟨b,rfl,rfl⟩ | ⟨i,t,rfl,rfl⟩ | ⟨z,t,rfl,rfl⟩ | ⟨n',ds,a,xs,its,hn,ld',rfl,rfl,rfl,rr,rv,p⟩ | ⟨n',ds,a,xs,its,hn,ld',rfl,rfl,rfl,rr,rv,p⟩ <;>
 rcases view I le hy ry with ⟨rfl,rfl⟩ | ⟨b',rfl,rfl⟩ | ⟨i',t',rfl,rfl⟩ | ⟨z',t',rfl,rfl⟩ | ⟨m',es,a',ys,its',rfl,le',rfl,rfl,rfl,rr',rv',p'⟩ | ⟨m',es,a',ys,its',rfl,le',rfl,rfl,rfl,rr',rv',p'⟩
 case inr.inr.inr.inr.inl.inr.inr.inr.inr.inl =>
  subst hn
  have hin:A.in1.units + n' < cLine:=by rw [in1_units]; omega
  have hit:=items_eq (A:=A.in1) ld' le' rr rr' rv rv' fun d e x y u w h1 h2 h3 h4 h5 h6=>eqAt_D I n' m' d e x y u w A.in1 hin h1 h2 h3 h4 h5 h6
  have q1:=SeqAt.RcAt.tuples (e:=fun j=>deq (ds.getD j .non) (es.getD j .non)) p p' hu' hit
  have q2:=SeqAt.RcNeAt.tuples (e:=fun j=>deq (ds.getD j .non) (es.getD j .non)) p p' hu' hit
  unfold deq
  rw [deqs_range]
  have s1:its.toArray.size = ds.length:=by rw [List.size_toArray,← rv.length,rr.length]
  have s2:its'.toArray.size = es.length:=by rw [List.size_toArray,← rv'.length,rr'.length]
  rw [s1,s2] at q1 q2
  exact ⟨q1,q2⟩
 case inr.inr.inr.inr.inr.inr.inr.inr.inr.inr =>
  subst hn
  have hin:A.in1.units + n' < cLine:=by rw [in1_units]; omega
  have hit:=items_eq (A:=A.in1) ld' le' rr rr' rv rv' fun d e x y u w h1 h2 h3 h4 h5 h6=>eqAt_D I n' m' d e x y u w A.in1 hin h1 h2 h3 h4 h5 h6
  have s1:its.toArray.size = ds.length:=by rw [List.size_toArray,← rv.length,rr.length]
  have s2:its'.toArray.size = es.length:=by rw [List.size_toArray,← rv'.length,rr'.length]
  unfold deq
  rw [deqs_range]
  by_cases hl:ds.length = es.length
  ·have q1:=SeqAt.RcAt.lists (e:=fun j=>deq (ds.getD j .non) (es.getD j .non)) p p' (by rw [s1,s2,hl]) hu' hit
   have q2:=SeqAt.RcNeAt.lists (e:=fun j=>deq (ds.getD j .non) (es.getD j .non)) p p' (by rw [s1,s2,hl]) hu' hit
   rw [s1] at q1 q2
   rw [hl] at q1 q2 ⊢
   simp only [Nat.min_self,beq_self_eq_true,Bool.and_true]
   exact ⟨q1,q2⟩
  ·have q1:=SeqAt.RcAt.lists_lengths (A:=A) p p' (by rw [s1,s2]; simpa using hl) hu'
   have q2:=SeqAt.RcNeAt.lists_lengths (A:=A) p p' (by rw [s1,s2]; simpa using hl) hu'
   rw [beq_eq_false_iff_ne.mpr hl,Bool.and_false]
   exact ⟨q1,q2⟩
 all_goals
  unfold deq
  constructor
  ·first
   | with_reducible exact SeqAt.RcAt.none_none | with_reducible exact SeqAt.RcAt.bool_bool _ _ | with_reducible exact SeqAt.RcAt.int_int _ _ _ _ | with_reducible exact SeqAt.RcAt.str_str _ _ _ _ | with_reducible exact SeqAt.RcAt.bool_int _ _ _ | with_reducible exact SeqAt.RcAt.int_bool _ _ _
   | with_reducible exact SeqAt.RcAt.none_bool _ | with_reducible exact SeqAt.RcAt.none_int _ _ | with_reducible exact SeqAt.RcAt.none_str _ _ | with_reducible exact SeqAt.RcAt.bool_none _ | with_reducible exact SeqAt.RcAt.bool_str _ _ _ | with_reducible exact SeqAt.RcAt.int_none _ _ | with_reducible exact SeqAt.RcAt.int_str _ _ _ _
   | with_reducible exact SeqAt.RcAt.str_none _ _ | with_reducible exact SeqAt.RcAt.str_bool _ _ _ | with_reducible exact SeqAt.RcAt.str_int _ _ _ _
   | with_reducible exact SeqAt.RcAt.none_list p' hu' | with_reducible exact SeqAt.RcAt.bool_list _ p' hu' | with_reducible exact SeqAt.RcAt.int_list _ _ p' hu' | with_reducible exact SeqAt.RcAt.str_list _ _ p' hu'
   | with_reducible exact SeqAt.RcAt.none_tuple p' hu' | with_reducible exact SeqAt.RcAt.bool_tuple _ p' hu' | with_reducible exact SeqAt.RcAt.int_tuple _ _ p' hu' | with_reducible exact SeqAt.RcAt.str_tuple _ _ p' hu'
   | with_reducible exact SeqAt.RcAt.list_none p hu' | with_reducible exact SeqAt.RcAt.list_bool _ p hu' | with_reducible exact SeqAt.RcAt.list_int _ _ p hu' | with_reducible exact SeqAt.RcAt.list_str _ _ p hu'
   | with_reducible exact SeqAt.RcAt.tuple_none p hu' | with_reducible exact SeqAt.RcAt.tuple_bool _ p hu' | with_reducible exact SeqAt.RcAt.tuple_int _ _ p hu' | with_reducible exact SeqAt.RcAt.tuple_str _ _ p hu'
   | with_reducible exact SeqAt.RcAt.list_tuple p p' hu' | with_reducible exact SeqAt.RcAt.tuple_list p p' hu'
  ·try rw [Bool.not_false]
   try rw [Bool.not_true]
   first
   | with_reducible exact SeqAt.RcNeAt.none_none | with_reducible exact SeqAt.RcNeAt.bool_bool _ _ | with_reducible exact SeqAt.RcNeAt.int_int _ _ _ _ | with_reducible exact SeqAt.RcNeAt.str_str _ _ _ _ | with_reducible exact SeqAt.RcNeAt.bool_int _ _ _ | with_reducible exact SeqAt.RcNeAt.int_bool _ _ _
   | with_reducible exact SeqAt.RcNeAt.none_bool _ | with_reducible exact SeqAt.RcNeAt.none_int _ _ | with_reducible exact SeqAt.RcNeAt.none_str _ _ | with_reducible exact SeqAt.RcNeAt.bool_none _ | with_reducible exact SeqAt.RcNeAt.bool_str _ _ _ | with_reducible exact SeqAt.RcNeAt.int_none _ _ | with_reducible exact SeqAt.RcNeAt.int_str _ _ _ _
   | with_reducible exact SeqAt.RcNeAt.str_none _ _ | with_reducible exact SeqAt.RcNeAt.str_bool _ _ _ | with_reducible exact SeqAt.RcNeAt.str_int _ _ _ _
   | with_reducible exact SeqAt.RcNeAt.none_list p' hu' | with_reducible exact SeqAt.RcNeAt.bool_list _ p' hu' | with_reducible exact SeqAt.RcNeAt.int_list _ _ p' hu' | with_reducible exact SeqAt.RcNeAt.str_list _ _ p' hu'
   | with_reducible exact SeqAt.RcNeAt.none_tuple p' hu' | with_reducible exact SeqAt.RcNeAt.bool_tuple _ p' hu' | with_reducible exact SeqAt.RcNeAt.int_tuple _ _ p' hu' | with_reducible exact SeqAt.RcNeAt.str_tuple _ _ p' hu'
   | with_reducible exact SeqAt.RcNeAt.list_none p hu' | with_reducible exact SeqAt.RcNeAt.list_bool _ p hu' | with_reducible exact SeqAt.RcNeAt.list_int _ _ p hu' | with_reducible exact SeqAt.RcNeAt.list_str _ _ p hu'
   | with_reducible exact SeqAt.RcNeAt.tuple_none p hu' | with_reducible exact SeqAt.RcNeAt.tuple_bool _ p hu' | with_reducible exact SeqAt.RcNeAt.tuple_int _ _ p hu' | with_reducible exact SeqAt.RcNeAt.tuple_str _ _ p hu'
   | with_reducible exact SeqAt.RcNeAt.list_tuple p p' hu' | with_reducible exact SeqAt.RcNeAt.tuple_list p p' hu'
end
section
variable {X:Cx} {K:W.Frag} {e a b:Expr} {es:List Expr} {pos p:Pos} {g ga gb:Ds→Option D} {gA:Ds→Option (List D)}
noncomputable def rEqX (K:W.Frag) (neg:Bool):R2:=fun x y H Q=>∃ B B' dx dy,Rp K H B dx x∧Rp K H B' dy y∧lean dx 50 = true∧lean dy 50 = true∧Q (.bl (xor neg (deq dx dy))) H
theorem op_eqX (hu:X.A.units + 64 < cLine):OpR X (compareOp .Eq) (rEqX X.K false):=by
 intro pins s σ H x y v u Q I rx ry h
 obtain ⟨B,B',dx,dy,hx,hy,lx,ly,q⟩:=h
 exact (rcAt_D I 50 50 dx dy x y v u X.A (by omega) lx ly hx hy rx ry).1 _ _ _ _ ⟨.bl _,H,I,rfl,by rw [Bool.false_xor] at q; exact q⟩
theorem op_neX (hu:X.A.units + 64 < cLine):OpR X (compareOp .NotEq) (rEqX X.K true):=by
 intro pins s σ H x y v u Q I rx ry h
 obtain ⟨B,B',dx,dy,hx,hy,lx,ly,q⟩:=h
 exact (rcAt_D I 50 50 dx dy x y v u X.A (by omega) lx ly hx hy rx ry).2 _ _ _ _ ⟨.bl _,H,I,rfl,by rw [Bool.true_xor] at q; exact q⟩
theorem op2_eqX:Op2 K (rEqX K false) eqDD:=by
 intro H B x y dx dy d Q hb rx ry h k
 unfold eqDD at h
 split at h
 ·rename_i hl
  cases h
  exact ⟨B,B,dx,dy,rx,ry,hl.1,hl.2,k _ H (Same.refl H) (by rw [rp_bl,Bool.false_xor])⟩
 ·cases h
theorem op2_neX:Op2 K (rEqX K true) neDD:=by
 intro H B x y dx dy d Q hb rx ry h k
 unfold neDD at h
 split at h
 ·rename_i hl
  cases h
  exact ⟨B,B,dx,dy,rx,ry,hl.1,hl.2,k _ H (Same.refl H) (by rw [rp_bl,Bool.true_xor])⟩
 ·cases h
theorem op2_addA:Op2 K (fun x y H Q=>rI0 (fun i j=>.int (i + j)) x y H Q ∨ (∃ i j,x = .str i∧y = .str j∧i.length + j.length ≤ sizeLine∧Q (.str (i ++ j)) H) ∨ rCatL K x y H Q ∨ rCatT K x y H Q ∨ rCatT0 K x y H Q) addA:=by
 intro H B x y dx dy d Q hb rx ry h k
 cases dx <;> cases dy <;> simp only [addA] at h <;> try cases h
 ·rw [rp_int] at rx ry
  subst rx ry
  exact .inl ⟨_,_,rfl,rfl,k _ H (Same.refl H) (by rw [rp_int])⟩
 ·split at h
  ·cases h
   rw [rp_str] at rx ry
   subst rx ry
   exact .inr (.inl ⟨_,_,rfl,rfl,by assumption,k _ H (Same.refl H) (by rw [rp_str])⟩)
  ·cases h
 ·split at h
  ·rename_i hz
   cases h
   have ry0:=ry
   have rx0:=rx
   rw [rp_tup] at rx ry
   obtain ⟨a,xs,rfl,q1,r1⟩:=rx
   obtain ⟨b,ys,rfl,q2,r2⟩:=ry
   by_cases he:xs = []
   ·subst he
    have e:‹List D› = ‹List D›:=rfl
    have hn:=r1.length
    simp at hn
    have hn':=List.length_eq_zero_iff.mp hn.symm
    subst hn'
    exact .inr (.inr (.inr (.inr ⟨a,b,ys,rfl,rfl,q1.to,q2.to,k _ H (Same.refl H) (by rw [List.nil_append]; exact ry0)⟩)))
   ·refine .inr (.inr (.inr (.inl ⟨a,b,xs,ys,rfl,rfl,q1.to,q2.to,he,by rw [r1.length,r2.length]; exact hz,fun z=>?_,fun z p hp=>k _ _ (same_upd hp) (rp_newT hb hp (r1.append r2))⟩)))
    subst z
    have hn:=r2.length
    simp at hn
    have hn':=List.length_eq_zero_iff.mp hn.symm
    subst hn'
    exact k _ H (Same.refl H) (by rw [List.append_nil]; exact rx0)
  ·cases h
 ·split at h
  ·rename_i hz
   cases h
   rw [rp_lst] at rx ry
   obtain ⟨a,xs,rfl,q1,r1⟩:=rx
   obtain ⟨b,ys,rfl,q2,r2⟩:=ry
   exact .inr (.inr (.inl ⟨a,b,xs,ys,rfl,rfl,q1.to,q2.to,by rw [r1.length,r2.length]; exact hz,fun p hp=>k _ _ (same_upd hp) (rp_newL hb hp (r1.append r2))⟩))
  ·cases h
theorem pd_addA (ha:PD X a ga) (hb:PD X b gb):PD X (.BinOp a .Add b pos) (o2 ga gb addA):=pd_op (op_add.or (op_add_str.or (op_catL.or (op_catT.or op_catT0)))) op2_addA ha hb
theorem rps_rep {H:Hp} {B:BS} {ds:List D} {xs:List V} (h:Rps K H B ds xs):∀ k:Nat,Rps K H B (List.replicate k ds).flatten (List.replicate k xs).flatten
 | 0=>by simp [rps_nil]
 | k + 1=>by
  rw [List.replicate_succ,List.replicate_succ,List.flatten_cons,List.flatten_cons]
  exact h.append (rps_rep h k)
theorem op2_mulA:Op2 K (fun x y H Q=>rI CMul (fun i j=>.int (i * j)) x y H Q ∨ rMulS x y H Q ∨ rMulT K x y H Q) mulA:=by
 intro H B x y dx dy d Q hb rx ry h k
 cases dx <;> cases dy <;> simp only [mulA] at h <;> try cases h
 ·split at h
  ·cases h
   rw [rp_int] at rx ry
   subst rx ry
   exact .inl ⟨_,_,rfl,rfl,by assumption,k _ H (Same.refl H) (by rw [rp_int])⟩
  ·cases h
 ·split at h
  ·rename_i hz
   cases h
   rw [rp_str] at rx
   rw [rp_int] at ry
   subst rx ry
   exact .inr (.inl ⟨_,_,rfl,rfl,hz.1,hz.2.1,hz.2.2,k _ H (Same.refl H) (by rw [rp_str]; rfl)⟩)
  ·cases h
 ·split at h
  ·rename_i hz
   cases h
   rw [rp_tup] at rx
   rw [rp_int] at ry
   subst ry
   obtain ⟨a,xs,rfl,q1,r1⟩:=rx
   refine .inr (.inr ⟨a,xs,_,rfl,rfl,q1.to,fun z=>hz.1 ?_,hz.2.1,hz.2.2.1,by rw [r1.length]; exact hz.2.2.2,fun p hp=>k _ _ (same_upd hp) (rp_newT hb hp (rps_rep r1 _))⟩)
   subst z
   have hn:=r1.length
   simp at hn
   exact List.length_eq_zero_iff.mp hn.symm
  ·cases h
theorem pd_mulA (ha:PD X a ga) (hb:PD X b gb):PD X (.BinOp a .Mult b pos) (o2 ga gb mulA):=pd_op (op_mul.or (op_mulS.or op_mulT)) op2_mulA ha hb
theorem cut_whole {xs:List D} {lo hi:Option Int} (h:sIx xs.length 0 lo = 0∧sIx xs.length xs.length hi = xs.length):cutD xs lo hi = xs:=by
 unfold cutD
 rw [h.1,h.2]
 simp
theorem pd_sliceA {lo hi:Option Expr} {gl gh:Ds→Option (Option Int)} {p2:Pos} (he:PD X e g) (hl:PDO X lo gl) (hh:PDO X hi gh) :
  PD X (.Subscript e (.Slice lo hi none p2) pos) (slAG g gl gh):=.mk fun B δ =>
 (pe_slice (sl_str.or (sl_list.or (sl_tup.or sl_tupW))) (he B δ) (hl B δ) (hh B δ)).imp fun σ H Q ⟨d,en,h,k⟩=>by
  unfold slAG at h
  cases e1:g δ with
  | none=>rw [e1] at h; cases h
  | some x =>
   cases e2:gl δ with
   | none=>rw [e1,e2] at h; cases h
   | some l =>
    cases e3:gh δ with
    | none=>rw [e1,e2,e3] at h; cases h
    | some u =>
     rw [e1,e2,e3] at h
     simp only [Option.bind_some] at h
     refine ⟨x,en,e1,fun v H1 s1 r1=>⟨l,en.same s1,(by first | exact e2 | rfl),fun H2 s2=>⟨u,(en.same s1).same s2,(by first | exact e3 | rfl),fun H3 s3=>?_⟩⟩⟩
     have S:=(s1.trans s2).trans s3
     have r3:=(r1.same s2).same s3
     have hb:=(((en.same s1).same s2).same s3).bad
     cases x <;> simp only [slA] at h <;> try cases h
     ·split at h
      ·cases h
       rw [rp_str] at r3
       exact .inl ⟨_,r3,by assumption,k _ H3 S (by rw [rp_str])⟩
      ·cases h
     ·have r4:=r3
      rw [rp_tup] at r3
      obtain ⟨a,xs,rfl,q,r⟩:=r3
      rename_i dxs
      by_cases hw:sIx dxs.length 0 l = 0∧sIx dxs.length dxs.length u = dxs.length
      ·refine .inr (.inr (.inr ⟨a,xs,rfl,q.to,by rw [r.length,sIx_eq,sIx_eq]; exact hw,k _ _ S ?_⟩))
       rw [cut_whole hw]
       exact r4
      ·exact .inr (.inr (.inl ⟨a,xs,rfl,q.to,by rw [r.length,sIx_eq,sIx_eq]; exact hw,fun p hp=>k _ _ (S.trans (same_upd hp)) (rp_newT hb hp (cut_rel r l u))⟩))
     ·rw [rp_lst] at r3
      obtain ⟨a,xs,rfl,q,r⟩:=r3
      exact .inr (.inl ⟨a,xs,rfl,q.to,fun p hp=>k _ _ (S.trans (same_upd hp)) (rp_newL hb hp (cut_rel r l u))⟩)
theorem fn_int:FnR K (fun xs H Q=>(∃ i,xs = [.int i]∧Q (.int i) H) ∨ ∃ k,xs = [.bl k]∧Q (.int (if k then 1 else 0)) H) intOfD:=by
 intro H B xs ds d Q hb r h k
 unfold intOfD at h
 split at h
 ·cases h
  obtain ⟨v,rfl,r1⟩:=rps_one r
  rw [rp_int] at r1
  subst r1
  exact .inl ⟨_,rfl,k _ H (Same.refl H) (by rw [rp_int])⟩
 ·cases h
  obtain ⟨v,rfl,r1⟩:=rps_one r
  rw [rp_bl] at r1
  subst r1
  exact .inr ⟨_,rfl,k _ H (Same.refl H) (by rw [rp_int])⟩
 ·cases h
theorem fn_list:FnR K (fun xs H Q=>∃ p ys,xs = [.ref p]∧(SqL K H p ys ∨ SqT K H p ys)∧∀ l,H l = none→Q (.ref l) (upd H l (.lst ys))) lstOfD:=by
 intro H B xs ds d Q hb r h k
 unfold lstOfD at h
 split at h
 ·cases h
  obtain ⟨v,rfl,r1⟩:=rps_one r
  rw [rp_lst] at r1
  obtain ⟨a,ys,rfl,q,rr⟩:=r1
  exact ⟨a,ys,rfl,.inl q.to,fun l hl=>k _ _ (same_upd hl) (rp_newL hb hl rr)⟩
 ·cases h
  obtain ⟨v,rfl,r1⟩:=rps_one r
  rw [rp_tup] at r1
  obtain ⟨a,ys,rfl,q,rr⟩:=r1
  exact ⟨a,ys,rfl,.inr q.to,fun l hl=>k _ _ (same_upd hl) (rp_newL hb hl rr)⟩
 ·cases h
end
end DL
namespace SetS
open PySem PySem.Spec PyProof.Rows DL
section
variable {prog:Program} {w:World} {A:Around} {R:Result→Shared→Prop} {I:Addr} {fp wr:List Addr} {G:Array GenState→Array GenState→Prop} {P:Nat→Value→Prop} {St:Nat→Shared→Prop}
end
section
variable {prog:Program} {w:World} {A:Around} {E:Value→Shared→Prop} {s:Shared}
end
end SetS
namespace DL
open PySem PySem.Spec PyProof.Rows L2
section
variable {X:Cx} {K:W.Frag} {e a b:Expr} {es:List Expr} {pos p pos2 p2:Pos} {g ga gb:Ds→Option D} {gA:Ds→Option (List D)}
theorem psd_ownCmp (i:Nat) {y:Str} {tg:Expr} {py spos:Pos} {sc scope:Scope} {elt iter:Expr} {ifs:List Expr} {N N':List Str} {n:Nat} {caps:List Nat} {gi:Ds→Option (List D)} {idx:List Nat} {f:D→Ds→Option Ds} {gt:Ds→Option Bool} {ge:Ds→Option D}
  (hnd:N.Nodup) (ok:CompOk sc scope N N' n caps) (hidx:∀ j ∈ idx,j < n) (hi:PID X tg iter gi)
  (hg:∀ cl s H ex,PGD (cxComp X scope cl N' s H ex) tg idx f) (ht:∀ cl s H ex,PFD (cxComp X scope cl N' s H ex) ifs gt) (he:∀ cl s H ex,PD (cxComp X scope cl N' s H ex) elt ge)
  (hc:X.calm = true:=by rfl) (hsc:X.env.scope = sc:=by rfl) (hN:X.N = N:=by rfl)
  (hiN:X.N[i]? = some y:=by rfl) (hy:Loc X.env.scope y:=by first | exact Or.inl rfl | exact Or.inr rfl)
  (hsw:swapsWith (.ListComp elt [⟨tg,iter,ifs,0⟩] scope pos) (some (.Name y py)) spos.line X.env = pure true:=by rfl)
  (hs:∀ x,foldedSetIterable iter X.env x = pure x:=by intro _; rfl)
  (hf:X.fn y = true ∨ X.env.scope.names.lookup y = some .local:=by first | exact .inl rfl | exact .inr rfl | assumption) :
  PSD X (.Assign [.Name y py] (.ListComp elt [⟨tg,iter,ifs,0⟩] scope pos) spos) (ownD i (compG n caps gi f gt ge)):=.mk fun H₀ B₀ δ pins s σ H D I ⟨r,en,e1,k⟩=>by
 unfold ownD at e1
 obtain ⟨B,b1,b2,env⟩:=en.ex
 cases e2:compG n caps gi f gt ge δ with
 | none=>rw [e2] at e1; cases e1
 | some d =>
  rw [e2] at e1
  cases e1
  refine ps_setComp (i:=i) (hN ▸ hnd) hiN hy hc hsc (hN ▸ ok) (hi B δ) (g:=fun v σ H Q=>∃ B d δ,tDG X.K idx f B d δ v σ H Q) (tt:=fun σ H Q=>∃ B δ,tDT X.K B δ gt σ H Q) (te:=fun σ H Q=>∃ B δ,tD X.K B δ ge σ H Q)
   (fun cl s H ex pins s' σ H v u Q I r ⟨B,d,δ,h⟩=>hg cl s _ ex B d δ pins s' σ H v u Q I r h)
   (fun cl s H ex pins s' σ H Q I ⟨B,δ,h⟩=>ht cl s _ ex B δ pins s' σ H Q I h)
   (fun cl s H ex pins s' σ H Q I ⟨B,δ,h⟩=>he cl s _ ex B δ pins s' σ H Q I h) hsw hs hf pins s σ H D I (comp_read hidx ⟨d,env,e2,fun p H' hp s' r'=>k _ H' (en.take b1 b2 env i hp s' r')⟩)
end
section
variable {X:Cx} {K:W.Frag} {e a b:Expr} {es:List Expr} {pos p pos2 p2:Pos} {g ga gb:Ds→Option D} {gA:Ds→Option (List D)}
theorem pdf_cat (ha:PD X a ga) (hb:PD X b gb):PDF X (.BinOp a .Add b pos) (o2 ga gb catD):=.mk fun B δ=>(pe_op op_catL (ha B δ) (hb B δ)).imp fun σ H Q ⟨d,en,h,k⟩=>by
 unfold o2 at h
 cases e1:ga δ with
 | none=>rw [e1] at h; cases h
 | some x =>
  cases e2:gb δ with
  | none=>rw [e1,e2] at h; cases h
  | some y =>
   rw [e1,e2] at h
   simp only [Option.bind_some] at h
   refine ⟨x,en,e1,fun v1 H1 s1 r1=>⟨y,en.same s1,e2,fun v2 H2 s2 r2=>?_⟩⟩
   cases x <;> cases y <;> simp only [catD] at h <;> try cases h
   split at h
   ·rename_i hz
    cases h
    have r1:=r1.same s2
    rw [rp_lst] at r1 r2
    obtain ⟨a,xs,rfl,q1,r1⟩:=r1
    obtain ⟨b,ys,rfl,q2,r2⟩:=r2
    exact ⟨a,b,xs,ys,rfl,rfl,q1.to,q2.to,by rw [r1.length,r2.length]; exact hz,fun p hp=>k p _ ((s1.trans s2).free hp) ((s1.trans s2).trans (same_upd hp)) ⟨_,upd_same,(r1.append r2).mono (Gr.fresh hp)⟩⟩
   ·cases h
theorem pdf_list {x:Str} (hm:X.mg x = none) (hv:bootBuiltins x = some (.type "list")) (ha:PD X e g) (hg:Gl X x:=by rfl)
  (hn:x ≠ "__name__" := by decide) (hdb:(x == ("__debug__" : Str)) = false:=by decide) (he:starEach [e] X.env = (false,eval e X.env) :: starEach [] X.env:=by rfl) (hpl:(backTo pos (starEach [] X.env)).any (·.1) = false:=by rfl) :
  PDF X (.Call (.Name x p) [e] [] pos) (oA (consA g nilA) lstOfD):=.mk fun B δ=>(pe_callTy call_list_of hg hm hv (pa_cons (ha B δ) pa_nil he) hn hdb he hpl).imp fun σ H Q ⟨d,en,h,k⟩=>by
 unfold oA consA nilA at h
 cases e1:g δ with
 | none=>rw [e1] at h; cases h
 | some x =>
  rw [e1] at h
  simp only [Option.bind_some,Option.map_some] at h
  refine ⟨x,en,e1,fun v H1 s1 r1=>?_⟩
  cases x <;> simp only [lstOfD] at h <;> try cases h
  ·rw [rp_tup] at r1
   obtain ⟨q,xs,rfl,hq,rr⟩:=r1
   exact ⟨q,xs,rfl,.inr hq.to,fun l hl=>k l _ (s1.free hl) (s1.trans (same_upd hl)) ⟨_,upd_same,rr.mono (Gr.fresh hl)⟩⟩
  ·rw [rp_lst] at r1
   obtain ⟨q,xs,rfl,hq,rr⟩:=r1
   exact ⟨q,xs,rfl,.inl hq.to,fun l hl=>k l _ (s1.free hl) (s1.trans (same_upd hl)) ⟨_,upd_same,rr.mono (Gr.fresh hl)⟩⟩
end
section
variable {X:Cx} {e:Expr} {es:List Expr} {pos p:Pos} {g:Ds→Option D} {gA:Ds→Option (List D)}
noncomputable def FnN (P:Program) (w:World) (K:W.Frag) (mg:Str→Option Value) (base:Heap) (x:Str) (k:Nat) (ps:List Str) (f:List D→Option D):Prop :=
 ∃ (fa:Addr) (fd:FuncData),FnOk P w K mg base CX0 k fa fd ps (spN K f)∧mg x = some (.ref fa)∧W.keepIn K (.ref fa) = true∧Binds K fd ps []
theorem pdf_fn {k m:Nat} {ps:List Str} {x:Str} {f:List D→Option D} (C:FnN X.prog X.w X.K X.mg X.base x k ps f) (hr:Room m X.A) (hk:k ≤ m) (ha:PDA X (e :: es) gA) (hg:Gl X x:=by rfl) (hdb:(x == ("__debug__" : Str)) = false:=by decide)
  (he:starEach (e :: es) X.env = (false,eval e X.env) :: starEach es X.env:=by rfl) (hpl:(backTo pos (starEach es X.env)).any (·.1) = false:=by rfl):PDF X (.Call (.Name x p) (e :: es) [] pos) (oA gA f):=by
 obtain ⟨fa,fd,F,hm,kp,hb⟩:=C
 exact .mk fun B δ=>(pe_call (E:=E0) F (hr.mono hk) hg hm kp hb .nil pass0 (ha B δ) hdb he hpl).imp fun σ H Q h=>by
  obtain ⟨d,en,h,k⟩:=h
  unfold oA at h
  cases e1:gA δ with
  | none=>rw [e1] at h; cases h
  | some ds =>
   rw [e1] at h
   refine ⟨ds,en,e1,fun vs H1 s1 r1=>?_⟩
   show spN X.K f (vs ++ []) H1 Q E0
   rw [List.append_nil]
   exact ⟨B,ds,d,(en.same s1).bad,r1,h,fun p H' hp s r=>k p H' (s1.free hp) (s1.trans s) r⟩
theorem pd_fnN {k m:Nat} {ps:List Str} {x:Str} {f:List D→Option D} (C:FnN X.prog X.w X.K X.mg X.base x k ps f) (hr:Room m X.A) (hk:k ≤ m) (ha:PDA X (e :: es) gA) (hg:Gl X x:=by rfl) (hdb:(x == ("__debug__" : Str)) = false:=by decide)
  (he:starEach (e :: es) X.env = (false,eval e X.env) :: starEach es X.env:=by rfl) (hpl:(backTo pos (starEach es X.env)).any (·.1) = false:=by rfl):PD X (.Call (.Name x p) (e :: es) [] pos) (oA gA f):=(pdf_fn C hr hk ha hg hdb he hpl).pd
theorem psd_retF (h:PDF X e g):PSD X (.Return (some e) pos) (retF g):=.mk fun H₀ B₀ δ pins s σ H D I ⟨r,en,e1,k⟩=>by
 unfold retF at e1
 obtain ⟨B,b1,b2,env⟩:=en.ex
 cases e2:g δ with
 | none=>rw [e2] at e1; cases e1
 | some d =>
  rw [e2] at e1
  cases e1
  exact ps_ret (h B δ) pins s σ H D I ⟨d,env,e2,fun p H' hp s' r=>k p H' (en.same.free hp) (en.same.trans s') (r.mono (fun o h=>h) (Gr.less fun a z=>z.imp (b1 a) id)).toL⟩
theorem psd_retO (i:Nat) {x:Str} {px:Pos} (hN:X.N[i]? = some x:=by rfl) (hv:Vis X.env.scope x:=by first | exact Or.inl rfl | exact Or.inr (Or.inl rfl) | exact Or.inr (Or.inr rfl)) (hd:(x == ("__debug__" : Str)) = false:=by decide) (hcd:(x == ("__classdict__" : Str)) = false:=by decide) :
  PSD X (.Return (some (.Name x px)) pos) (retO i):=.mk fun H₀ B₀ δ pins s σ H D I ⟨r,en,e1,k⟩=>by
 unfold retO at e1
 obtain ⟨B,b1,b2,env⟩:=en.ex
 split at e1
 ·rename_i d hi
  obtain ⟨a,hs,hb,ro⟩:=env.at hi
  cases e1
  exact ps_ret (pe_var (i:=i) hN hv hd hcd) pins s σ H D I ⟨_,hs,k a H (en.fr i d a hi hs) en.same (ro.mono (fun o h=>h) (Gr.less fun b z=>z.elim (b1 b) fun q=>by rw [q]; exact hb))⟩
 ·cases e1
end
end DL
namespace DL
open PySem
@[simp] noncomputable def zipTD:List D→Option D
 | [.lst ds,.lst es]=>some (.tup ((ds.zip es).map fun p=>.tup [p.1,p.2]))
 | _=>none
@[simp] noncomputable def revD:List D→Option D
 | [.lst ds]=>some (.lst ds.reverse)
 | _=>none
@[simp] noncomputable def dictOfD:List D→Option D
 | [.dct (.inl ks) ds]=>some (.dct (.inl ks) ds)
 | _=>none
noncomputable def lrngD:List D→Option D
 | [.int j]=>if -(2 ^ 62) ≤ j∧j ≤ 1000000 then some (.lst ((List.range j.toNat).map fun (k:Nat)=>.int (k:Int))) else none
 | _=>none
theorem rng1_of {gA:GA} {δ:Ds} {n:Int} (h:gA δ = some [.int n]) (h1:-(2 ^ 62) ≤ n) (h2:n < 2 ^ 62):rng1I gA δ = some (rngD 0 n):=by
 unfold rng1I
 rw [h,Option.bind_some]
 simp only [rng1D]
 rw [if_pos ⟨h1,h2⟩]
end DL
namespace RevL
open PySem PySem.Spec PyProof.Rows
theorem lri_no_len:typeLookup (.type "list_reverseiterator") "__len__" = pure none:=by rw [typeLookup_type,builtinLookup_eq_fast]; kernel_rfl
theorem lri_hint:typeLookup (.type "list_reverseiterator") "__length_hint__" = pure (some (.builtin "list_reverseiterator.__length_hint__")):=by rw [typeLookup_type,builtinLookup_eq_fast]; kernel_rfl
theorem sub_lri:isSubtype (.type "list_reverseiterator") (.type "list_reverseiterator") = pure true:=by rw [isSubtype_type]; kernel_rfl
section
variable {prog:Program} {w:World} {A:Around} {s:Shared} {R:Result→Shared→Prop}
variable {I:Addr} {fp wr:List Addr} {G:Array GenState→Array GenState→Prop} {n:Nat} {P:Nat→Value→Prop} {St:Nat→Shared→Prop}
theorem ext_rev (W:WalksS prog w A.in1 I fp wr G n P St) (hT:∀ i s,St i s→s.TypeIs (.ref I) "list_reverseiterator") (C:Addr) (res:Value) (c0:Nat) (st:St 0 s) (hC:C ∉ fp) (hI:I ∈ fp)
  (gC:s.heap.get? C = some { cls:=.type "list",data:=.seq #[] c0 })
  (hR:∀ s' acc' c',Moved (C :: wr) G s s'→s'.heap.get? C = some { cls:=.type "list",dict:=none,data:=.seq acc' c',slots:=#[] }→ItemsOf P acc' n→R (.ok (.ret res)) s') (hn:n ≤ sizeLine) :
  wpAny (model prog w) A.in1 (Builtin.List.listExtendWith (.ref C) (.ref I) res)
   (fun fin s'=>match fin with | .done f=>R (.ok f) s' | .again c'=>c'.quiet = true∧codeAny (model prog w) A c' R s') (fun e s'=>R (.error e) s') s:=by
 have ne:C ≠ I:=fun e=>hC (e ▸ hI)
 unfold Builtin.List.listExtendWith
 refine wpAny_bind (wpAny_typeOf (hT 0 _ st) (by
  have q1:Builtin.List.listSameRef (.ref C) (.ref I) = false:=by simp [Builtin.List.listSameRef,ne]
  have q2:(Value.type "list_reverseiterator" == Value.type "list") = false:=by decide
  have q3:(Value.type "list_reverseiterator" == Value.type "tuple") = false:=by decide
  simp only [q1,q2,q3,Bool.or_false,Bool.false_eq_true,if_false]
  refine wpAny_bind (W.self 0 _ _ _ st (wpAny_bind (wpAny_holding (by
   unfold Builtin.List.listLengthHint
   refine wpAny_bind (wpAny_specialOf (hT 0 _ st) lri_no_len (by
    show wpAny _ A.in1 (specialOf (Value.ref I) (Str.ofString "__length_hint__") >>= _) _ _ _
    refine wpAny_bind (wpAny_specialOf (hT 0 _ st) lri_hint ?_)
    refine wpAny_bind (wpAny_isInstance (hT 0 _ st) sub_lri ?_)
    rw [if_neg (by decide)]
    dsimp only
    rw [if_pos (by decide +kernel),if_neg (by decide)]
    refine wpAny_pure ?_
    rw [if_neg (by decide +kernel)]
    refine wpAny_pure ⟨plainId_quiet PySem.F.plain_extend_loop _,?_⟩
    exact codeAny_extend_loopS W hn _ hC _ n 0 _ _ _ rfl (Nat.zero_le _) st gC (ItemsOf.nil P) fun s' acc' c' m e hacc=>hR s' acc' c' m e hacc))))))))
theorem init_rev (W:WalksS prog w A.in1 I fp wr G n P St) (hT:∀ i s,St i s→s.TypeIs (.ref I) "list_reverseiterator") (C:Addr) (st:St 0 s) (hC:C ∉ fp) (hI:I ∈ fp)
  (gC:s.heap.get? C = some { cls:=.type "list",data:=.seq #[] })
  (hR:∀ s' acc' c',Moved (C :: wr) G s s'→s'.heap.get? C = some { cls:=.type "list",dict:=none,data:=.seq acc' c',slots:=#[] }→ItemsOf P acc' n→R (.ok (.ret .none)) s') (hn:n ≤ sizeLine) :
  wpAny (model prog w) A.in1 (Builtin.«list.__init__» ⟨[.ref C,.ref I],[]⟩)
   (fun fin s'=>match fin with | .done f=>R (.ok f) s' | .again c'=>c'.quiet = true∧codeAny (model prog w) A c' R s') (fun e s'=>R (.error e) s') s:=by
 show wpAny _ A.in1 (do let old ← Builtin.List.listItems (.ref C); Builtin.List.listUpdate (.ref C) (fun _=>#[]); letGo old.toList.reverse; Builtin.List.listExtendWith (.ref C) (.ref I) .none) _ _ s
 refine wpAny_bind (by
  unfold Builtin.List.listItems
  refine wpAny_bind (wpAny_seqItems gC rfl (wpAny_pure (by
   show wpAny _ A.in1 (updateSeq C (fun _=>#[]) >>= fun _=>letGo (#[]:Array Value).toList.reverse >>= fun _=>Builtin.List.listExtendWith (.ref C) (.ref I) .none) _ _ s
   have g2:=Heap.get?_update_self (Obj.mapSeq (fun _=>(#[]:Array Value))) gC rfl
   have oth:∀ b o,b ≠ C→s.heap.get? b = some o→(s.heap.update C (Obj.mapSeq (fun _=>(#[]:Array Value)))).get? b = some o:=fun b o hb e=>(Heap.get?_update_other _ _ (Ne.symm hb)).trans e
   refine wpAny_bind (wpAny_updateSeq gC rfl (wpAny_bind (wpAny_letGo (ext_rev W hT C .none _ (W.frame 0 s _ s.toks st (Nat.le_refl _) fun b hb o e=>oth b o (fun h=>hC (h ▸ hb)) e) hC hI g2 (fun s' acc' c' m e hacc=>?_) hn))))
   exact hR s' acc' c' (Moved.trans W.gtrans ((Moved.refl W.grefl).then_heap (Nat.le_refl _) fun b o hb e=>oth b o (fun h=>hb (h ▸ List.mem_cons_self)) e) m) e hacc))))
end
section
variable {prog:Program} {w:World} {A:Around} {E:Value→Shared→Prop} {s:Shared}
variable {I:Addr} {fp wr:List Addr} {G:Array GenState→Array GenState→Prop} {n:Nat} {P:Nat→Value→Prop} {St:Nat→Shared→Prop}
theorem call_list_rev {Q:Value→Shared→Prop} (W:WalksS prog w A.in1.in1 I fp wr G n P St) (hT:∀ i s,St i s→s.TypeIs (.ref I) "list_reverseiterator") (st:St 0 s) (hfp:∀ b ∈ fp,b < s.heap.objs.size) (hI:I ∈ fp)
  (hQ:∀ s' acc' c',Moved (s.heap.objs.size :: wr) G { s with heap:=s.heap.push { cls:=.type "list",data:=.seq #[] } } s' →
   s'.heap.get? s.heap.objs.size = some { cls:=.type "list",dict:=none,data:=.seq acc' c',slots:=#[] }→ItemsOf P acc' n→Q (.ref s.heap.objs.size) s') (hn:n ≤ sizeLine) :
  wpAny (model prog w) A (call (.type "list") [.ref I]) Q E s:=by
 have hC:s.heap.objs.size ∉ fp:=fun z=>Nat.lt_irrefl _ (hfp _ z)
 refine callType_codes (Q₁:=fun ob s1=>ob = .ref s.heap.objs.size∧s1 = { s with heap:=s.heap.push { cls:=.type "list",data:=.seq #[] } }) PySem.F.called_list (PySem.F.typeCall_list_1 _) PySem.F.entry_list_init (code_list_new _ ⟨rfl,rfl⟩) fun ob s1 h1=>?_
 obtain ⟨rfl,rfl⟩:=h1
 have gC:(s.heap.push { cls:=.type "list",data:=.seq #[] }).get? s.heap.objs.size = some { cls:=.type "list",data:=.seq #[] }:=Heap.get?_push_size _ rfl
 exact ⟨⟨_,gC,rfl⟩,PySem.F.args_list_init_2 _ _,init_rev W hT _ (W.frame 0 s _ s.toks st (Nat.le_refl _) fun b _ o e=>Heap.get?_push_of_some _ e) hC hI gC (fun s' acc' c' m e hacc=>⟨rfl,hQ s' acc' c' m e hacc⟩) hn⟩
theorem list_reversed {l:Addr} {its:Array Value} {Q:Value→Shared→Prop} (hh:A.handled = none) (hl:s.heap.IsList l its) (hz:its.size ≤ sizeLine)
  (h:∀ (h':Heap) (tk c:Nat) (a:Addr),s.heap.objs.size ≤ a→h'.get? a = some { cls:=.type "list",dict:=none,data:=.seq its.reverse c,slots:=#[] }→(∀ b o,s.heap.get? b = some o→h'.get? b = some o)→Q (.ref a) { s with heap:=h',toks:=tk }) :
  wpAny (model prog w) A (call (.type "reversed") [.ref l]) (fun v s1=>wpAny (model prog w) A (call (.type "list") [v]) Q E s1) E s:=by
 refine call_reversed_list hl ?_
 obtain ⟨ol,gl,_,_⟩:=id hl
 have ltl:l < s.heap.objs.size:=Heap.lt_size gl
 have hh2:A.in1.in1.handled = none:=by simp [hh]
 have Wk:=(Walks.listRev (prog:=prog) (w:=w) hh2 s.heap.objs.size l (Nat.ne_of_lt ltl) its).toS
 refine call_list_rev Wk (fun i s x=>x.2.1.typeIs) ⟨Nat.zero_le _,⟨_,Heap.get?_push_size _ rfl,rfl,by
  show Data.fields #[.ref l,rawInt ((its.size:Int) - 1)] = _
  have z:(its.size:Int) - 1 - ((0:Nat):Int) = (its.size:Int) - 1:=by omega
  rw [z]⟩,hl.push _⟩ (fun b hb=>?_) (by simp) (fun s' acc' c' m e hacc=>?_) hz
 ·show b < (s.heap.push _).objs.size
  rw [Heap.size_push]
  simp only [List.mem_cons,List.not_mem_nil,or_false] at hb
  rcases hb with rfl | rfl
  ·exact Nat.lt_succ_self _
  ·exact Nat.lt_succ_of_lt ltl
 ·obtain ⟨h',g',d',tk',os'⟩:=s'
  obtain rfl:g' = s.gens:=m.gens
  obtain rfl:d' = s.drawn:=m.drawn
  obtain rfl:os' = s.os:=m.os
  have ea:acc' = its.reverse:=by
   apply Array.ext
   ·rw [hacc.1,Array.size_reverse]
   ·intro i h1 h2
    have q:its[its.size - 1 - i]? = some acc'[i]:=hacc.2 i acc'[i] (Array.getElem?_eq_getElem h1)
    have hi:i < its.size:=by rw [← hacc.1]; exact h1
    rw [Array.getElem?_eq_getElem (by omega)] at q
    rw [Array.getElem_reverse]
    exact (Option.some.inj q).symm
  subst ea
  have hsz:(s.heap.push (revObj l ((its.size:Int) - 1))).objs.size = s.heap.objs.size + 1:=Heap.size_push ..
  refine h h' tk' c' _ ?_ e fun b o eb=>?_
  ·show s.heap.objs.size ≤ (s.heap.push _).objs.size
   rw [Heap.size_push]; exact Nat.le_succ _
  ·have lb:=Heap.lt_size eb
   refine m.heap b o ?_ (Heap.get?_push_of_some _ (Heap.get?_push_of_some _ eb))
   simp only [List.mem_cons,List.not_mem_nil,or_false,not_or]
   refine ⟨?_,Nat.ne_of_lt lb⟩
   show b ≠ (s.heap.push _).objs.size
   rw [Heap.size_push]; exact Nat.ne_of_lt (Nat.lt_succ_of_lt lb)
end
end RevL
namespace DL
open PySem PySem.Spec PyProof.Rows L2
theorem Rps.reverse {K:W.Frag} {H:Hp} {B:BS}:∀ {ds:List D} {xs:List V},Rps K H B ds xs→Rps K H B ds.reverse xs.reverse
 | [],_,h=>by rw [rps_nil] at h; subst h; simp [rps_nil]
 | d :: ds,_,h=>by
  rw [rps_cons] at h
  obtain ⟨x,r,rfl,h1,h2⟩:=h
  rw [List.reverse_cons,List.reverse_cons]
  exact Rps.snoc (Rps.reverse h2) h1
section
variable {X:Cx} {e:Expr} {pos p pos2 p2:Pos} {g:Ds→Option D}
theorem b_reversed0:bootBuiltins "reversed" = some (.type "reversed"):=by decide +kernel
theorem b_list0:bootBuiltins "list" = some (.type "list"):=by decide +kernel
theorem pe_revL {te:TE} (hc:X.calm = true) (hl:X.mg "list" = none) (hs:X.mg "reversed" = none) (he:PE X e te) (hgl:Gl X "list" := by rfl) (hgs:Gl X "reversed" := by rfl)
  (e1:starEach [.Call (.Name "reversed" p2) [e] [] pos2] X.env = (false,eval (.Call (.Name "reversed" p2) [e] [] pos2) X.env) :: starEach [] X.env:=by rfl) (e2:starEach [e] X.env = (false,eval e X.env) :: starEach [] X.env:=by rfl)
  (h1:(backTo pos (starEach [] X.env)).any (·.1) = false:=by rfl) (h2:(backTo pos2 (starEach [] X.env)).any (·.1) = false:=by rfl) :
  PE X (.Call (.Name "list" p) [.Call (.Name "reversed" p2) [e] [] pos2] [] pos) (fun σ H Q=>te σ H fun v H'=>∃ q xs,v = .ref q∧SqL X.K H' q xs∧∀ l,H' l = none→Q (.ref l) (upd H' l (.lst xs.reverse))):=by
 intro pins s σ H Q I h
 refine wpAny_Call_Name_kw (ld_blt I hgl hl b_list0 ?_ (by decide) (by decide))
 refine PyProof.Rows.callWith_type1 ?_ e1 h1
 rw [e1]
 show wpAny _ _ (spliced ((false,eval (.Call (.Name "reversed" p2) [e] [] pos2) X.env) :: backTo pos (starEach [] X.env))) _ _ s
 refine Calls.spliced_cons ?_
 refine wpAny_Call_Name_kw (ld_blt I hgs hs b_reversed0 ?_ (by decide) (by decide))
 refine PyProof.Rows.callWith_type1 ?_ e2 h2
 rw [e2]
 show wpAny _ _ (spliced ((false,eval e X.env) :: backTo pos2 (starEach [] X.env))) _ _ s
 refine Calls.spliced_cons (thn (he pins s σ H _ I h) fun u s1 ⟨v,H1,I1,r1,q,xs,ev,hq,k⟩=>Calls.spliced_nil ?_)
 subst ev
 obtain rfl:u = Value.ref q:=r1
 obtain ⟨its,rv,pl,hz⟩:=I1.list hq
 have hlen:=rv.length
 refine thn (RevL.list_reversed (I1.ok.hd hc) pl.isList (by rw [List.size_toArray,← hlen]; exact hz) (Q:=EP X pins σ Q) (E:=X.xe) fun h' tk c a ha ga hk=>?_) fun v s2 hv=>Calls.spliced_nil hv
 have hf:H1 a = none:=I1.hok.fresh ha
 refine ⟨.ref a,_,I1.laid (a:=a) (o:=.lst xs.reverse) (t':=tk) hk ha ?_,rfl,k a hf⟩
 exact ⟨by rw [List.length_reverse]; exact hz,its.reverse,c,rv.reverse,by rw [ga]; simp⟩
theorem pdf_revL (hl:X.mg "list" = none) (hs:X.mg "reversed" = none) (he:PD X e g) (hc:X.calm = true:=by rfl) (hgl:Gl X "list" := by rfl) (hgs:Gl X "reversed" := by rfl)
  (e1:starEach [.Call (.Name "reversed" p2) [e] [] pos2] X.env = (false,eval (.Call (.Name "reversed" p2) [e] [] pos2) X.env) :: starEach [] X.env:=by rfl) (e2:starEach [e] X.env = (false,eval e X.env) :: starEach [] X.env:=by rfl)
  (h1:(backTo pos (starEach [] X.env)).any (·.1) = false:=by rfl) (h2:(backTo pos2 (starEach [] X.env)).any (·.1) = false:=by rfl) :
  PDF X (.Call (.Name "list" p) [.Call (.Name "reversed" p2) [e] [] pos2] [] pos) (oA (consA g nilA) revD):=.mk fun B δ =>
 (pe_revL hc hl hs (he B δ) hgl hgs e1 e2 h1 h2).imp fun σ H Q ⟨d,en,h,k⟩=>by
  unfold oA consA nilA at h
  cases e3:g δ with
  | none=>rw [e3] at h; cases h
  | some x =>
   rw [e3] at h
   simp only [Option.bind_some,Option.map_some] at h
   cases x <;> simp only [revD] at h <;> try cases h
   refine ⟨_,en,e3,fun v H1 s1 r=>?_⟩
   rw [rp_lst] at r
   obtain ⟨q,xs,rfl,hq,rr⟩:=r
   exact ⟨q,xs,rfl,hq.to,fun l hl=>k l _ (s1.free hl) (s1.trans (same_upd hl)) ⟨_,upd_same,rr.reverse.mono (Gr.fresh hl)⟩⟩
end
section
variable {K:W.Frag} {H:Hp} {B:BS}
theorem val_rel {κ:Type} [DecidableEq κ]:∀ {ks:List κ} {ds:List D} {xs:List V} {q:κ},Rps K H B ds xs→(∀ d,getK ks ds q = some d→∃ x,valV (ks.zip xs) q = some x∧Rp K H B d x)∧(ks.length = xs.length→(valV (ks.zip xs) q).isSome = hasK ks q)
 | [],ds,xs,q,h=>by
  refine ⟨fun d e=>?_,fun _=>?_⟩
  ·unfold getK at e; cases e
  ·rfl
 | k :: ks,[],xs,q,h=>by
  rw [rps_nil] at h; subst h
  refine ⟨fun d e=>?_,fun z=>?_⟩
  ·unfold getK at e; cases e
  ·simp at z
 | k :: ks,d :: ds,xs,q,h=>by
  rw [rps_cons] at h
  obtain ⟨x,r,rfl,h1,h2⟩:=h
  obtain ⟨i1,i2⟩:=val_rel (ks:=ks) (q:=q) h2
  by_cases e:k = q
  ·subst e
   refine ⟨fun d' e'=>?_,fun _=>?_⟩
   ·unfold getK at e'
    rw [if_pos rfl] at e'
    cases e'
    exact ⟨x,valV_pos rfl,h1⟩
   ·rw [List.zip_cons_cons,valV_pos rfl]
    unfold hasK
    simp
  ·refine ⟨fun d' e'=>?_,fun z=>?_⟩
   ·unfold getK at e'
    rw [if_neg e] at e'
    rw [List.zip_cons_cons,valV_neg e]
    exact i1 d' e'
   ·rw [List.zip_cons_cons,valV_neg e,i2 (by simpa using z)]
    unfold hasK
    simp [e]
theorem any_zip {κ:Type} [DecidableEq κ]:∀ {ks:List κ} {xs:List V} {q:κ},ks.length = xs.length→((ks.zip xs).any fun kv=>decide (kv.1 = q)) = hasK ks q
 | [],_,_,_=>rfl
 | k :: ks,[],_,h=>by simp at h
 | k :: ks,x :: xs,q,h=>by
  rw [List.zip_cons_cons,List.any_cons,any_zip (by simpa using h)]
  rfl
theorem put_zip {κ:Type} [DecidableEq κ] {ks:List κ} {xs:List V} {q:κ} {v:V} (h:ks.length = xs.length):∃ ys,putK (ks.zip xs) q v = (putKs ks q).zip ys∧(putKs ks q).length = ys.length∧(hasK ks q = true→ys = (ks.zip xs).map fun p=>if p.1 = q then v else p.2)∧(hasK ks q = false→ys = xs ++ [v]):=by
 unfold putK putKs
 rw [any_zip h]
 cases hk:hasK ks q with
 | true =>
  rw [if_pos rfl,if_pos rfl]
  refine ⟨(ks.zip xs).map fun p=>if p.1 = q then v else p.2,?_,by simp [h],fun _=>rfl,fun z=>by cases z⟩
  clear hk
  induction ks generalizing xs with
  | nil=>rfl
  | cons k ks ih =>
   cases xs with
   | nil=>simp at h
   | cons x xs =>
    rw [List.zip_cons_cons,List.map_cons,List.map_cons,List.zip_cons_cons,ih (by simpa using h)]
    by_cases e:k = q <;> simp [e]
 | false =>
  rw [if_neg (by simp),if_neg (by simp)]
  refine ⟨xs ++ [v],?_,by simp [h],fun z=>(by cases z),fun _=>rfl⟩
  rw [List.zip_append h]
  rfl
theorem rps_putMap {κ:Type} [DecidableEq κ] {q:κ} {d:D} {v:V} (hv:Rp K H B d v):∀ {ks:List κ} {ds:List D} {xs:List V},Rps K H B ds xs→Rps K H B ((ks.zip ds).map fun p=>if p.1 = q then d else p.2) ((ks.zip xs).map fun p=>if p.1 = q then v else p.2)
 | [],_,_,_=>by simp [rps_nil]
 | k :: ks,[],xs,h=>by rw [rps_nil] at h; subst h; simp [rps_nil]
 | k :: ks,d' :: ds,xs,h=>by
  rw [rps_cons] at h
  obtain ⟨x,r,rfl,h1,h2⟩:=h
  rw [List.zip_cons_cons,List.zip_cons_cons,List.map_cons,List.map_cons,rps_cons]
  refine ⟨_,_,rfl,?_,rps_putMap hv h2⟩
  by_cases e:k = q
  ·simp only [e,if_true]; exact hv
  ·simp only [e,if_false]; exact h1
end
section
variable {X:Cx} {e a b o:Expr} {es:List Expr} {pos p px:Pos} {g ga gb:Ds→Option D} {x:Str}
theorem key_v {K:W.Frag} {H:Hp} {B:BS} {d:D} {k:KeyD} {v:V} (h:asKey d = some k) (r:Rp K H B d v):v = kV k:=by
 cases d <;> simp [asKey] at h
 ·subst h; rw [rp_int] at r; subst r; rfl
 ·subst h; rw [rp_str] at r; subst r; rfl
theorem keys_v {K:W.Frag} {H:Hp} {B:BS}:∀ {ds:List D} {ks:List KeyD} {xs:List V},asKeys ds = some ks→Rps K H B ds xs→xs = ks.map kV
 | [],ks,xs,h,r=>by cases h; rw [rps_nil] at r; exact r
 | d :: ds,ks,xs,h,r=>by
  unfold asKeys at h
  rw [rps_cons] at r
  obtain ⟨x,r',rfl,h1,h2⟩:=r
  cases e1:asKey d with
  | none=>rw [e1] at h; cases h
  | some k =>
   cases e2:asKeys ds with
   | none=>rw [e1,e2] at h; cases h
   | some l =>
    rw [e1,e2] at h
    cases h
    rw [key_v e1 h1,keys_v e2 h2]
    rfl
theorem keyT_v {K:W.Frag} {H:Hp} {B:BS} {d:D} {k:List KeyD} {v:V} (h:asKeyT d = some k) (r:Rp K H B d v):∃ b,v = .ref b∧H b = some (.tup (k.map kV)):=by
 cases d <;> simp only [asKeyT] at h <;> try cases h
 rw [rp_tup] at r
 obtain ⟨a,xs,rfl,q,rr⟩:=r
 exact ⟨a,rfl,by rw [← keys_v h rr]; exact q.2⟩
theorem pd_dget (hu:X.A.units + 1 < cLine) (ha:PD X a ga) (hb:PD X b gb) (hs:NoSl b:=by exact fun _ _=>rfl):PD X (.Subscript a b pos) (o2 ga gb dgetD):=.mk fun B δ=>(pe_dget hu (ha B δ) (hb B δ) hs).imp fun σ H Q ⟨d,en,h,k⟩=>by
 unfold o2 at h
 cases e1:ga δ with
 | none=>rw [e1] at h; cases h
 | some x =>
  cases e2:gb δ with
  | none=>rw [e1,e2] at h; cases h
  | some y =>
   rw [e1,e2] at h
   simp only [Option.bind_some] at h
   refine ⟨x,en,e1,fun v1 H1 s1 r1=>⟨y,en.same s1,e2,fun v2 H2 s2 r2=>?_⟩⟩
   cases x <;> simp only [dgetD] at h <;> try cases h
   rename_i ks ds
   have r1:=r1.same s2
   cases ks with
   | inl ks =>
    simp only at h
    cases e3:asKey y with
    | none=>rw [e3] at h; cases h
    | some q =>
     rw [e3] at h
     simp only [Option.bind_some] at h
     rw [rp_dct] at r1
     obtain ⟨p,xs,rfl,_,hp,hl,rr⟩:=r1
     obtain ⟨v,hv,rv⟩:=(val_rel rr).1 d h
     have:=key_v e3 r2
     subst this
     exact ⟨p,v,rfl,by rw [← hv]; exact DGet.k hp,k v H2 (s1.trans s2) rv⟩
   | inr ks =>
    simp only at h
    cases e3:asKeyT y with
    | none=>rw [e3] at h; cases h
    | some q =>
     rw [e3] at h
     simp only [Option.bind_some] at h
     rw [rp_dctT] at r1
     obtain ⟨p,xs,rfl,_,hp,hl,rr⟩:=r1
     obtain ⟨v,hv,rv⟩:=(val_rel rr).1 d h
     obtain ⟨b,rfl,hb⟩:=keyT_v e3 r2
     exact ⟨p,v,rfl,by rw [← hv]; exact DGet.t hp hb,k v H2 (s1.trans s2) rv⟩
theorem ptd_dnin (hu:X.A.units + 1 < cLine) (ha:PD X a ga) (hb:PD X b gb) (hm:behindInMarks .NotIn b = false:=by first | rfl | with_unfolding_all rfl):PTD X (.Compare a [.NotIn] [b] pos) (ob (o2 ga gb (inDctD true))):=.mk fun B δ=>(pt_cmp (pc_dnotin hu (ha B δ) (hb B δ)) hm).imp fun σ H Q ⟨t,en,h,k⟩=>by
 unfold ob o2 at h
 cases e1:ga δ with
 | none=>rw [e1] at h; cases h
 | some x =>
  cases e2:gb δ with
  | none=>rw [e1,e2] at h; cases h
  | some y =>
   rw [e1,e2] at h
   simp only [Option.bind_some] at h
   refine ⟨x,en,e1,fun v1 H1 s1 r1=>⟨y,en.same s1,e2,fun v2 H2 s2 r2=>?_⟩⟩
   cases y <;> simp only [inDctD] at h <;> try cases h
   rename_i ks ds
   cases ks with
   | inl ks =>
    simp only at h
    cases e3:asKey x with
    | none=>rw [e3] at h; cases h
    | some q =>
     rw [e3] at h
     simp only [Option.map_some,Option.bind_some,asB,Bool.true_xor] at h
     cases h
     rw [rp_dct] at r2
     obtain ⟨p,xs,rfl,_,hp,hl,rr⟩:=r2
     have:=key_v e3 r1
     subst this
     refine ⟨p,_,rfl,DGet.k hp,_,rfl,?_⟩
     rw [(val_rel rr).2 hl]
     exact k H2 (s1.trans s2)
   | inr ks =>
    simp only at h
    cases e3:asKeyT x with
    | none=>rw [e3] at h; cases h
    | some q =>
     rw [e3] at h
     simp only [Option.map_some,Option.bind_some,asB,Bool.true_xor] at h
     cases h
     rw [rp_dctT] at r2
     obtain ⟨p,xs,rfl,_,hp,hl,rr⟩:=r2
     obtain ⟨b,rfl,hb⟩:=keyT_v e3 (r1.same s2)
     refine ⟨p,_,rfl,DGet.t hp hb,_,rfl,?_⟩
     rw [(val_rel rr).2 hl]
     exact k H2 (s1.trans s2)
theorem ptg_put (i:Nat) (hu:X.A.units + 1 < cLine) (h:PD X e g) (hN:X.N[i]? = some x:=by rfl) (hv:Vis X.env.scope x:=by first | exact Or.inl rfl | exact Or.inr (Or.inl rfl) | exact Or.inr (Or.inr rfl)) (hd:(x == ("__debug__" : Str)) = false:=by decide) (hcd:(x == ("__classdict__" : Str)) = false:=by decide)
  (ha:∀ v,assign (.Subscript (.Name x px) e pos) X.env v = (do
   let ov ← holding [v] (eval (.Name x px) X.env)
   let iv ← holding [v,ov] (eval e X.env)
   standAt pos
   holding [v,ov,iv] (setItem ov iv v)
   release [v,ov,iv] []):=by intro _; rfl):PTG X (.Subscript (.Name x px) e pos) (putAt i g):=.mk fun H₀ B₀ d δ pins s σ H v u Q I r ⟨δ',en,e1,k⟩=>by
 unfold putAt at e1
 obtain ⟨B,b1,b2,env,rv⟩:=en.ex
 cases e2:owDc i δ with
 | none=>rw [e2] at e1; cases e1
 | some pr =>
  cases e3:g δ with
  | none=>rw [e2,e3] at e1; cases e1
  | some dk =>
   rw [e2,e3] at e1
   simp only [Option.bind_some] at e1
   cases e4:asKey dk with
   | none=>rw [e4] at e1; cases e1
   | some q =>
    rw [e4] at e1
    simp only [Option.bind_some] at e1
    split at e1
    ·rename_i hz
     cases e1
     have hi:=owDc_eq e2
     obtain ⟨a,hs',hb,xs,hx,hl,rx⟩:=env.at hi
     have hl:pr.1.length = xs.length:=hl
     refine pg_sub (pe_var (i:=i) hN hv hd hcd) (h B δ) (set_dict hu) ha pins s σ H v u Q I r ⟨_,hs',_,env,e3,fun iv H1 s1 r1=>?_⟩
     have:=key_v e4 r1
     subst this
     obtain ⟨ys,hy,hyl,hy1,hy2⟩:=put_zip (q:=q) (v:=v) hl
     refine ⟨a,_,rfl,DPut.k (s1 _ _ hx) (by rw [List.length_zip,← hl,Nat.min_self]; exact hz),?_⟩
     have rr:Rps X.K H1 B (putDs pr.1 pr.2 q d) ys:=by
      unfold putDs
      cases hk:hasK pr.1 q with
      | true=>rw [if_pos rfl,hy1 hk]; exact rps_putMap (rv.same s1) (rx.same s1)
      | false=>rw [if_neg (by simp),hy2 hk]; exact Rps.snoc (rx.same s1) (rv.same s1)
     rw [hy]
     have env2:Env X.K (upd H1 a (.dK ((putKs pr.1 q).zip ys))) B σ (δ.set i (.ow (.dct (.inl (putKs pr.1 q)) (putDs pr.1 pr.2 q d)))):=(env.same s1).mut hi hs' ⟨ys,upd_same,hyl,rr.mono (Gr.own hb)⟩
     exact k _ _ (en.s.mut s1 b1 b2 hi hs' env2)
    ·cases e1
end
end DL
namespace L2
open PySem PySem.Spec PyProof.Rows
structure FunV (K:W.Frag) (x qual:Str) (st:Stmt) (f:Addr) (fd:FuncData) (dV:Value):Prop where
 ex:∃ (oc:Value) (od:Option Addr) (kV doc pm:Value) (an:Option Addr) (cdv ct:Value) (osl:Array (Option Value)),
  fd = W.fnOf x qual (defArgs st) (defBody st) (defScope st) dV kV doc pm an cdv ct∧K.lookup f = some ⟨oc,od,.func fd,osl⟩∧W.codeIn K cdv qual = true
 kp:W.keepIn K (.ref f) = true
section
variable {P:Program} {w:World} {K:W.Frag} {mg:Str→Option Value} {base:Heap}
theorem funV_mk {x qual:Str} {st:Stmt} {f:Addr} {oc:Value} {od an:Option Addr} {osl:Array (Option Value)} {dV kV doc pm cdv ct:Value} (l:K.lookup f = some ⟨oc,od,.func (W.fnOf x qual (defArgs st) (defBody st) (defScope st) dV kV doc pm an cdv ct),osl⟩)
  (c:W.codeIn K cdv qual = true) (k:W.keepIn K (.ref f) = true):FunV K x qual st f (W.fnOf x qual (defArgs st) (defBody st) (defScope st) dV kV doc pm an cdv ct) dV:=⟨⟨oc,od,kV,doc,pm,an,cdv,ct,osl,rfl,l,c⟩,k⟩
end
end L2
namespace DL
open PySem PySem.Spec PyProof.Rows L2
section
variable {P:Program} {w:World} {K:W.Frag} {mg:Str→Option Value} {base:Heap}
end
section
variable {X:Cx} {e a b:Expr} {es:List Expr} {pos p:Pos} {g ga gb:Ds→Option D} {gA:Ds→Option (List D)}
theorem pdf_cmpD {sc scope:Scope} {elt iter tg:Expr} {ifs:List Expr} {N N':List Str} {n:Nat} {caps:List Nat} {gi:Ds→Option (List D)} {idx:List Nat} {f:D→Ds→Option Ds} {gt:Ds→Option Bool} {ge:Ds→Option D}
  (ok:CompOk sc scope N N' n caps) (hidx:∀ j ∈ idx,j < n) (hi:PID X tg iter gi)
  (hg:∀ cl s H ex,PGD (cxComp X scope cl N' s H ex) tg idx f) (ht:∀ cl s H ex,PFD (cxComp X scope cl N' s H ex) ifs gt) (he:∀ cl s H ex,PD (cxComp X scope cl N' s H ex) elt ge)
  (hc:X.calm = true:=by rfl) (hsc:X.env.scope = sc:=by rfl) (hN:X.N = N:=by rfl) (hs:∀ x,foldedSetIterable iter X.env x = pure x:=by intro _; rfl) :
  PDF X (.ListComp elt [⟨tg,iter,ifs,0⟩] scope pos) (compG n caps gi f gt ge):=pdf_comp hc hsc (hN ▸ ok) hidx hi hg ht he hs
theorem flat_v {K:W.Frag} {H:Hp} {B:BS} {d:D} {v:V} (h:flat d = true) (r:Rp K H B d v):flatV v = true∧∀ e u,flat e = true→Rp K H B e u→eqV v u = eqF d e:=by
 cases d <;> simp [flat] at h
 ·rw [rp_non] at r; subst r
  refine ⟨rfl,fun e u he ru=>?_⟩
  cases e <;> simp [flat] at he <;> simp only [rp_non,rp_bl,rp_int,rp_str] at ru <;> subst ru <;> rfl
 ·rw [rp_bl] at r; subst r
  refine ⟨rfl,fun e u he ru=>?_⟩
  cases e <;> simp [flat] at he <;> simp only [rp_non,rp_bl,rp_int,rp_str] at ru <;> subst ru <;> rfl
 ·rw [rp_int] at r; subst r
  refine ⟨rfl,fun e u he ru=>?_⟩
  cases e <;> simp [flat] at he <;> simp only [rp_non,rp_bl,rp_int,rp_str] at ru <;> subst ru <;> rfl
 ·rw [rp_str] at r; subst r
  refine ⟨rfl,fun e u he ru=>?_⟩
  cases e <;> simp [flat] at he <;> simp only [rp_non,rp_bl,rp_int,rp_str] at ru <;> subst ru <;> rfl
theorem in_rel {K:W.Frag} {H:Hp} {B:BS} {d:D} {v:V} (h:flat d = true) (r:Rp K H B d v):∀ {ds:List D} {xs:List V},ds.all flat = true→Rps K H B ds xs→xs.all flatV = true∧inV v xs = ds.any fun y=>eqF y d
 | [],_,_,rs=>by rw [rps_nil] at rs; subst rs; exact ⟨rfl,rfl⟩
 | e :: ds,_,ha,rs=>by
  rw [rps_cons] at rs
  obtain ⟨x,t,rfl,r1,r2⟩:=rs
  rw [List.all_cons,Bool.and_eq_true] at ha
  obtain ⟨i1,i2⟩:=in_rel h r ha.2 r2
  obtain ⟨f1,f2⟩:=flat_v ha.1 r1
  refine ⟨by rw [List.all_cons,f1,i1]; rfl,?_⟩
  unfold inV at i2 ⊢
  rw [List.any_cons,List.any_cons,f2 d v h r,i2]
theorem op2_inSeq {K:W.Frag} (neg:Bool):Op2 K (rIn K neg) (inSeqD neg):=by
 intro H B x y dx dy d Q hb rx ry h k
 have key:∀ (ds:List D) (xs:List V),Rps K H B ds xs→flat dx = true∧ds.all flat = true→d = .bl (xor neg (ds.any fun y=>eqF y dx))→∀ p,y = .ref p→(SqL K H p xs ∨ SqT K H p xs)→rIn K neg x y H Q:=by
  intro ds xs rs hf hd p hp hq
  obtain ⟨f1,f2⟩:=in_rel hf.1 rx hf.2 rs
  refine ⟨p,xs,hp,hq,(flat_v hf.1 rx).1,f1,k _ H (Same.refl H) ?_⟩
  rw [hd,rp_bl,f2]
  cases neg <;> simp
 cases dy <;> simp only [inSeqD] at h <;> try cases h
 ·split at h
  ·rename_i hf
   have hd:=(Option.some.inj h).symm
   rw [rp_tup] at ry
   obtain ⟨p,xs,e,q,rs⟩:=ry
   exact key _ xs rs hf hd p e (.inr q.to)
  ·cases h
 ·split at h
  ·rename_i hf
   have hd:=(Option.some.inj h).symm
   rw [rp_lst] at ry
   obtain ⟨p,xs,e,q,rs⟩:=ry
   exact key _ xs rs hf hd p e (.inl q.to)
  ·cases h
end
end DL
namespace DL
open PySem
end DL
namespace ZipL
open PySem PySem.Spec PyProof.Rows
noncomputable abbrev IsZ (h:Heap) (z TI TO a:Addr) (f:Bool):Prop :=
 h.get? z = some { cls:=.type "zip",dict:=none,data:=.fields #[rawInt a,.bool f,.bool false,.ref TI,.ref TO],slots:=#[] }
section
variable {prog:Program} {w:World} {A:Around} {E:Value→Shared→Prop} {s:Shared}
theorem alive {a:Addr} {o:Obj} {Q:Option Obj→Shared→Prop} (ho:s.heap.get? a = some o) (h:Q (some o) s):wpAny (model prog w) A (loadIfAlive a) Q E s:=by
 have h':Q (s.heap.get? a) s:=by rw [ho]; exact h
 exact fun _ _ _=>h'
theorem not_free {z TI TO a:Addr} {f:Bool} {oa:Obj} {Q:Bool→Shared→Prop} (hz:IsZ s.heap z TI TO a f) (ha:s.heap.get? a = some oa)
  (hQ:∀ h',IsZ h' z TI TO a true→Heap.SameBut z s.heap h'→Q false { s with heap:=h' }):wpAny (model prog w) A (Builtin.SmallTypes.ownedTupleIsFree (.ref z)) Q E s:=by
 unfold Builtin.SmallTypes.ownedTupleIsFree
 refine wpAny_bind (wpAny_field hz rfl (x:=rawInt a) rfl ?_)
 show wpAny _ _ (loadIfAlive ((a:Int).toNat) >>= _) _ _ _
 rw [Int.toNat_natCast]
 refine wpAny_bind (alive ha ?_)
 simp only [Option.isNone_some,Bool.false_eq_true,if_false]
 refine wpAny_bind (wpAny_field hz rfl (x:=.bool f) rfl ?_)
 cases f with
 | true =>
  rw [if_neg (show ¬ ((Value.bool true != Value.bool true) = true) from Bool.false_ne_true)]
  exact wpAny_pure (hQ _ hz (Heap.SameBut.refl _ _))
 | false =>
  rw [if_pos (show (Value.bool false != Value.bool true) = true from rfl)]
  exact wpAny_bind (wpAny_setField_rec hz (by simp) fun h3 he3 hs3=>wpAny_pure (hQ h3 he3 hs3))
theorem next_out {z TI TO i1 i2 l1 l2 a:Addr} {f:Bool} {oa:Obj} {k1 k2:Nat} {xs ys:Array Value} {x y:Value} {Q:Value→Shared→Prop} (D:ZipApart z TI TO i1 i2 l1 l2)
  (hz:IsZ s.heap z TI TO a f) (ha:s.heap.get? a = some oa) (hTI:IsPair s.heap TI (.ref i1) (.ref i2))
  (h1:s.heap.IsListIter i1 l1 k1) (h2:s.heap.IsListIter i2 l2 k2) (hl1:s.heap.IsList l1 xs) (hl2:s.heap.IsList l2 ys) (hx:xs[k1]? = some x) (hy:ys[k2]? = some y)
  (hQ:∀ h',IsZ h' z TI TO a true→h'.IsListIter i1 l1 (k1 + 1)→h'.IsListIter i2 l2 (k2 + 1)→IsPair h' s.heap.objs.size x y→h'.objs.size = s.heap.objs.size + 1 →
   (∀ c o,c ≠ z→c ≠ i1→c ≠ i2→s.heap.get? c = some o→h'.get? c = some o)→Q (.ref s.heap.objs.size) { s with heap:=h' }) :
  wpAny (model prog w) A (Builtin.«zip.__next__» ⟨[.ref z],[]⟩) (fun fin s'=>∃ v,fin = .done (.ret v)∧Q v s') E s:=by
 show wpAny _ _ (field (.ref z) 2 >>= _) _ _ _
 refine wpAny_bind (wpAny_field hz rfl (x:=.bool false) rfl ?_)
 show wpAny _ _ (field (.ref z) 3 >>= _) _ _ _
 refine wpAny_bind (wpAny_field hz rfl (x:=.ref TI) rfl ?_)
 refine wpAny_bind (wpAny_seqItems hTI rfl ?_)
 show wpAny _ _ (Builtin.SmallTypes.ownedTupleIsFree (.ref z) >>= _) _ _ _
 refine wpAny_bind (not_free hz ha fun h₁ hz₁ hs₁=>?_)
 simp only [Bool.false_eq_true,if_false]
 refine wpAny_bind ?_
 simp only [List.forIn_toArray,List.forIn_cons,List.forIn_nil]
 refine wpAny_bind (wpAny_bind (wpAny_holding ?_))
 show wpAny _ _ (Builtin.SmallTypes.nextOf (.ref i1) >>= _) _ _ _
 refine wpAny_bind (wpAny_nextOf_list_item (h1.extBut hs₁.extBut D.i1z) (hl1.extBut hs₁.extBut D.l1z) hx fun h₂ h1₂ hs₂=>wpAny_pure ?_)
 refine wpAny_pure ?_
 refine wpAny_bind (wpAny_bind (wpAny_holding ?_))
 show wpAny _ _ (Builtin.SmallTypes.nextOf (.ref i2) >>= _) _ _ _
 refine wpAny_bind (wpAny_nextOf_list_item ((h2.extBut hs₁.extBut D.i2z).extBut hs₂.extBut D.i12.symm) ((hl2.extBut hs₁.extBut D.l2z).extBut hs₂.extBut D.l2i1) hy fun h₄ h2₄ hs₄=>wpAny_pure ?_)
 refine wpAny_pure (wpAny_pure ?_)
 refine wpAny_bind (wpAny_newTuple (hsz:=by show 2 ≤ sizeLine; decide) ?_)
 have hsz:h₄.objs.size = s.heap.objs.size:=by rw [hs₄.1,hs₂.1,hs₁.1]
 have hz₄:IsZ h₄ z TI TO a true:=hs₄.extBut _ _ D.i2z.symm (hs₂.extBut _ _ D.i1z.symm hz₁)
 have hk₄:∀ c o,c ≠ z→c ≠ i1→c ≠ i2→s.heap.get? c = some o→h₄.get? c = some o:=fun c o c1 c3 c4 e=>hs₄.extBut _ _ c4 (hs₂.extBut _ _ c3 (hs₁.extBut _ _ c1 e))
 refine wpAny_pure ⟨_,rfl,?_⟩
 show Q (.ref h₄.objs.size) _
 have hq:=hQ (h₄.push { cls:=.type "tuple",data:=.seq #[x,y] }) (Heap.get?_push_of_some _ hz₄) ((h1₂.extBut hs₄.extBut D.i12).at fun o e=>Heap.get?_push_of_some _ e) (h2₄.at fun o e=>Heap.get?_push_of_some _ e)
  (by rw [← hsz]; exact Heap.get?_push_size _ rfl) (by rw [Heap.size_push,hsz]) fun c o c1 c3 c4 e=>Heap.get?_push_of_some _ (hk₄ c o c1 c3 c4 e)
 rw [hsz]
 exact hq
theorem end_out {z TI TO i1 i2 l1 l2 a:Addr} {f:Bool} {oa:Obj} {k1 k2:Nat} {xs ys:Array Value} {Q:Fin→Shared→Prop} (hh:A.handled = none) (D:ZipApart z TI TO i1 i2 l1 l2)
  (hz:IsZ s.heap z TI TO a f) (ha:s.heap.get? a = some oa) (hTI:IsPair s.heap TI (.ref i1) (.ref i2))
  (h1:s.heap.IsListIter i1 l1 k1) (h2:s.heap.IsListIter i2 l2 k2) (hl1:s.heap.IsList l1 xs) (hl2:s.heap.IsList l2 ys) (hend:xs[k1]? = none ∨ ys[k2]? = none)
  (hE:∀ h' e,(∀ c o,c ≠ z→c ≠ i1→c ≠ i2→s.heap.get? c = some o→h'.get? c = some o)→(∃ o,h'.get? e = some o∧o.cls = .type "StopIteration")→E (.ref e) { s with heap:=h' }) :
  wpAny (model prog w) A (Builtin.«zip.__next__» ⟨[.ref z],[]⟩) Q E s:=by
 show wpAny _ _ (field (.ref z) 2 >>= _) _ _ _
 refine wpAny_bind (wpAny_field hz rfl (x:=.bool false) rfl ?_)
 show wpAny _ _ (field (.ref z) 3 >>= _) _ _ _
 refine wpAny_bind (wpAny_field hz rfl (x:=.ref TI) rfl ?_)
 refine wpAny_bind (wpAny_seqItems hTI rfl ?_)
 show wpAny _ _ (Builtin.SmallTypes.ownedTupleIsFree (.ref z) >>= _) _ _ _
 refine wpAny_bind (not_free hz ha fun h₁ hz₁ hs₁=>?_)
 simp only [Bool.false_eq_true,if_false]
 refine wpAny_bind ?_
 simp only [List.forIn_toArray,List.forIn_cons,List.forIn_nil]
 refine wpAny_bind (wpAny_bind (wpAny_holding ?_))
 show wpAny _ _ (Builtin.SmallTypes.nextOf (.ref i1) >>= _) _ _ _
 cases hx:xs[k1]? with
 | none =>
  refine wpAny_bind (wpAny_nextOf_list_end hh (h1.extBut hs₁.extBut D.i1z) (hl1.extBut hs₁.extBut D.l1z) hx fun h₂ e hs₂ he=>?_)
  exact hE h₂ e (fun c o c1 c3 _ x=>hs₂ _ _ c3 (hs₁.extBut _ _ c1 x)) he
 | some x =>
  have hy:ys[k2]? = none:=by rcases hend with h | h; rw [hx] at h; cases h; exact h
  refine wpAny_bind (wpAny_nextOf_list_item (h1.extBut hs₁.extBut D.i1z) (hl1.extBut hs₁.extBut D.l1z) hx fun h₂ h1₂ hs₂=>wpAny_pure ?_)
  refine wpAny_pure ?_
  refine wpAny_bind (wpAny_bind (wpAny_holding ?_))
  show wpAny _ _ (Builtin.SmallTypes.nextOf (.ref i2) >>= _) _ _ _
  refine wpAny_bind (wpAny_nextOf_list_end hh ((h2.extBut hs₁.extBut D.i2z).extBut hs₂.extBut D.i12.symm) ((hl2.extBut hs₁.extBut D.l2z).extBut hs₂.extBut D.l2i1) hy fun h₄ e hs₄ he=>?_)
  exact hE h₄ e (fun c o c1 c3 c4 x=>hs₄ _ _ c4 (hs₂.extBut _ _ c3 (hs₁.extBut _ _ c1 x))) he
theorem pyNext_out {z TI TO i1 i2 l1 l2 a:Addr} {f:Bool} {oa:Obj} {k1 k2:Nat} {xs ys:Array Value} {x y:Value} {Q:Option Value→Shared→Prop} (D:ZipApart z TI TO i1 i2 l1 l2)
  (hz:IsZ s.heap z TI TO a f) (ha:s.heap.get? a = some oa) (hTI:IsPair s.heap TI (.ref i1) (.ref i2))
  (h1:s.heap.IsListIter i1 l1 k1) (h2:s.heap.IsListIter i2 l2 k2) (hl1:s.heap.IsList l1 xs) (hl2:s.heap.IsList l2 ys) (hx:xs[k1]? = some x) (hy:ys[k2]? = some y)
  (hQ:∀ h',IsZ h' z TI TO a true→h'.IsListIter i1 l1 (k1 + 1)→h'.IsListIter i2 l2 (k2 + 1)→IsPair h' s.heap.objs.size x y→h'.objs.size = s.heap.objs.size + 1 →
   (∀ c o,c ≠ z→c ≠ i1→c ≠ i2→s.heap.get? c = some o→h'.get? c = some o)→Q (some (.ref s.heap.objs.size)) { s with heap:=h' }) :
  wpAny (model prog w) A (pyNext (.ref z)) Q E s:=by
 have hT:s.TypeIs (.ref z) "zip" := ⟨_,hz,rfl⟩
 unfold pyNext
 exact wpAny_bind (wpAny_attempt (wpAny_callSpecial?_slot (name:=Str.ofString "__next__") hT F.slot_zip_next
  (wpAny_call_entry F.slot_zip_next hT F.entry_zip_next
   (next_out D hz ha hTI h1 h2 hl1 hl2 hx hy fun h' a1 a3 a4 a5 a6 a7=>wpAny_pure (hQ h' a1 a3 a4 a5 a6 a7)) (F.args_zip_next_1 _))))
theorem pyNext_end_out {z TI TO i1 i2 l1 l2 a:Addr} {f:Bool} {oa:Obj} {k1 k2:Nat} {xs ys:Array Value} {Q:Option Value→Shared→Prop} (hh:A.handled = none) (D:ZipApart z TI TO i1 i2 l1 l2)
  (hz:IsZ s.heap z TI TO a f) (ha:s.heap.get? a = some oa) (hTI:IsPair s.heap TI (.ref i1) (.ref i2))
  (h1:s.heap.IsListIter i1 l1 k1) (h2:s.heap.IsListIter i2 l2 k2) (hl1:s.heap.IsList l1 xs) (hl2:s.heap.IsList l2 ys) (hend:xs[k1]? = none ∨ ys[k2]? = none)
  (hQ:∀ h',(∀ c o,c ≠ z→c ≠ i1→c ≠ i2→s.heap.get? c = some o→h'.get? c = some o)→Q none { s with heap:=h' }):wpAny (model prog w) A (pyNext (.ref z)) Q E s:=by
 have hT:s.TypeIs (.ref z) "zip" := ⟨_,hz,rfl⟩
 unfold pyNext
 refine wpAny_bind (wpAny_attempt (wpAny_callSpecial?_slot (name:=Str.ofString "__next__") hT F.slot_zip_next
  (wpAny_call_entry F.slot_zip_next hT F.entry_zip_next (end_out hh D hz ha hTI h1 h2 hl1 hl2 hend fun h' e hk he=>?_) (F.args_zip_next_1 _))))
 obtain ⟨o,ho,hc⟩:=he
 refine wpAny_bind (wpAny_isInstance (T := "StopIteration") (b:=true) ⟨o,ho,hc⟩ isSubtype_stop ?_)
 exact wpAny_pure (hQ _ hk)
end
structure ZSt (h:Heap) (z TI TO i1 i2 l1 l2 S:Addr) (xs ys:Array Value) (i:Nat):Prop where
 own:(i = 0∧IsZip h z TI TO .none∧∃ p q,IsPair h TO p q) ∨ ∃ a f oa,IsZ h z TI TO a f∧h.get? a = some oa∧a ≠ z∧a ≠ i1∧a ≠ i2∧a ≠ S
 hTI:IsPair h TI (.ref i1) (.ref i2)
 h1:h.IsListIter i1 l1 i
 h2:h.IsListIter i2 l2 i
 hl1:h.IsList l1 xs
 hl2:h.IsList l2 ys
structure ZLow (z TI TO i1 i2 l1 l2 S:Addr):Prop where
 z:z < S
 TI:TI < S
 TO:TO < S
 i1:i1 < S
 i2:i2 < S
 l1:l1 < S
 l2:l2 < S
structure ZG (xs ys:Array Value) (S:Addr) (h:Heap) (as:List Addr):Prop where
 rise:as.Pairwise (· < ·)
 above:∀ a ∈ as,S < a
 pairs:∀ (j:Nat) (a:Addr),as[j]? = some a→∃ x y,xs[j]? = some x∧ys[j]? = some y∧IsPair h a x y
section
variable {prog:Program} {w:World} {A:Around} {E:Value→Shared→Prop} {s:Shared} {z TI TO i1 i2 l1 l2 S:Addr} {xs ys:Array Value} {h h':Heap} {i:Nat}
theorem ZG.there {as:List Addr} (g:ZG xs ys S h as) {a:Addr} (ha:a ∈ as):a < h.objs.size:=by
 obtain ⟨j,hj⟩:=List.mem_iff_getElem?.mp ha
 obtain ⟨_,_,_,_,e⟩:=g.pairs j a hj
 exact Heap.lt_size e
theorem ZSt.keep (x:ZSt h z TI TO i1 i2 l1 l2 S xs ys i) (L:ZLow z TI TO i1 i2 l1 l2 S) (hk:∀ b o,b ≠ S→h.get? b = some o→h'.get? b = some o):ZSt h' z TI TO i1 i2 l1 l2 S xs ys i:=by
 refine ⟨?_,hk _ _ (Nat.ne_of_lt L.TI) x.hTI,x.h1.at fun o e=>hk _ o (Nat.ne_of_lt L.i1) e,x.h2.at fun o e=>hk _ o (Nat.ne_of_lt L.i2) e,x.hl1.at fun o e=>hk _ o (Nat.ne_of_lt L.l1) e,x.hl2.at fun o e=>hk _ o (Nat.ne_of_lt L.l2) e⟩
 rcases x.own with ⟨e,hz,p,q,hp⟩ | ⟨a,f,oa,hz,ha,n1,n2,n3,n4⟩
 ·exact .inl ⟨e,hk _ _ (Nat.ne_of_lt L.z) hz,p,q,hk _ _ (Nat.ne_of_lt L.TO) hp⟩
 ·exact .inr ⟨a,f,oa,hk _ _ (Nat.ne_of_lt L.z) hz,hk _ _ n4 ha,n1,n2,n3,n4⟩
theorem zitem {x y:Value} {Q:Option Value→Shared→Prop} (D:ZipApart z TI TO i1 i2 l1 l2) (st:ZSt s.heap z TI TO i1 i2 l1 l2 S xs ys i) (hS:S < s.heap.objs.size) (hx:xs[i]? = some x) (hy:ys[i]? = some y)
  (hQ:∀ h',ZSt h' z TI TO i1 i2 l1 l2 S xs ys (i + 1)→IsPair h' s.heap.objs.size x y→(∀ c o,c ≠ z→c ≠ TO→c ≠ i1→c ≠ i2→s.heap.get? c = some o→h'.get? c = some o)→Q (some (.ref s.heap.objs.size)) { s with heap:=h' }) :
  wpAny (model prog w) A (pyNext (.ref z)) Q E s:=by
 obtain ⟨o1,e1,_⟩:=id st.h1
 obtain ⟨o2,e2,_⟩:=id st.h2
 rcases st.own with ⟨rfl,hz,p,q,hp⟩ | ⟨a,f,oa,hz,ha,n1,n2,n3,n4⟩
 ·refine wpAny_pyNext_zip_item D hz st.hTI hp st.h1 st.h2 st.hl1 st.hl2 hx hy fun h' a1 a2 a3 a4 a5 a6 hk=>hQ h' ⟨.inr ⟨_,false,_,a1,a5,Nat.ne_of_gt (Heap.lt_size hz),Nat.ne_of_gt (Heap.lt_size e1),Nat.ne_of_gt (Heap.lt_size e2),Nat.ne_of_gt hS⟩,hk _ _ D.TIz D.TITO D.TIi1 D.TIi2 st.hTI,a3,a4,
   st.hl1.at fun o e=>hk _ o D.l1z D.l1TO D.l1i1 D.l1i2 e,st.hl2.at fun o e=>hk _ o D.l2z D.l2TO D.l2i1 D.l2i2 e⟩ a5 hk
 ·refine pyNext_out D hz ha st.hTI st.h1 st.h2 st.hl1 st.hl2 hx hy fun h' a1 a3 a4 a5 a6 hk=>hQ h' ⟨.inr ⟨a,true,oa,a1,hk _ _ n1 n2 n3 ha,n1,n2,n3,n4⟩,hk _ _ D.TIz D.TIi1 D.TIi2 st.hTI,a3,a4,
   st.hl1.at fun o e=>hk _ o D.l1z D.l1i1 D.l1i2 e,st.hl2.at fun o e=>hk _ o D.l2z D.l2i1 D.l2i2 e⟩ a5 fun c o c1 _ c3 c4 e=>hk c o c1 c3 c4 e
theorem zdone {Q:Option Value→Shared→Prop} (hh:A.handled = none) (D:ZipApart z TI TO i1 i2 l1 l2) (st:ZSt s.heap z TI TO i1 i2 l1 l2 S xs ys i) (hend:xs[i]? = none ∨ ys[i]? = none)
  (hQ:∀ h',(∀ c o,c ≠ z→c ≠ TO→c ≠ i1→c ≠ i2→s.heap.get? c = some o→h'.get? c = some o)→Q none { s with heap:=h' }):wpAny (model prog w) A (pyNext (.ref z)) Q E s:=by
 rcases st.own with ⟨rfl,hz,p,q,hp⟩ | ⟨a,f,oa,hz,ha,n1,n2,n3,n4⟩
 ·exact wpAny_pyNext_zip_end hh D hz st.hTI hp st.h1 st.h2 st.hl1 st.hl2 hend hQ
 ·exact pyNext_end_out hh D hz ha st.hTI st.h1 st.h2 st.hl1 st.hl2 hend fun h' hk=>hQ h' fun c o c1 _ c3 c4 e=>hk c o c1 c3 c4 e
end
section
variable {prog:Program} {w:World} {A:Around} {s:Shared} {R:Result→Shared→Prop} {z TI TO i1 i2 l1 l2 S lo:Addr} {xs ys:Array Value} {h₁:Heap}
theorem zloop (hh:A.handled = none) (D:ZipApart z TI TO i1 i2 l1 l2) (L:ZLow z TI TO i1 i2 l1 l2 S) (hlo:lo ≤ z∧lo ≤ TO∧lo ≤ i1∧lo ≤ i2) (hn:min xs.size ys.size ≤ sizeLine) (res:Value)
  (hR:∀ h' tk acc c as,(∀ b o,b < lo→h₁.get? b = some o→h'.get? b = some o)→h'.get? S = some { cls:=.type "list",dict:=none,data:=.seq acc c,slots:=#[] }→as.length = min xs.size ys.size→ZG xs ys S h' as →
   acc.toList = as.map Value.ref→R (.ok (.ret res)) { s with heap:=h',toks:=tk }) :
  ∀ (k i:Nat) (h:Heap) (tk c:Nat) (acc:Array Value) (as:List Addr),min xs.size ys.size - i = k→i ≤ min xs.size ys.size→ZSt h z TI TO i1 i2 l1 l2 S xs ys i→(∀ b o,b < lo→h₁.get? b = some o→h.get? b = some o) →
   h.get? S = some { cls:=.type "list",dict:=none,data:=.seq acc c,slots:=#[] }→acc.toList = as.map Value.ref→as.length = i→ZG xs ys S h as →
   codeAny (model prog w) A (.builtin "list.extend.loop" ⟨[.ref S,.ref z,res],[]⟩) R { s with heap:=h,toks:=tk }:=by
 have hz0:=hlo.1
 have loS:lo < S:=Nat.lt_of_le_of_lt hlo.1 L.z
 have lk:∀ (h h':Heap),(∀ c o,c ≠ z→c ≠ TO→c ≠ i1→c ≠ i2→h.get? c = some o→h'.get? c = some o)→∀ b o,b < lo→h.get? b = some o→h'.get? b = some o:=fun h h' hk b o hb e =>
  hk b o (Nat.ne_of_lt (Nat.lt_of_lt_of_le hb hlo.1)) (Nat.ne_of_lt (Nat.lt_of_lt_of_le hb hlo.2.1)) (Nat.ne_of_lt (Nat.lt_of_lt_of_le hb hlo.2.2.1)) (Nat.ne_of_lt (Nat.lt_of_lt_of_le hb hlo.2.2.2)) e
 have hk4:∀ (h h':Heap),(∀ c o,c ≠ z→c ≠ TO→c ≠ i1→c ≠ i2→h.get? c = some o→h'.get? c = some o)→∀ b o,S ≤ b→h.get? b = some o→h'.get? b = some o:=fun h h' hk b o hb e =>
  hk b o (Nat.ne_of_gt (Nat.lt_of_lt_of_le L.z hb)) (Nat.ne_of_gt (Nat.lt_of_lt_of_le L.TO hb)) (Nat.ne_of_gt (Nat.lt_of_lt_of_le L.i1 hb)) (Nat.ne_of_gt (Nat.lt_of_lt_of_le L.i2 hb)) e
 intro k
 induction k with
 | zero =>
  intro i h tk c acc as hk hi hst hkeep hS hacc hal hG
  have hend:xs[i]? = none ∨ ys[i]? = none:=by
   rcases Nat.le_total xs.size ys.size with q | q
   ·exact .inl (Array.getElem?_eq_none (by omega))
   ·exact .inr (Array.getElem?_eq_none (by omega))
  refine codeAny_builtin F.entry_extend_loop ?_
  rw [Around.under_plainId F.plain_extend_loop _]
  show wpAny _ A.in1 (pyNext (.ref z) >>= _) _ _ _
  refine wpAny_bind (zdone (s:={ s with heap:=h,toks:=tk }) (A:=A.in1) hh D hst hend fun h' he=>?_)
  refine wpAny_pure (hR h' tk acc c as (fun b o h1 e=>lk h h' he b o h1 (hkeep b o h1 e)) (hk4 h h' he S _ (Nat.le_refl _) hS) (by omega) ⟨hG.rise,hG.above,fun j a hj=>?_⟩ hacc)
  obtain ⟨x,y,e1,e2,e3⟩:=hG.pairs j a hj
  exact ⟨x,y,e1,e2,hk4 h h' he a _ (Nat.le_of_lt (hG.above a (List.mem_of_getElem? hj))) e3⟩
 | succ k ih =>
  intro i h tk c acc as hk hi hst hkeep hS hacc hal hG
  have hlt:i < min xs.size ys.size:=by omega
  have hix:i < xs.size:=Nat.lt_of_lt_of_le hlt (Nat.min_le_left ..)
  have hiy:i < ys.size:=Nat.lt_of_lt_of_le hlt (Nat.min_le_right ..)
  have hsz:acc.size = i:=by rw [← Array.length_toList,hacc,List.length_map,hal]
  have hSl:S < h.objs.size:=Heap.lt_size hS
  refine codeAny_builtin F.entry_extend_loop ?_
  rw [Around.under_plainId F.plain_extend_loop _]
  show wpAny _ A.in1 (pyNext (.ref z) >>= _) _ _ _
  refine wpAny_bind (zitem (s:={ s with heap:=h,toks:=tk }) D hst hSl (Array.getElem?_eq_getElem hix) (Array.getElem?_eq_getElem hiy) fun h' hst' ht hkp=>?_)
  dsimp only at ht hkp ⊢
  have hS':=hk4 h h' hkp S _ (Nat.le_refl _) hS
  have up:∀ b o,b ≠ S→h'.get? b = some o→(h'.update S (Obj.mapSeq (·.push (Value.ref h.objs.size)))).get? b = some o:=fun b o hb e=>(Heap.get?_update_other _ _ (Ne.symm hb)).trans e
  show wpAny _ A.in1 (updateSeq S (·.push (Value.ref h.objs.size)) >>= _) _ _ _
  refine wpAny_bind ?_
  refine wpAny_updateSeq hS' rfl (wpAny_pure ⟨plainId_quiet F.plain_extend_loop _,ih (i + 1) _ tk _ (acc.push (Value.ref h.objs.size)) (as ++ [h.objs.size]) (by omega) hlt (hst'.keep L up)
   (fun b o h1 e=>up b o (Nat.ne_of_lt (Nat.lt_trans h1 loS)) (lk h h' hkp b o h1 (hkeep b o h1 e))) (Heap.get?_update_self _ hS' rfl) (by rw [Array.toList_push,hacc,List.map_append]; rfl) (by rw [List.length_append,hal]; rfl) ⟨?_,?_,?_⟩⟩) (by rw [hsz]; omega) (by show (acc.push (Value.ref h.objs.size)).size ≤ sizeLine + 1; rw [Array.size_push,hsz]; omega)
  ·refine List.pairwise_append.mpr ⟨hG.rise,List.pairwise_singleton _ _,fun a ha b hb=>?_⟩
   rw [List.mem_singleton.mp hb]
   exact hG.there ha
  ·intro a ha
   rcases List.mem_append.mp ha with ha | ha
   ·exact hG.above a ha
   ·rw [List.mem_singleton.mp ha]; exact hSl
  ·intro j b hj
   rcases Nat.lt_trichotomy j as.length with h1 | h1 | h1
   ·rw [List.getElem?_append_left h1] at hj
    obtain ⟨x',y',e1,e2,e3⟩:=hG.pairs j b hj
    have hb:=hG.above b (List.mem_of_getElem? hj)
    exact ⟨x',y',e1,e2,up b _ (Nat.ne_of_gt hb) (hk4 h h' hkp b _ (Nat.le_of_lt hb) e3)⟩
   ·subst h1
    have hb:h.objs.size = b:=by simpa using hj
    subst hb
    exact ⟨_,_,by rw [hal]; exact Array.getElem?_eq_getElem hix,by rw [hal]; exact Array.getElem?_eq_getElem hiy,up _ _ (Nat.ne_of_gt hSl) ht⟩
   ·have hnone:(as ++ [h.objs.size])[j]? = none:=List.getElem?_eq_none (by rw [List.length_append,List.length_singleton]; omega)
    rw [hnone] at hj; cases hj
end
theorem zip_no_len:typeLookup (.type "zip") "__len__" = pure none:=by rw [typeLookup_type,builtinLookup_eq_fast]; kernel_rfl
theorem zip_no_hint:typeLookup (.type "zip") "__length_hint__" = pure none:=by rw [typeLookup_type,builtinLookup_eq_fast]; kernel_rfl
section
variable {prog:Program} {w:World} {A:Around} {E:Value→Shared→Prop} {s:Shared} {z TI TO i1 i2 l1 l2 lo:Addr} {xs ys:Array Value}
noncomputable def ZEnd (xs ys:Array Value) (lo:Addr) (s:Shared) (h':Heap) (as:List Addr):Prop :=
 (∀ b o,b < lo→s.heap.get? b = some o→h'.get? b = some o)∧as.length = min xs.size ys.size∧ZG xs ys s.heap.objs.size h' as
theorem collect_zip {Q:List Value→Shared→Prop} (hh:A.handled = none) (D:ZipApart z TI TO i1 i2 l1 l2) (hlo:lo ≤ z∧lo ≤ TO∧lo ≤ i1∧lo ≤ i2)
  (st:∀ S,S ≠ z→S ≠ i1→S ≠ i2→ZSt s.heap z TI TO i1 i2 l1 l2 S xs ys 0) (hn:min xs.size ys.size ≤ sizeLine) (L:ZLow z TI TO i1 i2 l1 l2 s.heap.objs.size)
  (hT:s.TypeIs (.ref z) "zip") (hI:∃ f0,IsZip s.heap z TI TO f0)
  (hQ:∀ h' tk as,ZEnd xs ys lo s h' as→s.heap.objs.size < h'.objs.size→Q (as.map Value.ref) { s with heap:=h',toks:=tk }):wpAny (model prog w) A (collect (.ref z)) Q E s:=by
 have hSz:s.heap.objs.size ≠ z:=Nat.ne_of_gt L.z
 obtain ⟨f0,hI⟩:=hI
 unfold collect
 refine wpAny_bind (wpAny_runValue (codeAny_builtin F.entry_proto_collect ?_))
 rw [Around.under_plainId F.plain_proto_collect _]
 show wpAny _ A.in1 (newList [] >>= fun l=>again (.builtin "list.__iadd__" ⟨[l,.ref z],[]⟩)) _ _ s
 refine wpAny_bind (wpAny_newObj_type ?_)
 refine wpAny_pure ⟨plainId_quiet F.plain_list_iadd _,codeAny_builtin F.entry_list_iadd ?_⟩
 rw [Around.under_plainId F.plain_list_iadd _]
 have hS₁:(s.heap.push { cls:=.type "list",data:=.seq ([]:List Value).toArray }).get? s.heap.objs.size = some { cls:=.type "list",data:=.seq ([]:List Value).toArray }:=Heap.get?_push_size _ rfl
 have hz₁:=Heap.get?_push_of_some { cls:=.type "list",data:=.seq ([]:List Value).toArray } hI
 have hT₁:Shared.TypeIs { s with heap:=s.heap.push { cls:=.type "list",data:=.seq ([]:List Value).toArray } } (.ref z) "zip" := ⟨_,hz₁,rfl⟩
 show wpAny _ A.in1 (Builtin.List.listExtendWith (.ref s.heap.objs.size) (.ref z) (.ref s.heap.objs.size)) _ _ _
 unfold Builtin.List.listExtendWith
 refine wpAny_bind (wpAny_typeOf hT₁ ?_)
 have h1:Builtin.List.listSameRef (.ref s.heap.objs.size) (.ref z) = false:=by simp [Builtin.List.listSameRef,hSz]
 have h2:(Value.type "zip" == Value.type "list") = false:=by decide
 have h3:(Value.type "zip" == Value.type "tuple") = false:=by decide
 simp only [h1,h2,h3,Bool.or_false,Bool.false_eq_true,if_false]
 refine wpAny_bind (wpAny_pyIter_zip (s:={ s with heap:=s.heap.push { cls:=.type "list",data:=.seq ([]:List Value).toArray } }) hz₁ ?_)
 refine wpAny_bind (wpAny_holding ?_)
 unfold Builtin.List.listLengthHint
 refine wpAny_bind (wpAny_specialOf hT₁ zip_no_len ?_)
 show wpAny _ A.in1 (specialOf (Value.ref z) (Str.ofString "__length_hint__") >>= _) _ _ _
 refine wpAny_bind (wpAny_specialOf hT₁ zip_no_hint ?_)
 refine wpAny_pure ?_
 show wpAny _ A.in1 (rule "list.extend.makes-room" >>= fun _=>Builtin.List.listTouch (.ref s.heap.objs.size) >>= fun _ =>
  again (.builtin "list.extend.loop" ⟨[.ref s.heap.objs.size,.ref z,.ref s.heap.objs.size],[]⟩)) _ _ _
 refine wpAny_bind (wpAny_rule ?_)
 refine wpAny_bind ?_
 show wpAny _ A.in1 (updateSeq s.heap.objs.size (·.push .none) >>= fun _=>updateSeq s.heap.objs.size (·.pop)) _ _ _
 refine wpAny_bind (wpAny_updateSeq hS₁ rfl ?_)
 have hS₂:=Heap.get?_update_self (Obj.mapSeq (·.push Value.none)) hS₁ rfl
 refine wpAny_updateSeq hS₂ rfl ?_
 have hS₃:=Heap.get?_update_self (Obj.mapSeq (·.pop)) hS₂ rfl
 have oth:∀ b o,b ≠ s.heap.objs.size→s.heap.get? b = some o →
   (((s.heap.push { cls:=.type "list",data:=.seq ([]:List Value).toArray }).update s.heap.objs.size (Obj.mapSeq (·.push Value.none))).update s.heap.objs.size (Obj.mapSeq (·.pop))).get? b = some o :=
  fun b o hb e=>(Heap.get?_update_other _ _ (Ne.symm hb)).trans ((Heap.get?_update_other _ _ (Ne.symm hb)).trans (Heap.get?_push_of_some _ e))
 refine wpAny_pure ⟨plainId_quiet F.plain_extend_loop _,zloop (s:=s) (lo:=lo) (h₁:=s.heap) hh D L hlo hn _ (fun h' tk acc c as hk hS' hl hG hacc=>?_) _ 0 _ s.toks _ #[] [] rfl (Nat.zero_le _)
  ((st _ hSz (Nat.ne_of_gt L.i1) (Nat.ne_of_gt L.i2)).keep L oth) (fun b o hb e=>oth b o (Nat.ne_of_lt (Heap.lt_size e)) e) hS₃ rfl rfl ⟨List.Pairwise.nil,(fun _ ha=>nomatch ha),(fun j a hj=>by simp at hj)⟩⟩
 show wpAny _ A (load s.heap.objs.size >>= _) _ _ _
 refine wpAny_bind (wpAny_load hS' ?_)
 refine wpAny_pure ?_
 have:=hQ h' tk as ⟨hk,hl,hG⟩ (Heap.lt_size hS')
 rw [← hacc] at this
 exact this
end
section
variable {prog:Program} {w:World} {A:Around} {E:Value→Shared→Prop} {s:Shared} {z TI TO i1 i2 l1 l2 lo:Addr} {xs ys:Array Value}
theorem code_tuple_new_zip {Q₁:Value→Shared→Prop} (hh:A.handled = none) (D:ZipApart z TI TO i1 i2 l1 l2) (hlo:lo ≤ z∧lo ≤ TO∧lo ≤ i1∧lo ≤ i2)
  (st:∀ S,S ≠ z→S ≠ i1→S ≠ i2→ZSt s.heap z TI TO i1 i2 l1 l2 S xs ys 0) (hn:min xs.size ys.size ≤ sizeLine) (L:ZLow z TI TO i1 i2 l1 l2 s.heap.objs.size)
  (hT:s.TypeIs (.ref z) "zip") (hI:∃ f0,IsZip s.heap z TI TO f0)
  (h:∀ h' tk as,ZEnd xs ys lo s h' as→s.heap.objs.size < h'.objs.size→Q₁ (.ref h'.objs.size) { s with heap:=h'.push { cls:=.type "tuple",data:=.seq (as.map Value.ref).toArray },toks:=tk }) :
  codeAny (model prog w) A (.call (.builtin "tuple.__new__") ⟨[.type "tuple",.ref z],[]⟩) (wants Q₁ E) s:=by
 refine codeAny_of_tree ?_
 show wpAny _ A.in1 (do checkBuiltinCall "tuple.__new__" ⟨[.type "tuple",.ref z],[]⟩; again (.builtin "tuple.__new__" ⟨[.type "tuple",.ref z],[]⟩)) _ _ s
 refine wpAny_bind (wpAny_of_eq (F.newCall_tuple_1 _) (wpAny_pure ⟨plainId_quiet F.plain_tuple_new _,codeAny_builtin F.entry_tuple_new ?_⟩))
 rw [Around.under_plainId F.plain_tuple_new _]
 have hsub:=sub_tuple_self
 have hinit:=init_tuple_lookup
 have hmh:=madeHere_tuple
 have hh1:A.in1.handled = none:=by simp [hh]
 wp_walk using wpAny_typeOf hT,collect_zip (lo:=lo) hh1 D hlo st hn L hT hI
 intro h' tk as hz hlt
 show wpAny _ _ (Builtin.Tuple.tupleExact (as.map Value.ref).toArray >>= fun v=>ret v) _ _ _
 unfold Builtin.Tuple.tupleExact
 refine wpAny_bind (wpAny_newObj_type ?_ (by show (as.map Value.ref).toArray.size ≤ sizeLine; rw [List.size_toArray,List.length_map,hz.2.1]; exact hn))
 exact wpAny_pure (h h' tk as hz hlt)
theorem tuple_zip {Q:Value→Shared→Prop} (hh:A.handled = none) (hl1:s.heap.IsList l1 xs) (hl2:s.heap.IsList l2 ys) (hn:min xs.size ys.size ≤ sizeLine)
  (h:∀ (h':Heap) (tk:Nat) (as:List Addr) (t:Addr),(∀ b o,s.heap.get? b = some o→h'.get? b = some o)→as.length = min xs.size ys.size→(∀ a ∈ as,s.heap.objs.size ≤ a∧a < t)→as.Nodup→s.heap.objs.size ≤ t →
   (∀ (j:Nat) (a:Addr),as[j]? = some a→∃ x y,xs[j]? = some x∧ys[j]? = some y∧IsPair h' a x y)→h'.get? t = some { cls:=.type "tuple",data:=.seq (as.map Value.ref).toArray }→Q (.ref t) { s with heap:=h',toks:=tk }) :
  wpAny (model prog w) A (call (.type "zip") [.ref l1,.ref l2]) (fun v s1=>wpAny (model prog w) A (call (.type "tuple") [v]) Q E s1) E s:=by
 have a1:l1 < s.heap.objs.size:=by obtain ⟨_,e,_⟩:=hl1; exact Heap.lt_size e
 have a2:l2 < s.heap.objs.size:=by obtain ⟨_,e,_⟩:=hl2; exact Heap.lt_size e
 refine call_zip_2 hl1 hl2 fun h1 hz hTI hTO hi1 hi2 hsz hk=>?_
 have hl1':h1.IsList l1 xs:=hl1.at fun o e=>hk _ o e
 have hl2':h1.IsList l2 ys:=hl2.at fun o e=>hk _ o e
 have H:∀ k,k < 5→s.heap.objs.size + k < h1.objs.size:=fun k hk=>by rw [hsz]; exact Nat.add_lt_add_left hk _
 refine callType_codes (Q₁:=fun obj s₁=>s₁.TypeIs obj "tuple"∧Q obj s₁) F.called_tuple (F.typeCall_tuple_1 _) F.entry_object_init
  (code_tuple_new_zip (lo:=s.heap.objs.size) (xs:=xs) (ys:=ys) (by simp [hh]) (zipApart_new a1 a2) ⟨Nat.le_add_right _ 4,Nat.le_add_right _ 3,Nat.le_refl _,Nat.le_add_right _ 1⟩ (fun S n1 n2 n3=>⟨.inl ⟨rfl,hz,_,_,hTO⟩,hTI,hi1,hi2,hl1',hl2'⟩) hn
   ⟨H 4 (by decide),H 2 (by decide),H 3 (by decide),H 0 (by decide),H 1 (by decide),Nat.lt_trans a1 (H 0 (by decide)),Nat.lt_trans a2 (H 0 (by decide))⟩
   ⟨_,hz,rfl⟩ ⟨_,hz⟩ fun h' tk as ze hlt=>⟨⟨_,Heap.get?_push_size _ rfl,rfl⟩,?_⟩) fun obj s₁ h₁=>?_
 ·obtain ⟨k1,k2,g⟩:=ze
  refine h (h'.push _) tk as h'.objs.size (fun b o e=>Heap.get?_push_of_some _ (k1 b o (Heap.lt_size e) (hk b o e))) k2 (fun a ha=>⟨?_,g.there ha⟩) (g.rise.imp fun h=>Nat.ne_of_lt h) ?_ (fun j a hj=>?_) (Heap.get?_push_size _ rfl)
  ·exact Nat.le_of_lt (Nat.lt_trans (H 0 (by decide)) (g.above a ha))
  ·exact Nat.le_of_lt (Nat.lt_trans (H 0 (by decide)) hlt)
  ·obtain ⟨x,y,e1,e2,e3⟩:=g.pairs j a hj
   exact ⟨x,y,e1,e2,Heap.get?_push_of_some _ e3⟩
 ·exact ⟨h₁.1,F.args_object_init_2 obj _,object_init_meets F.called_tuple.init.lookup F.called_tuple.made (by decide) prog w A.in1 _ s₁ ⟨h₁.1,rfl,h₁.2⟩⟩
end
end ZipL
namespace L2
open PySem PySem.Spec PyProof.Rows
noncomputable def updL (H:Hp):List (Addr × HO)→Hp
 | []=>H
 | p :: l=>upd (updL H l) p.1 p.2
theorem updL_off {H:Hp} {b:Addr}:∀ {l:List (Addr × HO)},(∀ p ∈ l,p.1 ≠ b)→updL H l b = H b
 | [],_=>rfl
 | p :: l,h=>by
  show upd (updL H l) p.1 p.2 b = _
  rw [upd_ne (Ne.symm (h p List.mem_cons_self)),updL_off fun q hq=>h q (List.mem_cons_of_mem _ hq)]
theorem updL_some {H:Hp} {b:Addr} {u:HO}:∀ {l:List (Addr × HO)},updL H l b = some u→(∃ p ∈ l,p.1 = b∧p.2 = u) ∨ H b = some u
 | [],e=>.inr e
 | p :: l,e=>by
  by_cases h:b = p.1
  ·subst h
   have e':upd (updL H l) p.1 p.2 p.1 = some u:=e
   rw [upd_same] at e'
   exact .inl ⟨p,List.mem_cons_self,rfl,Option.some.inj e'⟩
  ·have e':upd (updL H l) p.1 p.2 b = some u:=e
   rw [upd_ne h] at e'
   rcases updL_some e' with ⟨q,hq,x⟩ | x
   ·exact .inl ⟨q,List.mem_cons_of_mem _ hq,x⟩
   ·exact .inr x
theorem updL_mem {H:Hp}:∀ {l:List (Addr × HO)},(l.map Prod.fst).Nodup→∀ p ∈ l,updL H l p.1 = some p.2
 | [],_,p,h=>nomatch h
 | q :: l,n,p,h=>by
  rw [List.map_cons,List.nodup_cons] at n
  show upd (updL H l) q.1 q.2 p.1 = _
  rcases List.mem_cons.mp h with rfl | h
  ·rw [upd_same]
  ·rw [upd_ne (fun z=>n.1 (by rw [← z]; exact List.mem_map_of_mem h)),updL_mem n.2 p h]
section
variable {X:Cx} {pins:List (Addr × Obj)} {σ:List (Option V)} {H:Hp} {s:Shared} {h':Heap}
theorem Inv.laidL {l:List (Addr × HO)} {t':Nat} (I:Inv X pins σ H s) (k:∀ b u,s.heap.get? b = some u→h'.get? b = some u)
  (hl:∀ p ∈ l,s.heap.objs.size ≤ p.1∧∃ xs,p.2 = .tup xs∧ObjOk X.prog X.w H h' p.1 (.tup xs)):Inv X pins σ (updL H l) { s with heap:=h',toks:=t' }:=by
 have low:∀ b,b < s.heap.objs.size→updL H l b = H b:=fun b hb=>updL_off fun p hp z=>by
  have:=(hl p hp).1
  rw [z] at this
  exact Nat.lt_irrefl _ (Nat.lt_of_lt_of_le hb this)
 refine I.un ⟨fun b u q _ _ _=>k b u q,fun b u q _ _ _=>⟨u.slots,k b u q⟩,fun b u q n _=>by rw [low b (Heap.lt_size q)]; exact n,fun b u q _=>⟨u,k b u q⟩,fun b xs q=>by rw [low b (I.hok.lt q)]; exact q,
  fun b u xs q=>by rw [low b (I.hok.lt q)]; exact q,fun b ps q=>⟨#[],by rw [low b (I.hok.lt q),q]; simp⟩⟩ fun b u e=>?_
 rcases updL_some e with ⟨p,hp,rfl,rfl⟩ | e'
 ·obtain ⟨_,xs,ex,ok⟩:=hl p hp
  rw [ex]
  exact ok
 ·exact (I.hok b u e').stay (fun c v _ q=>k c v q) (fun c q=>by rw [low c (I.hok.lt q)]; exact q) fun c xs q=>by rw [low c (I.hok.lt q)]; exact q
end
noncomputable def CallR2 (X:Cx) (f1 f2:Value) (r:List V→Hp→VK→Prop):Prop :=
 ∀ (pins:List (Addr × Obj)) (s:Shared) (σ:St) (H:Hp) (xs:List V) (us:List Value) (Q:VK),Inv X pins σ H s→Vals xs us→r xs H Q →
  wpAny (model X.prog X.w) X.A (call f2 us) (fun v s1=>wpAny (model X.prog X.w) X.A (call f1 [v]) (EP X pins σ Q) X.xe s1) X.xe s
section
variable {X:Cx} {e:Expr} {es:List Expr} {pos p pos2 p2:Pos} {x1 x2:Str} {T1 T2:String} {r:List V→Hp→VK→Prop} {t:TA}
theorem pe_nestTT (hc:CallR2 X (.type T1) (.type T2) r) (hg1:Gl X x1) (hg2:Gl X x2) (hm1:X.mg x1 = none) (hm2:X.mg x2 = none) (hv1:bootBuiltins x1 = some (.type T1)) (hv2:bootBuiltins x2 = some (.type T2)) (ha:PA X (e :: es) t)
  (hn1:x1 ≠ "__name__" := by decide) (hd1:(x1 == ("__debug__" : Str)) = false:=by decide) (hn2:x2 ≠ "__name__" := by decide) (hd2:(x2 == ("__debug__" : Str)) = false:=by decide)
  (e1:starEach [.Call (.Name x2 p2) (e :: es) [] pos2] X.env = (false,eval (.Call (.Name x2 p2) (e :: es) [] pos2) X.env) :: starEach [] X.env:=by rfl) (h1:(backTo pos (starEach [] X.env)).any (·.1) = false:=by rfl)
  (he:starEach (e :: es) X.env = (false,eval e X.env) :: starEach es X.env:=by rfl) (hpl:(backTo pos2 (starEach es X.env)).any (·.1) = false:=by rfl) :
  PE X (.Call (.Name x1 p) [.Call (.Name x2 p2) (e :: es) [] pos2] [] pos) (tCB r t):=by
 intro pins s σ H Q I h
 refine wpAny_Call_Name_kw (ld_blt I hg1 hm1 hv1 ?_ hn1 hd1)
 refine PyProof.Rows.callWith_type1 ?_ e1 h1
 rw [e1]
 show wpAny _ _ (spliced ((false,eval (.Call (.Name x2 p2) (e :: es) [] pos2) X.env) :: backTo pos (starEach [] X.env))) _ _ s
 refine Calls.spliced_cons ?_
 refine wpAny_Call_Name_kw (ld_blt I hg2 hm2 hv2 ?_ hn2 hd2)
 refine PyProof.Rows.callWith_type1 (thn (ha pos2 pins s σ H _ I h) fun us s1 ⟨vs,H1,I1,r1,q1⟩=>?_) he hpl
 exact thn (hc pins s1 σ H1 vs us Q I1 r1 q1) fun v s2 hv=>Calls.spliced_nil hv
end
end L2
namespace DL
open PySem PySem.Spec PyProof.Rows L2
section
variable {X:Cx} {e:Expr} {es:List Expr} {pos p pos2 p2:Pos} {x1 x2:Str} {T1 T2:String} {r:List V→Hp→VK→Prop} {gA:Ds→Option (List D)} {f:List D→Option D}
theorem pd_nestTT (hc:CallR2 X (.type T1) (.type T2) r) (hf:FnR X.K r f) (hm1:X.mg x1 = none) (hm2:X.mg x2 = none) (hv1:bootBuiltins x1 = some (.type T1)) (hv2:bootBuiltins x2 = some (.type T2)) (ha:PDA X (e :: es) gA) (hg1:Gl X x1:=by rfl) (hg2:Gl X x2:=by rfl)
  (hn1:x1 ≠ "__name__" := by decide) (hd1:(x1 == ("__debug__" : Str)) = false:=by decide) (hn2:x2 ≠ "__name__" := by decide) (hd2:(x2 == ("__debug__" : Str)) = false:=by decide)
  (e1:starEach [.Call (.Name x2 p2) (e :: es) [] pos2] X.env = (false,eval (.Call (.Name x2 p2) (e :: es) [] pos2) X.env) :: starEach [] X.env:=by rfl) (h1:(backTo pos (starEach [] X.env)).any (·.1) = false:=by rfl)
  (he:starEach (e :: es) X.env = (false,eval e X.env) :: starEach es X.env:=by rfl) (hpl:(backTo pos2 (starEach es X.env)).any (·.1) = false:=by rfl) :
  PD X (.Call (.Name x1 p) [.Call (.Name x2 p2) (e :: es) [] pos2] [] pos) (oA gA f) :=
 .mk fun B δ=>(pe_nestTT hc hg1 hg2 hm1 hm2 hv1 hv2 (ha B δ) hn1 hd1 hn2 hd2 e1 h1 he hpl).imp fun σ H Q h=>oA_red hf h
end
noncomputable def zipUp:List Addr→List (V × V)→List (Addr × HO)
 | a :: as,p :: ps=>(a,.tup [p.1,p.2]) :: zipUp as ps
 | _,_=>[]
theorem zipUp_fst:∀ {as:List Addr} {ps:List (V × V)},as.length = ps.length→(zipUp as ps).map Prod.fst = as
 | [],[],_=>rfl
 | [],_ :: _,h=>by simp at h
 | _ :: _,[],h=>by simp at h
 | a :: as,p :: ps,h=>by
  show a :: (zipUp as ps).map Prod.fst = _
  rw [zipUp_fst (by simpa using h)]
theorem zipUp_mem:∀ {as:List Addr} {ps:List (V × V)} {q:Addr × HO},q ∈ zipUp as ps→∃ (j:Nat) (p:V × V),as[j]? = some q.1∧ps[j]? = some p∧q.2 = .tup [p.1,p.2]
 | [],_,q,h=>by simp [zipUp] at h
 | _ :: _,[],q,h=>by simp [zipUp] at h
 | a :: as,p :: ps,q,h=>by
  rcases List.mem_cons.mp h with rfl | h
  ·exact ⟨0,p,rfl,rfl,rfl⟩
  ·obtain ⟨j,p',h1,h2,h3⟩:=zipUp_mem h
   exact ⟨j + 1,p',by simpa using h1,by simpa using h2,h3⟩
noncomputable def rZipT (K:W.Frag):List V→Hp→VK→Prop:=fun vs H Q=>∃ q1 q2 xs ys,vs = [.ref q1,.ref q2]∧SqL K H q1 xs∧SqL K H q2 ys ∧
 ∀ (t:Addr) (as:List Addr),as.length = (xs.zip ys).length→as.Nodup→t ∉ as→H t = none→(∀ a ∈ as,H a = none)→Q (.ref t) (updL H ((t,.tup (as.map V.ref)) :: zipUp as (xs.zip ys)))
theorem vals_refs:∀ as:List Addr,Vals (as.map V.ref) (as.map Value.ref)
 | []=>.nil
 | a :: as=>.cons rfl (vals_refs as)
theorem call_tuple_zip {X:Cx} (hc:X.calm = true:=by rfl):CallR2 X (.type "tuple") (.type "zip") (rZipT X.K):=by
 intro pins s σ H vs us Q I r h
 obtain ⟨q1,q2,xs,ys,rfl,h1,h2,k⟩:=h
 cases r with
 | cons r1 r =>
  cases r with
  | cons r2 r =>
   cases r
   obtain rfl:=r1
   obtain rfl:=r2
   obtain ⟨us1,v1,p1,z1⟩:=I.list h1
   obtain ⟨us2,v2,p2,z2⟩:=I.list h2
   have l1:=v1.length
   have l2:=v2.length
   refine ZipL.tuple_zip (I.ok.hd hc) p1.isList p2.isList (by rw [List.size_toArray,List.size_toArray]; omega) fun h' tk as t hk hl ha hnd ht hp gt=>?_
   rw [List.size_toArray,List.size_toArray] at hl
   have hl':as.length = (xs.zip ys).length:=by rw [List.length_zip,hl]; omega
   refine ⟨.ref t,_,I.laidL (t':=tk) hk fun p hp'=>?_,rfl,k t as hl' hnd (fun z=>Nat.lt_irrefl _ (ha t z).2) (I.hok.fresh ht) fun a h=>I.hok.fresh (ha a h).1⟩
   rcases List.mem_cons.mp hp' with rfl | hp'
   ·refine ⟨ht,_,rfl,?_,as.map Value.ref,vals_refs as,⟨_,gt,rfl,_,rfl,rfl⟩⟩
    rw [List.length_map,hl]; omega
   ·obtain ⟨j,⟨x,y⟩,e1,e2,e3⟩:=zipUp_mem hp'
    obtain ⟨u,w,f1,f2,f3⟩:=hp j p.1 e1
    have hz:=List.getElem?_zip_eq_some.mp e2
    obtain ⟨u',g1,g2⟩:=v1.get hz.1
    obtain ⟨w',g3,g4⟩:=v2.get hz.2
    have eu:u' = u:=by
     have:us1.toArray[j]? = some u':=by simpa using g1
     rw [f1] at this; exact (Option.some.inj this).symm
    have ew:w' = w:=by
     have:us2.toArray[j]? = some w':=by simpa using g3
     rw [f2] at this; exact (Option.some.inj this).symm
    subst eu; subst ew
    exact ⟨(ha p.1 (List.mem_of_getElem? e1)).1,_,e3,(by show 2 ≤ sizeLine; decide),[u',w'],.cons g2 (.cons g4 .nil),⟨_,f3,rfl,_,rfl,rfl⟩⟩
theorem rps_zipUp {K:W.Frag} {H:Hp} {B:BS}:∀ {ds es:List D} {xs ys:List V} {as:List Addr},Rps K H B ds xs→Rps K H B es ys→as.length = (xs.zip ys).length→(∀ p ∈ zipUp as (xs.zip ys),H p.1 = some p.2∧¬ B p.1) →
  Rps K H B ((ds.zip es).map fun p=>D.tup [p.1,p.2]) (as.map V.ref)
 | [],es,xs,ys,as,r1,r2,hl,h=>by
  rw [rps_nil] at r1; subst r1
  simp at hl; subst hl
  simp [rps_nil]
 | d :: ds,[],xs,ys,as,r1,r2,hl,h=>by
  rw [rps_nil] at r2; subst r2
  simp at hl; subst hl
  simp [rps_nil]
 | d :: ds,e :: es,xs,ys,as,r1,r2,hl,h=>by
  rw [rps_cons] at r1 r2
  obtain ⟨x,xs',rfl,a1,a2⟩:=r1
  obtain ⟨y,ys',rfl,b1,b2⟩:=r2
  cases as with
  | nil=>simp at hl
  | cons a as =>
   have h0:=h (a,.tup [x,y]) List.mem_cons_self
   rw [List.zip_cons_cons,List.map_cons,List.map_cons,rps_cons]
   refine ⟨_,_,rfl,?_,rps_zipUp a2 b2 (by simpa using hl) fun p hp=>h p (List.mem_cons_of_mem _ hp)⟩
   rw [rp_tup]
   refine ⟨a,[x,y],rfl,⟨h0.2,h0.1⟩,?_⟩
   rw [rps_cons]
   refine ⟨_,_,rfl,a1,?_⟩
   rw [rps_cons]
   exact ⟨_,_,rfl,b1,by rw [rps_nil]⟩
theorem fn_tupZip {K:W.Frag}:FnR K (rZipT K) zipTD:=by
 intro H B xs ds d Q bad r h k
 unfold zipTD at h
 split at h <;> try cases h
 rename_i ds es
 rw [rps_cons] at r
 obtain ⟨x,r',rfl,r1,r⟩:=r
 rw [rps_cons] at r
 obtain ⟨y,r',rfl,r2,r⟩:=r
 rw [rps_nil] at r; subst r
 rw [rp_lst] at r1 r2
 obtain ⟨q1,us,rfl,s1,t1⟩:=r1
 obtain ⟨q2,ws,rfl,s2,t2⟩:=r2
 refine ⟨q1,q2,us,ws,rfl,s1.to,s2.to,fun t as hl hnd ht ft fa=>?_⟩
 have hfst:(((t,HO.tup (as.map V.ref)) :: zipUp as (us.zip ws)).map Prod.fst) = t :: as:=by rw [List.map_cons,zipUp_fst hl]
 have hN:(((t,HO.tup (as.map V.ref)) :: zipUp as (us.zip ws)).map Prod.fst).Nodup:=by rw [hfst]; exact List.nodup_cons.mpr ⟨ht,hnd⟩
 have fr:∀ p ∈ ((t,HO.tup (as.map V.ref)) :: zipUp as (us.zip ws)),H p.1 = none:=fun p hp=>by
  have:p.1 ∈ t :: as:=by rw [← hfst]; exact List.mem_map_of_mem hp
  rcases List.mem_cons.mp this with e | e
  ·rw [e]; exact ft
  ·exact fa _ e
 have sm:Same H (updL H ((t,HO.tup (as.map V.ref)) :: zipUp as (us.zip ws))):=fun b u e=>by
  rw [updL_off fun p hp z=>by rw [← z,fr p hp] at e; cases e]; exact e
 have nb:∀ p ∈ ((t,HO.tup (as.map V.ref)) :: zipUp as (us.zip ws)),¬ B p.1:=fun p hp z=>bad _ z (fr p hp)
 refine k _ _ sm ?_
 rw [rp_tup]
 refine ⟨t,as.map V.ref,rfl,⟨nb _ List.mem_cons_self,updL_mem hN _ List.mem_cons_self⟩,rps_zipUp (t1.same sm) (t2.same sm) hl fun p hp=>⟨updL_mem hN p (List.mem_cons_of_mem _ hp),nb p (List.mem_cons_of_mem _ hp)⟩⟩
end DL
namespace L2
open PySem PySem.Spec PyProof.Rows
section
variable {X:Cx} {pins:List (Addr × Obj)} {σ:List (Option V)} {H:Hp} {s:Shared} {h':Heap}
theorem Inv.turnedL {t':Nat} {fp:List Addr} (I:Inv X pins σ H s) (hf:∀ b ∈ fp,FpOk X pins H b) (k:∀ b o,b ∉ fp→s.heap.get? b = some o→h'.get? b = some o):Inv X pins σ H { s with heap:=h',toks:=t' }:=by
 have nit:∀ b u,H b = some u→b ∉ fp:=fun b u e z=>by rw [(hf b z).1] at e; cases e
 refine I.step (g':=s.gens) (d':=s.drawn) (ch:=fp) (fun b hb=>⟨(hf b hb).2.2.2.1,(hf b hb).2.1,(hf b hb).2.2.2.2.1,(hf b hb).2.2.2.2.2⟩) (fun b o _ _ hc e _=>k b o hc e) (fun b o _ _ hc e _=>⟨o.slots,k b o hc e⟩) (fun _ _ _ _ n=>n)
  (fun b o hc e=>⟨o,k b o hc e⟩) (fun _ _ e=>e) (fun _ _ _ e=>e) (fun b ps e=>⟨#[],by rw [e]; simp⟩) (fun m hm=>?_) (fun b u e=>?_) I.bare
 ·obtain ⟨o,es,ep,ho,r⟩:=hm
  exact ⟨o,es,ep,k _ o (fun z=>(hf _ z).2.1 rfl) ho,r⟩
 ·refine (I.hok b u e).stay (fun c v hc q=>k c v ?_ q) (fun _ q=>q) fun _ _ q=>q
  rcases hc with z | z
  ·rw [z]; exact nit b u e
  ·exact nit c _ z
theorem Inv.turnedNew {t':Nat} {fp:List Addr} {x y:V} {u w:Value} (I:Inv X pins σ H s) (hf:∀ b ∈ fp,FpOk X pins H b) (rx:RelV x u) (ry:RelV y w) (hlt:∀ b ∈ fp,b < s.heap.objs.size)
  (hob:h'.get? s.heap.objs.size = some { cls:=.type "tuple",data:=.seq #[u,w] }) (k:∀ b o,b ∉ fp→s.heap.get? b = some o→h'.get? b = some o) :
  Inv X pins σ (upd H s.heap.objs.size (.tup [x,y])) { s with heap:=h',toks:=t' }∧∀ b ∈ fp,upd H s.heap.objs.size (.tup [x,y]) b = none:=by
 have ne:∀ b ∈ fp,b ≠ s.heap.objs.size:=fun b hb=>Nat.ne_of_lt (hlt b hb)
 have fr:∀ b ∈ fp,upd H s.heap.objs.size (.tup [x,y]) b = none:=fun b hb=>by rw [upd_ne (ne b hb)]; exact (hf b hb).1
 have I1:Inv X pins σ (upd H s.heap.objs.size (.tup [x,y])) { s with heap:=s.heap.push { cls:=.type "tuple",data:=.seq #[u,w] },toks:=t' } :=
  I.laid (fun b o e=>Heap.get?_push_of_some _ e) (Nat.le_refl _) ⟨(by show 2 ≤ sizeLine; decide),[u,w],.cons rx (.cons ry .nil),⟨_,Heap.get?_push_size _ rfl,rfl,_,rfl,rfl⟩⟩
 refine ⟨Inv.turnedL (s:={ s with heap:=s.heap.push { cls:=.type "tuple",data:=.seq #[u,w] },toks:=t' }) (t':=t') (fp:=fp) I1 (fun b hb=>⟨fr b hb,(hf b hb).2⟩) fun b o hb e=>?_,fr⟩
 rcases Heap.get?_push_cases e with ⟨rfl,rfl⟩ | e
 ·exact hob
 ·exact k b o hb e
end
section
variable {X:Cx} {elts:List Expr} {x1:Nat} {tpos:Pos}
theorem boot_enum:bootBuiltins "enumerate" = some (.type "enumerate"):=by decide +kernel
end
end L2
namespace DL
open PySem PySem.Spec PyProof.Rows L2
section
variable {X:Cx} {elts:List Expr} {x1:Nat} {tpos:Pos} {a b:Expr} {p pos:Pos} {gA:Ds→Option (List D)}
theorem rp_pair {K:W.Frag} {H:Hp} {B:BS} {t:Addr} {x y:V} {d e:D} (hn:¬ B t) (ht:H t = some (.tup [x,y])) (r1:Rp K H B d x) (r2:Rp K H B e y):Rp K H B (.tup [d,e]) (.ref t):=by
 rw [rp_tup]
 refine ⟨t,[x,y],rfl,⟨hn,ht⟩,?_⟩
 rw [rps_cons]
 refine ⟨_,_,rfl,r1,?_⟩
 rw [rps_cons]
 exact ⟨_,_,rfl,r2,by rw [rps_nil]⟩
end
section
variable {K:W.Frag} {H:Hp} {B B':BS}
end
section
variable {X:Cx} {K:W.Frag} {e:Expr} {pos p:Pos} {g:Ds→Option D}
noncomputable def rDictOf:List V→Hp→VK→Prop:=fun vs H Q=>∃ a kvs,vs = [.ref a]∧H a = some (.dK kvs)∧∀ l,H l = none→Q (.ref l) (upd H l (.dK kvs))
theorem call_dict_of {X:Cx}:CallR X (.type "dict") rDictOf:=by
 intro pins s σ H vs us Q I r h
 obtain ⟨a,kvs,rfl,ha,k⟩:=h
 cases r with
 | cons r rr =>
  cases rr
  obtain rfl:=r
  obtain ⟨hz,hS,ws,rv,m⟩:kvs.length ≤ sizeLine∧(a == sysModules) = false∧∃ vs,KV kvs vs∧s.heap.DictOf (mixKind X.prog X.w) a vs:=I.hok a _ ha
  have hl:kvs.length = ws.length:=Paired.length rv
  have hb:sysModules < s.heap.objs.size:=Nat.lt_trans (by decide) ((I.mod.glob.keeps I.bk).lt:mainGlobals < s.heap.objs.size)
  refine kt_call_dict hS m (by rw [← hl]; exact hz) fun h' hd hs=>?_
  have hf:H s.heap.objs.size = none:=I.hok.fresh (Nat.le_refl _)
  refine ⟨.ref s.heap.objs.size,_,I.laid (a:=s.heap.objs.size) (o:=.dK kvs) (t':=s.toks) (fun b o q=>(hs.2 b (Nat.ne_of_lt (Heap.lt_size q))).trans (Heap.get?_push_of_some _ q)) (Nat.le_refl _)
   ⟨hz,beq_eq_false_iff_ne.mpr (Ne.symm (Nat.ne_of_lt hb)),ws,rv,hd⟩,rfl,k _ hf⟩
theorem pdf_dictOf (hm:X.mg "dict" = none) (hv:bootBuiltins "dict" = some (.type "dict")) (ha:PD X e g) (hg:Gl X "dict" := by rfl)
  (he:starEach [e] X.env = (false,eval e X.env) :: starEach [] X.env:=by rfl) (hpl:(backTo pos (starEach [] X.env)).any (·.1) = false:=by rfl) :
  PDF X (.Call (.Name "dict" p) [e] [] pos) (oA (consA g nilA) dictOfD):=.mk fun B δ=>(pe_callTy call_dict_of hg hm hv (pa_cons (ha B δ) pa_nil he) (by decide) (by decide) he hpl).imp fun σ H Q ⟨d,en,h,k⟩=>by
 unfold oA consA nilA at h
 cases e1:g δ with
 | none=>rw [e1] at h; cases h
 | some x =>
  rw [e1] at h
  simp only [Option.bind_some,Option.map_some] at h
  refine ⟨x,en,e1,fun v H1 s1 r1=>?_⟩
  cases x <;> try (simp only [dictOfD] at h; cases h; done)
  rename_i ks ds
  cases ks with
  | inr ks=>simp only [dictOfD] at h; cases h
  | inl ks =>
  simp only [dictOfD] at h
  cases h
  rw [rp_dct] at r1
  obtain ⟨q,xs,rfl,nq,hq,hl,rr⟩:=r1
  exact ⟨q,_,rfl,hq,fun l hl'=>k l _ (s1.free hl') (s1.trans (same_upd hl')) ⟨xs,upd_same,hl,rr.mono (Gr.fresh hl')⟩⟩
end
section
variable {X:Cx} {e:Expr} {pos p pos2 p2:Pos} {gA:Ds→Option (List D)}
noncomputable def rLRange:List V→Hp→VK→Prop:=fun vs H Q=>∃ j:Int,vs = [.int j]∧-(2 ^ 62) ≤ j∧j ≤ 1000000∧∀ l,H l = none→Q (.ref l) (upd H l (.lst ((List.range j.toNat).map fun (k:Nat)=>V.int (k:Int))))
theorem call_list_rng {X:Cx} (hc:X.calm = true:=by rfl):CallR2 X (.type "list") (.type "range") rLRange:=by
 intro pins s σ H vs us Q I r h
 obtain ⟨j,rfl,h1,h2,k⟩:=h
 cases r with
 | cons r rr =>
  cases rr
  obtain ⟨t,rfl⟩:=r
  refine call_range_1 ?_
  have hsz:Builtin.Range.rangeSize 0 j 1 = (j.toNat:Nat):=by rw [rangeSize_one]; split <;> omega
  have zl:(1000000:Nat) ≤ sizeLine:=by decide
  refine call_list_range (s:={ s with heap:=s.heap.push { cls:=.type "range",data:=.fields #[.int 0 s.toks,.int j t,.int 1 (s.toks + 1)] },toks:=s.toks + 1 + 1 }) (n:=j.toNat) (I.ok.hd hc) (IsRange.new ..) (small_one (by omega) (by omega) h1 (by omega)) hsz (by
   have:(1000000:Nat) ≤ 2 ^ 24:=by decide
   omega) fun h' tk acc c hk ha hi=>?_
  have hS:(s.heap.push { cls:=.type "range",data:=.fields #[.int 0 s.toks,.int j t,.int 1 (s.toks + 1)] }).objs.size = s.heap.objs.size + 1:=Heap.size_push ..
  have ha:h'.get? (s.heap.objs.size + 1) = some { cls:=.type "list",dict:=none,data:=.seq acc c,slots:=#[] }:=by rw [← hS]; exact ha
  have hf:H (s.heap.objs.size + 1) = none:=I.hok.fresh (Nat.le_succ _)
  show EP X pins σ Q (.ref (s.heap.push _).objs.size) _
  rw [hS]
  refine ⟨.ref (s.heap.objs.size + 1),_,I.laid (a:=s.heap.objs.size + 1) (o:=.lst ((List.range j.toNat).map fun (k:Nat)=>V.int (k:Int))) (t':=tk) (fun b o q=>hk b o (Heap.get?_push_of_some _ q)) (Nat.le_succ _) ⟨by rw [List.length_map,List.length_range]; omega,acc.toList,c,?_,by rw [ha]⟩,rfl,k _ hf⟩
  have key:∀ (l:List Value) (m:Nat),(∀ i v,l[i]? = some v→∃ t,v = Value.int ((m + i:Nat):Int) t)→Vals ((List.range' m l.length).map fun (k:Nat)=>V.int (k:Int)) l:=by
   intro l
   induction l with
   | nil=>intro m _; exact .nil
   | cons v l ih =>
    intro m h
    obtain ⟨t0,e0⟩:=h 0 v rfl
    rw [List.length_cons,List.range'_succ,List.map_cons]
    refine .cons ⟨t0,by simpa using e0⟩ (ih (m + 1) fun i w hw=>?_)
    obtain ⟨t1,e1⟩:=h (i + 1) w (by simpa using hw)
    exact ⟨t1,by rw [e1]; congr 2; omega⟩
  have hlen:acc.toList.length = j.toNat:=by rw [Array.length_toList]; exact hi.1
  have:=key acc.toList 0 (fun i v hv=>by
   obtain ⟨t0,e0⟩:=hi.2 i v (by simpa using hv)
   exact ⟨t0,by rw [e0]; congr 1; omega⟩)
  rw [hlen,← List.range_eq_range'] at this
  exact this
theorem pdf_lrange (hm1:X.mg "list" = none) (hm2:X.mg "range" = none) (ha:PDA X [e] gA) (hc:X.calm = true:=by rfl) (hg1:Gl X "list" := by rfl) (hg2:Gl X "range" := by rfl)
  (e1:starEach [.Call (.Name "range" p2) [e] [] pos2] X.env = (false,eval (.Call (.Name "range" p2) [e] [] pos2) X.env) :: starEach [] X.env:=by rfl) (h1:(backTo pos (starEach [] X.env)).any (·.1) = false:=by rfl)
  (he:starEach [e] X.env = (false,eval e X.env) :: starEach [] X.env:=by rfl) (hpl:(backTo pos2 (starEach [] X.env)).any (·.1) = false:=by rfl) :
  PDF X (.Call (.Name "list" p) [.Call (.Name "range" p2) [e] [] pos2] [] pos) (oA gA lrngD):=.mk fun B δ=>(pe_nestTT (call_list_rng hc) hg1 hg2 hm1 hm2 b_list0 boot_range (ha B δ) (by decide) (by decide) (by decide) (by decide) e1 h1 he hpl).imp fun σ H Q ⟨d,en,h,k⟩=>by
 unfold oA at h
 cases e3:gA δ with
 | none=>rw [e3] at h; cases h
 | some ds =>
  rw [e3] at h
  simp only [Option.bind_some] at h
  unfold lrngD at h
  split at h <;> try cases h
  rename_i j
  split at h <;> try cases h
  rename_i hj
  refine ⟨_,en,e3,fun vs H1 s1 r=>?_⟩
  rw [rps_cons] at r
  obtain ⟨x,t,rfl,r1,r⟩:=r
  rw [rps_nil] at r; subst r
  rw [rp_int] at r1; subst r1
  refine ⟨j,rfl,hj.1,hj.2,fun l hl=>k l _ (s1.free hl) (s1.trans (same_upd hl)) ⟨_,upd_same,?_⟩⟩
  have:∀ (l:List Nat) (H:Hp) (B:BS),Rps X.K H B (l.map fun (k:Nat)=>D.int (k:Int)) (l.map fun (k:Nat)=>V.int (k:Int)):=by
   intro l H B
   induction l with
   | nil=>simp [rps_nil]
   | cons a l ih=>rw [List.map_cons,List.map_cons,rps_cons]; exact ⟨_,_,rfl,by rw [rp_int],ih⟩
  exact this _ _ _
end
end DL
namespace TxtL
open PySem PySem.Spec PyProof.Rows Builtin Builtin.Str
section
variable {prog:Program} {w:World} {A:Around} {E:Value→Shared→Prop} {s:Shared} {Q:Value→Shared→Prop} {x y:PySem.Str} {t u:Tok}
end
end TxtL
namespace L2
open PySem PySem.Spec PyProof.Rows
section
variable {X:Cx}
end
end L2
namespace DL
open PySem PySem.Spec PyProof.Rows L2
section
variable {X:Cx} {K:W.Frag} {o e:Expr} {apos cpos:Pos} {g:Ds→Option D} {gA:Ds→Option (List D)} {name:PySem.Str} {id:String} {r:V→List V→Hp→VK→Prop} {f:D→List D→Option D}
end
@[simp] noncomputable def mulI:D→D→Option D
 | .int n,.str x=>if -(2 ^ 62) ≤ n∧n < 2 ^ 62∧x.length * n.toNat ≤ sizeLine then some (.str (repD x n)) else none
 | _,_=>none
section
variable {X:Cx} {e a b c:Expr} {es:List Expr} {pos:Pos} {g ga gb gc:Ds→Option D}
open Builtin Builtin.Str Builtin.Int in
theorem mul_intstr {prog:Program} {w:World} {A:Around} {E:Value→Shared→Prop} {s:Shared} {x:Str} {n:Int} {t u:Tok} {Q:Value→Shared→Prop} (hr:(decide (n < -(2 ^ 63:Int)) || decide (n ≥ 2 ^ 63)) = false)
  (hb:¬ n < 1→(n == 1 || x.length == 0) = false→¬ ((x.length:Int) > (2 ^ 63 - 1) / n)) (hl:¬ n < 1→(n == 1 || x.length == 0) = false→tooLong (x.length * n.toNat) = false)
  (h:(if n < 1 then Made.str Str.empty else if (n == 1 || x.length == 0) = true then Made.val (.str x t) else Made.str ⟨(List.replicate n.toNat x.cps).foldl (· ++ ·) #[]⟩).post Q s) :
  wpAny (model prog w) A (binaryOp .Mult (.int n u) (.str x t)) Q E s :=
 PySem.lm_binaryOp_repeat_right (T := "str") (U := "int") (by decide) (fun s'=>typeIs_int s' n u) (typeIs_str s x t) PySem.F.fills_int_mul PySem.noFill_str_mul PySem.F.slot_int_mul PySem.lm_noRepeat_int PySem.repeat_str PySem.F.slot_int_index.lookup
  (call_gives PySem.F.slot_int_mul (typeIs_int s n u) PySem.F.entry_int_mul (PySem.F.args_int_mul_2 _ _) (PySem.AutoIntG3.int___mul___int_str_0 n u x t)
   ⟨rfl,typeIs_str _ x t,call_gives PySem.F.slot_str_mul (typeIs_str s x t) PySem.F.entry_str_mul (PySem.F.args_str_mul_2 _ _) (gives_str_mul x n t u hr hb hl) h⟩)
noncomputable def rMulI:R2:=fun x y H Q=>∃ z n,y = .str z∧x = .int n∧-(2 ^ 62) ≤ n∧n < 2 ^ 62∧z.length * n.toNat ≤ sizeLine∧Q (.str (repS z n)) H
theorem op_mulI:OpR X (binaryOp .Mult) rMulI:=by
 intro pins s σ H x y v u Q I rx ry h
 obtain ⟨z,n,rfl,rfl,h1,h2,hz,q⟩:=h
 obtain ⟨t,rfl⟩:=ry
 obtain ⟨t',rfl⟩:=rx
 have fin:∀ t'' k,EP X pins σ Q (.str (repS z n) t'') { s with toks:=k }:=fun t'' k=>⟨.str _,H,I.tok k,⟨t'',rfl⟩,q⟩
 have hsl:(sizeLine:Nat) < 2 ^ 40:=by decide
 have hdiv:¬ n < 1→¬ ((z.length:Int) > (2 ^ 63 - 1) / n):=by
  intro hn
  have hn':0 < n:=by omega
  have:(z.length:Int) * n ≤ 2 ^ 63 - 1:=by
   have e:n = (n.toNat:Int):=by omega
   rw [e]
   have:((z.length * n.toNat:Nat):Int) ≤ 2 ^ 40:=by exact_mod_cast (by omega:z.length * n.toNat ≤ 2 ^ 40)
   rw [Int.natCast_mul] at this
   omega
  exact Int.not_lt.mpr ((Int.le_ediv_iff_mul_le hn').mpr this)
 refine mul_intstr (by rw [decide_eq_false (by omega),decide_eq_false (by omega)]; rfl) (fun hn _=>hdiv hn) (fun _ _=>?_) ?_
 ·show decide (z.length * n.toNat > sizeLine) = false
  exact decide_eq_false (by omega)
 ·by_cases hn:n < 1
  ·rw [if_pos hn]
   have e:repS z n = Str.empty:=by
    unfold repS
    rw [show n.toNat = 0 by omega]
    rfl
   refine ⟨by decide,?_⟩
   rw [← e]
   exact fin _ _
  ·rw [if_neg hn]
   by_cases h3:(n == 1 || z.length == 0) = true
   ·rw [if_pos h3]
    have e:repS z n = z:=by
     rw [Bool.or_eq_true] at h3
     rcases h3 with h3 | h3
     ·have:n = 1:=eq_of_beq h3
      subst this
      unfold repS
      show (⟨#[] ++ z.cps⟩:Str) = z
      rw [Array.empty_append]
     ·have h3:z.length = 0:=eq_of_beq h3
      have hz0:z.cps = #[]:=Array.eq_empty_of_size_eq_zero h3
      have:∀ k:Nat,(List.replicate k (#[]:Array Nat)).foldl (· ++ ·) #[] = #[]:=by
       intro k
       induction k with
       | zero=>rfl
       | succ k ih=>rw [List.replicate_succ,List.foldl_cons]; exact ih
      unfold repS
      rw [hz0,this]
      cases z
      simp at hz0
      rw [hz0]
    have:=fin t s.toks
    rw [e] at this
    exact this
   ·rw [if_neg h3]
    have hl2:∀ (k:Nat) (acc:Array Nat),((List.replicate k z.cps).foldl (· ++ ·) acc).size = acc.size + k * z.cps.size:=by
     intro k
     induction k with
     | zero=>intro acc; simp
     | succ k ih=>intro acc; rw [List.replicate_succ,List.foldl_cons,ih,Array.size_append,Nat.succ_mul]; omega
    refine ⟨?_,fin _ _⟩
    show ((List.replicate n.toNat z.cps).foldl (· ++ ·) #[]).size ≤ _
    rw [hl2]
    have:z.length = z.cps.size:=rfl
    rw [this,Nat.mul_comm] at hz
    simpa using hz
theorem op2_mulI {K:W.Frag}:Op2 K rMulI mulI:=by
 intro H B x y dx dy d Q hb rx ry h k
 cases dx <;> cases dy <;> simp only [mulI] at h <;> try cases h
 split at h
 ·rename_i hz
  cases h
  rw [rp_str] at ry
  rw [rp_int] at rx
  subst rx ry
  exact ⟨_,_,rfl,rfl,hz.1,hz.2.1,hz.2.2,k _ H (Same.refl H) (by rw [rp_str]; rfl)⟩
 ·cases h
theorem pd_mulI (ha:PD X a ga) (hb:PD X b gb):PD X (.BinOp a .Mult b pos) (o2 ga gb mulI):=pd_op op_mulI op2_mulI ha hb
end
end DL
namespace HL
open PySem PySem.SeqAt PyProof.Rows
open PySem.AutoSeq1 (wpAny_loadPart')
open PySem.MeetsSeq PySem.MeetsSeq2 PySem.MeetsSeq3
end HL
namespace DL
open PySem PySem.Spec PyProof.Rows L2
section
variable {X:Cx} {e a b c:Expr} {es:List Expr} {pos px apos cpos:Pos} {g ga gb gc:Ds→Option D} {x:Str}
end
end DL
namespace ZipL
open PySem PySem.Spec PyProof.Rows
section
variable {prog:Program} {w:World} {A:Around} {E:Value→Shared→Prop} {s:Shared}
end
end ZipL
namespace L2
open PySem PySem.Spec PyProof.Rows
section
variable {X:Cx} {nx:Str} {tpos:Pos}
end
end L2
namespace DL
open PySem PySem.Spec PyProof.Rows L2
section
variable {X:Cx} {nx:Str} {tpos:Pos} {a b:Expr} {p pos:Pos} {gA:Ds→Option (List D)}
end
end DL
namespace L2
open PySem PySem.Spec PyProof.Rows
section
variable {X:Cx} {pins:List (Addr × Obj)} {σ:List (Option V)} {A:Around} {E:Value→Shared→Prop}
theorem plain_ul:plainId "dict.update.loop" = true:=by decide +kernel
theorem entry_ul:entryFor table "dict.update.loop" = some Builtin.«dict.update.loop»:=entryFor_of_fast (by kernel_rfl)
end
theorem miss_keys:typeLookup (.type "list") "keys" = pure none:=by rw [typeLookup_type,builtinLookup_eq_fast]; kernel_rfl
theorem keys_none {prog:Program} {w:World} {A:Around} {E:Value→Shared→Prop} {s:Shared} {a:Addr} {o:Obj} {xs:Array Value} {k:Nat} {Q:Option Value→Shared→Prop}
  (hx:s.heap.get? a = some o) (hc:o.cls = .type "list") (hdat:o.data = .seq xs k) (hd:o.dict = none) (hA:A.handled = none)
  (h:∀ h' tk,(∀ b ob,s.heap.get? b = some ob→h'.get? b = some ob)→Q none { s with heap:=h',toks:=tk }) :
  wpAny (model prog w) A (getAttr? (.ref a) "keys") Q E s:=by
 obtain ⟨c,dct,dat,sl⟩:=o
 simp only at hc hdat hd
 subst hc hdat hd
 obtain ⟨hp,g,d,tk,os⟩:=s
 have hT:∀ tk',(⟨hp,g,d,tk',os⟩:Shared).TypeIs (.ref a) "list" := fun _=>⟨_,hx,rfl⟩
 have f1:=sub_AttributeError
 have f3:=PySem.F.slot_list_getattribute.lookup
 have f4:=PySem.F.slot_list_getattribute.bind (.ref a)
 have f5:=am_list_getattr_none
 unfold getAttr? getAttrBy? getAttrBy
 repeat (any_goals (first | assumption | exact hT _ | ((with_reducible show wpAny _ _ (call (Value.builtin "list.__getattribute__") _ _) _ _ _); refine call_meets PySem.F.slot_list_getattribute (hT _) am_entry_list_getattribute (PySem.F.args_list_getattribute_2 _ _) (meets_getattribute_miss_list a xs k sl "keys" _ miss_keys (by decide +kernel)) ⟨hx,hA,fun h' tk' e hx'=>?_⟩) | wp_step))
 obtain ⟨t',u',he⟩:=hx'.there
 show wpAny _ _ (getattributeRaised _ _ _ _ _ _ _) _ _ _
 unfold getattributeRaised
 repeat (any_goals (first | assumption | wp_step))
 exact h _ _ hx'.keeps
end L2
namespace DL
open PySem PySem.Spec PyProof.Rows L2
section
variable {K:W.Frag} {H:Hp} {B:BS}
end
section
variable {X:Cx} {e:Expr} {pos p:Pos} {g:Ds→Option D}
end
end DL
namespace L2
open PySem PySem.Spec PyProof.Rows
section
variable {X:Cx} {pins:List (Addr × Obj)} {σ:List (Option V)} {A:Around} {E:Value→Shared→Prop}
end
end L2
namespace DL
open PySem PySem.Spec PyProof.Rows L2
section
variable {K:W.Frag} {H:Hp} {B:BS} {σ:St} {δ:Ds}
end
section
variable {X:Cx} {ke ve:Expr} {pos:Pos} {gk gv:Ds→Option D}
end
section
variable {X:Cx} {e:Expr} {pos pos':Pos} {g:Ds→Option D} {x:Str}
end
noncomputable def flats (ds:List D):Bool:=ds.all flat
noncomputable def borL (g:GE):GE:=fun δ=>(g (frz δ)).bind fun d=>match d with
 | .lst ds=>if flats ds = true then some (.lst ds) else none
 | _=>none
theorem borL_of {g:GE} {δ:Ds} {ds:List D} (h:g (frz δ) = some (.lst ds)) (hf:flats ds = true):borL g δ = some (.lst ds):=by
 unfold borL
 rw [h,Option.bind_some]
 simp only []
 rw [if_pos hf]
section
variable {X:Cx} {e:Expr} {g:GE} {pos:Pos}
theorem flats_rps {K:W.Frag} {H H':Hp} {B B':BS}:∀ {ds:List D} {xs:List V},flats ds = true→Rps K H B ds xs→Rps K H' B' ds xs
 | [],xs,_,r=>by rw [rps_nil] at r ⊢; exact r
 | d :: ds,xs,h,r=>by
  rw [rps_cons] at r ⊢
  obtain ⟨x,r',e1,r1,r2⟩:=r
  unfold flats at h
  rw [List.all_cons,Bool.and_eq_true] at h
  exact ⟨x,r',e1,flat_rp h.1 r1,flats_rps (ds:=ds) h.2 r2⟩
theorem pdf_borL (h:PDF X e g):PDF X e (borL g):=.mk fun B δ pins s σ H Q I ⟨d,en,hq,k⟩=>by
 obtain ⟨B',c1,c2,en'⟩:=en.frz
 unfold borL at hq
 cases e1:g (frz δ) with
 | none=>rw [e1] at hq; cases hq
 | some x =>
  rw [e1,Option.bind_some] at hq
  cases x with
  | lst ds =>
   simp only [] at hq
   by_cases hf:flats ds = true
   ·rw [if_pos hf] at hq
    cases hq
    exact h B' (frz δ) pins s σ H Q I ⟨_,en',e1,fun p H' hp s' r=>k p H' hp s' (by
     obtain ⟨xs,e5,r5⟩:=r
     exact ⟨xs,e5,flats_rps hf r5⟩)⟩
   ·rw [if_neg hf] at hq; cases hq
  | non=>cases hq
  | bl _=>cases hq
  | int _=>cases hq
  | str _=>cases hq
  | tup _=>cases hq
  | dct _ _=>cases hq
end
section
variable {X:Cx}
end
end DL
namespace L2
open PySem PySem.Spec PyProof.Rows
section
variable {X:Cx}
end
end L2
namespace DL
open PySem PySem.Spec PyProof.Rows L2
section
variable {X:Cx} {e:Expr} {g:GE} {x:Str} {px p0 apos cpos:Pos} {j:Nat}
end
end DL
namespace L2
open PySem PySem.Spec PyProof.Rows
section
variable {X:Cx}
end
end L2
namespace DL
open PySem PySem.Spec PyProof.Rows L2
section
variable {X:Cx} {o e:Expr} {apos cpos:Pos} {g:Ds→Option D} {gA:Ds→Option (List D)}
end
end DL
namespace PySem.SeqAt
open AutoSeq1 (wpAny_loadPart')
open MeetsSeq MeetsSeq2 MeetsSeq3 SeqRoads2
end PySem.SeqAt
namespace L2
open PySem PySem.Spec PyProof.Rows
section
variable {X:Cx}
end
end L2
namespace DL
open PySem PySem.Spec PyProof.Rows L2
section
variable {X:Cx} {a b e:Expr} {ga gb:GE} {gA:GA} {pos p0 apos cpos:Pos} {x:Str} {ys:List Str}
end
end DL
namespace Att
open PySem PySem.W PySem.Calls PyProof.Rows
end Att
namespace L2
open PySem PySem.Spec PyProof.Rows
section
variable {X:Cx}
end
end L2
namespace DL
open PySem PySem.Spec PyProof.Rows L2
section
variable {X:Cx} {o e e0:Expr} {g g0:GE} {gA:GA} {x:Str} {px p0 apos cpos pos:Pos}
end
end DL
namespace L2
open PySem PySem.Spec PyProof.Rows
theorem Inv.tupN {X:Cx} {pins:List (Addr × Obj)} {σ:St} {H:Hp} {s:Shared} {a:Addr} {xs:List V} (I:Inv X pins σ H s) (h:H a = some (.tup xs)):∃ its:List Value,Vals xs its∧IsTupN s.heap a its.toArray∧xs.length ≤ sizeLine:=by
 obtain ⟨z,its,r,p⟩:=(show ObjOk X.prog X.w H s.heap a (.tup xs) from I.hok a _ h)
 exact ⟨its,r,p,z⟩
theorem miss_keysT:typeLookup (.type "tuple") "keys" = pure none:=by rw [typeLookup_type,builtinLookup_eq_fast]; kernel_rfl
theorem keys_noneT {prog:Program} {w:World} {A:Around} {E:Value→Shared→Prop} {s:Shared} {a:Addr} {o:Obj} {xs:Array Value} {k:Nat} {Q:Option Value→Shared→Prop}
  (hx:s.heap.get? a = some o) (hc:o.cls = .type "tuple") (hdat:o.data = .seq xs k) (hd:o.dict = none) (hA:A.handled = none)
  (h:∀ h' tk,(∀ b ob,s.heap.get? b = some ob→h'.get? b = some ob)→Q none { s with heap:=h',toks:=tk }) :
  wpAny (model prog w) A (getAttr? (.ref a) "keys") Q E s:=by
 obtain ⟨c,dct,dat,sl⟩:=o
 simp only at hc hdat hd
 subst hc hdat hd
 obtain ⟨hp,g,d,tk,os⟩:=s
 have hT:∀ tk',(⟨hp,g,d,tk',os⟩:Shared).TypeIs (.ref a) "tuple" := fun _=>⟨_,hx,rfl⟩
 have f1:=sub_AttributeError
 have f3:=PySem.F.slot_tuple_getattribute.lookup
 have f4:=PySem.F.slot_tuple_getattribute.bind (.ref a)
 have f5:=am_tuple_getattr_none
 unfold getAttr? getAttrBy? getAttrBy
 repeat (any_goals (first | assumption | exact hT _ | ((with_reducible show wpAny _ _ (call (Value.builtin "tuple.__getattribute__") _ _) _ _ _); refine call_meets PySem.F.slot_tuple_getattribute (hT _) am_entry_tuple_getattribute (PySem.F.args_tuple_getattribute_2 _ _) (meets_getattribute_miss_tuple a xs k sl "keys" _ miss_keysT (by decide +kernel)) ⟨hx,hA,fun h' tk' e hx'=>?_⟩) | wp_step))
 obtain ⟨t',u',he⟩:=hx'.there
 show wpAny _ _ (getattributeRaised _ _ _ _ _ _ _) _ _ _
 unfold getattributeRaised
 repeat (any_goals (first | assumption | wp_step))
 exact h _ _ hx'.keeps
section
variable {X:Cx} {pins:List (Addr × Obj)} {σ:List (Option V)} {A:Around} {E:Value→Shared→Prop}
theorem d_rawPutK {s:Shared} {H:Hp} {d:Addr} {kvs:List (Key × V)} {k:Key} {v:V} {u r:Value} {Q:Unit→Shared→Prop} (I:Inv X pins σ H s) (e:H d = some (.dK kvs)) (l:kvs.length < sizeLine) (rk:RelV (kV k) u) (rv:RelV v r)
  (h:∀ h' tk,Inv X pins σ (upd H d (.dK (putK kvs k v))) { s with heap:=h',toks:=tk }→Heap.SameBut d s.heap h'→Q () { s with heap:=h',toks:=tk }) :
  wpAny (model X.prog X.w) A (dictSet d u r) Q E s:=by
 obtain ⟨z,hd,vs,rel,dd⟩:=dk_of I.hok e
 have hz:vs.length ≤ sizeLine:=by rw [← rel.length]; exact z
 have hl:(putK kvs k v).length ≤ sizeLine:=by have:=length_putK kvs k v; omega
 refine wpAny_dictSet_pairs (hsz:=hz) (kV_is rk) dd fun h' dd' hs=>h _ _ ?_ hs
 have he:∃ q,h'.get? d = some q:=let ⟨q,_,_,hq,_⟩:=dd'; ⟨q,hq⟩
 exact d_write I (by rw [e]; exact True.intro) hs he (dk_new hl hd (rel.put k rv) dd')
structure PKW where
 p:Addr
 k:Key
 v:V
noncomputable def PKW.ok (H:Hp) (x:PKW):Prop:=H x.p = some (.tup [kV x.k,x.v])
noncomputable def putAllK (kvs:List (Key × V)) (ps:List PKW):List (Key × V):=ps.foldl (fun acc x=>putK acc x.k x.v) kvs
theorem dictK_loopL {it l d:Addr} (hh:A.handled = none) {R:Result→Shared→Prop} {ps:List PKW} (n:Nat):∀ (i:Nat) (s:Shared) (H:Hp) (kvs:List (Key × V)),ps.length - i = n→i ≤ ps.length→Inv X pins σ H s→FpOk X pins H it→it ≠ d→it ≠ l→s.heap.IsListIter it l i →
  SqL X.K H l (ps.map fun x=>V.ref x.p)→(∀ x ∈ ps,x.ok H)→H d = some (.dK kvs)→kvs.length + (ps.length - i) ≤ sizeLine →
  (∀ s',Inv X pins σ (upd H d (.dK (putAllK kvs (ps.drop i)))) s'→R (.ok (.ret .none)) s') →
  wpAny (model X.prog X.w) A.in1 (Builtin.«dict.update.loop» ⟨[.ref d,.ref it,rawInt i,.none],[]⟩) (fun fin s'=>match fin with | .done f=>R (.ok f) s' | .again c'=>c'.quiet = true∧codeAny (model X.prog X.w) A c' R s') (fun e s'=>R (.error e) s') s:=by
 induction n with
 | zero =>
  intro i s H kvs hn hi I hf hid hil hit hl hp hd hz hR
  obtain ⟨its,rv,pl,_⟩:=I.list hl
  have hlen:=rv.length
  rw [List.length_map] at hlen
  unfold Builtin.«dict.update.loop»
  refine wpAny_bind (wpAny_pyNext_list_end hh hit pl.isList (by simp; omega) fun h' hk=>?_)
  have I1:Inv X pins σ H { s with heap:=h' }:=I.turnedL (t':=s.toks) (fp:=[it]) (fun b hb=>by rw [List.mem_singleton.mp hb]; exact hf) fun b o hb e=>hk _ _ (fun z=>hb (by simp [z])) e
  have e:ps.drop i = []:=by rw [List.drop_eq_nil_iff]; omega
  rw [e] at hR
  have:=hR _ (show Inv X pins σ (upd H d (.dK (putAllK kvs []))) { s with heap:=h' } from by
   rw [show upd H d (.dK (putAllK kvs [])) = H from by funext c; by_cases q:c = d <;> simp [upd,q,putAllK,hd]]
   exact I1)
  exact wpAny_bind (wpAny_pure (wpAny_pure this))
 | succ n ih =>
  intro i s H kvs hn hi I hf hid hil hit hl hp hd hz hR
  obtain ⟨its,rv,pl,_⟩:=I.list hl
  have hlt:i < ps.length:=by omega
  obtain ⟨x,hx⟩:∃ x,ps[i]? = some x:=⟨ps[i],by simp [hlt]⟩
  have hxm:x ∈ ps:=List.mem_of_getElem? hx
  have hx1:H x.p = some (.tup [kV x.k,x.v]):=hp x hxm
  obtain ⟨u,hu1,ru⟩:=rv.get (show (ps.map fun x=>V.ref x.p)[i]? = some (.ref x.p) by rw [List.getElem?_map,hx]; rfl)
  cases (show u = Value.ref x.p from ru)
  unfold Builtin.«dict.update.loop»
  refine wpAny_bind (wpAny_pyNext_list_item hit pl.isList (by simpa using hu1) fun h' hit' hs=>?_)
  have I1:Inv X pins σ H { s with heap:=h' }:=I.turnedL (t':=s.toks) (fp:=[it]) (fun b hb=>by rw [List.mem_singleton.mp hb]; exact hf) fun b o hb e=>hs.extBut _ _ (fun z=>hb (by simp [z])) e
  obtain ⟨its2,rv2,ip,_⟩:=I1.tuple (SqT.of hx1)
  cases rv2 with
  | cons r1 rr =>
   cases rr with
   | cons r2 rr =>
    cases rr
    obtain ⟨o,ho,hc,nn,hdat⟩:=id ip
    rename_i rk0 rv0
    refine wpAny_bind (wpAny_holding ?_)
    refine wpAny_bind (wpAny_tryCatch ?_)
    unfold Builtin.Dict.pairItems
    refine wpAny_bind (wpAny_typeOf (show Shared.TypeIs _ (.ref x.p) "tuple" from ⟨o,ho,hc⟩) ?_)
    rw [if_pos (by decide)]
    refine wpAny_bind (wpAny_seqItems ho hdat (wpAny_pure ?_))
    show wpAny _ _ (holding [rk0,rv0] (dictSet d rk0 rv0)) _ _ _
    refine wpAny_holding (d_rawPutK (A:=A.in1) I1 hd (by omega) r1 r2 fun h2 tk I2 hs2=>?_)
    have hpd:∀ (c:Addr) (us:List V),H c = some (.tup us)→upd H d (.dK (putK kvs x.k x.v)) c = some (.tup us):=fun c us ec=>by
     rw [upd_ne (ne_of ec hd (fun z=>nomatch z))]; exact ec
    have hc':((i:Int) + 1) = ((i + 1:Nat):Int):=by push_cast; rfl
    refine wpAny_pure ⟨plainId_quiet plain_ul _,?_⟩
    rw [hc']
    refine codeAny_builtin entry_ul ?_
    rw [Around.under_plainId plain_ul _]
    refine ih (i + 1) _ (upd H d (.dK (putK kvs x.k x.v))) (putK kvs x.k x.v) (by omega) (by omega) I2 ⟨by rw [upd_ne hid]; exact hf.1,hf.2⟩ hid hil (hit'.extBut hs2.extBut hid) ?_ (fun y hy=>hpd _ _ (hp y hy)) upd_same (by have:=length_putK kvs x.k x.v; omega) fun s' I'=>hR s' ?_
    ·rcases hl with (hl | ⟨o',hl⟩) | hl
     ·exact .inl (.inl (by rw [upd_ne (ne_of hl hd (fun z=>nomatch z))]; exact hl))
     ·exact .inl (.inr ⟨o',by rw [upd_ne (ne_of hl hd (fun z=>nomatch z))]; exact hl⟩)
     ·exact .inr hl
    ·have e1:upd (upd H d (.dK (putK kvs x.k x.v))) d (.dK (putAllK (putK kvs x.k x.v) (ps.drop (i + 1)))) = upd H d (.dK (putAllK kvs (ps.drop i))):=by
      have e2:ps.drop i = x :: ps.drop (i + 1):=by
       rw [List.drop_eq_getElem_cons hlt]
       have:ps[i] = x:=by
        have:=hx
        rw [List.getElem?_eq_getElem hlt] at this
        exact Option.some.inj this
       rw [this]
      rw [e2]
      funext c
      by_cases q:c = d <;> simp [upd,q,putAllK]
     rw [← e1]
     exact I'
theorem dictK_loopT {it l d:Addr} (hh:A.handled = none) {R:Result→Shared→Prop} {ps:List PKW} (n:Nat):∀ (i:Nat) (s:Shared) (H:Hp) (kvs:List (Key × V)),ps.length - i = n→i ≤ ps.length→Inv X pins σ H s→FpOk X pins H it→it ≠ d→it ≠ l→s.heap.IsTupleIter it l i →
  H l = some (.tup (ps.map fun x=>V.ref x.p))→(∀ x ∈ ps,x.ok H)→H d = some (.dK kvs)→kvs.length + (ps.length - i) ≤ sizeLine →
  (∀ s',Inv X pins σ (upd H d (.dK (putAllK kvs (ps.drop i)))) s'→R (.ok (.ret .none)) s') →
  wpAny (model X.prog X.w) A.in1 (Builtin.«dict.update.loop» ⟨[.ref d,.ref it,rawInt i,.none],[]⟩) (fun fin s'=>match fin with | .done f=>R (.ok f) s' | .again c'=>c'.quiet = true∧codeAny (model X.prog X.w) A c' R s') (fun e s'=>R (.error e) s') s:=by
 induction n with
 | zero =>
  intro i s H kvs hn hi I hf hid hil hit hl hp hd hz hR
  obtain ⟨its,rv,pl,_⟩:=I.tupN hl
  have hlen:=rv.length
  rw [List.length_map] at hlen
  unfold Builtin.«dict.update.loop»
  refine wpAny_bind (wpAny_pyNext_tuple_end hh hit pl.tup (by simp; omega) fun h' hk=>?_)
  have I1:Inv X pins σ H { s with heap:=h' }:=I.turnedL (t':=s.toks) (fp:=[it]) (fun b hb=>by rw [List.mem_singleton.mp hb]; exact hf) fun b o hb e=>hk _ _ (fun z=>hb (by simp [z])) e
  have e:ps.drop i = []:=by rw [List.drop_eq_nil_iff]; omega
  rw [e] at hR
  have:=hR _ (show Inv X pins σ (upd H d (.dK (putAllK kvs []))) { s with heap:=h' } from by
   rw [show upd H d (.dK (putAllK kvs [])) = H from by funext c; by_cases q:c = d <;> simp [upd,q,putAllK,hd]]
   exact I1)
  exact wpAny_bind (wpAny_pure (wpAny_pure this))
 | succ n ih =>
  intro i s H kvs hn hi I hf hid hil hit hl hp hd hz hR
  obtain ⟨its,rv,pl,_⟩:=I.tupN hl
  have hlt:i < ps.length:=by omega
  obtain ⟨x,hx⟩:∃ x,ps[i]? = some x:=⟨ps[i],by simp [hlt]⟩
  have hxm:x ∈ ps:=List.mem_of_getElem? hx
  have hx1:H x.p = some (.tup [kV x.k,x.v]):=hp x hxm
  obtain ⟨u,hu1,ru⟩:=rv.get (show (ps.map fun x=>V.ref x.p)[i]? = some (.ref x.p) by rw [List.getElem?_map,hx]; rfl)
  cases (show u = Value.ref x.p from ru)
  unfold Builtin.«dict.update.loop»
  refine wpAny_bind (wpAny_pyNext_tuple_item hit pl.tup (by simpa using hu1) fun h' hit' hs=>?_)
  have I1:Inv X pins σ H { s with heap:=h' }:=I.turnedL (t':=s.toks) (fp:=[it]) (fun b hb=>by rw [List.mem_singleton.mp hb]; exact hf) fun b o hb e=>hs.extBut _ _ (fun z=>hb (by simp [z])) e
  obtain ⟨its2,rv2,ip,_⟩:=I1.tuple (SqT.of hx1)
  cases rv2 with
  | cons r1 rr =>
   cases rr with
   | cons r2 rr =>
    cases rr
    obtain ⟨o,ho,hc,nn,hdat⟩:=id ip
    rename_i rk0 rv0
    refine wpAny_bind (wpAny_holding ?_)
    refine wpAny_bind (wpAny_tryCatch ?_)
    unfold Builtin.Dict.pairItems
    refine wpAny_bind (wpAny_typeOf (show Shared.TypeIs _ (.ref x.p) "tuple" from ⟨o,ho,hc⟩) ?_)
    rw [if_pos (by decide)]
    refine wpAny_bind (wpAny_seqItems ho hdat (wpAny_pure ?_))
    show wpAny _ _ (holding [rk0,rv0] (dictSet d rk0 rv0)) _ _ _
    refine wpAny_holding (d_rawPutK (A:=A.in1) I1 hd (by omega) r1 r2 fun h2 tk I2 hs2=>?_)
    have hpd:∀ (c:Addr) (us:List V),H c = some (.tup us)→upd H d (.dK (putK kvs x.k x.v)) c = some (.tup us):=fun c us ec=>by
     rw [upd_ne (ne_of ec hd (fun z=>nomatch z))]; exact ec
    have hc':((i:Int) + 1) = ((i + 1:Nat):Int):=by push_cast; rfl
    refine wpAny_pure ⟨plainId_quiet plain_ul _,?_⟩
    rw [hc']
    refine codeAny_builtin entry_ul ?_
    rw [Around.under_plainId plain_ul _]
    refine ih (i + 1) _ (upd H d (.dK (putK kvs x.k x.v))) (putK kvs x.k x.v) (by omega) (by omega) I2 ⟨by rw [upd_ne hid]; exact hf.1,hf.2⟩ hid hil (hit'.extBut hs2.extBut hid) ?_ (fun y hy=>hpd _ _ (hp y hy)) upd_same (by have:=length_putK kvs x.k x.v; omega) fun s' I'=>hR s' ?_
    ·exact hpd _ _ hl
    ·have e1:upd (upd H d (.dK (putK kvs x.k x.v))) d (.dK (putAllK (putK kvs x.k x.v) (ps.drop (i + 1)))) = upd H d (.dK (putAllK kvs (ps.drop i))):=by
      have e2:ps.drop i = x :: ps.drop (i + 1):=by
       rw [List.drop_eq_getElem_cons hlt]
       have:ps[i] = x:=by
        have:=hx
        rw [List.getElem?_eq_getElem hlt] at this
        exact Option.some.inj this
       rw [this]
      rw [e2]
      funext c
      by_cases q:c = d <;> simp [upd,q,putAllK]
     rw [← e1]
     exact I'
end
noncomputable def rDictKL (K:W.Frag):List V→Hp→VK→Prop:=fun vs H Q=>∃ l ps,vs = [.ref l]∧SqL K H l (ps.map fun x:PKW=>V.ref x.p)∧(∀ x ∈ ps,x.ok H)∧ps.length ≤ sizeLine∧∀ d,H d = none→Q (.ref d) (upd H d (.dK (putAllK [] ps)))
theorem call_dictKL {X:Cx} (hu:X.A.units + 2 < cLine) (hcalm:X.calm = true:=by rfl):CallR X (.type "dict") (rDictKL X.K):=by
 intro pins s σ H vs us Q I r h
 obtain ⟨l,ps,rfl,hl,hp,hz,k⟩:=h
 cases r with
 | cons r rr =>
  cases rr
  obtain rfl:=r
  have hb:sysModules < s.heap.objs.size:=Nat.lt_trans (by decide) ((I.mod.glob.keeps I.bk).lt:mainGlobals < s.heap.objs.size)
  have hf:H s.heap.objs.size = none:=I.hok.fresh (Nat.le_refl _)
  refine callType_codes (Q₁:=fun obj s₁=>obj = .ref s.heap.objs.size∧s₁ = { s with heap:=s.heap.push { cls:=.type "dict",data:=.dict #[] } }) PySem.F.kt_called_dict (PySem.F.kt_typeCall_dict_1 _) PySem.F.entry_dict_init (kt_code_dict_new _ ⟨rfl,rfl⟩) ?_
  rintro obj s₁ ⟨rfl,rfl⟩
  have I1:Inv X pins σ (upd H s.heap.objs.size (.dK [])) { s with heap:=s.heap.push { cls:=.type "dict",data:=.dict #[] } }:=I.laid (a:=s.heap.objs.size) (o:=.dK []) (t':=s.toks) (fun _ _ q=>Heap.get?_push_of_some _ q) (Nat.le_refl _) (dk_empty s.heap hb)
  have hT:Shared.TypeIs { s with heap:=s.heap.push { cls:=.type "dict",data:=.dict #[] } } (.ref s.heap.objs.size) "dict" := ⟨_,Heap.get?_push_size _ rfl,rfl⟩
  have hdne:∀ (c:Addr) (o:HO),H c = some o→upd H s.heap.objs.size (.dK []) c = some o:=fun c o e=>by rw [upd_ne (ne_of_none e hf)]; exact e
  have hl1:SqL X.K (upd H s.heap.objs.size (.dK [])) l (ps.map fun x:PKW=>V.ref x.p):=by
   rcases hl with (hl | ⟨o',hl⟩) | hl
   ·exact .inl (.inl (hdne _ _ hl))
   ·exact .inl (.inr ⟨o',hdne _ _ hl⟩)
   ·exact .inr hl
  obtain ⟨its,rv,⟨ol,nl,hol,hcl,hdl,hdat⟩,_⟩:=I1.list hl1
  refine ⟨hT,PySem.F.args_dict_init_2 _ _,?_⟩
  unfold Builtin.«dict.__init__»
  refine wpAny_bind ?_
  unfold Builtin.Dict.selfAndRest
  refine wpAny_bind (wpAny_notOrdered_dict hT ?_)
  show wpAny _ _ (pure (s.heap.objs.size,[Value.ref l])) _ _ _
  refine wpAny_pure ?_
  show wpAny _ _ (Builtin.Dict.updateFrom "dict.__init__" s.heap.objs.size (.ref l) [] .none) _ _ _
  unfold Builtin.Dict.updateFrom
  refine wpAny_bind (wpAny_typeOf (show Shared.TypeIs _ (.ref l) "list" from ⟨ol,hol,hcl⟩) ?_)
  rw [if_pos (by decide)]
  refine wpAny_bind (keys_none hol hcl hdat hdl (I.ok.hd hcalm) fun h1 tk1 k1=>?_)
  simp only [Option.isNone_none,if_true]
  have I2:Inv X pins σ (upd H s.heap.objs.size (.dK [])) { s with heap:=h1,toks:=tk1 }:=I1.kept (t':=tk1) k1
  obtain ⟨its2,rv2,pl2,_⟩:=I2.list hl1
  refine wpAny_bind (wpAny_rule (wpAny_bind (wpAny_pyIter_list (s:={ s with heap:=h1,toks:=tk1 }) pl2.isList ?_)))
  refine wpAny_pure ⟨plainId_quiet plain_ul _,codeAny_builtin entry_ul ?_⟩
  rw [Around.under_plainId plain_ul _]
  have I3:Inv X pins σ (upd H s.heap.objs.size (.dK [])) { s with heap:=h1.push { cls:=.type "list_iterator",data:=.fields #[.ref l,.int 0 0] },toks:=tk1 }:=I2.kept (t':=tk1) fun b o e=>Heap.get?_push_of_some _ e
  have lts:s.heap.objs.size < h1.objs.size:=Heap.lt_size (k1 _ _ (Heap.get?_push_size _ rfl))
  have hln:h1.objs.size ≠ l:=by
   obtain ⟨ol2,nl2,hol2,_⟩:=pl2
   exact Nat.ne_of_gt (Heap.lt_size hol2)
  have hfr:upd H s.heap.objs.size (.dK []) h1.objs.size = none:=I2.hok.fresh (Nat.le_refl _)
  refine dictK_loopL (X:=X) (pins:=pins) (σ:=σ) (A:=X.A.in1) (it:=h1.objs.size) (l:=l) (d:=s.heap.objs.size) (ps:=ps) (I.ok.hd hcalm) ps.length 0 _ _ [] (by omega) (Nat.zero_le _) I3 (I2.fpOk (Nat.le_refl _) hfr) (Nat.ne_of_gt lts) hln ?_ hl1 (fun x hx=>hdne _ _ (hp x hx)) upd_same (by simp only [List.length_nil]; omega) fun s' I'=>⟨rfl,?_⟩
  ·exact ⟨_,Heap.get?_push_size _ rfl,rfl,rfl⟩
  ·refine ⟨.ref s.heap.objs.size,_,I',rfl,?_⟩
   have e:upd (upd H s.heap.objs.size (.dK [])) s.heap.objs.size (.dK (putAllK [] (ps.drop 0))) = upd H s.heap.objs.size (.dK (putAllK [] ps)):=by
    funext c
    by_cases q:c = s.heap.objs.size <;> simp [upd,q]
   rw [e]
   exact k _ hf
noncomputable def rDictKT (K:W.Frag):List V→Hp→VK→Prop:=fun vs H Q=>∃ l ps,vs = [.ref l]∧H l = some (.tup (ps.map fun x:PKW=>V.ref x.p))∧(∀ x ∈ ps,x.ok H)∧ps.length ≤ sizeLine∧∀ d,H d = none→Q (.ref d) (upd H d (.dK (putAllK [] ps)))
theorem call_dictKT {X:Cx} (hu:X.A.units + 2 < cLine) (hcalm:X.calm = true:=by rfl):CallR X (.type "dict") (rDictKT X.K):=by
 intro pins s σ H vs us Q I r h
 obtain ⟨l,ps,rfl,hl,hp,hz,k⟩:=h
 cases r with
 | cons r rr =>
  cases rr
  obtain rfl:=r
  have hb:sysModules < s.heap.objs.size:=Nat.lt_trans (by decide) ((I.mod.glob.keeps I.bk).lt:mainGlobals < s.heap.objs.size)
  have hf:H s.heap.objs.size = none:=I.hok.fresh (Nat.le_refl _)
  refine callType_codes (Q₁:=fun obj s₁=>obj = .ref s.heap.objs.size∧s₁ = { s with heap:=s.heap.push { cls:=.type "dict",data:=.dict #[] } }) PySem.F.kt_called_dict (PySem.F.kt_typeCall_dict_1 _) PySem.F.entry_dict_init (kt_code_dict_new _ ⟨rfl,rfl⟩) ?_
  rintro obj s₁ ⟨rfl,rfl⟩
  have I1:Inv X pins σ (upd H s.heap.objs.size (.dK [])) { s with heap:=s.heap.push { cls:=.type "dict",data:=.dict #[] } }:=I.laid (a:=s.heap.objs.size) (o:=.dK []) (t':=s.toks) (fun _ _ q=>Heap.get?_push_of_some _ q) (Nat.le_refl _) (dk_empty s.heap hb)
  have hT:Shared.TypeIs { s with heap:=s.heap.push { cls:=.type "dict",data:=.dict #[] } } (.ref s.heap.objs.size) "dict" := ⟨_,Heap.get?_push_size _ rfl,rfl⟩
  have hdne:∀ (c:Addr) (o:HO),H c = some o→upd H s.heap.objs.size (.dK []) c = some o:=fun c o e=>by rw [upd_ne (ne_of_none e hf)]; exact e
  have hl1:upd H s.heap.objs.size (.dK []) l = some (.tup (ps.map fun x:PKW=>V.ref x.p)):=hdne _ _ hl
  obtain ⟨its,rv,⟨ol,hol,hcl,nl,hdat,hdl⟩,_⟩:=I1.tupN hl1
  refine ⟨hT,PySem.F.args_dict_init_2 _ _,?_⟩
  unfold Builtin.«dict.__init__»
  refine wpAny_bind ?_
  unfold Builtin.Dict.selfAndRest
  refine wpAny_bind (wpAny_notOrdered_dict hT ?_)
  show wpAny _ _ (pure (s.heap.objs.size,[Value.ref l])) _ _ _
  refine wpAny_pure ?_
  show wpAny _ _ (Builtin.Dict.updateFrom "dict.__init__" s.heap.objs.size (.ref l) [] .none) _ _ _
  unfold Builtin.Dict.updateFrom
  refine wpAny_bind (wpAny_typeOf (show Shared.TypeIs _ (.ref l) "tuple" from ⟨ol,hol,hcl⟩) ?_)
  rw [if_pos (by decide)]
  refine wpAny_bind (keys_noneT hol hcl hdat hdl (I.ok.hd hcalm) fun h1 tk1 k1=>?_)
  simp only [Option.isNone_none,if_true]
  have I2:Inv X pins σ (upd H s.heap.objs.size (.dK [])) { s with heap:=h1,toks:=tk1 }:=I1.kept (t':=tk1) k1
  obtain ⟨its2,rv2,pl2,_⟩:=I2.tupN hl1
  refine wpAny_bind (wpAny_rule (wpAny_bind (wpAny_pyIter_tuple (s:={ s with heap:=h1,toks:=tk1 }) pl2.tup ?_)))
  refine wpAny_pure ⟨plainId_quiet plain_ul _,codeAny_builtin entry_ul ?_⟩
  rw [Around.under_plainId plain_ul _]
  have I3:Inv X pins σ (upd H s.heap.objs.size (.dK [])) { s with heap:=h1.push { cls:=.type "tuple_iterator",data:=.fields #[.ref l,.int 0 0] },toks:=tk1 }:=I2.kept (t':=tk1) fun b o e=>Heap.get?_push_of_some _ e
  have lts:s.heap.objs.size < h1.objs.size:=Heap.lt_size (k1 _ _ (Heap.get?_push_size _ rfl))
  have hln:h1.objs.size ≠ l:=by
   obtain ⟨ol2,  hol2,_⟩:=pl2
   exact Nat.ne_of_gt (Heap.lt_size hol2)
  have hfr:upd H s.heap.objs.size (.dK []) h1.objs.size = none:=I2.hok.fresh (Nat.le_refl _)
  refine dictK_loopT (X:=X) (pins:=pins) (σ:=σ) (A:=X.A.in1) (it:=h1.objs.size) (l:=l) (d:=s.heap.objs.size) (ps:=ps) (I.ok.hd hcalm) ps.length 0 _ _ [] (by omega) (Nat.zero_le _) I3 (I2.fpOk (Nat.le_refl _) hfr) (Nat.ne_of_gt lts) hln ?_ hl1 (fun x hx=>hdne _ _ (hp x hx)) upd_same (by simp only [List.length_nil]; omega) fun s' I'=>⟨rfl,?_⟩
  ·exact ⟨_,Heap.get?_push_size _ rfl,rfl,rfl⟩
  ·refine ⟨.ref s.heap.objs.size,_,I',rfl,?_⟩
   have e:upd (upd H s.heap.objs.size (.dK [])) s.heap.objs.size (.dK (putAllK [] (ps.drop 0))) = upd H s.heap.objs.size (.dK (putAllK [] ps)):=by
    funext c
    by_cases q:c = s.heap.objs.size <;> simp [upd,q]
   rw [e]
   exact k _ hf
theorem call_dictK {X:Cx} (hu:X.A.units + 2 < cLine) (hcalm:X.calm = true:=by rfl):CallR X (.type "dict") (fun vs H Q=>rDictKL X.K vs H Q ∨ rDictKT X.K vs H Q):=by
 intro pins s σ H vs us Q I r h
 rcases h with h | h
 ·exact call_dictKL hu hcalm pins s σ H vs us Q I r h
 ·exact call_dictKT hu hcalm pins s σ H vs us Q I r h
end L2
namespace DL
open PySem PySem.Spec PyProof.Rows L2
noncomputable def dictKF:List KeyD→List D→List D→Option (List KeyD × List D)
 | ks,vs,[]=>some (ks,vs)
 | ks,vs,.tup [a,b] :: r=>(asKey a).bind fun k=>dictKF (putKs ks k) (putDs ks vs k b) r
 | _,_,_=>none
noncomputable def dictKD:List D→Option D
 | [.lst ds]=>if ds.length ≤ sizeLine then (dictKF [] [] ds).map fun r=>.dct (.inl r.1) r.2 else none
 | [.tup ds]=>if ds.length ≤ sizeLine then (dictKF [] [] ds).map fun r=>.dct (.inl r.1) r.2 else none
 | _=>none
section
variable {K:W.Frag} {H:Hp} {B:BS}
theorem dictKF_cons {ks:List KeyD} {vs:List D} {d:D} {ds:List D} {r:List KeyD × List D} (e:dictKF ks vs (d :: ds) = some r):∃ a b k,d = .tup [a,b]∧asKey a = some k∧dictKF (putKs ks k) (putDs ks vs k b) ds = some r:=by
 cases d with
 | tup l =>
  match l,e with
  | [],e=>simp [dictKF] at e
  | [_],e=>simp [dictKF] at e
  | [a,b],e =>
   unfold dictKF at e
   cases h:asKey a with
   | none=>rw [h] at e; cases e
   | some k=>rw [h] at e; exact ⟨a,b,k,rfl,h,e⟩
  | _ :: _ :: _ :: _,e=>simp [dictKF] at e
 | non=>simp [dictKF] at e
 | bl _=>simp [dictKF] at e
 | int _=>simp [dictKF] at e
 | str _=>simp [dictKF] at e
 | lst _=>simp [dictKF] at e
 | dct _ _=>simp [dictKF] at e
theorem dictKF_rel:∀ {ds:List D} {xs:List V} {ks:List KeyD} {vs:List D} {ws:List V} {r:List KeyD × List D},Rps K H B ds xs→Rps K H B vs ws→ks.length = ws.length→dictKF ks vs ds = some r →
  ∃ ps:List PKW,xs = ps.map (fun x=>V.ref x.p)∧(∀ x ∈ ps,x.ok H)∧∃ ws',putAllK (ks.zip ws) ps = r.1.zip ws'∧r.1.length = ws'.length∧Rps K H B r.2 ws'
 | [],xs,ks,vs,ws,r,h1,h2,hl,e=>by
  unfold dictKF at e
  cases e
  rw [rps_nil] at h1
  exact ⟨[],h1,(fun x hx=>by cases hx),ws,rfl,hl,h2⟩
 | d :: ds,xs,ks,vs,ws,r,h1,h2,hl,e=>by
  rw [rps_cons] at h1
  obtain ⟨x,t,rfl,hx,ht⟩:=h1
  obtain ⟨a,b,k,rfl,e1,e⟩:=dictKF_cons e
  rw [rp_tup] at hx
  obtain ⟨p,ys,rfl,hq,hys⟩:=hx
  rw [rps_cons] at hys
  obtain ⟨y1,t1,rfl,hy1,hys⟩:=hys
  rw [rps_cons] at hys
  obtain ⟨y2,t2,rfl,hy2,hys⟩:=hys
  rw [rps_nil] at hys
  subst hys
  have hk1:=key_v e1 hy1
  subst hk1
  obtain ⟨zs,hz1,hz2,hz3,hz4⟩:=put_zip (q:=k) (v:=y2) hl
  have rr:Rps K H B (putDs ks vs k b) zs:=by
   unfold putDs
   cases hk:hasK ks k with
   | true=>rw [if_pos rfl,hz3 hk]; exact rps_putMap hy2 h2
   | false=>rw [if_neg (by simp),hz4 hk]; exact Rps.snoc h2 hy2
  obtain ⟨ps,q1,q2,ws',q3,q4,q5⟩:=dictKF_rel ht rr hz2 e
  refine ⟨⟨p,k,y2⟩ :: ps,by rw [q1]; rfl,fun x hx=>?_,ws',?_,q4,q5⟩
  ·rcases List.mem_cons.mp hx with rfl | hx
   ·exact hq.2
   ·exact q2 x hx
  ·show putAllK (putK (ks.zip ws) k y2) ps = _
   rw [hz1]
   exact q3
end
section
variable {X:Cx} {e:Expr} {pos p:Pos} {g:Ds→Option D}
theorem pdf_dictK (hu:X.A.units + 2 < cLine) (hcalm:X.calm = true) (hm:X.mg "dict" = none) (hv:bootBuiltins "dict" = some (.type "dict")) (ha:PD X e g) (hg:Gl X "dict" := by rfl)
  (he:starEach [e] X.env = (false,eval e X.env) :: starEach [] X.env:=by rfl) (hpl:(backTo pos (starEach [] X.env)).any (·.1) = false:=by rfl) :
  PDF X (.Call (.Name "dict" p) [e] [] pos) (oA (consA g nilA) dictKD):=.mk fun B δ=>(pe_callTy (call_dictK hu hcalm) hg hm hv (pa_cons (ha B δ) pa_nil he) (by decide) (by decide) he hpl).imp fun σ H Q ⟨d,en,h,k⟩=>by
 unfold oA consA nilA at h
 cases e1:g δ with
 | none=>rw [e1] at h; cases h
 | some x =>
  rw [e1] at h
  simp only [Option.bind_some,Option.map_some] at h
  refine ⟨x,en,e1,fun v H1 s1 r1=>?_⟩
  unfold dictKD at h
  split at h
  ·rename_i ds he1
   injection he1 with he1
   subst he1
   split at h
   ·rename_i hz
    cases e2:dictKF [] [] ds with
    | none=>rw [e2] at h; cases h
    | some r =>
     rw [e2] at h
     cases h
     rw [rp_lst] at r1
     obtain ⟨q,xs,rfl,hq,rr⟩:=r1
     obtain ⟨ps,q1,q2,ws,q3,q4,q5⟩:=dictKF_rel rr (ks:=[]) (vs:=[]) (ws:=[]) (by rw [rps_nil]) rfl e2
     refine .inl ⟨q,ps,rfl,by rw [← q1]; exact hq.to,q2,by have:=rr.length; rw [q1,List.length_map] at this; omega,fun l hl'=>?_⟩
     have q3:putAllK [] ps = r.1.zip ws:=q3
     rw [q3]
     exact k l _ (s1.free hl') (s1.trans (same_upd hl')) ⟨ws,upd_same,q4,q5.mono (Gr.fresh hl')⟩
   ·cases h
  ·rename_i ds he1
   injection he1 with he1
   subst he1
   split at h
   ·rename_i hz
    cases e2:dictKF [] [] ds with
    | none=>rw [e2] at h; cases h
    | some r =>
     rw [e2] at h
     cases h
     rw [rp_tup] at r1
     obtain ⟨q,xs,rfl,hq,rr⟩:=r1
     obtain ⟨ps,q1,q2,ws,q3,q4,q5⟩:=dictKF_rel rr (ks:=[]) (vs:=[]) (ws:=[]) (by rw [rps_nil]) rfl e2
     refine .inr ⟨q,ps,rfl,by rw [← q1]; exact hq.2,q2,by have:=rr.length; rw [q1,List.length_map] at this; omega,fun l hl'=>?_⟩
     have q3:putAllK [] ps = r.1.zip ws:=q3
     rw [q3]
     exact k l _ (s1.free hl') (s1.trans (same_upd hl')) ⟨ws,upd_same,q4,q5.mono (Gr.fresh hl')⟩
   ·cases h
  ·cases h
end
end DL
namespace DL
open PySem
end DL
namespace L2
open PySem PySem.Spec PyProof.Rows PySem.W
section
variable {X:Cx} {pins:List (Addr × Obj)} {σ:List (Option V)} {A:Around} {E:Value→Shared→Prop} {s:Shared} {H:Hp} {d:Addr} {kvs:List (Key × V)} {ys:List Str}
end
end L2
namespace L2
open PySem PySem.Spec PyProof.Rows
end L2
namespace DL
open PySem PySem.Spec PyProof.Rows L2
section
variable {X:Cx} {e:Expr} {pos p:Pos} {g:Ds→Option D}
end
end DL
namespace L2
open PySem PySem.Spec PyProof.Rows
open AutoSeq1 (wpAny_loadPart')
section
variable {prog:Program} {w:World} {A:Around} {E:Value→Shared→Prop} {s:Shared}
end
section
variable {X:Cx} {elts:List Expr} {x1:Nat} {tpos:Pos}
end
end L2
namespace DL
open PySem PySem.Spec PyProof.Rows L2
section
variable {X:Cx} {a:Expr} {gA:Ds→Option (List D)} {elts:List Expr} {x1:Nat} {tpos p pos:Pos}
end
section
variable {X:Cx} {o e f:Expr} {g:GE} {apos cpos:Pos}
end
end DL
namespace L2
open PySem PySem.Spec PyProof.Rows
open AutoSeq1 (wpAny_loadPart')
section
variable {prog:Program} {w:World} {A:Around} {E:Value→Shared→Prop} {s:Shared} {z TI TO i1 i2 l1 l2:Addr} {k1 k2:Nat} {xs ys:Array Value} {x y a b:Value}
end
section
variable {X:Cx} {elts:List Expr} {x1:Nat} {tpos:Pos}
end
end L2
namespace DL
open PySem PySem.Spec PyProof.Rows L2
section
variable {X:Cx} {a b:Expr} {gA:Ds→Option (List D)} {elts:List Expr} {x1:Nat} {tpos p pos:Pos}
end
end DL
namespace L2
open PySem PySem.Spec PyProof.Rows
section
variable {X:Cx}
end
end L2
namespace DL
open PySem PySem.Spec PyProof.Rows L2
section
variable {X:Cx} {K:W.Frag} {a b:Expr} {ga gb:GE} {pos:Pos} {tg:Expr} {x:Str}
end
end DL
namespace L2
open PySem
noncomputable def Lie (ok:Addr→Prop) (h:Heap) (C:Value) (od:Option Addr) (e:Addr):Prop:=∃ oe vs,h.get? e = some oe∧oe.cls = C∧oe.dict = od∧oe.data = .fields vs∧1 < vs.size∧ok e ∧
 (vs[1]? = some .none ∨ ∃ T oT ts,vs[1]? = some (.ref T)∧T ≠ e∧ok T∧h.get? T = some oT∧oT.data = .fields ts∧ts[3]? = some .none)
structure Noted (ok:Addr→Prop) (F:List Addr) (h h':Heap):Prop where
 keep:∀ b o,h.get? b = some o→¬ ok b→b ∉ F→h'.get? b = some o
 slot:∀ b o,h.get? b = some o→¬ ok b→∃ sl,h'.get? b = some { o with slots:=sl }
 there:∀ b o,h.get? b = some o→∃ o',h'.get? b = some o'
section
variable {M:Model} {A:Around} {E:Value→Shared→Prop} {s:Shared}
theorem noteOne {base:Heap} {ok:Addr→Prop} {env:Env} {outer:List Env} {L e:Addr} {oe:Obj} {vs:Array Value} {head:Value} {hadNext:Bool} {Q:Unit→Shared→Prop}
  (hfr:A.frames = some (env :: outer)) (hl:s.heap.FunFrames base (env :: outer)) (hf:env.frame = some L) (he:s.heap.get? e = some oe) (hd:oe.data = .fields vs) (hsz:1 < vs.size) (oke:ok e)
  (new:∀ b,s.heap.objs.size ≤ b→ok b)
  (h:∀ h',Noted ok ((env :: outer).filterMap (·.frame)) s.heap h'→Lie ok h' oe.cls oe.dict e→Q () { s with heap:=h' }) :
  wpAny M A (do let a ← frameOf env; let pl ← entryPlaceOf L hadNext; let b ← EntryCells.newEntry head a .none (rawInt L) .none pl; setField (.ref e) 1 b) (fun _ s'=>wpAny M A (setFlight (.ref e) none) Q E s') E s:=by
 have off:e ∉ (env :: outer).filterMap (·.frame):=fun z=>by
  obtain ⟨_,o,q,n⟩:=hl.mem z
  rw [he] at q
  cases q
  exact n vs hd
 refine wpAny_bind (wpAny_frameOf_fun hfr hl hf fun g sl=>wpAny_bind (wpAny_entryPlaceOf fun pl hp=>?_))
 unfold EntryCells.newEntry newFields
 refine wpAny_bind (wpAny_newObj_type ?_ (hp.sizeOk5 _ _ _ _ _))
 obtain ⟨ar,har⟩:∃ ar,ar = ([head,.ref L,.none,rawInt L,.none] ++ (if pl.isEmpty then List.replicate 6 Value.none else pl)).toArray:=⟨_,rfl⟩
 have sz5:3 < ar.size:=by rw [har]; simp only [List.size_toArray,List.length_append,List.length_cons,List.length_nil]; omega
 rw [← har]
 have ge:g.get? e = some oe:=(sl.2.1 e off).trans he
 have nT:g.objs.size ≠ e:=Nat.ne_of_gt (Heap.lt_size ge)
 have pe:=Heap.get?_push_of_some (h:=g) { cls:=.type "traceback",dict:=none,data:=.fields ar } ge
 refine wpAny_setField pe hd hsz ?_
 have d3:=Obj.data_mapFields hd (·.setIfInBounds 1 (Value.ref g.objs.size))
 have e3:=Heap.get?_update_self (Obj.mapFields (·.setIfInBounds 1 (Value.ref g.objs.size))) pe (Obj.isFreed_of_fields d3)
 have t3:=(Heap.get?_update_other (g.push { cls:=.type "traceback",dict:=none,data:=.fields ar }) (Obj.mapFields (·.setIfInBounds 1 (Value.ref g.objs.size))) (Ne.symm nT)).trans (Heap.get?_push_size g rfl)
 unfold setFlight
 refine wpAny_bind (wpAny_field e3 d3 (x:=.ref g.objs.size) (by simp [hsz]) ?_)
 rw [if_pos (by simp)]
 refine wpAny_setField t3 rfl sz5 (h _ ?_ ?_)
 ·have oth:∀ b o,g.get? b = some o→b ≠ e→(((g.push { cls:=.type "traceback",dict:=none,data:=.fields ar }).update e (Obj.mapFields (·.setIfInBounds 1 (Value.ref g.objs.size)))).update g.objs.size (Obj.mapFields (·.setIfInBounds 3 ((none:Option Addr).elim Value.none fun f=>rawInt f)))).get? b = some o:=fun b o q n=>by
   rw [Heap.get?_update_other _ _ (Nat.ne_of_gt (Heap.lt_size q)),Heap.get?_update_other _ _ (Ne.symm n)]
   exact Heap.get?_push_of_some _ q
  refine ⟨fun b o q n1 n2=>oth b o ((sl.2.1 b n2).trans q) (fun z=>n1 (z ▸ oke)),fun b o q n1=>?_,fun b o q=>?_⟩
  ·obtain ⟨x,hx⟩:=sl.2.2 b o q
   exact ⟨x,oth b _ hx (fun z=>n1 (z ▸ oke))⟩
  ·by_cases z:b = e
   ·subst z
    rw [Heap.get?_update_other _ _ nT]
    exact ⟨_,e3⟩
   ·obtain ⟨x,hx⟩:=sl.2.2 b o q
    exact ⟨_,oth b _ hx z⟩
 ·have fin:(((g.push { cls:=.type "traceback",dict:=none,data:=.fields ar }).update e (Obj.mapFields (·.setIfInBounds 1 (Value.ref g.objs.size)))).update g.objs.size (Obj.mapFields (·.setIfInBounds 3 ((none:Option Addr).elim Value.none fun f=>rawInt f)))).get? e = some (oe.mapFields (·.setIfInBounds 1 (Value.ref g.objs.size))):=by
   rw [Heap.get?_update_other _ _ nT]
   exact e3
  refine ⟨_,_,fin,Obj.cls_mapFields _ _,?_,d3,by simp [hsz],oke,.inr ⟨g.objs.size,_,_,by simp [hsz],nT,new _ (by rw [sl.1]; exact Nat.le_refl _),Heap.get?_update_self _ t3 (Obj.isFreed_of_fields (Obj.data_mapFields rfl _)),Obj.data_mapFields rfl _,?_⟩⟩
  ·obtain ⟨c,d,dt,x⟩:=oe
   cases dt <;> rfl
  ·simp [sz5]
theorem note {base:Heap} {ok:Addr→Prop} {env:Env} {outer:List Env} {L e:Addr} {C:Value} {od:Option Addr} {Q:Unit→Shared→Prop}
  (hfr:A.frames = some (env :: outer)) (hl:s.heap.FunFrames base (env :: outer)) (hf:env.frame = some L) (lie:Lie ok s.heap C od e)
  (new:∀ b,s.heap.objs.size ≤ b→ok b)
  (h:∀ h',Noted ok ((env :: outer).filterMap (·.frame)) s.heap h'→Lie ok h' C od e→Q () { s with heap:=h' }) :
  wpAny M A (noteFrame (.ref e) env) (fun _ s'=>wpAny M A (setFlight (.ref e) none) Q E s') E s:=by
 obtain ⟨oe,vs,he,rfl,rfl,hd,hsz,oke,q⟩:=lie
 unfold noteFrame
 simp only [hf]
 rcases q with q | ⟨T,oT,ts,q,nT,okT,hT,hdT,q3⟩
 ·refine wpAny_bind (wpAny_field he hd q ?_)
  rw [if_neg (by decide)]
  exact noteOne hfr hl hf he hd hsz oke new h
 ·refine wpAny_bind (wpAny_field he hd q ?_)
  rw [if_pos (by simp)]
  refine wpAny_bind (wpAny_field hT hdT q3 ?_)
  rw [if_neg (by simp [rawInt])]
  refine wpAny_bind (wpAny_setField hT hdT (Array.getElem?_eq_some_iff.mp q3).1 ?_)
  have oth:∀ b,b ≠ T→(s.heap.update T (Obj.mapFields (·.setIfInBounds 3 Value.none))).get? b = s.heap.get? b:=fun b n=>Heap.get?_update_other _ _ (Ne.symm n)
  have self:∃ o',(s.heap.update T (Obj.mapFields (·.setIfInBounds 3 Value.none))).get? T = some o':=⟨_,Heap.get?_update_self _ hT (Obj.isFreed_of_fields (Obj.data_mapFields hdT _))⟩
  have nr:∀ b o,s.heap.get? b = some o→(∀ vs,o.data ≠ .fields vs)→b ≠ T:=fun b o h1 h2 z=>by
   rw [z,hT] at h1
   cases h1
   exact h2 ts hdT
  refine noteOne hfr (hl.of_keeps fun b o h1 h2=>⟨o,(oth b (nr b o h1 h2)).trans h1,rfl⟩) hf ((oth e (Ne.symm nT)).trans he) hd hsz oke (fun b hb=>new b (by rw [Heap.size_after_update] at hb; exact hb)) fun h' nd le=>h h' ⟨fun b o h1 n1 n2=>nd.keep b o ((oth b (fun z=>n1 (z ▸ okT))).trans h1) n1 n2,fun b o h1 n1=>nd.slot b o ((oth b (fun z=>n1 (z ▸ okT))).trans h1) n1,fun b o h1=>?_⟩ le
  by_cases z:b = T
  ·obtain ⟨o',ho'⟩:=self
   exact nd.there b o' (by rw [z]; exact ho')
  ·exact nd.there b o ((oth b z).trans h1)
end
end L2
namespace XC
open PySem
noncomputable def stillNames:List Str:=["__class__", "__getattribute__", "__getattr__"]
noncomputable abbrev bmV:List Value:=[.type "ValueError",.type "Exception",.type "BaseException",.type "object"]
inductive Row (h:Heap):List Value→Prop
 | end:Row h bmV
 | own {C:Addr} {cls:Value} {dd:Option Addr} {cd:ClassData} {sl:Array (Option Value)} {m:Str→Option Value} {tl:List Value} :
   h.get? C = some { cls:=cls,dict:=dd,data:=.cls cd,slots:=sl }→h.Ns cd.ns m→(∀ n ∈ stillNames,m n = none)→Row h tl→Row h (.ref C :: tl)
structure Cl (h:Heap) (C:Addr) (tl:List Value):Prop where
 obj:∃ (nm q:Str) (N:Addr) (bs:List Value) (hdct:Bool) (sn:List Str) (sub:List Value) (ab:Bool) (col:Option Bool) (dd:Option Addr) (k0 k1 k2 k3 k5:Option Value) (newId:String),
  h.get? C = some (excClassObj nm q C N bs tl hdct sn sub ab col dd k0 k1 k2 k3 k5 newId)
 row:Row h (.ref C :: tl)
theorem Row.has {h:Heap} {tl:List Value} (r:Row h tl) {T:String} {b:Bool} (hb:bmV.contains (.type T) = b):tl.contains (.type T) = b:=by
 induction r with
 | «end»=>exact hb
 | own _ _ _ _ ih=>rw [List.contains_cons,ih]; rfl
section
variable {prog:Program} {w:World} {A:Around} {E:Value→Shared→Prop} {h:Heap} {g:Array GenState} {d:Drawn} {t:Nat} {os:OsState} {a C:Addr} {o:Obj} {tl:List Value}
theorem Row.along {M:Model} {n:Str} {y:Option Value} {Q:Option Value→Shared→Prop} (hn:n ∈ stillNames) (hy:lookupAlong bmV n = pure y) (hq:Q y ⟨h,g,d,t,os⟩) (r:Row h tl):wpAny M A (lookupAlong tl n) Q E ⟨h,g,d,t,os⟩:=by
 induction r with
 | «end»=>rw [hy]; exact wpAny_pure hq
 | own h1 h2 h3 _ ih =>
  rw [lookupAlong_cons]
  refine wpAny_bind (wpAny_classOwn_cls h1 h2 ?_)
  rw [h3 n hn]
  exact ih
theorem Cl.look {M:Model} {n:Str} {y:Option Value} {Q:Option Value→Shared→Prop} (c:Cl h C tl) (hn:n ∈ stillNames) (hy:typeLookup (.type "ValueError") n = pure y) (hq:Q y ⟨h,g,d,t,os⟩):wpAny M A (typeLookup (.ref C) n) Q E ⟨h,g,d,t,os⟩:=by
 obtain ⟨nm,q,N,bs,hdct,sn,sub,ab,col,dd,k0,k1,k2,k3,k5,newId,hC⟩:=c.obj
 have hy':lookupAlong bmV n = pure y:=by
  rw [typeLookup_eq,F.excBase_ValueError.mroIs] at hy
  exact hy
 rw [typeLookup_eq]
 exact wpAny_bind (wpAny_mroOf_exc hC (c.row.along hn hy' hq))
theorem Cl.sub {M:Model} {v:Value} {Q:Bool→Shared→Prop} (c:Cl h C tl) (hq:Q ((Value.ref C :: tl).contains v) ⟨h,g,d,t,os⟩):wpAny M A (isSubtype (.ref C) v) Q E ⟨h,g,d,t,os⟩:=by
 obtain ⟨nm,q,N,bs,hdct,sn,sub,ab,col,dd,k0,k1,k2,k3,k5,newId,hC⟩:=c.obj
 exact wpAny_isSubtype_exc hC hq
theorem Cl.isT (c:Cl h C tl):(⟨h,g,d,t,os⟩:Shared).TypeIs (.ref C) "type" := by
 obtain ⟨nm,q,N,bs,hdct,sn,sub,ab,col,dd,k0,k1,k2,k3,k5,newId,hC⟩:=c.obj
 exact ⟨_,hC,rfl⟩
theorem Cl.hasT (c:Cl h C tl) {T:String} {b:Bool} (hb:bmV.contains (.type T) = b):(Value.ref C :: tl).contains (.type T) = b:=c.row.has hb
theorem lk_class:typeLookup (.type "ValueError") "__class__" = pure (some (.builtin "object.__class__")):=by rw [typeLookup_type,builtinLookup_eq_fast]; kernel_rfl
theorem n1:("__class__" : Str) ∈ stillNames:=.head _
theorem n2:("__getattribute__" : Str) ∈ stillNames:=.tail _ (.head _)
theorem n3:("__getattr__" : Str) ∈ stillNames:=.tail _ (.tail _ (.head _))
theorem get_class {R:Result→Shared→Prop} (c:Cl h C tl) (hx:h.get? a = some o) (hc:o.cls = .ref C) (hq:R (.ok (.ret (.ref C))) ⟨h,g,d,t,os⟩) :
  codeAny (model prog w) A (.call (.builtin "getset_descriptor.__get__") ⟨[.builtin "object.__class__",.ref a,.ref C],[]⟩) R ⟨h,g,d,t,os⟩:=by
 have ty:(⟨h,g,d,t,os⟩:Shared).TypeIs (.builtin "object.__class__") "getset_descriptor" := F.typeOf_object_class
 have hob:(Value.ref C :: tl).contains (.type (".".intercalate ("object.__class__".cutAt '.').dropLast)) = true:=by rw [F.owner_object_class]; exact c.hasT (by decide +kernel)
 refine codeAny_call_builtin F.slot_gs_get.plain F.entry_gs_get (F.slot_gs_get.check _ _ _ _ _ _ _ _ ty (F.args_gs_get _ _ _) ?_)
 repeat (any_goals (first | with_reducible assumption | (with_reducible refine wpAny_loadPart_at hx ?_; rw [hc]) | (with_reducible refine c.sub ?_; rw [hob]) | wp_step))
 refine ⟨Code.quiet_builtin _ (by decide +kernel),codeAny_builtin F.entry_object_class ?_⟩
 unfold Builtin.«object.__class__»
 repeat (any_goals (first | with_reducible assumption | (with_reducible refine wpAny_loadPart_at hx ?_; rw [hc]) | wp_step))
theorem ent_class {tk:Tok} {Q:Fin→Shared→Prop} (c:Cl h C tl) (hx:h.get? a = some o) (hc:o.cls = .ref C) (hq:Q (.done (.ret (.ref C))) ⟨h,g,d,t,os⟩) :
  wpAny (model prog w) A (Builtin.«object.__getattribute__» ⟨[.ref a,.str "__class__" tk],[]⟩) Q E ⟨h,g,d,t,os⟩:=by
 have ty:(⟨h,g,d,t,os⟩:Shared).TypeIs (.builtin "object.__class__") "getset_descriptor" := F.typeOf_object_class
 have f5:=F.typeOf_object_class
 have f6:=F.slot_gs_get.lookup
 have f7:=F.slot_gs_set.lookup
 repeat (any_goals (first | with_reducible assumption | (with_reducible refine wpAny_loadPart_at hx ?_; rw [hc]) | with_reducible refine c.look n1 lk_class ?_ | wp_step))
 refine get_class c hx hc ?_
 repeat (any_goals (first | with_reducible assumption | wp_step))
theorem chk_class {M:Model} {v:Value} {Q:Unit→Shared→Prop} (c:Cl h C tl) (hx:h.get? a = some o) (hc:o.cls = .ref C) (hq:Q () ⟨h,g,d,t,os⟩):wpAny M A (checkBuiltinCall "BaseException.__getattribute__" ⟨[.ref a,v],[]⟩) Q E ⟨h,g,d,t,os⟩:=by
 have k1:builtinKind "BaseException.__getattribute__" = some .slot:=by decide +kernel
 have k2:splitId "BaseException.__getattribute__" = some ("BaseException", "__getattribute__"):=by decide +kernel
 have k3:(Value.ref C :: tl).contains (.type "BaseException") = true:=c.hasT (by decide +kernel)
 have k4:=F.args_bexc_ga (.ref a) v
 simp only [checkBuiltinCall,k1,k2]
 refine wpAny_bind ?_
 unfold isInstance
 repeat (first | (with_reducible refine wpAny_loadPart_at hx ?_; rw [hc]) | (with_reducible refine c.sub ?_; rw [k3]) | wp_step)
 exact hq
theorem call_class {tk:Tok} {R:Result→Shared→Prop} (c:Cl h C tl) (hx:h.get? a = some o) (hc:o.cls = .ref C) (hq:R (.ok (.ret (.ref C))) ⟨h,g,d,t,os⟩) :
  codeAny (model prog w) A (.call (.builtin "BaseException.__getattribute__") ⟨[.ref a,.str "__class__" tk],[]⟩) R ⟨h,g,d,t,os⟩ :=
 codeAny_call_builtin F.attr_ValueError.ga.plain F.entry_bexc_ga (chk_class c hx hc (ent_class c hx hc hq))
theorem by_class {tk:Tok} {fill expr:Bool} {Q:Value→Shared→Prop} (c:Cl h C tl) (hx:h.get? a = some o) (hc:o.cls = .ref C) (hq:Q (.ref C) ⟨h,g,d,t,os⟩) :
  wpAny (model prog w) A (getAttrBy (.ref a) (.str "__class__" tk) fill expr) Q E ⟨h,g,d,t,os⟩:=by
 have f3:=F.attr_ValueError.ga.bind (.ref a)
 have z0:(expr && onTheHeap (Value.builtin "BaseException.__getattribute__")) = false:=by cases expr <;> rfl
 have z2:(Value.builtin "BaseException.__getattribute__" == Value.builtin "object.__getattribute__") = false:=by decide +kernel
 have z1:(onTheHeap (Value.ref C) && Value.builtin "BaseException.__getattribute__" == Value.builtin "object.__getattribute__") = false:=by rw [z2]; rfl
 repeat (any_goals (first | with_reducible assumption | (with_reducible refine wpAny_loadPart_at hx ?_; rw [hc]) | with_reducible refine c.look n2 F.attr_ValueError.ga.lookup ?_ | with_reducible refine c.look n3 F.attrBase_ValueError.noGetattr ?_ | wp_step))
 refine call_class c hx hc ?_
 repeat (any_goals (first | with_reducible assumption | wp_step))
theorem attr_class {Q:Option Value→Shared→Prop} (c:Cl h C tl) (hx:h.get? a = some o) (hc:o.cls = .ref C) (hq:Q (some (.ref C)) ⟨h,g,d,t + 1,os⟩):wpAny (model prog w) A (getAttr? (.ref a) "__class__") Q E ⟨h,g,d,t,os⟩:=by
 unfold getAttr? getAttrBy?
 repeat (any_goals (first | with_reducible assumption | with_reducible apply by_class c hx hc | wp_step))
end
section
variable {prog:Program} {w:World} {A:Around} {E:Value→Shared→Prop} {h:Heap} {g:Array GenState} {d:Drawn} {t:Nat} {os:OsState} {a C W:Addr} {o:Obj} {tl tw:List Value}
theorem self_has:(Value.ref C :: tl).contains (.ref C) = true:=by simp
theorem nest_own {dep:Int} {tk:Tok} {Q:Fin→Shared→Prop} (c:Cl h C tl) (cw:Cl h W tw) (hx:h.get? a = some o) (hc:o.cls = .ref C)
  (hq:∀ t',Q (.done (.ret (.bool ((Value.ref C :: tl).contains (.ref W))))) ⟨h,g,d,t',os⟩) :
  wpAny (model prog w) A (Builtin.«isinstance.nested» ⟨[.ref a,.ref W,.int dep tk],[]⟩) Q E ⟨h,g,d,t,os⟩:=by
 obtain ⟨nmW,qW,NW,bsW,hdctW,snW,subW,abW,colW,ddW,k0W,k1W,k2W,k3W,k5W,newIdW,hWo⟩:=cw.obj
 obtain ⟨nmC,qC,NC,bsC,hdctC,snC,subC,abC,colC,ddC,k0C,k1C,k2C,k3C,k5C,newIdC,hCo⟩:=c.obj
 have hW:=cw.isT (g:=g) (d:=d) (t:=t) (os:=os)
 have hW1:=cw.isT (g:=g) (d:=d) (t:=t + 1) (os:=os)
 have hC1:=c.isT (g:=g) (d:=d) (t:=t + 1) (os:=os)
 by_cases e:C = W
 ·subst e
  rw [self_has] at hq
  have z:=hq t
  have s1:(Value.ref C == Value.ref C) = true:=by simp
  repeat (any_goals (first | with_reducible assumption | (with_reducible refine wpAny_loadPart_at hx ?_; rw [hc]) | wp_step))
 ·have s1:(Value.ref C == Value.ref W) = false:=by simp [e]
  cases hb:(Value.ref C :: tl).contains (.ref W) with
  | true =>
   rw [hb] at hq
   have z:=hq t
   repeat (any_goals (first | with_reducible assumption | (with_reducible refine wpAny_loadPart_at hx ?_; rw [hc]) | with_reducible refine wpAny_loadPart_at hWo ?_ | with_reducible refine wpAny_loadPart_at hCo ?_ | (with_reducible refine c.sub ?_; rw [hb]) | wp_step))
  | false =>
   rw [hb] at hq
   have z:=hq (t + 1)
   repeat (any_goals (first | with_reducible assumption | (with_reducible refine wpAny_loadPart_at hx ?_; rw [hc]) | with_reducible refine wpAny_loadPart_at hWo ?_ | with_reducible refine wpAny_loadPart_at hCo ?_ | (with_reducible refine c.sub ?_; rw [hb]) | with_reducible apply attr_class c hx hc | wp_step))
theorem nest_type {T:String} {b:Bool} {dep:Int} {tk:Tok} {Q:Fin→Shared→Prop} (c:Cl h C tl) (hx:h.get? a = some o) (hc:o.cls = .ref C) (hty:typeOf (.type T) = pure (.type "type")) (hT:bmV.contains (.type T) = b)
  (hq:∀ t',Q (.done (.ret (.bool b))) ⟨h,g,d,t',os⟩) :
  wpAny (model prog w) A (Builtin.«isinstance.nested» ⟨[.ref a,.type T,.int dep tk],[]⟩) Q E ⟨h,g,d,t,os⟩:=by
 obtain ⟨nmC,qC,NC,bsC,hdctC,snC,subC,abC,colC,ddC,k0C,k1C,k2C,k3C,k5C,newIdC,hCo⟩:=c.obj
 have hC1:=c.isT (g:=g) (d:=d) (t:=t + 1) (os:=os)
 have s1:(Value.ref C == Value.type T) = false:=by simp
 have hb:=c.hasT hT
 cases b with
 | true =>
  have z:=hq t
  repeat (any_goals (first | with_reducible assumption | (with_reducible refine wpAny_loadPart_at hx ?_; rw [hc]) | with_reducible refine wpAny_loadPart_at hCo ?_ | (with_reducible refine c.sub ?_; rw [hb]) | wp_step))
 | false =>
  have z:=hq (t + 1)
  repeat (any_goals (first | with_reducible assumption | (with_reducible refine wpAny_loadPart_at hx ?_; rw [hc]) | with_reducible refine wpAny_loadPart_at hCo ?_ | (with_reducible refine c.sub ?_; rw [hb]) | with_reducible apply attr_class c hx hc | wp_step))
end
section
variable {prog:Program} {w:World} {A:Around} {E:Value→Shared→Prop} {s:Shared} {a C W:Addr} {o:Obj} {tl tw:List Value}
theorem isi_own {Q:Value→Shared→Prop} (c:Cl s.heap C tl) (cw:Cl s.heap W tw) (hx:s.heap.get? a = some o) (hc:o.cls = .ref C)
  (hq:∀ t',Q (.bool ((Value.ref C :: tl).contains (.ref W))) { s with toks:=t' }):wpAny (model prog w) A (call (.builtin "isinstance") [.ref a,.ref W]) Q E s:=by
 refine call_isinstance (S:=fun _ R s'=>s' = s∧∀ t',R (.ok (.ret (.bool ((Value.ref C :: tl).contains (.ref W))))) { s with toks:=t' }) (fun P' w' A' R s' hs=>?_) ⟨rfl,hq⟩
 obtain ⟨rfl,hr⟩:=hs
 obtain ⟨h,g,d,t,os⟩:=s'
 exact isinstance_outer (nest_own c cw hx hc fun t'=>hr t') (by intro e; cases e)
theorem isi_type {T:String} {b:Bool} {Q:Value→Shared→Prop} (c:Cl s.heap C tl) (hx:s.heap.get? a = some o) (hc:o.cls = .ref C) (hty:typeOf (.type T) = pure (.type "type")) (hT:bmV.contains (.type T) = b)
  (hq:∀ t',Q (.bool b) { s with toks:=t' }):wpAny (model prog w) A (call (.builtin "isinstance") [.ref a,.type T]) Q E s:=by
 refine call_isinstance (S:=fun _ R s'=>s' = s∧∀ t',R (.ok (.ret (.bool b))) { s with toks:=t' }) (fun P' w' A' R s' hs=>?_) ⟨rfl,hq⟩
 obtain ⟨rfl,hr⟩:=hs
 obtain ⟨h,g,d,t,os⟩:=s'
 exact isinstance_outer (nest_type c hx hc hty hT fun t'=>hr t') (by intro e; cases e)
noncomputable def OwnsAll (h:Heap):List Addr→Prop
 | []=>True
 | W :: Ws=>(∃ tw,Cl h W tw)∧OwnsAll h Ws
theorem ans_own {h:Heap} (c:Cl h C tl) (hx:h.get? a = some o) (hc:o.cls = .ref C):∀ Ws:List Addr,OwnsAll h Ws →
  AnswersAll (fun s=>s.heap = h) (.ref a) (Ws.map Value.ref) (Ws.map fun W=>(Value.ref C :: tl).contains (.ref W))
 | [],_=>trivial
 | W :: Ws,⟨⟨tw,cw⟩,r⟩=>by
  refine ⟨fun dep tk P' w' A' R s' hs=>?_,ans_own c hx hc Ws r⟩
  obtain ⟨rfl,hr⟩:=hs
  obtain ⟨h,g,d,t,os⟩:=s'
  exact nest_own c cw hx hc fun t'=>hr t'
theorem any_map (f:Addr→Bool):∀ Ws:List Addr,((Ws.map f).any id) = Ws.any f
 | []=>rfl
 | W :: Ws=>by simp [any_map f Ws]
theorem isi_tup {Ws:List Addr} {tp:Addr} {Q:Value→Shared→Prop} (c:Cl s.heap C tl) (hw:OwnsAll s.heap Ws) (hx:s.heap.get? a = some o) (hc:o.cls = .ref C)
  (htp:PyProof.Rows.IsTup s.heap tp (Ws.map Value.ref).toArray)
  (hq:∀ t',Q (.bool (Ws.any fun W=>(Value.ref C :: tl).contains (.ref W))) { s with toks:=t' }):wpAny (model prog w) A (call (.builtin "isinstance") [.ref a,.ref tp]) Q E s:=by
 refine call_isinstance (S:=fun _ R s'=>s' = s∧∀ t',R (.ok (.ret (.bool (Ws.any fun W=>(Value.ref C :: tl).contains (.ref W))))) { s with toks:=t' }) (fun P' w' A' R s' hs=>?_) ⟨rfl,hq⟩
 obtain ⟨rfl,hr⟩:=hs
 refine isinstance_outer ?_ (by intro e; cases e)
 obtain ⟨nm,q,N,bs,hdct,sn,sub,ab,col,dd,k0,k1,k2,k3,k5,newId,hCo⟩:=c.obj
 have al:=ans_own c hx hc Ws hw
 rw [← any_map] at hr
 generalize (Ws.map fun W=>(Value.ref C :: tl).contains (.ref W)) = vs at al hr
 obtain ⟨h,g,d,t,os⟩:=s'
 obtain ⟨⟨tcl,tdc,tda,tsl⟩,ht,h2,tn,h3⟩:=htp
 obtain rfl:tcl = .type "tuple" := h2
 obtain rfl:tda = .seq (Ws.map Value.ref).toArray tn:=h3
 have hT2:(⟨h,g,d,t,os⟩:Shared).TypeIs (.ref tp) "tuple" := ⟨_,ht,rfl⟩
 have f1:=F.isi_sub_tuple
 have s1:(Value.ref C == Value.ref tp) = false:=by
  have:C ≠ tp:=fun e=>by
   subst e
   rw [hCo] at ht
   exact absurd (congrArg Obj.cls (Option.some.inj ht)) (by simp)
  simp [this]
 repeat (any_goals (first | with_reducible assumption | (with_reducible refine wpAny_loadPart_at hx ?_; rw [hc]) | wp_step))
 refine wpAny_arrayLoop ?_
 simp only [Option.getD_some,List.toList_toArray]
 refine isinstance_items (P:=fun s=>s.heap = h) (dep:=0) (fun s tk e=>e) (Ws.map Value.ref) vs _ _ al rfl fun t'=>?_
 have z:=hr t'
 cases hv:vs.any id with
 | true =>
  rw [hv] at z
  simp only [if_true]
  repeat (any_goals (first | with_reducible assumption | wp_step))
 | false =>
  rw [hv] at z
  simp only [Bool.false_eq_true,if_false]
  repeat (any_goals (first | with_reducible assumption | wp_step))
theorem matches_own {h:Heap} {g:Array GenState} {d:Drawn} {t:Nat} {os:OsState} {M:Model} {Q:Bool→Shared→Prop} (c:Cl h C tl) (cw:Cl h W tw) (hx:h.get? a = some o) (hc:o.cls = .ref C)
  (hq:Q ((Value.ref C :: tl).contains (.ref W)) ⟨h,g,d,t,os⟩):wpAny M A (excMatches (.ref a) (.ref W)) Q E ⟨h,g,d,t,os⟩:=by
 obtain ⟨nmW,qW,NW,bsW,hdctW,snW,subW,abW,colW,ddW,k0W,k1W,k2W,k3W,k5W,newIdW,hWo⟩:=cw.obj
 have hB:(Value.ref W :: tw).contains (.type "BaseException") = true:=cw.hasT (by decide +kernel)
 have f:=tc_notTuple
 unfold excMatches
 repeat (first | (with_reducible refine wpAny_loadPart_at hx ?_; rw [hc]) | with_reducible refine wpAny_loadPart_at hWo ?_ | (with_reducible refine cw.sub ?_; rw [hB]) | with_reducible refine c.sub ?_ | wp_step)
 cases hb:(Value.ref C :: tl).contains (.ref W) <;> (rw [hb] at hq; wp_walk; exact hq)
end
end XC
namespace XC
open PySem PySem.W
noncomputable def rowB (K:Frag):List Value→Bool
 | []=>false
 | v :: r=>(v :: r) == bmV || match v with
  | .ref A=>(match K.lookup A with
   | some ⟨_,_,.cls cd,_⟩=>nsOkIn K cd.ns && stillNames.all (fun n=>nsIn K cd.ns n == some none) && rowB K r
   | _=>false)
  | _=>false
theorem row_of {K:Frag} {h:Heap} (X:K.In h):∀ {l:List Value},rowB K l = true→Row h l
 | [],e=>by cases e
 | v :: r,e=>by
  unfold rowB at e
  rcases Bool.or_eq_true_iff.mp e with q | q
  ·rw [beq_iff_eq.mp q]
   exact .end
  ·split at q
   ·split at q
    ·rename_i ho
     simp only [Bool.and_eq_true,List.all_eq_true,beq_iff_eq] at q
     exact .own (X _ _ ho) (.of_isNs (isNs_of_in X q.1.1)) (fun n hn=>nsMap_none_of_in X q.1.1 (q.1.2 n hn)) (row_of X q.2)
    ·cases q
   ·cases q
noncomputable def clB (K:Frag) (C:Addr) (tl:List Value):Bool:=match K.lookup C with
 | some ⟨.type "type",_,.cls cd,sl⟩=>(match sl.toList with
  | [_,_,_,_,some (.builtin _),_]=>cd.mro == .ref C :: tl && !cd.hasDel && rowB K (.ref C :: tl)
  | _=>false)
 | _=>false
theorem cl_of {K:Frag} {h:Heap} {C:Addr} {tl:List Value} (X:K.In h) (e:clB K C tl = true):Cl h C tl:=by
 unfold clB at e
 split at e
 ·rename_i dd cd sl ho
  split at e
  ·rename_i k0 k1 k2 k3 n k5 hs
   simp only [Bool.and_eq_true,beq_iff_eq,Bool.not_eq_true'] at e
   obtain ⟨⟨hm,hdel⟩,hr⟩:=e
   obtain ⟨nm,bs,mro,ns,qn,hd,sn,sub,ab,col,del⟩:=cd
   dsimp only at hm hdel
   subst hm hdel
   have hsl:sl = #[k0,k1,k2,k3,some (.builtin n),k5]:=by
    obtain ⟨l⟩:=sl
    simp only at hs
    rw [hs]
   subst hsl
   exact ⟨⟨nm,qn,ns,bs,hd,sn,sub,ab,col,dd,k0,k1,k2,k3,k5,_,X _ _ ho⟩,row_of X hr⟩
  ·cases e
 ·cases e
structure Rs (h:Heap) (C:Addr) (tl:List Value):Prop where
 obj:∃ (nm q:Str) (N:Addr) (bs:List Value) (hdct:Bool) (sn:List Str) (sub:List Value) (ab:Bool) (col:Option Bool) (dd:Option Addr) (k0 k1 k2 k3 k5:Option Value) (mN:Str→Option Value),
  h.get? C = some (excClassObj nm q C N bs tl hdct sn sub ab col dd k0 k1 k2 k3 k5 "ValueError.__new__")∧h.Ns N mN∧mN "__init__" = none∧OwnTail h bmV tl
noncomputable def rsB (K:Frag) (C:Addr) (tl:List Value):Bool:=match K.lookup C with
 | some ⟨.type "type",_,.cls cd,sl⟩=>(match sl.toList with
  | [_,_,_,_,some (.builtin n),_]=>cd.mro == .ref C :: tl && n == "ValueError.__new__" && !cd.hasDel && tailIn K bmV tl && nsOkIn K cd.ns && nsIn K cd.ns "__init__" == some none
  | _=>false)
 | _=>false
theorem rs_of {K:Frag} {h:Heap} {C:Addr} {tl:List Value} (X:K.In h) (e:rsB K C tl = true):Rs h C tl:=by
 unfold rsB at e
 split at e
 ·rename_i dd cd sl ho
  split at e
  ·rename_i k0 k1 k2 k3 n k5 hs
   simp only [Bool.and_eq_true,beq_iff_eq,Bool.not_eq_true'] at e
   obtain ⟨⟨⟨⟨⟨hm,rfl⟩,hdel⟩,ht⟩,hok⟩,hni⟩:=e
   obtain ⟨nm,bs,mro,ns,qn,hd,sn,sub,ab,col,del⟩:=cd
   dsimp only at hm hdel hok hni
   subst hm hdel
   have hsl:sl = #[k0,k1,k2,k3,some (.builtin "ValueError.__new__"),k5]:=by
    obtain ⟨l⟩:=sl
    simp only at hs
    rw [hs]
   subst hsl
   exact ⟨⟨nm,qn,ns,bs,hd,sn,sub,ab,col,dd,k0,k1,k2,k3,k5,_,X _ _ ho,.of_isNs (isNs_of_in X hok),nsMap_none_of_in X hok hni,tail_of_in X ht⟩⟩
  ·cases e
 ·cases e
noncomputable def oneB (K:Frag) (r:Addr) (c:Str):Bool:=match nsIn K mainGlobals c with
 | some (some (.ref C))=>clB K C (.ref r :: bmV)
 | _=>false
noncomputable def raiB (K:Frag) (r:Addr) (c:Str):Bool:=match nsIn K mainGlobals c with
 | some (some (.ref C))=>rsB K C (.ref r :: bmV)
 | _=>false
noncomputable def tabB (K:Frag) (root:Str) (cs rs:List Str):Bool:=match nsIn K mainGlobals root with
 | some (some (.ref r))=>clB K r bmV && cs.all (oneB K r) && rs.all (raiB K r) && (root :: cs).all fun c=>(root :: cs).all fun c'=>c == c' || !(nsIn K mainGlobals c == nsIn K mainGlobals c')
 | _=>false
structure At (K:Frag) (mg:Str→Option Value) (c:Str) (C:Addr) (tl:List Value):Prop where
 mg:mg c = some (.ref C)
 ns:nsIn K mainGlobals c = some (some (.ref C))
 cl:∀ h:Heap,K.In h→Cl h C tl
structure Tab (K:Frag) (mg:Str→Option Value) (root:Str) (r:Addr) (cs rs:List Str):Prop where
 top:At K mg root r bmV
 all:∀ c ∈ cs,∃ C,At K mg c C (.ref r :: bmV)
 rai:∀ c ∈ rs,∃ C,nsIn K mainGlobals c = some (some (.ref C))∧∀ h:Heap,K.In h→Rs h C (.ref r :: bmV)
 diff:∀ c ∈ root :: cs,∀ c' ∈ root :: cs,nsIn K mainGlobals c = nsIn K mainGlobals c'→c = c'
theorem tab_of {K:Frag} {h:Heap} {mg:Str→Option Value} {root:Str} {cs rs:List Str} (X:K.In h) (G:h.Ns mainGlobals mg) (e:tabB K root cs rs = true):∃ r,Tab K mg root r cs rs:=by
 unfold tabB at e
 split at e
 ·rename_i r hr
  simp only [Bool.and_eq_true,List.all_eq_true] at e
  obtain ⟨⟨⟨h1,h2⟩,h3⟩,h4⟩:=e
  refine ⟨r,⟨⟨mg_of X G hr,hr,fun h X=>cl_of X h1⟩,fun c hc=>?_,fun c hc=>?_,fun c hc c' hc' q=>?_⟩⟩
  ·have q:=h2 c hc
   unfold oneB at q
   split at q
   ·rename_i C hC
    exact ⟨C,mg_of X G hC,hC,fun h X=>cl_of X q⟩
   ·cases q
  ·have q:=h3 c hc
   unfold raiB at q
   split at q
   ·rename_i C hC
    exact ⟨C,hC,fun h X=>rs_of X q⟩
   ·cases q
  ·have z:=h4 c hc c' hc'
   rw [q] at z
   simp only [beq_self_eq_true,Bool.not_true,Bool.or_false,beq_iff_eq] at z
   exact z
 ·cases e
end XC
namespace L2
open PySem PySem.Spec PyProof.Rows
theorem Lie.mono {ok ok':Addr→Prop} {h:Heap} {C:Value} {od:Option Addr} {e:Addr} (q:∀ b,ok b→ok' b) (l:Lie ok h C od e):Lie ok' h C od e:=by
 obtain ⟨oe,vs,h1,h2,h3,h4,h5,h6,h7⟩:=l
 refine ⟨oe,vs,h1,h2,h3,h4,h5,q _ h6,h7.imp id ?_⟩
 rintro ⟨T,oT,ts,t1,t2,t3,t4⟩
 exact ⟨T,oT,ts,t1,t2,q _ t3,t4⟩
noncomputable def FpW (X:Cx) (pins:List (Addr × Obj)) (H:Hp) (b:Addr):Prop :=
 H b = none∧b ≠ X.env.locals∧b ∉ X.fs∧(b ∈ X.ex ∨ X.s₀.heap.get? b = none)∧(∀ x c,X.env.cells.lookup x = some c→c ≠ b)∧∀ p ∈ X.pn ++ pins,p.1 ≠ b
noncomputable abbrev LieX (X:Cx) (pins:List (Addr × Obj)) (H:Hp) (h:Heap) (C:Addr) (od:Option Addr) (e:Addr):Prop:=Lie (FpW X pins H) h (.ref C) od e
section
variable {M:Model} {A:Around} {E:Value→Shared→Prop} {s:Shared}
theorem flight {ok:Addr→Prop} {C:Value} {od:Option Addr} {e:Addr} {Q:Unit→Shared→Prop} (lie:Lie ok s.heap C od e)
  (h:∀ h',Noted ok [] s.heap h'→Lie ok h' C od e→Q () { s with heap:=h' }):wpAny M A (setFlight (.ref e) none) Q E s:=by
 obtain ⟨oe,vs,he,rfl,rfl,hd,hsz,oke,q⟩:=id lie
 rcases q with q | ⟨T,oT,ts,q,nT,okT,hT,hdT,q3⟩
 ·unfold setFlight
  refine wpAny_bind (wpAny_field he hd q ?_)
  rw [if_neg (by decide)]
  exact wpAny_pure (h _ ⟨fun b o z _ _=>z,fun b o z _=>⟨o.slots,z⟩,fun b o z=>⟨o,z⟩⟩ lie)
 ·have s3:3 < ts.size:=(Array.getElem?_eq_some_iff.mp q3).1
  refine wpAny_setFlight_none he hd q hT hdT s3 (h _ ?_ ?_)
  ·have oth:∀ b o,s.heap.get? b = some o→b ≠ T→(s.heap.update T (Obj.mapFields (·.setIfInBounds 3 .none))).get? b = some o:=fun b o z n=>(Heap.get?_update_other _ _ (Ne.symm n)).trans z
   refine ⟨fun b o z n _=>oth b o z fun w=>n (w ▸ okT),fun b o z n=>⟨o.slots,oth b o z fun w=>n (w ▸ okT)⟩,fun b o z=>?_⟩
   by_cases w:b = T
   ·subst w
    exact ⟨_,Heap.get?_update_self _ hT (Obj.isFreed_of_fields (Obj.data_mapFields hdT _))⟩
   ·exact ⟨o,oth b o z w⟩
  ·refine ⟨oe,vs,(Heap.get?_update_other _ _ nT).trans he,rfl,rfl,hd,hsz,oke,.inr ⟨T,_,_,q,nT,okT,Heap.get?_update_self _ hT (Obj.isFreed_of_fields (Obj.data_mapFields hdT _)),Obj.data_mapFields hdT _,by simp [s3]⟩⟩
end
section
variable {X:Cx} {pins:List (Addr × Obj)} {σ:St} {H:Hp} {s:Shared}
theorem Inv.fpW {b:Addr} {H':Hp} (I:Inv X pins σ H s) (hb:s.heap.get? b = none) (hn:H' b = none):FpW X pins H' b:=by
 refine ⟨hn,fun z=>?_,fun z=>?_,?_,fun x c e z=>?_,fun p hp z=>?_⟩
 ·obtain ⟨m,⟨o,_,_,ho,_⟩,_⟩:=I.loc
  rw [← z,hb] at ho
  cases ho
 ·obtain ⟨_,o,ho,_⟩:=I.funs.mem z
  rw [hb] at ho
  cases ho
 ·by_cases q:b ∈ X.ex
  ·exact .inl q
  ·refine .inr ?_
   cases e:X.s₀.heap.get? b with
   | none=>rfl
   | some o =>
    obtain ⟨o',h'⟩:=I.base.there b o e q
    rw [hb] at h'
    cases h'
 ·obtain ⟨v,o,q,_⟩:=I.cell x c e
  rw [z,hb] at q
  cases q
 ·have q:=(I.pin p hp).1
  rw [z,hb] at q
  cases q
theorem Inv.dead {b:Addr} (I:Inv X pins σ H s) (hb:s.heap.get? b = none):H b = none:=by
 cases e:H b with
 | none=>rfl
 | some o =>
  have:∃ u,s.heap.get? b = some u:=by
   have z:=I.hok b o e
   clear e
   induction o with
   | lst xs=>obtain ⟨_,_,_,_,q⟩:=z; exact ⟨_,q⟩
   | tup xs=>obtain ⟨_,_,_,_,q,_⟩:=z; exact ⟨_,q⟩
   | dK kvs=>obtain ⟨_,_,_,_,_,_,_,q,_⟩:=z; exact ⟨_,q⟩
   | dT kvs=>obtain ⟨_,_,_,_,_,_,_,q,_⟩:=z; exact ⟨_,q⟩
   | set S n=>obtain ⟨_,_,_,_,q,_⟩:=z; exact ⟨_,q⟩
   | ins C dx fs=>obtain ⟨_,_,_,q,_⟩:=z; exact ⟨_,q⟩
   | own y=>exact z
   | xd fs=>obtain ⟨_,⟨_,_,_,q,_⟩,_⟩:=z; exact ⟨_,q⟩
   | rng lo hi=>obtain ⟨_,_,_,q⟩:=z; exact ⟨_,q⟩
   | frz ob u ih=>exact ⟨_,z.1⟩
   | tbl ps=>exact ⟨_,z⟩
   | met f y=>exact ⟨_,z⟩
   | ext φ=>exact z.2.1
  obtain ⟨u,q⟩:=this
  rw [hb] at q
  cases q
theorem Inv.afterNote {h':Heap} {F:List Addr} (I:Inv X pins σ H s) (hF:∀ b ∈ F,b ∈ frs X.stack) (nd:Noted (FpW X pins H) F s.heap h'):Inv X pins σ H { s with heap:=h' }:=by
 have nt:∀ b u,H b = some u→¬ FpW X pins H b:=fun b u q z=>by
  rw [z.1] at q
  cases q
 have hok:HOk X.prog X.w H h':=fun a o q=>(I.hok a o q).stay (fun b u hb e=>by
  have tr:∃ v,H b = some v:=by
   rcases hb with rfl | hb
   ·exact ⟨_,q⟩
   ·exact ⟨_,hb⟩
  obtain ⟨v,tr⟩:=tr
  exact nd.keep b u e (nt b v tr) fun z=>by
   rw [I.stkFree b (hF b z)] at tr
   cases tr) (fun _ q=>q) fun _ _ q=>q
 have nF:∀ b,b ≠ X.env.locals→b ∉ X.fs→b ∉ F:=fun b n1 n2 z=>(List.mem_cons.mp (I.stkSub b (hF b z))).elim n1 n2
 have up:∀ b o,X.s₀.heap.get? b = some o→b ≠ X.env.locals:=fun b o e=>Nat.ne_of_lt (Nat.lt_of_lt_of_le (Heap.lt_size e) I.ok.above)
 have old:∀ b o,X.s₀.heap.get? b = some o→b ∉ X.ex→¬ FpW X pins H b:=fun b o e hx z=>by
  rcases z.2.2.2.1 with q | q
  ·exact hx q
  ·rw [e] at q
   cases q
 have cel:∀ x c,X.env.cells.lookup x = some c→∀ v,s.heap.IsCell c v→h'.IsCell c v:=fun x c e v ⟨o,ho,hd⟩=>by
  obtain ⟨sl,q⟩:=nd.slot c o ho fun z=>z.2.2.2.2.1 x c e rfl
  exact ⟨_,q,hd⟩
 refine ⟨I.ok,I.os,I.bare,⟨fun b o e n hb hx=>nd.keep b o (I.base.keep b o e n hb hx) (old b o e hx) (nF b (up b o e) hb),fun b o e n hb hx=>?_,I.base.free,fun b o e hx=>?_,I.base.tups,I.base.frzs,I.base.tbls⟩,?_,fun x c e=>?_,I.free,I.freeC,fun p hp=>?_,hok,I.len⟩
 ·obtain ⟨sl,e1⟩:=I.base.slot b o e n hb hx
  obtain ⟨sl',e2⟩:=nd.slot b _ e1 (old b o e hx)
  exact ⟨sl',e2⟩
 ·obtain ⟨o',e1⟩:=I.base.there b o e hx
  exact nd.there b o' e1
 ·obtain ⟨m,⟨o,es,ep,ho,r⟩,hl⟩:=I.loc
  obtain ⟨sl,hL⟩:=nd.slot _ o ho fun z=>z.2.1 rfl
  refine ⟨m,⟨_,es,ep,hL,r⟩,fun i x v e1 e2 e3=>?_⟩
  obtain ⟨u,r,l⟩:=hl i x v e1 e2 e3
  refine ⟨u,r,?_⟩
  rcases l with l | ⟨k,c,e,z⟩
  ·exact .inl l
  ·exact .inr ⟨k,c,e,cel x c e _ z⟩
 ·obtain ⟨v,z⟩:=I.cell x c e
  exact ⟨v,cel x c e v z⟩
 ·obtain ⟨e,n,ne,nf,d⟩:=I.pin p hp
  exact ⟨nd.keep p.1 p.2 e (fun z=>z.2.2.2.2.2 p hp rfl) (nF p.1 ne nf),n,ne,nf,d⟩
theorem Inv.frame (I:Inv X pins σ H s) (st:X.stack = X.env :: X.outer):X.env.frame = some X.env.locals:=by
 rcases I.ok.stk with q | q
 ·rw [st] at q
  exact absurd (congrArg List.length q) (by simp)
 ·exact q.2
theorem Inv.noted {M:Model} {E:Value→Shared→Prop} {C e:Addr} {od:Option Addr} {Q:Unit→Shared→Prop} (I:Inv X pins σ H s) (st:X.stack = X.env :: X.outer) (lie:LieX X pins H s.heap C od e)
  (h:∀ h',Inv X pins σ H { s with heap:=h' }→LieX X pins H h' C od e→Q () { s with heap:=h' }) :
  wpAny M X.A (noteFrame (.ref e) X.env) (fun _ s1=>wpAny M X.A (setFlight (.ref e) none) Q E s1) E s:=by
 refine note (base:=X.base) (outer:=X.outer) (by rw [I.ok.frames,st]) (st ▸ I.stack) (I.frame st) lie (fun b hb=>I.fpW (Heap.get?_none_of_le hb) (I.hok.fresh hb)) fun h' nd le=>h h' (I.afterNote (fun b hb=>?_) nd) le
 rw [st]
 exact hb
theorem Inv.flown {M:Model} {A:Around} {E:Value→Shared→Prop} {C e:Addr} {od:Option Addr} {Q:Unit→Shared→Prop} (I:Inv X pins σ H s) (lie:LieX X pins H s.heap C od e)
  (h:∀ h',Inv X pins σ H { s with heap:=h' }→LieX X pins H h' C od e→Q () { s with heap:=h' }):wpAny M A (setFlight (.ref e) none) Q E s :=
 flight lie fun h' nd le=>h h' (I.afterNote (fun b hb=>by cases hb) nd) le
theorem Inv.track {a:Addr} {φ:Heap→Prop} (I:Inv X pins σ H s) (fp:FpW X pins H a) (hφ:φ s.heap) (ho:∃ o,s.heap.get? a = some o) (st:∀ h1 h2:Heap,φ h1→(∀ o,h1.get? a = some o→h2.get? a = some o)→φ h2) :
  Inv X pins σ (upd H a (.ext φ)) s:=by
 obtain ⟨z1,z2,z3,z4,z5,z6⟩:=fp
 have oth:∀ b u,H b = some u→upd H a (.ext φ) b = some u:=fun b u q=>by rw [upd_ne (ne_of_none q z1)]; exact q
 refine ⟨I.ok,I.os,I.bare,⟨I.base.keep,I.base.slot,fun b o e n hx=>?_,I.base.there,fun b xs e=>oth b _ (I.base.tups b xs e),fun b o u e=>oth b _ (I.base.frzs b o u e),fun b ps e=>?_⟩,I.loc,I.cell,?_,fun x c e=>?_,fun p hp=>?_,fun b u q=>?_,I.len⟩
 ·have:b ≠ a:=fun w=>by
   subst w
   rcases z4 with z4 | z4
   ·exact hx z4
   ·rw [e] at z4
    cases z4
  rw [upd_ne this]
  exact I.base.free b o e n hx
 ·obtain ⟨more,q⟩:=I.base.tbls b ps e
  exact ⟨more,oth b _ q⟩
 ·rw [upd_ne (Ne.symm z2)]; exact I.free
 ·rw [upd_ne (z5 x c e)]; exact I.freeC x c e
 ·obtain ⟨e,n,r⟩:=I.pin p hp
  exact ⟨e,by rw [upd_ne (z6 p hp)]; exact n,r⟩
 ·by_cases w:b = a
  ·subst w
   rw [upd_same] at q
   cases q
   exact ⟨hφ,ho,st⟩
  ·rw [upd_ne w] at q
   exact (I.hok b u q).stay (fun _ _ _ z=>z) (fun c z=>oth c _ z) fun c xs z=>oth c _ z
theorem Inv.goes {M:Model} {A:Around} {E:Value→Shared→Prop} {i:Nat} {x:Str} {pos:Pos} {Q:Unit→Shared→Prop} (I:Inv X pins σ H s) (hN:X.N.Nodup) (hi:X.N[i]? = some x) (hx:X.env.scope.names.lookup x = some .local)
  (h:∀ s',Inv X pins (σ.set i none) H s'→Q () s'):wpAny M A (do bindName X.env x .none; unbindBehindTheSuite X.env x pos) Q E s:=by
 have hcls:(X.env.scope.kind == .class || (X.env.scope.kind == .module && X.env.locals != X.env.globals)) = false:=by rw [I.ok.kind]; rfl
 have hk:X.env.kindOf x = some .local:=hx
 refine wpAny_bind (wpAny_bindName (store_ok I hN hi (.inl hx) (v:=.non) (u:=.none) rfl (fun s1 I1=>?_) (.inr hx)))
 unfold unbindBehindTheSuite
 refine wpAny_onRaise ?_
 unfold unbindName
 refine wpAny_bind (wpAny_point (wpAny_bind ?_))
 unfold deleteName
 simp only [hk,hcls]
 rw [if_neg (by decide)]
 have cne:=I1.cne
 obtain ⟨m,hn,hl⟩:=id I1.loc
 have hiσ:i < σ.length:=by rw [I.len]; exact (List.getElem?_eq_some_iff.mp hi).1
 have hm:(m x).isSome = true:=by
  obtain ⟨u,_,l⟩:=hl i x .non hi (by rw [List.getElem?_set_self hiσ]) (.inl hx)
  rcases l with ⟨_,l⟩ | ⟨l,_⟩
  ·rw [l]; rfl
  ·rw [hk] at l
   rcases l with l | l <;> cases l
 refine wpAny_bind (wpAny_nsDel_keeps hn fun h' w hn' hs=>?_)
 rw [hm]
 simp only [Bool.not_true,Bool.false_eq_true,if_false]
 refine wpAny_pure (wpAny_point (h _ ?_))
 obtain ⟨oL,_,_,hoL,_⟩:=id hn
 have up:∀ b o,X.s₀.heap.get? b = some o→b ≠ X.env.locals:=fun b o e=>Nat.ne_of_lt (Nat.lt_of_lt_of_le (Heap.lt_size e) I1.ok.above)
 refine ⟨I1.ok,I1.os,I1.bare,⟨fun b o e n hb hx=>?_,fun b o e n hb hx=>?_,I1.base.free,fun b o e hx=>?_,I1.base.tups,I1.base.frzs,I1.base.tbls⟩,⟨_,hn',fun j y v' e1 e2 e3=>?_⟩,fun y c e=>?_,I1.free,I1.freeC,fun p hp=>?_,fun b u q=>?_,by simpa using I.len⟩
 ·exact (hs.2 b (up b o e)).trans (I1.base.keep b o e n hb hx)
 ·obtain ⟨sl,e1⟩:=I1.base.slot b o e n hb hx
  exact ⟨sl,(hs.2 b (up b o e)).trans e1⟩
 ·obtain ⟨o',e1⟩:=I1.base.there b o e hx
  exact ⟨o',(hs.2 b (up b o e)).trans e1⟩
 ·by_cases hj:j = i
  ·subst hj
   rw [List.getElem?_set_self hiσ] at e2
   cases e2
  ·rw [List.getElem?_set_ne (Ne.symm hj)] at e2
   obtain ⟨u',r',q⟩:=hl j y v' e1 (by rw [List.getElem?_set_ne (Ne.symm hj)]; exact e2) e3
   refine ⟨u',r',?_⟩
   rcases q with ⟨k,e⟩ | ⟨k,c,e,z⟩
   ·refine .inl ⟨k,?_⟩
    have:y ≠ x:=fun e=>hj (nodup_ix hN e1 (e ▸ hi))
    simp [this,e]
   ·exact .inr ⟨k,c,e,z.sameBut hs (cne y c e)⟩
 ·obtain ⟨w',z⟩:=I1.cell y c e
  exact ⟨w',z.sameBut hs (cne y c e)⟩
 ·obtain ⟨e,n,ne,nf,d⟩:=I1.pin p hp
  exact ⟨(hs.2 p.1 ne).trans e,n,ne,nf,d⟩
 ·refine (I1.hok b u q).stay (fun c w' hc z=>(hs.2 c ?_).trans z) (fun _ q=>q) fun _ _ q=>q
  rintro rfl
  rcases hc with rfl | hc
  ·rw [I1.free] at q; cases q
  ·rw [I1.free] at hc; cases hc
end
noncomputable def CXE (P:Program) (w:World):CXT:=fun outer H s E e s'=>∃ ea C od H',e = .ref ea∧s'.os = s.os∧AllBare s'.gens∧Un (frs outer) [] H H' s.heap s'.heap∧HOk P w H' s'.heap ∧
 Lie (fun b=>H' b = none∧s.heap.get? b = none) s'.heap (.ref C) od ea∧E (.ref C) od H'
noncomputable def XWish (X:Cx) (σ:St) (H:Hp) (C:Addr) (od:Option Addr):Prop:=∀ pins s e,Inv X pins σ H s→LieX X pins H s.heap C od e→X.xe (.ref e) s
section
variable {X:Cx} {k:Nat} {f C:Addr} {fd:FuncData} {ps:List Str} {sp:Sp} {dvs:List V} {ds:List Value} {x c:Str} {p pos np cpos:Pos} {e:Expr} {es:List Expr} {t:TA}
noncomputable def tCallX (X:Cx) (sp:Sp) (dvs:List V) (t:TA):TE:=fun σ H Q=>t σ H fun vs H1=>sp (vs ++ dvs) H1 Q fun c od H'=>∀ C,c = .ref C→XWish X σ H' C od
theorem pe_callX (F:FnOk X.prog X.w X.K X.mg X.base (CXE X.prog X.w) k f fd ps sp) (hr:Room k X.A) (hg:Gl X x) (hm:X.mg x = some (.ref f)) (hk:W.keepIn X.K (.ref f) = true) (hb:Binds X.K fd ps ds) (hd:Vals dvs ds)
  (ha:PA X (e :: es) t) (hdb:(x == ("__debug__" : Str)) = false:=by decide) (he:starEach (e :: es) X.env = (false,eval e X.env) :: starEach es X.env:=by rfl) (hpl:(backTo pos (starEach es X.env)).any (·.1) = false:=by rfl) :
  PE X (.Call (.Name x p) (e :: es) [] pos) (tCallX X sp dvs t):=by
 intro pins s σ H Q I h
 refine wpAny_Call_Name_kw (ld_glob I hg hm ?_ hdb)
 refine W.callWith_K (h₀:=X.base) I.ok.mod.kin hk (thn (ha pos pins s σ H _ I h) fun us s1 ⟨vs,H1,I1,r,q⟩=>⟨I1.kIn,?_⟩) he hpl
 have r2:Vals (vs ++ dvs) (us ++ ds):=r.append hd
 have hl:(us ++ ds).length = ps.length:=by rw [← r2.length]; exact F.len _ _ _ _ q
 refine wpAny_call (codeAny_mono (F.run X.A X.stack s1 H1 ⟨us,[]⟩ (us ++ ds) (vs ++ dvs) Q _ hr I1.env0 (hb s1 us I1.kIn hl) r2 q) fun r s' hq=>?_)
 cases r with
 | error ex =>
  obtain ⟨ea,C,od,H',rfl,os,bare,un,hok,lie,wish⟩:=hq
  exact wish C rfl pins s' ea (I1.call' (ch:=[]) os un hok bare fun b z=>by cases z) (lie.mono fun b z=>I1.fpW z.2 z.1)
 | ok fl =>
  cases fl with
  | ret u=>exact I1.after hq
  | next=>exact False.elim hq
  | brk=>exact False.elim hq
  | cont=>exact False.elim hq
theorem ps_raise {tl:List Value} {y:Str} {j:Nat} {cp:Pos} (hm:X.mg c = some (.ref C)) (rs:∀ h:Heap,X.K.In h→XC.Rs h C tl) (hbase:tl.contains (.type "BaseException") = true) (hc:X.calm = true) (hg:Gl X c)
  (hd:(c == ("__debug__" : Str)) = false:=by decide) (he:starEach [.Constant (.str y) j cp] X.env = [(false,eval (.Constant (.str y) j cp) X.env)]:=by rfl)
  (hbt:backTo cpos [(false,eval (.Constant (.str y) j cp) X.env)] = [(false,eval (.Constant (.str y) j cp) X.env)]:=by rfl) :
  PS X (.Raise (some (.Call (.Name c np) [.Constant (.str y) j cp] [] cpos)) none pos) (fun _ σ H=>XWish X σ H C none):=by
 intro pins s σ H D I h
 obtain ⟨nm,q,N,bs,hdct,sn,sub,ab,col,dd,k0,k1,k2,k3,k5,mN,hC,hN,hni,ht⟩:=(rs s.heap I.kIn).obj
 refine wpAny_Raise_call_subU F.excBase_ValueError (by decide +kernel) F.excBase_ValueError (bm:=tl) (C:=C) (N:=N) (nm:=nm) (q:=q) (bs:=bs) (hdct:=hdct) (sn:=sn) (sub:=sub) (ab:=ab) (col:=col) (dd:=dd) (k0:=k0) (k1:=k1) (k2:=k2) (k3:=k3) (k5:=k5) (mN:=mN) hbase (I.ok.hd hc) (by rw [he,hbt]; rfl) hni (ld_glob I hg hm ⟨rfl,?_⟩ hd)
 rw [he,hbt]
 refine Calls.evalArgs_plain (Calls.spliced_cons (Calls.Constant_str (Calls.spliced_nil ⟨rfl,by show (1:Nat) ≤ sizeLine; decide,hC,hN,ht,fun h' e hm=>?_⟩)))
 obtain ⟨t,h1,h2,h3⟩:=hm.there
 have I':Inv X pins σ H { s with heap:=h',toks:=s.toks + 1 }:=I.kept hm.keeps
 exact h pins _ e I' ⟨_,_,h1,rfl,rfl,rfl,(by show 1 < 6; decide),I.fpW hm.new (I.dead hm.new),.inl rfl⟩
end
end L2
namespace XC
open PySem
section
variable {prog:Program} {w:World} {A:Around} {E:Value→Shared→Prop} {h:Heap} {g:Array GenState} {d:Drawn} {t:Nat} {os:OsState} {C f:Addr} {tl:List Value}
end
section
variable {prog:Program} {w:World} {A:Around} {E:Value→Shared→Prop} {h:Heap} {g:Array GenState} {d:Drawn} {t:Nat} {os:OsState} {C e:Addr} {tl:List Value} {od:Option Addr}
end
end XC
namespace XC
open PySem PySem.W Builtin Builtin.ObjectAttr
section
variable {prog:Program} {w:World} {A:Around} {E:Value→Shared→Prop} {s:Shared} {K:Frag} {x C r:Addr} {cd:ClassData} {R:Result→Shared→Prop}
end
end XC
namespace L2
open PySem PySem.Spec PyProof.Rows
section
variable {X:Cx} {pins:List (Addr × Obj)} {σ:St} {H:Hp} {s:Shared}
end
section
variable {X:Cx}
end
end L2
namespace XC
open PySem PySem.W
section
variable {prog:Program} {w:World} {A:Around} {E:Value→Shared→Prop} {h:Heap} {g:Array GenState} {d:Drawn} {t:Nat} {os:OsState} {a C:Addr} {o:Obj} {tl:List Value} {K:Frag} {od:Option Obj} {f:Str} {v:Value}
end
end XC
namespace DL
open PySem PySem.Spec PyProof.Rows L2
inductive DX where
 | ok (d:D) | ex (c:Str) (n:Option Int)
inductive RX where
 | ok (r:Res) | ex (c:Str) (n:Option Int) (δ:Ds)
noncomputable abbrev GZ:=Ds→Option RX
noncomputable def okZ (G:GS):GZ:=fun δ=>(G δ).map .ok
noncomputable def nilZ:GZ:=fun δ=>some (.ok (.nx δ))
noncomputable def seqZ (G1 G2:GZ):GZ:=fun δ=>match G1 δ with
 | some (.ok (.nx δ'))=>G2 δ'
 | r=>r
noncomputable def ifZ (gt:GB) (Ga Gb:GZ):GZ:=fun δ=>(gt δ).bind fun t=>if t = true then Ga δ else Gb δ
noncomputable def raiseZ (c:Str):GZ:=fun δ=>some (.ex c none δ)
noncomputable def XdX (K:W.Frag) (H₀:Hp) (B₀:BS) (H:Hp) (σ:St) (δ:Ds) (od:Option Addr):Option Int→Prop
 | none=>True
 | some k=>∃ (dx:Addr) (B:BS),od = some dx∧H₀ dx = none∧H dx = some (.xd [("at",.int k)])∧(∀ a,B₀ a→B a)∧(∀ a,B a→B₀ a ∨ H₀ a = none)∧Env K H B σ δ∧¬ B dx
noncomputable def XdS (H H':Hp) (od:Option Addr):Option Int→Prop
 | none=>True
 | some k=>∃ dx,od = some dx∧H dx = none∧H' dx = some (.xd [("at",.int k)])
theorem XdX.out {K:W.Frag} {H₀ H:Hp} {B₀:BS} {σ:St} {δ:Ds} {od:Option Addr} {n:Option Int} (x:XdX K H₀ B₀ H σ δ od n):XdS H₀ H od n:=by
 cases n with
 | none=>trivial
 | some k=>obtain ⟨dx,B,e,h1,h2,_⟩:=x; exact ⟨dx,e,h1,h2⟩
theorem same_dead {H H':Hp} {a:Addr} (s:Same H H') (h:H' a = none):H a = none:=by
 cases e:H a with
 | none=>rfl
 | some o=>rw [s a o e] at h; cases h
noncomputable def outZ (i:Nat) (δ:Ds):DX→RX
 | .ok d=>.ok (.nx (δ.set i (.sh d)))
 | .ex c n=>.ex c n δ
noncomputable def callZ (gA:GA) (f:List D→Option DX) (i:Nat):GZ:=fun δ=>(gA δ).bind fun ds=>(f ds).map (outZ i δ)
noncomputable def ResX (X:Cx) (H₀:Hp) (B₀:BS) (D:Ends):RX→Prop
 | .ok r=>ResK X.K H₀ B₀ D r
 | .ex c n δ=>∀ σ H C od,EnvS X.K H₀ B₀ H σ δ→W.nsIn X.K mainGlobals c = some (some (.ref C))→XdX X.K H₀ B₀ H σ δ od n→XWish X σ H C od
noncomputable def tXS (X:Cx) (H₀:Hp) (B₀:BS) (δ:Ds) (G:GZ):TS:=fun D σ H=>∃ r,EnvS X.K H₀ B₀ H σ δ∧G δ = some r∧ResX X H₀ B₀ D r
structure PSX (X:Cx) (st:Stmt) (G:GZ):Prop where
 mk :: go:∀ H₀ B₀ δ,PS X st (tXS X H₀ B₀ δ G)
structure PSsX (X:Cx) (st:List Stmt) (G:GZ):Prop where
 mk :: go:∀ H₀ B₀ δ,PSs X st (tXS X H₀ B₀ δ G)
section
variable {X:Cx} {e:Expr} {st:Stmt} {rest as bs:List Stmt} {pos:Pos} {G:GS} {G1 G2 Ga Gb:GZ} {gt:GB} {gA:GA} {c:Expr}
theorem psx_of (h:PSD X st G):PSX X st (okZ G):=.mk fun H₀ B₀ δ pins s σ H D I ⟨r,en,e,k⟩=>by
 unfold okZ at e
 cases e1:G δ with
 | none=>rw [e1] at e; cases e
 | some r1 =>
  rw [e1] at e
  cases e
  exact h H₀ B₀ δ pins s σ H D I ⟨r1,en,e1,k⟩
theorem pssx_nil:PSsX X [] nilZ:=.mk fun H₀ B₀ δ pins s σ H D I ⟨r,en,e,k⟩=>by
 cases e
 exact pss_nil pins s σ H D I (k σ H en)
theorem pssx_cons (h1:PSX X st G1) (h2:PSsX X rest G2):PSsX X (st :: rest) (seqZ G1 G2):=.mk fun H₀ B₀ δ pins s σ H D I ⟨r,en,e,k⟩=>by
 unfold seqZ at e
 cases e1:G1 δ with
 | none=>rw [e1] at e; cases e
 | some r1 =>
  rw [e1] at e
  cases r1 with
  | ex c n δ'=>cases e; exact pss_cons (h1.go H₀ B₀ δ) pss_never pins s σ H D I ⟨_,en,e1,k⟩
  | ok r1 =>
   cases r1 with
   | nx δ'=>exact pss_cons (h1.go H₀ B₀ δ) (h2.go H₀ B₀ δ') pins s σ H D I ⟨_,en,e1,fun σ' H' en'=>⟨r,en',e,k⟩⟩
   | rt d=>cases e; exact pss_cons (h1.go H₀ B₀ δ) pss_never pins s σ H D I ⟨_,en,e1,k⟩
   | bk δ'=>cases e; exact pss_cons (h1.go H₀ B₀ δ) pss_never pins s σ H D I ⟨_,en,e1,k⟩
   | ct δ'=>cases e; exact pss_cons (h1.go H₀ B₀ δ) pss_never pins s σ H D I ⟨_,en,e1,k⟩
   | rf d=>cases e; exact pss_cons (h1.go H₀ B₀ δ) pss_never pins s σ H D I ⟨_,en,e1,k⟩
theorem psx_if (hc:PTD X c gt) (ha:PSsX X as Ga) (hb:PSsX X bs Gb):PSX X (.If c as bs pos) (ifZ gt Ga Gb):=.mk fun H₀ B₀ δ pins s σ H D I ⟨r,en,e1,k⟩=>by
 unfold ifZ at e1
 obtain ⟨B,b1,b2,env⟩:=en.ex
 cases e2:gt δ with
 | none=>rw [e2] at e1; cases e1
 | some t =>
  rw [e2] at e1
  refine ps_if (hc B δ) (ha.go H₀ B₀ δ) (hb.go H₀ B₀ δ) pins s σ H D I ⟨t,env,e2,fun H' s'=>?_⟩
  cases t with
  | true=>exact ⟨r,en.grow s',e1,k⟩
  | false=>exact ⟨r,en.grow s',e1,k⟩
theorem bmV_base {r:Addr}:(Value.ref r :: XC.bmV).contains (.type "BaseException") = true:=by
 rw [List.contains_cons]
 rfl
theorem psx_raise {root:Str} {r:Addr} {cs rs:List Str} {cn y:Str} {j:Nat} {np cp cpos:Pos} (T:XC.Tab X.K X.mg root r cs rs) (h1:cn ∈ rs) (h2:cn ∈ cs) (hcalm:X.calm = true:=by rfl) (hg:Gl X cn:=by rfl)
  (hd:(cn == ("__debug__" : Str)) = false:=by decide) (he:starEach [.Constant (.str y) j cp] X.env = [(false,eval (.Constant (.str y) j cp) X.env)]:=by rfl)
  (hbt:backTo cpos [(false,eval (.Constant (.str y) j cp) X.env)] = [(false,eval (.Constant (.str y) j cp) X.env)]:=by rfl) :
  PSX X (.Raise (some (.Call (.Name cn np) [.Constant (.str y) j cp] [] cpos)) none pos) (raiseZ cn):=.mk fun H₀ B₀ δ pins s σ H D I ⟨r',en,e1,k⟩=>by
 cases e1
 obtain ⟨C,at1⟩:=T.all cn h2
 obtain ⟨C',n,rsC⟩:=T.rai cn h1
 have:C' = C:=by
  have:=n.symm.trans at1.ns
  cases this
  rfl
 subst this
 exact ps_raise at1.mg rsC bmV_base hcalm hg hd he hbt pins s σ H D I (k σ H C' none en at1.ns trivial)
end
noncomputable def spX (K:W.Frag) (f:List D→Option DX):Sp:=fun vs H Q E=>∃ (B:BS) (ds:List D) (r:DX),(∀ a,B a→H a ≠ none)∧Rps K H B ds vs∧f ds = some r∧match r with
 | .ok d=>∀ v H',Same H H'→Rp K H' B d v→Q v H'
 | .ex c n=>∀ C od H',Same H H'→W.nsIn K mainGlobals c = some (some (.ref C))→XdS H H' od n→E (.ref C) od H'
structure FnX (P:Program) (w:World) (K:W.Frag) (mg:Str→Option Value) (base:Heap) (x:Str) (k:Nat) (ps:List Str) (f:List D→Option DX):Prop where
 ex:∃ fa fd,FnOk P w K mg base (CXE P w) k fa fd ps (spX K f)∧mg x = some (.ref fa)∧W.keepIn K (.ref fa) = true∧Binds K fd ps []
section
variable {X:Cx} {e:Expr} {es:List Expr} {gA:GA} {pos p px:Pos}
theorem psx_call (i:Nat) {y x:Str} {k m:Nat} {ps:List Str} {f:List D→Option DX} (C:FnX X.prog X.w X.K X.mg X.base x k ps f) (hr:Room m X.A) (hk:k ≤ m) (ha:PDA X (e :: es) gA) (hN:X.N.Nodup)
  (hi:X.N[i]? = some y:=by rfl) (hx:Loc X.env.scope y:=by first | exact Or.inl rfl | exact Or.inr rfl) (hf:X.fn y = true ∨ X.env.scope.names.lookup y = some .local:=by first | exact .inl rfl | exact .inr rfl | assumption)
  (hg:Gl X x:=by rfl) (hdb:(x == ("__debug__" : Str)) = false:=by decide) (he:starEach (e :: es) X.env = (false,eval e X.env) :: starEach es X.env:=by rfl) (hpl:(backTo pos (starEach es X.env)).any (·.1) = false:=by rfl)
  {ap:Pos} (hs:swapsWithSole [.Name y px] (.Call (.Name x p) (e :: es) [] pos) ap.line X.env = pure false:=by rfl) (hw:swappedStores [.Name y px] (.Call (.Name x p) (e :: es) [] pos) X.env = pure none:=by rfl)
  (h1:(assignEach [.Name y px] X.env).map (·.2) = [assign (.Name y px) X.env]:=by rfl) :
  PSX X (.Assign [.Name y px] (.Call (.Name x p) (e :: es) [] pos) ap) (callZ gA f i):=.mk fun H₀ B₀ δ pins s σ H D I ⟨r,en,e1,k⟩=>by
 unfold callZ at e1
 obtain ⟨B,b1,b2,env⟩:=en.ex
 obtain ⟨fa,fd,F,hm,hkp,hb⟩:=C.ex
 cases e2:gA δ with
 | none=>rw [e2] at e1; cases e1
 | some ds =>
  rw [e2,Option.bind_some] at e1
  cases e3:f ds with
  | none=>rw [e3] at e1; cases e1
  | some dx =>
   rw [e3] at e1
   cases e1
   refine ps_asg (pe_callX (dvs:=[]) (ds:=[]) F (hr.mono hk) hg hm hkp hb .nil (ha B δ) hdb he hpl) (pg_name (i:=i) hN hi hx hf) hs hw h1 pins s σ H D I ⟨ds,env,e2,fun vs H1 s1 r1=>?_⟩
   show spX X.K f (vs ++ []) H1 _ _
   rw [List.append_nil]
   refine ⟨B,ds,dx,(env.same s1).bad,r1,e3,?_⟩
   cases dx with
   | ok d=>exact fun v H' s2 r2=>k _ H' (en.wr b1 b2 (s1.trans s2) wr_set ((env.same (s1.trans s2)).set i r2))
   | ex c m =>
    intro C od H' s2 n x C' q
    cases q
    refine k σ H' C od (en.grow (s1.trans s2)) n ?_
    cases m with
    | none=>trivial
    | some m =>
     obtain ⟨dx,e,x1,x2⟩:=x
     exact ⟨dx,B,e,same_dead (en.same.trans s1) x1,x2,b1,b2,env.same (s1.trans s2),fun z=>(env.same s1).bad dx z x1⟩
end
section
variable {P:Program} {w:World} {K:W.Frag} {mg:Str→Option Value} {base:Heap}
noncomputable def mkX (n:Nat) (N:List Str) (G:GZ) (ds:List D):Option DX:=if ds.length = n then (match G (dStart N ds) with
 | some (.ok (.rt d))=>some (.ok d)
 | some (.ex c n _)=>some (.ex c n)
 | _=>none) else none
theorem mkX_ok {n:Nat} {N:List Str} {G:GZ} {ds:List D} {r:DX} (h:mkX n N G ds = some r):ds.length = n∧((∃ d,r = .ok d∧G (dStart N ds) = some (.ok (.rt d))) ∨ ∃ c n δ,r = .ex c n∧G (dStart N ds) = some (.ex c n δ)):=by
 unfold mkX at h
 split at h
 ·rename_i hl
  refine ⟨hl,?_⟩
  split at h
  ·rename_i e; cases h; exact .inl ⟨_,rfl,e⟩
  ·rename_i e; cases h; exact .inr ⟨_,_,_,rfl,e⟩
  ·cases h
 ·cases h
theorem mkX_rt {n:Nat} {N:List Str} {G:GZ} {ds:List D} {d:D} (hl:ds.length = n) (h:G (dStart N ds) = some (.ok (.rt d))):mkX n N G ds = some (.ok d):=by
 unfold mkX
 rw [if_pos hl,h]
theorem mkX_ex {n:Nat} {N:List Str} {G:GZ} {ds:List D} {c:Str} {m:Option Int} {δ:Ds} (hl:ds.length = n) (h:G (dStart N ds) = some (.ex c m δ)):mkX n N G ds = some (.ex c m):=by
 unfold mkX
 rw [if_pos hl,h]
theorem okX {x qual:Str} {st:Stmt} {fa:Addr} {fd:FuncData} {N ps:List Str} {k:Nat} {G:GZ} (F:Fun K x qual st fa fd) (S:FnScope N ps (defScope st))
  (body:∀ (cdv:Value) (A:Around) (outer:List PySem.Env) (s:Shared) (H:Hp) (E:XK),Room k (A.deeper (envOfC qual (defScope st) s.heap.objs.size fa cdv))→PSsX (cxOf (CXE P w) P w K mg base N qual (defScope st) fa cdv A outer s H E) (defBody st) G) :
  FnOk P w K mg base (CXE P w) (k + 1) fa fd ps (spX K (mkX ps.length N G)):=by
 obtain ⟨oc,od,kV,doc,pm,an,cdv,ct,osl,rfl,lk,hcd⟩:=F.ex
 refine fn_of lk hcd S (fun vs H Q E ⟨B,ds,r,_,rr,h,_⟩=>by rw [rr.length]; exact (mkX_ok h).1) fun A outer s H vs Q E hr hsp=>?_
 obtain ⟨B,ds,r,hb,rr,h,q⟩:=hsp
 refine ⟨_,(body cdv A outer s H E hr).go H B (dStart N ds),?_⟩
 have en:EnvS K H B H (L2.start N vs) (dStart N ds):=by
  refine ⟨Same.refl H,⟨B,fun _ z=>z,fun _ z=>.inl z,⟨?_,hb,fun i j a ds' es h1 _ _ _=>(dStart_ow h1).elim⟩⟩,fun i ds' a h1 _=>(dStart_ow h1).elim,hb⟩
  unfold L2.start dStart
  rw [rr.length]
  exact Pd.app (start_rel (N:=N) rr) (rep_un _)
 rcases (mkX_ok h).2 with ⟨d,rfl,e⟩ | ⟨c,m,δ,rfl,e⟩
 ·exact ⟨_,en,e,fun v H' s' r'=>q v H' s' r'⟩
 ·refine ⟨_,en,e,fun σ H' C od' en' n x pins s1 ea I lie=>?_⟩
  refine wpAny_bind (I.noted rfl lie fun h' I' lie'=>?_)
  refine ⟨ea,C,od',H',rfl,I'.os,I'.bare,I'.base,I'.hok,lie'.mono fun b z=>⟨z.1,?_⟩,q C od' H' en'.same n x.out⟩
  rcases z.2.2.2.1 with y | y
  ·exact absurd (show b ∈ ([]:List Addr) from y) (by simp)
  ·exact y
end
end DL
namespace L2
open PySem PySem.Spec PyProof.Rows
section
variable {X:Cx} {pos:Pos} {tl:List Value}
theorem pe_cls {c:Str} {C:Addr} (hm:X.mg c = some (.ref C)) (hg:Gl X c) (hd:(c == ("__debug__" : Str)) = false:=by decide):PE X (.Name c pos) (tC (.ref C)):=fun pins s σ H Q I h=>ld_glob I hg hm ⟨.ref C,H,I,rfl,h⟩ hd
theorem pe_ty {x:Str} {T:String} (hm:X.mg x = none) (hv:bootBuiltins x = some (.type T)) (hg:Gl X x) (hn:x ≠ "__name__" := by decide) (hd:(x == ("__debug__" : Str)) = false:=by decide):PE X (.Name x pos) (tC (.ty T)):=fun pins s σ H Q I h=>ld_blt I hg hm hv ⟨.ty T,H,I,rfl,h⟩ hn hd
noncomputable def rIsiO (K:W.Frag) (tl:List Value):List V→Hp→VK→Prop:=fun vs H Q=>∃ a C W od,vs = [.ref a,.ref W]∧H a = some (.ext (DL.XcAt a C od))∧(∀ h:Heap,K.In h→XC.Cl h C tl)∧(∃ tw,∀ h:Heap,K.In h→XC.Cl h W tw)∧Q (.bl ((Value.ref C :: tl).contains (.ref W))) H
theorem call_isiO:CallR X (.builtin "isinstance") (rIsiO X.K tl):=by
 intro pins s σ H xs us Q I r h
 obtain ⟨a,C,W,od,rfl,hH,cl,⟨tw,cw⟩,q⟩:=h
 cases r with
 | cons r1 r =>
  cases r with
  | cons r2 r =>
   cases r
   cases r1
   cases r2
   obtain ⟨⟨oe,h1,h2,_⟩,_,_⟩:=I.hok a _ hH
   exact XC.isi_own (cl _ I.kIn) (cw _ I.kIn) h1 h2 fun t'=>⟨.bl _,H,I.tok t',rfl,q⟩
noncomputable def rIsiV (K:W.Frag) (tl:List Value) (T:String) (b:Bool):List V→Hp→VK→Prop:=fun vs H Q=>∃ a C od,vs = [.ref a,.ty T]∧H a = some (.ext (DL.XcAt a C od))∧(∀ h:Heap,K.In h→XC.Cl h C tl)∧Q (.bl b) H
theorem call_isiV {T:String} {b:Bool} (hty:typeOf (.type T) = pure (.type "type")) (hT:XC.bmV.contains (.type T) = b):CallR X (.builtin "isinstance") (rIsiV X.K tl T b):=by
 intro pins s σ H xs us Q I r h
 obtain ⟨a,C,od,rfl,hH,cl,q⟩:=h
 cases r with
 | cons r1 r =>
  cases r with
  | cons r2 r =>
   cases r
   cases r1
   cases r2
   obtain ⟨⟨oe,h1,h2,_⟩,_,_⟩:=I.hok a _ hH
   exact XC.isi_type (cl _ I.kIn) h1 h2 hty hT fun t'=>⟨.bl _,H,I.tok t',rfl,q⟩
theorem vals_refs:∀ {Ws:List Addr} {us:List Value},Vals (Ws.map V.ref) us→us = Ws.map Value.ref
 | [],_,.nil=>rfl
 | W :: Ws,_,.cons r t=>by
  cases r
  rw [vals_refs t]
  rfl
noncomputable def ownsK (K:W.Frag):List Addr→Prop
 | []=>True
 | W :: Ws=>(∃ tw,∀ h:Heap,K.In h→XC.Cl h W tw)∧ownsK K Ws
theorem ownsK.all {K:W.Frag} {h:Heap} (X:K.In h):∀ {Ws:List Addr},ownsK K Ws→XC.OwnsAll h Ws
 | [],_=>trivial
 | W :: Ws,⟨⟨tw,c⟩,r⟩=>⟨⟨tw,c h X⟩,ownsK.all X r⟩
noncomputable def rIsiT (K:W.Frag) (tl:List Value):List V→Hp→VK→Prop:=fun vs H Q=>∃ a C tp Ws od,vs = [.ref a,.ref tp]∧H a = some (.ext (DL.XcAt a C od))∧H tp = some (.tup (Ws.map V.ref))∧(∀ h:Heap,K.In h→XC.Cl h C tl)∧ownsK K Ws∧Q (.bl (Ws.any fun W=>(Value.ref C :: tl).contains (.ref W))) H
theorem call_isiT:CallR X (.builtin "isinstance") (rIsiT X.K tl):=by
 intro pins s σ H xs us Q I r h
 obtain ⟨a,C,tp,Ws,od,rfl,hH,hT,cl,ow,q⟩:=h
 cases r with
 | cons r1 r =>
  cases r with
  | cons r2 r =>
   cases r
   cases r1
   cases r2
   obtain ⟨⟨oe,h1,h2,_⟩,_,_⟩:=I.hok a _ hH
   obtain ⟨_,its,rv,tup⟩:=I.hok tp _ hT
   rw [vals_refs rv] at tup
   exact XC.isi_tup (cl _ I.kIn) (ow.all I.kIn) h1 h2 tup.tup fun t'=>⟨.bl _,H,I.tok t',rfl,q⟩
end
end L2
namespace DL
open PySem PySem.Spec PyProof.Rows L2
noncomputable def exI (i:Nat) (cs:List Str) (f:Str→Bool):GE:=fun δ=>match δ[i]? with
 | some (.ex c _)=>if cs.contains c = true then some (.bl (f c)) else none
 | _=>none
section
variable {X:Cx} {root:Str} {r:Addr} {cs rs:List Str} {p px pc pos:Pos} {x:Str}
theorem ex_get {K:W.Frag} {H:Hp} {B:BS} {σ:St} {δ:Ds} {i:Nat} {f:Str→Bool} {d:D} (en:Env K H B σ δ) (h:exI i cs f δ = some d) :
  ∃ c a C od,c ∈ cs∧d = .bl (f c)∧σ[i]? = some (some (.ref a))∧H a = some (.ext (XcAt a C od))∧W.nsIn K mainGlobals c = some (some (.ref C)):=by
 unfold exI at h
 split at h
 ·rename_i c n hδ
  split at h
  ·rename_i hc
   cases h
   obtain ⟨o,h1,a,rfl,C,od,h2,h3,h4,h5⟩:=Pd.get en.all hδ
   exact ⟨c,a,C,od,List.contains_iff_mem.mp hc,rfl,h1,h3,h4⟩
  ·cases h
 ·cases h
theorem at_same {K:W.Frag} {mg:Str→Option Value} {c:Str} {C C':Addr} {tl:List Value} (a:XC.At K mg c C tl) (n:W.nsIn K mainGlobals c = some (some (.ref C'))):C' = C:=by
 have:=n.symm.trans a.ns
 cases this
 rfl
theorem has_own {K:W.Frag} {mg:Str→Option Value} (T:XC.Tab K mg root r cs rs) (hr:root ∉ cs) {c c':Str} {C C':Addr} (h1:c ∈ cs) (h2:c' ∈ cs) (a:XC.At K mg c C (.ref r :: XC.bmV)) (a':XC.At K mg c' C' (.ref r :: XC.bmV)) :
  (Value.ref C :: Value.ref r :: XC.bmV).contains (.ref C') = decide (c = c'):=by
 by_cases e:c = c'
 ·subst e
  rw [at_same a a'.ns,decide_eq_true rfl]
  simp
 ·rw [decide_eq_false e]
  have n1:C ≠ C':=fun z=>e (T.diff c (.tail _ h1) c' (.tail _ h2) (by rw [a.ns,a'.ns,z]))
  have n2:r ≠ C':=fun z=>hr (by
   have:=T.diff root (.head _) c' (.tail _ h2) (by rw [T.top.ns,a'.ns,z])
   rw [this]
   exact h2)
  simp [Ne.symm n1,Ne.symm n2]
theorem pd_isiX (i:Nat) {c':Str} (T:XC.Tab X.K X.mg root r cs rs) (hr:root ∉ cs) (h':c' ∈ cs) (hm:X.mg "isinstance" = none) (hi:X.N[i]? = some x:=by rfl) (hgi:Gl X "isinstance" := by rfl) (hgc:Gl X c':=by rfl)
  (hv:Vis X.env.scope x:=by first | exact Or.inl rfl | exact Or.inr (Or.inl rfl) | exact Or.inr (Or.inr rfl)) (hd:(x == ("__debug__" : Str)) = false:=by decide) (hcd:(x == ("__classdict__" : Str)) = false:=by decide) (hdc:(c' == ("__debug__" : Str)) = false:=by decide)
  (s1:starEach [.Name c' pc] X.env = [(false,eval (.Name c' pc) X.env)]:=by rfl) (s2:starEach [.Name x px,.Name c' pc] X.env = (false,eval (.Name x px) X.env) :: starEach [.Name c' pc] X.env:=by rfl) (hpl:(backTo pos (starEach [.Name c' pc] X.env)).any (·.1) = false:=by rfl) :
  PD X (.Call (.Name "isinstance" p) [.Name x px,.Name c' pc] [] pos) (exI i cs fun c=>decide (c = c')):=.mk fun B δ=>by
 obtain ⟨C',a'⟩:=T.all c' h'
 refine (pe_callB (call_isiO (tl:=.ref r :: XC.bmV)) hgi hm boot_isinstance (pa_cons (pe_var hi hv hd hcd) (pa_cons (pe_cls a'.mg hgc hdc) pa_nil s1) s2) (by decide) (by decide) s2 hpl).imp fun σ H Q ⟨d,en,h,k⟩=>?_
 obtain ⟨c,a,C,od,hc,rfl,h1,h2,h3⟩:=ex_get en h
 obtain ⟨C2,a2⟩:=T.all c hc
 obtain rfl:=at_same a2 h3
 refine ⟨.ref a,h1,a,C,C',od,rfl,h2,a2.cl,⟨_,a'.cl⟩,?_⟩
 rw [has_own T hr hc h' a2 a']
 exact k _ _ (Same.refl _) (by rw [rp_bl])
theorem pd_isiV (i:Nat) {y:Str} {Tn:String} {b:Bool} (T:XC.Tab X.K X.mg root r cs rs) (hy:bootBuiltins y = some (.type Tn)) (hty:typeOf (.type Tn) = pure (.type "type")) (hT:XC.bmV.contains (.type Tn) = b) (hm:X.mg "isinstance" = none) (hmy:X.mg y = none) (hi:X.N[i]? = some x:=by rfl) (hgi:Gl X "isinstance" := by rfl) (hgc:Gl X y:=by rfl)
  (hv:Vis X.env.scope x:=by first | exact Or.inl rfl | exact Or.inr (Or.inl rfl) | exact Or.inr (Or.inr rfl)) (hd:(x == ("__debug__" : Str)) = false:=by decide) (hcd:(x == ("__classdict__" : Str)) = false:=by decide) (hdc:(y == ("__debug__" : Str)) = false:=by decide) (hny:y ≠ "__name__" := by decide)
  (s1:starEach [.Name y pc] X.env = [(false,eval (.Name y pc) X.env)]:=by rfl) (s2:starEach [.Name x px,.Name y pc] X.env = (false,eval (.Name x px) X.env) :: starEach [.Name y pc] X.env:=by rfl) (hpl:(backTo pos (starEach [.Name y pc] X.env)).any (·.1) = false:=by rfl) :
  PD X (.Call (.Name "isinstance" p) [.Name x px,.Name y pc] [] pos) (exI i cs fun _=>b):=.mk fun B δ=>by
 refine (pe_callB (call_isiV (tl:=.ref r :: XC.bmV) hty hT) hgi hm boot_isinstance (pa_cons (pe_var hi hv hd hcd) (pa_cons (pe_ty hmy hy hgc hny hdc) pa_nil s1) s2) (by decide) (by decide) s2 hpl).imp fun σ H Q ⟨d,en,h,k⟩=>?_
 obtain ⟨c,a,C,od,hc,rfl,h1,h2,h3⟩:=ex_get en h
 obtain ⟨C2,a2⟩:=T.all c hc
 obtain rfl:=at_same a2 h3
 exact ⟨.ref a,h1,a,C,od,rfl,h2,a2.cl,k _ _ (Same.refl _) (by rw [rp_bl])⟩
end
end DL
namespace L2
open PySem PySem.Spec PyProof.Rows
noncomputable abbrev Cx.body (X:Cx) (pn:List (Addr × Obj)) (xe:Value→Shared→Prop):Cx:={ X with pn:=pn,xe:=xe }
noncomputable abbrev Cx.hand (X:Cx) (A:Around):Cx:={ X with A:=A,calm:=false,xe:=fun _ _=>False }
section
variable {X:Cx} {pins pins':List (Addr × Obj)} {σ:St} {H:Hp} {s:Shared} {W:Value→Shared→Prop} {A:Around}
theorem Cx.Ok.body (o:X.Ok) {pn:List (Addr × Obj)}:(X.body pn W).Ok:=⟨o.mod,o.kind,o.glob,o.blt,o.above,o.inj,o.has,o.cab,o.hd,o.frames,o.stk,o.exf,o.bs,o.bsz,o.noex,o.exfs,o.funs,o.frf⟩
theorem Cx.Ok.unbody {pn:List (Addr × Obj)} (o:(X.body pn W).Ok):X.Ok:=⟨o.mod,o.kind,o.glob,o.blt,o.above,o.inj,o.has,o.cab,o.hd,o.frames,o.stk,o.exf,o.bs,o.bsz,o.noex,o.exfs,o.funs,o.frf⟩
theorem Inv.toBody (I:Inv X pins σ H s):Inv (X.body (X.pn ++ pins) W) [] σ H s:=⟨I.ok.body,I.os,I.bare,I.base,I.loc,I.cell,I.free,I.freeC,fun p hp=>I.pin p (by simpa using hp),I.hok,I.len⟩
theorem Inv.ofBody (I:Inv (X.body (X.pn ++ pins) W) pins' σ H s):Inv X pins σ H s:=⟨I.ok.unbody,I.os,I.bare,I.base,I.loc,I.cell,I.free,I.freeC,fun p hp=>I.pin p (List.mem_append_left _ hp),I.hok,I.len⟩
theorem FpW.ofBody {b:Addr} (f:FpW (X.body (X.pn ++ pins) W) pins' H b):FpW X pins H b:=⟨f.1,f.2.1,f.2.2.1,f.2.2.2.1,f.2.2.2.2.1,fun p hp=>f.2.2.2.2.2 p (List.mem_append_left _ hp)⟩
theorem Cx.Ok.hand (o:X.Ok) (hf:A.frames = X.A.frames):(X.hand A).Ok:=⟨o.mod,o.kind,o.glob,o.blt,o.above,o.inj,o.has,o.cab,(fun z=>by cases z),hf.trans o.frames,o.stk,o.exf,o.bs,o.bsz,o.noex,o.exfs,o.funs,o.frf⟩
theorem Inv.toHand (I:Inv X pins σ H s) (hf:A.frames = X.A.frames):Inv (X.hand A) pins σ H s:=⟨I.ok.hand hf,I.os,I.bare,I.base,I.loc,I.cell,I.free,I.freeC,I.pin,I.hok,I.len⟩
theorem Inv.ofHand {σ':St} {H':Hp} {s':Shared} (I:Inv (X.hand A) pins σ H s) (J:Inv X pins σ' H' s'):Inv X pins σ H s:=⟨J.ok,I.os,I.bare,I.base,I.loc,I.cell,I.free,I.freeC,I.pin,I.hok,I.len⟩
end
end L2
namespace DL
open PySem PySem.Spec PyProof.Rows L2
section
variable {K:W.Frag} {H₀ H:Hp} {B₀ B:BS} {σ:St} {δ:Ds} {i:Nat} {a C:Addr} {c:Str}
theorem not_ow {s:Sl} {j:Nat} {d:D} (hs:∀ d,s ≠ .ow d) (h:(δ.set i s)[j]? = some (.ow d)):j ≠ i:=by
 rintro rfl
 by_cases hl:j < δ.length
 ·rw [List.getElem?_set_self hl] at h
  cases h
  exact hs _ rfl
 ·rw [List.getElem?_eq_none (by simpa using hl)] at h
  cases h
theorem Env.setSl {o:Option V} {s:Sl} (e:Env K H B σ δ) (hs:∀ d,s ≠ .ow d) (r:SlR K H B o s):Env K H B (σ.set i o) (δ.set i s):=by
 refine ⟨Pd.set r i e.all,e.bad,fun j k b ds es h1 h2 h3 h4=>?_⟩
 have hj:=not_ow hs h1
 have hk:=not_ow hs h2
 rw [List.getElem?_set_ne (Ne.symm hj)] at h1 h3
 rw [List.getElem?_set_ne (Ne.symm hk)] at h2 h4
 exact e.own j k b ds es h1 h2 h3 h4
theorem EnvS.setSl {o:Option V} {s:Sl} (e:EnvS K H₀ B₀ H σ δ) (hs:∀ d,s ≠ .ow d) (r:∀ B,Env K H B σ δ→SlR K H B o s):EnvS K H₀ B₀ H (σ.set i o) (δ.set i s):=by
 obtain ⟨B,b1,b2,en⟩:=e.ex
 refine ⟨e.same,⟨B,b1,b2,en.setSl hs (r B en)⟩,fun j ds b h1 h2=>?_,e.b0⟩
 have hj:=not_ow hs h1
 rw [List.getElem?_set_ne (Ne.symm hj)] at h1 h2
 exact e.fr j ds b h1 h2
theorem xdB {od:Option Addr} {n:Option Int} (e:EnvS K H₀ B₀ H σ δ) (x:XdX K H₀ B₀ H σ δ od n):∃ B,(∀ a,B₀ a→B a)∧(∀ a,B a→B₀ a ∨ H₀ a = none)∧Env K H B σ δ∧XdAt H B od n:=by
 cases n with
 | none =>
  obtain ⟨B,b1,b2,en⟩:=e.ex
  exact ⟨B,b1,b2,en,trivial⟩
 | some k =>
  obtain ⟨dx,B,h1,h2,h3,b1,b2,en,nb⟩:=x
  exact ⟨B,b1,b2,en,dx,h1,nb,h3⟩
theorem EnvS.setEx {od:Option Addr} {m:Option Int} (e:EnvS K H₀ B₀ H σ δ) (x:XdX K H₀ B₀ H σ δ od m) (hH:H a = none) (n:W.nsIn K mainGlobals c = some (some (.ref C))):EnvS K H₀ B₀ (upd H a (.ext (XcAt a C od))) (σ.set i (some (.ref a))) (δ.set i (.ex c m)):=by
 obtain ⟨B,b1,b2,en,xd⟩:=xdB e x
 have nb:¬ B a:=fun z=>en.bad a z hH
 have en':Env K (upd H a (.ext (XcAt a C od))) B σ δ:=en.same (same_upd hH)
 have xd':XdAt (upd H a (.ext (XcAt a C od))) B od m:=by
  cases m with
  | none=>trivial
  | some k =>
   obtain ⟨dx,h1,h2,h3⟩:=xd
   exact ⟨dx,h1,h2,by rw [upd_ne (ne_of_none h3 hH)]; exact h3⟩
 refine ⟨e.same.trans (same_upd hH),⟨B,b1,b2,en'.setSl (fun d z=>nomatch z) ⟨a,rfl,C,od,nb,upd_same,n,xd'⟩⟩,fun j ds b h1 h2=>?_,e.b0⟩
 have hj:=not_ow (s:=.ex c m) (fun d z=>nomatch z) h1
 rw [List.getElem?_set_ne (Ne.symm hj)] at h1 h2
 exact e.fr j ds b h1 h2
end
noncomputable def tryD (cs:List Str) (i:Nat) (Gb:GZ) (Gh:GS):GS:=fun δ=>match Gb δ with
 | some (.ok (.nx δ'))=>some (.nx δ')
 | some (.ex c n δ')=>if cs.contains c = true then (match Gh (δ'.set i (.ex c n)) with
  | some (.nx δ'')=>some (.nx (δ''.set i .un))
  | _=>none) else none
 | _=>none
section
variable {X:Cx} {root x:Str} {r:Addr} {cs rs:List Str} {body suite:List Stmt} {b₀:Stmt} {np hp pos:Pos} {Gb:GZ} {Gh:GS}
theorem has_root {C:Addr}:(Value.ref C :: Value.ref r :: XC.bmV).contains (.ref r) = true:=by simp
set_option maxHeartbeats 0 in
theorem psd_try (i:Nat) (T:XC.Tab X.K X.mg root r cs rs) (hb:∀ pn xe,PSsX (X.body pn xe) body Gb) (hh:∀ e:Addr,PSsD (X.hand (X.A.mark (some (.ref e)))) (b₀ :: suite) Gh) (hN:X.N.Nodup) (st:X.stack = X.env :: X.outer:=by rfl)
  (hi:X.N[i]? = some x:=by rfl) (hx:X.env.scope.names.lookup x = some .local:=by rfl) (hg:Gl X root:=by rfl) (hdb:(root == ("__debug__" : Str)) = false:=by decide) :
  PSD X (.Try body [.ExceptHandler (some (.Name root np)) (some x) (b₀ :: suite) hp] [] [] pos) (tryD cs i Gb Gh):=.mk fun H₀ B₀ δ pins s σ H D I ⟨res,en,e,k⟩=>by
 refine wpAny_Try_except ?_
 obtain ⟨W,hW⟩:∃ W:Value→Shared→Prop,W = fun e s₁=>wpAny (model X.prog X.w) X.A (noteFrame e X.env) (fun _ s₂=>wpAny (model X.prog X.w) X.A (setFlight e none) (fun _ s₃=>wpAny (model X.prog X.w) X.A (handleBy e X.env [.ExceptHandler (some (.Name root np)) (some x) (b₀ :: suite) hp]) (SP X pins D) X.xe s₃) X.xe s₂) X.xe s₁:=⟨_,rfl⟩
 rw [← hW]
 have I1:Inv (X.body (X.pn ++ pins) W) [] σ H s:=I.toBody
 unfold tryD at e
 cases e1:Gb δ with
 | none=>rw [e1] at e; cases e
 | some rx =>
  rw [e1] at e
  have run:∀ D1:Ends,ResX (X.body (X.pn ++ pins) W) H₀ B₀ D1 rx→wpAny (model X.prog X.w) X.A (execs body X.env) (SP (X.body (X.pn ++ pins) W) [] D1) W s:=fun D1 k1=>(hb (X.pn ++ pins) W).go H₀ B₀ δ [] s σ H D1 I1 ⟨rx,en,e1,k1⟩
  cases rx with
  | ok r1 =>
   cases r1 with
   | nx δ' =>
    cases e
    refine wpAny_mono (run { nx:=D.nx,rt:=fun _ _=>False } k) (fun f s1 q=>?_) (fun _ _ z=>z)
    cases f with
    | next =>
     obtain ⟨σ',H',I',q⟩:=q
     exact pss_nil pins s1 σ' H' D I'.ofBody q
    | ret v=>obtain ⟨_,_,_,_,_,z⟩:=q; exact z.elim
    | brk=>obtain ⟨_,_,_,z⟩:=q; exact z.elim
    | cont=>obtain ⟨_,_,_,z⟩:=q; exact z.elim
   | rt d=>cases e
   | bk δ'=>cases e
   | ct δ'=>cases e
   | rf d=>cases e
  | ex c m δ' =>
   simp only [] at e
   split at e
   ·rename_i hc
    have hc:=List.contains_iff_mem.mp hc
    split at e
    ·rename_i δ'' e2
     cases e
     refine wpAny_mono (run { nx:=fun _ _=>False,rt:=fun _ _=>False } fun σ' H' C od en' n xx pins' s1 ea I' lie'=>?_) (fun f s1 q=>?_) (fun _ _ z=>z)
     ·show W (.ref ea) s1
      rw [hW]
      have I2:Inv X pins σ' H' s1:=I'.ofBody
      have lie2:LieX X pins H' s1.heap C od ea:=lie'.mono fun b z=>z.ofBody
      refine I2.noted st lie2 fun h2 I3 lie3=>?_
      obtain ⟨C2,a2⟩:=T.all c hc
      obtain rfl:=at_same a2 n
      obtain ⟨oe,vs,he,hcls,_⟩:=id lie3
      have I4:Inv (X.hand (X.A.mark (some (.ref ea)))) pins σ' H' { s1 with heap:=h2 }:=I3.toHand rfl
      refine wpAny_handleBy_cons (codeAny_handlers_test (ld_glob I4 hg T.top.mg (XC.matches_own (h:=h2) (a2.cl _ I4.kIn) (T.top.cl _ I4.kIn) he hcls ?_) hdb)) (by intro q; cases q)
      rw [has_root]
      refine codeAny_handlers_suite_as (I4.flown (C:=C) (od:=od) lie3 fun h5 I5 lie5=>?_)
      obtain ⟨oe5,vs5,he5,hcls5,hdc5,hd5,_,fp5,_⟩:=id lie5
      have I6:Inv (X.hand (X.A.mark (some (.ref ea)))) pins σ' (upd H' ea (.ext (XcAt ea C od))) { s1 with heap:=h5 }:=I5.track fp5 ⟨oe5,he5,hcls5,fun dx z=>hdc5.trans z,vs5,hd5⟩ ⟨oe5,he5⟩ fun g1 g2 ⟨o,q1,q2,q3⟩ q=>⟨o,q o q1,q2,q3⟩
      refine store_ok (X:=X.hand (X.A.mark (some (.ref ea)))) I6 hN hi (.inl hx) (v:=.ref ea) rfl (fun s7 I7=>?_) (.inr hx)
      refine wpAny_mono ((hh ea).go H₀ B₀ (δ'.set i (.ex c m)) pins s7 _ _ { nx:=fun σ H=>EnvS X.K H₀ B₀ H σ δ'',rt:=fun _ _=>False } I7 ⟨.nx δ'',en'.setEx xx fp5.1 n,e2,fun _ _ z=>z⟩) (fun f s8 q=>?_) (fun _ _ z=>z.elim)
      cases f with
      | next =>
       obtain ⟨σ8,H8,I8,en8⟩:=q
       exact (I8.ofHand I2).goes hN hi hx fun s9 I9=>⟨_,H8,I9,k _ _ (en8.setSl (fun d z=>nomatch z) fun _ _=>trivial)⟩
      | ret v=>obtain ⟨_,_,_,_,_,z⟩:=q; exact z.elim
      | brk=>obtain ⟨_,_,_,z⟩:=q; exact z.elim
      | cont=>obtain ⟨_,_,_,z⟩:=q; exact z.elim
     ·cases f with
      | next=>obtain ⟨_,_,_,z⟩:=q; exact z.elim
      | ret v=>obtain ⟨_,_,_,_,_,z⟩:=q; exact z.elim
      | brk=>obtain ⟨_,_,_,z⟩:=q; exact z.elim
      | cont=>obtain ⟨_,_,_,z⟩:=q; exact z.elim
    ·cases e
   ·cases e
end
theorem ty_ValueError:typeOf (.type "ValueError") = pure (.type "type"):=W.kitMeta_of (by decide +kernel)
structure PCl (X:Cx) (r:Addr) (cs:List Str) (es:List Expr) (ns:List Str):Prop where
 ex:∃ Cs:List Addr,PA X es (fun _ H Q=>Q (Cs.map V.ref) H)∧Paired (fun (C:Addr) (n:Str)=>n ∈ cs∧XC.At X.K X.mg n C (.ref r :: XC.bmV)) Cs ns
section
variable {X:Cx} {root:Str} {r:Addr} {cs rs:List Str} {p px pc tp pos:Pos} {x:Str} {es:List Expr} {ns:List Str}
theorem pcl_nil:PCl X r cs [] []:=⟨[],pa_nil,.nil⟩
theorem pcl_cons {c':Str} (T:XC.Tab X.K X.mg root r cs rs) (h':c' ∈ cs) (h:PCl X r cs es ns) (hg:Gl X c':=by rfl) (hd:(c' == ("__debug__" : Str)) = false:=by decide) (hs:starEach (.Name c' pc :: es) X.env = (false,eval (.Name c' pc) X.env) :: starEach es X.env:=by rfl) :
  PCl X r cs (.Name c' pc :: es) (c' :: ns):=by
 obtain ⟨Cs,ha,hp⟩:=h.ex
 obtain ⟨C',a'⟩:=T.all c' h'
 exact ⟨C' :: Cs,pa_cons (pe_cls a'.mg hg hd) ha hs,.cons ⟨h',a'⟩ hp⟩
theorem owns_of {K:W.Frag} {mg:Str→Option Value}:∀ {Cs:List Addr} {ns:List Str},Paired (fun (C:Addr) (n:Str)=>n ∈ cs∧XC.At K mg n C (.ref r :: XC.bmV)) Cs ns→ownsK K Cs
 | _,_,.nil=>trivial
 | _,_,.cons h t=>⟨⟨_,h.2.cl⟩,owns_of t⟩
theorem any_own {K:W.Frag} {mg:Str→Option Value} (T:XC.Tab K mg root r cs rs) (hr:root ∉ cs) {c:Str} {C:Addr} (h1:c ∈ cs) (a:XC.At K mg c C (.ref r :: XC.bmV)):∀ {Cs:List Addr} {ns:List Str},Paired (fun (C:Addr) (n:Str)=>n ∈ cs∧XC.At K mg n C (.ref r :: XC.bmV)) Cs ns →
  (Cs.any fun W=>(Value.ref C :: Value.ref r :: XC.bmV).contains (.ref W)) = ns.any fun n=>decide (c = n)
 | _,_,.nil=>rfl
 | _,_,.cons h t=>by rw [List.any_cons,List.any_cons,any_own T hr h1 a t,has_own T hr h1 h.1 a h.2]
theorem pd_isiXs (i:Nat) {x1:Nat} (T:XC.Tab X.K X.mg root r cs rs) (hr:root ∉ cs) (hcl:PCl X r cs es ns) (hlen:es.length ≤ 100) (hm:X.mg "isinstance" = none) (hi:X.N[i]? = some x:=by rfl) (hgi:Gl X "isinstance" := by rfl)
  (hv:Vis X.env.scope x:=by first | exact Or.inl rfl | exact Or.inr (Or.inl rfl) | exact Or.inr (Or.inr rfl)) (hd:(x == ("__debug__" : Str)) = false:=by decide) (hcd:(x == ("__classdict__" : Str)) = false:=by decide)
  (s1:starEach [.Tuple es x1 tp] X.env = [(false,eval (.Tuple es x1 tp) X.env)]:=by rfl) (s2:starEach [.Name x px,.Tuple es x1 tp] X.env = (false,eval (.Name x px) X.env) :: starEach [.Tuple es x1 tp] X.env:=by rfl) (hpl:(backTo pos (starEach [.Tuple es x1 tp] X.env)).any (·.1) = false:=by rfl)
  (hl:ns.length ≤ 100:=by decide) :
  PD X (.Call (.Name "isinstance" p) [.Name x px,.Tuple es x1 tp] [] pos) (exI i cs fun c=>ns.any fun n=>decide (c = n)):=.mk fun B δ=>by
 obtain ⟨Cs,ha,hp⟩:=hcl.ex
 refine (pe_callB (call_isiT (tl:=.ref r :: XC.bmV)) hgi hm boot_isinstance (pa_cons (pe_var hi hv hd hcd) (pa_cons (pe_tup ha) pa_nil s1) s2) (by decide) (by decide) s2 hpl).imp fun σ H Q ⟨d,en,h,k⟩=>?_
 obtain ⟨c,a,C,od,hc,rfl,h1,h2,h3⟩:=ex_get en h
 obtain ⟨C2,a2⟩:=T.all c hc
 obtain rfl:=at_same a2 h3
 have hz:(1000:Nat) ≤ sizeLine:=by decide
 refine ⟨.ref a,h1,by rw [List.length_map,Pd.len hp]; omega,fun q hq=>⟨a,C,q,Cs,od,rfl,?_,upd_same,a2.cl,owns_of hp,?_⟩⟩
 ·rw [upd_ne (ne_of_none h2 hq)]
  exact h2
 ·rw [any_own T hr hc a2 hp]
  exact k _ _ (same_upd hq) (by rw [rp_bl])
end
end DL
namespace L2
open PySem PySem.Spec PyProof.Rows
section
variable {X:Cx} {pins:List (Addr × Obj)} {σ:St} {H:Hp} {s:Shared} {A:Around} {E:Value→Shared→Prop}
end
end L2
namespace DL
open PySem PySem.Spec PyProof.Rows L2
section
variable {X:Cx} {px pos:Pos} {x:Str}
end
section
variable {X:Cx} {tg:Expr} {body:List Stmt} {pos:Pos} {G:GZ}
end
end DL
namespace XC
open PySem PySem.W
end XC
namespace DL
open PySem PySem.Spec PyProof.Rows L2
section
variable {P:Program} {w:World} {K:W.Frag} {mg:Str→Option Value} {base:Heap}
theorem okXV {x qual:Str} {st:Stmt} {fa:Addr} {fd:FuncData} {N ps:List Str} {k:Nat} {G:GZ} {dV:Value} (F:FunV K x qual st fa fd dV) (S:FnScope N ps (defScope st))
  (body:∀ (cdv:Value) (A:Around) (outer:List PySem.Env) (s:Shared) (H:Hp) (E:XK),Room k (A.deeper (envOfC qual (defScope st) s.heap.objs.size fa cdv))→PSsX (cxOf (CXE P w) P w K mg base N qual (defScope st) fa cdv A outer s H E) (defBody st) G) :
  FnOk P w K mg base (CXE P w) (k + 1) fa fd ps (spX K (mkX ps.length N G)):=by
 obtain ⟨oc,od,kV,doc,pm,an,cdv,ct,osl,rfl,lk,hcd⟩:=F.ex
 refine fn_of lk hcd S (fun vs H Q E ⟨B,ds,r,_,rr,h,_⟩=>by rw [rr.length]; exact (mkX_ok h).1) fun A outer s H vs Q E hr hsp=>?_
 obtain ⟨B,ds,r,hb,rr,h,q⟩:=hsp
 refine ⟨_,(body cdv A outer s H E hr).go H B (dStart N ds),?_⟩
 have en:EnvS K H B H (L2.start N vs) (dStart N ds):=by
  refine ⟨Same.refl H,⟨B,fun _ z=>z,fun _ z=>.inl z,⟨?_,hb,fun i j a ds' es h1 _ _ _=>(dStart_ow h1).elim⟩⟩,fun i ds' a h1 _=>(dStart_ow h1).elim,hb⟩
  unfold L2.start dStart
  rw [rr.length]
  exact Pd.app (start_rel (N:=N) rr) (rep_un _)
 rcases (mkX_ok h).2 with ⟨d,rfl,e⟩ | ⟨c,m,δ,rfl,e⟩
 ·exact ⟨_,en,e,fun v H' s' r'=>q v H' s' r'⟩
 ·refine ⟨_,en,e,fun σ H' C od' en' n x pins s1 ea I lie=>?_⟩
  refine wpAny_bind (I.noted rfl lie fun h' I' lie'=>?_)
  refine ⟨ea,C,od',H',rfl,I'.os,I'.bare,I'.base,I'.hok,lie'.mono fun b z=>⟨z.1,?_⟩,q C od' H' en'.same n x.out⟩
  rcases z.2.2.2.1 with y | y
  ·exact absurd (show b ∈ ([]:List Addr) from y) (by simp)
  ·exact y
end
section
variable {X:Cx} {a0 e:Expr} {es:List Expr} {g0:GE} {gA:GA} {pos posg p pg px:Pos}
end
section
variable {X:Cx} {root c0:Str} {r:Addr} {cs rs:List Str} {body suite:List Stmt} {b₀:Stmt} {np hp pos:Pos} {Gb:GZ} {Gh:GS}
end
section
variable {X:Cx} {e:Expr} {es:List Expr} {gA:GA} {pos p px:Pos}
end
noncomputable def lent (p:Addr) (l:List D):D:=.tup [.int (p:Int),.lst l]
noncomputable def But (p:Addr) (H H':Hp):Prop:=∀ b o,b ≠ p→H b = some o→H' b = some o
section
variable {K:W.Frag} {H H' H₀:Hp} {B B₀:BS} {σ:St} {δ:Ds}
theorem rpl_lent {p a:Addr} {l:List D}:RpL K H B (lent p l) a ↔ a = p∧∃ xs,H a = some (.lst xs)∧Rps K H B l xs:=by
 constructor
 ·rintro ⟨ds,e,xs,h,r⟩
  cases e
  exact ⟨rfl,xs,h,r⟩
 ·rintro ⟨rfl,xs,h,r⟩
  exact ⟨l,rfl,xs,h,r⟩
theorem Gr.but {p:Addr} (hb:B p) (h:But p H H'):Gr H H' B B:=fun b u n e=>⟨n,h b u (fun z=>n (z ▸ hb)) e⟩
theorem Env.mutB (e:Env K H B σ δ) {i:Nat} {d0 d:D} {a:Addr} (hi:δ[i]? = some (.ow d0)) (hs:σ[i]? = some (some (.ref a))) (hh:But a H H') (r:RpL K H' B d a):Env K H' B σ (δ.set i (.ow d)):=by
 obtain ⟨a',h1,hb,_⟩:=e.at hi
 rw [hs] at h1
 cases h1
 refine ⟨?_,fun b z=>?_,fun j k b ds es h1 h2 h3 h4=>?_⟩
 ·have h0:Paired (fun (o':Option V) (s:Sl)=>SlR K H' B o' s ∨ (∃ d,s = .ow d∧o' = some (.ref a))) σ δ:=Pd.imp (fun o' s h=>by
   cases s with
   | un=>exact .inl trivial
   | ex c n=>obtain ⟨v,e,r⟩:=h; exact .inl ⟨v,e,r.mono (Gr.but hb hh)⟩
   | sh d=>obtain ⟨v,e,r⟩:=h; exact .inl ⟨v,e,r.mono (Gr.but hb hh)⟩
   | ow d =>
    obtain ⟨b,e,hb',r⟩:=h
    by_cases z:b = a
    ·subst z; exact .inr ⟨d,rfl,e⟩
    ·exact .inl ⟨b,e,hb',r.mono (fun o h=>hh b o z h) (Gr.but hb hh)⟩) e.all
  have h1:=Pd.setR (i:=i) (b:=Sl.ow d) (.inl ⟨a,rfl,hb,r⟩) hs h0
  refine Pd.impI (fun j o' s e1 e2 h=>?_) h1
  rcases h with h | ⟨d',rfl,rfl⟩
  ·exact h
  ·rcases get_set e2 with ⟨rfl,e3,_⟩ | ⟨hne,e3⟩
   ·cases e3; exact ⟨a,rfl,hb,r⟩
   ·exact absurd (e.own i j a d0 d' hi e3 hs e1) hne
 ·by_cases z':b = a
  ·subst z'; exact r.live
  ·cases q:H b with
   | none=>exact absurd q (e.bad b z)
   | some o=>rw [hh b o z' q]; exact fun z=>nomatch z
 ·have q1:∃ d,δ[j]? = some (.ow d):=by
   rcases get_set h1 with ⟨rfl,_,_⟩ | ⟨_,h⟩
   ·exact ⟨_,hi⟩
   ·exact ⟨_,h⟩
  have q2:∃ d,δ[k]? = some (.ow d):=by
   rcases get_set h2 with ⟨rfl,_,_⟩ | ⟨_,h⟩
   ·exact ⟨_,hi⟩
   ·exact ⟨_,h⟩
  obtain ⟨d1,q1⟩:=q1
  obtain ⟨d2,q2⟩:=q2
  exact e.own j k b d1 d2 q1 q2 h3 h4
theorem EnvS.mutB (en:EnvS K H₀ B₀ H σ δ) (b1:∀ a,B₀ a→B a) (b2:∀ a,B a→B₀ a ∨ H₀ a = none) {i:Nat} {d0 d:D} {a:Addr} (hi:δ[i]? = some (.ow d0)) (hs:σ[i]? = some (some (.ref a))) (hh:But a H H')
  (env:Env K H' B σ (δ.set i (.ow d))):EnvS K H₀ B₀ H' σ (δ.set i (.ow d)):=by
 have h0:=en.fr i d0 a hi hs
 refine ⟨fun b u h=>?_,⟨B,b1,b2,env⟩,fun j ds b h1 h2=>?_,en.b0⟩
 ·have:b ≠ a:=fun z=>by rw [z,h0] at h; cases h
  exact hh _ _ this (en.same b u h)
 ·rcases get_set h1 with ⟨rfl,_,_⟩ | ⟨_,h⟩
  ·rw [hs] at h2; cases h2; exact h0
  ·exact en.fr j ds b h h2
end
noncomputable def spM (K:W.Frag) (me:Bool) (f:List D→Option (List D)):Sp:=fun vs H Q _=>∃ (B:BS) (ds:List D) (us:List V) (p:Addr) (l l':List D),(∀ a,B a→H a ≠ none)∧B p∧vs = us ++ [.ref p]∧Rps K H B ds us∧(∃ xs,H p = some (.lst xs)∧Rps K H B l xs)∧f (ds ++ [.lst l]) = some l' ∧
 ∀ H',But p H H'→(∃ xs,H' p = some (.lst xs)∧Rps K H' B l' xs)→Q (if me = true then .ref p else .non) H'
structure FnM (P:Program) (w:World) (K:W.Frag) (mg:Str→Option Value) (base:Heap) (x:Str) (k:Nat) (ps:List Str) (me:Bool) (f:List D→Option (List D)):Prop where
 ex:∃ fa fd,FnOk P w K mg base CX0 k fa fd ps (spM K me f)∧mg x = some (.ref fa)∧W.keepIn K (.ref fa) = true∧Binds K fd ps []
@[simp] noncomputable def dStartM (N:List Str) (ds:List D) (p:Addr) (l:List D):Ds:=ds.map .sh ++ .ow (lent p l) :: List.replicate (N.length - (ds.length + 1)) .un
theorem startM_ow {N:List Str} {ds:List D} {p:Addr} {l:List D} {i:Nat} {d:D} (h:(dStartM N ds p l)[i]? = some (.ow d)):i = ds.length∧d = lent p l:=by
 unfold dStartM at h
 by_cases hi:i < ds.length
 ·rw [List.getElem?_append_left (by simpa using hi),List.getElem?_map] at h
  cases q:ds[i]? with
  | none=>rw [q] at h; cases h
  | some x=>rw [q] at h; cases h
 ·rw [List.getElem?_append_right (by simpa using hi),List.length_map] at h
  cases q:i - ds.length with
  | zero=>rw [q] at h; cases h; exact ⟨by omega,rfl⟩
  | succ n =>
   rw [q,List.getElem?_cons_succ,List.getElem?_replicate] at h
   split at h <;> cases h
section
variable {P:Program} {w:World} {K:W.Frag} {mg:Str→Option Value} {base:Heap}
theorem okM {x qual:Str} {st:Stmt} {fa:Addr} {fd:FuncData} {N ps:List Str} {k:Nat} {me:Bool} {f:List D→Option (List D)} {G:Ds→Option Res} (F:Fun K x qual st fa fd) (S:FnScope N ps (defScope st))
  (body:∀ (cdv:Value) (A:Around) (outer:List PySem.Env) (s:Shared) (H:Hp) (E:XK),Room k (A.deeper (envOfC qual (defScope st) s.heap.objs.size fa cdv))→PSsD (cxOf CX0 P w K mg base N qual (defScope st) fa cdv A outer s H E).nox (defBody st) G)
  (hf:∀ ds l l',f (ds ++ [.lst l]) = some l'→(ds ++ [D.lst l]).length = ps.length∧∀ p,(me = true∧G (dStartM N ds p l) = some (.rf (lent p l'))) ∨ (me = false∧∃ δ',G (dStartM N ds p l) = some (.nx δ')∧δ'[ds.length]? = some (.ow (lent p l')))) :
  FnOk P w K mg base CX0 (k + 1) fa fd ps (spM K me f):=by
 refine F.ok S (fun vs H Q E ⟨B,ds,us,p,l,l',_,_,hv,r,_,h,_⟩=>?_) (fun cdv A outer s H vs Q E hr ⟨B,ds,us,p,l,l',hb,hp,hv,r,⟨xs,hx,rx⟩,h,q⟩=>?_)
 ·rw [hv,List.length_append,r.length]
  have:=(hf ds l l' h).1
  rw [List.length_append] at this
  exact this
 ·subst hv
  refine ⟨_,body cdv A outer s H E hr (fun a=>if a = p then none else H a) (fun a=>B a∧a ≠ p) (dStartM N ds p l),?_⟩
  have sm:Same (fun a=>if a = p then none else H a) H:=fun b o e=>by
   by_cases z:b = p
   ·simp only [z,if_true] at e; cases e
   ·simp only [z,if_false] at e; exact e
  have sb:∀ {H':Hp},Same (fun a=>if a = p then none else H a) H'→But p H H':=fun s' b o z e=>s' b o (by simp only [z,if_false]; exact e)
  have en:EnvS K (fun a=>if a = p then none else H a) (fun a=>B a∧a ≠ p) H (L2.start N (us ++ [.ref p])) (dStartM N ds p l):=by
   refine ⟨sm,⟨B,fun _ z=>z.1,fun a z=>?_,⟨?_,hb,fun i j a ds' es h1 h2 _ _=>?_⟩⟩,fun i ds' a h1 h2=>?_,fun a z=>?_⟩
   ·by_cases q:a = p
    ·exact .inr (by simp only [q,if_true])
    ·exact .inl ⟨z,q⟩
   ·unfold L2.start dStartM
    rw [List.map_append,List.append_assoc,List.length_append,r.length]
    exact Pd.app (start_rel (N:=N) r) (.cons ⟨p,rfl,hp,rpl_lent.mpr ⟨rfl,xs,hx,rx⟩⟩ (rep_un _))
   ·rw [(startM_ow h1).1,(startM_ow h2).1]
   ·obtain ⟨rfl,_⟩:=startM_ow h1
    have:(L2.start N (us ++ [.ref p]))[ds.length]? = some (some (.ref p)):=by
     unfold L2.start
     rw [← r.length,List.map_append,List.append_assoc,List.getElem?_append_right (by simp),List.length_map,Nat.sub_self]
     rfl
    rw [this] at h2
    cases h2
    simp only [if_true]
   ·simp only [z.2,if_false]
    exact hb a z.1
  have less:∀ a,B a→(B a∧a ≠ p) ∨ a = p:=fun a z=>by
   by_cases q:a = p
   ·exact .inr q
   ·exact .inl ⟨z,q⟩
  rcases (hf ds l l' h).2 p with ⟨m,e⟩ | ⟨m,δ',e,e'⟩
  ·refine ⟨_,en,e,fun a H' _ s' r'=>?_⟩
   obtain ⟨rfl,ys,hy,ry⟩:=rpl_lent.mp r'
   have:=q H' (sb s') ⟨ys,hy,ry.mono (Gr.less less)⟩
   rw [m] at this
   exact this
  ·refine ⟨_,en,e,fun σ' H' en'=>?_⟩
   obtain ⟨B',c1,c2,env'⟩:=en'.ex
   obtain ⟨a,h1,hB,rl⟩:=env'.at e'
   obtain ⟨rfl,ys,hy,ry⟩:=rpl_lent.mp rl
   have:=q H' (sb en'.same) ⟨ys,hy,ry.mono (Gr.less fun b z=>by
    by_cases q:b = a
    ·rw [q]; exact hB
    ·exact c1 b ⟨z,q⟩)⟩
   rw [m] at this
   exact this
end
noncomputable def callM (i:Nat) (gA:GA) (f:List D→Option (List D)):GS:=fun δ=>(gA δ).bind fun ds=>match δ[i]? with
 | some (.ow (.lst l))=>(f (ds ++ [.lst l])).map fun l'=>.nx (δ.set i (.ow (.lst l')))
 | some (.ow (.tup [.int p,.lst l]))=>(f (ds ++ [.lst l])).map fun l'=>.nx (δ.set i (.ow (.tup [.int p,.lst l'])))
 | _=>none
noncomputable def newM (gA:GA) (f:List D→Option (List D)):GE:=fun δ=>(gA δ).bind fun ds=>(f (ds ++ [.lst []])).map .lst
structure PAM (X:Cx) (i:Nat) (es:List Expr) (gA:GA):Prop where
 mk :: go:∀ B δ,PA X es (fun σ H Q=>∃ ds a,Env X.K H B σ δ∧gA δ = some ds∧σ[i]? = some (some (.ref a))∧∀ vs H',Same H H'→Rps X.K H' B ds vs→Q (vs ++ [.ref a]) H')
structure PAN (X:Cx) (es:List Expr) (gA:GA):Prop where
 mk :: go:∀ B δ,PA X es (fun σ H Q=>∃ ds,Env X.K H B σ δ∧gA δ = some ds∧∀ vs H' p,Same H H'→H p = none→Rps X.K H' (fun b=>B b ∨ b = p) ds vs→H' p = some (.lst [])→Q (vs ++ [.ref p]) H')
section
variable {X:Cx} {e:Expr} {es:List Expr} {g:GE} {gA:GA} {pos p px:Pos} {y:Str}
theorem pam_own (i:Nat) (hN:X.N[i]? = some y:=by rfl) (hv:Vis X.env.scope y:=by first | exact Or.inl rfl | exact Or.inr (Or.inl rfl) | exact Or.inr (Or.inr rfl)) (hd:(y == ("__debug__" : Str)) = false:=by decide) (hcd:(y == ("__classdict__" : Str)) = false:=by decide)
  (hs:starEach [.Name y px] X.env = (false,eval (.Name y px) X.env) :: starEach [] X.env:=by rfl):PAM X i [.Name y px] nilA:=.mk fun B δ=>(pa_cons (pe_var (i:=i) hN hv hd hcd) pa_nil hs).imp fun σ H Q ⟨ds,a,en,h,hi,k⟩=>by
 cases h
 exact ⟨_,hi,k [] H (Same.refl H) (by rw [rps_nil])⟩
theorem pam_cons {i:Nat} (ha:PD X e g) (hr:PAM X i es gA) (hs:starEach (e :: es) X.env = (false,eval e X.env) :: starEach es X.env:=by rfl):PAM X i (e :: es) (consA g gA) :=
 .mk fun B δ=>(pa_cons (ha B δ) (hr.go B δ) hs).imp fun σ H Q ⟨ds,a,en,h,hi,k⟩=>by
  unfold consA at h
  cases e1:g δ with
  | none=>rw [e1] at h; cases h
  | some d =>
   cases e2:gA δ with
   | none=>rw [e1,e2] at h; cases h
   | some es' =>
    rw [e1,e2] at h
    cases h
    refine ⟨d,en,e1,fun v H1 s1 r1=>⟨es',a,en.same s1,rfl,hi,fun vs H2 s2 r2=>?_⟩⟩
    have:=k (v :: vs) H2 (s1.trans s2) (by rw [rps_cons]; exact ⟨v,vs,rfl,r1.same s2,r2⟩)
    exact this
theorem pan_new {pl:Pos} (h:PDF X (.List [] pl) (lstG nilA)) (hs:starEach [.List [] pl] X.env = (false,eval (.List [] pl) X.env) :: starEach [] X.env:=by rfl):PAN X [.List [] pl] nilA:=.mk fun B δ=>(pa_cons (h.go B δ) pa_nil hs).imp fun σ H Q ⟨ds,en,h,k⟩=>by
 cases h
 refine ⟨.lst [],en,rfl,fun p H' hp s' r=>?_⟩
 obtain ⟨xs,hx,rx⟩:=r
 rw [rps_nil] at rx
 subst rx
 exact k [] H' p s' hp (by rw [rps_nil]) hx
theorem pan_cons (ha:PD X e g) (hr:PAN X es gA) (hs:starEach (e :: es) X.env = (false,eval e X.env) :: starEach es X.env:=by rfl):PAN X (e :: es) (consA g gA) :=
 .mk fun B δ=>(pa_cons (ha B δ) (hr.go B δ) hs).imp fun σ H Q ⟨ds,en,h,k⟩=>by
  unfold consA at h
  cases e1:g δ with
  | none=>rw [e1] at h; cases h
  | some d =>
   cases e2:gA δ with
   | none=>rw [e1,e2] at h; cases h
   | some es' =>
    rw [e1,e2] at h
    cases h
    refine ⟨d,en,e1,fun v H1 s1 r1=>⟨es',en.same s1,rfl,fun vs H2 p s2 hp r2 hx=>?_⟩⟩
    have:=k (v :: vs) H2 p (s1.trans s2) (s1.free hp) (by rw [rps_cons]; exact ⟨v,vs,rfl,r1.mono (fun b u n e=>⟨fun z=>z.elim n (ne_of_none e hp),s2 _ _ e⟩),r2⟩) hx
    exact this
theorem psd_callM (i:Nat) {x:Str} {k m:Nat} {ps:List Str} {me:Bool} {f:List D→Option (List D)} (C:FnM X.prog X.w X.K X.mg X.base x k ps me f) (hr:Room m X.A) (hk:k ≤ m) (ha:PAM X i (e :: es) gA)
  (hg:Gl X x:=by rfl) (hdb:(x == ("__debug__" : Str)) = false:=by decide) (he:starEach (e :: es) X.env = (false,eval e X.env) :: starEach es X.env:=by rfl) (hpl:(backTo pos (starEach es X.env)).any (·.1) = false:=by rfl)
  {ap:Pos} (hs:swapsWith (.Call (.Name x p) (e :: es) [] pos) none ap.line X.env = pure false:=by rfl) :
  PSD X (.Expr (.Call (.Name x p) (e :: es) [] pos) ap) (callM i gA f):=.mk fun H₀ B₀ δ pins s σ H D I ⟨r,en,e1,kk⟩=>by
 unfold callM at e1
 obtain ⟨B,b1,b2,env⟩:=en.ex
 obtain ⟨fa,fd,F,hm,hkp,hb⟩:=C.ex
 cases e2:gA δ with
 | none=>rw [e2] at e1; cases e1
 | some ds =>
  rw [e2,Option.bind_some] at e1
  have go:∀ {d0:DL.D} {l l':List DL.D} (mk:List DL.D→DL.D),δ[i]? = some (.ow d0)→d0 = mk l→(∀ a,RpL X.K H B d0 a→∃ xs,H a = some (.lst xs)∧Rps X.K H B l xs)→(∀ H' a,RpL X.K H B d0 a→(∃ xs,H' a = some (.lst xs)∧Rps X.K H' B l' xs)→RpL X.K H' B (mk l') a)→f (ds ++ [.lst l]) = some l' →
    ResK X.K H₀ B₀ D (.nx (δ.set i (.ow (mk l'))))→wpAny (model X.prog X.w) X.A (exec (.Expr (.Call (.Name x p) (e :: es) [] pos) ap) X.env) (SP X pins D) X.xe s:=by
   intro d0 l l' mk hi hd h1 h2 hf hD
   obtain ⟨a,hs',hB,ro⟩:=env.at hi
   obtain ⟨xs,hx,rx⟩:=h1 a ro
   refine ps_expr (pe_call (E:=E0) F (hr.mono hk) hg hm hkp hb .nil pass0 (ha.go B δ) hdb he hpl) hs pins s σ H D I ⟨ds,a,env,e2,hs',fun vs H1 s1 r1=>?_⟩
   show spM X.K me f ((vs ++ [.ref a]) ++ []) H1 _ _
   rw [List.append_nil]
   refine ⟨B,ds,vs,a,l,l',(env.same s1).bad,hB,rfl,r1,⟨xs,s1 _ _ hx,rx.same s1⟩,hf,fun H' hh hl'=>?_⟩
   have hh':But a H H':=fun b o n e=>hh b o n (s1 b o e)
   have env2:Env X.K H' B σ (δ.set i (.ow (mk l'))):=env.mutB hi hs' hh' (h2 H' a ro hl')
   exact hD σ H' (en.mutB b1 b2 hi hs' hh' env2)
  split at e1
  ·rename_i l hi
   cases e3:f (ds ++ [.lst l]) with
   | none=>rw [e3] at e1; cases e1
   | some l' =>
    rw [e3] at e1
    cases e1
    exact go .lst hi rfl (fun a h=>h) (fun H' a _ h=>h) e3 kk
  ·rename_i q l hi
   cases e3:f (ds ++ [.lst l]) with
   | none=>rw [e3] at e1; cases e1
   | some l' =>
    rw [e3] at e1
    cases e1
    refine go (fun l=>.tup [.int q,.lst l]) hi rfl (fun a ⟨ds,e,h⟩=>?_) (fun H' a ⟨ds,e,_⟩ h=>⟨l',?_,h⟩) e3 kk
    ·cases e; exact h
    ·cases e; rfl
  ·cases e1
theorem pd_newM {x:Str} {k m:Nat} {ps:List Str} {f:List D→Option (List D)} (C:FnM X.prog X.w X.K X.mg X.base x k ps true f) (hr:Room m X.A) (hk:k ≤ m) (ha:PAN X (e :: es) gA)
  (hg:Gl X x:=by rfl) (hdb:(x == ("__debug__" : Str)) = false:=by decide) (he:starEach (e :: es) X.env = (false,eval e X.env) :: starEach es X.env:=by rfl) (hpl:(backTo pos (starEach es X.env)).any (·.1) = false:=by rfl) :
  PD X (.Call (.Name x p) (e :: es) [] pos) (newM gA f):=by
 obtain ⟨fa,fd,F,hm,hkp,hb⟩:=C.ex
 refine .mk fun B δ=>(pe_call (E:=E0) F (hr.mono hk) hg hm hkp hb .nil pass0 (ha.go B δ) hdb he hpl).imp fun σ H Q h=>?_
 obtain ⟨d,en,h,kk⟩:=h
 unfold newM at h
 cases e1:gA δ with
 | none=>rw [e1] at h; cases h
 | some ds =>
  rw [e1,Option.bind_some] at h
  cases e2:f (ds ++ [.lst []]) with
  | none=>rw [e2] at h; cases h
  | some l' =>
   rw [e2] at h
   cases h
   refine ⟨ds,en,rfl,fun vs H1 a s1 hp r1 hx=>?_⟩
   show spM X.K true f ((vs ++ [.ref a]) ++ []) H1 Q E0
   rw [List.append_nil]
   have nb:¬ B a:=en.free hp
   refine ⟨fun b=>B b ∨ b = a,ds,vs,a,[],l',fun b z=>?_,.inr rfl,rfl,?_,⟨[],hx,by rw [rps_nil]⟩,e2,fun H' hh hl'=>?_⟩
   ·rcases z with z | rfl
    ·exact (en.same s1).bad b z
    ·rw [hx]; exact fun z=>nomatch z
   ·exact r1
   ·obtain ⟨xs,hy,ry⟩:=hl'
    refine kk (.ref a) H' (fun b o e=>hh b o (ne_of_none e hp) (s1 b o e)) ?_
    rw [rp_lst]
    exact ⟨a,xs,rfl,.inl ⟨nb,.inl hy⟩,ry.mono (Gr.less fun b z=>.inl z)⟩
end
noncomputable def appL (i:Nat) (g:GE):GX:=fun δ=>(g δ).bind fun d=>match δ[i]? with
 | some (.ow (.tup [.int p,.lst l]))=>if l.length < sizeLine then some (.non,δ.set i (.ow (.tup [.int p,.lst (l ++ [d])]))) else none
 | _=>none
section
variable {X:Cx} {e:Expr} {g:GE} {x:Str} {px apos cpos:Pos}
theorem px_appL (i:Nat) (h:PD X e g) (hN:X.N[i]? = some x:=by rfl) (hv:Vis X.env.scope x:=by first | exact Or.inl rfl | exact Or.inr (Or.inl rfl) | exact Or.inr (Or.inr rfl)) (hd:(x == ("__debug__" : Str)) = false:=by decide) (hcd:(x == ("__classdict__" : Str)) = false:=by decide)
  (hbase:attributeBase (.Name x px) "append" X.env (eval (.Name x px) X.env) = eval (.Name x px) X.env:=by rfl)
  (hfew:((backTo cpos (starEach [e] X.env)).all (fun x=>!x.1) && (backToKw cpos (keywordEach [] X.env)).all (fun x=>x.1.isSome)
   && decide (([e]:List Expr).length + ([]:List Keyword).length + (if ([]:List Keyword).isEmpty then 0 else 1) < 30)) = true:=by rfl)
  (hline:(apos.endLine == cpos.line) = true:=by rfl) (hs:starEach [e] X.env = (false,eval e X.env) :: starEach [] X.env:=by rfl) (hplain:(backTo cpos (starEach [] X.env)).any (·.1) = false:=by rfl) :
  PX X (.Call (.Attribute (.Name x px) "append" apos) [e] [] cpos) (appL i g):=.mk fun H₀ B₀ δ pins s σ H Q I ⟨r,en,e1,k⟩=>by
 unfold appL at e1
 obtain ⟨B,b1,b2,env⟩:=en.ex
 cases e3:g δ with
 | none=>rw [e3] at e1; cases e1
 | some d =>
  rw [e3,Option.bind_some] at e1
  split at e1
  ·rename_i p ds hi
   split at e1
   ·rename_i hz
    cases e1
    obtain ⟨a,hs',hb,ds',hq,xs,hx,rx⟩:=env.at hi
    cases hq
    refine pe_bm PySem.F.plainAttrs_list PySem.F.slot_list_append PySem.F.type_list_append mt_append (pe_var (i:=i) hN hv hd hcd) (pa_cons (h B δ) pa_nil hs) hbase hfew hline hs hplain pins s σ H Q I
     ⟨_,hs',.inl ⟨rfl,xs,.inl (.inl hx)⟩,d,env,e3,fun v H1 s1 r1=>⟨a,xs,v,rfl,rfl,s1 _ _ hx,by rw [rx.length]; exact hz,?_⟩⟩
    have env2:Env X.K (upd H1 a (.lst (xs ++ [v]))) B σ (δ.set i (.ow (.tup [.int (a:Int),.lst (ds ++ [d])]))):=(env.same s1).mut hi hs' ⟨_,rfl,_,upd_same,(Rps.snoc (rx.same s1) r1).mono (Gr.own hb)⟩
    exact k _ _ (EnvV.mk' (en.mut s1 b1 b2 hi hs' env2) b1 b2 env2 (by rw [rp_non]))
   ·cases e1
  ·cases e1
end
end DL
namespace EnS
open PySem PySem.Spec PyProof.Rows
section
variable {M:Model} {A:Around} {E:Value→Shared→Prop} {s:Shared} {env:Env}
theorem with_kw {pos:Pos} {T:String} {x:Sem Value} {more:List (Bool × Sem Value)} {kws:List (Option Str × Sem Value)} {Q:Value→Shared→Prop} (p1:((false,x) :: more).any (·.1) = false) (p2:kws.any (·.1.isNone) = false) (p3:kws.all (·.1.isSome) = true)
  (h:wpAny M A (spliced ((false,x) :: more)) (fun vs s1=>wpAny M A (evalAll (kws.map (·.2))) (fun ks s2=>wpAny M A (call (.type T) vs ((kws.filterMap (·.1)).zip ks)) Q E s2) E s1) E s) :
  wpAny M A (callWith pos (.type T) [] ((false,x) :: more) kws) Q E s:=by
 unfold callWith
 have h0:=evalArgs_kwB (f:=.type T) (Q:=fun a s1=>wpAny M A (call (.type T) a.pos a.kw) Q E s1) p3 h
 refine wpAny_bind (wpAny_holding (wpAny_mono h0 (fun a s1 g=>wpAny_bind (wpAny_standAt ?_)) fun _ _ z=>z))
 simp only [p1,p2,Bool.or_false]
 refine wpAny_bind (wpAny_pure ?_)
 refine wpAny_bind (wpAny_mono g (fun r s2 hr=>?_) fun _ _ z=>z)
 exact wpAny_bind (wpAny_holding (wpAny_point (wpAny_pure hr)))
end
theorem typeCall (a b:Value):checkTypeCall "enumerate" ⟨[a],[("start",b)]⟩ = pure ():=by kernel_rfl
theorem newCall (a b:Value):checkBuiltinCall "enumerate.__new__" ⟨[.type "enumerate",a],[("start",b)]⟩ = pure ():=by kernel_rfl
theorem initArgs (o a b:Value):argsOk "object.__init__" ⟨[o,a],[("start",b)]⟩:=by first | kernel_rfl | (unfold argsOk; rfl) | trivial
set_option maxHeartbeats 1000000 in
theorem newS (l:Addr) (items:Array Value) (n:Nat) (dc:Option Addr) (sl:Array (Option Value)) (k:Int) (t:Tok) (hk:Builtin.SmallTypes.fitsIndex k = true) :
  Meets (Builtin.«enumerate.__new__» ⟨[.type "enumerate",.ref l],[("start",.int k t)]⟩) (fun _ R s=>s.heap.get? l = some { cls:=.type "list",dict:=dc,data:=.seq items n,slots:=sl } ∧
   R (.ok (.ret (.ref (s.heap.push { cls:=.type "list_iterator",data:=.fields #[.ref l,.int 0 0] }).objs.size)))
    { s with heap:=(s.heap.push { cls:=.type "list_iterator",data:=.fields #[.ref l,.int 0 0] }).push { cls:=.type "enumerate",data:=.fields #[.none,.bool false,.ref s.heap.objs.size,rawInt k,.none,.none] } }) :=
 .of_wp fun prog w A R s h=>by
  obtain ⟨hp,g,d,tk,os⟩:=s; obtain ⟨hl,h⟩:=h
  have q1:=sub_enumerate
  have q2:Heap.IsList (Shared.heap ⟨hp,g,d,tk,os⟩) l items:=⟨_,hl,rfl,n,rfl⟩
  have q3:=AutoSeq1.idx_int
  have q4:¬ ((!Builtin.SmallTypes.fitsIndex k) = true):=by rw [hk]; decide
  wp_walk using wpAny_loadPart' hl
  refine wpAny_stack_any fun st=>wpAny_pure ?_
  split
  ·rename_i c _ _ _ _ _
   cases (c == Value.type "enumerate")
   ·wp_walk using wpAny_loadPart' hl,wpAny_pyIter_list q2
    exact ⟨_,rfl,h⟩
   ·wp_walk using wpAny_loadPart' hl,wpAny_pyIter_list q2
    exact ⟨_,rfl,h⟩
  ·wp_walk using wpAny_loadPart' hl,wpAny_pyIter_list q2
   exact ⟨_,rfl,h⟩
section
variable {prog:Program} {w:World} {A:Around} {E:Value→Shared→Prop} {s:Shared}
theorem init_kw (self a b:Value):Meets (Builtin.«object.__init__» ⟨[self,a],[("start",b)]⟩) (fun _ R s=>s.TypeIs self "enumerate"∧R (.ok (.ret .none)) s):=by
 refine Meets.of_wp fun prog w A R s hs=>?_
 obtain ⟨q1,q2⟩:=hs
 have q3:=F.called_enumerate.init.lookup
 have q4:=F.called_enumerate.made
 have q5:(some "enumerate.__new__" != some "object.__new__") = true:=by decide
 repeat (any_goals (first | assumption | wp_step))
 exact ⟨_,rfl,q2⟩
theorem call_kw {l b:Value} {S:PySem.Spec} {Q:Value→Shared→Prop} (g:Meets (Builtin.«enumerate.__new__» ⟨[.type "enumerate",l],[("start",b)]⟩) S)
  (h:S A.in1 (wants (fun o s1=>s1.TypeIs o "enumerate"∧Q o s1) E) s):wpAny (model prog w) A (call (.type "enumerate") [l] [("start",b)]) Q E s:=by
 have ft:=F.called_enumerate
 obtain ⟨c,tl,m1⟩:=ft.mro
 have m2:=ft.made
 have m3:=ft.sub
 have m4:=ft.notType
 have m5:=ft.canCreate
 have m6:=typeCall l b
 refine wpAny_call (codeAny_of_tree ?_)
 show wpAny _ _ (callAny (.type "enumerate") _) _ _ _
 refine wpAny_pure ⟨Code.quiet_builtin _ (by decide +kernel),codeAny_builtin F.entry_type_call ?_⟩
 rw [Around.under_plain (weight_type_call_type "enumerate" [l] [("start",b)]) (units_type_call_type "enumerate" [l] [("start",b)])]
 repeat (any_goals (first | assumption | wp_step))
 refine codeAny_mono (codeAny_call_builtin ft.plain F.entry_enumerate_new (wpAny_of_eq (newCall l b) (g prog w A.in1 _ s h))) fun r s1 hr=>?_
 cases r with
 | error e=>exact hr
 | ok fl =>
  cases fl with
  | ret o =>
   obtain ⟨hT,hq⟩:=hr
   have n1:=ft.init.lookup
   have n2:=ft.init.bind o
   repeat (any_goals (first | assumption | wp_step))
   have hi:=init_kw o l b prog w A.in1 (wants (fun r s2=>r = .none∧Q o s2) E) s1 ⟨hT,rfl,hq⟩
   refine codeAny_mono (codeAny_call_builtin ft.init.plain F.entry_object_init (ft.init.check _ _ _ _ _ _ _ _ hT (initArgs o l b) hi)) fun r2 s2 hr2=>?_
   cases r2 with
   | error e=>exact hr2
   | ok f2 =>
    cases f2 with
    | ret r =>
     obtain ⟨z,hz⟩:=hr2
     subst z
     repeat (any_goals (first | assumption | wp_step))
    | _=>exact hr2.elim
  | _=>exact hr.elim
end
section
variable {prog:Program} {w:World} {A:Around} {E:Value→Shared→Prop} {s:Shared}
theorem call_list {l:Addr} {items:Array Value} {k:Int} {t:Tok} {Q:Value→Shared→Prop} (hk:Builtin.SmallTypes.fitsIndex k = true) (hL:s.heap.IsList l items)
  (h:∀ h',IsEnum h' (s.heap.objs.size + 1) s.heap.objs.size k .none→h'.IsListIter s.heap.objs.size l 0→(∀ b o,s.heap.get? b = some o→h'.get? b = some o)→Q (.ref (s.heap.objs.size + 1)) { s with heap:=h' }) :
  wpAny (model prog w) A (call (.type "enumerate") [.ref l] [("start",.int k t)]) Q E s:=by
 obtain ⟨⟨c,dc,dt,sl⟩,hl,hc,n,hd⟩:=hL
 replace hc:c = .type "list" := hc
 replace hd:dt = .seq items n:=hd
 subst hc hd
 refine call_kw (newS l items n dc sl k t hk) ⟨hl,?_⟩
 have hz:(s.heap.push { cls:=.type "list_iterator",data:=.fields #[.ref l,.int 0 0] }).objs.size = s.heap.objs.size + 1:=Heap.size_push ..
 show _∧_
 rw [hz]
 have he:IsEnum ((s.heap.push { cls:=.type "list_iterator",data:=.fields #[.ref l,.int 0 0] }).push { cls:=.type "enumerate",data:=.fields #[.none,.bool false,.ref s.heap.objs.size,rawInt k,.none,.none] }) (s.heap.objs.size + 1) s.heap.objs.size k .none:=by
  have z:=Heap.get?_push_size (s.heap.push { cls:=.type "list_iterator",data:=.fields #[.ref l,.int 0 0] }) (o:={ cls:=.type "enumerate",data:=.fields #[.none,.bool false,.ref s.heap.objs.size,rawInt k,.none,.none] }) rfl
  rw [hz] at z
  exact z
 exact ⟨⟨_,he,rfl⟩,h _ he ⟨_,Heap.get?_push_of_some _ (Heap.get?_push_size _ rfl),rfl,rfl⟩ fun b o x=>Heap.get?_push_of_some _ (Heap.get?_push_of_some _ x)⟩
theorem shift {it:Addr} {fp:List Addr} {n:Nat} {P:Nat→Value→Prop} {St:Nat→Heap→Prop} (D:Draws prog w A it fp n P St) (k:Nat):Draws prog w A it fp (k + n) (fun i v=>∃ j,i = k + j∧P j v) (fun i h=>∃ j,i = k + j∧St j h) where
 live:=fun _ h ⟨j,_,st⟩=>D.live j h st
 frame:=fun _ h h' ⟨j,e,st⟩ z=>⟨j,e,D.frame j h h' st z⟩
 item:=fun i s Q E hi ⟨j,e,st⟩ hQ=>D.item j s Q E (by omega) st fun x h' tk p q r=>hQ x h' tk ⟨j,e,p⟩ ⟨j + 1,by omega,q⟩ r
 done:=fun s Q E ⟨j,e,st⟩ hE=>D.done s Q E (by rw [show n = j from by omega]; exact st) hE
theorem ended {it l:Addr} {items:Array Value} {i:Nat} (hh:A.handled = none) (hz:items.size ≤ i):Draws prog w A it [it,l] i (fun _ _=>True) (fun j h=>j = i∧h.IsListIter it l i∧h.IsList l items) where
 live:=fun _ _ st=>let ⟨o,ho,_⟩:=st.2.1; ⟨o,ho⟩
 frame:=fun _ _ _ st z=>⟨st.1,st.2.1.at fun o e=>z it (by simp) o e,st.2.2.at fun o e=>z l (by simp) o e⟩
 item:=fun j s Q E hi st hQ=>absurd st.1 (by omega)
 done:=fun s Q E st hE=>wpAny_nextOf_list_end hh st.2.1 st.2.2 (by simp; omega) hE
end
end EnS
namespace L2
open PySem PySem.Spec PyProof.Rows
noncomputable def Ites (K:W.Frag) (a:Addr) (k:Nat):It :=
 ⟨fun i H=>∃ xs x,SqL K H a xs∧xs[i]? = some x,
   fun i H v H'=>∃ t x,v = .ref t∧H t = none∧H' = upd H t (.tup [.int ((k + i:Nat):Int),x])∧∀ xs,SqL K H a xs→xs[i]? = some x,
   fun i H=>∃ xs,SqL K H a xs∧xs.length ≤ i⟩
theorem turn_enumS {P:Program} {w:World} {K:W.Frag} {elts:List Expr} {x1} {pos:Pos} {e it a:Addr} {k:Nat} (hei:e ≠ it) (hea:e ≠ a) (hai:a ≠ it):Turn P w K (.Tuple elts x1 pos) (Ites K a k) [e,it] e
  (fun i h=>(∃ old,IsEnum h e it ((k + i:Nat):Int) old)∧h.IsListIter it a i) where
 mem:=by simp
 obj:=fun i h st c hc=>by
  obtain ⟨⟨old,he⟩,⟨o1,e1,c1,d1⟩⟩:=st
  simp only [List.mem_cons,List.not_mem_nil,or_false] at hc
  rcases hc with rfl | rfl
  ·exact ⟨_,he,fun v z=>nomatch z⟩
  ·exact ⟨_,e1,fun v z=>by rw [d1] at z; cases z⟩
 keep:=fun i h h' st z=>by
  obtain ⟨⟨old,he⟩,h1⟩:=st
  exact ⟨⟨old,z e (by simp) _ he⟩,h1.at fun o x=>z it (by simp) o x⟩
 item:=by
  intro X hP hw hK hc i pins s σ H E I hf st hg
  subst hP hw hK
  obtain ⟨⟨old,he⟩,h1⟩:=st
  obtain ⟨xs,x,hq,hx⟩:=hg
  obtain ⟨us,rv,p1,z1⟩:=I.list hq
  obtain ⟨u,hu,ru⟩:=rv.get hx
  have hlt:=(List.getElem?_eq_some_iff.mp hu).1
  refine wpAny_pyNext_enum_itemD (EnS.shift (Draws.list (prog:=X.prog) (w:=X.w) (A:=X.A.in1) (I.ok.hd hc) it a hai us.toArray) k) he ⟨i,rfl,h1,p1.isList⟩ (by simp; omega) hei (by simp [hei,hea]) fun x' h' tk hp a1 a2 a3 a4 hk=>?_
  obtain ⟨j,ej,hxj⟩:=hp
  have ej:j = i:=by omega
  subst ej
  have hxu:x' = u:=by
   have:us.toArray[j]? = some u:=by simpa using hu
   rw [this] at hxj
   exact (Option.some.inj hxj).symm
  subst hxu
  obtain ⟨j',e',a2,_⟩:=a2
  have e':j' = j + 1:=by omega
  subst e'
  refine ⟨_,rfl,wpAny_letOwnedTupleGo_enum (s:={ s with heap:=h',toks:=tk + 1 }) a1 fun h'' b1 hs=>?_⟩
  have le:=Heap.lt_size he
  obtain ⟨o1,e1,_⟩:=id h1
  have l1:=Heap.lt_size e1
  obtain ⟨I1,fr⟩:=I.turnedNew (h':=h'') (t':=tk + 1) (fp:=[e,it]) (x:=.int ((k + j:Nat):Int)) (u:=.int ((k + j:Nat):Int) tk) hf ⟨_,rfl⟩ ru (fun c hc=>by
   simp only [List.mem_cons,List.not_mem_nil,or_false] at hc
   rcases hc with rfl | rfl <;> assumption) ((hs.2 _ (Nat.ne_of_gt le)).trans a3) (fun c o hc x=>by
   simp only [List.mem_cons,List.not_mem_nil,or_false,not_or] at hc
   exact (hs.2 _ hc.1).trans (hk c o hc.1 hc.2 x))
  exact ⟨.ref s.heap.objs.size,_,I1,rfl,⟨_,x,rfl,I.hok.fresh (Nat.le_refl _),rfl,fun ys hy=>by rw [I.list_inj hy hq]; exact hx⟩,⟨⟨_,by simpa [Int.add_assoc] using b1⟩,a2.at fun o y=>(hs.2 it hei.symm).trans y⟩,fr⟩
 done:=by
  intro X hP hw hK hc i pins s σ H E I hf st hg
  subst hP hw hK
  obtain ⟨⟨old,he⟩,h1⟩:=st
  obtain ⟨xs,hq,hend⟩:=hg
  obtain ⟨us,rv,p1,z1⟩:=I.list hq
  have l1:=rv.length
  refine wpAny_pyNext_enum_endD (EnS.ended (prog:=X.prog) (w:=X.w) (A:=X.A.in1) (items:=us.toArray) (i:=i) (I.ok.hd hc) (by simp; omega)) he ⟨rfl,h1,p1.isList⟩ fun h' hk=>⟨rfl,I.turnedL (t':=s.toks) (fp:=[e,it]) hf fun c o hc x=>?_⟩
  simp only [List.mem_cons,List.not_mem_nil,or_false,not_or] at hc
  exact hk c o hc.2 x
 self:=fun _ _ _ _ _ st h=>by
  obtain ⟨⟨old,he⟩,_⟩:=st
  exact wpAny_pyIter_enum he h
section
variable {X:Cx} {elts:List Expr} {x1:Nat} {tpos:Pos}
noncomputable def iEnumS (K:W.Frag) (ta:TA) (tb:TE):TI:=fun σ H R=>ta σ H fun vs H1=>tb σ H1 fun v H2=>∃ a,∃ k:Nat,vs = [.ref a]∧v = .int (k:Int)∧k < 2 ^ 62∧(∃ xs,SqL K H2 a xs)∧R (Ites K a k) H2
theorem pi_enumS {a b:Expr} {ta:TA} {tb:TE} {p pos kp:Pos} (hg:Gl X "enumerate") (hm:X.mg "enumerate" = none) (ha:PA X [a] ta) (hb:PE X b tb)
  (he:backTo pos (starEach [a] X.env) = (false,eval a X.env) :: backTo pos (starEach [] X.env):=by rfl) (hpl:((false,eval a X.env) :: backTo pos (starEach [] X.env)).any (·.1) = false:=by rfl)
  (hk1:(backToKw pos (keywordEach [(⟨some (Str.ofString "start"),b,kp⟩:Keyword)] X.env)).any (·.1.isNone) = false:=by rfl) (hk2:(backToKw pos (keywordEach [(⟨some (Str.ofString "start"),b,kp⟩:Keyword)] X.env)).all (·.1.isSome) = true:=by rfl) (hk3:(backToKw pos (keywordEach [(⟨some (Str.ofString "start"),b,kp⟩:Keyword)] X.env)).filterMap (·.1) = [Str.ofString "start"]:=by rfl)
  (hc:eval (.Call (.Name "enumerate" p) [a] [(⟨some (Str.ofString "start"),b,kp⟩:Keyword)] pos) X.env = (do callWith pos (← eval (.Name "enumerate" p) X.env) [] (backTo pos (starEach [a] X.env)) (backToKw pos (keywordEach [(⟨some (Str.ofString "start"),b,kp⟩:Keyword)] X.env))):=by rfl) :
  PI X (.Tuple elts x1 tpos) (.Call (.Name "enumerate" p) [a] [(⟨some (Str.ofString "start"),b,kp⟩:Keyword)] pos) (iEnumS X.K ta tb):=by
 intro pins s σ H R I h
 rw [hc]
 refine wpAny_bind (ld_blt I hg hm boot_enum ?_)
 rw [he]
 refine EnS.with_kw hpl hk1 hk2 ?_
 rw [← he]
 refine thn (ha pos pins s σ H _ I h) fun us s1 ⟨vs,H1,I1,r1,q1⟩=>?_
 refine kws_cons (thn (hb pins s1 σ H1 _ I1 q1) fun ub s2 ⟨vb,H2,I2,r2,q2⟩=>kws_nil ?_)
 rw [hk3]
 obtain ⟨qa,k,e1,e2,hk,⟨xs,h1⟩,q⟩:=q2
 subst e1 e2
 cases r1 with
 | cons r rr =>
  cases rr
  obtain rfl:=r
  obtain ⟨t,rfl⟩:=r2
  obtain ⟨us1,v1,p1,z1⟩:=I2.list h1
  have a1:qa < s2.heap.objs.size:=by obtain ⟨_,e,_⟩:=p1.isList; exact Heap.lt_size e
  refine EnS.call_list (by unfold Builtin.SmallTypes.fitsIndex; simp; omega) p1.isList fun h' hz hi1 hkp=>?_
  refine wpAny_pyIter_enum (s:={ s2 with heap:=h' }) hz ?_
  refine ⟨_,_,_,_,H2,rfl,I2.kept (t':=s2.toks) hkp,turn_enumS (a:=qa) (k:=k) (Nat.ne_of_gt (Nat.lt_succ_self _)) (Nat.ne_of_gt (Nat.lt_succ_of_lt a1)) (Nat.ne_of_lt a1),⟨⟨_,hz⟩,hi1⟩,fun b hb=>?_,q⟩
  simp only [List.mem_cons,List.not_mem_nil,or_false] at hb
  rcases hb with rfl | rfl
  ·exact I2.fpOk (Nat.le_add_right _ 1) (I2.hok.fresh (Nat.le_add_right _ 1))
  ·exact I2.fpOk (Nat.le_refl _) (I2.hok.fresh (Nat.le_refl _))
end
end L2
namespace DL
open PySem PySem.Spec PyProof.Rows L2
noncomputable def enumSD (k:Nat) (ds:List D):List D:=(List.range ds.length).map fun (j:Nat)=>.tup [.int ((k + j:Nat):Int),ds.getD j .non]
noncomputable def enumSI (gA:GA) (g:GE):GA:=fun δ=>(gA δ).bind fun ds=>(g δ).bind fun n=>match ds,n with
 | [.lst l],.int k=>if 0 ≤ k∧k < 2 ^ 62 then some (enumSD k.toNat l) else none
 | _,_=>none
noncomputable def retCZ (gA:GA) (f:List D→Option DX):GZ:=fun δ=>(gA δ).bind fun ds=>(f ds).map fun r=>match r with
 | .ok d=>.ok (.rt d)
 | .ex c n=>.ex c n δ
section
variable {X:Cx} {elts:List Expr} {x1:Nat} {tpos:Pos} {a b e:Expr} {es:List Expr} {p pos kp:Pos} {gA:GA} {gb:GE}
theorem pid_enumS (hm:X.mg "enumerate" = none) (ha:PDA X [a] gA) (hb:PD X b gb) (hg:Gl X "enumerate" := by rfl)
  (he:backTo pos (starEach [a] X.env) = (false,eval a X.env) :: backTo pos (starEach [] X.env):=by rfl) (hpl:((false,eval a X.env) :: backTo pos (starEach [] X.env)).any (·.1) = false:=by rfl)
  (hk1:(backToKw pos (keywordEach [(⟨some (Str.ofString "start"),b,kp⟩:Keyword)] X.env)).any (·.1.isNone) = false:=by rfl) (hk2:(backToKw pos (keywordEach [(⟨some (Str.ofString "start"),b,kp⟩:Keyword)] X.env)).all (·.1.isSome) = true:=by rfl) (hk3:(backToKw pos (keywordEach [(⟨some (Str.ofString "start"),b,kp⟩:Keyword)] X.env)).filterMap (·.1) = [Str.ofString "start"]:=by rfl)
  (hc:eval (.Call (.Name "enumerate" p) [a] [(⟨some (Str.ofString "start"),b,kp⟩:Keyword)] pos) X.env = (do callWith pos (← eval (.Name "enumerate" p) X.env) [] (backTo pos (starEach [a] X.env)) (backToKw pos (keywordEach [(⟨some (Str.ofString "start"),b,kp⟩:Keyword)] X.env))):=by rfl) :
  PID X (.Tuple elts x1 tpos) (.Call (.Name "enumerate" p) [a] [(⟨some (Str.ofString "start"),b,kp⟩:Keyword)] pos) (enumSI gA gb):=.mk fun B δ=>L2.PI.imp (pi_enumS hg hm (ha B δ) (hb B δ) he hpl hk1 hk2 hk3 hc) fun σ H R ⟨items,en,e1,k⟩=>by
 unfold enumSI at e1
 cases e2:gA δ with
 | none=>rw [e2] at e1; cases e1
 | some ds =>
  cases e3:gb δ with
  | none=>rw [e2,e3] at e1; cases e1
  | some n =>
   rw [e2,e3,Option.bind_some,Option.bind_some] at e1
   split at e1
   ·rename_i l kk
    split at e1
    ·rename_i hkk
     cases e1
     refine ⟨_,en,e2,fun vs H1 s1 r=>⟨_,en.same s1,e3,fun v H2 s2 r2=>?_⟩⟩
     rw [rps_cons] at r
     obtain ⟨x,t,rfl,r1,r⟩:=r
     rw [rps_nil] at r; subst r
     rw [rp_int] at r2
     subst r2
     replace r1:=r1.same s2
     rw [rp_lst] at r1
     obtain ⟨q1,us,rfl,sq,t1⟩:=r1
     have hlen:(enumSD kk.toNat l).length = us.length:=by unfold enumSD; simp [t1.length]
     refine ⟨q1,kk.toNat,rfl,by rw [Int.toNat_of_nonneg hkk.1],by omega,⟨us,sq.to⟩,k _ H2 (s1.trans s2) ⟨fun i H3 g2 hi=>?_,fun i H3 v H4 g2 y hi=>?_,fun i H3 g2 hi=>?_⟩⟩
     ·rw [hlen] at hi
      exact ⟨us,us[i],(sq.mono g2).to,by simp [hi]⟩
     ·obtain ⟨t,x,rfl,ht,rfl,hx⟩:=y
      rw [hlen,t1.length] at hi
      obtain ⟨x',e4,rx⟩:=t1.get (i:=i) (List.getElem?_eq_getElem hi)
      have ex:=hx us (sq.mono g2).to
      rw [e4] at ex
      cases ex
      refine ⟨same_upd ht,.tup [.int ((kk.toNat + i:Nat):Int),l[i]],by unfold enumSD; simp [hi],fun B' gB hb=>?_⟩
      exact rp_pair (fun z=>hb t z ht) upd_same (by rw [rp_int]) (rx.mono gB)
     ·rw [hlen] at hi
      exact ⟨us,(sq.mono g2).to,hi⟩
    ·cases e1
   ·cases e1
theorem psx_retC {x:Str} {px:Pos} {k m:Nat} {ps:List Str} {f:List D→Option DX} (C:FnX X.prog X.w X.K X.mg X.base x k ps f) (hr:Room m X.A) (hk:k ≤ m) (ha:PDA X (e :: es) gA)
  (hg:Gl X x:=by rfl) (hdb:(x == ("__debug__" : Str)) = false:=by decide) (he:starEach (e :: es) X.env = (false,eval e X.env) :: starEach es X.env:=by rfl) (hpl:(backTo pos (starEach es X.env)).any (·.1) = false:=by rfl) {ap:Pos} :
  PSX X (.Return (some (.Call (.Name x px) (e :: es) [] pos)) ap) (retCZ gA f):=.mk fun H₀ B₀ δ pins s σ H D I ⟨r,en,e1,k⟩=>by
 unfold retCZ at e1
 obtain ⟨B,b1,b2,env⟩:=en.ex
 obtain ⟨fa,fd,F,hm,hkp,hb⟩:=C.ex
 cases e2:gA δ with
 | none=>rw [e2] at e1; cases e1
 | some ds =>
  rw [e2,Option.bind_some] at e1
  cases e3:f ds with
  | none=>rw [e3] at e1; cases e1
  | some dx =>
   rw [e3] at e1
   cases e1
   refine ps_ret (pe_callX (dvs:=[]) (ds:=[]) F (hr.mono hk) hg hm hkp hb .nil (ha B δ) hdb he hpl) pins s σ H D I ⟨ds,env,e2,fun vs H1 s1 r1=>?_⟩
   show spX X.K f (vs ++ []) H1 _ _
   rw [List.append_nil]
   refine ⟨B,ds,dx,(env.same s1).bad,r1,e3,?_⟩
   cases dx with
   | ok d=>exact fun v H' s2 r2=>k v H' (en.same.trans (s1.trans s2)) (r2.mono (Gr.less b1))
   | ex c m =>
    intro C od H' s2 n x C' q
    cases q
    refine k σ H' C od (en.grow (s1.trans s2)) n ?_
    cases m with
    | none=>trivial
    | some m =>
     obtain ⟨dx,e,x1,x2⟩:=x
     exact ⟨dx,B,e,same_dead (en.same.trans s1) x1,x2,b1,b2,env.same (s1.trans s2),fun z=>(env.same s1).bad dx z x1⟩
end
end DL
namespace L2
open PySem PySem.Spec PyProof.Rows
theorem down (n:Nat):sliceRange ((n:Int) - 1) (-1) (-1) = (List.range n).reverse:=by
 unfold sliceRange
 simp only []
 rw [if_neg (by decide)]
 have hc:(if (n:Int) - 1 > -1 then ((n:Int) - 1 - -1 - -1 - 1) / (- -1) else 0).toNat = n:=by
  split
  ·rw [show ((n:Int) - 1 - -1 - -1 - 1) = (n:Int) from by omega,show (- -1:Int) = 1 from rfl,Int.ediv_one,Int.toNat_natCast]
  ·omega
 rw [hc]
 apply List.ext_getElem?
 intro j
 by_cases hj:j < n
 ·rw [List.getElem?_map,List.getElem?_range hj,List.getElem?_reverse (by simpa using hj),List.length_range,List.getElem?_range (by omega)]
  show some (((n:Int) - 1 + -1 * (j:Int)).toNat) = _
  congr 1
  omega
 ·rw [List.getElem?_eq_none (by simp; omega),List.getElem?_eq_none (by simp; omega)]
theorem pick_all (its:List Value):∀ l:List Nat,(∀ j ∈ l,j < its.length)→l.filterMap (fun x=>its.toArray[x]?) = l.map fun j=>its.getD j .none
 | [],_=>rfl
 | j :: l,h=>by
  have hj:=h j List.mem_cons_self
  rw [List.filterMap_cons,List.map_cons,pick_all its l fun q hq=>h q (List.mem_cons_of_mem _ hq)]
  simp [hj]
theorem pick_rev (its:List Value):slicePick its.toArray none none (some (-1)) = its.reverse.toArray:=by
 unfold slicePick
 have h:sliceBounds none none (some (-1)) its.toArray.size = (((its.toArray.size:Nat):Int) - 1,-1,-1):=by
  unfold sliceBounds
  rfl
 rw [h]
 simp only [down]
 congr 1
 rw [List.size_toArray,pick_all its _ (by simp),← List.map_reverse.symm]
 congr 1
 apply List.ext_getElem?
 intro j
 by_cases hj:j < its.length
 ·simp [hj]
 ·rw [List.getElem?_eq_none (by simp; omega),List.getElem?_eq_none (by omega)]
section
variable {X:Cx} {e st:Expr} {te:TE} {ts:TO} {pos p2:Pos}
noncomputable def tRev (K:W.Frag) (te:TE) (ts:TO):TE:=fun σ H Q=>te σ H fun x H1=>ts σ H1 fun o H2=>o = some (-1)∧∃ a xs,x = .ref a∧SqL K H2 a xs∧∀ p,H2 p = none→Q (.ref p) (upd H2 p (.lst xs.reverse))
theorem pe_rev (he:PE X e te) (hs:PO X (some st) ts):PE X (.Subscript e (.Slice none none (some st) p2) pos) (tRev X.K te ts):=by
 intro pins s σ H Q I h
 refine Subscript_ (thn (he pins s σ H _ I h) fun v s1 ⟨x,H1,I1,r1,q1⟩=>?_)
 refine wpAny_Slice ?_
 rw [evalPart_none]
 refine wpAny_pure ?_
 refine wpAny_pure ?_
 refine thn (hs pins s1 σ H1 _ I1 q1) fun vt s2 ⟨o,H2,I2,pt,q2⟩=>?_
 obtain ⟨rfl,a,xs,rfl,hx,q⟩:=q2
 cases r1
 have I4:Inv X pins σ H2 { s2 with heap:=s2.heap.push { cls:=.type "slice",data:=.fields #[.none,.none,vt] } }:=I2.kept (t':=s2.toks) fun b ob q=>Heap.get?_push_of_some _ q
 obtain ⟨its,r,ht,hz⟩:=I4.list hx
 have hlen:=r.length
 show wpAny (model X.prog X.w) X.A (subscriptTail e (.Slice none none (some st) p2) (.ref a) (.ref s2.heap.objs.size)) (EP X pins σ Q) X.xe { s2 with heap:=s2.heap.push { cls:=.type "slice",data:=.fields #[.none,.none,vt] } }
 refine tail_any (ops:=[.ref a,.ref s2.heap.objs.size]) ht.isList.typeIs slot_list_getitem.lookup ?_ (by with_unfolding_all rfl)
 refine wpAny_getItem_list_slice ht.isList (Heap.IsSliceOf.new ..) .none .none pt (by decide) ?_ (by rw [List.size_toArray] <;> omega)
 rw [pick_rev]
 refine ⟨.ref (s2.heap.push { cls:=.type "slice",data:=.fields #[.none,.none,vt] }).objs.size,_,I4.laid (t':=s2.toks) (o:=.lst xs.reverse) (fun b ob q=>Heap.get?_push_of_some _ q) (Nat.le_refl _) ?_,rfl,q _ (I4.hok.fresh (Nat.le_refl _))⟩
 exact ⟨by rw [List.length_reverse]; exact hz,_,0,r.reverse,Heap.get?_push_size _ rfl⟩
end
end L2
namespace DL
open PySem PySem.Spec PyProof.Rows L2
noncomputable def revG (g:GE):GE:=fun δ=>(g δ).bind fun d=>match d with
 | .lst l=>some (.lst l.reverse)
 | _=>none
section
variable {X:Cx} {e st:Expr} {g:GE} {gs:Ds→Option (Option Int)} {pos p2:Pos}
theorem rps_rev {K:W.Frag} {H:Hp} {B:BS}:∀ {ds:List D} {xs:List V},Rps K H B ds xs→Rps K H B ds.reverse xs.reverse
 | [],xs,h=>by rw [rps_nil] at h; subst h; rw [List.reverse_nil,rps_nil]; rfl
 | d :: ds,xs,h=>by
  rw [rps_cons] at h
  obtain ⟨x,r,rfl,h1,h2⟩:=h
  rw [List.reverse_cons,List.reverse_cons]
  exact (rps_rev h2).append (by rw [rps_cons]; exact ⟨x,[],rfl,h1,by rw [rps_nil]⟩)
theorem pd_rev (he:PD X e g) (hs:PDO X (some st) gs) (hm:∀ δ,gs δ = some (some (-1)):=by intro _; rfl):PD X (.Subscript e (.Slice none none (some st) p2) pos) (revG g):=.mk fun B δ =>
 (pe_rev (he B δ) (hs B δ)).imp fun σ H Q ⟨d,en,h,k⟩=>by
  unfold revG at h
  cases e1:g δ with
  | none=>rw [e1] at h; cases h
  | some x =>
   rw [e1,Option.bind_some] at h
   split at h
   ·rename_i l
    cases h
    refine ⟨_,en,e1,fun v H1 s1 r1=>⟨_,en.same s1,hm δ,fun H2 s2=>⟨rfl,?_⟩⟩⟩
    replace r1:=r1.same s2
    have hb:=((en.same s1).same s2).bad
    rw [rp_lst] at r1
    obtain ⟨a,xs,rfl,q,r⟩:=r1
    exact ⟨a,xs,rfl,q.to,fun p hp=>k _ _ ((s1.trans s2).trans (same_upd hp)) (rp_newL hb hp (rps_rev r))⟩
   ·cases h
end
theorem fnOkM_never {P:Program} {w:World} {K:W.Frag} {mg:PySem.Str→Option Value} {base:Heap} {k:Nat} {fa:Addr} {fd:FuncData} {ps:List PySem.Str} {me:Bool} {f:List D→Option (List D)} (hf:∀ ds,f ds = none):FnOk P w K mg base CX0 k fa fd ps (spM K me f) :=
 ⟨fun vs H Q E ⟨_,_,_,_,_,_,_,_,_,_,_,h,_⟩=>(by rw [hf] at h; cases h),fun A outer s H args us vs Q E _ _ _ _ ⟨_,_,_,_,_,_,_,_,_,_,_,h,_⟩=>(by rw [hf] at h; cases h)⟩
noncomputable def FnXd (P:Program) (w:World) (K:W.Frag) (mg:Str→Option Value) (base:Heap) (x:Str) (k:Nat) (ps:List Str) (f:List D→Option DX) (dd:List D):Prop :=
 ∃ (fa:Addr) (fd:FuncData) (us:List Value) (vs:List V),FnOk P w K mg base (CXE P w) k fa fd ps (spX K f)∧mg x = some (.ref fa)∧W.keepIn K (.ref fa) = true∧Binds K fd ps us∧Vals vs us∧∀ H B,Rps K H B dd vs
section
variable {X:Cx} {e:Expr} {es:List Expr} {gA:GA} {pos p px:Pos}
theorem psx_callD (i:Nat) {y x:Str} {k m:Nat} {ps:List Str} {f:List D→Option DX} {dd:List D} (C:FnXd X.prog X.w X.K X.mg X.base x k ps f dd) (hr:Room m X.A) (hk:k ≤ m) (ha:PDA X (e :: es) gA) (hN:X.N.Nodup)
  (hi:X.N[i]? = some y:=by rfl) (hx:Loc X.env.scope y:=by first | exact Or.inl rfl | exact Or.inr rfl) (hf:X.fn y = true ∨ X.env.scope.names.lookup y = some .local:=by first | exact .inl rfl | exact .inr rfl | assumption)
  (hg:Gl X x:=by rfl) (hdb:(x == ("__debug__" : Str)) = false:=by decide) (he:starEach (e :: es) X.env = (false,eval e X.env) :: starEach es X.env:=by rfl) (hpl:(backTo pos (starEach es X.env)).any (·.1) = false:=by rfl)
  {ap:Pos} (hs:swapsWithSole [.Name y px] (.Call (.Name x p) (e :: es) [] pos) ap.line X.env = pure false:=by rfl) (hw:swappedStores [.Name y px] (.Call (.Name x p) (e :: es) [] pos) X.env = pure none:=by rfl)
  (h1:(assignEach [.Name y px] X.env).map (·.2) = [assign (.Name y px) X.env]:=by rfl) :
  PSX X (.Assign [.Name y px] (.Call (.Name x p) (e :: es) [] pos) ap) (callZ gA (fun ds=>f (ds ++ dd)) i):=.mk fun H₀ B₀ δ pins s σ H D I ⟨r,en,e1,k⟩=>by
 unfold callZ at e1
 obtain ⟨B,b1,b2,env⟩:=en.ex
 obtain ⟨fa,fd,us0,dvs,F,hm,hkp,hb,hd,hrp⟩:=C
 cases e2:gA δ with
 | none=>rw [e2] at e1; cases e1
 | some ds =>
  rw [e2,Option.bind_some] at e1
  replace e1:(f (ds ++ dd)).map (outZ i δ) = some r:=e1
  cases e3:f (ds ++ dd) with
  | none=>rw [e3] at e1; cases e1
  | some dx =>
   rw [e3] at e1
   cases e1
   refine ps_asg (pe_callX F (hr.mono hk) hg hm hkp hb hd (ha B δ) hdb he hpl) (pg_name (i:=i) hN hi hx hf) hs hw h1 pins s σ H D I ⟨ds,env,e2,fun vs H1 s1 r1=>?_⟩
   show spX X.K f (vs ++ dvs) H1 _ _
   refine ⟨B,ds ++ dd,dx,(env.same s1).bad,r1.append (hrp H1 B),e3,?_⟩
   cases dx with
   | ok d=>exact fun v H' s2 r2=>k _ H' (en.wr b1 b2 (s1.trans s2) wr_set ((env.same (s1.trans s2)).set i r2))
   | ex c m =>
    intro C od H' s2 n x C' q
    cases q
    refine k σ H' C od (en.grow (s1.trans s2)) n ?_
    cases m with
    | none=>trivial
    | some m =>
     obtain ⟨dx,e,x1,x2⟩:=x
     exact ⟨dx,B,e,same_dead (en.same.trans s1) x1,x2,b1,b2,env.same (s1.trans s2),fun z=>(env.same s1).bad dx z x1⟩
end
end DL
namespace W
open PySem DL
noncomputable def hasAll (x s:Str):Bool:=x.cps.toList.all fun c=>decide (c ∈ s.cps.toList)
noncomputable def nameS:Str := "0123456789abcdefghijklmnopqrstuvwxyz"
noncomputable def wordS:Str := " 0123456789abcdefghijklmnopqrstuvwxyz"
noncomputable def isName (x:Str):Bool:=(decide ((x.length:Int) ≤ 8) && hasAll x nameS) && decide (0 < (x.length:Int))
noncomputable def isWord (x:Str):Bool:=decide ((x.length:Int) ≤ 20) && hasAll x wordS
noncomputable def marks (x:D) (m:Str):Bool:=match x with
 | .str y=>decide (y = m)
 | _=>false
noncomputable def valB:D→Bool
 | .non=>true
 | .int _=>true
 | .tup [x,.int i]=>marks x "at" && decide (0 ≤ i)
 | _=>false
noncomputable def fstS:D→Str
 | .tup (.str n :: _)=>n
 | _ => ""
inductive Pt where
 | text (w:Str) | row (vs:List D) | table (ps:List (Str × D)) | rcd (c:Str) (ps:List (Str × D))
noncomputable def pr (p:Str × D):D:=.tup [.str p.1,p.2]
noncomputable def Pt.d:Pt→D
 | .text w=>.tup [.str "text",.str w]
 | .row vs=>.tup [.str "row",.tup vs]
 | .table ps=>.tup [.str "table",.tup (ps.map pr)]
 | .rcd c ps=>.tup [.str "record",.str c,.tup (ps.map pr)]
noncomputable def Pt.vals:Pt→List D
 | .text _=>[]
 | .row vs=>vs
 | .table ps=>ps.map (·.2)
 | .rcd _ ps=>ps.map (·.2)
noncomputable def Pt.pnames:Pt→List Str
 | .text _=>[]
 | .row _=>[]
 | .table ps=>ps.map (·.1)
 | .rcd _ ps=>ps.map (·.1)
noncomputable def Pt.cls:Pt→List Str
 | .rcd c _=>[c]
 | _=>[]
noncomputable def Pt.all (p:Pt):List Str:=p.pnames ++ p.cls
noncomputable def lk:D→Option Int
 | .tup [_,.int i]=>some i
 | _=>none
structure PsOk (ps:List (Str × D)):Prop where
 len:ps.length ≤ 12
 names:∀ p ∈ ps,isName p.1 = true
 vals:∀ p ∈ ps,valB p.2 = true
 nd:(ps.map (·.1)).Nodup
noncomputable def Pt.Ok:Pt→Prop
 | .text w=>isWord w = true
 | .row vs=>vs.length ≤ 12∧∀ v ∈ vs,valB v = true
 | .table ps=>PsOk ps
 | .rcd c ps=>isName c = true∧PsOk ps
theorem name_short {n:Str} (h:isName n = true):n.length ≤ 8:=by
 unfold isName at h
 simp only [Bool.and_eq_true,decide_eq_true_eq] at h
 omega
theorem comp_snd (ps:List (Str × D)):compD (gN 0) noT (o2 (gv 0) (gc (.int 1)) ixD) [.un] (ps.map pr) = some (ps.map (·.2)):=by
 rw [compD_map (fun d=>match d with | .tup [_,v]=>v | _=>.non) (fun d hd=>by
  obtain ⟨p,hp,rfl⟩:=List.mem_map.mp hd
  exact ⟨[.sh (pr p)],rfl,rfl,rfl⟩),List.map_map]
 rfl
theorem comp_fst (ps:List (Str × D)):compD (gN 0) noT (o2 (gv 0) (gc (.int 0)) ixD) [.un] (ps.map pr) = some ((ps.map (·.1)).map .str):=by
 rw [compD_map (fun d=>.str (fstS d)) (fun d hd=>by
  obtain ⟨p,hp,rfl⟩:=List.mem_map.mp hd
  exact ⟨[.sh (pr p)],rfl,rfl,rfl⟩),List.map_map,List.map_map]
 rfl
noncomputable def Pt.few (p:Pt):Prop:=p.vals.length ≤ sizeLine
theorem val_cases {v:D} (h:valB v = true):v = .non ∨ (∃ i,v = .int i) ∨ ∃ i,v = .tup [.str "at",.int i]∧0 ≤ i:=by
 cases v with
 | non=>exact .inl rfl
 | int i=>exact .inr (.inl ⟨i,rfl⟩)
 | tup xs =>
  match xs,h with
  | [x,.int i],h =>
   simp only [valB,Bool.and_eq_true,decide_eq_true_eq] at h
   cases x <;> simp [marks] at h
   exact .inr (.inr ⟨i,by rw [h.1],h.2⟩)
 | _=>cases h
noncomputable def signS:Str := "abcdefghijklmnopqrstuvwxyz0123456789"
noncomputable def cg (i:Int):Nat:=signS.cps.toList.getD i.toNat 0
theorem sign_at (i:Int) (h0:0 ≤ i) (h1:i < 36):ixD (.str signS) (.int i) = some (.str ⟨#[cg i]⟩):=by
 have hl:signS.cps.toList.length = 36:=by decide +kernel
 have hz:signS.length ≤ sizeLine:=by decide +kernel
 have:=atI_in (xs:=signS.cps.toList) (i:=i) h0 (by rw [hl]; omega) 0
 simp only [ixD,if_pos hz,this,Option.map_some]
 rfl
theorem cg_mem (i:Int) (h0:0 ≤ i) (h1:i < 36):cg i ∈ nameS.cps.toList:=by
 have h:∀ n:Nat,n < 36→signS.cps.toList.getD n 0 ∈ nameS.cps.toList:=by decide +kernel
 exact h i.toNat (by omega)
theorem cg_inj (i j:Int) (h0:0 ≤ i) (h1:i < 36) (h2:0 ≤ j) (h3:j < 36) (e:cg i = cg j):i = j:=by
 have h:∀ n:Nat,n < 36→∀ m:Nat,m < 36→signS.cps.toList.getD n 0 = signS.cps.toList.getD m 0→n = m:=by decide +kernel
 have:=h i.toNat (by omega) j.toNat (by omega) e
 omega
noncomputable def ones (l:List Nat):List Str:=l.map fun c=>⟨#[c]⟩
noncomputable def strOf (l:List Nat):Str:=⟨l.toArray⟩
theorem join_ones (l:List Nat):Txt.join "" (ones l) = strOf l:=by
 have key:∀ (l:List Nat) (acc:List Nat),(ones l).foldl (fun a p=>a ++ ("" : Str).cps ++ p.cps) acc.toArray = (acc ++ l).toArray:=by
  intro l
  induction l with
  | nil=>intro acc; simp [ones]
  | cons c l ih =>
   intro acc
   show (ones l).foldl _ (acc.toArray ++ ("" : Str).cps ++ #[c]) = _
   have e:acc.toArray ++ ("" : Str).cps ++ #[c] = (acc ++ [c]).toArray:=by
    have:("" : Str).cps = #[]:=rfl
    rw [this]; simp
   rw [e,ih]
   simp
 cases l with
 | nil=>rfl
 | cons c l =>
  show (⟨_⟩:Str) = _
  unfold strOf
  congr 1
  exact key l [c]
theorem sum_ones':∀ l:List Nat,((ones l).map (·.length)).sum = l.length
 | []=>rfl
 | c :: l=>by
  show 1 + ((ones l).map (·.length)).sum = l.length + 1
  rw [sum_ones' l]; omega
theorem isName_of (l:List Nat) (h1:0 < l.length) (h2:l.length ≤ 8) (h3:∀ c ∈ l,c ∈ nameS.cps.toList):isName (strOf l) = true:=by
 unfold isName hasAll
 have e:(strOf l).length = l.length:=by show l.toArray.size = _; simp
 have e2:(strOf l).cps.toList = l:=by simp [strOf]
 rw [e,e2]
 simp only [Bool.and_eq_true,decide_eq_true_eq,List.all_eq_true]
 exact ⟨⟨by omega,fun c hc=>by simpa using h3 c hc⟩,by omega⟩
theorem strOf_inj {l m:List Nat} (h:strOf l = strOf m):l = m:=by
 unfold strOf at h
 injection h with h
 simpa using congrArg Array.toList h
end W
namespace Pn
open PySem DL W
noncomputable def G_pair_names:GS:=(seqD (ifD (tOrG (ob (o2 (o2 (gv 0) (gc (.int 0)) ixD) (gc (.str "text")) eqD)) (ob (o2 (o2 (gv 0) (gc (.int 0)) ixD) (gc (.str "row")) eqD)))
 (seqD (retF (lstG nilA))
 nilD)
 nilD)
 (seqD (retF (compG 1 [] (tupI (o2 (gv 0) (unG negD (gc (.int 1))) ixD)) (gN 0) noT (o2 (gv 0) (gc (.int 0)) ixD)))
 nilD))
noncomputable def N_pair_names:List Str:=["part"]
noncomputable def m_pair_names:List D→Option D:=mkN 1 N_pair_names G_pair_names
noncomputable def G_values:GS:=(seqD (ifD (ob (o2 (o2 (gv 0) (gc (.int 0)) ixD) (gc (.str "text")) eqD))
 (seqD (retF (lstG nilA))
 nilD)
 nilD)
 (seqD (ifD (ob (o2 (o2 (gv 0) (gc (.int 0)) ixD) (gc (.str "row")) eqD))
 (seqD (retF (oA (consA (o2 (gv 0) (gc (.int 1)) ixD) nilA) lstOfD))
 nilD)
 nilD)
 (seqD (retF (compG 1 [] (tupI (o2 (gv 0) (unG negD (gc (.int 1))) ixD)) (gN 0) noT (o2 (gv 0) (gc (.int 1)) ixD)))
 nilD)))
noncomputable def N_values:List Str:=["part"]
noncomputable def m_values:List D→Option D:=mkN 1 N_values G_values
noncomputable def G_with_values:GS:=(seqD (ifD (ob (o2 (o2 (gv 0) (gc (.int 0)) ixD) (gc (.str "text")) eqD))
 (seqD (retD (gv 0))
 nilD)
 nilD)
 (seqD (ifD (ob (o2 (o2 (gv 0) (gc (.int 0)) ixD) (gc (.str "row")) eqD))
 (seqD (retD (tupG (consA (gc (.str "row")) (consA (oA (consA (gv 1) nilA) tupOfD) nilA))))
 nilD)
 nilD)
 (seqD (setD (gN 2) (oA (consA (oA (consA (gv 0) nilA) m_pair_names) (consA (gv 1) nilA)) zipTD))
 (seqD (ifD (ob (o2 (o2 (gv 0) (gc (.int 0)) ixD) (gc (.str "table")) eqD))
 (seqD (retD (tupG (consA (gc (.str "table")) (consA (gv 2) nilA))))
 nilD)
 nilD)
 (seqD (retD (tupG (consA (gc (.str "record")) (consA (o2 (gv 0) (gc (.int 1)) ixD) (consA (gv 2) nilA)))))
 nilD)))))
noncomputable def N_with_values:List Str:=["part", "some", "pairs"]
noncomputable def m_with_values:List D→Option D:=mkF 2 N_with_values G_with_values
theorem values_ok (p:Pt) (h:p.few):m_values [p.d] = some (.lst p.vals):=by
 cases p with
 | text w=>kernel_rfl
 | row vs =>
  refine mkN_rf rfl (seq_to (δ':=[.sh (Pt.row vs).d]) (by rw [if_f (by kernel_rfl)]; rfl) (seq_rf (by rw [if_t (by kernel_rfl)]; rfl)))
 | table ps =>
  refine mkN_rf rfl (seq_to (δ':=[.sh (Pt.table ps).d]) (by rw [if_f (by kernel_rfl)]; rfl) (seq_to (δ':=[.sh (Pt.table ps).d]) (by rw [if_f (by kernel_rfl)]; rfl) (seq_rf (retF_of ?_))))
  exact comp_of (items:=ps.map pr) rfl (by have:(ps.map (·.2)).length ≤ sizeLine:=h; simpa using this) (comp_snd ps)
 | rcd c ps =>
  refine mkN_rf rfl (seq_to (δ':=[.sh (Pt.rcd c ps).d]) (by rw [if_f (by kernel_rfl)]; rfl) (seq_to (δ':=[.sh (Pt.rcd c ps).d]) (by rw [if_f (by kernel_rfl)]; rfl) (seq_rf (retF_of ?_))))
  exact comp_of (items:=ps.map pr) rfl (by have:(ps.map (·.2)).length ≤ sizeLine:=h; simpa using this) (comp_snd ps)
theorem pair_names_ok (p:Pt) (h:p.few):m_pair_names [p.d] = some (.lst (p.pnames.map .str)):=by
 cases p with
 | text w=>kernel_rfl
 | row vs=>kernel_rfl
 | table ps =>
  refine mkN_rf rfl (seq_to (δ':=[.sh (Pt.table ps).d]) (by rw [if_f (by kernel_rfl)]; rfl) (seq_rf (retF_of ?_)))
  exact comp_of (items:=ps.map pr) rfl (by have:(ps.map (·.2)).length ≤ sizeLine:=h; simpa using this) (comp_fst ps)
 | rcd c ps =>
  refine mkN_rf rfl (seq_to (δ':=[.sh (Pt.rcd c ps).d]) (by rw [if_f (by kernel_rfl)]; rfl) (seq_rf (retF_of ?_)))
  exact comp_of (items:=ps.map pr) rfl (by have:(ps.map (·.2)).length ≤ sizeLine:=h; simpa using this) (comp_fst ps)
noncomputable def put:Pt→List D→Pt
 | .text w,_=>.text w
 | .row _,vs=>.row vs
 | .table ps,vs=>.table ((ps.map (·.1)).zip vs)
 | .rcd c ps,vs=>.rcd c ((ps.map (·.1)).zip vs)
theorem zip_pr (ns:List Str) (vs:List D):zipTD [.lst (ns.map .str),.lst vs] = some (.tup ((ns.zip vs).map pr)):=by
 simp only [zipTD]
 rw [List.zip_map_left,List.map_map]
 rfl
theorem with_ok (p:Pt) (h:p.few) (vs:List D):m_with_values [p.d,.lst vs] = some (put p vs).d:=by
 have e:=pair_names_ok p h
 cases p with
 | text w=>kernel_rfl
 | row us=>kernel_rfl
 | table ps =>
  refine mkF_rt rfl (seq_to (δ':=[.sh (Pt.table ps).d,.sh (.lst vs),.un]) (by rw [if_f (by kernel_rfl)]; rfl) (seq_to (δ':=[.sh (Pt.table ps).d,.sh (.lst vs),.un]) (by rw [if_f (by kernel_rfl)]; rfl) (seq_to (set_of (d:=.tup (((ps.map (·.1)).zip vs).map pr)) ?_) (seq_rt ?_))))
  ·rw [oA_of (cons_of (by rw [oA_of (ds:=[(Pt.table ps).d]) rfl]; exact e) (cons_of rfl rfl))]
   exact zip_pr _ _
  ·rw [if_t (by kernel_rfl)]
   rfl
 | rcd c ps =>
  refine mkF_rt rfl (seq_to (δ':=[.sh (Pt.rcd c ps).d,.sh (.lst vs),.un]) (by rw [if_f (by kernel_rfl)]; rfl) (seq_to (δ':=[.sh (Pt.rcd c ps).d,.sh (.lst vs),.un]) (by rw [if_f (by kernel_rfl)]; rfl) (seq_to (set_of (d:=.tup (((ps.map (·.1)).zip vs).map pr)) ?_)
   (seq_to (δ':=[.sh (Pt.rcd c ps).d,.sh (.lst vs),.sh (.tup (((ps.map (·.1)).zip vs).map pr))]) (by rw [if_f (by kernel_rfl)]; rfl) ?_))))
  ·rw [oA_of (cons_of (by rw [oA_of (ds:=[(Pt.rcd c ps).d]) rfl]; exact e) (cons_of rfl rfl))]
   exact zip_pr _ _
  ·rfl
end Pn
namespace W
open PySem DL StrLaws Builtin.Str
theorem strOf_list (l:List Nat):(strOf l).cps.toList = l:=by simp [strOf]
theorem strOf_len (l:List Nat):(strOf l).length = l.length:=by show l.toArray.size = _; simp
theorem strOf_of (x:PySem.Str):strOf x.cps.toList = x:=by cases x; simp [strOf]
end W
namespace W
open PySem DL StrLaws
end W
namespace Gw
open PySem DL W
noncomputable def G__law_cell_at:GS:=(seqD (ifD (ob (o2 (gv 1) (oA (consA (gv 0) nilA) lenD) ltD))
 (seqD (retD (o2 (gv 0) (gv 1) ixD))
 nilD)
 nilD)
 (seqD (retD (gc (.int 0)))
 nilD))
noncomputable def N__law_cell_at:List Str:=["_law_script", "_law_k"]
noncomputable def m__law_cell_at:List D→Option D:=mkF 2 N__law_cell_at G__law_cell_at
noncomputable def G__law_pool:GS:=(seqD (setD (gN 2) (gc (.str "abcdefghijklmnopqrstuvwxyz0123456789")))
 (seqD (setD (gN 3) (o2 (gc (.int 1)) (o2 (gv 0) (gc (.int 8)) modD) addA))
 (seqD (setD (gN 0) (o2 (gv 0) (gc (.int 8)) fdivD))
 (seqD (ownD 4 (lstG nilA))
 (seqD (forG (rng1I (consA (gv 3) nilA)) (gN 5)
 (seqD (exprX (appX 4 (o2 (gv 0) (gc (.int 36)) modD)))
 (seqD (setD (gN 0) (o2 (gv 0) (gc (.int 36)) fdivD))
 nilD)))
 (seqD (setD (gN 6) (borE (joinG (gc (.str "")) (consA (compG 1 [2] (lstI (gv 4)) (gN 0) noT (o2 (gv 1) (gv 0) ixD)) nilA))))
 (seqD (ifD (ob (o2 (o2 (o2 (gv 1) (gc (.int 8)) fdivD) (gc (.int 3)) modD) (gc (.int 1)) eqD))
 (seqD (retF (compG 1 [6] (rng2I (consA (gc (.int 1)) (consA (gc (.int 9)) nilA))) (gN 0) noT (slAG (o2 (gc (.int 8)) (gv 1) mulI) noneO (someO (gv 0)))))
 nilD)
 nilD)
 (seqD (setD (gN 7) (o2 (gv 1) (gv 3) modD))
 (seqD (ownD 8 (lstG nilA))
 (seqD (forG (rng1I (consA (gc (.int 8)) nilA)) (gN 5)
 (seqD (setD (gN 9) (o2 (gv 2) (o2 (o2 (borE (o2 (gv 4) (gv 7) ixD)) (o2 (gc (.int 4)) (gv 5) mulA) addA) (gc (.int 36)) modD) ixD))
 (seqD (exprX (appX 8 (o2 (o2 (slAG (gv 6) noneO (someO (gv 7))) (gv 9) addA) (slAG (gv 6) (someO (o2 (gv 7) (gc (.int 1)) addA)) noneO) addA)))
 nilD)))
 (seqD (retO 8)
 nilD)))))))))))
noncomputable def N__law_pool:List Str:=["_law_cell", "_law_turn", "_law_signs", "_law_size", "_law_places", "_law_k", "_law_word", "_law_at", "_law_found", "_law_sign"]
noncomputable def m__law_pool:List D→Option D:=mkN 2 N__law_pool G__law_pool
noncomputable def G__law_mix:GS:=(seqD (retD (o2 (o2 (o2 (o2 (gv 0) (gc (.int 2147483647)) modD) (gc (.int 1)) addA) (o2 (gc (.int 48271)) (o2 (gc (.int 7)) (gv 1) mulA) addA) mulA) (gc (.int 2147483647)) modD))
 nilD)
noncomputable def N__law_mix:List Str:=["_law_cell", "_law_k"]
noncomputable def m__law_mix:List D→Option D:=mkF 2 N__law_mix G__law_mix
noncomputable def G__law_value:GS:=(seqD (setD (gN 2) (o2 (gv 0) (gc (.int 10)) modD))
 (seqD (ifD (ob (o2 (gv 2) (gc (.int 6)) ltD))
 (seqD (retD (tupG (consA (gc (.str "at")) (consA (o2 (o2 (gv 0) (gc (.int 10)) fdivD) (gv 1) modD) nilA))))
 nilD)
 nilD)
 (seqD (ifD (ob (o2 (gv 2) (gc (.int 6)) eqD))
 (seqD (retD (gc .non))
 nilD)
 nilD)
 (seqD (ifD (ob (o2 (gv 2) (gc (.int 9)) ltD))
 (seqD (retD (o2 (o2 (o2 (gv 0) (gc (.int 10)) fdivD) (gc (.int 3)) modD) (gc (.int 1)) subD))
 nilD)
 nilD)
 (seqD (retD (o2 (o2 (o2 (o2 (gv 0) (gc (.int 10)) fdivD) (gc (.int 7)) powD) (o2 (gc (.int 10)) (gc (.int 60)) powD) modD) (o2 (gc (.int 1)) (o2 (gc (.int 2)) (o2 (o2 (gv 0) (gc (.int 20)) fdivD) (gc (.int 2)) modD) mulA) subD) mulA))
 nilD)))))
noncomputable def N__law_value:List Str:=["_law_number", "_law_many", "_law_kind"]
noncomputable def m__law_value:List D→Option D:=mkF 2 N__law_value G__law_value
noncomputable def G__law_values:GS:=(seqD (ownD 3 (lstG nilA))
 (seqD (forG (rng1I (consA (gv 1) nilA)) (gN 4)
 (seqD (setD (gN 0) (o2 (o2 (gv 0) (gc (.int 48271)) mulA) (gc (.int 2147483647)) modD))
 (seqD (exprX (appX 3 (oA (consA (gv 0) (consA (gv 2) nilA)) m__law_value)))
 nilD)))
 (seqD (retO 3)
 nilD)))
noncomputable def N__law_values:List Str:=["_law_number", "_law_count", "_law_many", "_law_found", "_law_k"]
noncomputable def m__law_values:List D→Option D:=mkN 3 N__law_values G__law_values
noncomputable def G__law_part:GS:=(seqD (setD (gN 3) (o2 (gv 0) (gc (.int 8)) modD))
 (seqD (ifD (ob (o2 (gv 3) (gc (.int 0)) eqD))
 (seqD (retD (tupG (consA (gc (.str "text")) (consA (o2 (lstG (consA (gc (.str "")) (consA (gc (.str "a")) (consA (gc (.str " a")) (consA (o2 (o2 (gv 2) (gc (.int 0)) ixD) (gc (.str " 0")) addA) nilA))))) (o2 (o2 (gv 0) (gc (.int 16)) fdivD) (gc (.int 4)) modD) ixD) nilA))))
 nilD)
 nilD)
 (seqD (ifD (ob (o2 (gv 3) (gc (.int 4)) ltD))
 (seqD (retD (tupG (consA (gc (.str "row")) (consA (oA (consA (gv 1) nilA) tupOfD) nilA))))
 nilD)
 nilD)
 (seqD (setD (gN 4) (o2 (o2 (o2 (gv 0) (gc (.int 8)) fdivD) (gc (.int 2)) modD) (gc (.int 3)) mulA))
 (seqD (setD (gN 5) (oA (consA (compG 1 [1,2,4] (rng1I (consA (oA (consA (gv 1) nilA) lenD) nilA)) (gN 0) noT (tupG (consA (o2 (gv 2) (o2 (o2 (gv 3) (gv 0) addA) (gc (.int 8)) modD) ixD) (consA (o2 (gv 1) (gv 0) ixD) nilA)))) nilA) tupOfD))
 (seqD (ifD (ob (o2 (gv 3) (gc (.int 6)) ltD))
 (seqD (retD (tupG (consA (gc (.str "table")) (consA (gv 5) nilA))))
 nilD)
 nilD)
 (seqD (retD (tupG (consA (gc (.str "record")) (consA (o2 (gv 2) (o2 (o2 (gv 0) (gc (.int 16)) fdivD) (gc (.int 2)) modD) ixD) (consA (gv 5) nilA)))))
 nilD)))))))
noncomputable def N__law_part:List Str:=["_law_number", "_law_some", "_law_pool_here", "_law_kind", "_law_start", "_law_pairs"]
noncomputable def m__law_part:List D→Option D:=mkF 3 N__law_part G__law_part
noncomputable def G__law_web:GS:=(seqD (ownD 3 (lstG nilA))
 (seqD (forG (rng1I (consA (gv 1) nilA)) (gN 4)
 (seqD (setD (gN 5) (oA (consA (o2 (o2 (gv 0) (o2 (gv 4) (oA (consA (gv 0) nilA) lenD) modD) ixD) (o2 (gv 4) (o2 (gv 4) (oA (consA (gv 0) nilA) lenD) fdivD) mulA) addA) (consA (gv 4) nilA)) m__law_mix))
 (seqD (setD (gN 6) (o2 (lstG (consA (gc (.int 0)) (consA (gc (.int 1)) (consA (gc (.int 2)) (consA (gc (.int 2)) (consA (gc (.int 3)) (consA (gc (.int 2)) (consA (gc (.int 3)) (consA (gc (.int 1)) nilA))))))))) (o2 (o2 (gv 5) (gc (.int 32)) fdivD) (gc (.int 8)) modD) ixD))
 (seqD (ifD (ob (o2 (o2 (o2 (gv 5) (gc (.int 256)) fdivD) (gc (.int 16)) modD) (gc (.int 3)) eqD))
 (seqD (setD (gN 6) (o2 (lstG (consA (gc (.int 8)) (consA (gc (.int 12)) nilA))) (oA (consA (o2 (o2 (gv 5) (gc (.int 8)) modD) (gc (.int 4)) ltD) nilA) intOfD) ixD))
 nilD)
 nilD)
 (seqD (setD (gN 7) (oA (consA (o2 (o2 (gv 5) (gc (.int 8)) fdivD) (gc (.int 1)) addA) (consA (gv 6) (consA (gv 1) nilA))) m__law_values))
 (seqD (exprX (appX 3 (oA (consA (gv 5) (consA (gv 7) (consA (gv 2) nilA))) m__law_part)))
 nilD))))))
 (seqD (retD (borA (oA (consA (gv 3) nilA) tupOfD)))
 nilD)))
noncomputable def N__law_web:List Str:=["_law_cells", "_law_many", "_law_pool_here", "_law_parts", "_law_k", "_law_number", "_law_count", "_law_some"]
noncomputable def m__law_web:List D→Option D:=mkF 3 N__law_web G__law_web
noncomputable def G__law_vals:GS:=(seqD (ifD (ob (o2 (o2 (gv 0) (gc (.int 0)) ixD) (gc (.str "text")) eqD))
 (seqD (retF (lstG nilA))
 nilD)
 nilD)
 (seqD (ifD (ob (o2 (o2 (gv 0) (gc (.int 0)) ixD) (gc (.str "row")) eqD))
 (seqD (retF (oA (consA (o2 (gv 0) (gc (.int 1)) ixD) nilA) lstOfD))
 nilD)
 nilD)
 (seqD (retF (compG 2 [] (tupI (o2 (gv 0) (unG negD (gc (.int 1))) ixD)) (tup2 0 1) noT (gv 1)))
 nilD)))
noncomputable def N__law_vals:List Str:=["_law_part_here"]
noncomputable def m__law_vals:List D→Option D:=mkN 1 N__law_vals G__law_vals
noncomputable def G__law_with:GS:=(seqD (ifD (ob (o2 (o2 (gv 0) (gc (.int 0)) ixD) (gc (.str "text")) eqD))
 (seqD (retD (gv 0))
 nilD)
 nilD)
 (seqD (ifD (ob (o2 (o2 (gv 0) (gc (.int 0)) ixD) (gc (.str "row")) eqD))
 (seqD (retD (tupG (consA (gc (.str "row")) (consA (oA (consA (gv 1) nilA) tupOfD) nilA))))
 nilD)
 nilD)
 (seqD (retD (o2 (slAG (gv 0) noneO (someO (unG negD (gc (.int 1))))) (tupG (consA (oA (consA (compG 1 [0,1] (rng1I (consA (oA (consA (gv 1) nilA) lenD) nilA)) (gN 0) noT (tupG (consA (o2 (o2 (o2 (gv 1) (unG negD (gc (.int 1))) ixD) (gv 0) ixD) (gc (.int 0)) ixD) (consA (o2 (gv 2) (gv 0) ixD) nilA)))) nilA) tupOfD) nilA)) addA))
 nilD)))
noncomputable def N__law_with:List Str:=["_law_part_here", "_law_some"]
noncomputable def m__law_with:List D→Option D:=mkF 2 N__law_with G__law_with
end Gw
namespace Gw
open PySem DL W StrLaws
theorem mul_r (i j:Int) (h:-(2 ^ 64) < j∧j < 2 ^ 64):mulA (.int i) (.int j) = some (.int (i * j)):=by simp only [mulA]; rw [if_pos (.inr h)]
theorem mod_p (i j:Int) (h:0 < j):modD (.int i) (.int j) = some (.int (i % j)):=by simp only [modD,ii]; rw [if_pos h]
theorem fdiv_p (i j:Int) (h:0 < j∧j < 1073741824):fdivD (.int i) (.int j) = some (.int (i / j)):=by simp only [fdivD,ii]; rw [if_pos h]
theorem app_ow {i:Nat} {g:GE} {δ:Ds} {l:List D} {d:D} (h1:owL i δ = some l) (h2:g δ = some d) (h3:l.length < sizeLine):exprX (appX i g) δ = some (.nx (δ.set i (.ow (.lst (l ++ [d]))))):=by
 unfold exprX appX
 rw [h1,h2]
 simp only [Option.bind_some]
 rw [if_pos h3]
 rfl
theorem cell_ok (ns:List Int) (k:Int) (h0:0 ≤ k):∃ z,m__law_cell_at [.lst (ns.map .int),.int k] = some (.int z):=by
 by_cases h:k < ns.length
 ·have hlt:k.toNat < ns.length:=by omega
  refine ⟨ns[k.toNat],mkF_rt rfl (seq_rt ?_)⟩
  rw [if_t (by
   show some (decide (k < (((ns.map D.int).length:Nat):Int))) = _
   rw [decide_eq_true (by rw [List.length_map]; exact h)])]
  refine seq_rt (ret_of ?_)
  show atI (ns.map D.int) k = _
  rw [atI_in h0 (by rw [List.length_map]; exact h) .non]
  simp [List.getD_eq_getElem?_getD,hlt]
 ·refine ⟨0,mkF_rt rfl (seq_to (δ':=[.sh (.lst (ns.map .int)),.sh (.int k)]) ?_ rfl)⟩
  rw [if_f (by
   show some (decide (k < (((ns.map D.int).length:Nat):Int))) = _
   rw [decide_eq_false (by rw [List.length_map]; exact h)])]
  rfl
theorem rep_list (l:List Nat) (n:Nat):repD (strOf l) (n:Int) = strOf (List.replicate n l).flatten:=by
 have key:∀ (k:Nat) (acc:Array Nat),(List.replicate k l.toArray).foldl (· ++ ·) acc = acc ++ (List.replicate k l).flatten.toArray:=by
  intro k
  induction k with
  | zero=>intro acc; simp
  | succ k ih=>intro acc; rw [List.replicate_succ,List.foldl_cons,ih,List.replicate_succ,List.flatten_cons]; simp
 unfold repD
 show (⟨(List.replicate ((n:Int)).toNat l.toArray).foldl (· ++ ·) #[]⟩:Str) = ⟨_⟩
 rw [Int.toNat_natCast,key]
 simp
theorem take_s (l:List Nat) (k:Int) (h0:0 ≤ k) (h1:k ≤ l.length):Txt.slice (strOf l) none (some k) = strOf (l.take k.toNat):=by
 show sliceText _ _ _ = _
 rw [sliceText_to ⟨h0,by rw [strOf_list]; exact h1⟩,strOf_list]
 simp [strOf]
theorem drop_s (l:List Nat) (k:Int) (h0:0 ≤ k) (h1:k ≤ l.length):Txt.slice (strOf l) (some k) none = strOf (l.drop k.toNat):=by
 show sliceText _ _ _ = _
 rw [sliceText_from ⟨h0,by rw [strOf_list]; exact h1⟩,strOf_list]
 unfold strOf
 congr 2
 rw [List.take_of_length_le]
 rw [List.length_drop]
 omega
theorem app_s (a b:List Nat):strOf a ++ strOf b = strOf (a ++ b):=by
 show (⟨_⟩:Str) = ⟨_⟩
 simp [strOf]
theorem add_s (a b:List Nat) (h:a.length + b.length ≤ sizeLine):addA (.str (strOf a)) (.str (strOf b)) = some (.str (strOf (a ++ b))):=by
 simp only [addA]
 rw [if_pos (by rw [strOf_len,strOf_len]; exact h),app_s]
structure Pool (nm:List Str):Prop where
 len:nm.length = 8
 names:∀ s ∈ nm,isName s = true
 nd:nm.Nodup
noncomputable def PB:GS:=(seqD (exprX (appX 4 (o2 (gv 0) (gc (.int 36)) modD)))
 (seqD (setD (gN 0) (o2 (gv 0) (gc (.int 36)) fdivD))
 nilD))
noncomputable def PC:GS:=(seqD (setD (gN 9) (o2 (gv 2) (o2 (o2 (borE (o2 (gv 4) (gv 7) ixD)) (o2 (gc (.int 4)) (gv 5) mulA) addA) (gc (.int 36)) modD) ixD))
 (seqD (exprX (appX 8 (o2 (o2 (slAG (gv 6) noneO (someO (gv 7))) (gv 9) addA) (slAG (gv 6) (someO (o2 (gv 7) (gc (.int 1)) addA)) noneO) addA)))
 nilD))
theorem pool_ok (c t:Int):∃ nm,m__law_pool [.int c,.int t] = some (.lst (nm.map .str))∧Pool nm:=by
 have z:(1000:Nat) ≤ sizeLine:=by decide
 obtain ⟨n,hn⟩:∃ n:Nat,(n:Int) = 1 + c % 8:=⟨(1 + c % 8).toNat,by omega⟩
 obtain ⟨δ',l1,l2⟩:=forD_inv (f:=gN 5) (G:=PB) (fun i δ=>∃ (c':Int) (l:List Int) (s5:Sl),δ = [.sh (.int c'),.sh (.int t),.sh (.str signS),.sh (.int (n:Int)),.ow (.lst (l.map .int)),s5,.un,.un,.un,.un]∧l.length = i∧∀ x ∈ l,0 ≤ x∧x < 36) (rngD 0 (n:Int)) 0
  [.sh (.int (c / 8)),.sh (.int t),.sh (.str signS),.sh (.int (n:Int)),.ow (.lst []),.un,.un,.un,.un,.un] (by
   rintro j d δ hj ⟨c',l,s5,rfl,hl,hx⟩
   obtain ⟨hj',rfl⟩:=rng_get hj
   rw [Int.toNat_natCast] at hj'
   refine ⟨_,[.sh (.int (c' / 36)),.sh (.int t),.sh (.str signS),.sh (.int (n:Int)),.ow (.lst ((l ++ [c' % 36]).map .int)),.sh (.int (j:Int)),.un,.un,.un,.un],rfl,?_,c' / 36,l ++ [c' % 36],_,rfl,by simp [hl],fun x hx'=>?_⟩
   ·refine seq_to (app_ow (l:=l.map .int) (d:=.int (c' % 36)) rfl rfl (by rw [List.length_map]; omega)) ?_
    rw [List.map_append]
    rfl
   ·rcases List.mem_append.mp hx' with q | q
    ·exact hx x q
    ·rw [List.mem_singleton.mp q]; omega) ⟨_,[],_,rfl,rfl,fun x hx=>by cases hx⟩
 obtain ⟨c',pl,s5,rfl,hpl,hpx⟩:=l2
 rw [rng_len,Int.toNat_natCast,Nat.zero_add] at hpl
 obtain ⟨w,hw⟩:∃ w:List Nat,w = pl.map cg:=⟨_,rfl⟩
 have wl:w.length = n:=by rw [hw,List.length_map,hpl]
 have wm:∀ x ∈ w,x ∈ nameS.cps.toList:=fun x hx=>by
  rw [hw] at hx
  obtain ⟨i,hi,rfl⟩:=List.mem_map.mp hx
  exact cg_mem i (hpx i hi).1 (hpx i hi).2
 have hpre:∀ (G:GS) (r:Option Res),G [.sh (.int c'),.sh (.int t),.sh (.str signS),.sh (.int (n:Int)),.ow (.lst (pl.map .int)),s5,.sh (.str (strOf w)),.un,.un,.un] = r →
   (seqD (setD (gN 2) (gc (.str "abcdefghijklmnopqrstuvwxyz0123456789")))
    (seqD (setD (gN 3) (o2 (gc (.int 1)) (o2 (gv 0) (gc (.int 8)) modD) addA))
    (seqD (setD (gN 0) (o2 (gv 0) (gc (.int 8)) fdivD))
    (seqD (ownD 4 (lstG nilA))
    (seqD (forG (rng1I (consA (gv 3) nilA)) (gN 5) PB)
    (seqD (setD (gN 6) (borE (joinG (gc (.str "")) (consA (compG 1 [2] (lstI (gv 4)) (gN 0) noT (o2 (gv 1) (gv 0) ixD)) nilA)))) G)))))) [.sh (.int c),.sh (.int t),.un,.un,.un,.un,.un,.un,.un,.un] = r:=fun G r hG=>by
  refine seq_to (set_of (d:=.str signS) rfl) (seq_to (set_of (d:=.int (n:Int)) (by rw [hn]; rfl)) (seq_to (set_of (d:=.int (c / 8)) rfl) (seq_to (δ':=[.sh (.int (c / 8)),.sh (.int t),.sh (.str signS),.sh (.int (n:Int)),.ow (.lst []),.un,.un,.un,.un,.un]) rfl (seq_to (for_of (items:=rngD 0 (n:Int)) (rng1_of (cons_of rfl rfl) (by omega) (by omega)) l1) (seq_to (set_of (d:=.str (strOf w)) ?_) hG)))))
  show Option.bind _ _ = _
  rw [join_of (x:=.str "") (ds:=[.lst ((ones w).map .str)]) rfl (cons_of (comp_of (items:=pl.map .int) rfl (by rw [List.length_map]; omega) (by
   rw [compD_map (fun d=>match d with | .int i=>.str ⟨#[cg i]⟩ | _=>.non) (fun d hd=>by
    obtain ⟨i,hi,rfl⟩:=List.mem_map.mp hd
    refine ⟨[.sh (.int i),.sh (.str signS)],rfl,rfl,?_⟩
    rw [o2_of (x:=.str signS) (y:=.int i) rfl rfl]
    exact sign_at i (hpx i hi).1 (hpx i hi).2)]
   rw [hw]
   unfold ones
   rw [List.map_map,List.map_map,List.map_map]
   rfl)) rfl)]
  have e1:=strs_map id (ones w)
  have e1':strL ((ones w).map D.str) = some (ones w):=by simpa using e1
  simp only [joinD]
  rw [e1',Option.bind_some,sum_ones',join_ones,if_pos (by
   have:("" : PySem.Str).length = 0:=by decide +kernel
   rw [this]; omega)]
  rfl
 by_cases hb:t / 8 % 3 = 1
 ·refine ⟨(List.range 8).map fun k=>strOf ((List.replicate 8 w).flatten.take (k + 1)),mkN_rf rfl (hpre _ _ (seq_rf ?_)),by simp,fun s hs=>?_,?_⟩
  ·rw [if_t (by show some (decide (t / 8 % 3 = 1)) = _; rw [decide_eq_true hb])]
   refine seq_rf (retF_of (comp_of (items:=(List.range 8).map fun (k:Nat)=>D.int ((k:Int) + 1)) rfl (by simp; omega) ?_))
   rw [compD_map (fun d=>match d with | .int i=>.str (strOf ((List.replicate 8 w).flatten.take i.toNat)) | _=>.non) (fun d hd=>by
    obtain ⟨k,hk,rfl⟩:=List.mem_map.mp hd
    have hk:=List.mem_range.mp hk
    refine ⟨[.sh (.int ((k:Int) + 1)),.sh (.str (strOf w))],rfl,rfl,?_⟩
    have hm:o2 (gc (.int 8)) (gv 1) mulI [.sh (.int ((k:Int) + 1)),.sh (.str (strOf w))] = some (.str (strOf (List.replicate 8 w).flatten)):=by
     rw [o2_of (x:=.int 8) (y:=.str (strOf w)) rfl rfl]
     simp only [mulI]
     rw [if_pos ⟨by decide,by decide,by rw [strOf_len,wl]; show n * 8 ≤ _; omega⟩]
     exact congrArg (fun s=>some (D.str s)) (rep_list w 8)
    have hfl:(List.replicate 8 w).flatten.length = 8 * n:=by simp [wl]; omega
    unfold slAG
    rw [hm]
    show slA (.str (strOf (List.replicate 8 w).flatten)) none (some ((k:Int) + 1)) = _
    simp only [slA]
    rw [if_pos (by rw [strOf_len,hfl]; omega),take_s _ _ (by omega) (by rw [hfl]; omega)])]
   rw [List.map_map,List.map_map]
   rfl
  ·obtain ⟨k,hk,rfl⟩:=List.mem_map.mp hs
   have hk:=List.mem_range.mp hk
   have hfl:(List.replicate 8 w).flatten.length = 8 * n:=by simp [wl]; omega
   refine isName_of _ (by rw [List.length_take,hfl]; omega) (by rw [List.length_take]; omega) fun x hx=>?_
   have:=List.mem_of_mem_take hx
   obtain ⟨l,hl,hx⟩:=List.mem_flatten.mp this
   rw [(List.mem_replicate.mp hl).2] at hx
   exact wm x hx
  ·refine List.nodup_iff_pairwise_ne.mpr (List.pairwise_map.mpr (List.Pairwise.imp_of_mem ?_ (List.nodup_range (n:=8))))
   intro a b ha hb' hab e
   have ha:=List.mem_range.mp ha
   have hb':=List.mem_range.mp hb'
   have e:=congrArg List.length (strOf_inj e)
   have hfl:(List.replicate 8 w).flatten.length = 8 * n:=by simp [wl]; omega
   rw [List.length_take,List.length_take,hfl] at e
   omega
 ·obtain ⟨a,ha⟩:∃ a:Nat,(a:Int) = t % (n:Int):=⟨(t % (n:Int)).toNat,by have:=Int.emod_nonneg t (by omega:(n:Int) ≠ 0); omega⟩
  have han:a < n:=by have:=Int.emod_lt_of_pos t (by omega:(0:Int) < n); omega
  obtain ⟨p,hp⟩:∃ p,p = pl.getD a 0:=⟨_,rfl⟩
  have hpp:0 ≤ p∧p < 36:=by
   have hlt:a < pl.length:=by omega
   have:p = pl[a]:=by rw [hp]; simp [List.getD_eq_getElem?_getD,hlt]
   rw [this]
   exact hpx _ (List.getElem_mem hlt)
  let F:Nat→List Nat:=fun k=>w.take a ++ cg ((p + 4 * (k:Int)) % 36) :: w.drop (a + 1)
  have Fl:∀ k,(F k).length = n:=fun k=>by
   show (w.take a ++ cg ((p + 4 * (k:Int)) % 36) :: w.drop (a + 1)).length = n
   rw [List.length_append,List.length_cons,List.length_take,List.length_drop]
   omega
  obtain ⟨δ'',m1,m2⟩:=forD_inv (f:=gN 5) (G:=PC) (fun i δ=>∃ (s5 s9:Sl),δ = [.sh (.int c'),.sh (.int t),.sh (.str signS),.sh (.int (n:Int)),.ow (.lst (pl.map .int)),s5,.sh (.str (strOf w)),.sh (.int (a:Int)),.ow (.lst (((List.range i).map fun k=>strOf (F k)).map .str)),s9]) (rngD 0 8) 0
   [.sh (.int c'),.sh (.int t),.sh (.str signS),.sh (.int (n:Int)),.ow (.lst (pl.map .int)),s5,.sh (.str (strOf w)),.sh (.int (a:Int)),.ow (.lst []),.un] (by
    rintro j d δ hj ⟨s5,s9,rfl⟩
    obtain ⟨hj',rfl⟩:=rng_get hj
    have hj':j < 8:=hj'
    rw [Nat.zero_add]
    refine ⟨_,[.sh (.int c'),.sh (.int t),.sh (.str signS),.sh (.int (n:Int)),.ow (.lst (pl.map .int)),.sh (.int (j:Int)),.sh (.str (strOf w)),.sh (.int (a:Int)),.ow (.lst (((List.range (j + 1)).map fun k=>strOf (F k)).map .str)),.sh (.str ⟨#[cg ((p + 4 * (j:Int)) % 36)]⟩)],rfl,?_,_,_,rfl⟩
    refine seq_to (set_of (d:=.str ⟨#[cg ((p + 4 * (j:Int)) % 36)]⟩) ?_) ?_
    ·rw [o2_of (x:=.str signS) (y:=.int ((p + 4 * (j:Int)) % 36)) rfl (by
      rw [o2_of (x:=.int (p + 4 * (j:Int))) (y:=.int 36) (by
       rw [o2_of (x:=.int p) (y:=.int (4 * (j:Int))) (by
        have q:o2 (gv 4) (gv 7) ixD (frz [.sh (.int c'),.sh (.int t),.sh (.str signS),.sh (.int (n:Int)),.ow (.lst (pl.map .int)),.sh (.int (j:Int)),.sh (.str (strOf w)),.sh (.int (a:Int)),.ow (.lst (((List.range j).map fun k=>strOf (F k)).map .str)),s9]) = some (.int p):=by
         rw [o2_of (x:=.lst (pl.map .int)) (y:=.int (a:Int)) rfl rfl]
         show atI (pl.map D.int) (a:Int) = _
         have hlt:a < pl.length:=by omega
         rw [atI_in (by omega) (by rw [List.length_map]; omega) .non,hp]
         simp [List.getD_eq_getElem?_getD,hlt]
        show Option.bind _ _ = _
        exact (congrArg (fun o=>Option.bind o _) q).trans rfl) (by rw [o2_of (x:=.int 4) (y:=.int (j:Int)) rfl rfl]; exact mul_r _ _ (by omega))]
       rfl) rfl]
      rfl)]
     exact sign_at _ (by omega) (by omega)
    ·refine seq_to (app_ow (l:=((List.range j).map fun k=>strOf (F k)).map .str) (d:=.str (strOf (F j))) rfl ?_ (by simp; omega)) ?_
     ·have t1:slAG (gv 6) noneO (someO (gv 7)) [.sh (.int c'),.sh (.int t),.sh (.str signS),.sh (.int (n:Int)),.ow (.lst (pl.map .int)),.sh (.int (j:Int)),.sh (.str (strOf w)),.sh (.int (a:Int)),.ow (.lst (((List.range j).map fun k=>strOf (F k)).map .str)),.sh (.str ⟨#[cg ((p + 4 * (j:Int)) % 36)]⟩)] = some (.str (strOf (w.take a))):=by
       show slA (.str (strOf w)) none (some (a:Int)) = _
       simp only [slA]
       rw [if_pos (by rw [strOf_len,wl]; omega),take_s _ _ (by omega) (by omega),Int.toNat_natCast]
      have t2:slAG (gv 6) (someO (o2 (gv 7) (gc (.int 1)) addA)) noneO [.sh (.int c'),.sh (.int t),.sh (.str signS),.sh (.int (n:Int)),.ow (.lst (pl.map .int)),.sh (.int (j:Int)),.sh (.str (strOf w)),.sh (.int (a:Int)),.ow (.lst (((List.range j).map fun k=>strOf (F k)).map .str)),.sh (.str ⟨#[cg ((p + 4 * (j:Int)) % 36)]⟩)] = some (.str (strOf (w.drop (a + 1)))):=by
       show slA (.str (strOf w)) (some ((a:Int) + 1)) none = _
       simp only [slA]
       rw [if_pos (by rw [strOf_len,wl]; omega),drop_s _ _ (by omega) (by omega),show ((a:Int) + 1).toNat = a + 1 by omega]
      change o2 _ _ _ [.sh (.int c'),.sh (.int t),.sh (.str signS),.sh (.int (n:Int)),.ow (.lst (pl.map .int)),.sh (.int (j:Int)),.sh (.str (strOf w)),.sh (.int (a:Int)),.ow (.lst (((List.range j).map fun k=>strOf (F k)).map .str)),.sh (.str ⟨#[cg ((p + 4 * (j:Int)) % 36)]⟩)] = _
      rw [o2_of (x:=.str (strOf (w.take a ++ [cg ((p + 4 * (j:Int)) % 36)]))) (y:=.str (strOf (w.drop (a + 1)))) (by
       rw [o2_of t1 rfl]
       exact add_s _ [cg ((p + 4 * (j:Int)) % 36)] (by rw [List.length_take]; simp; omega)) t2]
      rw [add_s _ _ (by rw [List.length_append,List.length_take,List.length_drop]; simp; omega)]
      show some (D.str (strOf _)) = some (D.str (strOf (w.take a ++ cg ((p + 4 * (j:Int)) % 36) :: w.drop (a + 1))))
      rw [List.append_assoc]
      rfl
     ·rw [List.range_succ,List.map_append,List.map_append]
      rfl) ⟨_,_,rfl⟩
  obtain ⟨s5',s9,rfl⟩:=m2
  refine ⟨(List.range 8).map fun k=>strOf (F k),mkN_rf rfl (hpre _ _ (seq_to (δ':=[.sh (.int c'),.sh (.int t),.sh (.str signS),.sh (.int (n:Int)),.ow (.lst (pl.map .int)),s5,.sh (.str (strOf w)),.un,.un,.un]) ?_ (seq_to (set_of (d:=.int (a:Int)) ?_) (seq_to (δ':=[.sh (.int c'),.sh (.int t),.sh (.str signS),.sh (.int (n:Int)),.ow (.lst (pl.map .int)),s5,.sh (.str (strOf w)),.sh (.int (a:Int)),.ow (.lst []),.un]) rfl (seq_to (for_of (items:=rngD 0 8) rfl m1) (seq_rf rfl)))))),by simp,fun s hs=>?_,?_⟩
  ·rw [if_f (by show some (decide (t / 8 % 3 = 1)) = _; rw [decide_eq_false hb])]; rfl
  ·rw [o2_of (x:=.int t) (y:=.int (n:Int)) rfl rfl,mod_p _ _ (by omega),ha]
  ·obtain ⟨k,hk,rfl⟩:=List.mem_map.mp hs
   refine isName_of _ (by rw [Fl]; omega) (by rw [Fl]; omega) fun x hx=>?_
   rcases List.mem_append.mp hx with q | q
   ·exact wm x (List.mem_of_mem_take q)
   ·rcases List.mem_cons.mp q with q | q
    ·rw [q]; exact cg_mem _ (by omega) (by omega)
    ·exact wm x (List.mem_of_mem_drop q)
  ·refine List.nodup_iff_pairwise_ne.mpr (List.pairwise_map.mpr (List.Pairwise.imp_of_mem ?_ (List.nodup_range (n:=8))))
   intro x y hx hy hxy e
   have hx:=List.mem_range.mp hx
   have hy:=List.mem_range.mp hy
   have e:w.take a ++ cg ((p + 4 * (x:Int)) % 36) :: w.drop (a + 1) = w.take a ++ cg ((p + 4 * (y:Int)) % 36) :: w.drop (a + 1):=strOf_inj e
   have e:=List.append_cancel_left e
   injection e with e _
   have:=cg_inj _ _ (by omega) (by omega) (by omega) (by omega) e
   omega
end Gw
namespace Gw
open PySem DL W
theorem mix_ok (c k:Int) (hk:0 ≤ k∧k ≤ 1000000):∃ x,0 ≤ x∧x < 2147483647∧m__law_mix [.int c,.int k] = some (.int x):=by
 refine ⟨(c % 2147483647 + 1) * (48271 + 7 * k) % 2147483647,Int.emod_nonneg _ (by decide),Int.emod_lt_of_pos _ (by decide),mkF_rt rfl (seq_rt (ret_of ?_))⟩
 rw [o2_of (x:=.int ((c % 2147483647 + 1) * (48271 + 7 * k))) (y:=.int 2147483647) (by
  rw [o2_of (x:=.int (c % 2147483647 + 1)) (y:=.int (48271 + 7 * k)) rfl (by
   rw [o2_of (x:=.int 48271) (y:=.int (7 * k)) rfl (by rw [o2_of (x:=.int 7) (y:=.int k) rfl rfl]; exact mul_r _ _ (by omega))]
   rfl)]
  exact mul_r _ _ (by omega)) rfl]
 rfl
structure Vk (v:D) (m:Int):Prop where
 ok:valB v = true
 bd:∀ i,v = .int i→i.natAbs < 10 ^ 60
 lk:∀ k,lk v = some k→k < m
theorem pow60:powD (.int 10) (.int 60) = some (.int (10 ^ 60)):=by kernel_rfl
theorem value_ok (x m:Int) (hx:0 ≤ x∧x < 2 ^ 40) (hm:0 < m):∃ v,m__law_value [.int x,.int m] = some v∧Vk v m:=by
 have z:(100:Nat) ≤ sizeLine:=by decide
 have s0:setD (gN 2) (o2 (gv 0) (gc (.int 10)) modD) [.sh (.int x),.sh (.int m),.un] = some (.nx [.sh (.int x),.sh (.int m),.sh (.int (x % 10))]):=rfl
 have el:∀ k:Int,ob (o2 (gv 2) (gc (.int k)) ltD) [.sh (.int x),.sh (.int m),.sh (.int (x % 10))] = some (decide (x % 10 < k)):=fun k=>rfl
 have ee:∀ k:Int,ob (o2 (gv 2) (gc (.int k)) eqD) [.sh (.int x),.sh (.int m),.sh (.int (x % 10))] = some (decide (x % 10 = k)):=fun k=>rfl
 have nl:∀ (k:Int) (A:GS),¬ x % 10 < k→ifD (ob (o2 (gv 2) (gc (.int k)) ltD)) A nilD [.sh (.int x),.sh (.int m),.sh (.int (x % 10))] = some (.nx [.sh (.int x),.sh (.int m),.sh (.int (x % 10))]):=fun k A h=>by
  rw [if_f (by rw [el,decide_eq_false h])]; rfl
 have ne:∀ (k:Int) (A:GS),¬ x % 10 = k→ifD (ob (o2 (gv 2) (gc (.int k)) eqD)) A nilD [.sh (.int x),.sh (.int m),.sh (.int (x % 10))] = some (.nx [.sh (.int x),.sh (.int m),.sh (.int (x % 10))]):=fun k A h=>by
  rw [if_f (by rw [ee,decide_eq_false h])]; rfl
 by_cases h6:x % 10 < 6
 ·have hk0:0 ≤ x / 10 % m:=Int.emod_nonneg _ (by omega)
  have hk1:x / 10 % m < m:=Int.emod_lt_of_pos _ hm
  refine ⟨.tup [.str "at",.int (x / 10 % m)],mkF_rt rfl (seq_to s0 (seq_rt ?_)),by simp [valB,marks,hk0],(fun i hi=>by cases hi),fun k hk=>?_⟩
  ·rw [if_t (by rw [el,decide_eq_true h6])]
   exact seq_rt (ret_of (tup_of (cons_of rfl (cons_of (d:=.int (x / 10 % m)) (by
    rw [o2_of (x:=.int (x / 10)) (y:=.int m) rfl rfl]; exact mod_p _ _ hm) rfl)) (by show 2 ≤ sizeLine; omega)))
  ·have:=Option.some.inj hk
   omega
 by_cases e6:x % 10 = 6
 ·refine ⟨.non,mkF_rt rfl (seq_to s0 (seq_to (nl 6 _ h6) (seq_rt ?_))),rfl,(fun i hi=>by cases hi),fun k hk=>by cases hk⟩
  rw [if_t (by rw [ee,decide_eq_true e6])]; rfl
 have p60:(10:Nat) ^ 60 = 1000000000000000000000000000000000000000000000000000000000000:=by decide
 by_cases h9:x % 10 < 9
 ·refine ⟨.int (x / 10 % 3 - 1),mkF_rt rfl (seq_to s0 (seq_to (nl 6 _ h6) (seq_to (ne 6 _ e6) (seq_rt ?_)))),rfl,(fun i hi=>?_),fun k hk=>by cases hk⟩
  ·rw [if_t (by rw [el,decide_eq_true h9])]; rfl
  ·injection hi with hi
   rw [p60]; omega
 ·obtain ⟨b,hb⟩:∃ b:Int,b = (x / 10) ^ 7 % 10 ^ 60:=⟨_,rfl⟩
  have p60i:(10:Int) ^ 60 = 1000000000000000000000000000000000000000000000000000000000000:=by decide
  have b0:0 ≤ b:=by rw [hb]; exact Int.emod_nonneg _ (by decide)
  have b1:b < 10 ^ 60:=by rw [hb]; exact Int.emod_lt_of_pos _ (by decide)
  obtain ⟨q,hq,hq1⟩:∃ q:Int,q = 1 - 2 * (x / 20 % 2)∧(q = 1 ∨ q = -1):=⟨_,rfl,by omega⟩
  refine ⟨.int (b * q),mkF_rt rfl (seq_to s0 (seq_to (nl 6 _ h6) (seq_to (ne 6 _ e6) (seq_to (nl 9 _ h9) (seq_rt (ret_of ?_)))))),rfl,(fun i hi=>?_),fun k hk=>by cases hk⟩
  ·rw [o2_of (x:=.int b) (y:=.int q) (by
    rw [o2_of (x:=.int ((x / 10) ^ 7)) (y:=.int (10 ^ 60)) (by
     rw [o2_of (x:=.int (x / 10)) (y:=.int 7) rfl rfl]
     simp only [powD,ii]
     rw [if_pos ⟨by decide,by decide,by omega⟩]
     rfl) (by rw [o2_of (x:=.int 10) (y:=.int 60) rfl rfl]; exact pow60)]
    rw [mod_p _ _ (by decide),hb]) (by
    rw [o2_of (x:=.int 1) (y:=.int (2 * (x / 20 % 2))) rfl (by rw [o2_of (x:=.int 2) (y:=.int (x / 20 % 2)) rfl rfl]; exact mul_r _ _ (by omega)),hq]
    rfl)]
   exact mul_r _ _ (by omega)
  ·injection hi with hi
   rw [← hi,p60]
   rw [p60i] at b1
   rcases hq1 with rfl | rfl
   ·rw [Int.mul_one]; omega
   ·rw [Int.mul_neg,Int.mul_one,Int.natAbs_neg]; omega
noncomputable def VB:GS:=(seqD (setD (gN 0) (o2 (o2 (gv 0) (gc (.int 48271)) mulA) (gc (.int 2147483647)) modD))
 (seqD (exprX (appX 3 (oA (consA (gv 0) (consA (gv 2) nilA)) m__law_value)))
 nilD))
theorem values_ok (x:Int) (c:Nat) (m:Int) (hc:c ≤ 1000) (hm:0 < m):∃ vs,m__law_values [.int x,.int (c:Int),.int m] = some (.lst vs)∧vs.length = c∧∀ v ∈ vs,Vk v m:=by
 have z:(10000:Nat) ≤ sizeLine:=by decide
 obtain ⟨δ',l1,l2⟩:=forD_inv (f:=gN 4) (G:=VB) (fun i δ=>∃ (x':Int) (vs:List D) (s4:Sl),δ = [.sh (.int x'),.sh (.int (c:Int)),.sh (.int m),.ow (.lst vs),s4]∧vs.length = i∧∀ v ∈ vs,Vk v m) (rngD 0 (c:Int)) 0
  [.sh (.int x),.sh (.int (c:Int)),.sh (.int m),.ow (.lst []),.un] (by
   rintro j d δ hj ⟨x',vs,s4,rfl,hl,hv⟩
   obtain ⟨hj',rfl⟩:=rng_get hj
   rw [Int.toNat_natCast] at hj'
   obtain ⟨v,hv1,hv2⟩:=value_ok (x' * 48271 % 2147483647) m ⟨Int.emod_nonneg _ (by decide),by have:=Int.emod_lt_of_pos (x' * 48271) (by decide:(0:Int) < 2147483647); omega⟩ hm
   refine ⟨_,[.sh (.int (x' * 48271 % 2147483647)),.sh (.int (c:Int)),.sh (.int m),.ow (.lst (vs ++ [v])),.sh (.int (j:Int))],rfl,?_,_,vs ++ [v],_,rfl,by simp [hl],fun u hu=>?_⟩
   ·refine seq_to (set_of (d:=.int (x' * 48271 % 2147483647)) (by
     rw [o2_of (x:=.int (x' * 48271)) (y:=.int 2147483647) (by rw [o2_of (x:=.int x') (y:=.int 48271) rfl rfl]; exact mul_r _ _ (by omega)) rfl]
     rfl)) ?_
    refine seq_to (app_ow (l:=vs) (d:=v) rfl (by rw [oA_of (ds:=[.int (x' * 48271 % 2147483647),.int m]) rfl]; exact hv1) (by omega)) rfl
   ·rcases List.mem_append.mp hu with q | q
    ·exact hv u q
    ·rw [List.mem_singleton.mp q]; exact hv2) ⟨_,[],_,rfl,rfl,fun v hv=>by cases hv⟩
 obtain ⟨x',vs,s4,rfl,hl,hv⟩:=l2
 rw [rng_len,Int.toNat_natCast,Nat.zero_add] at hl
 exact ⟨vs,mkN_rf rfl (seq_to (δ':=[.sh (.int x),.sh (.int (c:Int)),.sh (.int m),.ow (.lst []),.un]) rfl (seq_to (for_of (items:=rngD 0 (c:Int)) (rng1_of (cons_of rfl rfl) (by omega) (by omega)) l1) (seq_rf rfl))),hl,hv⟩
structure Gd (p:Pt) (m:Int) (nm:List Str):Prop where
 ok:p.Ok
 vk:∀ v ∈ p.vals,Vk v m
 nms:∀ s ∈ p.all,s ∈ nm
theorem w_a:isWord ("" : Str) = true∧isWord ("a" : Str) = true∧isWord (" a" : Str) = true:=by decide +kernel
theorem s_0:((" 0" : Str)) = strOf [32,48]:=by decide +kernel
theorem isWord_of (l:List Nat) (h2:l.length ≤ 20) (h3:∀ c ∈ l,c ∈ wordS.cps.toList):isWord (strOf l) = true:=by
 unfold isWord hasAll
 rw [strOf_len,strOf_list]
 simp only [Bool.and_eq_true,decide_eq_true_eq,List.all_eq_true]
 exact ⟨by omega,fun c hc=>by simpa using h3 c hc⟩
theorem name_word:∀ c ∈ nameS.cps.toList,c ∈ wordS.cps.toList:=by decide +kernel
theorem sp_word:∀ c ∈ ([32,48]:List Nat),c ∈ wordS.cps.toList:=by decide +kernel
theorem name_mem {s:Str} (h:isName s = true):∀ c ∈ s.cps.toList,c ∈ nameS.cps.toList:=by
 unfold isName hasAll at h
 simp only [Bool.and_eq_true,decide_eq_true_eq,List.all_eq_true] at h
 intro c hc
 have:=h.1.2 c hc
 simpa using this
theorem at_nm (nm:List Str) (hp:Pool nm) (i:Int) (h0:0 ≤ i) (h1:i < 8):ixD (.lst (nm.map .str)) (.int i) = some (.str (nm.getD i.toNat ""))∧nm.getD i.toNat "" ∈ nm:=by
 have hl:=hp.len
 have hlt:i.toNat < nm.length:=by omega
 refine ⟨?_,?_⟩
 ·show atI (nm.map D.str) i = _
  rw [atI_in h0 (by rw [List.length_map]; omega) .non]
  simp [List.getD_eq_getElem?_getD,hlt]
 ·rw [show nm.getD i.toNat "" = nm[i.toNat] by simp [List.getD_eq_getElem?_getD,hlt]]
  exact List.getElem_mem hlt
theorem part_ok (x m:Int) (vs:List D) (nm:List Str) (hp:Pool nm) (hv:∀ v ∈ vs,Vk v m) (hl:vs.length ≤ 12) (hl8:¬ x % 8 < 4→vs.length ≤ 8):∃ p:Pt,m__law_part [.int x,.lst vs,.lst (nm.map .str)] = some p.d∧Gd p m nm:=by
 have z:(100:Nat) ≤ sizeLine:=by decide
 have hnl:=hp.len
 have s0:setD (gN 3) (o2 (gv 0) (gc (.int 8)) modD) [.sh (.int x),.sh (.lst vs),.sh (.lst (nm.map .str)),.un,.un,.un] = some (.nx [.sh (.int x),.sh (.lst vs),.sh (.lst (nm.map .str)),.sh (.int (x % 8)),.un,.un]):=rfl
 by_cases h0:x % 8 = 0
 ·obtain ⟨w,hw,hww⟩:∃ w:Str,o2 (lstG (consA (gc (.str "")) (consA (gc (.str "a")) (consA (gc (.str " a")) (consA (o2 (o2 (gv 2) (gc (.int 0)) ixD) (gc (.str " 0")) addA) nilA))))) (o2 (o2 (gv 0) (gc (.int 16)) fdivD) (gc (.int 4)) modD) ixD [.sh (.int x),.sh (.lst vs),.sh (.lst (nm.map .str)),.sh (.int (x % 8)),.un,.un] = some (.str w)∧isWord w = true:=by
   obtain ⟨a1,a2⟩:=at_nm nm hp 0 (by omega) (by omega)
   obtain ⟨s,hs⟩:∃ s,s = nm.getD (0:Int).toNat "" := ⟨_,rfl⟩
   rw [← hs] at a1 a2
   have hn:=hp.names s a2
   have hsh:=name_short hn
   have es:s = strOf s.cps.toList:=(strOf_of s).symm
   have hsl:s.cps.toList.length ≤ 8:=by
    have:s.length = s.cps.toList.length:=by show s.cps.size = _; simp
    omega
   rw [o2_of (x:=.lst [.str "",.str "a",.str " a",.str (strOf (s.cps.toList ++ [32,48]))]) (y:=.int (x / 16 % 4)) (lst_of (cons_of rfl (cons_of rfl (cons_of rfl (cons_of (d:=.str (strOf (s.cps.toList ++ [32,48]))) (by
    rw [o2_of (x:=.str s) (y:=.str " 0") (by rw [o2_of (x:=.lst (nm.map .str)) (y:=.int 0) rfl rfl]; exact a1) rfl]
    have e:addA (.str (strOf s.cps.toList)) (.str (strOf [32,48])) = some (.str (strOf (s.cps.toList ++ [32,48]))):=add_s _ _ (by simp only [List.length_cons,List.length_nil]; omega)
    rw [← es,← s_0] at e
    exact e) rfl)))) (by show 4 ≤ sizeLine; omega)) rfl]
   have q:x / 16 % 4 = 0 ∨ x / 16 % 4 = 1 ∨ x / 16 % 4 = 2 ∨ x / 16 % 4 = 3:=by omega
   rcases q with q | q | q | q <;> rw [q]
   ·exact ⟨_,rfl,w_a.1⟩
   ·exact ⟨_,rfl,w_a.2.1⟩
   ·exact ⟨_,rfl,w_a.2.2⟩
   ·refine ⟨_,rfl,isWord_of _ (by simp only [List.length_append,List.length_cons,List.length_nil]; omega) fun c hc=>?_⟩
    rcases List.mem_append.mp hc with q | q
    ·exact name_word c (name_mem hn c q)
    ·exact sp_word c q
  refine ⟨.text w,mkF_rt rfl (seq_to s0 (seq_rt ?_)),hww,(fun v hv=>by cases hv),fun s hs=>by cases hs⟩
  rw [if_t (by show some (decide (x % 8 = 0)) = _; rw [decide_eq_true h0])]
  exact seq_rt (ret_of (tup_of (cons_of rfl (cons_of hw rfl)) (by show 2 ≤ sizeLine; omega)))
 have n0:∀ A:GS,ifD (ob (o2 (gv 3) (gc (.int 0)) eqD)) A nilD [.sh (.int x),.sh (.lst vs),.sh (.lst (nm.map .str)),.sh (.int (x % 8)),.un,.un] = some (.nx [.sh (.int x),.sh (.lst vs),.sh (.lst (nm.map .str)),.sh (.int (x % 8)),.un,.un]):=fun A=>by
  rw [if_f (by show some (decide (x % 8 = 0)) = _; rw [decide_eq_false h0])]; rfl
 by_cases h4:x % 8 < 4
 ·refine ⟨.row vs,mkF_rt rfl (seq_to s0 (seq_to (n0 _) (seq_rt ?_))),⟨hl,fun v q=>(hv v q).ok⟩,hv,fun s hs=>by cases hs⟩
  rw [if_t (by show some (decide (x % 8 < 4)) = _; rw [decide_eq_true h4])]
  exact seq_rt (ret_of (tup_of (cons_of rfl (cons_of (by rw [oA_of (ds:=[.lst vs]) rfl]; rfl) rfl)) (by show 2 ≤ sizeLine; omega)))
 have n4:∀ A:GS,ifD (ob (o2 (gv 3) (gc (.int 4)) ltD)) A nilD [.sh (.int x),.sh (.lst vs),.sh (.lst (nm.map .str)),.sh (.int (x % 8)),.un,.un] = some (.nx [.sh (.int x),.sh (.lst vs),.sh (.lst (nm.map .str)),.sh (.int (x % 8)),.un,.un]):=fun A=>by
  rw [if_f (by show some (decide (x % 8 < 4)) = _; rw [decide_eq_false h4])]; rfl
 have hv8:=hl8 h4
 obtain ⟨st,hst⟩:∃ st:Int,st = x / 8 % 2 * 3:=⟨_,rfl⟩
 have hst0:0 ≤ st∧st ≤ 3:=by omega
 obtain ⟨ns,hns⟩:∃ ns:Nat→Str,ns = fun (j:Nat)=>nm.getD ((st + (j:Int)) % 8).toNat "" := ⟨_,rfl⟩
 have nsm:∀ j,ns j ∈ nm:=fun j=>by rw [hns]; exact (at_nm nm hp ((st + (j:Int)) % 8) (by omega) (by omega)).2
 obtain ⟨ps,hps⟩:∃ ps:List (Str × D),ps = (List.range vs.length).map fun j=>(ns j,vs.getD j .non):=⟨_,rfl⟩
 have snd:ps.map (·.2) = vs:=by
  rw [hps,List.map_map]
  refine List.ext_getElem (by simp) fun i h1 h2=>?_
  simp [List.getD_eq_getElem?_getD,h2]
 have fst:∀ s ∈ ps.map (·.1),s ∈ nm:=fun s hs=>by
  obtain ⟨p,hp',rfl⟩:=List.mem_map.mp hs
  rw [hps] at hp'
  obtain ⟨j,_,rfl⟩:=List.mem_map.mp hp'
  exact nsm j
 have pok:PsOk ps:=by
  refine ⟨by rw [hps]; simp; omega,fun p hp'=>hp.names _ (fst _ (List.mem_map.mpr ⟨p,hp',rfl⟩)),fun p hp'=>(hv p.2 (by rw [← snd]; exact List.mem_map.mpr ⟨p,hp',rfl⟩)).ok,?_⟩
  rw [hps,List.map_map]
  refine List.nodup_iff_pairwise_ne.mpr (List.pairwise_map.mpr (List.Pairwise.imp_of_mem ?_ (List.nodup_range (n:=vs.length))))
  intro a b ha hb hab e
  have ha:=List.mem_range.mp ha
  have hb:=List.mem_range.mp hb
  have e:ns a = ns b:=e
  rw [hns] at e
  have la:((st + (a:Int)) % 8).toNat < nm.length:=by omega
  have lb:((st + (b:Int)) % 8).toNat < nm.length:=by omega
  have e:nm.getD ((st + (a:Int)) % 8).toNat "" = nm.getD ((st + (b:Int)) % 8).toNat "" := e
  rw [show nm.getD ((st + (a:Int)) % 8).toNat "" = nm[((st + (a:Int)) % 8).toNat] by simp [List.getD_eq_getElem?_getD,la],show nm.getD ((st + (b:Int)) % 8).toNat "" = nm[((st + (b:Int)) % 8).toNat] by simp [List.getD_eq_getElem?_getD,lb]] at e
  have:=(List.getElem_inj hp.nd).mp e
  omega
 have s4:setD (gN 4) (o2 (o2 (o2 (gv 0) (gc (.int 8)) fdivD) (gc (.int 2)) modD) (gc (.int 3)) mulA) [.sh (.int x),.sh (.lst vs),.sh (.lst (nm.map .str)),.sh (.int (x % 8)),.un,.un] = some (.nx [.sh (.int x),.sh (.lst vs),.sh (.lst (nm.map .str)),.sh (.int (x % 8)),.sh (.int st),.un]):=set_of (d:=.int st) (by
  rw [o2_of (x:=.int (x / 8 % 2)) (y:=.int 3) rfl rfl,mul_r _ _ (by omega),hst])
 have s5:setD (gN 5) (oA (consA (compG 1 [1,2,4] (rng1I (consA (oA (consA (gv 1) nilA) lenD) nilA)) (gN 0) noT (tupG (consA (o2 (gv 2) (o2 (o2 (gv 3) (gv 0) addA) (gc (.int 8)) modD) ixD) (consA (o2 (gv 1) (gv 0) ixD) nilA)))) nilA) tupOfD) [.sh (.int x),.sh (.lst vs),.sh (.lst (nm.map .str)),.sh (.int (x % 8)),.sh (.int st),.un] = some (.nx [.sh (.int x),.sh (.lst vs),.sh (.lst (nm.map .str)),.sh (.int (x % 8)),.sh (.int st),.sh (.tup (ps.map pr))]):=set_of (d:=.tup (ps.map pr)) (by
  rw [oA_of (ds:=[.lst (ps.map pr)]) (cons_of (comp_of (items:=rngD 0 (vs.length:Int)) (rng1_of (cons_of rfl rfl) (by omega) (by omega)) (by rw [rng_len]; omega) (by
   rw [hps,List.map_map]
   have q:=comp_rng (gt:=noT) (ge:=(tupG (consA (o2 (gv 2) (o2 (o2 (gv 3) (gv 0) addA) (gc (.int 8)) modD) ixD) (consA (o2 (gv 1) (gv 0) ixD) nilA)))) (δ:=[.un,.sh (.lst vs),.sh (.lst (nm.map .str)),.sh (.int st)]) (n:=(vs.length:Int)) (fun j=>pr (ns j,vs.getD j .non)) (fun k hk=>⟨[.sh (.int (k:Int)),.sh (.lst vs),.sh (.lst (nm.map .str)),.sh (.int st)],rfl,rfl,by
    refine tup_of (cons_of (d:=.str (ns k)) ?_ (cons_of (d:=vs.getD k .non) ?_ rfl)) (by show 2 ≤ sizeLine; omega)
    ·rw [o2_of (x:=.lst (nm.map .str)) (y:=.int ((st + (k:Int)) % 8)) rfl rfl,hns]
     exact (at_nm nm hp _ (by omega) (by omega)).1
    ·rw [o2_of (x:=.lst vs) (y:=.int (k:Int)) rfl rfl]
     show atI vs (k:Int) = _
     rw [atI_in (by omega) (by omega) .non,Int.toNat_natCast]⟩)
   rw [Int.toNat_natCast] at q
   exact q)) rfl)]
  rfl)
 by_cases h6:x % 8 < 6
 ·refine ⟨.table ps,mkF_rt rfl (seq_to s0 (seq_to (n0 _) (seq_to (n4 _) (seq_to s4 (seq_to s5 (seq_rt ?_)))))),pok,by show ∀ v ∈ ps.map (·.2),Vk v m; rw [snd]; exact hv,fun s hs=>fst s (by simpa [Pt.all,Pt.pnames,Pt.cls] using hs)⟩
  rw [if_t (by show some (decide (x % 8 < 6)) = _; rw [decide_eq_true h6])]
  exact seq_rt (ret_of (tup_of (cons_of rfl (cons_of rfl rfl)) (by show 2 ≤ sizeLine; omega)))
 ·obtain ⟨a1,a2⟩:=at_nm nm hp (x / 16 % 2) (by omega) (by omega)
  refine ⟨.rcd (nm.getD (x / 16 % 2).toNat "") ps,mkF_rt rfl (seq_to s0 (seq_to (n0 _) (seq_to (n4 _) (seq_to s4 (seq_to s5 (seq_to (δ':=[.sh (.int x),.sh (.lst vs),.sh (.lst (nm.map .str)),.sh (.int (x % 8)),.sh (.int st),.sh (.tup (ps.map pr))]) ?_ (seq_rt (ret_of ?_)))))))),⟨hp.names _ a2,pok⟩,by show ∀ v ∈ ps.map (·.2),Vk v m; rw [snd]; exact hv,fun s hs=>?_⟩
  ·rw [if_f (by show some (decide (x % 8 < 6)) = _; rw [decide_eq_false h6])]; rfl
  ·exact tup_of (cons_of rfl (cons_of (by
    rw [o2_of (x:=.lst (nm.map .str)) (y:=.int (x / 16 % 2)) rfl rfl]
    exact a1) (cons_of rfl rfl))) (by show 3 ≤ sizeLine; omega)
  ·rcases List.mem_append.mp hs with q | q
   ·exact fst s q
   ·have:=List.mem_singleton.mp q
    rw [this]; exact a2
noncomputable def WB:GS:=(seqD (setD (gN 5) (oA (consA (o2 (o2 (gv 0) (o2 (gv 4) (oA (consA (gv 0) nilA) lenD) modD) ixD) (o2 (gv 4) (o2 (gv 4) (oA (consA (gv 0) nilA) lenD) fdivD) mulA) addA) (consA (gv 4) nilA)) m__law_mix))
 (seqD (setD (gN 6) (o2 (lstG (consA (gc (.int 0)) (consA (gc (.int 1)) (consA (gc (.int 2)) (consA (gc (.int 2)) (consA (gc (.int 3)) (consA (gc (.int 2)) (consA (gc (.int 3)) (consA (gc (.int 1)) nilA))))))))) (o2 (o2 (gv 5) (gc (.int 32)) fdivD) (gc (.int 8)) modD) ixD))
 (seqD (ifD (ob (o2 (o2 (o2 (gv 5) (gc (.int 256)) fdivD) (gc (.int 16)) modD) (gc (.int 3)) eqD))
 (seqD (setD (gN 6) (o2 (lstG (consA (gc (.int 8)) (consA (gc (.int 12)) nilA))) (oA (consA (o2 (o2 (gv 5) (gc (.int 8)) modD) (gc (.int 4)) ltD) nilA) intOfD) ixD))
 nilD)
 nilD)
 (seqD (setD (gN 7) (oA (consA (o2 (o2 (gv 5) (gc (.int 8)) fdivD) (gc (.int 1)) addA) (consA (gv 6) (consA (gv 1) nilA))) m__law_values))
 (seqD (exprX (appX 3 (oA (consA (gv 5) (consA (gv 7) (consA (gv 2) nilA))) m__law_part)))
 nilD)))))
theorem WB_ok (cs:List Int) (hc:0 < cs.length∧cs.length ≤ 1000) (m:Int) (hm:0 < m∧m ≤ 1000) (nm:List Str) (hp:Pool nm) (k:Nat) (hk:k ≤ 1000) (acc:List D) (ha:acc.length ≤ 2000) (s5 s6 s7:Sl) :
  ∃ (p:Pt) (t5 t6 t7:Sl),Gd p m nm∧WB [.sh (.lst (cs.map .int)),.sh (.int m),.sh (.lst (nm.map .str)),.ow (.lst acc),.sh (.int (k:Int)),s5,s6,s7] = some (.nx [.sh (.lst (cs.map .int)),.sh (.int m),.sh (.lst (nm.map .str)),.ow (.lst (acc ++ [p.d])),.sh (.int (k:Int)),t5,t6,t7]):=by
 have z:(10000:Nat) ≤ sizeLine:=by decide
 obtain ⟨l,hl⟩:∃ l:Int,l = (cs.length:Int):=⟨_,rfl⟩
 have hi0:0 ≤ (k:Int) % l:=Int.emod_nonneg _ (by omega)
 have hi1:(k:Int) % l < l:=Int.emod_lt_of_pos _ (by omega)
 obtain ⟨c,hcx⟩:∃ c:Int,ixD (.lst (cs.map .int)) (.int ((k:Int) % l)) = some (.int c):=by
  have hlt:((k:Int) % l).toNat < cs.length:=by omega
  refine ⟨cs[((k:Int) % l).toNat],?_⟩
  show atI (cs.map D.int) _ = _
  rw [atI_in hi0 (by rw [List.length_map]; omega) .non]
  simp [List.getD_eq_getElem?_getD,hlt]
 have hdl:(k:Int) / l ≤ 1000∧0 ≤ (k:Int) / l:=by
  have h1:=Int.ediv_le_self l (show (0:Int) ≤ (k:Int) by omega)
  have h2:=Int.ediv_nonneg (show (0:Int) ≤ (k:Int) by omega) (show (0:Int) ≤ l by omega)
  omega
 obtain ⟨x,hx0,hx1,hx⟩:=mix_ok (c + (k:Int) * ((k:Int) / l)) (k:Int) ⟨by omega,by omega⟩
 obtain ⟨n,hn,hn12,hn8⟩:∃ n:Nat,(n:Int) = (if x / 256 % 16 = 3 then (if x % 8 < 4 then 12 else 8) else [0,1,2,2,3,2,3,1].getD (x / 32 % 8).toNat 0)∧n ≤ 12∧(¬ x % 8 < 4→n ≤ 8):=by
  split
  ·split
   ·exact ⟨12,rfl,by omega,fun h=>absurd (by assumption) h⟩
   ·exact ⟨8,rfl,by omega,fun _=>by omega⟩
  ·have q:x / 32 % 8 = 0 ∨ x / 32 % 8 = 1 ∨ x / 32 % 8 = 2 ∨ x / 32 % 8 = 3 ∨ x / 32 % 8 = 4 ∨ x / 32 % 8 = 5 ∨ x / 32 % 8 = 6 ∨ x / 32 % 8 = 7:=by omega
   rcases q with q | q | q | q | q | q | q | q <;> rw [q]
   ·exact ⟨0,rfl,by omega,fun _=>by omega⟩
   ·exact ⟨1,rfl,by omega,fun _=>by omega⟩
   ·exact ⟨2,rfl,by omega,fun _=>by omega⟩
   ·exact ⟨2,rfl,by omega,fun _=>by omega⟩
   ·exact ⟨3,rfl,by omega,fun _=>by omega⟩
   ·exact ⟨2,rfl,by omega,fun _=>by omega⟩
   ·exact ⟨3,rfl,by omega,fun _=>by omega⟩
   ·exact ⟨1,rfl,by omega,fun _=>by omega⟩
 obtain ⟨vs,hv1,hv2,hv3⟩:=values_ok (x / 8 + 1) n m (by omega) (by omega)
 obtain ⟨p,hp1,hp2⟩:=part_ok x m vs nm hp hv3 (by omega) (fun h=>by have:=hn8 h; omega)
 refine ⟨p,.sh (.int x),.sh (.int (n:Int)),.sh (.lst vs),hp2,?_⟩
 unfold WB
 have hlen:∀ (s5 s6 s7:Sl),oA (consA (gv 0) nilA) lenD [.sh (.lst (cs.map .int)),.sh (.int m),.sh (.lst (nm.map .str)),.ow (.lst acc),.sh (.int (k:Int)),s5,s6,s7] = some (.int l):=fun s5 s6 s7=>by
  rw [oA_of (ds:=[.lst (cs.map .int)]) rfl]
  show some (D.int (((cs.map D.int).length:Nat):Int)) = _
  rw [List.length_map,hl]
 refine seq_to (set_of (d:=.int x) ?_) ?_
 ·rw [oA_of (ds:=[.int (c + (k:Int) * ((k:Int) / l)),.int (k:Int)]) (cons_of (d:=.int (c + (k:Int) * ((k:Int) / l))) (by
   rw [o2_of (x:=.int c) (y:=.int ((k:Int) * ((k:Int) / l))) (by
    rw [o2_of (x:=.lst (cs.map .int)) (y:=.int ((k:Int) % l)) rfl (by rw [o2_of (x:=.int (k:Int)) (y:=.int l) rfl (hlen _ _ _)]; exact mod_p _ _ (by omega))]
    exact hcx) (by
    rw [o2_of (x:=.int (k:Int)) (y:=.int ((k:Int) / l)) rfl (by rw [o2_of (x:=.int (k:Int)) (y:=.int l) rfl (hlen _ _ _)]; exact fdiv_p _ _ ⟨by omega,by omega⟩)]
    exact mul_r _ _ (by omega))]
   rfl) rfl)]
  exact hx
 obtain ⟨n0,hn0⟩:∃ n0:Int,n0 = [0,1,2,2,3,2,3,1].getD (x / 32 % 8).toNat 0:=⟨_,rfl⟩
 refine seq_to (set_of (d:=.int n0) ?_) ?_
 ·rw [o2_of (x:=.lst [.int 0,.int 1,.int 2,.int 2,.int 3,.int 2,.int 3,.int 1]) (y:=.int (x / 32 % 8)) (lst_of rfl (by show 8 ≤ sizeLine; omega)) rfl]
  rw [hn0]
  have q:x / 32 % 8 = 0 ∨ x / 32 % 8 = 1 ∨ x / 32 % 8 = 2 ∨ x / 32 % 8 = 3 ∨ x / 32 % 8 = 4 ∨ x / 32 % 8 = 5 ∨ x / 32 % 8 = 6 ∨ x / 32 % 8 = 7:=by omega
  rcases q with q | q | q | q | q | q | q | q <;> rw [q] <;> rfl
 refine seq_to (δ':=[.sh (.lst (cs.map .int)),.sh (.int m),.sh (.lst (nm.map .str)),.ow (.lst acc),.sh (.int (k:Int)),.sh (.int x),.sh (.int (n:Int)),s7]) ?_ ?_
 ·change ifD _ _ _ [.sh (.lst (cs.map .int)),.sh (.int m),.sh (.lst (nm.map .str)),.ow (.lst acc),.sh (.int (k:Int)),.sh (.int x),.sh (.int n0),s7] = _
  rw [hn]
  by_cases h:x / 256 % 16 = 3
  ·rw [if_t (by show some (decide (x / 256 % 16 = 3)) = _; rw [decide_eq_true h]),if_pos h]
   refine seq_to (set_of (d:=.int (if x % 8 < 4 then 12 else 8)) ?_) rfl
   rw [o2_of (x:=.lst [.int 8,.int 12]) (y:=.int (if decide (x % 8 < 4) = true then 1 else 0)) (lst_of rfl (by show 2 ≤ sizeLine; omega)) rfl]
   by_cases q:x % 8 < 4
   ·rw [if_pos (decide_eq_true q),if_pos q]; rfl
   ·rw [if_neg (by simpa using q),if_neg q]; rfl
  ·rw [if_f (by show some (decide (x / 256 % 16 = 3)) = _; rw [decide_eq_false h]),if_neg h,hn0]; rfl
 refine seq_to (set_of (d:=.lst vs) (by
  rw [oA_of (ds:=[.int (x / 8 + 1),.int (n:Int),.int m]) rfl]; exact hv1)) ?_
 refine seq_to (app_ow (l:=acc) (d:=p.d) rfl (by
  rw [oA_of (ds:=[.int x,.lst vs,.lst (nm.map .str)]) rfl]; exact hp1) (by omega)) rfl
theorem web_ok (cs:List Int) (hc:0 < cs.length∧cs.length ≤ 1000) (m:Nat) (hm:0 < m∧m ≤ 1000) (nm:List Str) (hp:Pool nm) :
  ∃ ps:List Pt,m__law_web [.lst (cs.map .int),.int (m:Int),.lst (nm.map .str)] = some (.tup (ps.map Pt.d))∧ps.length = m∧∀ p ∈ ps,Gd p (m:Int) nm:=by
 have z:(10000:Nat) ≤ sizeLine:=by decide
 obtain ⟨δ',l1,l2⟩:=forD_inv (f:=gN 4) (G:=WB) (fun i δ=>∃ (ps:List Pt) (s4 s5 s6 s7:Sl),δ = [.sh (.lst (cs.map .int)),.sh (.int (m:Int)),.sh (.lst (nm.map .str)),.ow (.lst (ps.map Pt.d)),s4,s5,s6,s7]∧ps.length = i∧∀ p ∈ ps,Gd p (m:Int) nm) (rngD 0 (m:Int)) 0
  [.sh (.lst (cs.map .int)),.sh (.int (m:Int)),.sh (.lst (nm.map .str)),.ow (.lst []),.un,.un,.un,.un] (by
   rintro j d δ hj ⟨ps,s4,s5,s6,s7,rfl,hl,hg⟩
   obtain ⟨hj',rfl⟩:=rng_get hj
   rw [Int.toNat_natCast] at hj'
   obtain ⟨p,t5,t6,t7,h1,h2⟩:=WB_ok cs hc (m:Int) (by omega) nm hp j (by omega) (ps.map Pt.d) (by rw [List.length_map]; omega) s5 s6 s7
   refine ⟨_,_,rfl,h2,ps ++ [p],_,t5,t6,t7,by rw [List.map_append]; rfl,by simp [hl],fun q hq=>?_⟩
   rcases List.mem_append.mp hq with a | a
   ·exact hg q a
   ·rw [List.mem_singleton.mp a]; exact h1) ⟨[],_,_,_,_,rfl,rfl,fun p hp=>by cases hp⟩
 obtain ⟨ps,s4,s5,s6,s7,rfl,hl,hg⟩:=l2
 rw [rng_len,Int.toNat_natCast,Nat.zero_add] at hl
 refine ⟨ps,mkF_rt rfl (seq_to (δ':=[.sh (.lst (cs.map .int)),.sh (.int (m:Int)),.sh (.lst (nm.map .str)),.ow (.lst []),.un,.un,.un,.un]) rfl (seq_to (for_of (items:=rngD 0 (m:Int)) (rng1_of (cons_of rfl rfl) (by omega) (by omega)) l1) (seq_rt (ret_of ?_)))),hl,hg⟩
 show oA (consA (gv 3) nilA) tupOfD (frz _) = _
 rw [oA_of (ds:=[.lst (ps.map Pt.d)]) rfl]
 rfl
theorem comp_snd2 (ps:List (Str × D)):compD (tup2 0 1) noT (gv 1) [.un,.un] (ps.map pr) = some (ps.map (·.2)):=by
 rw [compD_map (fun d=>match d with | .tup [_,v]=>v | _=>.non) (fun d hd=>by
  obtain ⟨p,hp,rfl⟩:=List.mem_map.mp hd
  exact ⟨_,rfl,rfl,rfl⟩),List.map_map]
 rfl
theorem vals_ok (p:Pt) (h:p.few):m__law_vals [p.d] = some (.lst p.vals):=by
 cases p with
 | text w=>kernel_rfl
 | row vs =>
  refine mkN_rf rfl (seq_to (δ':=[.sh (Pt.row vs).d]) (by rw [if_f (by kernel_rfl)]; rfl) (seq_rf (by rw [if_t (by kernel_rfl)]; rfl)))
 | table ps =>
  refine mkN_rf rfl (seq_to (δ':=[.sh (Pt.table ps).d]) (by rw [if_f (by kernel_rfl)]; rfl) (seq_to (δ':=[.sh (Pt.table ps).d]) (by rw [if_f (by kernel_rfl)]; rfl) (seq_rf (retF_of ?_))))
  exact comp_of (items:=ps.map pr) rfl (by have:(ps.map (·.2)).length ≤ sizeLine:=h; simpa using this) (comp_snd2 ps)
 | rcd c ps =>
  refine mkN_rf rfl (seq_to (δ':=[.sh (Pt.rcd c ps).d]) (by rw [if_f (by kernel_rfl)]; rfl) (seq_to (δ':=[.sh (Pt.rcd c ps).d]) (by rw [if_f (by kernel_rfl)]; rfl) (seq_rf (retF_of ?_))))
  exact comp_of (items:=ps.map pr) rfl (by have:(ps.map (·.2)).length ≤ sizeLine:=h; simpa using this) (comp_snd2 ps)
theorem cut_init (xs:List D) (x:D):cutD (xs ++ [x]) none (some (-1)) = xs:=by
 unfold cutD
 have i1:sIx (xs ++ [x]).length (xs ++ [x]).length (some (-1)) = xs.length:=by
  show (if (-1:Int) < 0 then ((-1:Int) + ((xs ++ [x]).length:Int)).toNat else min (-1:Int).toNat (xs ++ [x]).length) = _
  rw [if_pos (by decide),List.length_append]
  simp only [List.length_cons,List.length_nil]
  omega
 rw [i1]
 show ((xs ++ [x]).drop 0).take (xs.length - 0) = _
 simp
theorem atI_neg1 (xs:List D) (x:D):atI (xs ++ [x]) (-1) = some x:=by
 unfold atI ixN
 rw [if_neg (by decide),if_pos (by rw [List.length_append]; simp only [List.length_cons,List.length_nil]; omega)]
 rw [show ((-1:Int) + ((xs ++ [x]).length:Int)).toNat = xs.length by rw [List.length_append]; simp only [List.length_cons,List.length_nil]; omega]
 simp
theorem with_ok (p:Pt) (h:p.few) (vs:List D) (hl:vs.length = p.vals.length ∨ p.vals = []∧vs = []):m__law_with [p.d,.lst vs] = some (Pn.put p vs).d:=by
 have z:(100:Nat) ≤ sizeLine:=by decide
 have zz:(sizeLine:Int) < 2 ^ 62:=by decide
 have key:∀ (xs:List D) (ps:List (Str × D)),ps.length = vs.length→ps.length ≤ sizeLine→xs.length ≤ 10 →
   o2 (slAG (gv 0) noneO (someO (unG negD (gc (.int 1))))) (tupG (consA (oA (consA (compG 1 [0,1] (rng1I (consA (oA (consA (gv 1) nilA) lenD) nilA)) (gN 0) noT (tupG (consA (o2 (o2 (o2 (gv 1) (unG negD (gc (.int 1))) ixD) (gv 0) ixD) (gc (.int 0)) ixD) (consA (o2 (gv 2) (gv 0) ixD) nilA)))) nilA) tupOfD) nilA)) addA [.sh (.tup (xs ++ [.tup (ps.map pr)])),.sh (.lst vs)] = some (.tup (xs ++ [.tup (((ps.map (·.1)).zip vs).map pr)])):=fun xs ps hp hz hx=>by
  have hc:oA (consA (compG 1 [0,1] (rng1I (consA (oA (consA (gv 1) nilA) lenD) nilA)) (gN 0) noT (tupG (consA (o2 (o2 (o2 (gv 1) (unG negD (gc (.int 1))) ixD) (gv 0) ixD) (gc (.int 0)) ixD) (consA (o2 (gv 2) (gv 0) ixD) nilA)))) nilA) tupOfD [.sh (.tup (xs ++ [.tup (ps.map pr)])),.sh (.lst vs)] = some (.tup (((ps.map (·.1)).zip vs).map pr)):=by
   rw [oA_of (ds:=[.lst (((ps.map (·.1)).zip vs).map pr)]) (cons_of (comp_of (items:=rngD 0 (vs.length:Int)) (rng1_of (cons_of rfl rfl) (by omega) (by omega)) (by rw [rng_len]; omega) (by
    have q:=comp_rng (gt:=noT) (ge:=(tupG (consA (o2 (o2 (o2 (gv 1) (unG negD (gc (.int 1))) ixD) (gv 0) ixD) (gc (.int 0)) ixD) (consA (o2 (gv 2) (gv 0) ixD) nilA)))) (δ:=[.un,.sh (.tup (xs ++ [.tup (ps.map pr)])),.sh (.lst vs)]) (n:=(vs.length:Int)) (fun j=>pr ((ps.map (·.1)).getD j "",vs.getD j .non)) (fun k hk=>⟨[.sh (.int (k:Int)),.sh (.tup (xs ++ [.tup (ps.map pr)])),.sh (.lst vs)],rfl,rfl,by
     have hkl:k < ps.length:=by omega
     refine tup_of (cons_of (d:=.str ((ps.map (·.1)).getD k "")) ?_ (cons_of (d:=vs.getD k .non) ?_ rfl)) (by show 2 ≤ sizeLine; omega)
     ·rw [o2_of (x:=pr ps[k]) (y:=.int 0) (by
       rw [o2_of (x:=.tup (ps.map pr)) (y:=.int (k:Int)) (by
        rw [o2_of (x:=.tup (xs ++ [.tup (ps.map pr)])) (y:=.int (-1)) rfl rfl]
        exact atI_neg1 _ _) rfl]
       show atI (ps.map pr) (k:Int) = _
       rw [atI_in (by omega) (by rw [List.length_map]; omega) .non,Int.toNat_natCast]
       simp [List.getD_eq_getElem?_getD,hkl]) rfl]
      simp [List.getD_eq_getElem?_getD,hkl]
      rfl
     ·rw [o2_of (x:=.lst vs) (y:=.int (k:Int)) rfl rfl]
      show atI vs (k:Int) = _
      rw [atI_in (by omega) (by omega) .non,Int.toNat_natCast]⟩)
    rw [Int.toNat_natCast] at q
    refine q.trans ?_
    congr 1
    refine List.ext_getElem (by simp; omega) fun i h1 h2=>?_
    have hi:i < vs.length:=by simpa using h1
    have hi2:i < ps.length:=by omega
    simp [List.getD_eq_getElem?_getD,hi,hi2])) rfl)]
   rfl
  rw [o2_of (x:=.tup xs) (y:=.tup [.tup (((ps.map (·.1)).zip vs).map pr)]) (by
   show slA (.tup (xs ++ [.tup (ps.map pr)])) none (some (-1)) = _
   simp only [slA]
   rw [cut_init]) (tup_of (cons_of hc rfl) (by show 1 ≤ sizeLine; omega))]
  simp only [addA]
  rw [if_pos (by simp only [List.length_cons,List.length_nil]; omega)]
 have hlen:∀ ps:List (Str × D),p.vals = ps.map (·.2)→ps.length = vs.length:=fun ps e=>by
  rcases hl with q | ⟨q1,q2⟩
  ·rw [q,e,List.length_map]
  ·rw [q2]; rw [q1] at e; have:=congrArg List.length e; simp at this; simpa using this.symm
 cases p with
 | text w=>kernel_rfl
 | row us=>kernel_rfl
 | table ps =>
  exact mkF_rt rfl (seq_to (δ':=[.sh (Pt.table ps).d,.sh (.lst vs)]) (by rw [if_f (by kernel_rfl)]; rfl) (seq_to (δ':=[.sh (Pt.table ps).d,.sh (.lst vs)]) (by rw [if_f (by kernel_rfl)]; rfl) (seq_rt (ret_of (key [.str "table"] ps (hlen ps rfl) (by have:(ps.map (·.2)).length ≤ sizeLine:=h; simpa using this) (by simp))))))
 | rcd c ps =>
  exact mkF_rt rfl (seq_to (δ':=[.sh (Pt.rcd c ps).d,.sh (.lst vs)]) (by rw [if_f (by kernel_rfl)]; rfl) (seq_to (δ':=[.sh (Pt.rcd c ps).d,.sh (.lst vs)]) (by rw [if_f (by kernel_rfl)]; rfl) (seq_rt (ret_of (key [.str "record",.str c] ps (hlen ps rfl) (by have:(ps.map (·.2)).length ≤ sizeLine:=h; simpa using this) (by simp))))))
end Gw
namespace K22
open PySem DL W
inductive Dfs (adj:Nat→List Nat) (S:List Nat):Nat→List Nat→List Nat→List Nat→Prop
 | nil (o:List Nat):Dfs adj S 0 o [] o
 | skip {c:Nat} {o T r:List Nat} {x:Nat}:x ∈ o ∨ x ∈ S→Dfs adj S c o T r→Dfs adj S (c + 1) o (x :: T) r
 | visit {c:Nat} {o T r:List Nat} {x:Nat}:x ∉ o→x ∉ S→(adj x ++ T).length + o.length ≤ 10000→Dfs adj S c (o ++ [x]) (adj x ++ T) r→Dfs adj S (c + 1) o (x :: T) r
theorem sub_len:∀ {l m:List Nat},l.Nodup→(∀ a ∈ l,a ∈ m)→l.length ≤ m.length
 | [],m,_,_=>Nat.zero_le _
 | a :: l,m,h,hs=>by
  obtain ⟨h1,h2⟩:=List.nodup_cons.mp h
  obtain ⟨m1,m2,rfl⟩:=List.append_of_mem (hs a List.mem_cons_self)
  have:=sub_len (m:=m1 ++ m2) h2 fun b hb=>by
   have:=hs b (List.mem_cons_of_mem _ hb)
   rcases List.mem_append.mp this with q | q
   ·exact List.mem_append.mpr (.inl q)
   ·rcases List.mem_cons.mp q with rfl | q
    ·exact absurd hb h1
    ·exact List.mem_append.mpr (.inr q)
  simp only [List.length_append,List.length_cons] at this ⊢
  omega
theorem dfs_ex (adj:Nat→List Nat) (S:List Nat) (n:Nat) (hn:n ≤ 60) (ha:∀ i,i < n→(adj i).length ≤ 12∧∀ j ∈ adj i,j < n):∀ (M:Nat) (o T:List Nat),T.length + 13 * (n - o.length) ≤ M→M ≤ 5000→o.Nodup→(∀ x ∈ o,x < n∧x ∉ S)→(∀ x ∈ T,x < n) →
  ∃ c r,Dfs adj S c o T r∧c ≤ M∧r.Nodup∧(∀ x ∈ r,x < n∧x ∉ S)∧o.length ≤ r.length:=by
 intro M
 induction M with
 | zero =>
  intro o T hM hM2 ho hon hT
  have:T = []:=List.length_eq_zero_iff.mp (by omega)
  subst this
  exact ⟨0,o,.nil o,Nat.le_refl _,ho,hon,Nat.le_refl _⟩
 | succ M ih =>
  intro o T hM hM2 ho hon hT
  cases T with
  | nil=>exact ⟨0,o,.nil o,Nat.zero_le _,ho,hon,Nat.le_refl _⟩
  | cons x T =>
   rw [List.length_cons] at hM
   by_cases hx:x ∈ o ∨ x ∈ S
   ·obtain ⟨c,r,h1,h2,h3⟩:=ih o T (by omega) (by omega) ho hon fun y hy=>hT y (List.mem_cons_of_mem _ hy)
    exact ⟨c + 1,r,.skip hx h1,by omega,h3⟩
   ·have hxn:=hT x List.mem_cons_self
    obtain ⟨hl,hj⟩:=ha x hxn
    have hxo:x ∉ o:=fun z=>hx (.inl z)
    have hxS:x ∉ S:=fun z=>hx (.inr z)
    have hnd:(o ++ [x]).Nodup:=List.nodup_append.mpr ⟨ho,by simp,fun a ha b hb e=>by
     have:=List.mem_singleton.mp hb
     subst this; subst e; exact hxo ha⟩
    have hin:∀ y ∈ o ++ [x],y < n∧y ∉ S:=fun y hy=>by
     rcases List.mem_append.mp hy with z | z
     ·exact hon y z
     ·have:=List.mem_singleton.mp z; subst this; exact ⟨hxn,hxS⟩
    have hlen:(o ++ [x]).length ≤ n:=by
     have:=sub_len hnd (m:=List.range n) fun y hy=>List.mem_range.mpr (hin y hy).1
     rwa [List.length_range] at this
    rw [List.length_append,List.length_singleton] at hlen
    obtain ⟨c,r,h1,h2,h3,h4,h5⟩:=ih (o ++ [x]) (adj x ++ T) (by simp only [List.length_append,List.length_singleton]; omega) (by omega) hnd hin (fun y hy=>by
     rcases List.mem_append.mp hy with z | z
     ·exact hj y z
     ·exact hT y (List.mem_cons_of_mem _ z))
    refine ⟨c + 1,r,.visit hxo hxS (by rw [List.length_append]; omega) h1,by omega,h3,h4,?_⟩
    rw [List.length_append] at h5
    omega
noncomputable def vis (adj:Nat→List Nat) (S:List Nat):Nat→Nat→List Nat→Option (List Nat)
 | 0,_,_=>none
 | q + 1,k,o=>if k ∈ o ∨ k ∈ S then some o else (adj k).foldlM (fun o j=>vis adj S q j o) (o ++ [k])
theorem fold_mono {f g:List Nat→Nat→Option (List Nat)} (h:∀ o j r,f o j = some r→g o j = some r):∀ (l:List Nat) (o r:List Nat),l.foldlM f o = some r→l.foldlM g o = some r
 | [],o,r,e=>e
 | j :: l,o,r,e=>by
  rw [List.foldlM_cons] at e ⊢
  cases e1:f o j with
  | none=>rw [e1] at e; cases e
  | some o1 =>
   rw [e1] at e
   rw [h o j o1 e1]
   exact fold_mono h l o1 r e
theorem vis_mono {adj:Nat→List Nat} {S:List Nat}:∀ (q k:Nat) (o r:List Nat),vis adj S q k o = some r→vis adj S (q + 1) k o = some r
 | 0,_,_,_,e=>by cases e
 | q + 1,k,o,r,e=>by
  rw [vis] at e ⊢
  split at e
  ·rename_i h
   rw [if_pos h]; exact e
  ·rename_i h
   rw [if_neg h]
   exact fold_mono (fun o j r e=>vis_mono q j o r e) _ _ _ e
theorem dfs_vis {adj:Nat→List Nat} {S:List Nat} {n:Nat} (hj:∀ i,i < n→∀ j ∈ adj i,j < n):∀ {c:Nat} {o T r:List Nat},Dfs adj S c o T r→o.Nodup→(∀ x ∈ o,x < n)→(∀ x ∈ T,x < n)→∀ q,n + 1 ≤ q + o.length→T.foldlM (fun o j=>vis adj S q j o) o = some r:=by
 intro c o T r h
 induction h with
 | nil o=>intro _ _ _ q _; rfl
 | @skip c o T r x hx hd ih =>
  intro ho hon hT q hq
  have h1:o.length ≤ n:=by
   have:=sub_len ho (m:=List.range n) fun y hy=>List.mem_range.mpr (hon y hy)
   rwa [List.length_range] at this
  obtain ⟨q,rfl⟩:∃ q',q = q' + 1:=⟨q - 1,by omega⟩
  rw [List.foldlM_cons,vis,if_pos hx]
  exact ih ho hon (fun y hy=>hT y (List.mem_cons_of_mem _ hy)) (q + 1) hq
 | @visit c o T r x hx hs hz hd ih =>
  intro ho hon hT q hq
  have hxn:=hT x List.mem_cons_self
  have hnd:(o ++ [x]).Nodup:=List.nodup_append.mpr ⟨ho,by simp,fun a ha b hb e=>by
   have:=List.mem_singleton.mp hb
   subst this; subst e; exact hx ha⟩
  have hin:∀ y ∈ o ++ [x],y < n:=fun y hy=>by
   rcases List.mem_append.mp hy with z | z
   ·exact hon y z
   ·have:=List.mem_singleton.mp z; subst this; exact hxn
  have h1:o.length + 1 ≤ n:=by
   have:=sub_len hnd (m:=List.range n) fun y hy=>List.mem_range.mpr (hin y hy)
   rwa [List.length_range,List.length_append,List.length_singleton] at this
  obtain ⟨q,rfl⟩:∃ q',q = q' + 1:=⟨q - 1,by omega⟩
  have e:=ih hnd hin (fun y hy=>by
   rcases List.mem_append.mp hy with z | z
   ·exact hj x hxn y z
   ·exact hT y (List.mem_cons_of_mem _ z)) q (by rw [List.length_append,List.length_singleton]; omega)
  rw [List.foldlM_append] at e
  cases e1:(adj x).foldlM (fun o j=>vis adj S q j o) (o ++ [x]) with
  | none=>rw [e1] at e; cases e
  | some o1 =>
   rw [e1] at e
   rw [List.foldlM_cons,vis,if_neg (fun z=>z.elim hx hs),e1]
   exact fold_mono (fun o j r e=>vis_mono q j o r e) _ _ _ e
theorem vis_of {adj:Nat→List Nat} {S:List Nat} {n:Nat} (hj:∀ i,i < n→∀ j ∈ adj i,j < n) {c x:Nat} {r:List Nat} (h:Dfs adj S c [] [x] r) (hx:x < n) (q:Nat) (hq:n + 1 ≤ q):vis adj S q x [] = some r:=by
 have e:=dfs_vis hj h List.nodup_nil (fun y hy=>by cases hy) (fun y hy=>by rw [List.mem_singleton.mp hy]; exact hx) q (by simpa using hq)
 rw [List.foldlM_cons] at e
 cases e1:vis adj S q x [] with
 | none=>rw [e1] at e; cases e
 | some o1=>rw [e1] at e; exact e
noncomputable def G_pair_names:GS:=(seqD (ifD (tOrG (ob (o2 (o2 (gv 0) (gc (.int 0)) ixD) (gc (.str "text")) eqD)) (ob (o2 (o2 (gv 0) (gc (.int 0)) ixD) (gc (.str "row")) eqD)))
 (seqD (retF (lstG nilA))
 nilD)
 nilD)
 (seqD (retF (compG 1 [] (tupI (o2 (gv 0) (unG negD (gc (.int 1))) ixD)) (gN 0) noT (o2 (gv 0) (gc (.int 0)) ixD)))
 nilD))
noncomputable def N_pair_names:List Str:=["part"]
noncomputable def m_pair_names:List D→Option D:=mkN 1 N_pair_names G_pair_names
noncomputable def G_values:GS:=(seqD (ifD (ob (o2 (o2 (gv 0) (gc (.int 0)) ixD) (gc (.str "text")) eqD))
 (seqD (retF (lstG nilA))
 nilD)
 nilD)
 (seqD (ifD (ob (o2 (o2 (gv 0) (gc (.int 0)) ixD) (gc (.str "row")) eqD))
 (seqD (retF (oA (consA (o2 (gv 0) (gc (.int 1)) ixD) nilA) lstOfD))
 nilD)
 nilD)
 (seqD (retF (compG 1 [] (tupI (o2 (gv 0) (unG negD (gc (.int 1))) ixD)) (gN 0) noT (o2 (gv 0) (gc (.int 1)) ixD)))
 nilD)))
noncomputable def N_values:List Str:=["part"]
noncomputable def m_values:List D→Option D:=mkN 1 N_values G_values
noncomputable def G_with_values:GS:=(seqD (ifD (ob (o2 (o2 (gv 0) (gc (.int 0)) ixD) (gc (.str "text")) eqD))
 (seqD (retD (gv 0))
 nilD)
 nilD)
 (seqD (ifD (ob (o2 (o2 (gv 0) (gc (.int 0)) ixD) (gc (.str "row")) eqD))
 (seqD (retD (tupG (consA (gc (.str "row")) (consA (oA (consA (gv 1) nilA) tupOfD) nilA))))
 nilD)
 nilD)
 (seqD (setD (gN 2) (oA (consA (oA (consA (gv 0) nilA) m_pair_names) (consA (gv 1) nilA)) zipTD))
 (seqD (ifD (ob (o2 (o2 (gv 0) (gc (.int 0)) ixD) (gc (.str "table")) eqD))
 (seqD (retD (tupG (consA (gc (.str "table")) (consA (gv 2) nilA))))
 nilD)
 nilD)
 (seqD (retD (tupG (consA (gc (.str "record")) (consA (o2 (gv 0) (gc (.int 1)) ixD) (consA (gv 2) nilA)))))
 nilD)))))
noncomputable def N_with_values:List Str:=["part", "some", "pairs"]
noncomputable def m_with_values:List D→Option D:=mkF 2 N_with_values G_with_values
noncomputable def G_links:GS:=(seqD (retF (compG 1 [] (lstI (oA (consA (gv 0) nilA) m_values)) (gN 0) (ob (isiG isTup (gv 0))) (o2 (gv 0) (gc (.int 1)) ixD)))
 nilD)
noncomputable def N_links:List Str:=["part"]
noncomputable def m_links:List D→Option D:=mkN 1 N_links G_links
noncomputable def G_met_but:GS:=(seqD (ownD 3 (lstG nilA))
 (seqD (ownD 4 (oA (consA (gv 2) nilA) dictOfD))
 (seqD (ownD 5 (lstG (consA (gv 1) nilA)))
 (seqD (whileD (ob (o2 (borE (oA (consA (gv 5) nilA) lenD)) (gc (.int 0)) gtD))
 (seqD (asgX (popX 5) (gN 6))
 (seqD (ifD (borB (ob (o2 (gv 6) (gv 4) (inDctD true))))
 (seqD (asgX (pureX (gc (.bl true))) (putAt 4 (gv 6)))
 (seqD (exprX (appX 3 (gv 6)))
 (seqD (exprX (extX 5 (oA (consA (oA (consA (o2 (gv 0) (gv 6) ixD) nilA) m_links) nilA) revD)))
 nilD)))
 nilD)
 nilD)) 100000)
 (seqD (retO 3)
 nilD)))))
noncomputable def N_met_but:List Str:=["web", "k", "left", "order", "seen", "waiting", "part"]
noncomputable def m_met_but:List D→Option D:=mkN 3 N_met_but G_met_but
noncomputable def G_relinked:GS:=(seqD (setD (gN 2) (compG 1 [1] (lstI (oA (consA (gv 0) nilA) m_values)) (gN 0) noT (ifG (ob (isiG isTup (gv 0))) (tupG (consA (gc (.str "at")) (consA (o2 (gv 1) (o2 (gv 0) (gc (.int 1)) ixD) dgetD) nilA))) (gv 0))))
 (seqD (retD (oA (consA (gv 0) (consA (gv 2) nilA)) m_with_values))
 nilD))
noncomputable def N_relinked:List Str:=["part", "numbers", "some"]
noncomputable def m_relinked:List D→Option D:=mkF 2 N_relinked G_relinked
noncomputable def G_copied:GZ:=(seqZ (okZ (ownD 3 (oA (consA (compG 1 [] (lstI (ifG (ob (o2 (gv 2) (gc .non) isND)) (lstG nilA) (gv 2))) (gN 0) noT (tupG (consA (gv 0) (consA (gv 0) nilA)))) nilA) dictKD)))
 (seqZ (okZ (setD (gN 4) (borL (oA (consA (gv 0) (consA (gv 1) (consA (gv 3) nilA))) m_met_but))))
 (seqZ (ifZ (ob (o2 (o2 (oA (consA (gv 0) nilA) lenD) (oA (consA (gv 4) nilA) lenD) addA) (gc (.int 60)) gtD))
 (seqZ (raiseZ "TooMany")
 nilZ)
 nilZ)
 (seqZ (okZ (forG (enumSI (consA (gv 4) nilA) (oA (consA (gv 0) nilA) lenD)) (tup2 5 6)
 (seqD (asgX (pureX (gv 5)) (putAt 3 (gv 6)))
 nilD)))
 (seqZ (okZ (retD (borA (tupG (consA (o2 (gv 0) (oA (consA (compG 1 [0,3] (lstI (gv 4)) (gN 0) noT (oA (consA (o2 (gv 1) (gv 0) ixD) (consA (gv 2) nilA)) m_relinked)) nilA) tupOfD) addA) (consA (o2 (gv 3) (gv 1) dgetD) nilA))))))
 nilZ)))))
noncomputable def N_copied:List Str:=["web", "k", "kept", "numbers", "order", "number", "part"]
noncomputable def m_copied:List D→Option DX:=mkX 3 N_copied G_copied
noncomputable def G_shallow:GZ:=(seqZ (retCZ (consA (gv 0) (consA (gv 1) (consA (compG 1 [1] (rng1I (consA (oA (consA (gv 0) nilA) lenD) nilA)) (gN 0) (ob (o2 (gv 0) (gv 1) neD)) (gv 0)) nilA))) m_copied)
 nilZ)
noncomputable def N_shallow:List Str:=["web", "k"]
noncomputable def m_shallow:List D→Option DX:=mkX 2 N_shallow G_shallow
noncomputable def G__law_cell_at:GS:=(seqD (ifD (ob (o2 (gv 1) (oA (consA (gv 0) nilA) lenD) ltD))
 (seqD (retD (o2 (gv 0) (gv 1) ixD))
 nilD)
 nilD)
 (seqD (retD (gc (.int 0)))
 nilD))
noncomputable def N__law_cell_at:List Str:=["_law_script", "_law_k"]
noncomputable def m__law_cell_at:List D→Option D:=mkF 2 N__law_cell_at G__law_cell_at
noncomputable def G__law_pool:GS:=(seqD (setD (gN 2) (gc (.str "abcdefghijklmnopqrstuvwxyz0123456789")))
 (seqD (setD (gN 3) (o2 (gc (.int 1)) (o2 (gv 0) (gc (.int 8)) modD) addA))
 (seqD (setD (gN 0) (o2 (gv 0) (gc (.int 8)) fdivD))
 (seqD (ownD 4 (lstG nilA))
 (seqD (forG (rng1I (consA (gv 3) nilA)) (gN 5)
 (seqD (exprX (appX 4 (o2 (gv 0) (gc (.int 36)) modD)))
 (seqD (setD (gN 0) (o2 (gv 0) (gc (.int 36)) fdivD))
 nilD)))
 (seqD (setD (gN 6) (borE (joinG (gc (.str "")) (consA (compG 1 [2] (lstI (gv 4)) (gN 0) noT (o2 (gv 1) (gv 0) ixD)) nilA))))
 (seqD (ifD (ob (o2 (o2 (o2 (gv 1) (gc (.int 8)) fdivD) (gc (.int 3)) modD) (gc (.int 1)) eqD))
 (seqD (retF (compG 1 [6] (rng2I (consA (gc (.int 1)) (consA (gc (.int 9)) nilA))) (gN 0) noT (slAG (o2 (gc (.int 8)) (gv 1) mulI) noneO (someO (gv 0)))))
 nilD)
 nilD)
 (seqD (setD (gN 7) (o2 (gv 1) (gv 3) modD))
 (seqD (ownD 8 (lstG nilA))
 (seqD (forG (rng1I (consA (gc (.int 8)) nilA)) (gN 5)
 (seqD (setD (gN 9) (o2 (gv 2) (o2 (o2 (borE (o2 (gv 4) (gv 7) ixD)) (o2 (gc (.int 4)) (gv 5) mulA) addA) (gc (.int 36)) modD) ixD))
 (seqD (exprX (appX 8 (o2 (o2 (slAG (gv 6) noneO (someO (gv 7))) (gv 9) addA) (slAG (gv 6) (someO (o2 (gv 7) (gc (.int 1)) addA)) noneO) addA)))
 nilD)))
 (seqD (retO 8)
 nilD)))))))))))
noncomputable def N__law_pool:List Str:=["_law_cell", "_law_turn", "_law_signs", "_law_size", "_law_places", "_law_k", "_law_word", "_law_at", "_law_found", "_law_sign"]
noncomputable def m__law_pool:List D→Option D:=mkN 2 N__law_pool G__law_pool
noncomputable def G__law_mix:GS:=(seqD (retD (o2 (o2 (o2 (o2 (gv 0) (gc (.int 2147483647)) modD) (gc (.int 1)) addA) (o2 (gc (.int 48271)) (o2 (gc (.int 7)) (gv 1) mulA) addA) mulA) (gc (.int 2147483647)) modD))
 nilD)
noncomputable def N__law_mix:List Str:=["_law_cell", "_law_k"]
noncomputable def m__law_mix:List D→Option D:=mkF 2 N__law_mix G__law_mix
noncomputable def G__law_value:GS:=(seqD (setD (gN 2) (o2 (gv 0) (gc (.int 10)) modD))
 (seqD (ifD (ob (o2 (gv 2) (gc (.int 6)) ltD))
 (seqD (retD (tupG (consA (gc (.str "at")) (consA (o2 (o2 (gv 0) (gc (.int 10)) fdivD) (gv 1) modD) nilA))))
 nilD)
 nilD)
 (seqD (ifD (ob (o2 (gv 2) (gc (.int 6)) eqD))
 (seqD (retD (gc .non))
 nilD)
 nilD)
 (seqD (ifD (ob (o2 (gv 2) (gc (.int 9)) ltD))
 (seqD (retD (o2 (o2 (o2 (gv 0) (gc (.int 10)) fdivD) (gc (.int 3)) modD) (gc (.int 1)) subD))
 nilD)
 nilD)
 (seqD (retD (o2 (o2 (o2 (o2 (gv 0) (gc (.int 10)) fdivD) (gc (.int 7)) powD) (o2 (gc (.int 10)) (gc (.int 60)) powD) modD) (o2 (gc (.int 1)) (o2 (gc (.int 2)) (o2 (o2 (gv 0) (gc (.int 20)) fdivD) (gc (.int 2)) modD) mulA) subD) mulA))
 nilD)))))
noncomputable def N__law_value:List Str:=["_law_number", "_law_many", "_law_kind"]
noncomputable def m__law_value:List D→Option D:=mkF 2 N__law_value G__law_value
noncomputable def G__law_values:GS:=(seqD (ownD 3 (lstG nilA))
 (seqD (forG (rng1I (consA (gv 1) nilA)) (gN 4)
 (seqD (setD (gN 0) (o2 (o2 (gv 0) (gc (.int 48271)) mulA) (gc (.int 2147483647)) modD))
 (seqD (exprX (appX 3 (oA (consA (gv 0) (consA (gv 2) nilA)) m__law_value)))
 nilD)))
 (seqD (retO 3)
 nilD)))
noncomputable def N__law_values:List Str:=["_law_number", "_law_count", "_law_many", "_law_found", "_law_k"]
noncomputable def m__law_values:List D→Option D:=mkN 3 N__law_values G__law_values
noncomputable def G__law_part:GS:=(seqD (setD (gN 3) (o2 (gv 0) (gc (.int 8)) modD))
 (seqD (ifD (ob (o2 (gv 3) (gc (.int 0)) eqD))
 (seqD (retD (tupG (consA (gc (.str "text")) (consA (o2 (lstG (consA (gc (.str "")) (consA (gc (.str "a")) (consA (gc (.str " a")) (consA (o2 (o2 (gv 2) (gc (.int 0)) ixD) (gc (.str " 0")) addA) nilA))))) (o2 (o2 (gv 0) (gc (.int 16)) fdivD) (gc (.int 4)) modD) ixD) nilA))))
 nilD)
 nilD)
 (seqD (ifD (ob (o2 (gv 3) (gc (.int 4)) ltD))
 (seqD (retD (tupG (consA (gc (.str "row")) (consA (oA (consA (gv 1) nilA) tupOfD) nilA))))
 nilD)
 nilD)
 (seqD (setD (gN 4) (o2 (o2 (o2 (gv 0) (gc (.int 8)) fdivD) (gc (.int 2)) modD) (gc (.int 3)) mulA))
 (seqD (setD (gN 5) (oA (consA (compG 1 [1,2,4] (rng1I (consA (oA (consA (gv 1) nilA) lenD) nilA)) (gN 0) noT (tupG (consA (o2 (gv 2) (o2 (o2 (gv 3) (gv 0) addA) (gc (.int 8)) modD) ixD) (consA (o2 (gv 1) (gv 0) ixD) nilA)))) nilA) tupOfD))
 (seqD (ifD (ob (o2 (gv 3) (gc (.int 6)) ltD))
 (seqD (retD (tupG (consA (gc (.str "table")) (consA (gv 5) nilA))))
 nilD)
 nilD)
 (seqD (retD (tupG (consA (gc (.str "record")) (consA (o2 (gv 2) (o2 (o2 (gv 0) (gc (.int 16)) fdivD) (gc (.int 2)) modD) ixD) (consA (gv 5) nilA)))))
 nilD)))))))
noncomputable def N__law_part:List Str:=["_law_number", "_law_some", "_law_pool_here", "_law_kind", "_law_start", "_law_pairs"]
noncomputable def m__law_part:List D→Option D:=mkF 3 N__law_part G__law_part
noncomputable def G__law_web:GS:=(seqD (ownD 3 (lstG nilA))
 (seqD (forG (rng1I (consA (gv 1) nilA)) (gN 4)
 (seqD (setD (gN 5) (oA (consA (o2 (o2 (gv 0) (o2 (gv 4) (oA (consA (gv 0) nilA) lenD) modD) ixD) (o2 (gv 4) (o2 (gv 4) (oA (consA (gv 0) nilA) lenD) fdivD) mulA) addA) (consA (gv 4) nilA)) m__law_mix))
 (seqD (setD (gN 6) (o2 (lstG (consA (gc (.int 0)) (consA (gc (.int 1)) (consA (gc (.int 2)) (consA (gc (.int 2)) (consA (gc (.int 3)) (consA (gc (.int 2)) (consA (gc (.int 3)) (consA (gc (.int 1)) nilA))))))))) (o2 (o2 (gv 5) (gc (.int 32)) fdivD) (gc (.int 8)) modD) ixD))
 (seqD (ifD (ob (o2 (o2 (o2 (gv 5) (gc (.int 256)) fdivD) (gc (.int 16)) modD) (gc (.int 3)) eqD))
 (seqD (setD (gN 6) (o2 (lstG (consA (gc (.int 8)) (consA (gc (.int 12)) nilA))) (oA (consA (o2 (o2 (gv 5) (gc (.int 8)) modD) (gc (.int 4)) ltD) nilA) intOfD) ixD))
 nilD)
 nilD)
 (seqD (setD (gN 7) (oA (consA (o2 (o2 (gv 5) (gc (.int 8)) fdivD) (gc (.int 1)) addA) (consA (gv 6) (consA (gv 1) nilA))) m__law_values))
 (seqD (exprX (appX 3 (oA (consA (gv 5) (consA (gv 7) (consA (gv 2) nilA))) m__law_part)))
 nilD))))))
 (seqD (retD (borA (oA (consA (gv 3) nilA) tupOfD)))
 nilD)))
noncomputable def N__law_web:List Str:=["_law_cells", "_law_many", "_law_pool_here", "_law_parts", "_law_k", "_law_number", "_law_count", "_law_some"]
noncomputable def m__law_web:List D→Option D:=mkF 3 N__law_web G__law_web
noncomputable def G__law_vals:GS:=(seqD (ifD (ob (o2 (o2 (gv 0) (gc (.int 0)) ixD) (gc (.str "text")) eqD))
 (seqD (retF (lstG nilA))
 nilD)
 nilD)
 (seqD (ifD (ob (o2 (o2 (gv 0) (gc (.int 0)) ixD) (gc (.str "row")) eqD))
 (seqD (retF (oA (consA (o2 (gv 0) (gc (.int 1)) ixD) nilA) lstOfD))
 nilD)
 nilD)
 (seqD (retF (compG 2 [] (tupI (o2 (gv 0) (unG negD (gc (.int 1))) ixD)) (tup2 0 1) noT (gv 1)))
 nilD)))
noncomputable def N__law_vals:List Str:=["_law_part_here"]
noncomputable def m__law_vals:List D→Option D:=mkN 1 N__law_vals G__law_vals
noncomputable def G__law_with:GS:=(seqD (ifD (ob (o2 (o2 (gv 0) (gc (.int 0)) ixD) (gc (.str "text")) eqD))
 (seqD (retD (gv 0))
 nilD)
 nilD)
 (seqD (ifD (ob (o2 (o2 (gv 0) (gc (.int 0)) ixD) (gc (.str "row")) eqD))
 (seqD (retD (tupG (consA (gc (.str "row")) (consA (oA (consA (gv 1) nilA) tupOfD) nilA))))
 nilD)
 nilD)
 (seqD (retD (o2 (slAG (gv 0) noneO (someO (unG negD (gc (.int 1))))) (tupG (consA (oA (consA (compG 1 [0,1] (rng1I (consA (oA (consA (gv 1) nilA) lenD) nilA)) (gN 0) noT (tupG (consA (o2 (o2 (o2 (gv 1) (unG negD (gc (.int 1))) ixD) (gv 0) ixD) (gc (.int 0)) ixD) (consA (o2 (gv 2) (gv 0) ixD) nilA)))) nilA) tupOfD) nilA)) addA))
 nilD)))
noncomputable def N__law_with:List Str:=["_law_part_here", "_law_some"]
noncomputable def m__law_with:List D→Option D:=mkF 2 N__law_with G__law_with
noncomputable def G__law_led:GS:=(seqD (ownD 2 (lstG nilA))
 (seqD (forG (lstI (oA (consA (gv 0) nilA) m__law_vals)) (gN 3)
 (seqD (ifD (ob (isiG isTup (gv 3)))
 (seqD (setD (gN 3) (tupG (consA (gc (.str "at")) (consA (o2 (gv 1) (o2 (gv 3) (gc (.int 1)) ixD) ixD) nilA))))
 nilD)
 nilD)
 (seqD (exprX (appX 2 (gv 3)))
 nilD)))
 (seqD (retD (borA (oA (consA (gv 0) (consA (gv 2) nilA)) m__law_with)))
 nilD)))
noncomputable def N__law_led:List Str:=["_law_part_here", "_law_numbers", "_law_some", "_law_value_here"]
noncomputable def m__law_led:List D→Option D:=mkF 2 N__law_led G__law_led
noncomputable def G__law_drawn_web:GS:=(seqD (setD (gN 2) (oA (consA (oA (consA (gv 0) (consA (gc (.int 0)) nilA)) m__law_cell_at) (consA (oA (consA (gv 0) (consA (gc (.int 1)) nilA)) m__law_cell_at) nilA)) m__law_pool))
 (seqD (setD (gN 3) (oA (consA (gv 0) (consA (gc (.int 2)) nilA)) m__law_cell_at))
 (seqD (setD (gN 4) (o2 (gc (.int 1)) (o2 (gv 3) (o2 (lstG (consA (gc (.int 12)) (consA (gc (.int 12)) (consA (gv 1) (consA (gc (.int 4)) nilA))))) (o2 (o2 (gv 3) (gc (.int 60)) fdivD) (gc (.int 4)) modD) ixD) modD) addA))
 (seqD (retD (oA (consA (o2 (slAG (gv 0) (someO (gc (.int 9))) (someO (gc (.int 60)))) (lstG (consA (oA (consA (gv 0) (consA (gc (.int 3)) nilA)) m__law_cell_at) nilA)) addA) (consA (gv 4) (consA (gv 2) nilA))) m__law_web))
 nilD))))
noncomputable def N__law_drawn_web:List Str:=["_law_script", "_law_most", "_law_pool_here", "_law_turn", "_law_many"]
noncomputable def m__law_drawn_web:List D→Option D:=mkF 2 N__law_drawn_web G__law_drawn_web
noncomputable def nd (l:List Nat):List D:=l.map fun (i:Nat)=>D.int (i:Int)
noncomputable def nn (l:List D):List Nat:=l.filterMap fun d=>match d with | .int i=>some i.toNat | _=>none
theorem nn_nd:∀ l:List Nat,nn (nd l) = l
 | []=>rfl
 | a :: l=>by
  have:=nn_nd l
  unfold nn nd at this ⊢
  rw [List.map_cons,List.filterMap_cons]
  simp only [Int.toNat_natCast]
  rw [this]
structure GoodD (W:D) (n:Nat):Prop where
 few:n ≤ 60
 ex:∃ Wb,W = .tup Wb∧Wb.length = n∧∀ i,i < n→∃ vs,m__law_vals [Wb.getD i .non] = some (.lst vs)∧vs.length ≤ 12∧∀ v ∈ vs,v = .non ∨ (∃ z,v = .int z) ∨ ∃ j:Nat,v = .tup [.str "at",.int (j:Int)]∧j < n
noncomputable def tgs (vs:List D):List Nat:=vs.filterMap fun v=>match v with | .tup [_,.int j]=>some j.toNat | _=>none
noncomputable def adjD (W:D) (i:Nat):List Nat:=match W with
 | .tup Wb=>(match m__law_vals [Wb.getD i .non] with
  | some (.lst vs)=>tgs vs
  | _=>[])
 | _=>[]
noncomputable def Ask (W:D) (k:Int) (Sd od:List D):Prop:=∃ (n:Nat) (S o:List Nat),GoodD W n∧0 ≤ k∧k < n∧Sd = nd S∧od = nd o∧o.Nodup∧∀ x ∈ o,x < n
open Classical in
noncomputable def mR__law_met_in (q:Nat):List D→Option (List D)
 | [W,.int k,.lst Sd,.lst od]=>if Ask W k Sd od then (vis (adjD W) (nn Sd) q k.toNat (nn od)).map nd else none
 | _=>none
noncomputable def m__law_met_in:List D→Option (List D):=mR__law_met_in 62
noncomputable def GR__law_met_in (m__law_met_in:List D→Option (List D)):GS:=(seqD (ifD (tAndG (borB (ob (o2 (gv 1) (gv 3) (inSeqD true)))) (ob (o2 (gv 1) (gv 2) (inSeqD true))))
 (seqD (exprX (appL 3 (gv 1)))
 (seqD (forG (lstI (oA (consA (o2 (gv 0) (gv 1) ixD) nilA) m__law_vals)) (gN 4)
 (seqD (ifD (ob (isiG isTup (gv 4)))
 (seqD (callM 3 (consA (gv 0) (consA (o2 (gv 4) (gc (.int 1)) ixD) (consA (gv 2) nilA))) m__law_met_in)
 nilD)
 nilD)
 nilD))
 nilD))
 nilD)
 (seqD (retO 3)
 nilD))
noncomputable def N__law_met_in:List Str:=["_law_web_here", "_law_k", "_law_kept_here", "_law_found", "_law_value_here"]
noncomputable section
noncomputable def G__law_due:GS:=(seqD (ifD (ob (o2 (gv 1) (gv 2) (inSeqD false)))
 (seqD (retD (tupG (consA (gv 0) (consA (gv 1) nilA))))
 nilD)
 nilD)
 (seqD (setD (gN 3) (newM (consA (gv 0) (consA (gv 1) (consA (gv 2) nilA))) m__law_met_in))
 (seqD (ifD (ob (o2 (o2 (oA (consA (gv 0) nilA) lenD) (oA (consA (gv 3) nilA) lenD) addA) (gc (.int 60)) gtD))
 (seqD (retD (gc (.str "too many")))
 nilD)
 nilD)
 (seqD (ownD 4 (oA (consA (oA (consA (gv 0) nilA) lenD) nilA) lrngD))
 (seqD (forG (rng1I (consA (oA (consA (gv 3) nilA) lenD) nilA)) (gN 5)
 (seqD (asgX (pureX (o2 (oA (consA (gv 0) nilA) lenD) (gv 5) addA)) (setAt 4 (o2 (gv 3) (gv 5) ixD)))
 nilD))
 (seqD (retD (borA (tupG (consA (o2 (gv 0) (oA (consA (compG 1 [0,4] (lstI (gv 3)) (gN 0) noT (oA (consA (o2 (gv 1) (gv 0) ixD) (consA (gv 2) nilA)) m__law_led)) nilA) tupOfD) addA) (consA (oA (consA (gv 0) nilA) lenD) nilA)))))
 nilD))))))
noncomputable def N__law_due:List Str:=["_law_web_here", "_law_k", "_law_kept_here", "_law_some", "_law_numbers", "_law_at"]
noncomputable def m__law_due:List D→Option D:=mkF 3 N__law_due G__law_due
noncomputable def G__law_told:GS:=(seqD (setD (gN 4) (gc .non))
 (seqD (setD (gN 5) (gc (.str "")))
 (seqD (tryD ["NoText", "NoPlace", "NoValue", "TooMany", "NoWay", "NoPack"] 6 (seqZ (ifZ (ob (o2 (gv 0) (gc (.int 0)) eqD))
 (seqZ (callZ (consA (gv 1) (consA (gv 2) (consA (gv 3) nilA))) m_copied 4)
 nilZ)
 (seqZ (ifZ (ob (o2 (gv 0) (gc (.int 1)) eqD))
 (seqZ (callZ (consA (gv 1) (consA (gv 2) nilA)) (fun ds=>m_copied (ds ++ [.non])) 4)
 nilZ)
 (seqZ (callZ (consA (gv 1) (consA (gv 2) nilA)) m_shallow 4)
 nilZ))
 nilZ))
 nilZ)
 (seqD (setD (gN 5) (gc (.str "wrong")))
 (seqD (ifD (tAndG (ob (exI 6 ["NoText", "NoPlace", "NoValue", "TooMany", "NoWay", "NoPack"] fun c=>decide (c = "TooMany"))) (ob (exI 6 ["NoText", "NoPlace", "NoValue", "TooMany", "NoWay", "NoPack"] fun _=>true)))
 (seqD (setD (gN 5) (gc (.str "too many")))
 nilD)
 nilD)
 (seqD (ifD (ob (exI 6 ["NoText", "NoPlace", "NoValue", "TooMany", "NoWay", "NoPack"] fun c=>["NoPack", "NoPlace", "NoText", "NoValue", "NoWay"].any fun n=>decide (c = n)))
 (seqD (setD (gN 5) (gc (.str "wrong")))
 nilD)
 nilD)
 nilD))))
 (seqD (ifD (ob (o2 (gv 5) (gc (.str "")) neD))
 (seqD (retD (gv 5))
 nilD)
 nilD)
 (seqD (ifD (tOrG (tNotG (ob (isiG isTup (gv 4)))) (tOrG (ob (o2 (oA (consA (gv 4) nilA) lenD) (gc (.int 2)) neD)) (ob (isiG isBool (o2 (gv 4) (gc (.int 1)) ixD)))))
 (seqD (retD (gc (.str "wrong")))
 nilD)
 nilD)
 (seqD (retD (gv 4))
 nilD))))))
noncomputable def N__law_told:List Str:=["_law_which", "_law_web_here", "_law_k", "_law_kept_here", "_law_found", "_law_word", "e"]
noncomputable def m__law_told:List D→Option D:=mkF 4 N__law_told G__law_told
noncomputable def G__law_kept:GS:=(seqD (setD (gN 3) (o2 (gv 2) (gc (.int 5)) modD))
 (seqD (ifD (ob (o2 (gv 3) (gc (.int 0)) eqD))
 (seqD (retF (lstG nilA))
 nilD)
 nilD)
 (seqD (ifD (ob (o2 (gv 3) (gc (.int 1)) eqD))
 (seqD (retF (lstG (consA (o2 (o2 (gv 2) (gc (.int 5)) fdivD) (oA (consA (gv 0) nilA) lenD) modD) nilA)))
 nilD)
 nilD)
 (seqD (ownD 4 (compG 1 [1,2,3] (rng1I (consA (oA (consA (gv 0) nilA) lenD) nilA)) (gN 0) (tAndG (ob (o2 (o2 (o2 (gv 2) (o2 (gv 0) (gc (.int 6)) addA) fdivD) (gc (.int 3)) modD) (o2 (gv 3) (gc (.int 1)) subD) ltD)) (ob (o2 (gv 0) (gv 1) neD))) (gv 0)))
 (seqD (ifD (ob (o2 (o2 (o2 (gv 2) (gc (.int 15)) fdivD) (gc (.int 2)) modD) (gc (.int 1)) eqD))
 (seqD (frzS 4 (ownD 4 (o2 (revG (gv 4)) (slAG (gv 4) noneO (someO (gc (.int 1)))) catD)))
 nilD)
 nilD)
 (seqD (ifD (ob (o2 (o2 (o2 (gv 2) (gc (.int 30)) fdivD) (gc (.int 4)) modD) (gc (.int 1)) eqD))
 (seqD (exprX (appX 4 (gv 1)))
 nilD)
 nilD)
 (seqD (retO 4)
 nilD)))))))
noncomputable def N__law_kept:List Str:=["_law_web_here", "_law_k", "_law_number", "_law_kind", "_law_kept_here"]
noncomputable def m__law_kept:List D→Option D:=mkN 3 N__law_kept G__law_kept
noncomputable def G_law:GS:=(seqD (setD (gN 1) (oA (consA (gv 0) (consA (gc (.int 60)) nilA)) m__law_drawn_web))
 (seqD (forG (rng1I (consA (gc (.int 8)) nilA)) (gN 2)
 (seqD (setD (gN 3) (oA (consA (o2 (oA (consA (gv 0) (consA (o2 (gc (.int 4)) (o2 (gv 2) (gc (.int 4)) modD) addA) nilA)) m__law_cell_at) (o2 (gv 2) (gv 2) mulA) addA) (consA (o2 (gv 2) (gc (.int 40)) addA) nilA)) m__law_mix))
 (seqD (setD (gN 4) (o2 (o2 (gv 3) (gc (.int 7)) fdivD) (oA (consA (gv 1) nilA) lenD) modD))
 (seqD (setD (gN 5) (oA (consA (gv 1) (consA (gv 4) (consA (o2 (gv 3) (gc (.int 210)) fdivD) nilA))) m__law_kept))
 (seqD (setD (gN 6) (oA (consA (gv 5) nilA) lstOfD))
 (seqD (setD (gN 7) (oA (consA (gv 1) (consA (gv 4) (consA (gv 5) nilA))) m__law_due))
 (seqD (ifD (tOrG (ob (o2 (oA (consA (gc (.int 0)) (consA (gv 1) (consA (gv 4) (consA (gv 6) nilA)))) m__law_told) (gv 7) neDD)) (ob (o2 (gv 6) (gv 5) neDD)))
 (seqD (retD (gc (.bl false)))
 nilD)
 nilD)
 (seqD (setD (gN 8) (oA (consA (gv 1) (consA (gv 4) (consA (lstG nilA) nilA))) m__law_due))
 (seqD (forG (lstI (lstG (consA (oA (consA (gc (.int 1)) (consA (gv 1) (consA (gv 4) (consA (lstG nilA) nilA)))) m__law_told) (consA (oA (consA (gc (.int 0)) (consA (gv 1) (consA (gv 4) (consA (gc .non) nilA)))) m__law_told) (consA (oA (consA (gc (.int 0)) (consA (gv 1) (consA (gv 4) (consA (lstG nilA) nilA)))) m__law_told) nilA))))) (gN 9)
 (seqD (ifD (ob (o2 (gv 9) (gv 8) neDD))
 (seqD (retD (gc (.bl false)))
 nilD)
 nilD)
 nilD))
 (seqD (setD (gN 10) (compG 1 [4] (rng1I (consA (oA (consA (gv 1) nilA) lenD) nilA)) (gN 0) (ob (o2 (gv 0) (gv 1) neDD)) (gv 0)))
 (seqD (ifD (ob (o2 (oA (consA (gc (.int 2)) (consA (gv 1) (consA (gv 4) (consA (lstG nilA) nilA)))) m__law_told) (oA (consA (gv 1) (consA (gv 4) (consA (gv 10) nilA))) m__law_due) neDD))
 (seqD (retD (gc (.bl false)))
 nilD)
 nilD)
 (seqD (ifD (tAndG (ob (o2 (o2 (gv 2) (gc (.int 3)) modD) (gc (.int 2)) eqDD)) (ob (isiG isTup (gv 7))))
 (seqD (setD (gN 1) (o2 (gv 7) (gc (.int 0)) ixD))
 nilD)
 nilD)
 nilD))))))))))))
 (seqD (retD (gc (.bl true)))
 nilD)))
noncomputable def N_law:List Str:=["_law_script", "_law_web_here", "_law_j", "_law_number", "_law_k", "_law_kept_here", "_law_handed", "_law_due_here", "_law_whole", "_law_told_here", "_law_others"]
noncomputable def m_law:List D→Option D:=mkF 1 N_law G_law
end
theorem nd_app (a b:List Nat):nd (a ++ b) = nd a ++ nd b:=by unfold nd; rw [List.map_append]
theorem nd_rev (a:List Nat):(nd a).reverse = nd a.reverse:=by unfold nd; rw [List.map_reverse]
theorem nd_len (a:List Nat):(nd a).length = a.length:=by simp [nd]
theorem any_nd (o:List Nat) (x:Nat):((nd o).any fun y=>eqF y (.int (x:Int))) = decide (x ∈ o):=by
 unfold nd
 rw [List.any_map,Bool.eq_iff_iff,List.any_eq_true,decide_eq_true_eq]
 constructor
 ·rintro ⟨y,hy,e⟩
  have e:decide ((y:Int) = (x:Int)) = true:=e
  have e:=of_decide_eq_true e
  have:y = x:=by omega
  subst this; exact hy
 ·intro h
  exact ⟨x,h,show decide ((x:Int) = (x:Int)) = true from decide_eq_true rfl⟩
theorem all_flat (o:List Nat):((nd o).all fun d=>flat d) = true:=by
 unfold nd
 rw [List.all_map,List.all_eq_true]
 exact fun _ _=>rfl
theorem vis_good {adj:Nat→List Nat} {S:List Nat} {n:Nat} (hj:∀ i,i < n→∀ j ∈ adj i,j < n):∀ (q k:Nat) (o r:List Nat),vis adj S q k o = some r→k < n→o.Nodup→(∀ x ∈ o,x < n)→r.Nodup∧∀ x ∈ r,x < n
 | 0,_,_,_,e,_,_,_=>by cases e
 | q + 1,k,o,r,e,hk,ho,hon=>by
  rw [vis] at e
  split at e
  ·cases e; exact ⟨ho,hon⟩
  ·rename_i h
   have go:∀ (l:List Nat) (o r:List Nat),l.foldlM (fun o j=>vis adj S q j o) o = some r→(∀ j ∈ l,j < n)→o.Nodup→(∀ x ∈ o,x < n)→r.Nodup∧∀ x ∈ r,x < n:=by
    intro l
    induction l with
    | nil=>intro o r e _ ho hon; cases e; exact ⟨ho,hon⟩
    | cons j l ih =>
     intro o r e hl ho hon
     rw [List.foldlM_cons] at e
     cases e1:vis adj S q j o with
     | none=>rw [e1] at e; cases e
     | some o1 =>
      rw [e1] at e
      obtain ⟨a,b⟩:=vis_good hj q j o o1 e1 (hl j List.mem_cons_self) ho hon
      exact ih o1 r e (fun i hi=>hl i (List.mem_cons_of_mem _ hi)) a b
   refine go _ _ _ e (hj k hk) (List.nodup_append.mpr ⟨ho,by simp,fun a ha b hb e=>?_⟩) fun x hx=>?_
   ·rw [List.mem_singleton.mp hb] at e; exact h (.inl (e ▸ ha))
   ·rcases List.mem_append.mp hx with z | z
    ·exact hon x z
    ·rw [List.mem_singleton.mp z]; exact hk
theorem in_nd (o:List Nat) (x:Nat):inSeqD true (.int (x:Int)) (.lst (nd o)) = some (.bl (decide (x ∉ o))):=by
 simp only [inSeqD]
 rw [if_pos ⟨rfl,all_flat o⟩,any_nd]
 congr 2
 by_cases h:x ∈ o <;> simp [h]
theorem in_nd' (o:List Nat) (x:Nat):inSeqD false (.int (x:Int)) (.lst (nd o)) = some (.bl (decide (x ∈ o))):=by
 simp only [inSeqD]
 rw [if_pos ⟨rfl,all_flat o⟩,any_nd,Bool.false_xor]
theorem mR_at {W:D} {n:Nat} (hW:GoodD W n) (S o:List Nat) (q j:Nat) (hj:j < n) (ho:o.Nodup) (hon:∀ x ∈ o,x < n):mR__law_met_in q [W,.int (j:Int),.lst (nd S),.lst (nd o)] = (vis (adjD W) S q j o).map nd:=by
 unfold mR__law_met_in
 simp only []
 rw [if_pos ⟨n,S,o,hW,by omega,by omega,rfl,rfl,ho,hon⟩,nn_nd,nn_nd,Int.toNat_natCast]
theorem tgs_lt {n:Nat}:∀ {vs:List D},(∀ v ∈ vs,v = .non ∨ (∃ z,v = .int z) ∨ ∃ j:Nat,v = .tup [.str "at",.int (j:Int)]∧j < n)→∀ j ∈ tgs vs,j < n:=by
 intro vs h j hj
 obtain ⟨v,hv,e⟩:=List.mem_filterMap.mp hj
 rcases h v hv with rfl | ⟨z,rfl⟩ | ⟨i,rfl,hi⟩
 ·cases e
 ·cases e
 ·simp only [Int.toNat_natCast,Option.some.injEq] at e
  omega
theorem adj_of {W:D} {n:Nat} (hW:GoodD W n) {i:Nat} (hi:i < n):∃ vs,oA (consA (o2 (gv 0) (gv 1) ixD) nilA) m__law_vals = oA (consA (o2 (gv 0) (gv 1) ixD) nilA) m__law_vals∧(∃ d,ixD W (.int (i:Int)) = some d∧m__law_vals [d] = some (.lst vs))∧adjD W i = tgs vs∧vs.length ≤ 12∧∀ v ∈ vs,v = .non ∨ (∃ z,v = .int z) ∨ ∃ j:Nat,v = .tup [.str "at",.int (j:Int)]∧j < n:=by
 obtain ⟨Wb,rfl,hl,h⟩:=hW.ex
 obtain ⟨vs,e,h1,h2⟩:=h i hi
 refine ⟨vs,rfl,⟨Wb.getD i .non,?_,e⟩,?_,h1,h2⟩
 ·show atI Wb (i:Int) = _
  rw [atI_in (by omega) (by omega) .non,Int.toNat_natCast]
 ·unfold adjD
  simp only []
  rw [e]
theorem adj_lt {W:D} {n:Nat} (hW:GoodD W n):∀ i,i < n→∀ j ∈ adjD W i,j < n:=fun i hi j hj=>by
 obtain ⟨vs,_,_,e,_,h⟩:=adj_of hW hi
 rw [e] at hj
 exact tgs_lt h j hj
noncomputable def LBm (f:List D→Option (List D)):GS:=(seqD (ifD (ob (isiG isTup (gv 4)))
 (seqD (callM 3 (consA (gv 0) (consA (o2 (gv 4) (gc (.int 1)) ixD) (consA (gv 2) nilA))) f)
 nilD)
 nilD)
 nilD)
theorem for_met {W:D} {n:Nat} (hW:GoodD W n) (K:Sl) (S:List Nat) (p q:Nat):∀ (vs:List D) (o r:List Nat) (s4:Sl),(∀ v ∈ vs,v = .non ∨ (∃ z,v = .int z) ∨ ∃ j:Nat,v = .tup [.str "at",.int (j:Int)]∧j < n) →
  (tgs vs).foldlM (fun o j=>vis (adjD W) S q j o) o = some r→o.Nodup→(∀ x ∈ o,x < n)→∃ s4',forD (gN 4) (LBm (mR__law_met_in q)) vs [.sh W,K,.sh (.lst (nd S)),.ow (lent p (nd o)),s4] = some (.nx [.sh W,K,.sh (.lst (nd S)),.ow (lent p (nd r)),s4'])
 | [],o,r,s4,_,e,_,_=>by cases e; exact ⟨s4,rfl⟩
 | v :: vs,o,r,s4,hv,e,ho,hon=>by
  have hv':∀ v ∈ vs,v = .non ∨ (∃ z,v = .int z) ∨ ∃ j:Nat,v = .tup [.str "at",.int (j:Int)]∧j < n:=fun u hu=>hv u (List.mem_cons_of_mem _ hu)
  have step:∀ {o1:List Nat},LBm (mR__law_met_in q) [.sh W,K,.sh (.lst (nd S)),.ow (lent p (nd o)),.sh v] = some (.nx [.sh W,K,.sh (.lst (nd S)),.ow (lent p (nd o1)),.sh v])→(tgs vs).foldlM (fun o j=>vis (adjD W) S q j o) o1 = some r→o1.Nodup→(∀ x ∈ o1,x < n) →
    ∃ s4',forD (gN 4) (LBm (mR__law_met_in q)) (v :: vs) [.sh W,K,.sh (.lst (nd S)),.ow (lent p (nd o)),s4] = some (.nx [.sh W,K,.sh (.lst (nd S)),.ow (lent p (nd r)),s4']):=by
   intro o1 h1 h2 h3 h4
   obtain ⟨s',h⟩:=for_met hW K S p q vs o1 r (.sh v) hv' h2 h3 h4
   refine ⟨s',?_⟩
   unfold forD
   show (match LBm (mR__law_met_in q) [.sh W,K,.sh (.lst (nd S)),.ow (lent p (nd o)),.sh v] with | some (.nx δ')=>forD (gN 4) (LBm (mR__law_met_in q)) vs δ' | some (.ct δ')=>forD (gN 4) (LBm (mR__law_met_in q)) vs δ' | some (.bk δ')=>some (.nx δ') | r=>r) = _
   rw [h1]
   exact h
  rcases hv v List.mem_cons_self with rfl | ⟨z,rfl⟩ | ⟨j,rfl,hj⟩
  ·exact step (o1:=o) (seq_to (by rw [if_f (by rfl)]; rfl) rfl) e ho hon
  ·exact step (o1:=o) (seq_to (by rw [if_f (by rfl)]; rfl) rfl) e ho hon
  ·have e:(j :: tgs vs).foldlM (fun o j=>vis (adjD W) S q j o) o = some r:=by
    have:tgs (.tup [.str "at",.int (j:Int)] :: vs) = j :: tgs vs:=by unfold tgs; rw [List.filterMap_cons]; simp only [Int.toNat_natCast]
    rw [← this]; exact e
   rw [List.foldlM_cons] at e
   cases e1:vis (adjD W) S q j o with
   | none=>rw [e1] at e; cases e
   | some o1 =>
    rw [e1] at e
    obtain ⟨a,b⟩:=vis_good (adj_lt hW) q j o o1 e1 hj ho hon
    refine step (o1:=o1) (seq_to (δ':=[.sh W,K,.sh (.lst (nd S)),.ow (lent p (nd o1)),.sh (.tup [.str "at",.int (j:Int)])]) ?_ rfl) e a b
    rw [if_t (by rfl)]
    refine seq_to (δ':=[.sh W,K,.sh (.lst (nd S)),.ow (lent p (nd o1)),.sh (.tup [.str "at",.int (j:Int)])]) ?_ rfl
    unfold callM
    show Option.map _ (mR__law_met_in q [W,.int (j:Int),.lst (nd S),.lst (nd o)]) = _
    rw [mR_at hW S o q j hj ho hon,e1]
    rfl
theorem and_tf {g1 g2:GB} {δ:Ds} {b1 b2:Bool} (h1:g1 δ = some b1) (h2:g2 δ = some b2):tAndG g1 g2 δ = some (b1 && b2):=by
 unfold tAndG
 rw [h1]
 cases b1
 ·rfl
 ·show g2 δ = _
  rw [h2]; rfl
theorem hfM__law_met_in (q:Nat):∀ ds l l',mR__law_met_in (q + 1) (ds ++ [.lst l]) = some l'→(ds ++ [D.lst l]).length = 4∧∀ p,(true = true∧GR__law_met_in (mR__law_met_in q) (dStartM N__law_met_in ds p l) = some (.rf (lent p l'))) ∨ (true = false∧∃ δ',GR__law_met_in (mR__law_met_in q) (dStartM N__law_met_in ds p l) = some (.nx δ')∧δ'[ds.length]? = some (.ow (lent p l'))):=by
 intro ds l l' h
 have zs:(1000:Nat) ≤ sizeLine:=by decide
 obtain ⟨W,k,Sd,od,he⟩:∃ W k Sd od,ds ++ [D.lst l] = [W,.int k,.lst Sd,.lst od]:=by
  unfold mR__law_met_in at h
  split at h
  ·rename_i W k Sd od e; exact ⟨W,k,Sd,od,e⟩
  ·cases h
 have he2:ds = [W,.int k,.lst Sd]∧l = od:=by
  have:ds ++ [D.lst l] = [W,.int k,.lst Sd] ++ [.lst od]:=he
  have:=List.append_inj' this rfl
  refine ⟨this.1,?_⟩
  injection this.2 with z
  injection z
 obtain ⟨rfl,rfl⟩:=he2
 refine ⟨rfl,fun p=>.inl ⟨rfl,?_⟩⟩
 have h:mR__law_met_in (q + 1) [W,.int k,.lst Sd,.lst l] = some l':=h
 have ha:Ask W k Sd l:=Classical.byContradiction fun ha=>by
  unfold mR__law_met_in at h
  simp only [] at h
  rw [if_neg ha] at h
  cases h
 obtain ⟨n,S,o,hW,k0,k1,rfl,rfl,ho,hon⟩:=ha
 obtain ⟨k,rfl⟩:∃ k':Nat,k = (k':Int):=⟨k.toNat,by omega⟩
 have hk:k < n:=by omega
 rw [mR_at hW S o (q + 1) k hk ho hon] at h
 cases e1:vis (adjD W) S (q + 1) k o with
 | none=>rw [e1] at h; cases h
 | some r =>
  rw [e1] at h
  cases h
  have hlo:o.length ≤ 60:=by
   have:=sub_len ho (m:=List.range n) fun y hy=>List.mem_range.mpr (hon y hy)
   rw [List.length_range] at this
   have:=hW.few
   omega
  have ht:tAndG (borB (ob (o2 (gv 1) (gv 3) (inSeqD true)))) (ob (o2 (gv 1) (gv 2) (inSeqD true))) [.sh W,.sh (.int (k:Int)),.sh (.lst (nd S)),.ow (lent p (nd o)),.un] = some (decide (k ∉ o) && decide (k ∉ S)):=by
   refine and_tf ?_ ?_
   ·show ob (o2 (gv 1) (gv 3) (inSeqD true)) [.sh W,.sh (.int (k:Int)),.sh (.lst (nd S)),.sh (.lst (nd o)),.un] = _
    unfold ob
    rw [o2_of (x:=.int (k:Int)) (y:=.lst (nd o)) rfl rfl,in_nd]
    rfl
   ·unfold ob
    rw [o2_of (x:=.int (k:Int)) (y:=.lst (nd S)) rfl rfl,in_nd]
    rfl
  rw [vis] at e1
  by_cases hc:k ∈ o ∨ k ∈ S
  ·rw [if_pos hc] at e1
   cases e1
   refine seq_to (δ':=[.sh W,.sh (.int (k:Int)),.sh (.lst (nd S)),.ow (lent p (nd o)),.un]) ?_ rfl
   have:(decide (k ∉ o) && decide (k ∉ S)) = false:=by
    rcases hc with h | h
    ·rw [decide_eq_false (by simpa using h)]; rfl
    ·rw [decide_eq_false (p:=k ∉ S) (by simpa using h),Bool.and_false]
   rw [this] at ht
   show ifD _ _ _ [.sh W,.sh (.int (k:Int)),.sh (.lst (nd S)),.ow (lent p (nd o)),.un] = _
   rw [if_f ht]
   rfl
  ·rw [if_neg hc] at e1
   have hko:k ∉ o:=fun z=>hc (.inl z)
   have hkS:k ∉ S:=fun z=>hc (.inr z)
   have hnd:(o ++ [k]).Nodup:=List.nodup_append.mpr ⟨ho,by simp,fun a ha b hb e=>by
    rw [List.mem_singleton.mp hb] at e; exact hko (e ▸ ha)⟩
   have hin:∀ x ∈ o ++ [k],x < n:=fun x hx=>by
    rcases List.mem_append.mp hx with z | z
    ·exact hon x z
    ·rw [List.mem_singleton.mp z]; exact hk
   obtain ⟨vs,_,⟨d,hd1,hd2⟩,ea,hvl,hvs⟩:=adj_of hW hk
   rw [ea] at e1
   obtain ⟨s4,hf⟩:=for_met hW (.sh (.int (k:Int))) S p q vs (o ++ [k]) r .un hvs e1 hnd hin
   refine seq_to (δ':=[.sh W,.sh (.int (k:Int)),.sh (.lst (nd S)),.ow (lent p (nd r)),s4]) ?_ rfl
   rw [decide_eq_true hko,decide_eq_true hkS] at ht
   show ifD _ _ _ [.sh W,.sh (.int (k:Int)),.sh (.lst (nd S)),.ow (lent p (nd o)),.un] = _
   rw [if_t ht]
   refine seq_to (δ':=[.sh W,.sh (.int (k:Int)),.sh (.lst (nd S)),.ow (lent p (nd (o ++ [k]))),.un]) ?_ (seq_to (for_of (items:=vs) ?_ hf) rfl)
   ·unfold exprX appL
    show Option.map _ (if (nd o).length < sizeLine then some (D.non,([.sh W,.sh (.int (k:Int)),.sh (.lst (nd S)),.ow (.tup [.int (p:Int),.lst (nd o ++ [.int (k:Int)])]),.un]:Ds)) else none) = _
    rw [if_pos (by rw [nd_len]; omega)]
    rw [nd_app]
    rfl
   ·show Option.bind (oA (consA (o2 (gv 0) (gv 1) ixD) nilA) m__law_vals _) asLst = _
    rw [oA_of (ds:=[d]) (cons_of (by rw [o2_of (x:=W) (y:=.int (k:Int)) rfl rfl]; exact hd1) rfl),hd2]
    rfl
theorem zero__law_met_in (ds:List D):mR__law_met_in 0 ds = none:=by
 unfold mR__law_met_in
 split
 ·split <;> rfl
 ·rfl
theorem values_ok (p:Pt) (h:p.few):m_values [p.d] = some (.lst p.vals):=Pn.values_ok p h
theorem withv_ok (p:Pt) (h:p.few) (vs:List D):m_with_values [p.d,.lst vs] = some (Pn.put p vs).d:=Pn.with_ok p h vs
theorem vals_ok (p:Pt) (h:p.few):m__law_vals [p.d] = some (.lst p.vals):=Gw.vals_ok p h
theorem lwith_ok (p:Pt) (h:p.few) (vs:List D) (hl:vs.length = p.vals.length):m__law_with [p.d,.lst vs] = some (Pn.put p vs).d:=Gw.with_ok p h vs (.inl hl)
noncomputable def Lv (n:Nat) (v:D):Prop:=v = .non ∨ (∃ z,v = .int z) ∨ ∃ j:Nat,v = .tup [.str "at",.int (j:Int)]∧j < n
theorem Lv.mono {n m:Nat} (h:n ≤ m) {v:D} (x:Lv n v):Lv m v:=x.imp id fun x=>x.imp id fun ⟨j,e,q⟩=>⟨j,e,by omega⟩
structure Pw (n:Nat) (p:Pt):Prop where
 few:p.vals.length ≤ 12
 lv:∀ v ∈ p.vals,Lv n v
theorem Pw.f {n:Nat} {p:Pt} (h:Pw n p):p.few:=by
 have z:(12:Nat) ≤ sizeLine:=by decide
 exact Nat.le_trans h.few z
structure Web (ps:List Pt):Prop where
 len:0 < ps.length∧ps.length ≤ 60
 pw:∀ p ∈ ps,Pw ps.length p
noncomputable def wd (ps:List Pt):D:=.tup (ps.map Pt.d)
theorem Web.at {ps:List Pt} (h:Web ps) {i:Nat} (hi:i < ps.length):ixD (wd ps) (.int (i:Int)) = some ps[i].d∧(ps.map Pt.d).getD i .non = ps[i].d∧Pw ps.length ps[i]:=by
 refine ⟨?_,?_,h.pw _ (List.getElem_mem hi)⟩
 ·show atI (ps.map Pt.d) (i:Int) = _
  rw [atI_in (by omega) (by rw [List.length_map]; omega) .non,Int.toNat_natCast]
  simp [hi]
 ·simp [hi]
theorem Web.good {ps:List Pt} (h:Web ps):GoodD (wd ps) ps.length:=⟨h.len.2,ps.map Pt.d,rfl,by rw [List.length_map],fun i hi=>by
 obtain ⟨_,e,q⟩:=h.at hi
 exact ⟨ps[i].vals,by rw [e]; exact vals_ok _ q.f,q.few,q.lv⟩⟩
theorem Web.adj {ps:List Pt} (h:Web ps) {i:Nat} (hi:i < ps.length):adjD (wd ps) i = tgs ps[i].vals:=by
 obtain ⟨_,e,q⟩:=h.at hi
 unfold adjD wd
 simp only []
 rw [e,vals_ok _ q.f]
theorem tgs_len (vs:List D):(tgs vs).length ≤ vs.length:=List.length_filterMap_le _ _
theorem tgs_lk (j:Nat) (vs:List D):tgs (.tup [.str "at",.int (j:Int)] :: vs) = j :: tgs vs:=by unfold tgs; rw [List.filterMap_cons]; simp only [Int.toNat_natCast]
theorem link_comp {n:Nat}:∀ vs:List D,(∀ v ∈ vs,Lv n v)→compD (gN 0) (ob (isiG isTup (gv 0))) (o2 (gv 0) (gc (.int 1)) ixD) [.un] vs = some (nd (tgs vs))
 | [],_=>rfl
 | v :: vs,h=>by
  have ih:=link_comp vs fun u hu=>h u (List.mem_cons_of_mem _ hu)
  unfold compD
  rcases h v List.mem_cons_self with rfl | ⟨z,rfl⟩ | ⟨j,rfl,hj⟩
  ·exact ih
  ·exact ih
  ·show (match o2 (gv 0) (gc (.int 1)) ixD [.sh (.tup [.str "at",.int (j:Int)])] with | none=>none | some y=>(compD (gN 0) (ob (isiG isTup (gv 0))) (o2 (gv 0) (gc (.int 1)) ixD) [.un] vs).map fun r=>y :: r) = _
   rw [ih,tgs_lk]
   rfl
theorem links_ok {n:Nat} {p:Pt} (h:Pw n p):m_links [p.d] = some (.lst (nd (tgs p.vals))) :=
 mkN_rf rfl (seq_rf (retF_of (comp_of (items:=p.vals) (by
  show Option.bind (oA (consA (gv 0) nilA) m_values [.sh p.d]) asLst = _
  rw [oA_of (ds:=[p.d]) rfl,values_ok p h.f]
  rfl) h.f (link_comp p.vals h.lv))))
noncomputable def lkv (f:Nat→Nat):D→D
 | .tup [_,.int j]=>.tup [.str "at",.int (f j.toNat:Int)]
 | v=>v
noncomputable def rel (f:Nat→Nat) (p:Pt):Pt:=Pn.put p (p.vals.map (lkv f))
theorem in_tgs {vs:List D} {j:Nat} (h:D.tup [.str "at",.int (j:Int)] ∈ vs):j ∈ tgs vs:=List.mem_filterMap.mpr ⟨_,h,by simp only [Int.toNat_natCast]⟩
theorem relinked_ok {n:Nat} {p:Pt} (h:Pw n p) (f:Nat→Nat) (D':D) (hd:∀ j ∈ tgs p.vals,dgetD D' (.int (j:Int)) = some (.int (f j:Int))):m_relinked [p.d,D'] = some (rel f p).d:=by
 refine mkF_rt rfl (seq_to (δ':=[.sh p.d,.sh D',.sh (.lst (p.vals.map (lkv f)))]) (set_of (comp_of (items:=p.vals) (by
  show Option.bind (oA (consA (gv 0) nilA) m_values [.sh p.d,.sh D',.un]) asLst = _
  rw [oA_of (ds:=[p.d]) rfl,values_ok p h.f]
  rfl) h.f ?_)) (seq_rt (ret_of (by rw [oA_of (ds:=[p.d,.lst (p.vals.map (lkv f))]) rfl]; exact withv_ok p h.f _))))
 refine compD_map (lkv f) fun v hv=>⟨[.sh v,.sh D'],rfl,rfl,?_⟩
 rcases h.lv v hv with rfl | ⟨z,rfl⟩ | ⟨j,rfl,hj⟩
 ·rfl
 ·rfl
 ·unfold ifG
  rw [show ob (isiG isTup (gv 0)) [.sh (.tup [.str "at",.int (j:Int)]),.sh D'] = some true from rfl]
  show tupG _ _ = _
  exact tup_of (cons_of rfl (cons_of (d:=.int (f j:Int)) (by
   rw [o2_of (x:=D') (y:=.int (j:Int)) rfl rfl]
   exact hd j (in_tgs hv)) rfl)) (by show 2 ≤ sizeLine; decide)
noncomputable def EB:GS:=(seqD (ifD (ob (isiG isTup (gv 3)))
 (seqD (setD (gN 3) (tupG (consA (gc (.str "at")) (consA (o2 (gv 1) (o2 (gv 3) (gc (.int 1)) ixD) ixD) nilA))))
 nilD)
 nilD)
 (seqD (exprX (appX 2 (gv 3)))
 nilD))
theorem led_ok {n:Nat} {p:Pt} (h:Pw n p) (f:Nat→Nat) (D':D) (hd:∀ j ∈ tgs p.vals,ixD D' (.int (j:Int)) = some (.int (f j:Int))):m__law_led [p.d,D'] = some (rel f p).d:=by
 have zs:(1000:Nat) ≤ sizeLine:=by decide
 obtain ⟨δ',l1,l2⟩:=forD_inv (f:=gN 3) (G:=EB) (fun i δ=>∃ s3:Sl,δ = [.sh p.d,.sh D',.ow (.lst ((p.vals.take i).map (lkv f))),s3]) p.vals 0 [.sh p.d,.sh D',.ow (.lst []),.un] (by
  rintro j v δ hj ⟨s3,rfl⟩
  have hv:=List.mem_of_getElem? hj
  have hjl:=(List.getElem?_eq_some_iff.mp hj).1
  have hf:=h.few
  rw [Nat.zero_add]
  have app:∀ w:D,exprX (appX 2 (gv 3)) [.sh p.d,.sh D',.ow (.lst ((p.vals.take j).map (lkv f))),.sh w] = some (.nx [.sh p.d,.sh D',.ow (.lst ((p.vals.take j).map (lkv f) ++ [w])),.sh w]):=fun w=>Gw.app_ow (l:=(p.vals.take j).map (lkv f)) (d:=w) rfl rfl (by rw [List.length_map,List.length_take]; omega)
  have tk:(p.vals.take (j + 1)).map (lkv f) = (p.vals.take j).map (lkv f) ++ [lkv f v]:=by rw [List.take_succ,hj,List.map_append]; rfl
  refine ⟨[.sh p.d,.sh D',.ow (.lst ((p.vals.take j).map (lkv f))),.sh v],[.sh p.d,.sh D',.ow (.lst ((p.vals.take j).map (lkv f) ++ [lkv f v])),.sh (lkv f v)],rfl,?_,.sh (lkv f v),by rw [tk]⟩
  refine seq_to (δ':=[.sh p.d,.sh D',.ow (.lst ((p.vals.take j).map (lkv f))),.sh (lkv f v)]) ?_ (seq_to (app _) rfl)
  rcases h.lv v hv with rfl | ⟨z,rfl⟩ | ⟨i,rfl,hi⟩
  ·rw [if_f (by rfl)]; rfl
  ·rw [if_f (by rfl)]; rfl
  ·rw [if_t (by rfl)]
   refine seq_to (set_of (d:=.tup [.str "at",.int (f i:Int)]) (tup_of (cons_of rfl (cons_of (d:=.int (f i:Int)) ?_ rfl)) (by show 2 ≤ sizeLine; decide))) rfl
   rw [o2_of (x:=D') (y:=.int (i:Int)) rfl rfl]
   exact hd i (in_tgs hv)) ⟨_,rfl⟩
 obtain ⟨s3,rfl⟩:=l2
 rw [Nat.zero_add,List.take_length] at l1
 refine mkF_rt rfl (seq_to (δ':=[.sh p.d,.sh D',.ow (.lst []),.un]) rfl (seq_to (for_of (items:=p.vals) (by
  show Option.bind (oA (consA (gv 0) nilA) m__law_vals [.sh p.d,.sh D',.ow (.lst []),.un]) asLst = _
  rw [oA_of (ds:=[p.d]) rfl,vals_ok p h.f]
  rfl) l1) (seq_rt (ret_of ?_))))
 show oA (consA (gv 0) (consA (gv 2) nilA)) m__law_with (frz _) = _
 rw [oA_of (ds:=[p.d,.lst (p.vals.map (lkv f))]) rfl]
 exact lwith_ok p h.f _ (by rw [List.length_map])
theorem put_vals (p:Pt) (vs:List D) (h:vs.length = p.vals.length):(Pn.put p vs).vals = vs:=by
 cases p with
 | text w=>exact (List.eq_nil_of_length_eq_zero h).symm
 | row us=>rfl
 | table ps =>
  show ((ps.map (·.1)).zip vs).map (·.2) = vs
  refine List.map_snd_zip ?_
  have h':vs.length = (ps.map (·.2)).length:=h
  simp only [List.length_map] at h' ⊢
  omega
 | rcd c ps =>
  show ((ps.map (·.1)).zip vs).map (·.2) = vs
  refine List.map_snd_zip ?_
  have h':vs.length = (ps.map (·.2)).length:=h
  simp only [List.length_map] at h' ⊢
  omega
theorem rel_pw {n m:Nat} {p:Pt} (h:Pw n p) (f:Nat→Nat) (hf:∀ j ∈ tgs p.vals,f j < m):Pw m (rel f p):=by
 have e:(rel f p).vals = p.vals.map (lkv f):=put_vals p _ (by rw [List.length_map])
 refine ⟨by rw [e,List.length_map]; exact h.few,fun v hv=>?_⟩
 rw [e] at hv
 obtain ⟨u,hu,rfl⟩:=List.mem_map.mp hv
 rcases h.lv u hu with rfl | ⟨z,rfl⟩ | ⟨i,rfl,hi⟩
 ·exact .inl rfl
 ·exact .inr (.inl ⟨z,rfl⟩)
 ·exact .inr (.inr ⟨f i,rfl,hf i (in_tgs hu)⟩)
noncomputable def kd (l:List Nat):List KeyD:=l.map fun (i:Nat)=>Sum.inl (i:Int)
noncomputable def td (l:List Nat):List D:=l.map fun _=>.bl true
theorem kd_app (a b:List Nat):kd (a ++ b) = kd a ++ kd b:=by unfold kd; rw [List.map_append]
theorem has_kd (o:List Nat) (x:Nat):hasK (kd o) (.inl (x:Int)) = decide (x ∈ o):=by
 unfold hasK kd
 rw [List.any_map]
 rw [Bool.eq_iff_iff,List.any_eq_true,decide_eq_true_eq]
 constructor
 ·rintro ⟨y,hy,e⟩
  have e:=of_decide_eq_true e
  injection e with e
  have:y = x:=by omega
  subst this; exact hy
 ·intro h; exact ⟨x,h,decide_eq_true rfl⟩
noncomputable def ded (S:List Nat):List Nat:=S.foldl (fun a x=>if x ∈ a then a else a ++ [x]) []
theorem ded_go:∀ (S a:List Nat),(∀ y,y ∈ S.foldl (fun a x=>if x ∈ a then a else a ++ [x]) a ↔ y ∈ a ∨ y ∈ S)∧(S.foldl (fun a x=>if x ∈ a then a else a ++ [x]) a).length ≤ a.length + S.length
 | [],a=>⟨fun y=>by simp,by simp⟩
 | x :: S,a=>by
  obtain ⟨h1,h2⟩:=ded_go S (if x ∈ a then a else a ++ [x])
  refine ⟨fun y=>?_,?_⟩
  ·rw [List.foldl_cons,h1]
   split
   ·rename_i hx
    constructor
    ·rintro (h | h)
     ·exact .inl h
     ·exact .inr (List.mem_cons_of_mem _ h)
    ·rintro (h | h)
     ·exact .inl h
     ·rcases List.mem_cons.mp h with rfl | h
      ·exact .inl hx
      ·exact .inr h
   ·rw [List.mem_append,List.mem_singleton,List.mem_cons,or_assoc]
  ·rw [List.foldl_cons]
   refine Nat.le_trans h2 ?_
   split
   ·simp only [List.length_cons]; omega
   ·simp only [List.length_append,List.length_cons,List.length_nil]; omega
theorem mem_ded (S:List Nat) (y:Nat):y ∈ ded S ↔ y ∈ S:=by
 unfold ded
 rw [(ded_go S []).1]
 simp
theorem ded_len (S:List Nat):(ded S).length ≤ S.length:=by
 have:=(ded_go S []).2
 rw [List.length_nil,Nat.zero_add] at this
 exact this
noncomputable def pn (l:List Nat):List D:=l.map fun (i:Nat)=>.tup [.int (i:Int),.int (i:Int)]
theorem put_same (x:Nat):∀ V:List Nat,(((kd V).zip (nd V)).map fun p=>if p.1 = (Sum.inl (x:Int):KeyD) then D.int (x:Int) else p.2) = nd V
 | []=>rfl
 | v :: V=>by
  have ih:=put_same x V
  have e:(kd (v :: V)).zip (nd (v :: V)) = ((Sum.inl (v:Int):KeyD),D.int (v:Int)) :: (kd V).zip (nd V):=rfl
  rw [e,List.map_cons,ih]
  show (if (Sum.inl (v:Int):KeyD) = Sum.inl (x:Int) then D.int (x:Int) else D.int (v:Int)) :: nd V = D.int (v:Int) :: nd V
  congr 1
  split
  ·rename_i e; injection e with e; rw [e]
  ·rfl
theorem dictKF_n:∀ (S U:List Nat),dictKF (kd U) (nd U) (pn S) = some (kd (S.foldl (fun a x=>if x ∈ a then a else a ++ [x]) U),nd (S.foldl (fun a x=>if x ∈ a then a else a ++ [x]) U))
 | [],U=>rfl
 | x :: S,U=>by
  have ih:=dictKF_n S (if x ∈ U then U else U ++ [x])
  rw [List.foldl_cons]
  show dictKF (putKs (kd U) (.inl (x:Int))) (putDs (kd U) (nd U) (.inl (x:Int)) (.int (x:Int))) (pn S) = _
  by_cases h:x ∈ U
  ·rw [if_pos h] at ih ⊢
   have hk:hasK (kd U) (.inl (x:Int)) = true:=by rw [has_kd,decide_eq_true h]
   have e1:putKs (kd U) (.inl (x:Int)) = kd U:=by unfold putKs; rw [hk,if_pos rfl]
   have e2:putDs (kd U) (nd U) (.inl (x:Int)) (.int (x:Int)) = nd U:=by unfold putDs; rw [hk,if_pos rfl]; exact put_same x U
   rw [e1,e2]
   exact ih
  ·rw [if_neg h] at ih ⊢
   have hk:hasK (kd U) (.inl (x:Int)) = false:=by rw [has_kd,decide_eq_false h]
   have e1:putKs (kd U) (.inl (x:Int)) = kd (U ++ [x]):=by unfold putKs; rw [hk,if_neg (by simp),kd_app]; rfl
   have e2:putDs (kd U) (nd U) (.inl (x:Int)) (.int (x:Int)) = nd (U ++ [x]):=by unfold putDs; rw [hk,if_neg (by simp),nd_app]; rfl
   rw [e1,e2]
   exact ih
theorem dict_n (S:List Nat) (h:S.length ≤ 1000):dictKD [.lst (pn S)] = some (.dct (.inl (kd (ded S))) (nd (ded S))):=by
 have zs:(1000:Nat) ≤ sizeLine:=by decide
 unfold dictKD
 simp only []
 rw [if_pos (by unfold pn; rw [List.length_map]; omega)]
 have e:=dictKF_n S []
 show Option.map _ (dictKF (kd []) (nd []) (pn S)) = _
 rw [e]
 rfl
noncomputable def MT:GB:=(ob (o2 (borE (oA (consA (gv 5) nilA) lenD)) (gc (.int 0)) gtD))
noncomputable def MB:GS:=(seqD (asgX (popX 5) (gN 6))
 (seqD (ifD (borB (ob (o2 (gv 6) (gv 4) (inDctD true))))
 (seqD (asgX (pureX (gc (.bl true))) (putAt 4 (gv 6)))
 (seqD (exprX (appX 3 (gv 6)))
 (seqD (exprX (extX 5 (oA (consA (oA (consA (o2 (gv 0) (gv 6) ixD) nilA) m_links) nilA) revD)))
 nilD)))
 nilD)
 nilD))
noncomputable def ms (W:D) (k l:Sl) (U o T:List Nat) (s:Sl):Ds:=[.sh W,k,l,.ow (.lst (nd o)),.ow (.dct (.inl (kd (U ++ o))) (nd U ++ td o)),.ow (.lst (nd T.reverse)),s]
section
variable {W:D} {k l:Sl} {U:List Nat}
theorem mt_ok (s:Sl) (o T:List Nat):MT (ms W k l U o T s) = some (decide (0 < T.length)):=by
 have e:borE (oA (consA (gv 5) nilA) lenD) (ms W k l U o T s) = some (.int (T.length:Int)):=by
  show some (D.int ((nd T.reverse).length:Int)) = _
  rw [nd_len,List.length_reverse]
 unfold MT ob
 rw [o2_of (x:=.int (T.length:Int)) (y:=.int 0) e rfl]
 show some (decide ((0:Int) < (T.length:Int))) = _
 congr 1
 rw [decide_eq_decide]
 omega
theorem mpop (s:Sl) (o T:List Nat) (x:Nat):asgX (popX 5) (gN 6) (ms W k l U o (x :: T) s) = some (.nx (ms W k l U o T (.sh (.int (x:Int))))):=by
 have e1:owL 5 (ms W k l U o (x :: T) s) = some (nd (x :: T).reverse):=rfl
 have e2:nd (x :: T).reverse = nd T.reverse ++ [.int (x:Int)]:=by rw [List.reverse_cons,nd_app]; rfl
 unfold asgX popX
 rw [e1,Option.bind_some,e2,List.getLast?_concat,List.dropLast_concat]
 rfl
theorem mtest (o T:List Nat) (x:Nat):borB (ob (o2 (gv 6) (gv 4) (inDctD true))) (ms W k l U o T (.sh (.int (x:Int)))) = some (decide (x ∉ U ++ o)):=by
 show some (xor true (hasK (kd (U ++ o)) (.inl (x:Int)))) = _
 rw [has_kd,Bool.true_xor]
 congr 1
 by_cases h:x ∈ U ++ o
 ·rw [decide_eq_true h,decide_eq_false (fun z=>z h)]; rfl
 ·rw [decide_eq_false h,decide_eq_true h]; rfl
theorem met_while {n:Nat} {adj:Nat→List Nat} {S:List Nat} (hS:∀ y,y ∈ U ↔ y ∈ S) (hU:U.length ≤ 1000) (hA:∀ x,x < n→∃ d,ixD W (.int (x:Int)) = some d∧m_links [d] = some (.lst (nd (adj x)))∧(adj x).length ≤ 12∧∀ j ∈ adj x,j < n):∀ {c:Nat} {o T r:List Nat},Dfs adj S c o T r→(∀ x ∈ T,x < n)→o.length + T.length ≤ 10001→∀ (m:Nat) (s:Sl),c < m→∃ s',whileD MT MB m (ms W k l U o T s) = some (.nx (ms W k l U r [] s')):=by
 intro c o T r h
 induction h with
 | nil o =>
  intro _ _ m s hm
  cases m with
  | zero=>omega
  | succ m =>
   refine ⟨s,?_⟩
   unfold whileD
   rw [mt_ok]
   rfl
 | @skip c o T r x hx hd ih =>
  intro hT hl m s hm
  cases m with
  | zero=>omega
  | succ m =>
   rw [List.length_cons] at hl
   obtain ⟨s',e⟩:=ih (fun y hy=>hT y (List.mem_cons_of_mem _ hy)) (by omega) m (.sh (.int (x:Int))) (by omega)
   refine ⟨s',?_⟩
   have hin:x ∈ U ++ o:=List.mem_append.mpr (hx.symm.imp (hS x).mpr id)
   have eb:MB (ms W k l U o (x :: T) s) = some (.nx (ms W k l U o T (.sh (.int (x:Int))))) :=
    seq_to (mpop s o T x) (seq_to (δ':=ms W k l U o T (.sh (.int (x:Int)))) (by rw [if_f (by rw [mtest,decide_eq_false (fun z=>z hin)])]; rfl) rfl)
   unfold whileD
   rw [mt_ok,decide_eq_true (by simp)]
   dsimp only
   rw [eb]
   exact e
 | @visit c o T r x hx hxS hz hd ih =>
  intro hT hl m s hm
  cases m with
  | zero=>omega
  | succ m =>
   have hxn:=hT x List.mem_cons_self
   obtain ⟨d,hd1,hd2,hal,haj⟩:=hA x hxn
   have zs:(20000:Nat) ≤ sizeLine:=by decide
   rw [List.length_append] at hz
   obtain ⟨s',e⟩:=ih (fun y hy=>by
    rcases List.mem_append.mp hy with q | q
    ·exact haj y q
    ·exact hT y (List.mem_cons_of_mem _ q)) (by simp only [List.length_append,List.length_singleton]; omega) m (.sh (.int (x:Int))) (by omega)
   refine ⟨s',?_⟩
   have hin:x ∉ U ++ o:=fun z=>(List.mem_append.mp z).elim (fun q=>hxS ((hS x).mp q)) hx
   have p1:asgX (pureX (gc (.bl true))) (putAt 4 (gv 6)) (ms W k l U o T (.sh (.int (x:Int)))) = some (.nx [.sh W,k,l,.ow (.lst (nd o)),.ow (.dct (.inl (kd (U ++ (o ++ [x])))) (nd U ++ td (o ++ [x]))),.ow (.lst (nd T.reverse)),.sh (.int (x:Int))]):=by
    have hk:hasK (kd (U ++ o)) (.inl (x:Int)) = false:=by rw [has_kd,decide_eq_false hin]
    have e1:putKs (kd (U ++ o)) (.inl (x:Int)) = kd (U ++ (o ++ [x])):=by
     unfold putKs; rw [hk,if_neg (by simp),← List.append_assoc,kd_app (U ++ o)]; rfl
    have e2:putDs (kd (U ++ o)) (nd U ++ td o) (.inl (x:Int)) (.bl true) = nd U ++ td (o ++ [x]):=by
     unfold putDs; rw [hk,if_neg (by simp)]; unfold td; rw [List.map_append,List.append_assoc]; rfl
    unfold asgX pureX
    show ((if (kd (U ++ o)).length < sizeLine then some ([.sh W,k,l,.ow (.lst (nd o)),Sl.ow (.dct (.inl (putKs (kd (U ++ o)) (.inl (x:Int)))) (putDs (kd (U ++ o)) (nd U ++ td o) (.inl (x:Int)) (.bl true))),.ow (.lst (nd T.reverse)),.sh (.int (x:Int))]) else none).map Res.nx) = _
    rw [if_pos (by unfold kd; rw [List.length_map,List.length_append]; omega),e1,e2]
    rfl
   have p2:exprX (appX 3 (gv 6)) [.sh W,k,l,.ow (.lst (nd o)),.ow (.dct (.inl (kd (U ++ (o ++ [x])))) (nd U ++ td (o ++ [x]))),.ow (.lst (nd T.reverse)),.sh (.int (x:Int))] = some (.nx [.sh W,k,l,.ow (.lst (nd (o ++ [x]))),.ow (.dct (.inl (kd (U ++ (o ++ [x])))) (nd U ++ td (o ++ [x]))),.ow (.lst (nd T.reverse)),.sh (.int (x:Int))]):=by
    rw [Gw.app_ow (l:=nd o) (d:=.int (x:Int)) rfl rfl (by rw [nd_len]; omega),nd_app]
    rfl
   have p3:exprX (extX 5 (oA (consA (oA (consA (o2 (gv 0) (gv 6) ixD) nilA) m_links) nilA) revD)) [.sh W,k,l,.ow (.lst (nd (o ++ [x]))),.ow (.dct (.inl (kd (U ++ (o ++ [x])))) (nd U ++ td (o ++ [x]))),.ow (.lst (nd T.reverse)),.sh (.int (x:Int))] = some (.nx (ms W k l U (o ++ [x]) (adj x ++ T) (.sh (.int (x:Int))))):=by
    have ev:oA (consA (oA (consA (o2 (gv 0) (gv 6) ixD) nilA) m_links) nilA) revD [.sh W,k,l,.ow (.lst (nd (o ++ [x]))),.ow (.dct (.inl (kd (U ++ (o ++ [x])))) (nd U ++ td (o ++ [x]))),.ow (.lst (nd T.reverse)),.sh (.int (x:Int))] = some (.lst (nd (adj x).reverse)):=by
     rw [oA_of (ds:=[.lst (nd (adj x))]) (cons_of (d:=.lst (nd (adj x))) (by
      rw [oA_of (ds:=[d]) (cons_of (d:=d) (by rw [o2_of (x:=W) (y:=.int (x:Int)) rfl rfl]; exact hd1) rfl)]
      exact hd2) rfl)]
     show some (D.lst (nd (adj x)).reverse) = _
     rw [nd_rev]
    unfold exprX extX
    rw [ev]
    show Option.map _ (if (nd T.reverse).length + (nd (adj x).reverse).length ≤ sizeLine then _ else _) = _
    rw [if_pos (by rw [nd_len,nd_len,List.length_reverse,List.length_reverse]; omega),← nd_app,← List.reverse_append]
    rfl
   have eb:MB (ms W k l U o (x :: T) s) = some (.nx (ms W k l U (o ++ [x]) (adj x ++ T) (.sh (.int (x:Int))))) :=
    seq_to (mpop s o T x) (seq_to (δ':=ms W k l U (o ++ [x]) (adj x ++ T) (.sh (.int (x:Int)))) (by
     rw [if_t (by rw [mtest,decide_eq_true hin])]
     exact seq_to p1 (seq_to p2 (seq_to p3 rfl))) rfl)
   unfold whileD
   rw [mt_ok,decide_eq_true (by simp)]
   dsimp only
   rw [eb]
   exact e
end
theorem met_but_ok {ps:List Pt} (h:Web ps) (S:List Nat) (hS:S.length ≤ 1000) {x c:Nat} {r:List Nat} (hx:x < ps.length) (hd:Dfs (adjD (wd ps)) S c [] [x] r) (hc:c ≤ 5000):m_met_but [wd ps,.int (x:Int),.dct (.inl (kd (ded S))) (nd (ded S))] = some (.lst (nd r)):=by
 have hl:=ded_len S
 obtain ⟨s',e⟩:=met_while (W:=wd ps) (k:=.sh (.int (x:Int))) (l:=.sh (.dct (.inl (kd (ded S))) (nd (ded S)))) (U:=ded S) (n:=ps.length) (mem_ded S) (by omega) (fun y hy=>by
  obtain ⟨e1,_,q⟩:=h.at hy
  refine ⟨_,e1,?_,?_,?_⟩
  ·rw [h.adj hy]; exact links_ok q
  ·rw [h.adj hy]; exact Nat.le_trans (tgs_len _) q.few
  ·exact adj_lt h.good y hy) hd (fun y hy=>by rw [List.mem_singleton.mp hy]; exact hx) (by simp) 100000 .un (by omega)
 refine mkN_rf rfl (seq_to (δ':=[.sh (wd ps),.sh (.int (x:Int)),.sh (.dct (.inl (kd (ded S))) (nd (ded S))),.ow (.lst []),.un,.un,.un]) rfl (seq_to (δ':=[.sh (wd ps),.sh (.int (x:Int)),.sh (.dct (.inl (kd (ded S))) (nd (ded S))),.ow (.lst []),.ow (.dct (.inl (kd (ded S))) (nd (ded S))),.un,.un]) rfl (seq_to (δ':=ms (wd ps) (.sh (.int (x:Int))) (.sh (.dct (.inl (kd (ded S))) (nd (ded S)))) (ded S) [] [x] .un) ?_ (seq_to e (seq_rf ?_)))))
 ·unfold ms
  rw [List.append_nil]
  show some (Res.nx [.sh (wd ps),.sh (.int (x:Int)),.sh (.dct (.inl (kd (ded S))) (nd (ded S))),.ow (.lst []),.ow (.dct (.inl (kd (ded S))) (nd (ded S))),.ow (.lst [.int (x:Int)]),.un]) = _
  have:nd (ded S) ++ td [] = nd (ded S):=List.append_nil _
  rw [this]
  rfl
 ·rfl
theorem dfs_facts {adj:Nat→List Nat} {S:List Nat}:∀ {c:Nat} {o T r:List Nat},Dfs adj S c o T r→(∀ i ∈ o,∀ j ∈ adj i,j ∈ o ∨ j ∈ S ∨ j ∈ T)→(∃ s,r = o ++ s)∧∀ i ∈ r,∀ j ∈ adj i,j ∈ r ∨ j ∈ S:=by
 intro c o T r h
 induction h with
 | nil o =>
  intro H
  refine ⟨⟨[],(List.append_nil o).symm⟩,fun i hi j hj=>?_⟩
  rcases H i hi j hj with q | q | q
  ·exact .inl q
  ·exact .inr q
  ·cases q
 | @skip c o T r x hx hd ih =>
  intro H
  refine ih fun i hi j hj=>?_
  rcases H i hi j hj with q | q | q
  ·exact .inl q
  ·exact .inr (.inl q)
  ·rcases List.mem_cons.mp q with rfl | q
   ·exact hx.imp id .inl
   ·exact .inr (.inr q)
 | @visit c o T r x hx hxS hz hd ih =>
  intro H
  obtain ⟨⟨s,e⟩,h2⟩:=ih fun i hi j hj=>by
   rcases List.mem_append.mp hi with hi | hi
   ·rcases H i hi j hj with q | q | q
    ·exact .inl (List.mem_append_left _ q)
    ·exact .inr (.inl q)
    ·rcases List.mem_cons.mp q with rfl | q
     ·exact .inl (by simp)
     ·exact .inr (.inr (List.mem_append_right _ q))
   ·rw [List.mem_singleton.mp hi] at hj
    exact .inr (.inr (List.mem_append_left _ hj))
  exact ⟨⟨x :: s,by rw [e,List.append_assoc]; rfl⟩,h2⟩
theorem walk {ps:List Pt} (h:Web ps) (S:List Nat) {x:Nat} (hx:x < ps.length):∃ c r,Dfs (adjD (wd ps)) S c [] [x] r∧c ≤ 5000∧r.Nodup∧(∀ y ∈ r,y < ps.length∧y ∉ S)∧(∀ i ∈ r,∀ j ∈ adjD (wd ps) i,j ∈ r ∨ j ∈ S)∧(x ∈ S→r = [])∧(x ∉ S→∃ s,r = x :: s):=by
 obtain ⟨c,r,h1,h2,h3,h4,_⟩:=dfs_ex (adjD (wd ps)) S ps.length h.len.2 (fun i hi=>by
  rw [h.adj hi]
  obtain ⟨_,_,q⟩:=h.at hi
  exact ⟨Nat.le_trans (tgs_len _) q.few,tgs_lt q.lv⟩) 1000 [] [x] (by have:=h.len.2; simp only [List.length_cons,List.length_nil]; omega) (by decide) List.nodup_nil (fun y hy=>by cases hy) (fun y hy=>by rw [List.mem_singleton.mp hy]; exact hx)
 obtain ⟨_,f2⟩:=dfs_facts h1 fun i hi=>by cases hi
 refine ⟨c,r,h1,by omega,h3,h4,f2,fun hS=>?_,fun hS=>?_⟩
 ·cases h1 with
  | skip _ h=>cases h; rfl
  | visit _ q _ _=>exact absurd hS q
 ·cases h1 with
  | skip q _=>exact absurd (q.resolve_left (by simp)) hS
  | visit _ _ _ hd =>
   obtain ⟨⟨s,e⟩,_⟩:=dfs_facts hd fun i hi j hj=>by
    rw [show i = x from by simpa using hi] at hj
    exact .inr (.inr (List.mem_append_left _ hj))
   exact ⟨s,e⟩
noncomputable def fN (n:Nat) (r:List Nat) (j:Nat):Nat:=if j ∈ r then n + r.idxOf j else j
theorem fN_lt {n:Nat} {r:List Nat} {j:Nat} (h:j < n):fN n r j < n + r.length:=by
 unfold fN
 split
 ·rename_i h; have:=List.idxOf_lt_length_of_mem h; omega
 ·omega
noncomputable def nw (ps:List Pt) (r:List Nat):List Pt:=ps ++ r.map fun i=>rel (fN ps.length r) (ps.getD i (.text ""))
theorem get_app:∀ (U r v:List Nat) (j:Nat),j ∉ U→getK (kd (U ++ r)) (nd U ++ nd v) (.inl (j:Int)) = getK (kd r) (nd v) (.inl (j:Int))
 | [],_,_,_,_=>rfl
 | u :: U,r,v,j,h=>by
  show (if (Sum.inl (u:Int):KeyD) = .inl (j:Int) then some (D.int (u:Int)) else getK (kd (U ++ r)) (nd U ++ nd v) (.inl (j:Int))) = _
  rw [if_neg (by intro q; injection q with q; exact h (by rw [show j = u from by omega]; exact List.mem_cons_self))]
  exact get_app U r v j fun z=>h (List.mem_cons_of_mem _ z)
theorem get_app':∀ (U r v:List Nat) (j:Nat),j ∈ U→getK (kd (U ++ r)) (nd U ++ nd v) (.inl (j:Int)) = some (.int (j:Int))
 | [],_,_,_,h=>by cases h
 | u :: U,r,v,j,h=>by
  show (if (Sum.inl (u:Int):KeyD) = .inl (j:Int) then some (D.int (u:Int)) else getK (kd (U ++ r)) (nd U ++ nd v) (.inl (j:Int))) = _
  by_cases e:u = j
  ·subst e; rw [if_pos rfl]
  ·rw [if_neg (by intro q; injection q with q; omega)]
   exact get_app' U r v j ((List.mem_cons.mp h).resolve_left (Ne.symm e))
theorem get_rng:∀ (r:List Nat) (m j:Nat),j ∈ r→getK (kd r) (nd (List.range' m r.length)) (.inl (j:Int)) = some (.int ((m + r.idxOf j:Nat):Int))
 | [],_,_,h=>by cases h
 | u :: r,m,j,h=>by
  rw [List.length_cons,List.range'_succ]
  show (if (Sum.inl (u:Int):KeyD) = .inl (j:Int) then some (D.int (m:Int)) else getK (kd r) (nd (List.range' (m + 1) r.length)) (.inl (j:Int))) = _
  by_cases e:u = j
  ·subst e; rw [if_pos rfl,List.idxOf_cons_self]; rfl
  ·rw [if_neg (by intro q; injection q with q; omega),get_rng r (m + 1) j ((List.mem_cons.mp h).resolve_left (Ne.symm e)),show (u :: r).idxOf j = r.idxOf j + 1 from by rw [List.idxOf_cons,beq_false_of_ne e]; rfl]
   congr 2
   omega
theorem num_get {n:Nat} {S r:List Nat} (hr:∀ y ∈ r,y ∉ S) {j:Nat} (hj:j ∈ r ∨ j ∈ S):dgetD (.dct (.inl (kd (ded S ++ r))) (nd (ded S) ++ nd (List.range' n r.length))) (.int (j:Int)) = some (.int (fN n r j:Int)):=by
 show getK (kd (ded S ++ r)) (nd (ded S) ++ nd (List.range' n r.length)) (.inl (j:Int)) = _
 unfold fN
 by_cases h:j ∈ r
 ·rw [get_app _ _ _ _ (fun z=>hr j h ((mem_ded S j).mp z)),get_rng r n j h,if_pos h]
 ·rw [get_app' _ _ _ _ ((mem_ded S j).mpr (hj.resolve_left h)),if_neg h]
end K22
set_option maxHeartbeats 0
namespace K22
open PySem DL W
theorem zex {G1 G2:GZ} {δ δ':Ds} {c:Str} {m:Option Int} (h:G1 δ = some (.ex c m δ')):seqZ G1 G2 δ = some (.ex c m δ'):=by unfold seqZ; rw [h]
theorem zto {G1 G2:GZ} {δ δ':Ds} {r:Option RX} (h:G1 δ = some (.ok (.nx δ'))) (k:G2 δ' = r):seqZ G1 G2 δ = r:=by unfold seqZ; rw [h]; exact k
theorem zrt {G1 G2:GZ} {δ:Ds} {d:D} (h:G1 δ = some (.ok (.rt d))):seqZ G1 G2 δ = some (.ok (.rt d)):=by unfold seqZ; rw [h]
theorem zok {G:GS} {δ:Ds} {r:Res} (h:G δ = some r):okZ G δ = some (.ok r):=by unfold okZ; rw [h]; rfl
theorem zt {g1:GB} {Ga Gb:GZ} {δ:Ds} (h:g1 δ = some true):ifZ g1 Ga Gb δ = Ga δ:=by unfold ifZ; rw [h]; rfl
theorem zf {g1:GB} {Ga Gb:GZ} {δ:Ds} (h:g1 δ = some false):ifZ g1 Ga Gb δ = Gb δ:=by unfold ifZ; rw [h]; rfl
theorem b_of {g:GE} {δ:Ds} {b:Bool} (h:g δ = some (.bl b)):ob g δ = some b:=by unfold ob; rw [h]; rfl
noncomputable def Kp (K:D) (S:List Nat):Prop:=K = .lst (nd S) ∨ K = .non∧S = []
theorem pn_comp (S:List Nat):compD (gN 0) noT (tupG (consA (gv 0) (consA (gv 0) nilA))) [.un] (nd S) = some (pn S):=by
 rw [compD_map (fun d=>.tup [d,d]) fun d hd=>⟨[.sh d],rfl,rfl,tup_of rfl (by show 2 ≤ sizeLine; decide)⟩]
 unfold nd pn
 rw [List.map_map]
 rfl
theorem flat_nd (S:List Nat):flats (nd S) = true:=all_flat S
noncomputable def CB:GS:=(seqD (asgX (pureX (gv 5)) (putAt 3 (gv 6)))
 nilD)
theorem copied_ok {ps:List Pt} (h:Web ps) {K:D} {S:List Nat} (hK:Kp K S) (hS:S.length ≤ 200) {x:Nat} (hx:x < ps.length) {c:Nat} {r:List Nat} (hd:Dfs (adjD (wd ps)) S c [] [x] r) (hc:c ≤ 5000) (hn:r.Nodup) (hr:∀ y ∈ r,y < ps.length∧y ∉ S) (hcl:∀ i ∈ r,∀ j ∈ adjD (wd ps) i,j ∈ r ∨ j ∈ S) (hx':x ∈ r ∨ x ∈ S) :
  m_copied [wd ps,.int (x:Int),K] = some (if 60 < ps.length + r.length then .ex "TooMany" none else .ok (.tup [wd (nw ps r),.int (fN ps.length r x:Int)])):=by
 have zs:(2000:Nat) ≤ sizeLine:=by decide
 have hrl:r.length ≤ 60:=by
  have:=sub_len hn (m:=List.range ps.length) fun y hy=>List.mem_range.mpr (hr y hy).1
  rw [List.length_range] at this
  have:=h.len.2
  omega
 have hpl:=h.len.2
 have hdl:=ded_len S
 have s1:oA (consA (compG 1 [] (lstI (ifG (ob (o2 (gv 2) (gc .non) isND)) (lstG nilA) (gv 2))) (gN 0) noT (tupG (consA (gv 0) (consA (gv 0) nilA)))) nilA) dictKD [.sh (wd ps),.sh (.int (x:Int)),.sh K,.un,.un,.un,.un] = some (.dct (.inl (kd (ded S))) (nd (ded S))):=by
  rw [oA_of (ds:=[.lst (pn S)]) (cons_of (comp_of (items:=nd S) (by
   rcases hK with rfl | ⟨rfl,rfl⟩
   ·rfl
   ·rfl) (by rw [nd_len]; omega) (pn_comp S)) rfl)]
  exact dict_n S (by omega)
 have s2:borL (oA (consA (gv 0) (consA (gv 1) (consA (gv 3) nilA))) m_met_but) [.sh (wd ps),.sh (.int (x:Int)),.sh K,.ow (.dct (.inl (kd (ded S))) (nd (ded S))),.un,.un,.un] = some (.lst (nd r)):=by
  refine borL_of ?_ (flat_nd r)
  show oA (consA (gv 0) (consA (gv 1) (consA (gv 3) nilA))) m_met_but [.sh (wd ps),.sh (.int (x:Int)),.sh K,.sh (.dct (.inl (kd (ded S))) (nd (ded S))),.un,.un,.un] = _
  rw [oA_of (ds:=[wd ps,.int (x:Int),.dct (.inl (kd (ded S))) (nd (ded S))]) rfl]
  exact met_but_ok h S (by omega) hx hd hc
 have s3:ob (o2 (o2 (oA (consA (gv 0) nilA) lenD) (oA (consA (gv 4) nilA) lenD) addA) (gc (.int 60)) gtD) [.sh (wd ps),.sh (.int (x:Int)),.sh K,.ow (.dct (.inl (kd (ded S))) (nd (ded S))),.sh (.lst (nd r)),.un,.un] = some (decide (60 < ps.length + r.length)):=by
  refine b_of ?_
  show some (D.bl (decide ((60:Int) < (((ps.map Pt.d).length:Nat):Int) + (((nd r).length:Nat):Int)))) = _
  rw [List.length_map,nd_len]
  congr 2
  exact decide_eq_decide.mpr (by omega)
 by_cases hbig:60 < ps.length + r.length
 ·rw [if_pos hbig]
  rw [decide_eq_true hbig] at s3
  refine mkX_ex rfl (zto (zok (show _ = some (Res.nx [.sh (wd ps),.sh (.int (x:Int)),.sh K,.ow (.dct (.inl (kd (ded S))) (nd (ded S))),.un,.un,.un]) from ?_)) (zto (zok (set_of s2)) (zex (δ':=[.sh (wd ps),.sh (.int (x:Int)),.sh K,.ow (.dct (.inl (kd (ded S))) (nd (ded S))),.sh (.lst (nd r)),.un,.un]) ?_)))
  ·unfold ownD; erw [s1]; rfl
  ·erw [zt s3]; rfl
 ·rw [if_neg hbig]
  rw [decide_eq_false hbig] at s3
  obtain ⟨δ',l1,l2⟩:=forD_inv (f:=tup2 5 6) (G:=CB) (fun i δ=>∃ s5 s6:Sl,δ = [.sh (wd ps),.sh (.int (x:Int)),.sh K,.ow (.dct (.inl (kd (ded S ++ r.take i))) (nd (ded S) ++ nd (List.range' ps.length i))),.sh (.lst (nd r)),s5,s6]) (enumSD ps.length (nd r)) 0 [.sh (wd ps),.sh (.int (x:Int)),.sh K,.ow (.dct (.inl (kd (ded S))) (nd (ded S))),.sh (.lst (nd r)),.un,.un] (by
   rintro j d δ hj ⟨s5,s6,rfl⟩
   unfold enumSD at hj
   have hjl:j < r.length:=by
    have:=(List.getElem?_eq_some_iff.mp hj).1
    rwa [List.length_map,List.length_range,nd_len] at this
   rw [List.getElem?_map,List.getElem?_range (by rw [nd_len]; exact hjl)] at hj
   have ed:d = .tup [.int ((ps.length + j:Nat):Int),.int (r[j]:Int)]:=by
    have:(nd r).getD j .non = .int (r[j]:Int):=by unfold nd; simp [hjl]
    rw [← this]
    exact (Option.some.inj hj).symm
   subst ed
   have hnin:r[j] ∉ ded S ++ r.take j:=fun z=>by
    rcases List.mem_append.mp z with z | z
    ·exact (hr _ (List.getElem_mem hjl)).2 ((mem_ded S _).mp z)
    ·have q:(r.take j ++ r.drop j).Nodup:=by rw [List.take_append_drop]; exact hn
     exact (List.nodup_append.mp q).2.2 _ z _ (by rw [List.drop_eq_getElem_cons hjl]; exact List.mem_cons_self) rfl
   have hk:hasK (kd (ded S ++ r.take j)) (.inl (r[j]:Int)) = false:=by rw [has_kd,decide_eq_false hnin]
   have tk:r.take (j + 1) = r.take j ++ [r[j]]:=by rw [List.take_succ,List.getElem?_eq_getElem hjl]; rfl
   have e1:putKs (kd (ded S ++ r.take j)) (.inl (r[j]:Int)) = kd (ded S ++ r.take (j + 1)):=by
    unfold putKs; rw [hk,if_neg (by simp),tk,← List.append_assoc,kd_app (ded S ++ r.take j)]; rfl
   have e2:putDs (kd (ded S ++ r.take j)) (nd (ded S) ++ nd (List.range' ps.length j)) (.inl (r[j]:Int)) (.int ((ps.length + j:Nat):Int)) = nd (ded S) ++ nd (List.range' ps.length (j + 1)):=by
    unfold putDs; rw [hk,if_neg (by simp),List.range'_concat,nd_app,List.append_assoc,Nat.one_mul]; rfl
   rw [Nat.zero_add]
   refine ⟨[.sh (wd ps),.sh (.int (x:Int)),.sh K,.ow (.dct (.inl (kd (ded S ++ r.take j))) (nd (ded S) ++ nd (List.range' ps.length j))),.sh (.lst (nd r)),.sh (.int ((ps.length + j:Nat):Int)),.sh (.int (r[j]:Int))],_,rfl,seq_to (δ':=[.sh (wd ps),.sh (.int (x:Int)),.sh K,.ow (.dct (.inl (kd (ded S ++ r.take (j + 1)))) (nd (ded S) ++ nd (List.range' ps.length (j + 1)))),.sh (.lst (nd r)),.sh (.int ((ps.length + j:Nat):Int)),.sh (.int (r[j]:Int))]) ?_ rfl,_,_,rfl⟩
   unfold asgX pureX
   show ((if (kd (ded S ++ r.take j)).length < sizeLine then some ([.sh (wd ps),.sh (.int (x:Int)),.sh K,Sl.ow (.dct (.inl (putKs (kd (ded S ++ r.take j)) (.inl (r[j]:Int)))) (putDs (kd (ded S ++ r.take j)) (nd (ded S) ++ nd (List.range' ps.length j)) (.inl (r[j]:Int)) (.int ((ps.length + j:Nat):Int)))),.sh (.lst (nd r)),.sh (.int ((ps.length + j:Nat):Int)),.sh (.int (r[j]:Int))]) else none).map Res.nx) = _
   rw [if_pos (by unfold kd; rw [List.length_map,List.length_append,List.length_take]; omega),e1,e2]
   rfl) ⟨_,_,by
    rw [List.take_zero,List.append_nil]
    show _ = ([.sh (wd ps),.sh (.int (x:Int)),.sh K,.ow (.dct (.inl (kd (ded S))) (nd (ded S) ++ [])),.sh (.lst (nd r)),_,_]:Ds)
    rw [List.append_nil]⟩
  obtain ⟨s5,s6,rfl⟩:=l2
  have hel:(enumSD ps.length (nd r)).length = r.length:=by unfold enumSD; rw [List.length_map,List.length_range,nd_len]
  rw [Nat.zero_add,hel,List.take_length] at l1
  refine mkX_rt rfl (zto (zok (show _ = some (Res.nx [.sh (wd ps),.sh (.int (x:Int)),.sh K,.ow (.dct (.inl (kd (ded S))) (nd (ded S))),.un,.un,.un]) from ?_)) (zto (zok (set_of s2)) (zto (δ':=[.sh (wd ps),.sh (.int (x:Int)),.sh K,.ow (.dct (.inl (kd (ded S))) (nd (ded S))),.sh (.lst (nd r)),.un,.un]) ?_ (zto (zok (for_of (items:=enumSD ps.length (nd r)) ?_ l1)) (zrt (zok (ret_of ?_)))))))
  ·unfold ownD; erw [s1]; rfl
  ·erw [zf s3]; rfl
  ·unfold enumSI
   rw [show consA (gv 4) nilA [.sh (wd ps),.sh (.int (x:Int)),.sh K,.ow (.dct (.inl (kd (ded S))) (nd (ded S))),.sh (.lst (nd r)),.un,.un] = some [.lst (nd r)] from rfl,Option.bind_some,show oA (consA (gv 0) nilA) lenD [.sh (wd ps),.sh (.int (x:Int)),.sh K,.ow (.dct (.inl (kd (ded S))) (nd (ded S))),.sh (.lst (nd r)),.un,.un] = some (.int (ps.length:Int)) from by
    show some (D.int (((ps.map Pt.d).length:Nat):Int)) = _
    rw [List.length_map],Option.bind_some]
   simp only []
   rw [if_pos ⟨by omega,by omega⟩,Int.toNat_natCast]
  ·show tupG _ [.sh (wd ps),.sh (.int (x:Int)),.sh K,.sh (.dct (.inl (kd (ded S ++ r))) (nd (ded S) ++ nd (List.range' ps.length r.length))),.sh (.lst (nd r)),frz1 s5,frz1 s6] = _
   refine tup_of (cons_of ?_ (cons_of ?_ rfl)) (by show 2 ≤ sizeLine; decide)
   ·rw [o2_of (x:=wd ps) (y:=.tup ((r.map fun i=>rel (fN ps.length r) (ps.getD i (.text ""))).map Pt.d)) rfl (by
     rw [oA_of (ds:=[.lst ((r.map fun i=>rel (fN ps.length r) (ps.getD i (.text ""))).map Pt.d)]) (cons_of (comp_of (items:=nd r) rfl (by rw [nd_len]; omega) (by
      have q:=compD_map (f:=gN 0) (gt:=noT) (ge:=(oA (consA (o2 (gv 1) (gv 0) ixD) (consA (gv 2) nilA)) m_relinked)) (δ:=[.un,.sh (wd ps),.sh (.dct (.inl (kd (ded S ++ r))) (nd (ded S) ++ nd (List.range' ps.length r.length)))]) (fun d=>match d with | .int i=>(rel (fN ps.length r) (ps.getD i.toNat (.text ""))).d | _=>.non) (items:=nd r) fun d hd=>by
       obtain ⟨i,hi,rfl⟩:=List.mem_map.mp hd
       obtain ⟨hil,_⟩:=hr i hi
       obtain ⟨e1,_,q⟩:=h.at hil
       refine ⟨[.sh (.int (i:Int)),.sh (wd ps),.sh (.dct (.inl (kd (ded S ++ r))) (nd (ded S) ++ nd (List.range' ps.length r.length)))],rfl,rfl,?_⟩
       rw [oA_of (ds:=[ps[i].d,.dct (.inl (kd (ded S ++ r))) (nd (ded S) ++ nd (List.range' ps.length r.length))]) (cons_of (by rw [o2_of (x:=wd ps) (y:=.int (i:Int)) rfl rfl]; exact e1) rfl)]
       rw [relinked_ok q (fN ps.length r) _ fun j hj=>num_get (fun y hy=>(hr y hy).2) (hcl i hi j (by rw [h.adj hil]; exact hj))]
       simp [hil]
      refine q.trans ?_
      unfold nd
      rw [List.map_map,List.map_map]
      rfl)) rfl)]
     rfl)]
    show (if (ps.map Pt.d).length + ((r.map fun i=>rel (fN ps.length r) (ps.getD i (.text ""))).map Pt.d).length ≤ sizeLine then some (D.tup (ps.map Pt.d ++ (r.map fun i=>rel (fN ps.length r) (ps.getD i (.text ""))).map Pt.d)) else none) = _
    rw [if_pos (by rw [List.length_map,List.length_map,List.length_map]; omega),← List.map_append]
    rfl
   ·rw [o2_of (x:=.dct (.inl (kd (ded S ++ r))) (nd (ded S) ++ nd (List.range' ps.length r.length))) (y:=.int (x:Int)) rfl rfl]
    exact num_get (fun y hy=>(hr y hy).2) hx'
end K22
set_option maxHeartbeats 0
namespace K22
open PySem DL W
noncomputable def res (ps:List Pt) (r:List Nat) (x:Nat):D:=if 60 < ps.length + r.length then .str "too many" else .tup [wd (nw ps r),.int (fN ps.length r x:Int)]
theorem notin_take {r:List Nat} (hn:r.Nodup) {i:Nat} (hi:i < r.length):r[i] ∉ r.take i:=fun z=>by
 have q:(r.take i ++ r.drop i).Nodup:=by rw [List.take_append_drop]; exact hn
 exact (List.nodup_append.mp q).2.2 _ z _ (by rw [List.drop_eq_getElem_cons hi]; exact List.mem_cons_self) rfl
theorem fN_step {n:Nat} {r:List Nat} (hn:r.Nodup) {i:Nat} (hi:i < r.length) (j:Nat):fN n (r.take (i + 1)) j = if j = r[i] then n + i else fN n (r.take i) j:=by
 have tk:r.take (i + 1) = r.take i ++ [r[i]]:=by rw [List.take_succ,List.getElem?_eq_getElem hi]; rfl
 have hni:=notin_take hn hi
 have hl:(r.take i).length = i:=by rw [List.length_take]; omega
 unfold fN
 rw [tk]
 by_cases e:j = r[i]
 ·subst e
  rw [if_pos rfl,if_pos (List.mem_append_right _ (List.mem_singleton.mpr rfl)),List.idxOf_append,if_neg hni,hl]
  simp
 ·rw [if_neg e]
  by_cases h:j ∈ r.take i
  ·rw [if_pos (List.mem_append_left _ h),if_pos h,List.idxOf_append,if_pos h]
  ·rw [if_neg h,if_neg (fun z=>(List.mem_append.mp z).elim h fun z=>e (List.mem_singleton.mp z))]
noncomputable def DB:GS:=(seqD (asgX (pureX (o2 (oA (consA (gv 0) nilA) lenD) (gv 5) addA)) (setAt 4 (o2 (gv 3) (gv 5) ixD)))
 nilD)
theorem due_ok {ps:List Pt} (h:Web ps) {S:List Nat} {x:Nat} (hx:x < ps.length) {c:Nat} {r:List Nat} (hd:Dfs (adjD (wd ps)) S c [] [x] r) (hn:r.Nodup) (hr:∀ y ∈ r,y < ps.length∧y ∉ S) (hS1:x ∈ S→r = []) (hS2:x ∉ S→∃ s,r = x :: s) :
  m__law_due [wd ps,.int (x:Int),.lst (nd S)] = some (res ps r x):=by
 have zs:(2000:Nat) ≤ sizeLine:=by decide
 have hpl:=h.len.2
 have hrl:r.length ≤ 60:=by
  have:=sub_len hn (m:=List.range ps.length) fun y hy=>List.mem_range.mpr (hr y hy).1
  rw [List.length_range] at this
  omega
 have lw:∀ (a b d e f:Sl),oA (consA (gv 0) nilA) lenD [.sh (wd ps),a,b,d,e,f] = some (.int (ps.length:Int)):=fun a b d e f=>by
  show some (D.int (((ps.map Pt.d).length:Nat):Int)) = _
  rw [List.length_map]
 have t1:ob (o2 (gv 1) (gv 2) (inSeqD false)) [.sh (wd ps),.sh (.int (x:Int)),.sh (.lst (nd S)),.un,.un,.un] = some (decide (x ∈ S)):=by
  refine b_of ?_
  rw [o2_of (x:=.int (x:Int)) (y:=.lst (nd S)) rfl rfl,in_nd']
 by_cases hxS:x ∈ S
 ·have e:=hS1 hxS
  subst e
  rw [decide_eq_true hxS] at t1
  have er:res ps [] x = .tup [wd ps,.int (x:Int)]:=by
   unfold res nw fN
   rw [if_neg (by simp; omega),if_neg (by simp)]
   simp
  rw [er]
  refine mkF_rt rfl (seq_rt ?_)
  erw [if_t t1]
  exact seq_rt (ret_of (tup_of rfl (by show 2 ≤ sizeLine; decide)))
 ·obtain ⟨s,hrs⟩:=hS2 hxS
  rw [decide_eq_false hxS] at t1
  have hfx:fN ps.length r x = ps.length:=by
   unfold fN
   rw [hrs,if_pos List.mem_cons_self,List.idxOf_cons_self]
   rfl
  have t2:newM (consA (gv 0) (consA (gv 1) (consA (gv 2) nilA))) m__law_met_in [.sh (wd ps),.sh (.int (x:Int)),.sh (.lst (nd S)),.un,.un,.un] = some (.lst (nd r)):=by
   unfold newM
   show Option.map D.lst (mR__law_met_in 62 [wd ps,.int (x:Int),.lst (nd S),.lst (nd [])]) = _
   rw [mR_at h.good S [] 62 x hx List.nodup_nil (fun y hy=>by cases hy),vis_of (adj_lt h.good) hd hx 62 (by omega)]
   rfl
  have t3:ob (o2 (o2 (oA (consA (gv 0) nilA) lenD) (oA (consA (gv 3) nilA) lenD) addA) (gc (.int 60)) gtD) [.sh (wd ps),.sh (.int (x:Int)),.sh (.lst (nd S)),.sh (.lst (nd r)),.un,.un] = some (decide (60 < ps.length + r.length)):=by
   refine b_of ?_
   show some (D.bl (decide ((60:Int) < (((ps.map Pt.d).length:Nat):Int) + (((nd r).length:Nat):Int)))) = _
   rw [List.length_map,nd_len]
   congr 2
   exact decide_eq_decide.mpr (by omega)
  unfold res
  by_cases hbig:60 < ps.length + r.length
  ·rw [if_pos hbig]
   rw [decide_eq_true hbig] at t3
   refine mkF_rt rfl (seq_to (δ':=[.sh (wd ps),.sh (.int (x:Int)),.sh (.lst (nd S)),.un,.un,.un]) (by erw [if_f t1]; rfl) (seq_to (set_of t2) (seq_rt ?_)))
   erw [if_t t3]
   exact seq_rt (ret_of rfl)
  ·rw [if_neg hbig,hfx]
   rw [decide_eq_false hbig] at t3
   obtain ⟨δ',l1,l2⟩:=forD_inv (f:=gN 5) (G:=DB) (fun i δ=>∃ s5:Sl,δ = [.sh (wd ps),.sh (.int (x:Int)),.sh (.lst (nd S)),.sh (.lst (nd r)),.ow (.lst (nd ((List.range ps.length).map (fN ps.length (r.take i))))),s5]) (rngD 0 (r.length:Int)) 0 [.sh (wd ps),.sh (.int (x:Int)),.sh (.lst (nd S)),.sh (.lst (nd r)),.ow (.lst (nd (List.range ps.length))),.un] (by
    rintro j d δ hj ⟨s5,rfl⟩
    obtain ⟨hj',rfl⟩:=rng_get hj
    rw [Int.toNat_natCast] at hj'
    rw [Nat.zero_add]
    have hrj:=(hr _ (List.getElem_mem hj')).1
    refine ⟨[.sh (wd ps),.sh (.int (x:Int)),.sh (.lst (nd S)),.sh (.lst (nd r)),.ow (.lst (nd ((List.range ps.length).map (fN ps.length (r.take j))))),.sh (.int (j:Int))],_,rfl,seq_to (δ':=[.sh (wd ps),.sh (.int (x:Int)),.sh (.lst (nd S)),.sh (.lst (nd r)),.ow (.lst (nd ((List.range ps.length).map (fN ps.length (r.take (j + 1)))))),.sh (.int (j:Int))]) ?_ rfl,_,rfl⟩
    have g1:pureX (o2 (oA (consA (gv 0) nilA) lenD) (gv 5) addA) [.sh (wd ps),.sh (.int (x:Int)),.sh (.lst (nd S)),.sh (.lst (nd r)),.ow (.lst (nd ((List.range ps.length).map (fN ps.length (r.take j))))),.sh (.int (j:Int))] = some (.int ((ps.length + j:Nat):Int),[.sh (wd ps),.sh (.int (x:Int)),.sh (.lst (nd S)),.sh (.lst (nd r)),.ow (.lst (nd ((List.range ps.length).map (fN ps.length (r.take j))))),.sh (.int (j:Int))]):=by
     unfold pureX
     rw [o2_of (x:=.int (ps.length:Int)) (y:=.int (j:Int)) (lw _ _ _ _ _) rfl]
     rfl
    have g2:o2 (gv 3) (gv 5) ixD [.sh (wd ps),.sh (.int (x:Int)),.sh (.lst (nd S)),.sh (.lst (nd r)),.ow (.lst (nd ((List.range ps.length).map (fN ps.length (r.take j))))),.sh (.int (j:Int))] = some (.int (r[j]:Int)):=by
     rw [o2_of (x:=.lst (nd r)) (y:=.int (j:Int)) rfl rfl]
     show atI (nd r) (j:Int) = _
     rw [atI_in (by omega) (by rw [nd_len]; omega) .non,Int.toNat_natCast]
     unfold nd
     simp [hj']
    unfold asgX
    rw [g1,Option.bind_some]
    unfold setAt
    rw [show owL 4 [.sh (wd ps),.sh (.int (x:Int)),.sh (.lst (nd S)),.sh (.lst (nd r)),.ow (.lst (nd ((List.range ps.length).map (fN ps.length (r.take j))))),.sh (.int (j:Int))] = some (nd ((List.range ps.length).map (fN ps.length (r.take j)))) from rfl,Option.bind_some,g2,Option.bind_some]
    simp only []
    rw [show ixN (nd ((List.range ps.length).map (fN ps.length (r.take j)))).length (r[j]:Int) = some r[j] from by
     unfold ixN
     rw [nd_len,List.length_map,List.length_range]
     rw [if_pos (by omega),if_pos (by omega),Int.toNat_natCast]]
    have hset:(nd ((List.range ps.length).map (fN ps.length (r.take j)))).set r[j] (.int ((ps.length + j:Nat):Int)) = nd ((List.range ps.length).map (fN ps.length (r.take (j + 1)))):=by
     apply List.ext_getElem?
     intro q
     unfold nd
     by_cases e:q = r[j]
     ·subst e
      rw [List.getElem?_set_self (by simpa using hrj),List.map_map,List.getElem?_map,List.getElem?_range hrj]
      show _ = some (D.int ((fN ps.length (r.take (j + 1)) r[j]:Nat):Int))
      rw [fN_step hn hj',if_pos rfl]
     ·rw [List.getElem?_set_ne (Ne.symm e),List.map_map,List.map_map,List.getElem?_map,List.getElem?_map]
      cases hq:(List.range ps.length)[q]? with
      | none=>rfl
      | some v =>
       have:v = q:=by
        have:=List.getElem?_eq_some_iff.mp hq
        obtain ⟨h1,h2⟩:=this
        rw [List.getElem_range] at h2
        exact h2.symm
       subst this
       show some (D.int ((fN ps.length (r.take j) v:Nat):Int)) = some (D.int ((fN ps.length (r.take (j + 1)) v:Nat):Int))
       rw [fN_step hn hj',if_neg e]
    show some (Res.nx [.sh (wd ps),.sh (.int (x:Int)),.sh (.lst (nd S)),.sh (.lst (nd r)),.ow (.lst ((nd ((List.range ps.length).map (fN ps.length (r.take j)))).set r[j] (.int ((ps.length + j:Nat):Int)))),.sh (.int (j:Int))]) = _
    rw [hset]) ⟨.un,by
     have:(List.range ps.length).map (fN ps.length (r.take 0)) = List.range ps.length:=by
      rw [List.take_zero]
      conv=>rhs; rw [← List.map_id (List.range ps.length)]
      exact List.map_congr_left fun a _=>by unfold fN; simp
     rw [this]⟩
   obtain ⟨s5,rfl⟩:=l2
   rw [rng_len,Int.toNat_natCast,Nat.zero_add,List.take_length] at l1
   refine mkF_rt rfl (seq_to (δ':=[.sh (wd ps),.sh (.int (x:Int)),.sh (.lst (nd S)),.un,.un,.un]) (by erw [if_f t1]; rfl) (seq_to (set_of t2) (seq_to (δ':=[.sh (wd ps),.sh (.int (x:Int)),.sh (.lst (nd S)),.sh (.lst (nd r)),.un,.un]) (by erw [if_f t3]; rfl) (seq_to (δ':=[.sh (wd ps),.sh (.int (x:Int)),.sh (.lst (nd S)),.sh (.lst (nd r)),.ow (.lst (nd (List.range ps.length))),.un]) ?_ (seq_to (for_of (items:=rngD 0 (r.length:Int)) (rng1_of (cons_of ?_ rfl) (by omega) (by omega)) l1) (seq_rt (ret_of ?_)))))))
   ·unfold ownD
    rw [oA_of (ds:=[.int (ps.length:Int)]) (cons_of (lw _ _ _ _ _) rfl)]
    unfold lrngD
    simp only []
    rw [if_pos ⟨by omega,by omega⟩,Int.toNat_natCast]
    rfl
   ·show some (D.int (((nd r).length:Nat):Int)) = _
    rw [nd_len]
   ·show tupG _ [.sh (wd ps),.sh (.int (x:Int)),.sh (.lst (nd S)),.sh (.lst (nd r)),.sh (.lst (nd ((List.range ps.length).map (fN ps.length r)))),frz1 s5] = _
    refine tup_of (cons_of ?_ (cons_of (lw _ _ _ _ _) rfl)) (by show 2 ≤ sizeLine; decide)
    rw [o2_of (x:=wd ps) (y:=.tup ((r.map fun i=>rel (fN ps.length r) (ps.getD i (.text ""))).map Pt.d)) rfl (by
     rw [oA_of (ds:=[.lst ((r.map fun i=>rel (fN ps.length r) (ps.getD i (.text ""))).map Pt.d)]) (cons_of (comp_of (items:=nd r) rfl (by rw [nd_len]; omega) (by
      have q:=compD_map (f:=gN 0) (gt:=noT) (ge:=(oA (consA (o2 (gv 1) (gv 0) ixD) (consA (gv 2) nilA)) m__law_led)) (δ:=[.un,.sh (wd ps),.sh (.lst (nd ((List.range ps.length).map (fN ps.length r))))]) (fun d=>match d with | .int i=>(rel (fN ps.length r) (ps.getD i.toNat (.text ""))).d | _=>.non) (items:=nd r) fun d hd=>by
       obtain ⟨i,hi,rfl⟩:=List.mem_map.mp hd
       obtain ⟨hil,_⟩:=hr i hi
       obtain ⟨e1,_,q⟩:=h.at hil
       refine ⟨[.sh (.int (i:Int)),.sh (wd ps),.sh (.lst (nd ((List.range ps.length).map (fN ps.length r))))],rfl,rfl,?_⟩
       rw [oA_of (ds:=[ps[i].d,.lst (nd ((List.range ps.length).map (fN ps.length r)))]) (cons_of (by rw [o2_of (x:=wd ps) (y:=.int (i:Int)) rfl rfl]; exact e1) rfl)]
       rw [led_ok q (fN ps.length r) _ fun j hj=>by
        have hjl:=tgs_lt q.lv j hj
        show atI (nd ((List.range ps.length).map (fN ps.length r))) (j:Int) = _
        rw [atI_in (by omega) (by rw [nd_len,List.length_map,List.length_range]; omega) .non,Int.toNat_natCast]
        unfold nd
        simp [hjl]]
       simp [hil]
      refine q.trans ?_
      unfold nd
      rw [List.map_map,List.map_map]
      rfl)) rfl)]
     rfl)]
    show (if (ps.map Pt.d).length + ((r.map fun i=>rel (fN ps.length r) (ps.getD i (.text ""))).map Pt.d).length ≤ sizeLine then some (D.tup (ps.map Pt.d ++ (r.map fun i=>rel (fN ps.length r) (ps.getD i (.text ""))).map Pt.d)) else none) = _
    rw [if_pos (by rw [List.length_map,List.length_map,List.length_map]; omega),← List.map_append]
    rfl
end K22
set_option maxHeartbeats 0
namespace K22
open PySem DL W
noncomputable def TZ:GZ:=(seqZ (ifZ (ob (o2 (gv 0) (gc (.int 0)) eqD))
 (seqZ (callZ (consA (gv 1) (consA (gv 2) (consA (gv 3) nilA))) m_copied 4)
 nilZ)
 (seqZ (ifZ (ob (o2 (gv 0) (gc (.int 1)) eqD))
 (seqZ (callZ (consA (gv 1) (consA (gv 2) nilA)) (fun ds=>m_copied (ds ++ [.non])) 4)
 nilZ)
 (seqZ (callZ (consA (gv 1) (consA (gv 2) nilA)) m_shallow 4)
 nilZ))
 nilZ))
 nilZ)
noncomputable def out (b:Bool) (W':D) (y:Nat):DX:=if b = true then .ex "TooMany" none else .ok (.tup [W',.int (y:Int)])
noncomputable def outS (b:Bool) (W':D) (y:Nat):D:=if b = true then .str "too many" else .tup [W',.int (y:Int)]
theorem told_ok {w:Int} {W K W':D} {x y:Nat} {b:Bool}
  (hz:TZ [.sh (.int w),.sh W,.sh (.int (x:Int)),.sh K,.sh .non,.sh (.str ""),.un] = some (outZ 4 [.sh (.int w),.sh W,.sh (.int (x:Int)),.sh K,.sh .non,.sh (.str ""),.un] (out b W' y))) :
  m__law_told [.int w,W,.int (x:Int),K] = some (outS b W' y):=by
 cases b with
 | true =>
  refine mkF_rt rfl (seq_to (δ':=[.sh (.int w),.sh W,.sh (.int (x:Int)),.sh K,.sh .non,.un,.un]) rfl (seq_to (δ':=[.sh (.int w),.sh W,.sh (.int (x:Int)),.sh K,.sh .non,.sh (.str ""),.un]) rfl (seq_to (δ':=[.sh (.int w),.sh W,.sh (.int (x:Int)),.sh K,.sh .non,.sh (.str "too many"),.un]) ?_ (seq_rt ?_))))
  ·show tryD _ 6 TZ _ _ = _
   unfold tryD
   rw [hz]
   rfl
  ·rw [if_t (by rfl)]
   exact seq_rt (ret_of rfl)
 | false =>
  refine mkF_rt rfl (seq_to (δ':=[.sh (.int w),.sh W,.sh (.int (x:Int)),.sh K,.sh .non,.un,.un]) rfl (seq_to (δ':=[.sh (.int w),.sh W,.sh (.int (x:Int)),.sh K,.sh .non,.sh (.str ""),.un]) rfl (seq_to (δ':=[.sh (.int w),.sh W,.sh (.int (x:Int)),.sh K,.sh (.tup [W',.int (y:Int)]),.sh (.str ""),.un]) ?_ (seq_to (δ':=[.sh (.int w),.sh W,.sh (.int (x:Int)),.sh K,.sh (.tup [W',.int (y:Int)]),.sh (.str ""),.un]) (by rw [if_f (by rfl)]; rfl) (seq_to (δ':=[.sh (.int w),.sh W,.sh (.int (x:Int)),.sh K,.sh (.tup [W',.int (y:Int)]),.sh (.str ""),.un]) (by rw [if_f (by rfl)]; rfl) (seq_rt (ret_of rfl)))))))
  show tryD _ 6 TZ _ _ = _
  unfold tryD
  rw [hz]
  rfl
theorem callZ_of {gA:GA} {f:List D→Option DX} {i:Nat} {δ:Ds} {ds:List D} {r:DX} (h1:gA δ = some ds) (h2:f ds = some r):callZ gA f i δ = some (outZ i δ r):=by
 unfold callZ
 rw [h1,Option.bind_some,h2]
 rfl
theorem seqZ_out {G1:GZ} {δ:Ds} {b:Bool} {W':D} {y:Nat} {i:Nat} (h:G1 δ = some (outZ i δ (out b W' y))):seqZ G1 nilZ δ = some (outZ i δ (out b W' y)):=by
 unfold seqZ
 rw [h]
 cases b <;> rfl
theorem ends (ps:List Pt) (r:List Nat) (x:Nat):(if 60 < ps.length + r.length then DX.ex "TooMany" none else .ok (.tup [wd (nw ps r),.int (fN ps.length r x:Int)])) = out (decide (60 < ps.length + r.length)) (wd (nw ps r)) (fN ps.length r x)∧res ps r x = outS (decide (60 < ps.length + r.length)) (wd (nw ps r)) (fN ps.length r x):=by
 unfold out outS res
 by_cases h:60 < ps.length + r.length
 ·simp [h]
 ·simp [h]
section
variable {ps:List Pt} (h:Web ps) {x:Nat} (hx:x < ps.length)
include h hx
theorem told0 {K:D} {S:List Nat} (hK:Kp K S) (hS:S.length ≤ 200):∃ r,m__law_told [.int 0,wd ps,.int (x:Int),K] = some (res ps r x)∧m__law_due [wd ps,.int (x:Int),.lst (nd S)] = some (res ps r x)∧∀ y ∈ r,y < ps.length:=by
 obtain ⟨c,r,h1,h2,h3,h4,h5,h6,h7⟩:=walk h S hx
 have hx':x ∈ r ∨ x ∈ S:=by
  by_cases q:x ∈ S
  ·exact .inr q
  ·obtain ⟨s,e⟩:=h7 q; exact .inl (by rw [e]; exact List.mem_cons_self)
 refine ⟨r,?_,due_ok h hx h1 h3 h4 h6 h7,fun y hy=>(h4 y hy).1⟩
 rw [(ends ps r x).2]
 refine told_ok ?_
 unfold TZ
 refine seqZ_out ?_
 rw [zt (by rfl)]
 exact seqZ_out (callZ_of rfl (by rw [← (ends ps r x).1]; exact copied_ok h hK hS hx h1 h2 h3 h4 h5 hx'))
theorem told1 (K:D):∃ r,m__law_told [.int 1,wd ps,.int (x:Int),K] = some (res ps r x)∧m__law_due [wd ps,.int (x:Int),.lst (nd [])] = some (res ps r x):=by
 obtain ⟨c,r,h1,h2,h3,h4,h5,h6,h7⟩:=walk h [] hx
 have hx':x ∈ r ∨ x ∈ ([]:List Nat):=by obtain ⟨s,e⟩:=h7 (by simp); exact .inl (by rw [e]; exact List.mem_cons_self)
 refine ⟨r,?_,due_ok h hx h1 h3 h4 h6 h7⟩
 rw [(ends ps r x).2]
 refine told_ok ?_
 unfold TZ
 refine seqZ_out ?_
 rw [zf (by rfl)]
 refine seqZ_out ?_
 rw [zt (by rfl)]
 exact seqZ_out (callZ_of rfl (by rw [← (ends ps r x).1]; exact copied_ok h (.inr ⟨rfl,rfl⟩) (by decide) hx h1 h2 h3 h4 h5 hx'))
noncomputable def oth (n x:Nat):List Nat:=(List.range n).filter fun j=>decide (j ≠ x)
omit h hx in
theorem oth_len (n x:Nat):(oth n x).length ≤ n:=by
 unfold oth
 have:=List.length_filter_le (fun j=>decide (j ≠ x)) (List.range n)
 rwa [List.length_range] at this
omit h hx in
theorem oth_comp (n x:Nat) (ge:GE) (hg:∀ (j:Nat),ob ge [.sh (.int (j:Int)),.sh (.int (x:Int))] = some (decide (j ≠ x))):compD (gN 0) (ob ge) (gv 0) [.un,.sh (.int (x:Int))] (rngD 0 (n:Int)) = some (nd (oth n x)):=by
 rw [compD_filter (fun d=>match d with | .int j=>decide (j ≠ (x:Int)) | _=>false) id (fun d hd=>by
  obtain ⟨k,hk,rfl⟩:=rng_mem hd
  refine ⟨[.sh (.int (k:Int)),.sh (.int (x:Int))],rfl,?_,fun _=>rfl⟩
  rw [hg]
  congr 1
  exact decide_eq_decide.mpr (by omega))]
 congr 1
 show ((rngD 0 (n:Int)).filter _).map id = nd (oth n x)
 unfold rngD nd oth
 rw [List.map_id,Int.sub_zero,Int.toNat_natCast,List.filter_map]
 have:(List.range n).filter ((fun d=>match d with | D.int j=>decide (j ≠ (x:Int)) | _=>false) ∘ fun k:Nat=>D.int (0 + (k:Int))) = (List.range n).filter fun j=>decide (j ≠ x):=by
  refine List.filter_congr fun a _=>?_
  exact decide_eq_decide.mpr (by omega)
 rw [this]
 exact List.map_congr_left fun a _=>by simp
theorem told2 (K:D):∃ r,m__law_told [.int 2,wd ps,.int (x:Int),K] = some (res ps r x)∧m__law_due [wd ps,.int (x:Int),.lst (nd (oth ps.length x))] = some (res ps r x):=by
 obtain ⟨c,r,h1,h2,h3,h4,h5,h6,h7⟩:=walk h (oth ps.length x) hx
 have hxo:x ∉ oth ps.length x:=fun z=>by simpa using (List.mem_filter.mp z).2
 have hx':x ∈ r ∨ x ∈ oth ps.length x:=by obtain ⟨s,e⟩:=h7 hxo; exact .inl (by rw [e]; exact List.mem_cons_self)
 refine ⟨r,?_,due_ok h hx h1 h3 h4 h6 h7⟩
 rw [(ends ps r x).2]
 refine told_ok ?_
 unfold TZ
 refine seqZ_out ?_
 rw [zf (by rfl)]
 refine seqZ_out ?_
 rw [zf (by rfl)]
 refine seqZ_out (callZ_of rfl ?_)
 have hl:=oth_len ps.length x
 have hpl:=h.len.2
 have zs:(2000:Nat) ≤ sizeLine:=by decide
 have hc:=copied_ok h (K:=.lst (nd (oth ps.length x))) (.inl rfl) (by omega) hx h1 h2 h3 h4 h5 hx'
 rw [(ends ps r x).1] at hc
 have hq:retCZ (consA (gv 0) (consA (gv 1) (consA (compG 1 [1] (rng1I (consA (oA (consA (gv 0) nilA) lenD) nilA)) (gN 0) (ob (o2 (gv 0) (gv 1) neD)) (gv 0)) nilA))) m_copied [.sh (wd ps),.sh (.int (x:Int))] = some (match out (decide (60 < ps.length + r.length)) (wd (nw ps r)) (fN ps.length r x) with | .ok d=>.ok (.rt d) | .ex c n=>.ex c n [.sh (wd ps),.sh (.int (x:Int))]):=by
  unfold retCZ
  rw [cons_of (d:=wd ps) rfl (cons_of (d:=.int (x:Int)) rfl (cons_of (d:=.lst (nd (oth ps.length x))) (comp_of (items:=rngD 0 (ps.length:Int)) (rng1_of (cons_of (by
   show some (D.int (((ps.map Pt.d).length:Nat):Int)) = _
   rw [List.length_map]) rfl) (by omega) (by omega)) (by rw [rng_len]; omega) (oth_comp ps.length x (o2 (gv 0) (gv 1) neD) fun j=>by
    refine b_of ?_
    show some (D.bl (!decide ((j:Int) = (x:Int)))) = _
    congr 2
    rw [← decide_not]
    exact decide_eq_decide.mpr (by omega))) rfl)),Option.bind_some,hc]
  rfl
 unfold out at hq ⊢
 cases hb:decide (60 < ps.length + r.length) with
 | true =>
  rw [hb] at hq
  exact mkX_ex rfl (zex hq)
 | false =>
  rw [hb] at hq
  exact mkX_rt rfl (zrt hq)
end
end K22
set_option maxHeartbeats 0
namespace K22
open PySem DL W
theorem cell_ok (ns:List Int) (k:Int) (h0:0 ≤ k):∃ z,m__law_cell_at [.lst (ns.map .int),.int k] = some (.int z):=Gw.cell_ok ns k h0
theorem pool_ok (c t:Int):∃ nm,m__law_pool [.int c,.int t] = some (.lst (nm.map .str))∧Gw.Pool nm:=Gw.pool_ok c t
theorem mix_ok (c k:Int) (hk:0 ≤ k∧k ≤ 1000000):∃ x,0 ≤ x∧x < 2147483647∧m__law_mix [.int c,.int k] = some (.int x):=Gw.mix_ok c k hk
theorem web_ok (cs:List Int) (hc:0 < cs.length∧cs.length ≤ 1000) (m:Nat) (hm:0 < m∧m ≤ 1000) (nm:List Str) (hp:Gw.Pool nm) :
  ∃ ps:List Pt,m__law_web [.lst (cs.map .int),.int (m:Int),.lst (nm.map .str)] = some (.tup (ps.map Pt.d))∧ps.length = m∧∀ p ∈ ps,Gw.Gd p (m:Int) nm:=Gw.web_ok cs hc m hm nm hp
theorem pw_of {p:Pt} {m:Nat} {nm:List Str} (h:Gw.Gd p (m:Int) nm):Pw m p:=by
 refine ⟨?_,fun v hv=>?_⟩
 ·have ok:=h.ok
  cases p with
  | text w=>show 0 ≤ 12; decide
  | row vs=>exact ok.1
  | table ps=>show (ps.map (·.2)).length ≤ 12; rw [List.length_map]; exact ok.len
  | rcd c ps=>show (ps.map (·.2)).length ≤ 12; rw [List.length_map]; exact ok.2.len
 ·have k:=h.vk v hv
  rcases val_cases k.ok with rfl | ⟨i,rfl⟩ | ⟨i,rfl,hi⟩
  ·exact .inl rfl
  ·exact .inr (.inl ⟨i,rfl⟩)
  ·have:=k.lk i rfl
   exact .inr (.inr ⟨i.toNat,by rw [Int.toNat_of_nonneg hi],by omega⟩)
theorem drawn_ok (ns:List Int) (hl:ns.length ≤ 63):∃ ps,m__law_drawn_web [.lst (ns.map .int),.int 60] = some (wd ps)∧Web ps:=by
 have z:(1000:Nat) ≤ sizeLine:=by decide
 obtain ⟨c0,h0⟩:=cell_ok ns 0 (by decide)
 obtain ⟨c1,h1⟩:=cell_ok ns 1 (by decide)
 obtain ⟨t,ht⟩:=cell_ok ns 2 (by decide)
 obtain ⟨c3,h3⟩:=cell_ok ns 3 (by decide)
 obtain ⟨nm,hnm,pool⟩:=pool_ok c0 c1
 obtain ⟨m,hm,hmm⟩:∃ m:Nat,(0 < m∧m ≤ 60)∧∀ s4:Sl,o2 (gc (.int 1)) (o2 (gv 3) (o2 (lstG (consA (gc (.int 12)) (consA (gc (.int 12)) (consA (gv 1) (consA (gc (.int 4)) nilA))))) (o2 (o2 (gv 3) (gc (.int 60)) fdivD) (gc (.int 4)) modD) ixD) modD) addA [.sh (.lst (ns.map .int)),.sh (.int 60),.sh (.lst (nm.map .str)),.sh (.int t),s4] = some (.int (m:Int)):=by
  obtain ⟨q,hq,hqq⟩:∃ q:Int,(0 < q∧q ≤ 60)∧atI [D.int 12,D.int 12,D.int 60,D.int 4] (t / 60 % 4) = some (.int q):=by
   have h:t / 60 % 4 = 0 ∨ t / 60 % 4 = 1 ∨ t / 60 % 4 = 2 ∨ t / 60 % 4 = 3:=by omega
   rcases h with e | e | e | e <;> rw [e]
   ·exact ⟨12,by decide,rfl⟩
   ·exact ⟨12,by decide,rfl⟩
   ·exact ⟨60,by decide,rfl⟩
   ·exact ⟨4,by decide,rfl⟩
  have b1:0 ≤ t % q:=Int.emod_nonneg _ (by omega)
  have b2:t % q < q:=Int.emod_lt_of_pos _ (by omega)
  refine ⟨(1 + t % q).toNat,by omega,fun s4=>?_⟩
  have e:(((1 + t % q).toNat:Nat):Int) = 1 + t % q:=by omega
  rw [e]
  rw [o2_of (x:=.int 1) (y:=.int (t % q)) rfl (by
   rw [o2_of (x:=.int t) (y:=.int q) rfl (by
    rw [o2_of (x:=.lst [D.int 12,D.int 12,D.int 60,D.int 4]) (y:=.int (t / 60 % 4)) (lst_of rfl (by show (4:Nat) ≤ _; omega)) rfl]
    exact hqq)]
   exact Gw.mod_p _ _ hq.1)]
  rfl
 obtain ⟨cs,hcl,hcs⟩:∃ cs:List Int,(0 < cs.length∧cs.length ≤ 1000)∧o2 (slAG (gv 0) (someO (gc (.int 9))) (someO (gc (.int 60)))) (lstG (consA (oA (consA (gv 0) (consA (gc (.int 3)) nilA)) m__law_cell_at) nilA)) addA [.sh (.lst (ns.map .int)),.sh (.int 60),.sh (.lst (nm.map .str)),.sh (.int t),.sh (.int (m:Int))] = some (.lst (cs.map .int)):=by
  obtain ⟨us,hu,hue⟩:∃ us:List Int,us.length ≤ 63∧cutD (ns.map D.int) (some 9) (some 60) = us.map .int:=by
   refine ⟨(ns.drop (sIx (ns.map D.int).length 0 (some 9))).take (sIx (ns.map D.int).length (ns.map D.int).length (some 60) - sIx (ns.map D.int).length 0 (some 9)),?_,?_⟩
   ·rw [List.length_take,List.length_drop]; omega
   ·unfold cutD
    rw [List.map_take,List.map_drop]
  refine ⟨us ++ [c3],by simp; omega,?_⟩
  rw [o2_of (x:=.lst (us.map .int)) (y:=.lst [.int c3]) (by rw [← hue]; rfl) (lst_of (cons_of (by rw [oA_of (ds:=[.lst (ns.map .int),.int 3]) rfl]; exact h3) rfl) (by show (1:Nat) ≤ _; omega))]
  simp only [addA]
  rw [if_pos (by rw [List.length_map]; show us.length + 1 ≤ _; omega),List.map_append]
  rfl
 obtain ⟨ps,hps,hpl,hg⟩:=web_ok cs hcl m ⟨hm.1,by omega⟩ nm pool
 refine ⟨ps,mkF_rt rfl (seq_to (set_of (d:=.lst (nm.map .str)) ?_) (seq_to (set_of (d:=.int t) ?_) (seq_to (set_of (hmm _)) (seq_rt (ret_of ?_))))),⟨by rw [hpl]; exact hm,fun p hp=>by rw [hpl]; exact pw_of (hg p hp)⟩⟩
 ·rw [oA_of (ds:=[.int c0,.int c1]) (cons_of (by rw [oA_of (ds:=[.lst (ns.map .int),.int 0]) rfl]; exact h0) (cons_of (by rw [oA_of (ds:=[.lst (ns.map .int),.int 1]) rfl]; exact h1) rfl))]
  exact hnm
 ·rw [oA_of (ds:=[.lst (ns.map .int),.int 2]) rfl]
  exact ht
 ·rw [oA_of (ds:=[.lst (cs.map .int),.int (m:Int),.lst (nm.map .str)]) (cons_of (by exact hcs) rfl)]
  exact hps
theorem nw_web {ps:List Pt} (h:Web ps) {r:List Nat} (hr:∀ y ∈ r,y < ps.length) (hl:ps.length + r.length ≤ 60):Web (nw ps r):=by
 have e:(nw ps r).length = ps.length + r.length:=by unfold nw; rw [List.length_append,List.length_map]
 refine ⟨by rw [e]; have:=h.len.1; omega,fun p hp=>?_⟩
 rw [e]
 rcases List.mem_append.mp hp with hp | hp
 ·exact ⟨(h.pw p hp).few,fun v hv=>((h.pw p hp).lv v hv).mono (by omega)⟩
 ·obtain ⟨i,hi,rfl⟩:=List.mem_map.mp hp
  have hil:=hr i hi
  have hg:ps.getD i (.text "") = ps[i]:=by simp [hil]
  rw [hg]
  obtain ⟨_,_,q⟩:=h.at hil
  exact rel_pw q _ fun j hj=>fN_lt (tgs_lt q.lv j hj)
theorem lean_v {n:Nat} {v:D} (h:Lv n v) (k:Nat):lean v (k + 1) = true:=by
 rcases h with rfl | ⟨z,rfl⟩ | ⟨j,rfl,_⟩ <;> simp [lean,leans]
theorem leans_all {l:List D} {k:Nat} (h:∀ x ∈ l,lean x k = true):leans l k = true:=by
 induction l with
 | nil=>rfl
 | cons a l ih=>rw [leans,h a List.mem_cons_self,ih fun x hx=>h x (List.mem_cons_of_mem _ hx)]; rfl
theorem lean_p {n:Nat} {p:Pt} (h:Pw n p) (k:Nat):lean p.d (k + 4) = true:=by
 have lp:∀ ps:List (Str × D),(∀ v ∈ ps.map (·.2),Lv n v)→leans (ps.map pr) (k + 2) = true:=fun ps hv=>leans_all fun x hx=>by
  obtain ⟨q,hq,rfl⟩:=List.mem_map.mp hx
  have:=lean_v (hv q.2 (List.mem_map.mpr ⟨q,hq,rfl⟩)) k
  show leans [.str q.1,q.2] (k + 1) = true
  rw [leans,leans,leans,this]
  simp [lean]
 cases p with
 | text w=>simp [Pt.d,lean,leans]
 | row vs =>
  have e:leans vs (k + 2) = true:=leans_all fun x hx=>lean_v (h.lv x hx) (k + 1)
  simp [Pt.d,lean,leans,e]
 | table ps =>
  have e:=lp ps h.lv
  simp [Pt.d,lean,leans,e]
 | rcd c ps =>
  have e:=lp ps h.lv
  simp [Pt.d,lean,leans,e]
theorem lean_wd {ps:List Pt} (h:Web ps) (k:Nat):lean (wd ps) (k + 5) = true:=by
 unfold wd
 rw [lean]
 refine leans_all fun x hx=>?_
 obtain ⟨p,hp,rfl⟩:=List.mem_map.mp hx
 exact lean_p (h.pw p hp) k
theorem lean_res {ps:List Pt} (h:Web ps) {r:List Nat} (hr:∀ y ∈ r,y < ps.length) (x:Nat):lean (res ps r x) 50 = true:=by
 unfold res
 split
 ·simp [lean]
 ·rename_i hb
  have:=lean_wd (nw_web h hr (by omega)) 44
  rw [lean,leans,leans,leans,this]
  simp [lean]
theorem lean_nd (S:List Nat):lean (.lst (nd S)) 50 = true:=by
 rw [lean]
 refine leans_all fun x hx=>?_
 obtain ⟨i,_,rfl⟩:=List.mem_map.mp hx
 simp [lean]
theorem deqs_of {n:Nat} (H:∀ d,lean d n = true→deq d d = true):∀ xs,leans xs n = true→deqs xs xs = true
 | [],_=>by simp [deqs]
 | x :: xs,h=>by
  rw [leans,Bool.and_eq_true] at h
  rw [deqs,H x h.1,deqs_of H xs h.2]
  rfl
theorem deq_of:∀ (n:Nat) (d:D),lean d n = true→deq d d = true
 | n,.non,_=>by simp [deq]
 | n,.bl b,_=>by simp [deq]
 | n,.int b,_=>by simp [deq]
 | n,.str b,_=>by simp [deq]
 | 0,.tup xs,h=>by simp [lean] at h
 | 0,.lst xs,h=>by simp [lean] at h
 | n + 1,.tup xs,h=>by rw [lean] at h; rw [deq]; exact deqs_of (deq_of n) xs h
 | n + 1,.lst xs,h=>by rw [lean] at h; rw [deq]; exact deqs_of (deq_of n) xs h
 | n,.dct _ _,h=>by simp [lean] at h
theorem ne_self {d:D} (h:lean d 50 = true):neDD d d = some (.bl false):=by
 unfold neDD
 rw [if_pos ⟨h,h⟩,deq_of 50 d h]
 rfl
noncomputable def kpS (n:Nat) (z:Int) (x:Nat):List Nat:=(List.range n).filter fun (j:Nat)=>decide (z / ((j:Int) + 6) % 3 < z % 5 - 1) && decide (j ≠ x)
theorem kp_comp (n x:Nat) (hn:n ≤ 60) (z:Int):compD (gN 0) (tAndG (ob (o2 (o2 (o2 (gv 2) (o2 (gv 0) (gc (.int 6)) addA) fdivD) (gc (.int 3)) modD) (o2 (gv 3) (gc (.int 1)) subD) ltD)) (ob (o2 (gv 0) (gv 1) neD))) (gv 0) [.un,.sh (.int (x:Int)),.sh (.int z),.sh (.int (z % 5))] (rngD 0 (n:Int)) = some (nd (kpS n z x)):=by
 rw [compD_filter (fun d=>match d with | .int j=>decide (z / (j + 6) % 3 < z % 5 - 1) && decide (j ≠ (x:Int)) | _=>false) id (fun d hd=>by
  obtain ⟨k,hk,rfl⟩:=rng_mem hd
  refine ⟨[.sh (.int (k:Int)),.sh (.int (x:Int)),.sh (.int z),.sh (.int (z % 5))],rfl,?_,fun _=>rfl⟩
  refine and_tf (b_of ?_) (b_of ?_)
  ·rw [o2_of (x:=.int (z / ((k:Int) + 6) % 3)) (y:=.int (z % 5 - 1)) (by
    rw [o2_of (x:=.int (z / ((k:Int) + 6))) (y:=.int 3) (by
     rw [o2_of (x:=.int z) (y:=.int ((k:Int) + 6)) rfl rfl]
     simp only [fdivD,ii]
     rw [if_pos ⟨by omega,by omega⟩]) rfl]
    rfl) rfl]
   rfl
  ·show some (D.bl (!decide ((k:Int) = (x:Int)))) = _
   congr 2
   rw [← decide_not])]
 congr 1
 show ((rngD 0 (n:Int)).filter _).map id = nd (kpS n z x)
 unfold rngD nd kpS
 rw [List.map_id,Int.sub_zero,Int.toNat_natCast,List.filter_map]
 have:(List.range n).filter ((fun d=>match d with | D.int j=>decide (z / (j + 6) % 3 < z % 5 - 1) && decide (j ≠ (x:Int)) | _=>false) ∘ fun k:Nat=>D.int (0 + (k:Int))) = (List.range n).filter fun (j:Nat)=>decide (z / ((j:Int) + 6) % 3 < z % 5 - 1) && decide (j ≠ x):=by
  refine List.filter_congr fun a _=>?_
  show (decide (z / ((0 + (a:Int)) + 6) % 3 < z % 5 - 1) && decide ((0 + (a:Int)) ≠ (x:Int))) = _
  rw [Int.zero_add]
  congr 1
  exact decide_eq_decide.mpr (by omega)
 rw [this]
 exact List.map_congr_left fun a _=>by simp
theorem kept_ok {ps:List Pt} (h:Web ps) (x:Nat) (z:Int) (hz:0 ≤ z):∃ S,m__law_kept [wd ps,.int (x:Int),.int z] = some (.lst (nd S))∧S.length ≤ 200:=by
 have zs:(2000:Nat) ≤ sizeLine:=by decide
 have hpl:=h.len
 have lw:∀ (a b c d:Sl),oA (consA (gv 0) nilA) lenD [.sh (wd ps),a,b,c,d] = some (.int (ps.length:Int)):=fun a b c d=>by
  show some (D.int (((ps.map Pt.d).length:Nat):Int)) = _
  rw [List.length_map]
 have k0:ob (o2 (gv 3) (gc (.int 0)) eqD) [.sh (wd ps),.sh (.int (x:Int)),.sh (.int z),.sh (.int (z % 5)),.un] = some (decide (z % 5 = 0)):=b_of (by rw [o2_of (x:=.int (z % 5)) (y:=.int 0) rfl rfl]; rfl)
 have k1:ob (o2 (gv 3) (gc (.int 1)) eqD) [.sh (wd ps),.sh (.int (x:Int)),.sh (.int z),.sh (.int (z % 5)),.un] = some (decide (z % 5 = 1)):=b_of (by rw [o2_of (x:=.int (z % 5)) (y:=.int 1) rfl rfl]; rfl)
 have s0:setD (gN 3) (o2 (gv 2) (gc (.int 5)) modD) [.sh (wd ps),.sh (.int (x:Int)),.sh (.int z),.un,.un] = some (.nx [.sh (wd ps),.sh (.int (x:Int)),.sh (.int z),.sh (.int (z % 5)),.un]):=set_of (by rw [o2_of (x:=.int z) (y:=.int 5) rfl rfl]; rfl)
 by_cases h0:z % 5 = 0
 ·refine ⟨[],mkN_rf rfl (seq_to s0 (seq_rf ?_)),by decide⟩
  rw [decide_eq_true h0] at k0
  rw [if_t k0]
  exact seq_rf (retF_of (lst_of rfl (by show 0 ≤ sizeLine; decide)))
 rw [decide_eq_false h0] at k0
 have n0:ifD (ob (o2 (gv 3) (gc (.int 0)) eqD)) (seqD (retF (lstG nilA)) nilD) nilD [.sh (wd ps),.sh (.int (x:Int)),.sh (.int z),.sh (.int (z % 5)),.un] = some (.nx [.sh (wd ps),.sh (.int (x:Int)),.sh (.int z),.sh (.int (z % 5)),.un]):=by rw [if_f k0]; rfl
 by_cases h1:z % 5 = 1
 ·have hm:0 ≤ z / 5 % (ps.length:Int):=Int.emod_nonneg _ (by omega)
  refine ⟨[(z / 5 % (ps.length:Int)).toNat],mkN_rf rfl (seq_to s0 (seq_to n0 (seq_rf ?_))),by show 1 ≤ 200; decide⟩
  rw [decide_eq_true h1] at k1
  rw [if_t k1]
  refine seq_rf (retF_of (lst_of (cons_of ?_ rfl) (by show 1 ≤ sizeLine; decide)))
  rw [o2_of (x:=.int (z / 5)) (y:=.int (ps.length:Int)) (by rw [o2_of (x:=.int z) (y:=.int 5) rfl rfl]; rfl) (lw _ _ _ _),Gw.mod_p _ _ (by omega)]
  show _ = some (D.int (((z / 5 % (ps.length:Int)).toNat:Nat):Int))
  rw [Int.toNat_of_nonneg hm]
 rw [decide_eq_false h1] at k1
 have n1:∀ G,ifD (ob (o2 (gv 3) (gc (.int 1)) eqD)) G nilD [.sh (wd ps),.sh (.int (x:Int)),.sh (.int z),.sh (.int (z % 5)),.un] = some (.nx [.sh (wd ps),.sh (.int (x:Int)),.sh (.int z),.sh (.int (z % 5)),.un]):=fun G=>by rw [if_f k1]; rfl
 have hS0:(kpS ps.length z x).length ≤ 60:=by
  unfold kpS
  have:=List.length_filter_le (fun (j:Nat)=>decide (z / ((j:Int) + 6) % 3 < z % 5 - 1) && decide (j ≠ x)) (List.range ps.length)
  rw [List.length_range] at this
  omega
 have s1:ownD 4 (compG 1 [1,2,3] (rng1I (consA (oA (consA (gv 0) nilA) lenD) nilA)) (gN 0) (tAndG (ob (o2 (o2 (o2 (gv 2) (o2 (gv 0) (gc (.int 6)) addA) fdivD) (gc (.int 3)) modD) (o2 (gv 3) (gc (.int 1)) subD) ltD)) (ob (o2 (gv 0) (gv 1) neD))) (gv 0)) [.sh (wd ps),.sh (.int (x:Int)),.sh (.int z),.sh (.int (z % 5)),.un] = some (.nx [.sh (wd ps),.sh (.int (x:Int)),.sh (.int z),.sh (.int (z % 5)),.ow (.lst (nd (kpS ps.length z x)))]):=by
  unfold ownD
  rw [comp_of (items:=rngD 0 (ps.length:Int)) (rng1_of (cons_of (lw _ _ _ _) rfl) (by omega) (by omega)) (by rw [rng_len]; omega) (kp_comp ps.length x hpl.2 z)]
  rfl
 have t2:∀ S:List Nat,ob (o2 (o2 (o2 (gv 2) (gc (.int 15)) fdivD) (gc (.int 2)) modD) (gc (.int 1)) eqD) [.sh (wd ps),.sh (.int (x:Int)),.sh (.int z),.sh (.int (z % 5)),.ow (.lst (nd S))] = some (decide (z / 15 % 2 = 1)):=fun S=>b_of (by
  rw [o2_of (x:=.int (z / 15 % 2)) (y:=.int 1) (by rw [o2_of (x:=.int (z / 15)) (y:=.int 2) (by rw [o2_of (x:=.int z) (y:=.int 15) rfl rfl]; rfl) rfl]; rfl) rfl]
  rfl)
 have t3:∀ S:List Nat,ob (o2 (o2 (o2 (gv 2) (gc (.int 30)) fdivD) (gc (.int 4)) modD) (gc (.int 1)) eqD) [.sh (wd ps),.sh (.int (x:Int)),.sh (.int z),.sh (.int (z % 5)),.ow (.lst (nd S))] = some (decide (z / 30 % 4 = 1)):=fun S=>b_of (by
  rw [o2_of (x:=.int (z / 30 % 4)) (y:=.int 1) (by rw [o2_of (x:=.int (z / 30)) (y:=.int 4) (by rw [o2_of (x:=.int z) (y:=.int 30) rfl rfl]; rfl) rfl]; rfl) rfl]
  rfl)
 obtain ⟨S1,hS1,e1⟩:∃ S1:List Nat,S1.length ≤ 61∧ifD (ob (o2 (o2 (o2 (gv 2) (gc (.int 15)) fdivD) (gc (.int 2)) modD) (gc (.int 1)) eqD)) (seqD (frzS 4 (ownD 4 (o2 (revG (gv 4)) (slAG (gv 4) noneO (someO (gc (.int 1)))) catD))) nilD) nilD [.sh (wd ps),.sh (.int (x:Int)),.sh (.int z),.sh (.int (z % 5)),.ow (.lst (nd (kpS ps.length z x)))] = some (.nx [.sh (wd ps),.sh (.int (x:Int)),.sh (.int z),.sh (.int (z % 5)),.ow (.lst (nd S1))]):=by
  cases hd:decide (z / 15 % 2 = 1) with
  | false=>exact ⟨kpS ps.length z x,by omega,by rw [if_f ((t2 _).trans (by rw [hd]))]; rfl⟩
  | true =>
   refine ⟨(kpS ps.length z x).reverse ++ (kpS ps.length z x).take 1,by rw [List.length_append,List.length_reverse,List.length_take]; omega,?_⟩
   rw [if_t ((t2 _).trans (by rw [hd]))]
   refine seq_to (δ':=[.sh (wd ps),.sh (.int (x:Int)),.sh (.int z),.sh (.int (z % 5)),.ow (.lst (nd ((kpS ps.length z x).reverse ++ (kpS ps.length z x).take 1)))]) ?_ rfl
   show ownD 4 _ [.sh (wd ps),.sh (.int (x:Int)),.sh (.int z),.sh (.int (z % 5)),.sh (.lst (nd (kpS ps.length z x)))] = _
   unfold ownD
   rw [o2_of (x:=.lst (nd (kpS ps.length z x).reverse)) (y:=.lst (nd ((kpS ps.length z x).take 1))) (by
    show some (D.lst (nd (kpS ps.length z x)).reverse) = _
    rw [nd_rev]) (by
    show some (D.lst (cutD (nd (kpS ps.length z x)) none (some 1))) = _
    have:cutD (nd (kpS ps.length z x)) none (some 1) = (nd (kpS ps.length z x)).take 1:=by
     unfold cutD sIx
     simp only []
     rw [if_neg (by decide),List.drop_zero,Nat.sub_zero]
     rw [show min (1:Int).toNat (nd (kpS ps.length z x)).length = min 1 (nd (kpS ps.length z x)).length from rfl,← List.take_eq_take_min]
    rw [this]
    unfold nd
    rw [List.map_take])]
   simp only [catD]
   rw [if_pos (by rw [nd_len,nd_len,List.length_reverse,List.length_take]; omega),← nd_app]
   rfl
 obtain ⟨S2,hS2,e2⟩:∃ S2:List Nat,S2.length ≤ 62∧ifD (ob (o2 (o2 (o2 (gv 2) (gc (.int 30)) fdivD) (gc (.int 4)) modD) (gc (.int 1)) eqD)) (seqD (exprX (appX 4 (gv 1))) nilD) nilD [.sh (wd ps),.sh (.int (x:Int)),.sh (.int z),.sh (.int (z % 5)),.ow (.lst (nd S1))] = some (.nx [.sh (wd ps),.sh (.int (x:Int)),.sh (.int z),.sh (.int (z % 5)),.ow (.lst (nd S2))]):=by
  cases hd:decide (z / 30 % 4 = 1) with
  | false=>exact ⟨S1,by omega,by rw [if_f ((t3 _).trans (by rw [hd]))]; rfl⟩
  | true =>
   refine ⟨S1 ++ [x],by rw [List.length_append,List.length_singleton]; omega,?_⟩
   rw [if_t ((t3 _).trans (by rw [hd]))]
   refine seq_to (δ':=[.sh (wd ps),.sh (.int (x:Int)),.sh (.int z),.sh (.int (z % 5)),.ow (.lst (nd (S1 ++ [x])))]) ?_ rfl
   rw [Gw.app_ow (l:=nd S1) (d:=.int (x:Int)) rfl rfl (by rw [nd_len]; omega),nd_app]
   rfl
 exact ⟨S2,mkN_rf rfl (seq_to s0 (seq_to n0 (seq_to (n1 _) (seq_to s1 (seq_to e1 (seq_to e2 (seq_rf rfl))))))),by omega⟩
end K22
set_option maxHeartbeats 0
namespace K22
open PySem DL W
noncomputable def TB:GS:=(seqD (ifD (ob (o2 (gv 9) (gv 8) neDD))
 (seqD (retD (gc (.bl false)))
 nilD)
 nilD)
 nilD)
noncomputable def LB:GS:=(seqD (setD (gN 3) (oA (consA (o2 (oA (consA (gv 0) (consA (o2 (gc (.int 4)) (o2 (gv 2) (gc (.int 4)) modD) addA) nilA)) m__law_cell_at) (o2 (gv 2) (gv 2) mulA) addA) (consA (o2 (gv 2) (gc (.int 40)) addA) nilA)) m__law_mix))
 (seqD (setD (gN 4) (o2 (o2 (gv 3) (gc (.int 7)) fdivD) (oA (consA (gv 1) nilA) lenD) modD))
 (seqD (setD (gN 5) (oA (consA (gv 1) (consA (gv 4) (consA (o2 (gv 3) (gc (.int 210)) fdivD) nilA))) m__law_kept))
 (seqD (setD (gN 6) (oA (consA (gv 5) nilA) lstOfD))
 (seqD (setD (gN 7) (oA (consA (gv 1) (consA (gv 4) (consA (gv 5) nilA))) m__law_due))
 (seqD (ifD (tOrG (ob (o2 (oA (consA (gc (.int 0)) (consA (gv 1) (consA (gv 4) (consA (gv 6) nilA)))) m__law_told) (gv 7) neDD)) (ob (o2 (gv 6) (gv 5) neDD)))
 (seqD (retD (gc (.bl false)))
 nilD)
 nilD)
 (seqD (setD (gN 8) (oA (consA (gv 1) (consA (gv 4) (consA (lstG nilA) nilA))) m__law_due))
 (seqD (forG (lstI (lstG (consA (oA (consA (gc (.int 1)) (consA (gv 1) (consA (gv 4) (consA (lstG nilA) nilA)))) m__law_told) (consA (oA (consA (gc (.int 0)) (consA (gv 1) (consA (gv 4) (consA (gc .non) nilA)))) m__law_told) (consA (oA (consA (gc (.int 0)) (consA (gv 1) (consA (gv 4) (consA (lstG nilA) nilA)))) m__law_told) nilA))))) (gN 9) TB)
 (seqD (setD (gN 10) (compG 1 [4] (rng1I (consA (oA (consA (gv 1) nilA) lenD) nilA)) (gN 0) (ob (o2 (gv 0) (gv 1) neDD)) (gv 0)))
 (seqD (ifD (ob (o2 (oA (consA (gc (.int 2)) (consA (gv 1) (consA (gv 4) (consA (lstG nilA) nilA)))) m__law_told) (oA (consA (gv 1) (consA (gv 4) (consA (gv 10) nilA))) m__law_due) neDD))
 (seqD (retD (gc (.bl false)))
 nilD)
 nilD)
 (seqD (ifD (tAndG (ob (o2 (o2 (gv 2) (gc (.int 3)) modD) (gc (.int 2)) eqDD)) (ob (isiG isTup (gv 7))))
 (seqD (setD (gN 1) (o2 (gv 7) (gc (.int 0)) ixD))
 nilD)
 nilD)
 nilD)))))))))))
theorem or_ff {g1 g2:GB} {δ:Ds} (h1:g1 δ = some false) (h2:g2 δ = some false):tOrG g1 g2 δ = some false:=by unfold tOrG; rw [h1]; exact h2
theorem deq_int (a b:Int):deq (.int a) (.int b) = decide (a = b):=by rw [deq]; exact Bool.eq_iff_iff.mpr (by simp)
theorem nil0 (δ:Ds):lstG nilA δ = some (.lst []):=lst_of rfl (by show 0 ≤ sizeLine; decide)
theorem body_ok (ns:List Int) {ps:List Pt} (h:Web ps) (j:Nat) (hj:j < 8) (s3 s4 s5 s6 s7 s8 s9 s10:Sl) :
  ∃ (ps':List Pt) (t3 t4 t5 t6 t7 t8 t9 t10:Sl),Web ps'∧LB [.sh (.lst (ns.map .int)),.sh (wd ps),.sh (.int (j:Int)),s3,s4,s5,s6,s7,s8,s9,s10] = some (.nx [.sh (.lst (ns.map .int)),.sh (wd ps'),.sh (.int (j:Int)),t3,t4,t5,t6,t7,t8,t9,t10]):=by
 have zs:(2000:Nat) ≤ sizeLine:=by decide
 have hpl:=h.len
 obtain ⟨c,hc⟩:=cell_ok ns (4 + (j:Int) % 4) (by omega)
 obtain ⟨z,z0,z1,z2⟩:=mix_ok (c + (j:Int) * (j:Int)) ((j:Int) + 40) ⟨by omega,by omega⟩
 obtain ⟨x,hxe⟩:∃ x:Nat,(x:Int) = z / 7 % (ps.length:Int):=⟨(z / 7 % (ps.length:Int)).toNat,by have:=Int.emod_nonneg (z / 7) (by omega:(ps.length:Int) ≠ 0); omega⟩
 have hx:x < ps.length:=by have:=Int.emod_lt_of_pos (z / 7) (by omega:(0:Int) < (ps.length:Int)); omega
 obtain ⟨S,hS,hSl⟩:=kept_ok h x (z / 210) (by omega)
 obtain ⟨r,r1,r2,r3⟩:=told0 h hx (K:=.lst (nd S)) (.inl rfl) hSl
 obtain ⟨q,q1,q2⟩:=told1 h hx (.lst [])
 obtain ⟨qa,qa1,qa2,_⟩:=told0 h hx (K:=.non) (S:=[]) (.inr ⟨rfl,rfl⟩) (by decide)
 obtain ⟨qb,qb1,qb2,qb3⟩:=told0 h hx (K:=.lst (nd [])) (S:=[]) (.inl rfl) (by decide)
 have ea:res ps qa x = res ps q x:=Option.some.inj (qa2.symm.trans q2)
 have eb:res ps qb x = res ps q x:=Option.some.inj (qb2.symm.trans q2)
 rw [ea] at qa1
 rw [eb] at qb1
 have lq:lean (res ps q x) 50 = true:=by rw [← eb]; exact lean_res h qb3 x
 obtain ⟨u,u1,u2⟩:=told2 h hx (.lst [])
 have lu:lean (res ps u x) 50 = true:=by
  obtain ⟨u',_,u2',u3'⟩:=told0 h hx (K:=.lst (nd (oth ps.length x))) (.inl rfl) (by have:=oth_len ps.length x; omega)
  rw [Option.some.inj (u2.symm.trans u2')]
  exact lean_res h u3' x
 obtain ⟨δ7,hδ7⟩:∃ δ7:Ds,δ7 = [.sh (.lst (ns.map .int)),.sh (wd ps),.sh (.int (j:Int)),.sh (.int z),.sh (.int (x:Int)),.sh (.lst (nd S)),.sh (.lst (nd S)),.sh (res ps r x),s8,s9,s10]:=⟨_,rfl⟩
 have lw:∀ (a b c d e f g i k l:Sl),oA (consA (gv 1) nilA) lenD [a,.sh (wd ps),b,c,d,e,f,g,i,k,l] = some (.int (ps.length:Int)):=fun _ _ _ _ _ _ _ _ _ _=>by
  show some (D.int (((ps.map Pt.d).length:Nat):Int)) = _
  rw [List.length_map]
 have a3:oA (consA (o2 (oA (consA (gv 0) (consA (o2 (gc (.int 4)) (o2 (gv 2) (gc (.int 4)) modD) addA) nilA)) m__law_cell_at) (o2 (gv 2) (gv 2) mulA) addA) (consA (o2 (gv 2) (gc (.int 40)) addA) nilA)) m__law_mix [.sh (.lst (ns.map .int)),.sh (wd ps),.sh (.int (j:Int)),s3,s4,s5,s6,s7,s8,s9,s10] = some (.int z):=by
  rw [oA_of (ds:=[.int (c + (j:Int) * (j:Int)),.int ((j:Int) + 40)]) (cons_of (by
   rw [o2_of (x:=.int c) (y:=.int ((j:Int) * (j:Int))) (by
    rw [oA_of (ds:=[.lst (ns.map .int),.int (4 + (j:Int) % 4)]) (cons_of rfl (cons_of (by
     rw [o2_of (x:=.int 4) (y:=.int ((j:Int) % 4)) rfl (by rw [o2_of (x:=.int (j:Int)) (y:=.int 4) rfl rfl]; rfl)]
     rfl) rfl))]
    exact hc) (by
    rw [o2_of (x:=.int (j:Int)) (y:=.int (j:Int)) rfl rfl]
    exact Gw.mul_r _ _ (by omega))]
   rfl) rfl)]
  exact z2
 have fin:∃ (ps':List Pt),Web ps'∧∀ t8 t9 t10:Sl,ifD (tAndG (ob (o2 (o2 (gv 2) (gc (.int 3)) modD) (gc (.int 2)) eqDD)) (ob (isiG isTup (gv 7)))) (seqD (setD (gN 1) (o2 (gv 7) (gc (.int 0)) ixD)) nilD) nilD [.sh (.lst (ns.map .int)),.sh (wd ps),.sh (.int (j:Int)),.sh (.int z),.sh (.int (x:Int)),.sh (.lst (nd S)),.sh (.lst (nd S)),.sh (res ps r x),t8,t9,t10] = some (.nx [.sh (.lst (ns.map .int)),.sh (wd ps'),.sh (.int (j:Int)),.sh (.int z),.sh (.int (x:Int)),.sh (.lst (nd S)),.sh (.lst (nd S)),.sh (res ps r x),t8,t9,t10]):=by
  have g1:∀ t8 t9 t10:Sl,ob (o2 (o2 (gv 2) (gc (.int 3)) modD) (gc (.int 2)) eqDD) [.sh (.lst (ns.map .int)),.sh (wd ps),.sh (.int (j:Int)),.sh (.int z),.sh (.int (x:Int)),.sh (.lst (nd S)),.sh (.lst (nd S)),.sh (res ps r x),t8,t9,t10] = some (decide ((j:Int) % 3 = 2)):=fun _ _ _=>b_of (by
   rw [o2_of (x:=.int ((j:Int) % 3)) (y:=.int 2) (by rw [o2_of (x:=.int (j:Int)) (y:=.int 3) rfl rfl]; rfl) rfl]
   rfl)
  by_cases hb:60 < ps.length + r.length
  ·have er:res ps r x = .str "too many" := by unfold res; rw [if_pos hb]
   refine ⟨ps,h,fun t8 t9 t10=>?_⟩
   have g2:ob (isiG isTup (gv 7)) [.sh (.lst (ns.map .int)),.sh (wd ps),.sh (.int (j:Int)),.sh (.int z),.sh (.int (x:Int)),.sh (.lst (nd S)),.sh (.lst (nd S)),.sh (res ps r x),t8,t9,t10] = some false:=by rw [er]; rfl
   rw [if_f ((and_tf (g1 _ _ _) g2).trans (by rw [Bool.and_false]))]
   rfl
  ·have er:res ps r x = .tup [wd (nw ps r),.int (fN ps.length r x:Int)]:=by unfold res; rw [if_neg hb]
   have g2:∀ t8 t9 t10:Sl,ob (isiG isTup (gv 7)) [.sh (.lst (ns.map .int)),.sh (wd ps),.sh (.int (j:Int)),.sh (.int z),.sh (.int (x:Int)),.sh (.lst (nd S)),.sh (.lst (nd S)),.sh (res ps r x),t8,t9,t10] = some true:=fun _ _ _=>by rw [er]; rfl
   by_cases hj3:(j:Int) % 3 = 2
   ·refine ⟨nw ps r,nw_web h r3 (by omega),fun t8 t9 t10=>?_⟩
    rw [if_t ((and_tf (g1 _ _ _) (g2 _ _ _)).trans (by rw [decide_eq_true hj3]; rfl))]
    refine seq_to (set_of (d:=wd (nw ps r)) ?_) rfl
    rw [o2_of (x:=res ps r x) (y:=.int 0) rfl rfl,er]
    rfl
   ·refine ⟨ps,h,fun t8 t9 t10=>?_⟩
    rw [if_f ((and_tf (g1 _ _ _) (g2 _ _ _)).trans (by rw [decide_eq_false hj3]; rfl))]
    rfl
 obtain ⟨ps',hw',hfin⟩:=fin
 have lp:∀ s10:Sl,∃ t9,forD (gN 9) TB [res ps q x,res ps q x,res ps q x] [.sh (.lst (ns.map .int)),.sh (wd ps),.sh (.int (j:Int)),.sh (.int z),.sh (.int (x:Int)),.sh (.lst (nd S)),.sh (.lst (nd S)),.sh (res ps r x),.sh (res ps q x),s9,s10] = some (.nx [.sh (.lst (ns.map .int)),.sh (wd ps),.sh (.int (j:Int)),.sh (.int z),.sh (.int (x:Int)),.sh (.lst (nd S)),.sh (.lst (nd S)),.sh (res ps r x),.sh (res ps q x),t9,s10]):=fun s10=>by
  obtain ⟨δ',l1,s9',rfl⟩:=forD_inv (f:=gN 9) (G:=TB) (fun i δ=>∃ s9:Sl,δ = [.sh (.lst (ns.map .int)),.sh (wd ps),.sh (.int (j:Int)),.sh (.int z),.sh (.int (x:Int)),.sh (.lst (nd S)),.sh (.lst (nd S)),.sh (res ps r x),.sh (res ps q x),s9,s10]) [res ps q x,res ps q x,res ps q x] 0 [.sh (.lst (ns.map .int)),.sh (wd ps),.sh (.int (j:Int)),.sh (.int z),.sh (.int (x:Int)),.sh (.lst (nd S)),.sh (.lst (nd S)),.sh (res ps r x),.sh (res ps q x),s9,s10] (by
   rintro i d δ hi ⟨s9,rfl⟩
   have hd:d = res ps q x:=by
    have:=List.mem_of_getElem? hi
    simpa using this
   subst hd
   refine ⟨_,_,rfl,seq_to (δ':=[.sh (.lst (ns.map .int)),.sh (wd ps),.sh (.int (j:Int)),.sh (.int z),.sh (.int (x:Int)),.sh (.lst (nd S)),.sh (.lst (nd S)),.sh (res ps r x),.sh (res ps q x),.sh (res ps q x),s10]) ?_ rfl,_,rfl⟩
   show ifD _ _ _ [.sh (.lst (ns.map .int)),.sh (wd ps),.sh (.int (j:Int)),.sh (.int z),.sh (.int (x:Int)),.sh (.lst (nd S)),.sh (.lst (nd S)),.sh (res ps r x),.sh (res ps q x),.sh (res ps q x),s10] = _
   rw [if_f (b_of (b:=false) (by rw [o2_of (x:=res ps q x) (y:=res ps q x) rfl rfl]; exact ne_self lq))]
   rfl) ⟨s9,rfl⟩
  exact ⟨s9',l1⟩
 obtain ⟨t9,hlp⟩:=lp s10
 refine ⟨ps',.sh (.int z),.sh (.int (x:Int)),.sh (.lst (nd S)),.sh (.lst (nd S)),.sh (res ps r x),.sh (res ps q x),t9,.sh (.lst (nd (oth ps.length x))),hw',?_⟩
 refine seq_to (δ':=[.sh (.lst (ns.map .int)),.sh (wd ps),.sh (.int (j:Int)),.sh (.int z),s4,s5,s6,s7,s8,s9,s10]) (set_of a3) ?_
 refine seq_to (δ':=[.sh (.lst (ns.map .int)),.sh (wd ps),.sh (.int (j:Int)),.sh (.int z),.sh (.int (x:Int)),s5,s6,s7,s8,s9,s10]) (set_of ?_) ?_
 ·rw [o2_of (x:=.int (z / 7)) (y:=.int (ps.length:Int)) (by rw [o2_of (x:=.int z) (y:=.int 7) rfl rfl]; rfl) (lw _ _ _ _ _ _ _ _ _ _),Gw.mod_p _ _ (by omega),hxe]
 refine seq_to (δ':=[.sh (.lst (ns.map .int)),.sh (wd ps),.sh (.int (j:Int)),.sh (.int z),.sh (.int (x:Int)),.sh (.lst (nd S)),s6,s7,s8,s9,s10]) (set_of ?_) ?_
 ·rw [oA_of (ds:=[wd ps,.int (x:Int),.int (z / 210)]) (cons_of rfl (cons_of rfl (cons_of (by rw [o2_of (x:=.int z) (y:=.int 210) rfl rfl]; rfl) rfl)))]
  exact hS
 refine seq_to (δ':=[.sh (.lst (ns.map .int)),.sh (wd ps),.sh (.int (j:Int)),.sh (.int z),.sh (.int (x:Int)),.sh (.lst (nd S)),.sh (.lst (nd S)),s7,s8,s9,s10]) (set_of rfl) ?_
 refine seq_to (δ':=δ7) (by rw [hδ7]; exact set_of (by rw [oA_of (ds:=[wd ps,.int (x:Int),.lst (nd S)]) rfl]; exact r2)) ?_
 refine seq_to (δ':=δ7) ?_ ?_
 ·rw [if_f (or_ff (b_of (b:=false) ?_) (b_of (b:=false) ?_))]
  ·rfl
  ·rw [o2_of (x:=res ps r x) (y:=res ps r x) (by rw [hδ7,oA_of (ds:=[.int 0,wd ps,.int (x:Int),.lst (nd S)]) rfl]; exact r1) (by rw [hδ7]; rfl)]
   exact ne_self (lean_res h r3 x)
  ·rw [o2_of (x:=.lst (nd S)) (y:=.lst (nd S)) (by rw [hδ7]; rfl) (by rw [hδ7]; rfl)]
   exact ne_self (lean_nd S)
 rw [hδ7]
 refine seq_to (δ':=[.sh (.lst (ns.map .int)),.sh (wd ps),.sh (.int (j:Int)),.sh (.int z),.sh (.int (x:Int)),.sh (.lst (nd S)),.sh (.lst (nd S)),.sh (res ps r x),.sh (res ps q x),s9,s10]) (set_of ?_) ?_
 ·rw [oA_of (ds:=[wd ps,.int (x:Int),.lst []]) (cons_of rfl (cons_of rfl (cons_of (nil0 _) rfl)))]
  exact q2
 refine seq_to (for_of (items:=[res ps q x,res ps q x,res ps q x]) ?_ hlp) ?_
 ·show Option.bind (lstG _ _) asLst = _
  rw [lst_of (cons_of (d:=res ps q x) (by
   rw [oA_of (ds:=[.int 1,wd ps,.int (x:Int),.lst []]) (cons_of rfl (cons_of rfl (cons_of rfl (cons_of (nil0 _) rfl))))]
   exact q1) (cons_of (d:=res ps q x) (by
   rw [oA_of (ds:=[.int 0,wd ps,.int (x:Int),.non]) rfl]
   exact qa1) (cons_of (d:=res ps q x) (by
   rw [oA_of (ds:=[.int 0,wd ps,.int (x:Int),.lst []]) (cons_of rfl (cons_of rfl (cons_of rfl (cons_of (nil0 _) rfl))))]
   exact qb1) rfl))) (by show 3 ≤ sizeLine; decide)]
  rfl
 refine seq_to (δ':=[.sh (.lst (ns.map .int)),.sh (wd ps),.sh (.int (j:Int)),.sh (.int z),.sh (.int (x:Int)),.sh (.lst (nd S)),.sh (.lst (nd S)),.sh (res ps r x),.sh (res ps q x),t9,.sh (.lst (nd (oth ps.length x)))]) (set_of (comp_of (items:=rngD 0 (ps.length:Int)) (rng1_of (cons_of (lw _ _ _ _ _ _ _ _ _ _) rfl) (by omega) (by omega)) (by rw [rng_len]; omega) (oth_comp ps.length x (o2 (gv 0) (gv 1) neDD) fun i=>b_of ?_))) ?_
 ·rw [o2_of (x:=.int (i:Int)) (y:=.int (x:Int)) rfl rfl]
  unfold neDD
  have e:(!decide ((i:Int) = (x:Int))) = decide (i ≠ x):=by rw [← decide_not]; exact decide_eq_decide.mpr (by omega)
  rw [if_pos ⟨by simp [lean],by simp [lean]⟩,deq_int,e]
 refine seq_to (δ':=[.sh (.lst (ns.map .int)),.sh (wd ps),.sh (.int (j:Int)),.sh (.int z),.sh (.int (x:Int)),.sh (.lst (nd S)),.sh (.lst (nd S)),.sh (res ps r x),.sh (res ps q x),t9,.sh (.lst (nd (oth ps.length x)))]) ?_ ?_
 ·rw [if_f (b_of (b:=false) ?_)]
  ·rfl
  ·rw [o2_of (x:=res ps u x) (y:=res ps u x) (by
    rw [oA_of (ds:=[.int 2,wd ps,.int (x:Int),.lst []]) (cons_of rfl (cons_of rfl (cons_of rfl (cons_of (nil0 _) rfl))))]
    exact u1) (by rw [oA_of (ds:=[wd ps,.int (x:Int),.lst (nd (oth ps.length x))]) rfl]; exact u2)]
   exact ne_self lu
 exact seq_to (hfin _ _ _) rfl
theorem law_true (ns:List Int) (hl:ns.length ≤ 63):m_law [.lst (ns.map .int)] = some (.bl true):=by
 obtain ⟨ps,hps,hw⟩:=drawn_ok ns hl
 obtain ⟨δ',l1,l2⟩:=forD_inv (f:=gN 2) (G:=LB) (fun i δ=>∃ (ps:List Pt) (s2 s3 s4 s5 s6 s7 s8 s9 s10:Sl),Web ps∧δ = [.sh (.lst (ns.map .int)),.sh (wd ps),s2,s3,s4,s5,s6,s7,s8,s9,s10]) (rngD 0 8) 0 [.sh (.lst (ns.map .int)),.sh (wd ps),.un,.un,.un,.un,.un,.un,.un,.un,.un] (by
  rintro j d δ hj ⟨ps,s2,s3,s4,s5,s6,s7,s8,s9,s10,hw,rfl⟩
  obtain ⟨hj',rfl⟩:=rng_get hj
  obtain ⟨ps',t3,t4,t5,t6,t7,t8,t9,t10,hw',e⟩:=body_ok ns hw j hj' s3 s4 s5 s6 s7 s8 s9 s10
  exact ⟨_,_,rfl,e,ps',_,_,_,_,_,_,_,_,_,hw',rfl⟩) ⟨ps,_,_,_,_,_,_,_,_,_,hw,rfl⟩
 obtain ⟨ps',s2,s3,s4,s5,s6,s7,s8,s9,s10,hw',rfl⟩:=l2
 refine mkF_rt rfl (seq_to (δ':=[.sh (.lst (ns.map .int)),.sh (wd ps),.un,.un,.un,.un,.un,.un,.un,.un,.un]) (set_of ?_) (seq_to (for_of (items:=rngD 0 8) rfl l1) (seq_rt (ret_of rfl))))
 rw [oA_of (ds:=[.lst (ns.map .int),.int 60]) rfl]
 exact hps
end K22
namespace K22
open PySem L2 DL W
noncomputable def top (i:Nat):Stmt:=PySem.Challenge.pw_graphpack_k22_copies_but_for_kept_parts.main.body.getD i (.Pass ⟨0,0,0,0⟩)
theorem b_ValueError:bootBuiltins "ValueError" = some (.type "ValueError"):=by decide +kernel
theorem b_bool:bootBuiltins "bool" = some (.type "bool"):=by decide +kernel
theorem b_dict:bootBuiltins "dict" = some (.type "dict"):=by decide +kernel
theorem b_int:bootBuiltins "int" = some (.type "int"):=by decide +kernel
theorem b_list:bootBuiltins "list" = some (.type "list"):=by decide +kernel
theorem b_tuple:bootBuiltins "tuple" = some (.type "tuple"):=by decide +kernel
theorem b_zip:bootBuiltins "zip" = some (.type "zip"):=by decide +kernel
structure Txt (mg:Str→Option Value):Prop where
 b_ValueError:mg "ValueError" = none
 b_bool:mg "bool" = none
 b_dict:mg "dict" = none
 b_enumerate:mg "enumerate" = none
 b_int:mg "int" = none
 b_isinstance:mg "isinstance" = none
 b_len:mg "len" = none
 b_list:mg "list" = none
 b_range:mg "range" = none
 b_reversed:mg "reversed" = none
 b_tuple:mg "tuple" = none
 b_zip:mg "zip" = none
 c_MOST_PARTS:∃ t,mg "MOST_PARTS" = some (.int 60 t)
section
variable {P:Program} {w:World} {K:W.Frag} {mg:Str→Option Value} {base:Heap}
theorem sc_pair_names:FnScope ["part"] ["part"] (defScope (top 10)):=⟨rfl,rfl,rfl,by decide +kernel,rfl,by decide +kernel,by decide +kernel⟩
set_option maxHeartbeats 0 in
theorem ok_pair_names {fa:Addr} {fd:FuncData} (F:Fun K "pair_names" "pair_names" (top 10) fa fd) (T:Txt mg)  : FnOk P w K mg base CX0 1 fa fd ["part"] (spN K m_pair_names) :=
 okN (k:=0) (G:=G_pair_names) F sc_pair_names (fun cdv A outer s H E hr=>(pssd_cons (psd_if (PWD.pt (pwd_or (ptd_cmp op_eq op2_eq (pd_ix' (pd_var 0) pd_int) pd_str) (pwd_or1 (ptd_cmp op_eq op2_eq (pd_ix' (pd_var 0) pd_int) pd_str))))
   (pssd_cons (psd_retF (pdf_lst pda_nil))
   pssd_nil)
   pssd_nil)
   (pssd_cons (psd_retF (pdf_cmpD (sc:=defScope (top 10)) (N:=["part"]) (N':=["pair"]) (n:=1) (caps:=[]) ⟨rfl,by decide +kernel,by decide +kernel,by decide +kernel,by decide +kernel,rfl,by decide +kernel⟩ (by decide) (pid_tup (pd_ix' (pd_var 0) (pd_neg pd_int))) (fun cl s H ex=>pgd_name 0 (by decide +kernel:(["pair"]:List Str).Nodup)) (fun cl s H ex=>pfd_nil) (fun cl s H ex=>(pd_ix' (pd_var 0) pd_int))))
   pssd_nil))) (fun ds d h=>mkN_ok h)
theorem sc_values:FnScope ["part"] ["part"] (defScope (top 11)):=⟨rfl,rfl,rfl,by decide +kernel,rfl,by decide +kernel,by decide +kernel⟩
set_option maxHeartbeats 0 in
theorem ok_values {fa:Addr} {fd:FuncData} (F:Fun K "values" "values" (top 11) fa fd) (T:Txt mg)  : FnOk P w K mg base CX0 1 fa fd ["part"] (spN K m_values) :=
 okN (k:=0) (G:=G_values) F sc_values (fun cdv A outer s H E hr=>(pssd_cons (psd_if (ptd_cmp op_eq op2_eq (pd_ix' (pd_var 0) pd_int) pd_str)
   (pssd_cons (psd_retF (pdf_lst pda_nil))
   pssd_nil)
   pssd_nil)
   (pssd_cons (psd_if (ptd_cmp op_eq op2_eq (pd_ix' (pd_var 0) pd_int) pd_str)
   (pssd_cons (psd_retF (pdf_list T.b_list b_list (pd_ix' (pd_var 0) pd_int)))
   pssd_nil)
   pssd_nil)
   (pssd_cons (psd_retF (pdf_cmpD (sc:=defScope (top 11)) (N:=["part"]) (N':=["pair"]) (n:=1) (caps:=[]) ⟨rfl,by decide +kernel,by decide +kernel,by decide +kernel,by decide +kernel,rfl,by decide +kernel⟩ (by decide) (pid_tup (pd_ix' (pd_var 0) (pd_neg pd_int))) (fun cl s H ex=>pgd_name 0 (by decide +kernel:(["pair"]:List Str).Nodup)) (fun cl s H ex=>pfd_nil) (fun cl s H ex=>(pd_ix' (pd_var 0) pd_int))))
   pssd_nil)))) (fun ds d h=>mkN_ok h)
theorem sc_with_values:FnScope ["part", "some", "pairs"] ["part", "some"] (defScope (top 12)):=⟨rfl,rfl,rfl,by decide +kernel,rfl,by decide +kernel,by decide +kernel⟩
set_option maxHeartbeats 0 in
theorem ok_with_values {fa:Addr} {fd:FuncData} (F:Fun K "with_values" "with_values" (top 12) fa fd) (T:Txt mg) (C_pair_names:FnN P w K mg base "pair_names" 1 ["part"] m_pair_names):FnOk P w K mg base CX0 2 fa fd ["part", "some"] (spD K m_with_values) :=
 okD (k:=1) (G:=G_with_values) F sc_with_values (fun cdv A outer s H E hr=>(pssd_cons (psd_if (ptd_cmp op_eq op2_eq (pd_ix' (pd_var 0) pd_int) pd_str)
   (pssd_cons (psd_ret (pd_var 0))
   pssd_nil)
   pssd_nil)
   (pssd_cons (psd_if (ptd_cmp op_eq op2_eq (pd_ix' (pd_var 0) pd_int) pd_str)
   (pssd_cons (psd_ret (pd_tup (pda_cons pd_str (pda_cons (pd_callTy call_tuple_of fn_tup T.b_tuple b_tuple (pda_cons (pd_var 1) pda_nil)) pda_nil))))
   pssd_nil)
   pssd_nil)
   (pssd_cons (psd_asg (pd_nestTT call_tuple_zip fn_tupZip T.b_tuple T.b_zip b_tuple b_zip (pda_cons (pd_fnN C_pair_names hr (by decide) (pda_cons (pd_var 0) pda_nil)) (pda_cons (pd_var 1) pda_nil))) (pgd_name 2 sc_with_values.nd))
   (pssd_cons (psd_if (ptd_cmp op_eq op2_eq (pd_ix' (pd_var 0) pd_int) pd_str)
   (pssd_cons (psd_ret (pd_tup (pda_cons pd_str (pda_cons (pd_var 2) pda_nil))))
   pssd_nil)
   pssd_nil)
   (pssd_cons (psd_ret (pd_tup (pda_cons pd_str (pda_cons (pd_ix' (pd_var 0) pd_int) (pda_cons (pd_var 2) pda_nil)))))
   pssd_nil)))))) (fun ds d h=>mkF_ok h)
theorem sc_links:FnScope ["part"] ["part"] (defScope (top 13)):=⟨rfl,rfl,rfl,by decide +kernel,rfl,by decide +kernel,by decide +kernel⟩
set_option maxHeartbeats 0 in
theorem ok_links {fa:Addr} {fd:FuncData} (F:Fun K "links" "links" (top 13) fa fd) (T:Txt mg) (C_values:FnN P w K mg base "values" 1 ["part"] m_values):FnOk P w K mg base CX0 2 fa fd ["part"] (spN K m_links) :=
 okN (k:=1) (G:=G_links) F sc_links (fun cdv A outer s H E hr=>(pssd_cons (psd_retF (pdf_cmpD (sc:=defScope (top 13)) (N:=["part"]) (N':=["value"]) (n:=1) (caps:=[]) ⟨rfl,by decide +kernel,by decide +kernel,by decide +kernel,by decide +kernel,rfl,by decide +kernel⟩ (by decide) (pid_list (pd_fnN C_values hr (by decide) (pda_cons (pd_var 0) pda_nil))) (fun cl s H ex=>pgd_name 0 (by decide +kernel:(["value"]:List Str).Nodup)) (fun cl s H ex=>(pfd_one (ptd_val (pd_isi okT_tuple b_tuple T.b_isinstance T.b_tuple (pd_var 0))))) (fun cl s H ex=>(pd_ix' (pd_var 0) pd_int))))
   pssd_nil)) (fun ds d h=>mkN_ok h)
theorem sc_met_but:FnScope ["web", "k", "left", "order", "seen", "waiting", "part"] ["web", "k", "left"] (defScope (top 14)):=⟨rfl,rfl,rfl,by decide +kernel,rfl,by decide +kernel,by decide +kernel⟩
set_option maxHeartbeats 0 in
theorem ok_met_but {fa:Addr} {fd:FuncData} (F:Fun K "met_but" "met_but" (top 14) fa fd) (T:Txt mg) (C_links:FnN P w K mg base "links" 2 ["part"] m_links):FnOk P w K mg base CX0 3 fa fd ["web", "k", "left"] (spN K m_met_but) :=
 okN (k:=2) (G:=G_met_but) F sc_met_but (fun cdv A outer s H E hr=>(pssd_cons (psd_own 3 (pdf_lst pda_nil) sc_met_but.nd)
   (pssd_cons (psd_own 4 (pdf_dictOf T.b_dict b_dict (pd_var 2)) sc_met_but.nd)
   (pssd_cons (psd_own 5 (pdf_lst (pda_cons (pd_var 1) pda_nil)) sc_met_but.nd)
   (pssd_cons (psd_while 100000 PassesOwn.never (ptd_cmp op_gt op2_gt (pd_bor (pd_len T.b_len (pda_cons (pd_var 5) pda_nil))) pd_int)
   (pssd_cons (psd_asgX (px_pop 5) (ptg_of (pgd_name 6 sc_met_but.nd)))
   (pssd_cons (psd_if (ptd_bor (ptd_dnin (hu_of hr) (pd_var 6) (pd_var 4)))
   (pssd_cons (psd_asgX (px_pure pd_bl) (ptg_put 4 (hu_of hr) (pd_var 6)))
   (pssd_cons (psd_exprX (px_app 3 (pd_var 6)))
   (pssd_cons (psd_exprX (px_ext 5 (PDF.pd (pdf_revL T.b_list T.b_reversed (pd_fnN C_links hr (by decide) (pda_cons (pd_ix' (pd_var 0) (pd_var 6)) pda_nil))))))
   pssd_nil)))
   pssd_nil)
   pssd_nil)))
   (pssd_cons (psd_retO 3)
   pssd_nil)))))) (fun ds d h=>mkN_ok h)
theorem sc_relinked:FnScope ["part", "numbers", "some"] ["part", "numbers"] (defScope (top 15)):=⟨rfl,rfl,rfl,by decide +kernel,rfl,by decide +kernel,by decide +kernel⟩
set_option maxHeartbeats 0 in
theorem ok_relinked {fa:Addr} {fd:FuncData} (F:Fun K "relinked" "relinked" (top 15) fa fd) (T:Txt mg) (C_values:FnN P w K mg base "values" 1 ["part"] m_values) (C_with_values:FnD P w K mg base "with_values" 2 ["part", "some"] m_with_values):FnOk P w K mg base CX0 3 fa fd ["part", "numbers"] (spD K m_relinked) :=
 okD (k:=2) (G:=G_relinked) F sc_relinked (fun cdv A outer s H E hr=>(pssd_cons (psd_cmpD 2 sc_relinked.nd (sc:=defScope (top 15)) (N:=["part", "numbers", "some"]) (N':=["value", "numbers"]) (n:=1) (caps:=[1]) ⟨rfl,by decide +kernel,by decide +kernel,by decide +kernel,by decide +kernel,rfl,by decide +kernel⟩ (by decide) (pid_list (pd_fnN C_values hr (by decide) (pda_cons (pd_var 0) pda_nil))) (fun cl s H ex=>pgd_name 0 (by decide +kernel:(["value", "numbers"]:List Str).Nodup)) (fun cl s H ex=>pfd_nil) (fun cl s H ex=>(pd_if (ptd_val (pd_isi okT_tuple b_tuple T.b_isinstance T.b_tuple (pd_var 0))) (pd_tup (pda_cons pd_str (pda_cons (pd_dget (hu_of hr) (pd_var 1) (pd_ix' (pd_var 0) pd_int)) pda_nil))) (pd_var 0))))
   (pssd_cons (psd_ret (pd_fn C_with_values hr (by decide) (pda_cons (pd_var 0) (pda_cons (pd_var 2) pda_nil))))
   pssd_nil))) (fun ds d h=>mkF_ok h)
theorem sc_copied:FnScope ["web", "k", "kept", "numbers", "order", "number", "part"] ["web", "k", "kept"] (defScope (top 17)):=⟨rfl,rfl,rfl,by decide +kernel,rfl,by decide +kernel,by decide +kernel⟩
set_option maxHeartbeats 0 in
theorem ok_copied {fa:Addr} {fd:FuncData} {dV:Value} (F:FunV K "copied" "copied" (top 17) fa fd dV) (T:Txt mg) {rr:Addr} (XT:XC.Tab K mg "WebError" rr ["NoText", "NoPlace", "NoValue", "TooMany", "NoWay", "NoPack"] ["NoText", "NoPlace", "NoValue", "TooMany"]) (C_met_but:FnN P w K mg base "met_but" 3 ["web", "k", "left"] m_met_but) (C_relinked:FnD P w K mg base "relinked" 3 ["part", "numbers"] m_relinked):FnOk P w K mg base (CXE P w) 4 fa fd ["web", "k", "kept"] (spX K m_copied) :=
 okXV (k:=3) (G:=G_copied) F sc_copied (fun cdv A outer s H E hr=>(pssx_cons (psx_of (psd_own 3 (pdf_dictK (Nat.lt_of_le_of_lt (Nat.add_le_add_left (by decide:2 ≤ 64) _) hr.units) rfl T.b_dict b_dict (pd_cmpD (sc:=defScope (top 17)) (N:=["web", "k", "kept", "numbers", "order", "number", "part"]) (N':=["part"]) (n:=1) (caps:=[]) ⟨rfl,by decide +kernel,by decide +kernel,by decide +kernel,by decide +kernel,rfl,by decide +kernel⟩ (by decide) (pid_list (pd_if (ptd_cmp op_isN op2_isN (pd_var 2) pd_non) (pd_lst pda_nil) (pd_var 2))) (fun cl s H ex=>pgd_name 0 (by decide +kernel:(["part"]:List Str).Nodup)) (fun cl s H ex=>pfd_nil) (fun cl s H ex=>(pd_tup (pda_cons (pd_var 0) (pda_cons (pd_var 0) pda_nil)))))) sc_copied.nd))
   (pssx_cons (psx_of (psd_asg (pdf_borL (pdf_fn C_met_but hr (by decide) (pda_cons (pd_var 0) (pda_cons (pd_var 1) (pda_cons (pd_var 3) pda_nil))))).pd (pgd_name 4 sc_copied.nd)))
   (pssx_cons (psx_if (ptd_cmp op_gt op2_gt (pd_addA (pd_len T.b_len (pda_cons (pd_var 0) pda_nil)) (pd_len T.b_len (pda_cons (pd_var 4) pda_nil))) (pd_gint T.c_MOST_PARTS))
   (pssx_cons (psx_raise XT (by decide) (by decide))
   pssx_nil)
   pssx_nil)
   (pssx_cons (psx_of (psd_for PassesOwn.leaving rfl (pid_enumS T.b_enumerate (pda_cons (pd_var 4) pda_nil) (pd_len T.b_len (pda_cons (pd_var 0) pda_nil))) (pgd_tup2 5 6 sc_copied.nd (by decide))
   (pssd_cons (psd_asgX (px_pure (pd_var 5)) (ptg_put 3 (hu_of hr) (pd_var 6)))
   pssd_nil)))
   (pssx_cons (psx_of (psd_retB (pd_tup (pda_cons (pd_addA (pd_var 0) (pd_callTy call_tuple_of fn_tup T.b_tuple b_tuple (pda_cons (pd_cmpD (sc:=defScope (top 17)) (N:=["web", "k", "kept", "numbers", "order", "number", "part"]) (N':=["part", "web", "numbers"]) (n:=1) (caps:=[0,3]) ⟨rfl,by decide +kernel,by decide +kernel,by decide +kernel,by decide +kernel,rfl,by decide +kernel⟩ (by decide) (pid_list (pd_var 4)) (fun cl s H ex=>pgd_name 0 (by decide +kernel:(["part", "web", "numbers"]:List Str).Nodup)) (fun cl s H ex=>pfd_nil) (fun cl s H ex=>(pd_fn C_relinked hr (by decide) (pda_cons (pd_ix' (pd_var 1) (pd_var 0)) (pda_cons (pd_var 2) pda_nil))))) pda_nil))) (pda_cons (pd_dget (hu_of hr) (pd_var 3) (pd_var 1)) pda_nil)))))
   pssx_nil))))))
theorem sc_shallow:FnScope ["web", "k"] ["web", "k"] (defScope (top 18)):=⟨rfl,rfl,rfl,by decide +kernel,rfl,by decide +kernel,by decide +kernel⟩
set_option maxHeartbeats 0 in
theorem ok_shallow {fa:Addr} {fd:FuncData} (F:Fun K "shallow" "shallow" (top 18) fa fd) (T:Txt mg) (X_copied:FnX P w K mg base "copied" 4 ["web", "k", "kept"] m_copied):FnOk P w K mg base (CXE P w) 5 fa fd ["web", "k"] (spX K m_shallow) :=
 okX (k:=4) (G:=G_shallow) F sc_shallow (fun cdv A outer s H E hr=>(pssx_cons (psx_retC X_copied hr (by decide) (pda_cons (pd_var 0) (pda_cons (pd_var 1) (pda_cons (pd_cmpD (sc:=defScope (top 18)) (N:=["web", "k"]) (N':=["part", "k"]) (n:=1) (caps:=[1]) ⟨rfl,by decide +kernel,by decide +kernel,by decide +kernel,by decide +kernel,rfl,by decide +kernel⟩ (by decide) (pid_range1 T.b_range (pda_cons (pd_len T.b_len (pda_cons (pd_var 0) pda_nil)) pda_nil)) (fun cl s H ex=>pgd_name 0 (by decide +kernel:(["part", "k"]:List Str).Nodup)) (fun cl s H ex=>(pfd_one (ptd_cmp op_ne op2_ne (pd_var 0) (pd_var 1)))) (fun cl s H ex=>(pd_var 0))) pda_nil))))
   pssx_nil))
theorem sc__law_cell_at:FnScope ["_law_script", "_law_k"] ["_law_script", "_law_k"] (defScope (top 20)):=⟨rfl,rfl,rfl,by decide +kernel,rfl,by decide +kernel,by decide +kernel⟩
set_option maxHeartbeats 0 in
theorem ok__law_cell_at {fa:Addr} {fd:FuncData} (F:Fun K "_law_cell_at" "_law_cell_at" (top 20) fa fd) (T:Txt mg)  : FnOk P w K mg base CX0 1 fa fd ["_law_script", "_law_k"] (spD K m__law_cell_at) :=
 okD (k:=0) (G:=G__law_cell_at) F sc__law_cell_at (fun cdv A outer s H E hr=>(pssd_cons (psd_if (ptd_cmp op_lt op2_lt (pd_var 1) (pd_len T.b_len (pda_cons (pd_var 0) pda_nil)))
   (pssd_cons (psd_ret (pd_ix' (pd_var 0) (pd_var 1)))
   pssd_nil)
   pssd_nil)
   (pssd_cons (psd_ret pd_int)
   pssd_nil))) (fun ds d h=>mkF_ok h)
theorem sc__law_pool:FnScope ["_law_cell", "_law_turn", "_law_signs", "_law_size", "_law_places", "_law_k", "_law_word", "_law_at", "_law_found", "_law_sign"] ["_law_cell", "_law_turn"] (defScope (top 21)):=⟨rfl,rfl,rfl,by decide +kernel,rfl,by decide +kernel,by decide +kernel⟩
set_option maxHeartbeats 0 in
theorem ok__law_pool {fa:Addr} {fd:FuncData} (F:Fun K "_law_pool" "_law_pool" (top 21) fa fd) (T:Txt mg)  : FnOk P w K mg base CX0 1 fa fd ["_law_cell", "_law_turn"] (spN K m__law_pool) :=
 okN (k:=0) (G:=G__law_pool) F sc__law_pool (fun cdv A outer s H E hr=>(pssd_cons (psd_asg pd_str (pgd_name 2 sc__law_pool.nd))
   (pssd_cons (psd_asg (pd_addA pd_int (pd_mod (pd_var 0) pd_int)) (pgd_name 3 sc__law_pool.nd))
   (pssd_cons (psd_asg (pd_fdiv (pd_var 0) pd_int) (pgd_name 0 sc__law_pool.nd))
   (pssd_cons (psd_own 4 (pdf_lst pda_nil) sc__law_pool.nd)
   (pssd_cons (psd_for PassesOwn.never rfl (pid_range1 T.b_range (pda_cons (pd_var 3) pda_nil)) (pgd_name 5 sc__law_pool.nd)
   (pssd_cons (psd_exprX (px_app 4 (pd_mod (pd_var 0) pd_int)))
   (pssd_cons (psd_asg (pd_fdiv (pd_var 0) pd_int) (pgd_name 0 sc__law_pool.nd))
   pssd_nil)))
   (pssd_cons (psd_asg (pd_bor (pd_join pd_str (pda_cons (pd_cmpD (sc:=defScope (top 21)) (N:=["_law_cell", "_law_turn", "_law_signs", "_law_size", "_law_places", "_law_k", "_law_word", "_law_at", "_law_found", "_law_sign"]) (N':=["_law_k", "_law_signs"]) (n:=1) (caps:=[2]) ⟨rfl,by decide +kernel,by decide +kernel,by decide +kernel,by decide +kernel,rfl,by decide +kernel⟩ (by decide) (pid_list (pd_var 4)) (fun cl s H ex=>pgd_name 0 (by decide +kernel:(["_law_k", "_law_signs"]:List Str).Nodup)) (fun cl s H ex=>pfd_nil) (fun cl s H ex=>(pd_ix' (pd_var 1) (pd_var 0)))) pda_nil))) (pgd_name 6 sc__law_pool.nd))
   (pssd_cons (psd_if (ptd_cmp op_eq op2_eq (pd_mod (pd_fdiv (pd_var 1) pd_int) pd_int) pd_int)
   (pssd_cons (psd_retF (pdf_cmpD (sc:=defScope (top 21)) (N:=["_law_cell", "_law_turn", "_law_signs", "_law_size", "_law_places", "_law_k", "_law_word", "_law_at", "_law_found", "_law_sign"]) (N':=["_law_k", "_law_word"]) (n:=1) (caps:=[6]) ⟨rfl,by decide +kernel,by decide +kernel,by decide +kernel,by decide +kernel,rfl,by decide +kernel⟩ (by decide) (pid_range2 T.b_range (pda_cons pd_int (pda_cons pd_int pda_nil))) (fun cl s H ex=>pgd_name 0 (by decide +kernel:(["_law_k", "_law_word"]:List Str).Nodup)) (fun cl s H ex=>pfd_nil) (fun cl s H ex=>(pd_sliceA (pd_mulI pd_int (pd_var 1)) pdo_none (pdo_some (pd_var 0))))))
   pssd_nil)
   pssd_nil)
   (pssd_cons (psd_asg (pd_mod (pd_var 1) (pd_var 3)) (pgd_name 7 sc__law_pool.nd))
   (pssd_cons (psd_own 8 (pdf_lst pda_nil) sc__law_pool.nd)
   (pssd_cons (psd_for PassesOwn.never rfl (pid_range1 T.b_range (pda_cons pd_int pda_nil)) (pgd_name 5 sc__law_pool.nd)
   (pssd_cons (psd_asg (pd_ix' (pd_var 2) (pd_mod (pd_addA (pd_bor (pd_ix' (pd_var 4) (pd_var 7))) (pd_mulA pd_int (pd_var 5))) pd_int)) (pgd_name 9 sc__law_pool.nd))
   (pssd_cons (psd_exprX (px_app 8 (pd_addA (pd_addA (pd_sliceA (pd_var 6) pdo_none (pdo_some (pd_var 7))) (pd_var 9)) (pd_sliceA (pd_var 6) (pdo_some (pd_addA (pd_var 7) pd_int)) pdo_none))))
   pssd_nil)))
   (pssd_cons (psd_retO 8)
   pssd_nil)))))))))))) (fun ds d h=>mkN_ok h)
theorem sc__law_mix:FnScope ["_law_cell", "_law_k"] ["_law_cell", "_law_k"] (defScope (top 22)):=⟨rfl,rfl,rfl,by decide +kernel,rfl,by decide +kernel,by decide +kernel⟩
set_option maxHeartbeats 0 in
theorem ok__law_mix {fa:Addr} {fd:FuncData} (F:Fun K "_law_mix" "_law_mix" (top 22) fa fd) (T:Txt mg)  : FnOk P w K mg base CX0 1 fa fd ["_law_cell", "_law_k"] (spD K m__law_mix) :=
 okD (k:=0) (G:=G__law_mix) F sc__law_mix (fun cdv A outer s H E hr=>(pssd_cons (psd_ret (pd_mod (pd_mulA (pd_addA (pd_mod (pd_var 0) pd_int) pd_int) (pd_addA pd_int (pd_mulA pd_int (pd_var 1)))) pd_int))
   pssd_nil)) (fun ds d h=>mkF_ok h)
theorem sc__law_value:FnScope ["_law_number", "_law_many", "_law_kind"] ["_law_number", "_law_many"] (defScope (top 23)):=⟨rfl,rfl,rfl,by decide +kernel,rfl,by decide +kernel,by decide +kernel⟩
set_option maxHeartbeats 0 in
theorem ok__law_value {fa:Addr} {fd:FuncData} (F:Fun K "_law_value" "_law_value" (top 23) fa fd) (T:Txt mg)  : FnOk P w K mg base CX0 1 fa fd ["_law_number", "_law_many"] (spD K m__law_value) :=
 okD (k:=0) (G:=G__law_value) F sc__law_value (fun cdv A outer s H E hr=>(pssd_cons (psd_asg (pd_mod (pd_var 0) pd_int) (pgd_name 2 sc__law_value.nd))
   (pssd_cons (psd_if (ptd_cmp op_lt op2_lt (pd_var 2) pd_int)
   (pssd_cons (psd_ret (pd_tup (pda_cons pd_str (pda_cons (pd_mod (pd_fdiv (pd_var 0) pd_int) (pd_var 1)) pda_nil))))
   pssd_nil)
   pssd_nil)
   (pssd_cons (psd_if (ptd_cmp op_eq op2_eq (pd_var 2) pd_int)
   (pssd_cons (psd_ret pd_non)
   pssd_nil)
   pssd_nil)
   (pssd_cons (psd_if (ptd_cmp op_lt op2_lt (pd_var 2) pd_int)
   (pssd_cons (psd_ret (pd_sub (pd_mod (pd_fdiv (pd_var 0) pd_int) pd_int) pd_int))
   pssd_nil)
   pssd_nil)
   (pssd_cons (psd_ret (pd_mulA (pd_mod (pd_pow (pd_fdiv (pd_var 0) pd_int) pd_int) (pd_pow pd_int pd_int)) (pd_sub pd_int (pd_mulA pd_int (pd_mod (pd_fdiv (pd_var 0) pd_int) pd_int)))))
   pssd_nil)))))) (fun ds d h=>mkF_ok h)
theorem sc__law_values:FnScope ["_law_number", "_law_count", "_law_many", "_law_found", "_law_k"] ["_law_number", "_law_count", "_law_many"] (defScope (top 24)):=⟨rfl,rfl,rfl,by decide +kernel,rfl,by decide +kernel,by decide +kernel⟩
set_option maxHeartbeats 0 in
theorem ok__law_values {fa:Addr} {fd:FuncData} (F:Fun K "_law_values" "_law_values" (top 24) fa fd) (T:Txt mg) (C__law_value:FnD P w K mg base "_law_value" 1 ["_law_number", "_law_many"] m__law_value):FnOk P w K mg base CX0 2 fa fd ["_law_number", "_law_count", "_law_many"] (spN K m__law_values) :=
 okN (k:=1) (G:=G__law_values) F sc__law_values (fun cdv A outer s H E hr=>(pssd_cons (psd_own 3 (pdf_lst pda_nil) sc__law_values.nd)
   (pssd_cons (psd_for PassesOwn.never rfl (pid_range1 T.b_range (pda_cons (pd_var 1) pda_nil)) (pgd_name 4 sc__law_values.nd)
   (pssd_cons (psd_asg (pd_mod (pd_mulA (pd_var 0) pd_int) pd_int) (pgd_name 0 sc__law_values.nd))
   (pssd_cons (psd_exprX (px_app 3 (pd_fn C__law_value hr (by decide) (pda_cons (pd_var 0) (pda_cons (pd_var 2) pda_nil)))))
   pssd_nil)))
   (pssd_cons (psd_retO 3)
   pssd_nil)))) (fun ds d h=>mkN_ok h)
theorem sc__law_part:FnScope ["_law_number", "_law_some", "_law_pool_here", "_law_kind", "_law_start", "_law_pairs"] ["_law_number", "_law_some", "_law_pool_here"] (defScope (top 25)):=⟨rfl,rfl,rfl,by decide +kernel,rfl,by decide +kernel,by decide +kernel⟩
set_option maxHeartbeats 0 in
theorem ok__law_part {fa:Addr} {fd:FuncData} (F:Fun K "_law_part" "_law_part" (top 25) fa fd) (T:Txt mg)  : FnOk P w K mg base CX0 1 fa fd ["_law_number", "_law_some", "_law_pool_here"] (spD K m__law_part) :=
 okD (k:=0) (G:=G__law_part) F sc__law_part (fun cdv A outer s H E hr=>(pssd_cons (psd_asg (pd_mod (pd_var 0) pd_int) (pgd_name 3 sc__law_part.nd))
   (pssd_cons (psd_if (ptd_cmp op_eq op2_eq (pd_var 3) pd_int)
   (pssd_cons (psd_ret (pd_tup (pda_cons pd_str (pda_cons (pd_ix' (pd_lst (pda_cons pd_str (pda_cons pd_str (pda_cons pd_str (pda_cons (pd_addA (pd_ix' (pd_var 2) pd_int) pd_str) pda_nil))))) (pd_mod (pd_fdiv (pd_var 0) pd_int) pd_int)) pda_nil))))
   pssd_nil)
   pssd_nil)
   (pssd_cons (psd_if (ptd_cmp op_lt op2_lt (pd_var 3) pd_int)
   (pssd_cons (psd_ret (pd_tup (pda_cons pd_str (pda_cons (pd_callTy call_tuple_of fn_tup T.b_tuple b_tuple (pda_cons (pd_var 1) pda_nil)) pda_nil))))
   pssd_nil)
   pssd_nil)
   (pssd_cons (psd_asg (pd_mulA (pd_mod (pd_fdiv (pd_var 0) pd_int) pd_int) pd_int) (pgd_name 4 sc__law_part.nd))
   (pssd_cons (psd_asg (pd_callTy call_tuple_of fn_tup T.b_tuple b_tuple (pda_cons (pd_cmpD (sc:=defScope (top 25)) (N:=["_law_number", "_law_some", "_law_pool_here", "_law_kind", "_law_start", "_law_pairs"]) (N':=["_law_k", "_law_some", "_law_pool_here", "_law_start"]) (n:=1) (caps:=[1,2,4]) ⟨rfl,by decide +kernel,by decide +kernel,by decide +kernel,by decide +kernel,rfl,by decide +kernel⟩ (by decide) (pid_range1 T.b_range (pda_cons (pd_len T.b_len (pda_cons (pd_var 1) pda_nil)) pda_nil)) (fun cl s H ex=>pgd_name 0 (by decide +kernel:(["_law_k", "_law_some", "_law_pool_here", "_law_start"]:List Str).Nodup)) (fun cl s H ex=>pfd_nil) (fun cl s H ex=>(pd_tup (pda_cons (pd_ix' (pd_var 2) (pd_mod (pd_addA (pd_var 3) (pd_var 0)) pd_int)) (pda_cons (pd_ix' (pd_var 1) (pd_var 0)) pda_nil))))) pda_nil)) (pgd_name 5 sc__law_part.nd))
   (pssd_cons (psd_if (ptd_cmp op_lt op2_lt (pd_var 3) pd_int)
   (pssd_cons (psd_ret (pd_tup (pda_cons pd_str (pda_cons (pd_var 5) pda_nil))))
   pssd_nil)
   pssd_nil)
   (pssd_cons (psd_ret (pd_tup (pda_cons pd_str (pda_cons (pd_ix' (pd_var 2) (pd_mod (pd_fdiv (pd_var 0) pd_int) pd_int)) (pda_cons (pd_var 5) pda_nil)))))
   pssd_nil)))))))) (fun ds d h=>mkF_ok h)
theorem sc__law_web:FnScope ["_law_cells", "_law_many", "_law_pool_here", "_law_parts", "_law_k", "_law_number", "_law_count", "_law_some"] ["_law_cells", "_law_many", "_law_pool_here"] (defScope (top 26)):=⟨rfl,rfl,rfl,by decide +kernel,rfl,by decide +kernel,by decide +kernel⟩
set_option maxHeartbeats 0 in
theorem ok__law_web {fa:Addr} {fd:FuncData} (F:Fun K "_law_web" "_law_web" (top 26) fa fd) (T:Txt mg) (C__law_mix:FnD P w K mg base "_law_mix" 1 ["_law_cell", "_law_k"] m__law_mix) (C__law_part:FnD P w K mg base "_law_part" 1 ["_law_number", "_law_some", "_law_pool_here"] m__law_part) (C__law_values:FnN P w K mg base "_law_values" 2 ["_law_number", "_law_count", "_law_many"] m__law_values):FnOk P w K mg base CX0 3 fa fd ["_law_cells", "_law_many", "_law_pool_here"] (spD K m__law_web) :=
 okD (k:=2) (G:=G__law_web) F sc__law_web (fun cdv A outer s H E hr=>(pssd_cons (psd_own 3 (pdf_lst pda_nil) sc__law_web.nd)
   (pssd_cons (psd_for PassesOwn.never rfl (pid_range1 T.b_range (pda_cons (pd_var 1) pda_nil)) (pgd_name 4 sc__law_web.nd)
   (pssd_cons (psd_asg (pd_fn C__law_mix hr (by decide) (pda_cons (pd_addA (pd_ix' (pd_var 0) (pd_mod (pd_var 4) (pd_len T.b_len (pda_cons (pd_var 0) pda_nil)))) (pd_mulA (pd_var 4) (pd_fdiv (pd_var 4) (pd_len T.b_len (pda_cons (pd_var 0) pda_nil))))) (pda_cons (pd_var 4) pda_nil))) (pgd_name 5 sc__law_web.nd))
   (pssd_cons (psd_asg (pd_ix' (pd_lst (pda_cons pd_int (pda_cons pd_int (pda_cons pd_int (pda_cons pd_int (pda_cons pd_int (pda_cons pd_int (pda_cons pd_int (pda_cons pd_int pda_nil))))))))) (pd_mod (pd_fdiv (pd_var 5) pd_int) pd_int)) (pgd_name 6 sc__law_web.nd))
   (pssd_cons (psd_if (ptd_cmp op_eq op2_eq (pd_mod (pd_fdiv (pd_var 5) pd_int) pd_int) pd_int)
   (pssd_cons (psd_asg (pd_ix' (pd_lst (pda_cons pd_int (pda_cons pd_int pda_nil))) (pd_callTy call_int1 fn_int T.b_int b_int (pda_cons (pd_cmp op_lt op2_lt (pd_mod (pd_var 5) pd_int) pd_int) pda_nil))) (pgd_name 6 sc__law_web.nd))
   pssd_nil)
   pssd_nil)
   (pssd_cons (psd_asg (pd_fnN C__law_values hr (by decide) (pda_cons (pd_addA (pd_fdiv (pd_var 5) pd_int) pd_int) (pda_cons (pd_var 6) (pda_cons (pd_var 1) pda_nil)))) (pgd_name 7 sc__law_web.nd))
   (pssd_cons (psd_exprX (px_app 3 (pd_fn C__law_part hr (by decide) (pda_cons (pd_var 5) (pda_cons (pd_var 7) (pda_cons (pd_var 2) pda_nil))))))
   pssd_nil))))))
   (pssd_cons (psd_retB (pd_callTy call_tuple_of fn_tup T.b_tuple b_tuple (pda_cons (pd_var 3) pda_nil)))
   pssd_nil)))) (fun ds d h=>mkF_ok h)
theorem sc__law_vals:FnScope ["_law_part_here"] ["_law_part_here"] (defScope (top 27)):=⟨rfl,rfl,rfl,by decide +kernel,rfl,by decide +kernel,by decide +kernel⟩
set_option maxHeartbeats 0 in
theorem ok__law_vals {fa:Addr} {fd:FuncData} (F:Fun K "_law_vals" "_law_vals" (top 27) fa fd) (T:Txt mg)  : FnOk P w K mg base CX0 1 fa fd ["_law_part_here"] (spN K m__law_vals) :=
 okN (k:=0) (G:=G__law_vals) F sc__law_vals (fun cdv A outer s H E hr=>(pssd_cons (psd_if (ptd_cmp op_eq op2_eq (pd_ix' (pd_var 0) pd_int) pd_str)
   (pssd_cons (psd_retF (pdf_lst pda_nil))
   pssd_nil)
   pssd_nil)
   (pssd_cons (psd_if (ptd_cmp op_eq op2_eq (pd_ix' (pd_var 0) pd_int) pd_str)
   (pssd_cons (psd_retF (pdf_list T.b_list b_list (pd_ix' (pd_var 0) pd_int)))
   pssd_nil)
   pssd_nil)
   (pssd_cons (psd_retF (pdf_cmpD (sc:=defScope (top 27)) (N:=["_law_part_here"]) (N':=["_law_name", "_law_value_here"]) (n:=2) (caps:=[]) ⟨rfl,by decide +kernel,by decide +kernel,by decide +kernel,by decide +kernel,rfl,by decide +kernel⟩ (by decide) (pid_tup (pd_ix' (pd_var 0) (pd_neg pd_int))) (fun cl s H ex=>pgd_tup2 0 1 (by decide +kernel:(["_law_name", "_law_value_here"]:List Str).Nodup) (by decide)) (fun cl s H ex=>pfd_nil) (fun cl s H ex=>(pd_var 1))))
   pssd_nil)))) (fun ds d h=>mkN_ok h)
theorem sc__law_with:FnScope ["_law_part_here", "_law_some"] ["_law_part_here", "_law_some"] (defScope (top 29)):=⟨rfl,rfl,rfl,by decide +kernel,rfl,by decide +kernel,by decide +kernel⟩
set_option maxHeartbeats 0 in
theorem ok__law_with {fa:Addr} {fd:FuncData} (F:Fun K "_law_with" "_law_with" (top 29) fa fd) (T:Txt mg)  : FnOk P w K mg base CX0 1 fa fd ["_law_part_here", "_law_some"] (spD K m__law_with) :=
 okD (k:=0) (G:=G__law_with) F sc__law_with (fun cdv A outer s H E hr=>(pssd_cons (psd_if (ptd_cmp op_eq op2_eq (pd_ix' (pd_var 0) pd_int) pd_str)
   (pssd_cons (psd_ret (pd_var 0))
   pssd_nil)
   pssd_nil)
   (pssd_cons (psd_if (ptd_cmp op_eq op2_eq (pd_ix' (pd_var 0) pd_int) pd_str)
   (pssd_cons (psd_ret (pd_tup (pda_cons pd_str (pda_cons (pd_callTy call_tuple_of fn_tup T.b_tuple b_tuple (pda_cons (pd_var 1) pda_nil)) pda_nil))))
   pssd_nil)
   pssd_nil)
   (pssd_cons (psd_ret (pd_addA (pd_sliceA (pd_var 0) pdo_none (pdo_some (pd_neg pd_int))) (pd_tup (pda_cons (pd_callTy call_tuple_of fn_tup T.b_tuple b_tuple (pda_cons (pd_cmpD (sc:=defScope (top 29)) (N:=["_law_part_here", "_law_some"]) (N':=["_law_k", "_law_part_here", "_law_some"]) (n:=1) (caps:=[0,1]) ⟨rfl,by decide +kernel,by decide +kernel,by decide +kernel,by decide +kernel,rfl,by decide +kernel⟩ (by decide) (pid_range1 T.b_range (pda_cons (pd_len T.b_len (pda_cons (pd_var 1) pda_nil)) pda_nil)) (fun cl s H ex=>pgd_name 0 (by decide +kernel:(["_law_k", "_law_part_here", "_law_some"]:List Str).Nodup)) (fun cl s H ex=>pfd_nil) (fun cl s H ex=>(pd_tup (pda_cons (pd_ix' (pd_ix' (pd_ix' (pd_var 1) (pd_neg pd_int)) (pd_var 0)) pd_int) (pda_cons (pd_ix' (pd_var 2) (pd_var 0)) pda_nil))))) pda_nil)) pda_nil))))
   pssd_nil)))) (fun ds d h=>mkF_ok h)
theorem sc__law_led:FnScope ["_law_part_here", "_law_numbers", "_law_some", "_law_value_here"] ["_law_part_here", "_law_numbers"] (defScope (top 30)):=⟨rfl,rfl,rfl,by decide +kernel,rfl,by decide +kernel,by decide +kernel⟩
set_option maxHeartbeats 0 in
theorem ok__law_led {fa:Addr} {fd:FuncData} (F:Fun K "_law_led" "_law_led" (top 30) fa fd) (T:Txt mg) (C__law_vals:FnN P w K mg base "_law_vals" 1 ["_law_part_here"] m__law_vals) (C__law_with:FnD P w K mg base "_law_with" 1 ["_law_part_here", "_law_some"] m__law_with):FnOk P w K mg base CX0 2 fa fd ["_law_part_here", "_law_numbers"] (spD K m__law_led) :=
 okD (k:=1) (G:=G__law_led) F sc__law_led (fun cdv A outer s H E hr=>(pssd_cons (psd_own 2 (pdf_lst pda_nil) sc__law_led.nd)
   (pssd_cons (psd_for PassesOwn.never rfl (pid_list (pd_fnN C__law_vals hr (by decide) (pda_cons (pd_var 0) pda_nil))) (pgd_name 3 sc__law_led.nd)
   (pssd_cons (psd_if (ptd_val (pd_isi okT_tuple b_tuple T.b_isinstance T.b_tuple (pd_var 3)))
   (pssd_cons (psd_asg (pd_tup (pda_cons pd_str (pda_cons (pd_ix' (pd_var 1) (pd_ix' (pd_var 3) pd_int)) pda_nil))) (pgd_name 3 sc__law_led.nd))
   pssd_nil)
   pssd_nil)
   (pssd_cons (psd_exprX (px_app 2 (pd_var 3)))
   pssd_nil)))
   (pssd_cons (psd_retB (pd_fn C__law_with hr (by decide) (pda_cons (pd_var 0) (pda_cons (pd_var 2) pda_nil))))
   pssd_nil)))) (fun ds d h=>mkF_ok h)
theorem sc__law_drawn_web:FnScope ["_law_script", "_law_most", "_law_pool_here", "_law_turn", "_law_many"] ["_law_script", "_law_most"] (defScope (top 31)):=⟨rfl,rfl,rfl,by decide +kernel,rfl,by decide +kernel,by decide +kernel⟩
set_option maxHeartbeats 0 in
theorem ok__law_drawn_web {fa:Addr} {fd:FuncData} (F:Fun K "_law_drawn_web" "_law_drawn_web" (top 31) fa fd) (T:Txt mg) (C__law_cell_at:FnD P w K mg base "_law_cell_at" 1 ["_law_script", "_law_k"] m__law_cell_at) (C__law_pool:FnN P w K mg base "_law_pool" 1 ["_law_cell", "_law_turn"] m__law_pool) (C__law_web:FnD P w K mg base "_law_web" 3 ["_law_cells", "_law_many", "_law_pool_here"] m__law_web):FnOk P w K mg base CX0 4 fa fd ["_law_script", "_law_most"] (spD K m__law_drawn_web) :=
 okD (k:=3) (G:=G__law_drawn_web) F sc__law_drawn_web (fun cdv A outer s H E hr=>(pssd_cons (psd_asg (pd_fnN C__law_pool hr (by decide) (pda_cons (pd_fn C__law_cell_at hr (by decide) (pda_cons (pd_var 0) (pda_cons pd_int pda_nil))) (pda_cons (pd_fn C__law_cell_at hr (by decide) (pda_cons (pd_var 0) (pda_cons pd_int pda_nil))) pda_nil))) (pgd_name 2 sc__law_drawn_web.nd))
   (pssd_cons (psd_asg (pd_fn C__law_cell_at hr (by decide) (pda_cons (pd_var 0) (pda_cons pd_int pda_nil))) (pgd_name 3 sc__law_drawn_web.nd))
   (pssd_cons (psd_asg (pd_addA pd_int (pd_mod (pd_var 3) (pd_ix' (pd_lst (pda_cons pd_int (pda_cons pd_int (pda_cons (pd_var 1) (pda_cons pd_int pda_nil))))) (pd_mod (pd_fdiv (pd_var 3) pd_int) pd_int)))) (pgd_name 4 sc__law_drawn_web.nd))
   (pssd_cons (psd_ret (pd_fn C__law_web hr (by decide) (pda_cons (pd_addA (pd_sliceA (pd_var 0) (pdo_some pd_int) (pdo_some pd_int)) (pd_lst (pda_cons (pd_fn C__law_cell_at hr (by decide) (pda_cons (pd_var 0) (pda_cons pd_int pda_nil))) pda_nil))) (pda_cons (pd_var 4) (pda_cons (pd_var 2) pda_nil)))))
   pssd_nil))))) (fun ds d h=>mkF_ok h)
theorem sc__law_met_in:FnScope ["_law_web_here", "_law_k", "_law_kept_here", "_law_found", "_law_value_here"] ["_law_web_here", "_law_k", "_law_kept_here", "_law_found"] (defScope (top 33)):=⟨rfl,rfl,rfl,by decide +kernel,rfl,by decide +kernel,by decide +kernel⟩
set_option maxHeartbeats 0 in
theorem ok__law_met_in {fa:Addr} {fd:FuncData} (F:Fun K "_law_met_in" "_law_met_in" (top 33) fa fd) (T:Txt mg) (mp mq:List D→Option (List D)) (kk:Nat) (hkk:1 ≤ kk) (C__law_met_in:FnM P w K mg base "_law_met_in" kk ["_law_web_here", "_law_k", "_law_kept_here", "_law_found"] true mp) (C__law_vals:FnN P w K mg base "_law_vals" 1 ["_law_part_here"] m__law_vals)
  (hf:∀ ds l l',mq (ds ++ [.lst l]) = some l'→(ds ++ [D.lst l]).length = 4∧∀ p,(true = true∧GR__law_met_in mp (dStartM N__law_met_in ds p l) = some (.rf (lent p l'))) ∨ (true = false∧∃ δ',GR__law_met_in mp (dStartM N__law_met_in ds p l) = some (.nx δ')∧δ'[ds.length]? = some (.ow (lent p l')))):FnOk P w K mg base CX0 (kk + 1) fa fd ["_law_web_here", "_law_k", "_law_kept_here", "_law_found"] (spM K true mq) :=
 okM (k:=kk) (G:=GR__law_met_in mp) F sc__law_met_in (fun cdv A outer s H E hr=>(pssd_cons (psd_if (PWD.pt (pwd_and (ptd_bor (ptd_cmp op_notIn_seq (op2_inSeq true) (pd_var 1) (pd_var 3))) (pwd_and1 (ptd_cmp op_notIn_seq (op2_inSeq true) (pd_var 1) (pd_var 2)))))
   (pssd_cons (psd_exprX (px_appL 3 (pd_var 1)))
   (pssd_cons (psd_for PassesOwn.never rfl (pid_list (pd_fnN C__law_vals hr (Nat.le_trans (by decide:1 ≤ 1) hkk) (pda_cons (pd_ix' (pd_var 0) (pd_var 1)) pda_nil))) (pgd_name 4 sc__law_met_in.nd)
   (pssd_cons (psd_if (ptd_val (pd_isi okT_tuple b_tuple T.b_isinstance T.b_tuple (pd_var 4)))
   (pssd_cons (psd_callM 3 C__law_met_in hr (Nat.le_refl _) (pam_cons (pd_var 0) (pam_cons (pd_ix' (pd_var 4) pd_int) (pam_cons (pd_var 2) (pam_own 3)))))
   pssd_nil)
   pssd_nil)
   pssd_nil))
   pssd_nil))
   pssd_nil)
   (pssd_cons (psd_retO 3)
   pssd_nil))) hf
theorem sc__law_due:FnScope ["_law_web_here", "_law_k", "_law_kept_here", "_law_some", "_law_numbers", "_law_at"] ["_law_web_here", "_law_k", "_law_kept_here"] (defScope (top 34)):=⟨rfl,rfl,rfl,by decide +kernel,rfl,by decide +kernel,by decide +kernel⟩
set_option maxHeartbeats 0 in
theorem ok__law_due {fa:Addr} {fd:FuncData} (F:Fun K "_law_due" "_law_due" (top 34) fa fd) (T:Txt mg) (C__law_led:FnD P w K mg base "_law_led" 2 ["_law_part_here", "_law_numbers"] m__law_led) (C__law_met_in:FnM P w K mg base "_law_met_in" 63 ["_law_web_here", "_law_k", "_law_kept_here", "_law_found"] true m__law_met_in):FnOk P w K mg base CX0 64 fa fd ["_law_web_here", "_law_k", "_law_kept_here"] (spD K m__law_due) :=
 okD (k:=63) (G:=G__law_due) F sc__law_due (fun cdv A outer s H E hr=>(pssd_cons (psd_if (ptd_cmp op_in_seq (op2_inSeq false) (pd_var 1) (pd_var 2))
   (pssd_cons (psd_ret (pd_tup (pda_cons (pd_var 0) (pda_cons (pd_var 1) pda_nil))))
   pssd_nil)
   pssd_nil)
   (pssd_cons (psd_asg (pd_newM C__law_met_in hr (by decide) (pan_cons (pd_var 0) (pan_cons (pd_var 1) (pan_cons (pd_var 2) (pan_new (pdf_lst pda_nil)))))) (pgd_name 3 sc__law_due.nd))
   (pssd_cons (psd_if (ptd_cmp op_gt op2_gt (pd_addA (pd_len T.b_len (pda_cons (pd_var 0) pda_nil)) (pd_len T.b_len (pda_cons (pd_var 3) pda_nil))) pd_int)
   (pssd_cons (psd_ret pd_str)
   pssd_nil)
   pssd_nil)
   (pssd_cons (psd_own 4 (pdf_lrange T.b_list T.b_range (pda_cons (pd_len T.b_len (pda_cons (pd_var 0) pda_nil)) pda_nil)) sc__law_due.nd)
   (pssd_cons (psd_for PassesOwn.never rfl (pid_range1 T.b_range (pda_cons (pd_len T.b_len (pda_cons (pd_var 3) pda_nil)) pda_nil)) (pgd_name 5 sc__law_due.nd)
   (pssd_cons (psd_asgX (px_pure (pd_addA (pd_len T.b_len (pda_cons (pd_var 0) pda_nil)) (pd_var 5))) (ptg_set 4 (pd_ix' (pd_var 3) (pd_var 5))))
   pssd_nil))
   (pssd_cons (psd_retB (pd_tup (pda_cons (pd_addA (pd_var 0) (pd_callTy call_tuple_of fn_tup T.b_tuple b_tuple (pda_cons (pd_cmpD (sc:=defScope (top 34)) (N:=["_law_web_here", "_law_k", "_law_kept_here", "_law_some", "_law_numbers", "_law_at"]) (N':=["_law_j", "_law_web_here", "_law_numbers"]) (n:=1) (caps:=[0,4]) ⟨rfl,by decide +kernel,by decide +kernel,by decide +kernel,by decide +kernel,rfl,by decide +kernel⟩ (by decide) (pid_list (pd_var 3)) (fun cl s H ex=>pgd_name 0 (by decide +kernel:(["_law_j", "_law_web_here", "_law_numbers"]:List Str).Nodup)) (fun cl s H ex=>pfd_nil) (fun cl s H ex=>(pd_fn C__law_led hr (by decide) (pda_cons (pd_ix' (pd_var 1) (pd_var 0)) (pda_cons (pd_var 2) pda_nil))))) pda_nil))) (pda_cons (pd_len T.b_len (pda_cons (pd_var 0) pda_nil)) pda_nil))))
   pssd_nil))))))) (fun ds d h=>mkF_ok h)
theorem sc__law_told:FnScope ["_law_which", "_law_web_here", "_law_k", "_law_kept_here", "_law_found", "_law_word", "e"] ["_law_which", "_law_web_here", "_law_k", "_law_kept_here"] (defScope (top 35)):=⟨rfl,rfl,rfl,by decide +kernel,rfl,by decide +kernel,by decide +kernel⟩
set_option maxHeartbeats 0 in
theorem ok__law_told {fa:Addr} {fd:FuncData} (F:Fun K "_law_told" "_law_told" (top 35) fa fd) (T:Txt mg) {rr:Addr} (XT:XC.Tab K mg "WebError" rr ["NoText", "NoPlace", "NoValue", "TooMany", "NoWay", "NoPack"] ["NoText", "NoPlace", "NoValue", "TooMany"]) (X_copied:FnX P w K mg base "copied" 4 ["web", "k", "kept"] m_copied) (X_shallow:FnX P w K mg base "shallow" 5 ["web", "k"] m_shallow) (Xd_copied:FnXd P w K mg base "copied" 4 ["web", "k", "kept"] m_copied [.non]):FnOk P w K mg base CX0 6 fa fd ["_law_which", "_law_web_here", "_law_k", "_law_kept_here"] (spD K m__law_told) :=
 okD (k:=5) (G:=G__law_told) F sc__law_told (fun cdv A outer s H E hr=>(pssd_cons (psd_asg pd_non (pgd_name 4 sc__law_told.nd))
   (pssd_cons (psd_asg pd_str (pgd_name 5 sc__law_told.nd))
   (pssd_cons (psd_try 6 XT (fun pn xe=>(pssx_cons (psx_if (ptd_cmp op_eq op2_eq (pd_var 0) pd_int)
   (pssx_cons (psx_call 4 X_copied hr (by decide) (pda_cons (pd_var 1) (pda_cons (pd_var 2) (pda_cons (pd_var 3) pda_nil))) sc__law_told.nd)
   pssx_nil)
   (pssx_cons (psx_if (ptd_cmp op_eq op2_eq (pd_var 0) pd_int)
   (pssx_cons (psx_callD 4 Xd_copied hr (by decide) (pda_cons (pd_var 1) (pda_cons (pd_var 2) pda_nil)) sc__law_told.nd)
   pssx_nil)
   (pssx_cons (psx_call 4 X_shallow hr (by decide) (pda_cons (pd_var 1) (pda_cons (pd_var 2) pda_nil)) sc__law_told.nd)
   pssx_nil))
   pssx_nil))
   pssx_nil))
   (fun ea=>(pssd_cons (psd_asg pd_str (pgd_name 5 sc__law_told.nd))
   (pssd_cons (psd_if (PWD.pt (pwd_and (ptd_val (pd_isiX 6 XT (by decide) (by decide) T.b_isinstance)) (pwd_and1 (ptd_val (pd_isiV 6 XT b_ValueError ty_ValueError (by decide +kernel) T.b_isinstance T.b_ValueError)))))
   (pssd_cons (psd_asg pd_str (pgd_name 5 sc__law_told.nd))
   pssd_nil)
   pssd_nil)
   (pssd_cons (psd_if (ptd_val (pd_isiXs 6 XT (by decide) (pcl_cons XT (by decide) (pcl_cons XT (by decide) (pcl_cons XT (by decide) (pcl_cons XT (by decide) (pcl_cons XT (by decide) pcl_nil))))) (by decide) T.b_isinstance))
   (pssd_cons (psd_asg pd_str (pgd_name 5 sc__law_told.nd))
   pssd_nil)
   pssd_nil)
   pssd_nil)))) sc__law_told.nd)
   (pssd_cons (psd_if (ptd_cmp op_ne op2_ne (pd_var 5) pd_str)
   (pssd_cons (psd_ret (pd_var 5))
   pssd_nil)
   pssd_nil)
   (pssd_cons (psd_if (PWD.pt (pwd_or (ptd_not (ptd_val (pd_isi okT_tuple b_tuple T.b_isinstance T.b_tuple (pd_var 4)))) (pwd_or (ptd_cmp op_ne op2_ne (pd_len T.b_len (pda_cons (pd_var 4) pda_nil)) pd_int) (pwd_or1 (ptd_val (pd_isi okT_bool b_bool T.b_isinstance T.b_bool (pd_ix' (pd_var 4) pd_int)))))))
   (pssd_cons (psd_ret pd_str)
   pssd_nil)
   pssd_nil)
   (pssd_cons (psd_ret (pd_var 4))
   pssd_nil))))))) (fun ds d h=>mkF_ok h)
theorem sc__law_kept:FnScope ["_law_web_here", "_law_k", "_law_number", "_law_kind", "_law_kept_here"] ["_law_web_here", "_law_k", "_law_number"] (defScope (top 36)):=⟨rfl,rfl,rfl,by decide +kernel,rfl,by decide +kernel,by decide +kernel⟩
set_option maxHeartbeats 0 in
theorem ok__law_kept {fa:Addr} {fd:FuncData} (F:Fun K "_law_kept" "_law_kept" (top 36) fa fd) (T:Txt mg)  : FnOk P w K mg base CX0 1 fa fd ["_law_web_here", "_law_k", "_law_number"] (spN K m__law_kept) :=
 okN (k:=0) (G:=G__law_kept) F sc__law_kept (fun cdv A outer s H E hr=>(pssd_cons (psd_asg (pd_mod (pd_var 2) pd_int) (pgd_name 3 sc__law_kept.nd))
   (pssd_cons (psd_if (ptd_cmp op_eq op2_eq (pd_var 3) pd_int)
   (pssd_cons (psd_retF (pdf_lst pda_nil))
   pssd_nil)
   pssd_nil)
   (pssd_cons (psd_if (ptd_cmp op_eq op2_eq (pd_var 3) pd_int)
   (pssd_cons (psd_retF (pdf_lst (pda_cons (pd_mod (pd_fdiv (pd_var 2) pd_int) (pd_len T.b_len (pda_cons (pd_var 0) pda_nil))) pda_nil)))
   pssd_nil)
   pssd_nil)
   (pssd_cons (psd_ownCmp 4 sc__law_kept.nd (sc:=defScope (top 36)) (N:=["_law_web_here", "_law_k", "_law_number", "_law_kind", "_law_kept_here"]) (N':=["_law_j", "_law_k", "_law_number", "_law_kind"]) (n:=1) (caps:=[1,2,3]) ⟨rfl,by decide +kernel,by decide +kernel,by decide +kernel,by decide +kernel,rfl,by decide +kernel⟩ (by decide) (pid_range1 T.b_range (pda_cons (pd_len T.b_len (pda_cons (pd_var 0) pda_nil)) pda_nil)) (fun cl s H ex=>pgd_name 0 (by decide +kernel:(["_law_j", "_law_k", "_law_number", "_law_kind"]:List Str).Nodup)) (fun cl s H ex=>(pfd_one (PWD.pt (pwd_and (ptd_cmp op_lt op2_lt (pd_mod (pd_fdiv (pd_var 2) (pd_addA (pd_var 0) pd_int)) pd_int) (pd_sub (pd_var 3) pd_int)) (pwd_and1 (ptd_cmp op_ne op2_ne (pd_var 0) (pd_var 1))))))) (fun cl s H ex=>(pd_var 0)))
   (pssd_cons (psd_if (ptd_cmp op_eq op2_eq (pd_mod (pd_fdiv (pd_var 2) pd_int) pd_int) pd_int)
   (pssd_cons (psd_frzS 4 (psd_own 4 (pdf_cat (pd_rev (pd_var 4) (pdo_some (pd_neg pd_int))) (pd_sliceA (pd_var 4) pdo_none (pdo_some pd_int))) sc__law_kept.nd))
   pssd_nil)
   pssd_nil)
   (pssd_cons (psd_if (ptd_cmp op_eq op2_eq (pd_mod (pd_fdiv (pd_var 2) pd_int) pd_int) pd_int)
   (pssd_cons (psd_exprX (px_app 4 (pd_var 1)))
   pssd_nil)
   pssd_nil)
   (pssd_cons (psd_retO 4)
   pssd_nil)))))))) (fun ds d h=>mkN_ok h)
theorem sc_law:FnScope ["_law_script", "_law_web_here", "_law_j", "_law_number", "_law_k", "_law_kept_here", "_law_handed", "_law_due_here", "_law_whole", "_law_told_here", "_law_others"] ["_law_script"] (defScope (top 37)):=⟨rfl,rfl,rfl,by decide +kernel,rfl,by decide +kernel,by decide +kernel⟩
set_option maxHeartbeats 0 in
theorem ok_law {fa:Addr} {fd:FuncData} (F:Fun K "law" "law" (top 37) fa fd) (T:Txt mg) (C__law_cell_at:FnD P w K mg base "_law_cell_at" 1 ["_law_script", "_law_k"] m__law_cell_at) (C__law_drawn_web:FnD P w K mg base "_law_drawn_web" 4 ["_law_script", "_law_most"] m__law_drawn_web) (C__law_due:FnD P w K mg base "_law_due" 64 ["_law_web_here", "_law_k", "_law_kept_here"] m__law_due) (C__law_kept:FnN P w K mg base "_law_kept" 1 ["_law_web_here", "_law_k", "_law_number"] m__law_kept) (C__law_mix:FnD P w K mg base "_law_mix" 1 ["_law_cell", "_law_k"] m__law_mix) (C__law_told:FnD P w K mg base "_law_told" 6 ["_law_which", "_law_web_here", "_law_k", "_law_kept_here"] m__law_told):FnOk P w K mg base CX0 65 fa fd ["_law_script"] (spD K m_law) :=
 okD (k:=64) (G:=G_law) F sc_law (fun cdv A outer s H E hr=>(pssd_cons (psd_asg (pd_fn C__law_drawn_web hr (by decide) (pda_cons (pd_var 0) (pda_cons pd_int pda_nil))) (pgd_name 1 sc_law.nd))
   (pssd_cons (psd_for PassesOwn.never rfl (pid_range1 T.b_range (pda_cons pd_int pda_nil)) (pgd_name 2 sc_law.nd)
   (pssd_cons (psd_asg (pd_fn C__law_mix hr (by decide) (pda_cons (pd_addA (pd_fn C__law_cell_at hr (by decide) (pda_cons (pd_var 0) (pda_cons (pd_addA pd_int (pd_mod (pd_var 2) pd_int)) pda_nil))) (pd_mulA (pd_var 2) (pd_var 2))) (pda_cons (pd_addA (pd_var 2) pd_int) pda_nil))) (pgd_name 3 sc_law.nd))
   (pssd_cons (psd_asg (pd_mod (pd_fdiv (pd_var 3) pd_int) (pd_len T.b_len (pda_cons (pd_var 1) pda_nil))) (pgd_name 4 sc_law.nd))
   (pssd_cons (psd_asg (pd_fnN C__law_kept hr (by decide) (pda_cons (pd_var 1) (pda_cons (pd_var 4) (pda_cons (pd_fdiv (pd_var 3) pd_int) pda_nil)))) (pgd_name 5 sc_law.nd))
   (pssd_cons (psd_asg (pd_callTy call_list_of fn_list T.b_list b_list (pda_cons (pd_var 5) pda_nil)) (pgd_name 6 sc_law.nd))
   (pssd_cons (psd_asg (pd_fn C__law_due hr (by decide) (pda_cons (pd_var 1) (pda_cons (pd_var 4) (pda_cons (pd_var 5) pda_nil)))) (pgd_name 7 sc_law.nd))
   (pssd_cons (psd_if (PWD.pt (pwd_or (ptd_cmp (op_neX hr.units) op2_neX (pd_fn C__law_told hr (by decide) (pda_cons pd_int (pda_cons (pd_var 1) (pda_cons (pd_var 4) (pda_cons (pd_var 6) pda_nil))))) (pd_var 7)) (pwd_or1 (ptd_cmp (op_neX hr.units) op2_neX (pd_var 6) (pd_var 5)))))
   (pssd_cons (psd_ret pd_bl)
   pssd_nil)
   pssd_nil)
   (pssd_cons (psd_asg (pd_fn C__law_due hr (by decide) (pda_cons (pd_var 1) (pda_cons (pd_var 4) (pda_cons (pd_lst pda_nil) pda_nil)))) (pgd_name 8 sc_law.nd))
   (pssd_cons (psd_for PassesOwn.never rfl (pid_list (pd_lst (pda_cons (pd_fn C__law_told hr (by decide) (pda_cons pd_int (pda_cons (pd_var 1) (pda_cons (pd_var 4) (pda_cons (pd_lst pda_nil) pda_nil))))) (pda_cons (pd_fn C__law_told hr (by decide) (pda_cons pd_int (pda_cons (pd_var 1) (pda_cons (pd_var 4) (pda_cons pd_non pda_nil))))) (pda_cons (pd_fn C__law_told hr (by decide) (pda_cons pd_int (pda_cons (pd_var 1) (pda_cons (pd_var 4) (pda_cons (pd_lst pda_nil) pda_nil))))) pda_nil))))) (pgd_name 9 sc_law.nd)
   (pssd_cons (psd_if (ptd_cmp (op_neX hr.units) op2_neX (pd_var 9) (pd_var 8))
   (pssd_cons (psd_ret pd_bl)
   pssd_nil)
   pssd_nil)
   pssd_nil))
   (pssd_cons (psd_cmpD 10 sc_law.nd (sc:=defScope (top 37)) (N:=["_law_script", "_law_web_here", "_law_j", "_law_number", "_law_k", "_law_kept_here", "_law_handed", "_law_due_here", "_law_whole", "_law_told_here", "_law_others"]) (N':=["_law_at", "_law_k"]) (n:=1) (caps:=[4]) ⟨rfl,by decide +kernel,by decide +kernel,by decide +kernel,by decide +kernel,rfl,by decide +kernel⟩ (by decide) (pid_range1 T.b_range (pda_cons (pd_len T.b_len (pda_cons (pd_var 1) pda_nil)) pda_nil)) (fun cl s H ex=>pgd_name 0 (by decide +kernel:(["_law_at", "_law_k"]:List Str).Nodup)) (fun cl s H ex=>(pfd_one (ptd_cmp (op_neX hr.units) op2_neX (pd_var 0) (pd_var 1)))) (fun cl s H ex=>(pd_var 0)))
   (pssd_cons (psd_if (ptd_cmp (op_neX hr.units) op2_neX (pd_fn C__law_told hr (by decide) (pda_cons pd_int (pda_cons (pd_var 1) (pda_cons (pd_var 4) (pda_cons (pd_lst pda_nil) pda_nil))))) (pd_fn C__law_due hr (by decide) (pda_cons (pd_var 1) (pda_cons (pd_var 4) (pda_cons (pd_var 10) pda_nil)))))
   (pssd_cons (psd_ret pd_bl)
   pssd_nil)
   pssd_nil)
   (pssd_cons (psd_if (PWD.pt (pwd_and (ptd_cmp (op_eqX hr.units) op2_eqX (pd_mod (pd_var 2) pd_int) pd_int) (pwd_and1 (ptd_val (pd_isi okT_tuple b_tuple T.b_isinstance T.b_tuple (pd_var 7))))))
   (pssd_cons (psd_asg (pd_ix' (pd_var 7) pd_int) (pgd_name 1 sc_law.nd))
   pssd_nil)
   pssd_nil)
   pssd_nil))))))))))))
   (pssd_cons (psd_ret pd_bl)
   pssd_nil)))) (fun ds d h=>mkF_ok h)
end
theorem us1 {α:Type}:∀ {us:List α},us.length = 1→∃ a,us = [a]
 | [a],_=>⟨a,rfl⟩
theorem us2 {α:Type}:∀ {us:List α},us.length = 2→∃ a b,us = [a,b]
 | [a,b],_=>⟨a,b,rfl⟩
theorem us3 {α:Type}:∀ {us:List α},us.length = 3→∃ a b c,us = [a,b,c]
 | [a,b,c],_=>⟨a,b,c,rfl⟩
theorem us4 {α:Type}:∀ {us:List α},us.length = 4→∃ a b c d,us = [a,b,c,d]
 | [a,b,c,d],_=>⟨a,b,c,d,rfl⟩
set_option maxHeartbeats 0 in
theorem all_mk {l:W.OpenLaw} {w:World} {K:W.Frag} {h:Heap} {mg:Str→Option Value} {fa:Addr} (X:K.In h) (G:h.Ns mainGlobals mg) (hfa:mg "law" = some (.ref fa))
  {f0 f1 f2 f3 f4 f5 f6 f7 f8 f9 f10 f11 f12 f13 f14 f15 f16 f17 f18 f19 f20 f21 f22 f23:Addr}
  {od0 an0 od1 an1 od2 an2 od3 an3 od4 an4 od5 an5 od6 an6 od7 an7 od8 an8 od9 an9 od10 an10 od11 an11 od12 an12 od13 an13 od14 an14 od15 an15 od16 an16 od17 an17 od18 an18 od19 an19 od20 an20 od21 an21 od22 an22 od23 an23:Option Addr} {sl0 sl1 sl2 sl3 sl4 sl5 sl6 sl7 sl8 sl9 sl10 sl11 sl12 sl13 sl14 sl15 sl16 sl17 sl18 sl19 sl20 sl21 sl22 sl23:Array (Option Value)} {oc0 kV0 dc0 pm0 cd0 ct0 oc1 kV1 dc1 pm1 cd1 ct1 oc2 kV2 dc2 pm2 cd2 ct2 oc3 kV3 dc3 pm3 cd3 ct3 oc4 kV4 dc4 pm4 cd4 ct4 oc5 kV5 dc5 pm5 cd5 ct5 oc6 kV6 dc6 pm6 cd6 ct6 oc7 kV7 dc7 pm7 cd7 ct7 oc8 kV8 dc8 pm8 cd8 ct8 oc9 kV9 dc9 pm9 cd9 ct9 oc10 kV10 dc10 pm10 cd10 ct10 oc11 kV11 dc11 pm11 cd11 ct11 oc12 kV12 dc12 pm12 cd12 ct12 oc13 kV13 dc13 pm13 cd13 ct13 oc14 kV14 dc14 pm14 cd14 ct14 oc15 kV15 dc15 pm15 cd15 ct15 oc16 kV16 dc16 pm16 cd16 ct16 oc17 kV17 dc17 pm17 cd17 ct17 oc18 kV18 dc18 pm18 cd18 ct18 oc19 kV19 dc19 pm19 cd19 ct19 oc20 kV20 dc20 pm20 cd20 ct20 oc21 kV21 dc21 pm21 cd21 ct21 oc22 kV22 dc22 pm22 cd22 ct22 oc23 kV23 dc23 pm23 cd23 ct23:Value}
  {t_MOST_PARTS:Tok}
  (a0:W.nsIn K mainGlobals "pair_names" = some (some (.ref f0))) (l0:K.lookup f0 = some ⟨oc0,od0,.func (W.fnOf "pair_names" "pair_names" (defArgs (top 10)) (defBody (top 10)) (defScope (top 10)) .none kV0 dc0 pm0 an0 cd0 ct0),sl0⟩) (c0:W.codeIn K cd0 "pair_names" = true) (k0:W.keepIn K (.ref f0) = true)
  (a1:W.nsIn K mainGlobals "values" = some (some (.ref f1))) (l1:K.lookup f1 = some ⟨oc1,od1,.func (W.fnOf "values" "values" (defArgs (top 11)) (defBody (top 11)) (defScope (top 11)) .none kV1 dc1 pm1 an1 cd1 ct1),sl1⟩) (c1:W.codeIn K cd1 "values" = true) (k1:W.keepIn K (.ref f1) = true)
  (a2:W.nsIn K mainGlobals "with_values" = some (some (.ref f2))) (l2:K.lookup f2 = some ⟨oc2,od2,.func (W.fnOf "with_values" "with_values" (defArgs (top 12)) (defBody (top 12)) (defScope (top 12)) .none kV2 dc2 pm2 an2 cd2 ct2),sl2⟩) (c2:W.codeIn K cd2 "with_values" = true) (k2:W.keepIn K (.ref f2) = true)
  (a3:W.nsIn K mainGlobals "links" = some (some (.ref f3))) (l3:K.lookup f3 = some ⟨oc3,od3,.func (W.fnOf "links" "links" (defArgs (top 13)) (defBody (top 13)) (defScope (top 13)) .none kV3 dc3 pm3 an3 cd3 ct3),sl3⟩) (c3:W.codeIn K cd3 "links" = true) (k3:W.keepIn K (.ref f3) = true)
  (a4:W.nsIn K mainGlobals "met_but" = some (some (.ref f4))) (l4:K.lookup f4 = some ⟨oc4,od4,.func (W.fnOf "met_but" "met_but" (defArgs (top 14)) (defBody (top 14)) (defScope (top 14)) .none kV4 dc4 pm4 an4 cd4 ct4),sl4⟩) (c4:W.codeIn K cd4 "met_but" = true) (k4:W.keepIn K (.ref f4) = true)
  (a5:W.nsIn K mainGlobals "relinked" = some (some (.ref f5))) (l5:K.lookup f5 = some ⟨oc5,od5,.func (W.fnOf "relinked" "relinked" (defArgs (top 15)) (defBody (top 15)) (defScope (top 15)) .none kV5 dc5 pm5 an5 cd5 ct5),sl5⟩) (c5:W.codeIn K cd5 "relinked" = true) (k5:W.keepIn K (.ref f5) = true)
  {T6:Addr} {tc6:Value} {td6:Option Addr} {tn6:Nat} {ts6:Array (Option Value)}
  (a6:W.nsIn K mainGlobals "copied" = some (some (.ref f6))) (l6:K.lookup f6 = some ⟨oc6,od6,.func (W.fnOf "copied" "copied" (defArgs (top 17)) (defBody (top 17)) (defScope (top 17)) (.ref T6) kV6 dc6 pm6 an6 cd6 ct6),sl6⟩) (c6:W.codeIn K cd6 "copied" = true) (k6:W.keepIn K (.ref f6) = true)
  (t6:K.lookup T6 = some ⟨tc6,td6,.seq #[.none] tn6,ts6⟩)
  (a7:W.nsIn K mainGlobals "shallow" = some (some (.ref f7))) (l7:K.lookup f7 = some ⟨oc7,od7,.func (W.fnOf "shallow" "shallow" (defArgs (top 18)) (defBody (top 18)) (defScope (top 18)) .none kV7 dc7 pm7 an7 cd7 ct7),sl7⟩) (c7:W.codeIn K cd7 "shallow" = true) (k7:W.keepIn K (.ref f7) = true)
  (a8:W.nsIn K mainGlobals "_law_cell_at" = some (some (.ref f8))) (l8:K.lookup f8 = some ⟨oc8,od8,.func (W.fnOf "_law_cell_at" "_law_cell_at" (defArgs (top 20)) (defBody (top 20)) (defScope (top 20)) .none kV8 dc8 pm8 an8 cd8 ct8),sl8⟩) (c8:W.codeIn K cd8 "_law_cell_at" = true) (k8:W.keepIn K (.ref f8) = true)
  (a9:W.nsIn K mainGlobals "_law_pool" = some (some (.ref f9))) (l9:K.lookup f9 = some ⟨oc9,od9,.func (W.fnOf "_law_pool" "_law_pool" (defArgs (top 21)) (defBody (top 21)) (defScope (top 21)) .none kV9 dc9 pm9 an9 cd9 ct9),sl9⟩) (c9:W.codeIn K cd9 "_law_pool" = true) (k9:W.keepIn K (.ref f9) = true)
  (a10:W.nsIn K mainGlobals "_law_mix" = some (some (.ref f10))) (l10:K.lookup f10 = some ⟨oc10,od10,.func (W.fnOf "_law_mix" "_law_mix" (defArgs (top 22)) (defBody (top 22)) (defScope (top 22)) .none kV10 dc10 pm10 an10 cd10 ct10),sl10⟩) (c10:W.codeIn K cd10 "_law_mix" = true) (k10:W.keepIn K (.ref f10) = true)
  (a11:W.nsIn K mainGlobals "_law_value" = some (some (.ref f11))) (l11:K.lookup f11 = some ⟨oc11,od11,.func (W.fnOf "_law_value" "_law_value" (defArgs (top 23)) (defBody (top 23)) (defScope (top 23)) .none kV11 dc11 pm11 an11 cd11 ct11),sl11⟩) (c11:W.codeIn K cd11 "_law_value" = true) (k11:W.keepIn K (.ref f11) = true)
  (a12:W.nsIn K mainGlobals "_law_values" = some (some (.ref f12))) (l12:K.lookup f12 = some ⟨oc12,od12,.func (W.fnOf "_law_values" "_law_values" (defArgs (top 24)) (defBody (top 24)) (defScope (top 24)) .none kV12 dc12 pm12 an12 cd12 ct12),sl12⟩) (c12:W.codeIn K cd12 "_law_values" = true) (k12:W.keepIn K (.ref f12) = true)
  (a13:W.nsIn K mainGlobals "_law_part" = some (some (.ref f13))) (l13:K.lookup f13 = some ⟨oc13,od13,.func (W.fnOf "_law_part" "_law_part" (defArgs (top 25)) (defBody (top 25)) (defScope (top 25)) .none kV13 dc13 pm13 an13 cd13 ct13),sl13⟩) (c13:W.codeIn K cd13 "_law_part" = true) (k13:W.keepIn K (.ref f13) = true)
  (a14:W.nsIn K mainGlobals "_law_web" = some (some (.ref f14))) (l14:K.lookup f14 = some ⟨oc14,od14,.func (W.fnOf "_law_web" "_law_web" (defArgs (top 26)) (defBody (top 26)) (defScope (top 26)) .none kV14 dc14 pm14 an14 cd14 ct14),sl14⟩) (c14:W.codeIn K cd14 "_law_web" = true) (k14:W.keepIn K (.ref f14) = true)
  (a15:W.nsIn K mainGlobals "_law_vals" = some (some (.ref f15))) (l15:K.lookup f15 = some ⟨oc15,od15,.func (W.fnOf "_law_vals" "_law_vals" (defArgs (top 27)) (defBody (top 27)) (defScope (top 27)) .none kV15 dc15 pm15 an15 cd15 ct15),sl15⟩) (c15:W.codeIn K cd15 "_law_vals" = true) (k15:W.keepIn K (.ref f15) = true)
  (a16:W.nsIn K mainGlobals "_law_with" = some (some (.ref f16))) (l16:K.lookup f16 = some ⟨oc16,od16,.func (W.fnOf "_law_with" "_law_with" (defArgs (top 29)) (defBody (top 29)) (defScope (top 29)) .none kV16 dc16 pm16 an16 cd16 ct16),sl16⟩) (c16:W.codeIn K cd16 "_law_with" = true) (k16:W.keepIn K (.ref f16) = true)
  (a17:W.nsIn K mainGlobals "_law_led" = some (some (.ref f17))) (l17:K.lookup f17 = some ⟨oc17,od17,.func (W.fnOf "_law_led" "_law_led" (defArgs (top 30)) (defBody (top 30)) (defScope (top 30)) .none kV17 dc17 pm17 an17 cd17 ct17),sl17⟩) (c17:W.codeIn K cd17 "_law_led" = true) (k17:W.keepIn K (.ref f17) = true)
  (a18:W.nsIn K mainGlobals "_law_drawn_web" = some (some (.ref f18))) (l18:K.lookup f18 = some ⟨oc18,od18,.func (W.fnOf "_law_drawn_web" "_law_drawn_web" (defArgs (top 31)) (defBody (top 31)) (defScope (top 31)) .none kV18 dc18 pm18 an18 cd18 ct18),sl18⟩) (c18:W.codeIn K cd18 "_law_drawn_web" = true) (k18:W.keepIn K (.ref f18) = true)
  (a19:W.nsIn K mainGlobals "_law_met_in" = some (some (.ref f19))) (l19:K.lookup f19 = some ⟨oc19,od19,.func (W.fnOf "_law_met_in" "_law_met_in" (defArgs (top 33)) (defBody (top 33)) (defScope (top 33)) .none kV19 dc19 pm19 an19 cd19 ct19),sl19⟩) (c19:W.codeIn K cd19 "_law_met_in" = true) (k19:W.keepIn K (.ref f19) = true)
  (a20:W.nsIn K mainGlobals "_law_due" = some (some (.ref f20))) (l20:K.lookup f20 = some ⟨oc20,od20,.func (W.fnOf "_law_due" "_law_due" (defArgs (top 34)) (defBody (top 34)) (defScope (top 34)) .none kV20 dc20 pm20 an20 cd20 ct20),sl20⟩) (c20:W.codeIn K cd20 "_law_due" = true) (k20:W.keepIn K (.ref f20) = true)
  (a21:W.nsIn K mainGlobals "_law_told" = some (some (.ref f21))) (l21:K.lookup f21 = some ⟨oc21,od21,.func (W.fnOf "_law_told" "_law_told" (defArgs (top 35)) (defBody (top 35)) (defScope (top 35)) .none kV21 dc21 pm21 an21 cd21 ct21),sl21⟩) (c21:W.codeIn K cd21 "_law_told" = true) (k21:W.keepIn K (.ref f21) = true)
  (a22:W.nsIn K mainGlobals "_law_kept" = some (some (.ref f22))) (l22:K.lookup f22 = some ⟨oc22,od22,.func (W.fnOf "_law_kept" "_law_kept" (defArgs (top 36)) (defBody (top 36)) (defScope (top 36)) .none kV22 dc22 pm22 an22 cd22 ct22),sl22⟩) (c22:W.codeIn K cd22 "_law_kept" = true) (k22:W.keepIn K (.ref f22) = true)
  (a23:W.nsIn K mainGlobals "law" = some (some (.ref f23))) (l23:K.lookup f23 = some ⟨oc23,od23,.func (W.fnOf "law" "law" (defArgs (top 37)) (defBody (top 37)) (defScope (top 37)) .none kV23 dc23 pm23 an23 cd23 ct23),sl23⟩) (c23:W.codeIn K cd23 "law" = true) (k23:W.keepIn K (.ref f23) = true)
  (z_ValueError:W.nsIn K mainGlobals "ValueError" = some none)
  (z_bool:W.nsIn K mainGlobals "bool" = some none)
  (z_dict:W.nsIn K mainGlobals "dict" = some none)
  (z_enumerate:W.nsIn K mainGlobals "enumerate" = some none)
  (z_int:W.nsIn K mainGlobals "int" = some none)
  (z_isinstance:W.nsIn K mainGlobals "isinstance" = some none)
  (z_len:W.nsIn K mainGlobals "len" = some none)
  (z_list:W.nsIn K mainGlobals "list" = some none)
  (z_range:W.nsIn K mainGlobals "range" = some none)
  (z_reversed:W.nsIn K mainGlobals "reversed" = some none)
  (z_tuple:W.nsIn K mainGlobals "tuple" = some none)
  (z_zip:W.nsIn K mainGlobals "zip" = some none)
  (y_MOST_PARTS:W.nsIn K mainGlobals "MOST_PARTS" = some (some (.int 60 t_MOST_PARTS)))
  (xt:XC.tabB K "WebError" ["NoText", "NoPlace", "NoValue", "TooMany", "NoWay", "NoPack"] ["NoText", "NoPlace", "NoValue", "TooMany"] = true)
  : ∃ fd:FuncData,(∀ (s:Shared) (v:Value),BindsTo s fd ⟨[v],[]⟩ [("_law_script",v)])∧∀ base:Heap,K.In base→base.Ns mainGlobals mg→FnOk l.prog w K mg base CX0 65 fa fd ["_law_script"] (spD K m_law):=by
 have e:=hfa.symm.trans (W.mg_of X G a23)
 cases e
 have T:Txt mg:=⟨W.mg_none_of X G z_ValueError,W.mg_none_of X G z_bool,W.mg_none_of X G z_dict,W.mg_none_of X G z_enumerate,W.mg_none_of X G z_int,W.mg_none_of X G z_isinstance,W.mg_none_of X G z_len,W.mg_none_of X G z_list,W.mg_none_of X G z_range,W.mg_none_of X G z_reversed,W.mg_none_of X G z_tuple,W.mg_none_of X G z_zip,⟨_,W.mg_of X G y_MOST_PARTS⟩⟩
 obtain ⟨rr,XT⟩:=XC.tab_of X G xt
 have F0:=fun_mk (st:=top 10) l0 c0 k0
 have F1:=fun_mk (st:=top 11) l1 c1 k1
 have F2:=fun_mk (st:=top 12) l2 c2 k2
 have F3:=fun_mk (st:=top 13) l3 c3 k3
 have F4:=fun_mk (st:=top 14) l4 c4 k4
 have F5:=fun_mk (st:=top 15) l5 c5 k5
 have F6:=funV_mk (st:=top 17) l6 c6 k6
 have F7:=fun_mk (st:=top 18) l7 c7 k7
 have F8:=fun_mk (st:=top 20) l8 c8 k8
 have F9:=fun_mk (st:=top 21) l9 c9 k9
 have F10:=fun_mk (st:=top 22) l10 c10 k10
 have F11:=fun_mk (st:=top 23) l11 c11 k11
 have F12:=fun_mk (st:=top 24) l12 c12 k12
 have F13:=fun_mk (st:=top 25) l13 c13 k13
 have F14:=fun_mk (st:=top 26) l14 c14 k14
 have F15:=fun_mk (st:=top 27) l15 c15 k15
 have F16:=fun_mk (st:=top 29) l16 c16 k16
 have F17:=fun_mk (st:=top 30) l17 c17 k17
 have F18:=fun_mk (st:=top 31) l18 c18 k18
 have F19:=fun_mk (st:=top 33) l19 c19 k19
 have F20:=fun_mk (st:=top 34) l20 c20 k20
 have F21:=fun_mk (st:=top 35) l21 c21 k21
 have F22:=fun_mk (st:=top 36) l22 c22 k22
 have F23:=fun_mk (st:=top 37) l23 c23 k23
 refine ⟨W.fnOf "law" "law" (defArgs (top 37)) (defBody (top 37)) (defScope (top 37)) .none kV23 dc23 pm23 an23 cd23 ct23,fun s v=>.of_eq rfl,fun base _ _=>?_⟩
 have C_pair_names:FnN l.prog w K mg base "pair_names" 1 ["part"] m_pair_names:=⟨f0,_,ok_pair_names F0 T ,W.mg_of X G a0,k0,F0.binds (ps:=["part"]) fun _ _ _ _ _ _ us hl=>by obtain ⟨_,rfl⟩:=us1 hl; rfl⟩
 have C_values:FnN l.prog w K mg base "values" 1 ["part"] m_values:=⟨f1,_,ok_values F1 T ,W.mg_of X G a1,k1,F1.binds (ps:=["part"]) fun _ _ _ _ _ _ us hl=>by obtain ⟨_,rfl⟩:=us1 hl; rfl⟩
 have C__law_cell_at:FnD l.prog w K mg base "_law_cell_at" 1 ["_law_script", "_law_k"] m__law_cell_at:=⟨f8,_,ok__law_cell_at F8 T ,W.mg_of X G a8,k8,F8.binds (ps:=["_law_script", "_law_k"]) fun _ _ _ _ _ _ us hl=>by obtain ⟨_,_,rfl⟩:=us2 hl; rfl⟩
 have C__law_pool:FnN l.prog w K mg base "_law_pool" 1 ["_law_cell", "_law_turn"] m__law_pool:=⟨f9,_,ok__law_pool F9 T ,W.mg_of X G a9,k9,F9.binds (ps:=["_law_cell", "_law_turn"]) fun _ _ _ _ _ _ us hl=>by obtain ⟨_,_,rfl⟩:=us2 hl; rfl⟩
 have C__law_mix:FnD l.prog w K mg base "_law_mix" 1 ["_law_cell", "_law_k"] m__law_mix:=⟨f10,_,ok__law_mix F10 T ,W.mg_of X G a10,k10,F10.binds (ps:=["_law_cell", "_law_k"]) fun _ _ _ _ _ _ us hl=>by obtain ⟨_,_,rfl⟩:=us2 hl; rfl⟩
 have C__law_value:FnD l.prog w K mg base "_law_value" 1 ["_law_number", "_law_many"] m__law_value:=⟨f11,_,ok__law_value F11 T ,W.mg_of X G a11,k11,F11.binds (ps:=["_law_number", "_law_many"]) fun _ _ _ _ _ _ us hl=>by obtain ⟨_,_,rfl⟩:=us2 hl; rfl⟩
 have C__law_part:FnD l.prog w K mg base "_law_part" 1 ["_law_number", "_law_some", "_law_pool_here"] m__law_part:=⟨f13,_,ok__law_part F13 T ,W.mg_of X G a13,k13,F13.binds (ps:=["_law_number", "_law_some", "_law_pool_here"]) fun _ _ _ _ _ _ us hl=>by obtain ⟨_,_,_,rfl⟩:=us3 hl; rfl⟩
 have C__law_vals:FnN l.prog w K mg base "_law_vals" 1 ["_law_part_here"] m__law_vals:=⟨f15,_,ok__law_vals F15 T ,W.mg_of X G a15,k15,F15.binds (ps:=["_law_part_here"]) fun _ _ _ _ _ _ us hl=>by obtain ⟨_,rfl⟩:=us1 hl; rfl⟩
 have C__law_with:FnD l.prog w K mg base "_law_with" 1 ["_law_part_here", "_law_some"] m__law_with:=⟨f16,_,ok__law_with F16 T ,W.mg_of X G a16,k16,F16.binds (ps:=["_law_part_here", "_law_some"]) fun _ _ _ _ _ _ us hl=>by obtain ⟨_,_,rfl⟩:=us2 hl; rfl⟩
 have C__law_kept:FnN l.prog w K mg base "_law_kept" 1 ["_law_web_here", "_law_k", "_law_number"] m__law_kept:=⟨f22,_,ok__law_kept F22 T ,W.mg_of X G a22,k22,F22.binds (ps:=["_law_web_here", "_law_k", "_law_number"]) fun _ _ _ _ _ _ us hl=>by obtain ⟨_,_,_,rfl⟩:=us3 hl; rfl⟩
 have C_with_values:FnD l.prog w K mg base "with_values" 2 ["part", "some"] m_with_values:=⟨f2,_,ok_with_values F2 T C_pair_names,W.mg_of X G a2,k2,F2.binds (ps:=["part", "some"]) fun _ _ _ _ _ _ us hl=>by obtain ⟨_,_,rfl⟩:=us2 hl; rfl⟩
 have C_links:FnN l.prog w K mg base "links" 2 ["part"] m_links:=⟨f3,_,ok_links F3 T C_values,W.mg_of X G a3,k3,F3.binds (ps:=["part"]) fun _ _ _ _ _ _ us hl=>by obtain ⟨_,rfl⟩:=us1 hl; rfl⟩
 have C__law_values:FnN l.prog w K mg base "_law_values" 2 ["_law_number", "_law_count", "_law_many"] m__law_values:=⟨f12,_,ok__law_values F12 T C__law_value,W.mg_of X G a12,k12,F12.binds (ps:=["_law_number", "_law_count", "_law_many"]) fun _ _ _ _ _ _ us hl=>by obtain ⟨_,_,_,rfl⟩:=us3 hl; rfl⟩
 have C__law_led:FnD l.prog w K mg base "_law_led" 2 ["_law_part_here", "_law_numbers"] m__law_led:=⟨f17,_,ok__law_led F17 T C__law_vals C__law_with,W.mg_of X G a17,k17,F17.binds (ps:=["_law_part_here", "_law_numbers"]) fun _ _ _ _ _ _ us hl=>by obtain ⟨_,_,rfl⟩:=us2 hl; rfl⟩
 have C_met_but:FnN l.prog w K mg base "met_but" 3 ["web", "k", "left"] m_met_but:=⟨f4,_,ok_met_but F4 T C_links,W.mg_of X G a4,k4,F4.binds (ps:=["web", "k", "left"]) fun _ _ _ _ _ _ us hl=>by obtain ⟨_,_,_,rfl⟩:=us3 hl; rfl⟩
 have C_relinked:FnD l.prog w K mg base "relinked" 3 ["part", "numbers"] m_relinked:=⟨f5,_,ok_relinked F5 T C_values C_with_values,W.mg_of X G a5,k5,F5.binds (ps:=["part", "numbers"]) fun _ _ _ _ _ _ us hl=>by obtain ⟨_,_,rfl⟩:=us2 hl; rfl⟩
 have C__law_web:FnD l.prog w K mg base "_law_web" 3 ["_law_cells", "_law_many", "_law_pool_here"] m__law_web:=⟨f14,_,ok__law_web F14 T C__law_mix C__law_part C__law_values,W.mg_of X G a14,k14,F14.binds (ps:=["_law_cells", "_law_many", "_law_pool_here"]) fun _ _ _ _ _ _ us hl=>by obtain ⟨_,_,_,rfl⟩:=us3 hl; rfl⟩
 have Xd_copied:FnXd l.prog w K mg base "copied" 4 ["web", "k", "kept"] m_copied [.non]:=⟨f6,_,[.none],[.non],ok_copied F6 T XT C_met_but C_relinked,W.mg_of X G a6,k6,fun s us X hl=>by obtain ⟨u0,u1,rfl⟩:=us2 (show us.length = 2 by rw [List.length_append] at hl; simpa using hl); exact W.binds_K X rfl t6 rfl rfl rfl,by repeat (first | exact .nil | refine .cons (by first | exact ⟨_,rfl⟩ | rfl) ?_),fun H B=>by simp [rps_cons,rps_nil,rp_int,rp_non]⟩
 have X_copied:FnX l.prog w K mg base "copied" 4 ["web", "k", "kept"] m_copied:=⟨⟨f6,_,ok_copied F6 T XT C_met_but C_relinked,W.mg_of X G a6,k6,fun s us X hl=>match us,hl with | [_,_,_],_=>W.binds_K X rfl t6 rfl rfl rfl⟩⟩
 have C__law_drawn_web:FnD l.prog w K mg base "_law_drawn_web" 4 ["_law_script", "_law_most"] m__law_drawn_web:=⟨f18,_,ok__law_drawn_web F18 T C__law_cell_at C__law_pool C__law_web,W.mg_of X G a18,k18,F18.binds (ps:=["_law_script", "_law_most"]) fun _ _ _ _ _ _ us hl=>by obtain ⟨_,_,rfl⟩:=us2 hl; rfl⟩
 have X_shallow:FnX l.prog w K mg base "shallow" 5 ["web", "k"] m_shallow:=⟨⟨f7,_,ok_shallow F7 T X_copied,W.mg_of X G a7,k7,F7.binds (ps:=["web", "k"]) fun _ _ _ _ _ _ us hl=>by obtain ⟨_,_,rfl⟩:=us2 hl; rfl⟩⟩
 have C__law_told:FnD l.prog w K mg base "_law_told" 6 ["_law_which", "_law_web_here", "_law_k", "_law_kept_here"] m__law_told:=⟨f21,_,ok__law_told F21 T XT X_copied X_shallow Xd_copied,W.mg_of X G a21,k21,F21.binds (ps:=["_law_which", "_law_web_here", "_law_k", "_law_kept_here"]) fun _ _ _ _ _ _ us hl=>by obtain ⟨_,_,_,_,rfl⟩:=us4 hl; rfl⟩
 have CM__law_met_in:∀ q,FnM l.prog w K mg base "_law_met_in" (1 + q) ["_law_web_here", "_law_k", "_law_kept_here", "_law_found"] true (mR__law_met_in q):=by
  intro q
  induction q with
  | zero=>exact ⟨f19,W.fnOf "_law_met_in" "_law_met_in" (defArgs (top 33)) (defBody (top 33)) (defScope (top 33)) .none kV19 dc19 pm19 an19 cd19 ct19,fnOkM_never zero__law_met_in,W.mg_of X G a19,k19,F19.binds (ps:=["_law_web_here", "_law_k", "_law_kept_here", "_law_found"]) fun _ _ _ _ _ _ us hl=>by obtain ⟨_,_,_,_,rfl⟩:=us4 hl; rfl⟩
  | succ q ih=>exact ⟨f19,_,ok__law_met_in F19 T _ _ (1 + q) (Nat.le_add_right _ _) ih C__law_vals (hfM__law_met_in q),W.mg_of X G a19,k19,F19.binds (ps:=["_law_web_here", "_law_k", "_law_kept_here", "_law_found"]) fun _ _ _ _ _ _ us hl=>by obtain ⟨_,_,_,_,rfl⟩:=us4 hl; rfl⟩
 have C__law_met_in:FnM l.prog w K mg base "_law_met_in" 63 ["_law_web_here", "_law_k", "_law_kept_here", "_law_found"] true m__law_met_in:=CM__law_met_in 62
 have C__law_due:FnD l.prog w K mg base "_law_due" 64 ["_law_web_here", "_law_k", "_law_kept_here"] m__law_due:=⟨f20,_,ok__law_due F20 T C__law_led C__law_met_in,W.mg_of X G a20,k20,F20.binds (ps:=["_law_web_here", "_law_k", "_law_kept_here"]) fun _ _ _ _ _ _ us hl=>by obtain ⟨_,_,_,rfl⟩:=us3 hl; rfl⟩
 exact ok_law F23 T C__law_cell_at C__law_drawn_web C__law_due C__law_kept C__law_mix C__law_told
theorem rps_ints {K:W.Frag} {H:Hp} {B:BS}:∀ ns:List Int,Rps K H B (ns.map D.int) (ns.map V.int)
 | []=>by rw [List.map_nil,List.map_nil,rps_nil]
 | n :: ns=>by
  rw [List.map_cons,List.map_cons,rps_cons]
  exact ⟨_,_,rfl,by rw [rp_int],rps_ints ns⟩
theorem start_law {K:W.Frag} {H:Hp} {a:Addr} {ns:List Int} (hS:SqL K H a (ns.map V.int)) (hm:m_law [.lst (ns.map .int)] = some (.bl true)):spD K m_law [.ref a] H (fun v _=>v = .bl true) fun _ _ _=>False:=by
 refine ⟨fun _=>False,[.lst (ns.map .int)],.bl true,fun _ z=>z.elim,?_,hm,fun v H' _ r=>by rw [rp_bl] at r; exact r⟩
 rw [rps_cons]
 refine ⟨_,[],rfl,?_,by rw [rps_nil]⟩
 rw [rp_lst]
 refine ⟨a,ns.map V.int,rfl,?_,rps_ints ns⟩
 rcases hS with h | h
 ·exact .inl ⟨fun z=>z,h⟩
 ·exact .inr (.inr h)
end K22
open PySem PySem.W PyProof.Rows
theorem PySem.W.Fast.tw11511530836460142645:True:=trivial
theorem PySem.W.Fast.tw2493696949953242563:True:=trivial
theorem PySem.W.Fast.tw3264196916764107613:True:=trivial
theorem PySem.W.Fast.tw4024623398687705168:True:=trivial
theorem PySem.W.Fast.tw8118954449494464785:True:=trivial
theorem PySem.W.Fast.tw3513229649840745030:True:=trivial
theorem PySem.W.Fast.tw14933062551597253507:True:=trivial
theorem PySem.W.Fast.tw12179021106631874938:True:=trivial
theorem PySem.W.Fast.tw2624694006167666118:True:=trivial
theorem PySem.W.Fast.tw7282546704826392032:True:=trivial
theorem PySem.W.Fast.tw3724041705463543161:True:=trivial
theorem PySem.W.Fast.tw3242093333664038382:True:=trivial
theorem PySem.W.Fast.tw14145398984850747497:True:=trivial
theorem PySem.W.Fast.tw16923647656683575398:True:=trivial
theorem PySem.W.Fast.tw7200597700293440609:True:=trivial
theorem PySem.W.Fast.tw12304067375995132736:True:=trivial
theorem PySem.W.Fast.tw16759748779269692257:True:=trivial
theorem PySem.W.Fast.tw11115728554230931914:True:=trivial
theorem PySem.W.Fast.tw5703840222557263156:True:=trivial
theorem PySem.W.Fast.tw1651631320702343083:True:=trivial
set_option maxRecDepth 100000 in
set_option maxHeartbeats 0 in
theorem PySem.Challenge.cw_graphpack_k22_copies_but_for_kept_parts_holds : PySem.Challenge.rw_graphpack_k22_copies_but_for_kept_parts.Holds := by
 w_on; o_law; k_head; (case hw=>w_witness2)
 k_fill
 refine L2.walk_ofK (l:=PySem.Challenge.rw_graphpack_k22_copies_but_for_kept_parts) (n:=63) (k:=65) (x := "_law_script") (CX:=L2.CX0) (sp:=fun K=>DL.spD K K22.m_law) rfl (by decide) rfl ⟨rfl,by decide,by decide⟩ (fun w h Y=>W.kIn_of Y) ?F ?S ?C
 case F =>
  intro w mg fa h KX G hmg
  refine' K22.all_mk KX G hmg ?a0 ?l0 ?c0 ?k0 ?a1 ?l1 ?c1 ?k1 ?a2 ?l2 ?c2 ?k2 ?a3 ?l3 ?c3 ?k3 ?a4 ?l4 ?c4 ?k4 ?a5 ?l5 ?c5 ?k5 ?a6 ?l6 ?c6 ?k6 ?t6 ?a7 ?l7 ?c7 ?k7 ?a8 ?l8 ?c8 ?k8 ?a9 ?l9 ?c9 ?k9 ?a10 ?l10 ?c10 ?k10 ?a11 ?l11 ?c11 ?k11 ?a12 ?l12 ?c12 ?k12 ?a13 ?l13 ?c13 ?k13 ?a14 ?l14 ?c14 ?k14 ?a15 ?l15 ?c15 ?k15 ?a16 ?l16 ?c16 ?k16 ?a17 ?l17 ?c17 ?k17 ?a18 ?l18 ?c18 ?k18 ?a19 ?l19 ?c19 ?k19 ?a20 ?l20 ?c20 ?k20 ?a21 ?l21 ?c21 ?k21 ?a22 ?l22 ?c22 ?k22 ?a23 ?l23 ?c23 ?k23 ?z_ValueError ?z_bool ?z_dict ?z_enumerate ?z_int ?z_isinstance ?z_len ?z_list ?z_range ?z_reversed ?z_tuple ?z_zip ?y_MOST_PARTS ?xt
  (case a0=>k_is)
  (case l0=>k_is)
  (case c0=>k_is)
  (case k0=>k_is)
  (case a1=>k_is)
  (case l1=>k_is)
  (case c1=>k_is)
  (case k1=>k_is)
  (case a2=>k_is)
  (case l2=>k_is)
  (case c2=>k_is)
  (case k2=>k_is)
  (case a3=>k_is)
  (case l3=>k_is)
  (case c3=>k_is)
  (case k3=>k_is)
  (case a4=>k_is)
  (case l4=>k_is)
  (case c4=>k_is)
  (case k4=>k_is)
  (case a5=>k_is)
  (case l5=>k_is)
  (case c5=>k_is)
  (case k5=>k_is)
  (case a6=>k_is)
  (case l6=>k_is)
  (case c6=>k_is)
  (case k6=>k_is)
  (case t6=>k_is)
  (case a7=>k_is)
  (case l7=>k_is)
  (case c7=>k_is)
  (case k7=>k_is)
  (case a8=>k_is)
  (case l8=>k_is)
  (case c8=>k_is)
  (case k8=>k_is)
  (case a9=>k_is)
  (case l9=>k_is)
  (case c9=>k_is)
  (case k9=>k_is)
  (case a10=>k_is)
  (case l10=>k_is)
  (case c10=>k_is)
  (case k10=>k_is)
  (case a11=>k_is)
  (case l11=>k_is)
  (case c11=>k_is)
  (case k11=>k_is)
  (case a12=>k_is)
  (case l12=>k_is)
  (case c12=>k_is)
  (case k12=>k_is)
  (case a13=>k_is)
  (case l13=>k_is)
  (case c13=>k_is)
  (case k13=>k_is)
  (case a14=>k_is)
  (case l14=>k_is)
  (case c14=>k_is)
  (case k14=>k_is)
  (case a15=>k_is)
  (case l15=>k_is)
  (case c15=>k_is)
  (case k15=>k_is)
  (case a16=>k_is)
  (case l16=>k_is)
  (case c16=>k_is)
  (case k16=>k_is)
  (case a17=>k_is)
  (case l17=>k_is)
  (case c17=>k_is)
  (case k17=>k_is)
  (case a18=>k_is)
  (case l18=>k_is)
  (case c18=>k_is)
  (case k18=>k_is)
  (case a19=>k_is)
  (case l19=>k_is)
  (case c19=>k_is)
  (case k19=>k_is)
  (case a20=>k_is)
  (case l20=>k_is)
  (case c20=>k_is)
  (case k20=>k_is)
  (case a21=>k_is)
  (case l21=>k_is)
  (case c21=>k_is)
  (case k21=>k_is)
  (case a22=>k_is)
  (case l22=>k_is)
  (case c22=>k_is)
  (case k22=>k_is)
  (case a23=>k_is)
  (case l23=>k_is)
  (case c23=>k_is)
  (case k23=>k_is)
  (case z_ValueError=>k_is)
  (case z_bool=>k_is)
  (case z_dict=>k_is)
  (case z_enumerate=>k_is)
  (case z_int=>k_is)
  (case z_isinstance=>k_is)
  (case z_len=>k_is)
  (case z_list=>k_is)
  (case z_range=>k_is)
  (case z_reversed=>k_is)
  (case z_tuple=>k_is)
  (case z_zip=>k_is)
  (case y_MOST_PARTS=>k_is)
  (case xt=>kernel_rfl)
 case S=>exact fun K H a ns hl hO hS=>K22.start_law hS (K22.law_true ns hl)
 case C=>exact fun _ _ _ _ z=>z
#print axioms PySem.Challenge.cw_graphpack_k22_copies_but_for_kept_parts_holds
