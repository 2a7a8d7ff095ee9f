import PyProof.Rows.All
import Wide.All
import OpenK.AllK
import Wide.FinOn
import Lean
import PyProof.EqAt
import PyProof.EqKinds
import PyProof.TupleCall
import PyProof.NeKinds
import PyProof.Rows.SetFrom
import KE.KRevIter
import PyProof.ZipIter
import PyProof.TupleOfGen
import PyProof.Rows.ZipGen
import PyProof.EnumMake
import PyProof.EnumFor
import PyProof.ListRange
import PyProof.LayNew
import KE.KDictOf
import KE.KIntText
import KE.IntTextLaws
import PyProof.StrCalls2
import PyProof.Rows.StrNews2
import PyProof.StrLawsTight
import PyProof.ExcArgsOwn
import PyProof.ExcAttrAll.ValueError
import PyProof.IsInstanceT
import PyProof.RulesAs
import PyProof.Rows.Tup
import OpenK.KOwn
import PyProof.ExcInit
import OpenK.KCls
import OpenK.KMake
import PyProof.InstStoreFacts
import PyProof.ListMulRight
import PyProof.AttrMissHeap
import PyProof.RaisesMany
import PyProof.RulesTry
import PyProof.NsDelKeeps
import PyProof.Rows.FStr
import OpenK.KWalk
import PyProof.AutoListH
import PyProof.CallFns
import PyProof.Rows.SortStr
import KE.KDictSum
import PyProof.Draws
import PyProof.Rows.CallKwBuiltin
import PyProof.SumWalkG
import KE.KDictLaws
import PyProof.DictTruth
import PyProof.Rows.SortShellK
import PyProof.Rows.SortWalk
import PySem.Challenge.RW_graphpack_k18_what_is_a_pairing
set_option Elab.async false
set_option linter.all false
set_option maxRecDepth 100000
namespace XC
open PySem
section
variable {prog:Program} {w:World} {A:Around} {E:Value → Shared → Prop} {h:Heap} {g:Array GenState} {d:Drawn} {t:Nat} {os:OsState} {a C:Addr} {o:Obj} {tl:List Value}
end
section
variable {prog:Program} {w:World} {A:Around} {E:Value → Shared → Prop} {h:Heap} {g:Array GenState} {d:Drawn} {t:Nat} {os:OsState} {a C W:Addr} {o:Obj} {tl tw:List Value}
end
section
variable {prog:Program} {w:World} {A:Around} {E:Value → Shared → Prop} {s:Shared} {a C W:Addr} {o:Obj} {tl tw:List Value}
end
end XC
namespace XC
open PySem PySem.W
end XC
namespace XC
open PySem
section
variable {prog:Program} {w:World} {A:Around} {E:Value → Shared → Prop} {h:Heap} {g:Array GenState} {d:Drawn} {t:Nat} {os:OsState} {C f:Addr} {tl:List Value}
end
section
variable {prog:Program} {w:World} {A:Around} {E:Value → Shared → Prop} {h:Heap} {g:Array GenState} {d:Drawn} {t:Nat} {os:OsState} {C e:Addr} {tl:List Value} {od:Option Addr}
end
end XC
namespace XC
open PySem PySem.W Builtin Builtin.ObjectAttr
section
variable {prog:Program} {w:World} {A:Around} {E:Value → Shared → Prop} {s:Shared} {K:Frag} {x C r:Addr} {cd:ClassData} {R:Result → Shared → Prop}
end
end XC
namespace L2
open PySem PySem.Spec PyProof.Rows
noncomputable abbrev Key:=Sum Int Str
noncomputable def keyIs:Key → Value → Bool
 | .inl k,v=>Value.isInt k v
 | .inr x,v=>Value.isStrOf x v
noncomputable def keyH (w:World):Key → Int
 | .inl k=>hashInt k
 | .inr x=>hashStr w x
theorem keyIs_shape:∀ {k:Key} {v:Value},keyIs k v = true → (∃ i t,k = Sum.inl i ∧ v = Value.int i t) ∨ (∃ x t,k = Sum.inr x ∧ v = Value.str x t)
 | .inl i,v,h=>by
  obtain ⟨t,e⟩:=Value.isInt_shape (k:=i) (v:=v) h
  exact .inl ⟨i,t,rfl,e⟩
 | .inr x,v,h=>by
  obtain ⟨t,e⟩:=Value.isStrOf_shape (x:=x) (v:=v) h
  exact .inr ⟨x,t,rfl,e⟩
theorem keyIs_int (i:Int) (t:Tok):keyIs (.inl i) (.int i t) = true:=by simp [keyIs,Value.isInt]
theorem keyIs_str (x:Str) (t:Tok):keyIs (.inr x) (.str x t) = true:=by simp [keyIs,Value.isStrOf]
theorem key_ll (a b:Int):decide ((Sum.inl a:Key) = Sum.inl b) = (a == b):=by
 by_cases e:a = b
 ·subst e; simp
 ·have h:¬ (Sum.inl a:Key) = Sum.inl b:=fun q=>e (Sum.inl.inj q)
  rw [decide_eq_false h]
  exact (beq_eq_false_iff_ne.mpr e).symm
theorem key_rr (a b:Str):decide ((Sum.inr a:Key) = Sum.inr b) = decide (a = b):=by
 by_cases e:a = b
 ·subst e; simp
 ·have h:¬ (Sum.inr a:Key) = Sum.inr b:=fun q=>e (Sum.inr.inj q)
  rw [decide_eq_false h,decide_eq_false e]
theorem key_lr (a:Int) (b:Str):decide ((Sum.inl a:Key) = Sum.inr b) = false:=decide_eq_false (fun q=>nomatch q)
theorem key_rl (a:Str) (b:Int):decide ((Sum.inr a:Key) = Sum.inl b) = false:=decide_eq_false (fun q=>nomatch q)
noncomputable def mixKind (prog:Program) (w:World):PySem.KeyKind prog w Key where
 is:=keyIs
 hash:=keyH w
 inj:=fun v a b ha hb=>by
  rcases keyIs_shape ha with ⟨i,t,rfl,rfl⟩ | ⟨x,t,rfl,rfl⟩
  ·rcases keyIs_shape hb with ⟨j,u,rfl,e⟩ | ⟨y,u,rfl,e⟩
   ·injection e with e1 _; rw [e1]
   ·exact nomatch e
  ·rcases keyIs_shape hb with ⟨j,u,rfl,e⟩ | ⟨y,u,rfl,e⟩
   ·exact nomatch e
   ·injection e with e1 _; rw [e1]
 byValue:=fun k v h=>by
  rcases keyIs_shape h with ⟨i,t,rfl,rfl⟩ | ⟨x,t,rfl,rfl⟩ <;> rfl
 pyHash:=fun hv h=>by
  rcases keyIs_shape hv with ⟨i,t,rfl,rfl⟩ | ⟨x,t,rfl,rfl⟩
  ·exact wpAny_pyHash_int h
  ·exact wpAny_pyHash_str h
 eqBool:=fun hu hv h=>by
  rcases keyIs_shape hu with ⟨i,t,rfl,rfl⟩ | ⟨x,t,rfl,rfl⟩
  ·rcases keyIs_shape hv with ⟨j,u,rfl,rfl⟩ | ⟨y,u,rfl,rfl⟩
   ·rw [key_ll] at h; exact wpAny_eqBool_int h
   ·rw [key_lr] at h; exact SeqAt.EqAt.int_str i t y u _ _ _ _ h
  ·rcases keyIs_shape hv with ⟨j,u,rfl,rfl⟩ | ⟨y,u,rfl,rfl⟩
   ·rw [key_rl] at h; exact SeqAt.EqAt.str_int x t j u _ _ _ _ h
   ·rw [key_rr] at h; exact wpAny_eqBool_str h
 «strs»:=fun k x t v h=>by
  rcases keyIs_shape h with ⟨i,u,rfl,e⟩ | ⟨y,u,rfl,e⟩
  ·exact nomatch e
  ·injection e with e1 _
   subst e1
   cases v <;> rfl
theorem mixKind_int (prog:Program) (w:World) (i:Int) (t:Tok):(mixKind prog w).is (.inl i) (.int i t) = true:=keyIs_int i t
theorem mixKind_str (prog:Program) (w:World) (x:Str) (t:Tok):(mixKind prog w).is (.inr x) (.str x t) = true:=keyIs_str x t
inductive V where
 | non | bl (b:Bool) | int (i:Int) | str (x:Str) | byt (b:Array UInt8) | flt (b:UInt64) | ref (a:Addr) | ty (n:String)
 deriving DecidableEq
noncomputable def RelV:V → Value → Prop
 | .non,u=>u = Value.none
 | .bl b,u=>u = Value.bool b
 | .int i,u=>∃ t,u = Value.int i t
 | .str x,u=>∃ t,u = Value.str x t
 | .byt b,u=>∃ t,u = Value.bytes b t
 | .flt b,u=>∃ t,u = Value.float b t
 | .ref a,u=>u = Value.ref a
 | .ty n,u=>u = Value.type n
noncomputable abbrev Vals:List V → List Value → Prop:=Paired RelV
theorem Vals.length {xs:List V} {us:List Value} (r:Vals xs us):xs.length = us.length:=Paired.length r
theorem Vals.get:∀ {xs:List V} {us:List Value} {i:Nat} {x:V},Vals xs us → xs[i]? = some x → ∃ u,us[i]? = some u ∧ RelV x u
 | _,_,_,_,.nil,e=>by simp at e
 | _,_,0,_,.cons r _,e=>by simp at e; subst e; exact ⟨_,rfl,r⟩
 | _,_,i + 1,x,.cons _ t,e=>by
  obtain ⟨u,h1,h2⟩:=Vals.get (i:=i) (x:=x) t (by simpa using e)
  exact ⟨u,by simpa using h1,h2⟩
theorem Vals.set {x:V} {u:Value} (r:RelV x u):∀ {xs:List V} {us:List Value} (i:Nat),Vals xs us → Vals (xs.set i x) (us.set i u)
 | _,_,_,.nil=>.nil
 | _,_,0,.cons _ t=>.cons r t
 | _,_,i + 1,.cons q t=>.cons q (Vals.set r i t)
theorem Vals.append:∀ {xs ys:List V} {us ws:List Value},Vals xs us → Vals ys ws → Vals (xs ++ ys) (us ++ ws)
 | _,_,_,_,.nil,s=>s
 | _,_,_,_,.cons r t,s=>.cons r (Vals.append t s)
theorem Vals.take:∀ {xs:List V} {us:List Value} (n:Nat),Vals xs us → Vals (xs.take n) (us.take n)
 | _,_,0,_=>.nil
 | _,_,_ + 1,.nil=>.nil
 | _,_,n + 1,.cons r t=>.cons r (Vals.take n t)
theorem Vals.drop:∀ {xs:List V} {us:List Value} (n:Nat),Vals xs us → Vals (xs.drop n) (us.drop n)
 | _,_,0,r=>r
 | _,_,_ + 1,.nil=>.nil
 | _,_,n + 1,.cons _ t=>Vals.drop n t
noncomputable def RelO:Option V → Option Value → Prop
 | some v,some u=>RelV v u
 | none,none=>True
 | _,_=>False
noncomputable def KV {κ:Type}:List (κ × V) → List (κ × Value) → Prop:=Paired fun (p:κ × V) (q:κ × Value)=>p.1 = q.1 ∧ RelV p.2 q.2
noncomputable def kV:Key → V
 | .inl i=>.int i
 | .inr x=>.str x
inductive HO where
 | lst (xs:List V)
 | tup (xs:List V)
 | dK (kvs:List (Key × V)) | dT (kvs:List (List Key × V))
 | set (S:Int → Bool) (n:Nat)
 | ins (C dx:Addr) (fs:List (Str × V))
 | own (x:Addr)
 | xd (fs:List (Str × V))
 | met (f x:Addr)
 | rng (lo hi:Int)
 | frz (o:Obj) (u:HO)
 | tbl (ps:Array Value)
 | ext (φ:Heap → Prop)
noncomputable abbrev Hp:=Addr → Option HO
noncomputable def upd (H:Hp) (a:Addr) (o:HO):Hp:=fun b=>if b = a then some o else H b
theorem upd_same {H:Hp} {a:Addr} {o:HO}:upd H a o a = some o:=by unfold upd; rw [if_pos rfl]
theorem upd_ne {H:Hp} {a b:Addr} {o:HO} (h:b ≠ a):upd H a o b = H b:=by unfold upd; rw [if_neg h]
theorem ne_of {H:Hp} {a b:Addr} {o u:HO} (h:H a = some o) (h':H b = some u) (d:o ≠ u):a ≠ b:=by
 intro e; subst e; rw [h] at h'; exact d (Option.some.inj h')
theorem ne_of_none {H:Hp} {a b:Addr} {o:HO} (h:H a = some o) (h':H b = none):a ≠ b:=by
 intro e; subst e; rw [h] at h'; cases h'
noncomputable def IsTupN (h:Heap) (a:Addr) (items:Array Value):Prop:=∃ o,h.get? a = some o ∧ o.cls = .type "tuple" ∧ ∃ n,o.data = .seq items n ∧ o.dict = none
theorem IsTupN.tup {h:Heap} {a:Addr} {items:Array Value} (x:IsTupN h a items):IsTup h a items:=let ⟨o,e,c,n,d,_⟩:=x; ⟨o,e,c,n,d⟩
theorem IsTupN.new (h:Heap) (items:Array Value):IsTupN (h.push { cls:=.type "tuple",data:=.seq items }) h.objs.size items:=⟨_,Heap.get?_push_size _ rfl,rfl,_,rfl,rfl⟩
section
variable (P:Program) (w:World)
noncomputable def ObjOk (H:Hp) (h:Heap) (a:Addr):HO → Prop
 | .lst xs=>xs.length ≤ sizeLine ∧ ∃ (its:List Value) (n:Nat),Vals xs its ∧ h.get? a = some { cls:=.type "list",data:=.seq its.toArray n }
 | .tup xs=>xs.length ≤ sizeLine ∧ ∃ its:List Value,Vals xs its ∧ IsTupN h a its.toArray
 | .dK kvs=>kvs.length ≤ sizeLine ∧ (a == sysModules) = false ∧ ∃ vs,KV kvs vs ∧ h.DictOf (mixKind P w) a vs
 | .dT kvs=>kvs.length ≤ sizeLine ∧ (a == sysModules) = false ∧ ∃ xs:List (List Key × Addr × Value),
   Paired (fun (p:List Key × V) (q:List Key × Addr × Value)=>p.1 = q.1 ∧ H q.2.1 = some (.tup (p.1.map kV)) ∧ RelV p.2 q.2.2) kvs xs ∧
   ∃ o es ep,h.get? a = some o ∧ o.ExactDict ∧ o.data = .dict es ep ∧ es.toList = xs.map (entryOfKey (tupleKind (mixKind P w))) ∧ (xs.map (·.1)).Nodup
 | .set S n=>h.SetOf (intKind P w) a S n
 | .ins C dx fs=>H dx = some (.own a) ∧ fs.length ≤ 1000 ∧ dx ≠ a ∧ h.get? a = some (W.instObj C dx) ∧
   ∃ mA,h.Ns1 dx mA ∧ (∀ f,RelO (fs.lookup f) (mA f)) ∧ PySem.Within mA (fs.map (·.1))
 | .own _=>∃ o,h.get? a = some o
 | .xd fs=>∃ mA,h.Ns1 a mA ∧ ∀ f,RelO (fs.lookup f) (mA f)
 | .rng lo hi=>∃ t u v,h.get? a = some { cls:=.type "range",data:=.fields #[.int lo t,.int hi u,.int 1 v] }
 | .frz o u=>h.get? a = some o ∧ ObjOk H h a u
 | .tbl ps=>h.get? a = some { cls:=.none,data:=.fields ps }
 | .met f x=>h.get? a = some (W.methodObj (.ref f) (.ref x))
 | .ext φ=>φ h ∧ (∃ o,h.get? a = some o) ∧ ∀ h1 h2:Heap,φ h1 → (∀ o,h1.get? a = some o → h2.get? a = some o) → φ h2
noncomputable def HOk (H:Hp) (h:Heap):Prop:=∀ a o,H a = some o → ObjOk P w H h a o
end
section
variable {P:Program} {w:World} {H H':Hp} {h h':Heap} {a:Addr} {o:HO}
theorem ObjOk.lt (x:ObjOk P w H h a o):a < h.objs.size:=by
 cases o with
 | lst xs=>obtain ⟨_,_,_,_,e⟩:=x; exact Heap.lt_size e
 | tup xs=>obtain ⟨_,_,_,p⟩:=x; exact p.tup.lt
 | dK kvs=>obtain ⟨_,_,_,_,o,_,_,e,_⟩:=x; exact Heap.lt_size e
 | dT kvs=>obtain ⟨_,_,_,_,o,_,_,e,_⟩:=x; exact Heap.lt_size e
 | set S n=>obtain ⟨o,_,_,_,e,_⟩:=x; exact Heap.lt_size e
 | ins C dx fs=>obtain ⟨_,_,_,e,_⟩:=x; exact Heap.lt_size e
 | own y=>obtain ⟨_,e⟩:=x; exact Heap.lt_size e
 | xd fs=>obtain ⟨_,⟨_,_,_,e,_⟩,_⟩:=x; exact Heap.lt_size e
 | rng lo hi=>obtain ⟨_,_,_,e⟩:=x; exact Heap.lt_size e
 | frz ob u=>obtain ⟨e,_⟩:=x; exact Heap.lt_size e
 | tbl ps=>exact Heap.lt_size (show h.get? a = some _ from x)
 | met f y=>exact Heap.lt_size (show h.get? a = some _ from x)
 | ext φ=>obtain ⟨_,⟨_,e⟩,_⟩:=x; exact Heap.lt_size e
theorem Paired.mapP {α β:Type} {F G:α → β → Prop}:∀ {l₁:List α} {l₂:List β},Paired F l₁ l₂ → (∀ a b,F a b → G a b) → Paired G l₁ l₂
 | _,_,.nil,_=>.nil
 | _,_,.cons r t,f=>.cons (f _ _ r) (Paired.mapP t f)
theorem ObjOk.stay (x:ObjOk P w H h a o) (k:∀ b u,(b = a ∨ H b = some (.own a)) → h.get? b = some u → h'.get? b = some u)
  (ho:∀ b,H b = some (.own a) → H' b = some (.own a)) (ht:∀ b xs,H b = some (.tup xs) → H' b = some (.tup xs)):ObjOk P w H' h' a o:=by
 induction o with
 | lst xs=>obtain ⟨z,its,n,r,e⟩:=x; exact ⟨z,its,n,r,k _ _ (.inl rfl) e⟩
 | tup xs=>obtain ⟨z,its,r,ob,e,c⟩:=x; exact ⟨z,its,r,ob,k _ _ (.inl rfl) e,c⟩
 | dK kvs=>obtain ⟨z,y,vs,r,ob,es,ep,e,c⟩:=x; exact ⟨z,y,vs,r,ob,es,ep,k _ _ (.inl rfl) e,c⟩
 | dT kvs =>
  obtain ⟨z,y,xs,r,ob,es,ep,e,c⟩:=x
  exact ⟨z,y,xs,Paired.mapP r fun p q z=>⟨z.1,ht _ _ z.2.1,z.2.2⟩,ob,es,ep,k _ _ (.inl rfl) e,c⟩
 | set S n=>obtain ⟨ob,es,ep,t,e,c⟩:=x; exact ⟨ob,es,ep,t,k _ _ (.inl rfl) e,c⟩
 | ins C dx fs =>
  obtain ⟨d,z,ne,e,mA,⟨od,es,ep,e2,c⟩,r⟩:=x
  exact ⟨ho _ d,z,ne,k _ _ (.inl rfl) e,mA,⟨od,es,ep,k _ _ (.inr d) e2,c⟩,r⟩
 | own y=>obtain ⟨ob,e⟩:=x; exact ⟨ob,k _ _ (.inl rfl) e⟩
 | xd fs=>obtain ⟨mA,⟨od,es,ep,e,c⟩,r⟩:=x; exact ⟨mA,⟨od,es,ep,k _ _ (.inl rfl) e,c⟩,r⟩
 | rng lo hi=>obtain ⟨t,u,v,e⟩:=x; exact ⟨t,u,v,k _ _ (.inl rfl) e⟩
 | frz ob u ih=>obtain ⟨e,q⟩:=x; exact ⟨k _ _ (.inl rfl) e,ih q⟩
 | tbl ps =>
  have e:h.get? a = some { cls:=.none,data:=.fields ps }:=x
  show h'.get? a = some { cls:=.none,data:=.fields ps }
  exact k a _ (.inl rfl) e
 | met f y =>
  have e:h.get? a = some (W.methodObj (.ref f) (.ref y)):=x
  show h'.get? a = some (W.methodObj (.ref f) (.ref y))
  exact k a _ (.inl rfl) e
 | ext φ=>obtain ⟨p,⟨o,e⟩,st⟩:=x; exact ⟨st _ _ p fun o q=>k _ _ (.inl rfl) q,⟨o,k _ _ (.inl rfl) e⟩,st⟩
theorem HOk.lt (x:HOk P w H h) (e:H a = some o):a < h.objs.size:=(x a o e).lt
theorem HOk.fresh (x:HOk P w H h) (e:h.objs.size ≤ a):H a = none:=by
 cases q:H a with
 | none=>rfl
 | some u=>exact absurd (Nat.lt_of_lt_of_le (x.lt q) e) (Nat.lt_irrefl _)
theorem HOk.kept (x:HOk P w H h) (k:∀ b u,h.get? b = some u → h'.get? b = some u):HOk P w H h':=fun a o e =>
 (x a o e).stay (fun b u _ q=>k b u q) (fun _ q=>q) fun _ _ q=>q
theorem HOk.laid (x:HOk P w H h) (k:∀ b u,h.get? b = some u → h'.get? b = some u) (hp:h.objs.size ≤ a) (new:ObjOk P w (upd H a o) h' a o):HOk P w (upd H a o) h':=fun b u e=>by
 have hn:=x.fresh hp
 by_cases hb:b = a
 ·subst hb; rw [upd_same] at e; cases e; exact new
 ·rw [upd_ne hb] at e
  exact (x b u e).stay (fun c v _ q=>k c v q) (fun c q=>by rw [upd_ne (ne_of_none q hn)]; exact q) fun c xs q=>by rw [upd_ne (ne_of_none q hn)]; exact q
end
noncomputable def Rd (H:Hp) (a:Addr) (u:HO):Prop:=H a = some u ∨ ∃ o,H a = some (.frz o u)
theorem Rd.ok {P:Program} {w:World} {H:Hp} {h:Heap} {a:Addr} {u:HO} (r:Rd H a u) (x:HOk P w H h):ObjOk P w H h a u:=by
 rcases r with r | ⟨o,r⟩
 ·exact x a u r
 ·obtain ⟨_,q⟩:=x a _ r
  exact q
noncomputable def Mut:Option HO → Prop
 | some (.lst _)=>True
 | some (.dK _)=>True
 | some (.dT _)=>True
 | some (.set _ _)=>True
 | some (.ins _ _ _)=>True
 | some (.ext _)=>True
 | _=>False
section
variable {P:Program} {w:World} {H:Hp} {h h':Heap} {x e:Addr} {o':HO}
theorem HOk.write (ok:HOk P w H h) (mu:Mut (H x)) (he:e = x ∨ H e = some (.own x)) (k:∀ b u,b ≠ e → h.get? b = some u → h'.get? b = some u) (heo:∃ u,h'.get? e = some u)
  (new:ObjOk P w (upd H x o') h' x o'):HOk P w (upd H x o') h':=fun b u q=>by
 have nown:∀ c y,H c = some (.own y) → c ≠ x:=fun c y r z=>by subst z; rw [r] at mu; exact mu
 have ntup:∀ c xs,H c = some (.tup xs) → c ≠ x:=fun c xs r z=>by subst z; rw [r] at mu; exact mu
 by_cases hb:b = x
 ·subst hb; rw [upd_same] at q; cases q; exact new
 ·rw [upd_ne hb] at q
  by_cases hbe:b = e
  ·have q':H b = some (.own x):=by
    rcases he with z | z
    ·exact absurd (hbe.trans z) hb
    ·rw [hbe]; exact z
   rw [q] at q'; cases q'
   obtain ⟨v,hv⟩:=heo
   exact ⟨v,by rw [hbe]; exact hv⟩
  ·refine (ok b u q).stay (fun c v hc r=>k c v ?_ r) (fun c r=>by rw [upd_ne (nown c b r)]; exact r) fun c xs r=>by rw [upd_ne (ntup c xs r)]; exact r
   rcases hc with rfl | hc
   ·exact hbe
   ·rintro rfl
    rcases he with z | z
    ·exact nown c b hc z
    ·rw [hc] at z; cases z; exact hb rfl
end
structure Un (fs ex:List Addr) (H H':Hp) (h h':Heap):Prop where
 keep:∀ b o,h.get? b = some o → H b = none → b ∉ fs → b ∉ ex → h'.get? b = some o
 slot:∀ b o,h.get? b = some o → H b = none → b ∈ fs → b ∉ ex → ∃ sl,h'.get? b = some { o with slots:=sl }
 free:∀ b o,h.get? b = some o → H b = none → b ∉ ex → H' b = none
 there:∀ b o,h.get? b = some o → b ∉ ex → ∃ o',h'.get? b = some o'
 tups:∀ b xs,H b = some (.tup xs) → H' b = some (.tup xs)
 frzs:∀ b o u,H b = some (.frz o u) → H' b = some (.frz o u)
 tbls:∀ b ps,H b = some (.tbl ps) → ∃ more,H' b = some (.tbl (ps ++ more))
section
variable {fs fs' ex ex':List Addr} {H H1 H2:Hp} {h h1 h2 h':Heap} {a x e:Addr} {o:HO}
theorem Un.any (u:Un fs ex H H1 h h1) {b:Addr} {ob:Obj} (q:h.get? b = some ob) (n:H b = none) (hx:b ∉ ex):∃ sl,h1.get? b = some { ob with slots:=sl }:=by
 by_cases hb:b ∈ fs
 ·exact u.slot b ob q n hb hx
 ·exact ⟨ob.slots,u.keep b ob q n hb hx⟩
theorem Un.kept (k:∀ b u,h.get? b = some u → h'.get? b = some u):Un fs ex H H h h' :=
 ⟨fun b ob q _ _ _=>k b ob q,fun b ob q _ _ _=>⟨ob.slots,k b ob q⟩,fun _ _ _ n _=>n,fun b ob q _=>⟨ob,k b ob q⟩,fun _ _ q=>q,fun _ _ _ q=>q,fun _ ps q=>⟨#[],by rw [q]; simp⟩⟩
theorem Un.refl:Un fs ex H H h h:=Un.kept fun _ _ q=>q
theorem Un.laid (k:∀ b u,h.get? b = some u → h'.get? b = some u) (hp:h.objs.size ≤ a) (hn:H a = none):Un fs ex H (upd H a o) h h' where
 keep:=fun b u q _ _ _=>k b u q
 slot:=fun b u q _ _ _=>⟨u.slots,k b u q⟩
 free:=fun b u q n _=>by rw [upd_ne (Nat.ne_of_lt (Nat.lt_of_lt_of_le (Heap.lt_size q) hp))]; exact n
 there:=fun b u q _=>⟨u,k b u q⟩
 tups:=fun b xs q=>by rw [upd_ne (ne_of_none q hn)]; exact q
 frzs:=fun b u xs q=>by rw [upd_ne (ne_of_none q hn)]; exact q
 tbls:=fun b ps q=>⟨#[],by rw [upd_ne (ne_of_none q hn),q]; simp⟩
theorem Un.write (mu:Mut (H x)) (he:e = x ∨ H e = some (.own x)) (k:∀ b u,b ≠ e → h.get? b = some u → h'.get? b = some u) (heo:∃ u,h'.get? e = some u):Un fs ex H (upd H x o) h h':=by
 have hx:∀ b,H b = none → b ≠ x:=fun b n z=>by subst z; rw [n] at mu; exact mu
 have hb:∀ b,H b = none → b ≠ e:=fun b n z=>by
  subst z
  rcases he with r | r
  ·exact hx b n r
  ·rw [n] at r; cases r
 have hm:∀ b u,H b = some u → ¬ Mut (some u) → b ≠ x:=fun b u q nm z=>by subst z; rw [q] at mu; exact nm mu
 refine ⟨fun b u q n _ _=>k b u (hb b n) q,fun b u q n _ _=>⟨u.slots,k b u (hb b n) q⟩,fun b u q n _=>by rw [upd_ne (hx b n)]; exact n,fun b u q _=>?_,
  fun b xs q=>by rw [upd_ne (hm b _ q fun z=>z)]; exact q,fun b u xs q=>by rw [upd_ne (hm b _ q fun z=>z)]; exact q,fun b ps q=>⟨#[],by rw [upd_ne (hm b _ q fun z=>z),q]; simp⟩⟩
 by_cases hbe:b = e
 ·subst hbe; exact heo
 ·exact ⟨u,k b u hbe q⟩
end
noncomputable def trk (h:Heap) (H:Hp):List Addr:=(List.range h.objs.size).filter fun a=>(H a).isSome
noncomputable def hidT (h:Heap) (H:Hp):Heap:=W.hideAll h (trk h H)
theorem hidT_size (h:Heap) (H:Hp):(hidT h H).objs.size = h.objs.size:=W.hideAll_size _ _
theorem hidT_get {h:Heap} {H:Hp} {b:Addr} {o:Obj} (e:h.get? b = some o) (n:H b = none):(hidT h H).get? b = some o :=
 W.hideAll_get _ e fun hm=>by
  have q:(H b).isSome = true:=(List.mem_filter.mp hm).2
  rw [n] at q; simp at q
theorem of_hidT {h:Heap} {H:Hp} {b:Addr} {o:Obj} (e:(hidT h H).get? b = some o):h.get? b = some o ∧ H b = none:=by
 have e':h.get? b = some o:=W.of_hideAll (trk h H) e
 refine ⟨e',?_⟩
 cases q:H b with
 | none=>rfl
 | some x =>
  have hm:b ∈ trk h H:=List.mem_filter.mpr ⟨List.mem_range.mpr (Heap.lt_size e'),by simp [q]⟩
  have z:(hidT h H).get? b = none:=W.hideAll_none (trk h H) hm
  rw [z] at e; cases e
structure Mod (K:W.Frag) (mg:Str → Option Value) (base:Heap):Prop where
 kin:K.In base
 glob:base.Ns mainGlobals mg
 blt:∃ mb,base.Ns builtinsNs mb ∧ ∀ x:Str,x ≠ "__name__" → mb x = bootBuiltins x
 nolimit:base.NoLimit
structure Cx where
 prog:Program
 w:World
 K:W.Frag
 mg:Str → Option Value
 base:Heap
 A:Around
 N:List Str
 s₀:Shared
 H₀:Hp
 env:Env
 outer:List Env
 stack:List Env
 ex:List Addr
 fn:Str → Bool
 calm:Bool
 pn:List (Addr × Obj)
 xe:Value → Shared → Prop
noncomputable def frs (l:List Env):List Addr:=l.filterMap (·.frame)
noncomputable abbrev Cx.fs (X:Cx):List Addr:=frs X.outer
noncomputable def Vis (sc:Scope) (x:Str):Prop:=sc.names.lookup x = some .local ∨ sc.names.lookup x = some .cell ∨ sc.names.lookup x = some .free
noncomputable def Loc (sc:Scope) (x:Str):Prop:=sc.names.lookup x = some .local ∨ sc.names.lookup x = some .cell
noncomputable def Look (env:Env) (h:Heap) (m:Str → Option Value) (x:Str) (u:Value):Prop :=
 (env.kindOf x = some .local ∧ m x = some u) ∨ ((env.kindOf x = some .cell ∨ env.kindOf x = some .free) ∧ ∃ c,env.cells.lookup x = some c ∧ h.IsCell c (some u))
structure Cx.Ok (X:Cx):Prop where
 mod:Mod X.K X.mg X.base
 kind:X.env.scope.kind = .function
 glob:X.env.globals = mainGlobals
 blt:X.env.builtins = builtinsNs
 above:X.s₀.heap.objs.size ≤ X.env.locals
 inj:∀ x y c,X.env.cells.lookup x = some c → X.env.cells.lookup y = some c → x = y
 has:∀ x,(X.env.kindOf x = some .cell ∨ X.env.kindOf x = some .free) → ∃ c,X.env.cells.lookup x = some c
 cab:∀ x c,X.fn x = true → X.env.cells.lookup x = some c → X.s₀.heap.objs.size ≤ c
 hd:X.calm = true → X.A.handled = none
 frames:X.A.frames = some X.stack
 stk:X.stack = X.outer ∨ (X.stack = X.env :: X.outer ∧ X.env.frame = some X.env.locals)
 exf:∀ b ∈ X.ex,b ≠ X.env.locals ∧ ∀ x c,X.env.cells.lookup x = some c → c ≠ b
 bs:∀ b o,X.base.get? b = some o → X.s₀.heap.get? b = some o ∧ X.H₀ b = none
 bsz:X.base.objs.size ≤ X.s₀.heap.objs.size
 noex:∀ b o,X.base.get? b = some o → b ∉ X.ex
 exfs:∀ b ∈ X.ex,b ∉ X.fs
 funs:X.s₀.heap.FunFrames X.base X.outer
 frf:∀ b ∈ X.fs,X.H₀ b = none
structure Inv (X:Cx) (pins:List (Addr × Obj)) (σ:List (Option V)) (H:Hp) (s:Shared):Prop where
 ok:X.Ok
 os:s.os = X.s₀.os
 bare:AllBare s.gens
 base:Un X.fs X.ex X.H₀ H X.s₀.heap s.heap
 loc:∃ m,s.heap.Ns X.env.locals m ∧ ∀ (i:Nat) (x:Str) (v:V),X.N[i]? = some x → σ[i]? = some (some v) → Vis X.env.scope x → ∃ u,RelV v u ∧ Look X.env s.heap m x u
 cell:∀ x c,X.env.cells.lookup x = some c → ∃ v,s.heap.IsCell c v
 free:H X.env.locals = none
 freeC:∀ x c,X.env.cells.lookup x = some c → H c = none
 pin:∀ p ∈ X.pn ++ pins,s.heap.get? p.1 = some p.2 ∧ H p.1 = none ∧ p.1 ≠ X.env.locals ∧ p.1 ∉ X.fs ∧ ∀ v,p.2.data ≠ .cell v
 hok:HOk X.prog X.w H s.heap
 len:σ.length = X.N.length
section
variable {X:Cx} {pins:List (Addr × Obj)} {σ:List (Option V)} {H H':Hp} {s:Shared} {h':Heap}
theorem Cx.Ok.nofr (ok:X.Ok) {b:Addr} {o:Obj} (e:X.base.get? b = some o):b ∉ X.fs:=fun hb=>by
 have:=(ok.funs.mem hb).1
 rw [e] at this; cases this
theorem Inv.bs (I:Inv X pins σ H s):∀ b o,X.base.get? b = some o → s.heap.get? b = some o ∧ H b = none:=fun b o e =>
 ⟨I.base.keep b o (I.ok.bs b o e).1 (I.ok.bs b o e).2 (I.ok.nofr e) (I.ok.noex b o e),I.base.free b o (I.ok.bs b o e).1 (I.ok.bs b o e).2 (I.ok.noex b o e)⟩
theorem Inv.bk (I:Inv X pins σ H s):∀ b o,X.base.get? b = some o → s.heap.get? b = some o:=fun b o e=>(I.bs b o e).1
theorem Inv.mod (I:Inv X pins σ H s):Mod X.K X.mg X.base:=I.ok.mod
theorem Inv.kIn (I:Inv X pins σ H s):X.K.In s.heap:=I.ok.mod.kin.keeps I.bk
theorem Inv.lt (I:Inv X pins σ H s):X.env.locals < s.heap.objs.size:=let ⟨_,hn,_⟩:=I.loc; hn.lt
theorem Inv.sz (I:Inv X pins σ H s):X.s₀.heap.objs.size ≤ s.heap.objs.size:=Nat.le_trans I.ok.above (Nat.le_of_lt I.lt)
theorem Inv.nofs (I:Inv X pins σ H s) {a:Addr} (h:s.heap.objs.size ≤ a):a ∉ X.fs:=fun hb=>by
 obtain ⟨_,o,ho,_⟩:=I.ok.funs.mem hb
 exact absurd (Nat.lt_of_lt_of_le (Heap.lt_size ho) (Nat.le_trans I.sz h)) (Nat.lt_irrefl _)
theorem Inv.cne (I:Inv X pins σ H s):∀ x c,X.env.cells.lookup x = some c → c ≠ X.env.locals:=fun x c e z=>by
 obtain ⟨v,o,ho,hd⟩:=I.cell x c e
 obtain ⟨m,⟨o',es,ep,ho',hd',_⟩,_⟩:=I.loc
 rw [z,ho'] at ho; cases ho; rw [hd'] at hd; cases hd
theorem Inv.funs (I:Inv X pins σ H s):s.heap.FunFrames X.base X.outer:=by
 have all:∀ (l:List Env),(∀ b ∈ frs l,b ∈ X.fs) → X.s₀.heap.FunFrames X.base l → s.heap.FunFrames X.base l:=by
  intro l
  induction l with
  | nil=>intro _ _; trivial
  | cons env r ih =>
   intro hs hl
   obtain ⟨hk,⟨L,o,hf,hn,ho,hd⟩,hr⟩:=hl
   have hL:L ∈ X.fs:=hs L (by unfold frs; rw [List.filterMap_cons,hf]; exact List.mem_cons_self)
   obtain ⟨sl,e⟩:=I.base.slot L o ho (I.ok.frf L hL) hL fun z=>I.ok.exfs L z hL
   exact ⟨hk,⟨L,_,hf,hn,e,hd⟩,ih (fun b hb=>hs b (by unfold frs; rw [List.filterMap_cons,hf]; exact List.mem_cons_of_mem _ hb)) hr⟩
 exact all X.outer (fun _ hb=>hb) I.ok.funs
theorem Inv.stack (I:Inv X pins σ H s):s.heap.FunFrames X.base X.stack:=by
 rcases I.ok.stk with e | ⟨e,hf⟩
 ·rw [e]; exact I.funs
 ·rw [e]
  obtain ⟨m,hn,_⟩:=I.loc
  refine .cons (by rw [I.ok.kind]; decide) hf hn ?_ I.funs
  exact Heap.get?_none_of_le (Nat.le_trans I.ok.bsz I.ok.above)
theorem Inv.stkSub (I:Inv X pins σ H s):∀ b ∈ frs X.stack,b ∈ X.env.locals :: X.fs:=fun b hb=>by
 rcases I.ok.stk with e | ⟨e,hf⟩
 ·rw [e] at hb; exact List.mem_cons_of_mem _ hb
 ·rw [e] at hb
  unfold frs at hb
  rw [List.filterMap_cons,hf] at hb
  exact hb
theorem Inv.stkFree (I:Inv X pins σ H s):∀ b ∈ frs X.stack,H b = none:=fun b hb=>by
 rcases List.mem_cons.mp (I.stkSub b hb) with e | hb
 ·rw [e]; exact I.free
 ·obtain ⟨_,o,ho,_⟩:=I.ok.funs.mem hb
  exact I.base.free b o ho (I.ok.frf b hb) fun z=>I.ok.exfs b z hb
theorem Inv.step {g':Array GenState} {t':Nat} {d':Drawn} {ch:List Addr} (I:Inv X pins σ H s)
  (hch:∀ b ∈ ch,(b ∈ X.ex ∨ X.s₀.heap.objs.size ≤ b) ∧ b ≠ X.env.locals ∧ (∀ x c,X.env.cells.lookup x = some c → c ≠ b) ∧ ∀ p ∈ X.pn ++ pins,p.1 ≠ b)
  (keep:∀ b o,b ≠ X.env.locals → b ∉ X.fs → b ∉ ch → s.heap.get? b = some o → H b = none → h'.get? b = some o)
  (slot:∀ b o,b ≠ X.env.locals → b ∈ X.fs → b ∉ ch → s.heap.get? b = some o → H b = none → ∃ sl,h'.get? b = some { o with slots:=sl }) (free:∀ b o,b ∉ ch → s.heap.get? b = some o → H b = none → H' b = none)
  (there:∀ b o,b ∉ ch → s.heap.get? b = some o → ∃ o',h'.get? b = some o')
  (tups:∀ b xs,H b = some (.tup xs) → H' b = some (.tup xs)) (frzs:∀ b o u,H b = some (.frz o u) → H' b = some (.frz o u)) (tbls:∀ b ps,H b = some (.tbl ps) → ∃ more,H' b = some (.tbl (ps ++ more)))
  (ns:∀ m,s.heap.Ns X.env.locals m → h'.Ns X.env.locals m) (hok:HOk X.prog X.w H' h') (hg:AllBare g') :
  Inv X pins σ H' { s with heap:=h',gens:=g',drawn:=d',toks:=t' }:=by
 have neL:∀ b o,X.s₀.heap.get? b = some o → b ≠ X.env.locals:=fun b o e=>Nat.ne_of_lt (Nat.lt_of_lt_of_le (Heap.lt_size e) I.ok.above)
 have neC:∀ b o,X.s₀.heap.get? b = some o → b ∉ X.ex → b ∉ ch:=fun b o e hx hb=>by
  rcases (hch b hb).1 with z | z
  ·exact hx z
  ·exact absurd (Nat.lt_of_lt_of_le (Heap.lt_size e) z) (Nat.lt_irrefl _)
 have cellK:∀ x c,X.env.cells.lookup x = some c → ∀ v,s.heap.IsCell c v → h'.IsCell c v:=fun x c e v ⟨o,ho,hd⟩=>by
  have nch:c ∉ ch:=fun z=>(hch c z).2.2.1 x c e rfl
  by_cases hc:c ∈ X.fs
  ·obtain ⟨sl,q⟩:=slot c o (I.cne x c e) hc nch ho (I.freeC x c e)
   exact ⟨_,q,hd⟩
  ·exact ⟨o,keep c o (I.cne x c e) hc nch ho (I.freeC x c e),hd⟩
 refine ⟨I.ok,I.os,hg,⟨fun b o e n hb hx=>?_,fun b o e n hb hx=>?_,fun b o e n hx=>?_,fun b o e hx=>?_,fun b xs e=>tups b xs (I.base.tups b xs e),fun b o xs e=>frzs b o xs (I.base.frzs b o xs e),fun b ps e=>?_⟩,?_,fun x c e=>?_,?_,fun x c e=>?_,fun p hp=>?_,hok,I.len⟩
 ·exact keep b o (neL b o e) hb (neC b o e hx) (I.base.keep b o e n hb hx) (I.base.free b o e n hx)
 ·obtain ⟨sl,e1⟩:=I.base.slot b o e n hb hx
  obtain ⟨sl',e2⟩:=slot b _ (neL b o e) hb (neC b o e hx) e1 (I.base.free b o e n hx)
  exact ⟨sl',e2⟩
 ·obtain ⟨o',e1⟩:=I.base.there b o e hx
  exact free b o' (neC b o e hx) e1 (I.base.free b o e n hx)
 ·obtain ⟨o',e1⟩:=I.base.there b o e hx
  exact there b o' (neC b o e hx) e1
 ·obtain ⟨m1,e1⟩:=I.base.tbls b ps e
  obtain ⟨m2,e2⟩:=tbls b _ e1
  exact ⟨m1 ++ m2,by rw [e2,Array.append_assoc]⟩
 ·obtain ⟨m,hn,hl⟩:=I.loc
  refine ⟨m,ns m hn,fun i x v e1 e2 e3=>?_⟩
  obtain ⟨u,r,l⟩:=hl i x v e1 e2 e3
  refine ⟨u,r,?_⟩
  rcases l with l | ⟨k,c,e,z⟩
  ·exact .inl l
  ·exact .inr ⟨k,c,e,cellK x c e _ z⟩
 ·obtain ⟨v,z⟩:=I.cell x c e
  exact ⟨v,cellK x c e v z⟩
 ·obtain ⟨m,⟨o,_,_,ho,_⟩,_⟩:=I.loc
  exact free _ o (fun z=>(hch _ z).2.1 rfl) ho I.free
 ·obtain ⟨v,o,ho,hd⟩:=I.cell x c e
  exact free c o (fun z=>(hch c z).2.2.1 x c e rfl) ho (I.freeC x c e)
 ·obtain ⟨e,n,ne,nf,d⟩:=I.pin p hp
  have nch:p.1 ∉ ch:=fun z=>(hch p.1 z).2.2.2 p hp rfl
  exact ⟨keep p.1 p.2 ne nf nch e n,free p.1 p.2 nch e n,ne,nf,d⟩
theorem Inv.un {t':Nat} (I:Inv X pins σ H s) (u:Un X.fs [] H H' s.heap h') (hok:HOk X.prog X.w H' h'):Inv X pins σ H' { s with heap:=h',toks:=t' }:=by
 obtain ⟨m,⟨o,es,ep,ho,r⟩,_⟩:=id I.loc
 obtain ⟨sl,hL⟩:=u.any ho I.free (by simp)
 exact I.step (g':=s.gens) (d':=s.drawn) (ch:=[]) (fun _ z=>nomatch z) (fun b o _ hb _ e n=>u.keep b o e n hb (by simp)) (fun b o _ hb _ e n=>u.slot b o e n hb (by simp)) (fun b o _ e n=>u.free b o e n (by simp)) (fun b o _ e=>u.there b o e (by simp)) u.tups u.frzs u.tbls (fun m' hm=>by
  obtain ⟨o',es',ep',ho',r'⟩:=hm
  rw [ho] at ho'; cases ho'
  exact ⟨_,es',ep',hL,r'⟩) hok I.bare
theorem Inv.call {g':Array GenState} {t':Nat} {d':Drawn} {ch:List Addr} (I:Inv X pins σ H s) (u:Un (frs X.stack) ch H H' s.heap h') (hok:HOk X.prog X.w H' h') (hg:AllBare g')
  (hch:∀ b ∈ ch,(b ∈ X.ex ∨ X.s₀.heap.objs.size ≤ b) ∧ b ≠ X.env.locals ∧ (∀ x c,X.env.cells.lookup x = some c → c ≠ b) ∧ ∀ p ∈ X.pn ++ pins,p.1 ≠ b) :
  Inv X pins σ H' { s with heap:=h',gens:=g',drawn:=d',toks:=t' }:=by
 obtain ⟨m,⟨o,es,ep,ho,r⟩,_⟩:=id I.loc
 obtain ⟨sl,hL⟩:=u.any ho I.free fun z=>(hch _ z).2.1 rfl
 exact I.step (ch:=ch) hch (fun b o hL hb hc e n=>u.keep b o e n (fun z=>(List.mem_cons.mp (I.stkSub b z)).elim hL hb) hc) (fun b o _ _ hc e n=>u.any e n hc) (fun b o hc e n=>u.free b o e n hc) (fun b o hc e=>u.there b o e hc) u.tups u.frzs u.tbls (fun m' hm=>by
  obtain ⟨o',es',ep',ho',r'⟩:=hm
  rw [ho] at ho'; cases ho'
  exact ⟨_,es',ep',hL,r'⟩) hok hg
theorem Inv.turned {t':Nat} {it:Addr} (I:Inv X pins σ H s) (k:∀ b o,b ≠ it → s.heap.get? b = some o → h'.get? b = some o) (hn:H it = none) (hL:it ≠ X.env.locals)
  (h1:it ∈ X.ex ∨ X.s₀.heap.objs.size ≤ it) (h2:∀ x c,X.env.cells.lookup x = some c → c ≠ it) (h3:∀ p ∈ X.pn ++ pins,p.1 ≠ it):Inv X pins σ H { s with heap:=h',toks:=t' }:=by
 have nit:∀ b u,H b = some u → b ≠ it:=fun b u e z=>by rw [z,hn] at e; cases e
 refine I.step (g':=s.gens) (d':=s.drawn) (ch:=[it]) (fun b hb=>?_) (fun b o _ _ hc e _=>k b o (fun z=>hc (by simp [z])) e) (fun b o _ _ hc e _=>⟨o.slots,k b o (fun z=>hc (by simp [z])) e⟩) (fun _ _ _ _ n=>n)
  (fun b o hc e=>⟨o,k b o (fun z=>hc (by simp [z])) e⟩) (fun _ _ e=>e) (fun _ _ _ e=>e) (fun b ps e=>⟨#[],by rw [e]; simp⟩) (fun m hm=>?_) (fun b u e=>?_) I.bare
 ·have e:b = it:=by simpa using hb
  subst e
  exact ⟨h1,hL,h2,h3⟩
 ·obtain ⟨o,es,ep,ho,r⟩:=hm
  exact ⟨o,es,ep,k _ o (Ne.symm hL) ho,r⟩
 ·refine (I.hok b u e).stay (fun c v hc q=>k c v ?_ q) (fun _ q=>q) fun _ _ q=>q
  rcases hc with z | z
  ·rw [z]; exact nit b u e
  ·exact nit c _ z
theorem Inv.tok (I:Inv X pins σ H s) (t:Nat):Inv X pins σ H { s with toks:=t }:=I.un (h':=s.heap) (t':=t) Un.refl I.hok
theorem Inv.kept {t':Nat} (I:Inv X pins σ H s) (k:∀ b u,s.heap.get? b = some u → h'.get? b = some u):Inv X pins σ H { s with heap:=h',toks:=t' }:=I.un (Un.kept k) (I.hok.kept k)
theorem Inv.laid {a:Addr} {o:HO} {t':Nat} (I:Inv X pins σ H s) (k:∀ b u,s.heap.get? b = some u → h'.get? b = some u) (hp:s.heap.objs.size ≤ a) (new:ObjOk X.prog X.w (upd H a o) h' a o) :
  Inv X pins σ (upd H a o) { s with heap:=h',toks:=t' }:=I.un (Un.laid k hp (I.hok.fresh hp)) (I.hok.laid k hp new)
theorem Inv.write {x e:Addr} {o:HO} {t':Nat} (I:Inv X pins σ H s) (mu:Mut (H x)) (he:e = x ∨ H e = some (.own x)) (k:∀ b u,b ≠ e → s.heap.get? b = some u → h'.get? b = some u) (heo:∃ u,h'.get? e = some u)
  (new:ObjOk X.prog X.w (upd H x o) h' x o):Inv X pins σ (upd H x o) { s with heap:=h',toks:=t' }:=I.un (Un.write mu he k heo) (I.hok.write mu he k heo new)
theorem Inv.weak {σ':List (Option V)} (I:Inv X pins σ H s) (hl:σ'.length = σ.length) (w:∀ (i:Nat) v,σ'[i]? = some (some v) → σ[i]? = some (some v)):Inv X pins σ' H s :=
 ⟨I.ok,I.os,I.bare,I.base,let ⟨m,hn,hl'⟩:=I.loc; ⟨m,hn,fun i x v e1 e2 e3=>hl' i x v e1 (w i v e2) e3⟩,I.cell,I.free,I.freeC,I.pin,I.hok,hl.trans I.len⟩
theorem Inv.pins_of {pins':List (Addr × Obj)} (I:Inv X pins σ H s) (h:∀ p ∈ pins',s.heap.get? p.1 = some p.2 ∧ H p.1 = none ∧ p.1 ≠ X.env.locals ∧ p.1 ∉ X.fs ∧ ∀ v,p.2.data ≠ .cell v):Inv X pins' σ H s :=
 ⟨I.ok,I.os,I.bare,I.base,I.loc,I.cell,I.free,I.freeC,fun p hp=>(List.mem_append.mp hp).elim (fun z=>I.pin p (List.mem_append_left _ z)) (h p),I.hok,I.len⟩
theorem nodup_ix {N:List Str} (hN:N.Nodup) {i j:Nat} {x:Str} (a:N[i]? = some x) (b:N[j]? = some x):i = j:=by
 obtain ⟨h1,e1⟩:=List.getElem?_eq_some_iff.mp a
 obtain ⟨h2,e2⟩:=List.getElem?_eq_some_iff.mp b
 exact (List.getElem_inj hN).mp (e1.trans e2.symm)
theorem store_ok2 {M:Model} {A:Around} {E:Value → Shared → Prop} {i:Nat} {x:Str} {v:V} {u:Value} {Q:Unit → Shared → Prop} (I:Inv X pins σ H s) (hN:X.N.Nodup) (hi:X.N[i]? = some x) (hx:Loc X.env.scope x) (r:RelV v u)
  (h:∀ s',Inv X pins (σ.set i (some v)) H s' → (∃ a,Heap.SameBut a s.heap s'.heap ∧ (a = X.env.locals ∨ X.env.cells.lookup x = some a)) → Q () s') (hf:X.fn x = true ∨ X.env.scope.names.lookup x = some .local:=by first | exact .inl rfl | exact .inr rfl | assumption):wpAny M A (storeName X.env x u) Q E s:=by
 obtain ⟨m,hn,hl⟩:=id I.loc
 have hcls:(X.env.scope.kind == .class || (X.env.scope.kind == .module && X.env.locals != X.env.globals)) = false:=by rw [I.ok.kind]; rfl
 have hiσ:i < σ.length:=by rw [I.len]; exact (List.getElem?_eq_some_iff.mp hi).1
 have cne:=I.cne
 have tracked:∀ {a:Addr} {h':Heap},(∃ o,s.heap.get? a = some o ∧ H a = none) → Heap.SameBut a s.heap h' → HOk X.prog X.w H h':=fun {a h'} ha hs b ob e=>by
  obtain ⟨_,_,hfree⟩:=ha
  refine (I.hok b ob e).stay (fun c w' hc q=>(hs.2 c ?_).trans q) (fun _ q=>q) fun _ _ q=>q
  rintro rfl
  rcases hc with rfl | hc
  ·rw [hfree] at e; cases e
  ·rw [hfree] at hc; cases hc
 rcases hx with hk | hk
 ·refine wpAny_storeName_local hk hn (fun h' hn' hs=>?_) hcls
  obtain ⟨oL,_,_,hoL,_⟩:=id hn
  refine h _ ⟨I.ok,I.os,I.bare,⟨fun b o e n hb hx=>?_,fun b o e n hb hx=>?_,I.base.free,fun b o e hx=>?_,I.base.tups,I.base.frzs,I.base.tbls⟩,⟨_,hn',fun j y v' e1 e2 e3=>?_⟩,fun y c e=>?_,I.free,I.freeC,fun p hp=>?_,tracked ⟨oL,hoL,I.free⟩ hs,by simpa using I.len⟩ ⟨_,hs,.inl rfl⟩
  ·exact (hs.2 b (Nat.ne_of_lt (Nat.lt_of_lt_of_le (Heap.lt_size e) I.ok.above))).trans (I.base.keep b o e n hb hx)
  ·obtain ⟨sl,e1⟩:=I.base.slot b o e n hb hx
   exact ⟨sl,(hs.2 b (Nat.ne_of_lt (Nat.lt_of_lt_of_le (Heap.lt_size e) I.ok.above))).trans e1⟩
  ·obtain ⟨o',e1⟩:=I.base.there b o e hx
   exact ⟨o',(hs.2 b (Nat.ne_of_lt (Nat.lt_of_lt_of_le (Heap.lt_size e) I.ok.above))).trans e1⟩
  ·by_cases hj:j = i
   ·subst hj
    rw [hi] at e1; cases e1
    rw [List.getElem?_set_self hiσ] at e2
    cases e2
    exact ⟨u,r,.inl ⟨hk,by simp⟩⟩
   ·rw [List.getElem?_set_ne (Ne.symm hj)] at e2
    obtain ⟨u',r',q⟩:=hl j y v' e1 e2 e3
    refine ⟨u',r',?_⟩
    rcases q with ⟨k,e⟩ | ⟨k,c,e,z⟩
    ·refine .inl ⟨k,?_⟩
     have:y ≠ x:=fun e=>hj (nodup_ix hN e1 (e ▸ hi))
     simp [this,e]
    ·exact .inr ⟨k,c,e,z.sameBut hs (cne y c e)⟩
  ·obtain ⟨w',z⟩:=I.cell y c e
   exact ⟨w',z.sameBut hs (cne y c e)⟩
  ·obtain ⟨e,n,ne,nf,d⟩:=I.pin p hp
   exact ⟨(hs.2 p.1 ne).trans e,n,ne,nf,d⟩
 ·have hfn:X.fn x = true:=by
   rcases hf with z | z
   ·exact z
   ·rw [z] at hk; cases hk
  obtain ⟨c,hc⟩:=I.ok.has x (.inl hk)
  obtain ⟨w',z⟩:=I.cell x c hc
  refine wpAny_storeName_cell I.ok.kind hk hc z (fun h' hc' hs=>?_)
  obtain ⟨oc,hoc,hocd⟩:=id z
  refine h { s with heap:=h' } ⟨I.ok,I.os,I.bare,⟨fun b o e n hb hx=>?_,fun b o e n hb hx=>?_,I.base.free,fun b o e hx=>?_,I.base.tups,I.base.frzs,I.base.tbls⟩,⟨m,hn.sameBut hs (Ne.symm (cne x c hc)),fun j y v' e1 e2 e3=>?_⟩,fun y c' e=>?_,I.free,I.freeC,fun p hp=>?_,tracked ⟨oc,hoc,I.freeC x c hc⟩ hs,by simpa using I.len⟩ ⟨c,hs,.inr hc⟩
  ·exact (hs.2 b (Nat.ne_of_lt (Nat.lt_of_lt_of_le (Heap.lt_size e) (I.ok.cab x c hfn hc)))).trans (I.base.keep b o e n hb hx)
  ·obtain ⟨sl,e1⟩:=I.base.slot b o e n hb hx
   exact ⟨sl,(hs.2 b (Nat.ne_of_lt (Nat.lt_of_lt_of_le (Heap.lt_size e) (I.ok.cab x c hfn hc)))).trans e1⟩
  ·obtain ⟨o',e1⟩:=I.base.there b o e hx
   exact ⟨o',(hs.2 b (Nat.ne_of_lt (Nat.lt_of_lt_of_le (Heap.lt_size e) (I.ok.cab x c hfn hc)))).trans e1⟩
  ·by_cases hj:j = i
   ·subst hj
    rw [hi] at e1; cases e1
    rw [List.getElem?_set_self hiσ] at e2
    cases e2
    exact ⟨u,r,.inr ⟨.inl hk,c,hc,hc'⟩⟩
   ·rw [List.getElem?_set_ne (Ne.symm hj)] at e2
    obtain ⟨u',r',q⟩:=hl j y v' e1 e2 e3
    refine ⟨u',r',?_⟩
    rcases q with q | ⟨k,c',e,z'⟩
    ·exact .inl q
    ·refine .inr ⟨k,c',e,z'.sameBut hs ?_⟩
     rintro rfl
     exact hj (nodup_ix hN e1 (I.ok.inj _ _ _ e hc ▸ hi))
  ·by_cases hcc:c' = c
   ·subst hcc; exact ⟨_,hc'⟩
   ·obtain ⟨w2,z2⟩:=I.cell y c' e
    exact ⟨w2,z2.sameBut hs hcc⟩
  ·obtain ⟨e,n,ne,nf,d⟩:=I.pin p hp
   refine ⟨(hs.2 p.1 ?_).trans e,n,ne,nf,d⟩
   intro q
   rw [q,hoc] at e
   have q':oc = p.2:=Option.some.inj e
   exact d w' (by rw [← q']; exact hocd)
theorem store_ok {M:Model} {A:Around} {E:Value → Shared → Prop} {i:Nat} {x:Str} {v:V} {u:Value} {Q:Unit → Shared → Prop} (I:Inv X pins σ H s) (hN:X.N.Nodup) (hi:X.N[i]? = some x) (hx:Loc X.env.scope x) (r:RelV v u)
  (h:∀ s',Inv X pins (σ.set i (some v)) H s' → Q () s') (hf:X.fn x = true ∨ X.env.scope.names.lookup x = some .local:=by first | exact .inl rfl | exact .inr rfl | assumption):wpAny M A (storeName X.env x u) Q E s :=
 store_ok2 I hN hi hx r (fun s' I' _=>h s' I') hf
theorem Inv.call' {s':Shared} {ch:List Addr} (I:Inv X pins σ H s) (ho:s'.os = s.os) (u:Un (frs X.stack) ch H H' s.heap s'.heap) (hok:HOk X.prog X.w H' s'.heap) (hg:AllBare s'.gens)
  (hch:∀ b ∈ ch,(b ∈ X.ex ∨ X.s₀.heap.objs.size ≤ b) ∧ b ≠ X.env.locals ∧ (∀ x c,X.env.cells.lookup x = some c → c ≠ b) ∧ ∀ p ∈ X.pn ++ pins,p.1 ≠ b):Inv X pins σ H' s':=by
 obtain ⟨h',g',d',t',o'⟩:=s'
 have e:o' = s.os:=ho
 subst e
 exact I.call (g':=g') (t':=t') (d':=d') u hok hg hch
end
noncomputable abbrev XK:=Value → Option Addr → Hp → Prop
noncomputable abbrev St:=List (Option V)
noncomputable abbrev VK:=V → Hp → Prop
noncomputable abbrev TE:=St → Hp → VK → Prop
noncomputable abbrev TT:=St → Hp → (Bool → Hp → Prop) → Prop
noncomputable abbrev TA:=St → Hp → (List V → Hp → Prop) → Prop
structure Ends where
 nx:St → Hp → Prop
 rt:VK
 bk:St → Hp → Prop:=fun _ _=>False
 ct:St → Hp → Prop:=fun _ _=>False
noncomputable abbrev TS:=Ends → St → Hp → Prop
noncomputable def EP (X:Cx) (pins:List (Addr × Obj)) (σ:St) (Q:VK) (u:Value) (s':Shared):Prop:=∃ v H',Inv X pins σ H' s' ∧ RelV v u ∧ Q v H'
noncomputable def TP (X:Cx) (pins:List (Addr × Obj)) (σ:St) (Q:Bool → Hp → Prop) (b:Bool) (s':Shared):Prop:=∃ H',Inv X pins σ H' s' ∧ Q b H'
noncomputable def AP (X:Cx) (pins:List (Addr × Obj)) (σ:St) (Q:List V → Hp → Prop) (us:List Value) (s':Shared):Prop:=∃ vs H',Inv X pins σ H' s' ∧ Vals vs us ∧ Q vs H'
noncomputable def SP (X:Cx) (pins:List (Addr × Obj)) (D:Ends) (f:Flow) (s':Shared):Prop :=
 match f with
 | .next=>∃ σ' H',Inv X pins σ' H' s' ∧ D.nx σ' H'
 | .brk=>∃ σ' H',Inv X pins σ' H' s' ∧ D.bk σ' H'
 | .cont=>∃ σ' H',Inv X pins σ' H' s' ∧ D.ct σ' H'
 | .ret u=>∃ v σ' H',Inv X pins σ' H' s' ∧ RelV v u ∧ D.rt v H'
noncomputable def PE (X:Cx) (e:Expr) (t:TE):Prop :=
 ∀ (pins:List (Addr × Obj)) (s:Shared) (σ:St) (H:Hp) (Q:VK),Inv X pins σ H s → t σ H Q → wpAny (model X.prog X.w) X.A (eval e X.env) (EP X pins σ Q) X.xe s
noncomputable def PT (X:Cx) (e:Expr) (t:TT):Prop :=
 ∀ (pins:List (Addr × Obj)) (s:Shared) (σ:St) (H:Hp) (Q:Bool → Hp → Prop),Inv X pins σ H s → t σ H Q → wpAny (model X.prog X.w) X.A (isTrue e X.env (eval e X.env)) (TP X pins σ Q) X.xe s
noncomputable def PW (X:Cx) (e:Expr) (t:TT):Prop :=
 ∀ (whole:Sem Value) (pins:List (Addr × Obj)) (s:Shared) (σ:St) (H:Hp) (Q:Bool → Hp → Prop),Inv X pins σ H s → t σ H Q → wpAny (model X.prog X.w) X.A (isTrue e X.env whole) (TP X pins σ Q) X.xe s
theorem PW.pt {X:Cx} {e:Expr} {t:TT} (h:PW X e t):PT X e t:=h _
noncomputable def PA (X:Cx) (es:List Expr) (t:TA):Prop :=
 ∀ (pos:Pos) (pins:List (Addr × Obj)) (s:Shared) (σ:St) (H:Hp) (Q:List V → Hp → Prop),Inv X pins σ H s → t σ H Q → wpAny (model X.prog X.w) X.A (spliced (backTo pos (starEach es X.env))) (AP X pins σ Q) X.xe s
noncomputable def PS (X:Cx) (st:Stmt) (t:TS):Prop :=
 ∀ (pins:List (Addr × Obj)) (s:Shared) (σ:St) (H:Hp) (D:Ends),Inv X pins σ H s → t D σ H → wpAny (model X.prog X.w) X.A (exec st X.env) (SP X pins D) X.xe s
noncomputable def PSs (X:Cx) (st:List Stmt) (t:TS):Prop :=
 ∀ (pins:List (Addr × Obj)) (s:Shared) (σ:St) (H:Hp) (D:Ends),Inv X pins σ H s → t D σ H → wpAny (model X.prog X.w) X.A (execs st X.env) (SP X pins D) X.xe s
theorem thn {α:Type} {t:Sem α} {Q Q':α → Shared → Prop} {M:Model} {A:Around} {E:Value → Shared → Prop} {s:Shared} (h:wpAny M A t Q E s) (hQ:∀ a s,Q a s → Q' a s):wpAny M A t Q' E s:=wpAny_mono h hQ fun _ _ x=>x
section
variable {X:Cx}
noncomputable def tVar (i:Nat):TE:=fun σ H Q=>∃ v,σ[i]? = some (some v) ∧ Q v H
noncomputable def tC (v:V):TE:=fun _ H Q=>Q v H
theorem pe_var {i:Nat} {x:Str} {pos:Pos} (hN:X.N[i]? = some x) (hv:Vis X.env.scope x) (hd:(x == ("__debug__" : Str)) = false:=by decide) (hcd:(x == ("__classdict__" : Str)) = false:=by decide):PE X (.Name x pos) (tVar i):=by
 intro pins s σ H Q I h
 obtain ⟨v,e,h⟩:=h
 obtain ⟨m,hn,hl⟩:=I.loc
 obtain ⟨u,r,l⟩:=hl i x v hN e hv
 have fin:EP X pins σ Q u s:=⟨v,H,I,r,h⟩
 rcases l with ⟨hk,hm⟩ | ⟨hk,c,hc,hcell⟩
 ·exact wpAny_Name (wpAny_loadName_local I.ok.kind hk hn hm fin) hd
 ·rcases hk with hk | hk
  ·exact wpAny_Name (wpAny_loadName_cell I.ok.kind hk hc hcell fin) hd
  ·exact wpAny_Name (wpAny_loadName_free I.ok.kind hk hc hcell fin hcd) hd
theorem pe_int {i j pos}:PE X (.Constant (.int i) j pos) (tC (.int i)):=fun _ _ _ H _ I h=>wpAny_Constant_int ⟨.int i,H,I.tok _,⟨_,rfl⟩,h⟩
theorem pe_bl {b j pos}:PE X (.Constant (.bool b) j pos) (tC (.bl b)):=fun _ _ _ H _ I h=>Constant_bool ⟨.bl b,H,I,rfl,h⟩
theorem pe_non {j pos}:PE X (.Constant .none j pos) (tC .non):=fun _ _ _ H _ I h=>Constant_none ⟨.non,H,I,rfl,h⟩
theorem pe_str {x j pos}:PE X (.Constant (.str x) j pos) (tC (.str x)):=fun _ _ _ H _ I h=>Calls.Constant_str ⟨.str x,H,I.tok _,⟨_,rfl⟩,h⟩
noncomputable def Gl (X:Cx) (x:Str):Prop:=X.env.kindOf x = some .globalImplicit
theorem ld_glob {E:Value → Shared → Prop} {pins:List (Addr × Obj)} {s:Shared} {σ:St} {H:Hp} {x:Str} {u:Value} {pos:Pos} {Q:Value → Shared → Prop} (I:Inv X pins σ H s) (hg:Gl X x) (hm:X.mg x = some u) (h:Q u s)
  (hd:(x == ("__debug__" : Str)) = false:=by decide):wpAny (model X.prog X.w) X.A (eval (.Name x pos) X.env) Q E s :=
 Calls.Name_function_global I.ok.kind hg (Calls.loadGlobal_global (by rw [I.ok.glob]; exact I.mod.glob.keeps I.bk) hm h) hd
theorem ld_blt {E:Value → Shared → Prop} {pins:List (Addr × Obj)} {s:Shared} {σ:St} {H:Hp} {x:Str} {u:Value} {pos:Pos} {Q:Value → Shared → Prop} (I:Inv X pins σ H s) (hg:Gl X x) (hm:X.mg x = none) (hv:bootBuiltins x = some u) (h:Q u s)
  (hn:x ≠ "__name__" := by decide) (hd:(x == ("__debug__" : Str)) = false:=by decide):wpAny (model X.prog X.w) X.A (eval (.Name x pos) X.env) Q E s:=by
 obtain ⟨mb,h1,h2⟩:=I.mod.blt
 exact Calls.Name_function_global I.ok.kind hg (Calls.loadGlobal_builtin (by rw [I.ok.glob]; exact I.mod.glob.keeps I.bk) hm (by rw [I.ok.blt]; exact h1.keeps I.bk) ((h2 x hn).trans hv) h) hd
theorem pe_bltn {x:Str} {v:V} {u:Value} {pos:Pos} (hg:Gl X x) (hm:X.mg x = none) (hv:bootBuiltins x = some u) (r:RelV v u) (hn:x ≠ "__name__" := by decide) (hd:(x == ("__debug__" : Str)) = false:=by decide):PE X (.Name x pos) (tC v) :=
 fun _ _ _ H _ I h=>ld_blt I hg hm hv ⟨v,H,I,r,h⟩ hn hd
variable {a b:Expr} {ta tb:TE} {pos:Pos}
noncomputable def PC (X:Cx) (op:CmpOp) (a b:Expr) (t:TE):Prop :=
 ∀ (pins:List (Addr × Obj)) (s:Shared) (σ:St) (H:Hp) (Q:VK),Inv X pins σ H s → t σ H Q →
  wpAny (model X.prog X.w) X.A (eval a X.env) (fun v s₁=>wpAny (model X.prog X.w) X.A (eval b X.env) (fun u s₂=>wpAny (model X.prog X.w) X.A (compareOp op v u) (EP X pins σ Q) X.xe s₂) X.xe s₁) X.xe s
noncomputable def tB (t:TE):TT:=fun σ H Q=>t σ H fun x H1=>∃ c,x = .bl c ∧ Q c H1
theorem pt_cmp {op:CmpOp} {t:TE} (h:PC X op a b t) (h1:behindInMarks op b = false:=by first | exact nobehind _ (by decide) (by decide) | rfl):PT X (.Compare a [op] [b] pos) (tB t):=by
 intro pins s σ H Q I hw
 refine wpAny_isTrue_Compare1 (thn (h pins s σ H _ I hw) fun v s1 h1=>thn h1 fun u s2 h2=>thn h2 fun c s3 ⟨x,H1,I1,r1,q1⟩=>?_) h1
 obtain ⟨d,rfl,q⟩:=q1
 cases r1
 exact wpAny_truthy_bool ⟨H1,I1,q⟩
theorem pt_val {e:Expr} {t:TE} (h:PE X e t) (he:∀ whole,isTrue e X.env whole = (do let v ← whole; standAt e.pos; holding [v] (truthy v)):=by intro _; rfl):PT X e (tB t):=by
 intro pins s σ H Q I hw
 refine isTrue_plain (thn (h pins s σ H _ I hw) fun v s1 ⟨x,H1,I1,r1,q1⟩=>?_) (he _)
 obtain ⟨d,rfl,q⟩:=q1
 cases r1
 exact wpAny_truthy_bool ⟨H1,I1,q⟩
variable {tA tB':TT} {rest:List Expr}
noncomputable def tAnd (t u:TT):TT:=fun σ H Q=>t σ H fun c H1=>if c = true then u σ H1 Q else Q false H1
noncomputable def tOr (t u:TT):TT:=fun σ H Q=>t σ H fun c H1=>if c = true then Q true H1 else u σ H1 Q
noncomputable def tNot (t:TT):TT:=fun σ H Q=>t σ H fun c H1=>Q (!c) H1
theorem pw_and1 (ha:PT X a tA):PW X (.BoolOp .And [a] pos) tA:=by
 intro wh pins s σ H Q I h
 refine isTrue_and (thn (ha pins s σ H Q I h) fun c s1 e=>?_)
 cases c with
 | true=>exact isTrue_and_nil e
 | false=>exact e
theorem pw_or1 (ha:PT X a tA):PW X (.BoolOp .Or [a] pos) tA:=by
 intro wh pins s σ H Q I h
 refine isTrue_or (thn (ha pins s σ H Q I h) fun c s1 e=>?_)
 cases c with
 | false=>exact isTrue_or_nil e
 | true=>exact e
theorem pw_and (ha:PT X a tA) (hb:PW X (.BoolOp .And (b :: rest) pos) tB'):PW X (.BoolOp .And (a :: b :: rest) pos) (tAnd tA tB'):=by
 intro wh pins s σ H Q I h
 refine isTrue_and (thn (ha pins s σ H _ I h) fun c s1 ⟨H1,I1,q1⟩=>?_)
 cases c with
 | true=>exact hb wh pins s1 σ H1 Q I1 q1
 | false=>exact ⟨H1,I1,q1⟩
theorem pw_or (ha:PT X a tA) (hb:PW X (.BoolOp .Or (b :: rest) pos) tB'):PW X (.BoolOp .Or (a :: b :: rest) pos) (tOr tA tB'):=by
 intro wh pins s σ H Q I h
 refine isTrue_or (thn (ha pins s σ H _ I h) fun c s1 ⟨H1,I1,q1⟩=>?_)
 cases c with
 | true=>exact ⟨H1,I1,q1⟩
 | false=>exact hb wh pins s1 σ H1 Q I1 q1
theorem pt_not (ha:PT X a tA):PT X (.UnaryOp .Not a pos) (tNot tA):=by
 intro pins s σ H Q I h
 exact isTrue_not (ha pins s σ H (fun c H1=>Q (!c) H1) I h)
noncomputable def tAndV (ta tb:TE):TE:=fun σ H Q=>ta σ H fun x H1=>∃ c,x = .bl c ∧ if c = true then tb σ H1 Q else Q (.bl false) H1
theorem pe_one {op} {t:TE} (h:PE X a t):PE X (.BoolOp op [a] pos) t:=fun pins s σ H Q I hw=>BoolOp_one (h pins s σ H Q I hw)
theorem pe_and (ha:PE X a ta) (hb:PE X (.BoolOp .And (b :: rest) pos) tb):PE X (.BoolOp .And (a :: b :: rest) pos) (tAndV ta tb):=by
 intro pins s σ H Q I h
 refine BoolOp_and (thn (ha pins s σ H _ I h) fun v s1 ⟨x,H1,I1,r1,q1⟩=>?_)
 obtain ⟨c,rfl,q1⟩:=q1
 cases r1
 refine wpAny_truthy_bool ?_
 cases c with
 | true=>exact hb pins s1 σ H1 Q I1 q1
 | false=>exact ⟨.bl false,H1,I1,rfl,q1⟩
end
noncomputable def SqL (K:W.Frag) (H:Hp) (a:Addr) (xs:List V):Prop :=
 Rd H a (.lst xs) ∨
  ∃ (o:Obj) (its:Array Value) (n:Nat),K.lookup a = some o ∧ o.cls = .type "list" ∧ o.dict = none ∧ o.data = .seq its n ∧ its.size ≤ sizeLine ∧ Vals xs its.toList
noncomputable def SqT (K:W.Frag) (H:Hp) (a:Addr) (xs:List V):Prop :=
 Rd H a (.tup xs) ∨
  ∃ (o:Obj) (its:Array Value) (n:Nat),K.lookup a = some o ∧ o.cls = .type "tuple" ∧ o.data = .seq its n ∧ its.size ≤ sizeLine ∧ Vals xs its.toList
noncomputable def absV:Value → Option V
 | .none=>some .non
 | .bool b=>some (.bl b)
 | .int i _=>some (.int i)
 | .str x _=>some (.str x)
 | .bytes b _=>some (.byt b)
 | .float b _=>some (.flt b)
 | .ref a=>some (.ref a)
 | .type n=>some (.ty n)
 | _=>none
theorem RelV.abs {x:V} {u:Value} (r:RelV x u):absV u = some x:=by
 cases x with
 | non=>cases r; rfl
 | bl _=>cases r; rfl
 | int _=>obtain ⟨t,rfl⟩:=r; rfl
 | str _=>obtain ⟨t,rfl⟩:=r; rfl
 | byt _=>obtain ⟨t,rfl⟩:=r; rfl
 | flt _=>obtain ⟨t,rfl⟩:=r; rfl
 | ref _=>cases r; rfl
 | ty _=>cases r; rfl
theorem RelV.inj {x y:V} {u:Value} (r:RelV x u) (q:RelV y u):x = y:=Option.some.inj (r.abs.symm.trans q.abs)
theorem Vals.inj:∀ {xs ys:List V} {us:List Value},Vals xs us → Vals ys us → xs = ys
 | _,_,_,.nil,.nil=>rfl
 | _,_,_,.cons r t,.cons r' t'=>by rw [r.inj r',Vals.inj t t']
section
variable {X:Cx} {pins:List (Addr × Obj)} {σ:St} {H:Hp} {s:Shared} {a:Addr} {xs ys:List V}
theorem SqT.of {K:W.Frag} (h:H a = some (.tup xs)):SqT K H a xs:=.inl (.inl h)
theorem Inv.list (I:Inv X pins σ H s) (h:SqL X.K H a xs):∃ its:List Value,Vals xs its ∧ PlainL s.heap a its.toArray ∧ xs.length ≤ sizeLine:=by
 rcases h with h | ⟨o,its,n,hk,hc,hd,hs,hz,r⟩
 ·obtain ⟨z,its,n,r,e⟩:=h.ok I.hok
  exact ⟨its,r,⟨_,n,e,rfl,rfl,rfl⟩,z⟩
 ·refine ⟨its.toList,r,⟨o,n,I.kIn a o hk,hc,hd,by simpa using hs⟩,?_⟩
  have e:=r.length
  simp only [Array.length_toList] at e
  omega
theorem Inv.tuple (I:Inv X pins σ H s) (h:SqT X.K H a xs):∃ its:List Value,Vals xs its ∧ IsTup s.heap a its.toArray ∧ xs.length ≤ sizeLine:=by
 rcases h with h | ⟨o,its,n,hk,hc,hs,hz,r⟩
 ·obtain ⟨z,its,r,p⟩:=h.ok I.hok
  exact ⟨its,r,p.tup,z⟩
 ·refine ⟨its.toList,r,⟨o,I.kIn a o hk,hc,n,by simpa using hs⟩,?_⟩
  have e:=r.length
  simp only [Array.length_toList] at e
  omega
theorem Inv.list_inj (I:Inv X pins σ H s) (h:SqL X.K H a xs) (h':SqL X.K H a ys):xs = ys:=by
 obtain ⟨its,r,⟨o,n,e,_,_,d⟩,_⟩:=I.list h
 obtain ⟨its',r',⟨o',n',e',_,_,d'⟩,_⟩:=I.list h'
 rw [e] at e'; cases e'
 rw [d] at d'
 injection d' with d1 _
 have:its = its':=by simpa using congrArg Array.toList d1
 subst this
 exact r.inj r'
theorem Inv.tuple_inj (I:Inv X pins σ H s) (h:SqT X.K H a xs) (h':SqT X.K H a ys):xs = ys:=by
 obtain ⟨its,r,⟨o,e,_,n,d⟩,_⟩:=I.tuple h
 obtain ⟨its',r',⟨o',e',_,n',d'⟩,_⟩:=I.tuple h'
 rw [e] at e'; cases e'
 rw [d] at d'
 injection d' with d1 _
 have:its = its':=by simpa using congrArg Array.toList d1
 subst this
 exact r.inj r'
end
noncomputable abbrev Cx.wish (X:Cx) (E:Value → Shared → Prop):Cx:={ X with xe:=E }
noncomputable abbrev Cx.nox (X:Cx):Cx:=X.wish fun _ _=>False
theorem Cx.Ok.wish {X:Cx} (ok:X.Ok) (E:Value → Shared → Prop):(X.wish E).Ok :=
 ⟨ok.mod,ok.kind,ok.glob,ok.blt,ok.above,ok.inj,ok.has,ok.cab,ok.hd,ok.frames,ok.stk,ok.exf,ok.bs,ok.bsz,ok.noex,ok.exfs,ok.funs,ok.frf⟩
theorem Cx.Ok.unwish {X:Cx} {E:Value → Shared → Prop} (ok:(X.wish E).Ok):X.Ok :=
 ⟨ok.mod,ok.kind,ok.glob,ok.blt,ok.above,ok.inj,ok.has,ok.cab,ok.hd,ok.frames,ok.stk,ok.exf,ok.bs,ok.bsz,ok.noex,ok.exfs,ok.funs,ok.frf⟩
section
variable {X:Cx} {pins:List (Addr × Obj)} {σ:St} {H:Hp} {s:Shared} {E:Value → Shared → Prop}
theorem Inv.wish (I:Inv X pins σ H s) (E:Value → Shared → Prop):Inv (X.wish E) pins σ H s:=⟨I.ok.wish E,I.os,I.bare,I.base,I.loc,I.cell,I.free,I.freeC,I.pin,I.hok,I.len⟩
theorem Inv.unwish (I:Inv (X.wish E) pins σ H s):Inv X pins σ H s:=⟨I.ok.unwish,I.os,I.bare,I.base,I.loc,I.cell,I.free,I.freeC,I.pin,I.hok,I.len⟩
theorem SP.unwish {D:Ends} {f:Flow} {s':Shared} (h:SP (X.wish E) pins D f s'):SP X pins D f s':=by
 cases f with
 | next=>obtain ⟨σ',H',I,q⟩:=h; exact ⟨σ',H',I.unwish,q⟩
 | brk=>obtain ⟨σ',H',I,q⟩:=h; exact ⟨σ',H',I.unwish,q⟩
 | cont=>obtain ⟨σ',H',I,q⟩:=h; exact ⟨σ',H',I.unwish,q⟩
 | ret u=>obtain ⟨v,σ',H',I,r,q⟩:=h; exact ⟨v,σ',H',I.unwish,r,q⟩
theorem PSs.nox {st:List Stmt} {t:TS} (h:PSs X.nox st t):PSs X st t:=fun pins s σ H D I hw =>
 wpAny_mono (h pins s σ H D (I.wish _) hw) (fun _ _ q=>q.unwish) fun _ _ z=>False.elim z
end
section
variable {X:Cx} {st:Stmt} {rest:List Stmt} {t u:TS} {e:Expr} {te:TE} {pos:Pos}
noncomputable def tNext:TS:=fun D σ H=>D.nx σ H
noncomputable def tSeq (t u:TS):TS:=fun D σ H=>t { D with nx:=u D } σ H
theorem pss_nil:PSs X [] tNext:=fun _ _ σ H _ I h=>wpAny_execs_nil ⟨σ,H,I,h⟩
theorem pss_cons (h1:PS X st t) (h2:PSs X rest u):PSs X (st :: rest) (tSeq t u):=by
 intro pins s σ H D I h
 refine wpAny_execs_cons (thn (h1 pins s σ H { D with nx:=u D } I h) fun f s1 q=>?_)
 cases f with
 | next =>
  obtain ⟨σ',H',I',q⟩:=q
  exact h2 pins s1 σ' H' D I' q
 | ret v=>exact q
 | brk=>exact q
 | cont=>exact q
theorem Inv.quiet {pins:List (Addr × Obj)} {σ:St} {H:Hp} {s:Shared} (I:Inv X pins σ H s):interactive X.env = false:=by simp [interactive,I.ok.kind]
noncomputable def tDrop (te:TE):TS:=fun D σ H=>te σ H fun _ H1=>D.nx σ H1
theorem ps_expr (he:PE X e te) (hs:swapsWith e none pos.line X.env = pure false:=by rfl):PS X (.Expr e pos) (tDrop te):=by
 intro pins s σ H D I h
 exact wpAny_Expr_any (thn (he pins s σ H _ I h) fun v s1 ⟨x,H1,I1,r1,q1⟩=>⟨σ,H1,I1,q1⟩) I.quiet hs
noncomputable def tRet (te:TE):TS:=fun D σ H=>te σ H D.rt
theorem ps_ret (he:PE X e te):PS X (.Return (some e) pos) (tRet te):=by
 intro pins s σ H D I h
 exact wpAny_Return_some (thn (he pins s σ H _ I h) fun v s1 ⟨x,H1,I1,r1,q1⟩=>⟨x,σ,H1,I1,r1,q1⟩)
noncomputable def tIfS (c:TT) (t u:TS):TS:=fun D σ H=>c σ H fun b H1=>if b = true then t D σ H1 else u D σ H1
theorem ps_if {c:Expr} {a b:List Stmt} {tc:TT} (hc:PT X c tc) (ha:PSs X a t) (hb:PSs X b u):PS X (.If c a b pos) (tIfS tc t u):=by
 intro pins s σ H D I h
 refine wpAny_If (thn (hc pins s σ H _ I h) fun d s1 ⟨H1,I1,q1⟩=>?_)
 cases d with
 | true=>exact ha pins s1 σ H1 D I1 q1
 | false=>exact hb pins s1 σ H1 D I1 q1
noncomputable def tNever:TS:=fun _ _ _=>False
theorem pss_never {sts:List Stmt}:PSs X sts tNever:=fun _ _ _ _ _ _ h=>h.elim
end
noncomputable abbrev TG:=V → St → Hp → (St → Hp → Prop) → Prop
noncomputable abbrev TGs:=List V → St → Hp → (St → Hp → Prop) → Prop
noncomputable def PG (X:Cx) (target:Expr) (t:TG):Prop :=
 ∀ (pins:List (Addr × Obj)) (s:Shared) (σ:St) (H:Hp) (v:V) (u:Value) (Q:St → Hp → Prop),Inv X pins σ H s → RelV v u → t v σ H Q →
  wpAny (model X.prog X.w) X.A (assign target X.env u) (fun _ s'=>∃ σ' H',Inv X pins σ' H' s' ∧ Q σ' H') X.xe s
noncomputable def PGs (X:Cx) (ts:List Expr) (t:TGs):Prop :=
 ∀ (pins:List (Addr × Obj)) (s:Shared) (σ:St) (H:Hp) (vs:List V) (us:List Value) (Q:St → Hp → Prop),Inv X pins σ H s → Vals vs us → t vs σ H Q →
  wpAny (model X.prog X.w) X.A (assignInOrder ((assignEach ts X.env).map (·.2)) us) (fun _ s'=>∃ σ' H',Inv X pins σ' H' s' ∧ Q σ' H') X.xe s
noncomputable abbrev TSet:=V → V → V → Hp → (Hp → Prop) → Prop
noncomputable def PSet (X:Cx) (t:TSet):Prop :=
 ∀ (pins:List (Addr × Obj)) (s:Shared) (σ:St) (H:Hp) (o i v:V) (ov iv u:Value) (Q:Hp → Prop),Inv X pins σ H s → RelV o ov → RelV i iv → RelV v u → t o i v H Q →
  wpAny (model X.prog X.w) X.A (setItem ov iv u) (fun _ s'=>∃ H',Inv X pins σ H' s' ∧ Q H') X.xe s
section
variable {X:Cx} {pos:Pos}
noncomputable def gName (i:Nat):TG:=fun v σ H Q=>Q (σ.set i (some v)) H
theorem pg_name {i:Nat} {x:Str} (hN:X.N.Nodup) (hi:X.N[i]? = some x) (hx:Loc X.env.scope x) (hf:X.fn x = true ∨ X.env.scope.names.lookup x = some .local:=by first | exact .inl rfl | exact .inr rfl | assumption):PG X (.Name x pos) (gName i):=by
 intro pins s σ H v u Q I r h
 exact wpAny_assign_Name (store_ok I hN hi hx r (fun s' I'=>⟨_,H,I',h⟩) hf)
noncomputable def gNil:TGs:=fun vs σ H Q=>vs = [] ∧ Q σ H
noncomputable def gCons (t:TG) (u:TGs):TGs:=fun vs σ H Q=>∃ v r,vs = v :: r ∧ t v σ H fun σ' H'=>u r σ' H' Q
theorem pgs_nil:PGs X [] gNil:=by
 intro pins s σ H vs us Q I r h
 obtain ⟨e,h⟩:=h
 subst e
 cases r
 exact assignInOrder_nil ⟨σ,H,I,h⟩
theorem pgs_cons {e:Expr} {es:List Expr} {t:TG} {u:TGs} (h1:PG X e t) (h2:PGs X es u)
  (hs:(assignEach (e :: es) X.env).map (·.2) = assign e X.env :: (assignEach es X.env).map (·.2):=by rfl):PGs X (e :: es) (gCons t u):=by
 intro pins s σ H vs us Q I r h
 obtain ⟨v,vr,e1,h⟩:=h
 subst e1
 cases r with
 | cons r rr =>
  rw [hs]
  refine assignInOrder_cons (thn (h1 pins s σ H _ _ _ I r h) fun _ s1 ⟨σ1,H1,I1,q1⟩=>?_)
  exact h2 pins s1 σ1 H1 _ _ Q I1 rr q1
noncomputable def gTup (K:W.Frag) (n:Nat) (t:TGs):TG:=fun v σ H Q=>∃ a xs,v = .ref a ∧ SqT K H a xs ∧ xs.length = n ∧ t xs σ H Q
theorem pg_tup {es:List Expr} {k:Nat} {t:TGs} {n:Nat} (hc:X.calm = true) (h:PGs X es t)
  (hn:(assignEach es X.env).length = n:=by rfl) (hst:(assignEach es X.env).findIdx? (·.1) = none:=by rfl):PG X (.Tuple es k pos) (gTup X.K n t):=by
 intro pins s σ H v u Q I r hw
 obtain ⟨a,xs,e1,hq,hl,hw⟩:=hw
 subst e1
 cases r
 obtain ⟨its,rv,ht,hz⟩:=I.tuple hq
 refine assign_Tuple_tuple (I.ok.hd hc) ht (by simp [hn,← hl,rv.length]) hst fun h' hx=>?_
 have I1:Inv X pins σ H { s with heap:=h' }:=I.kept (t':=s.toks) fun b o e=>hx b o (Nat.ne_of_lt (Heap.lt_size e)) e
 exact h pins _ σ H xs _ Q I1 (by simpa using rv) hw
noncomputable def gSub (to ti:TE) (t:TSet):TG:=fun v σ H Q=>to σ H fun o H1=>ti σ H1 fun i H2=>t o i v H2 fun H3=>Q σ H3
theorem pg_sub {o i:Expr} {to ti:TE} {t:TSet} (ho:PE X o to) (hi:PE X i ti) (hs:PSet X t)
  (ha:∀ v,assign (.Subscript o i pos) X.env v = (do
   let ov ← holding [v] (eval o X.env)
   let iv ← holding [v,ov] (eval i X.env)
   standAt pos
   holding [v,ov,iv] (setItem ov iv v)
   release [v,ov,iv] []):=by intro _; rfl):PG X (.Subscript o i pos) (gSub to ti t):=by
 intro pins s σ H v u Q I r h
 rw [ha]
 refine wpAny_bind (wpAny_holding (thn (ho pins s σ H _ I h) fun ov s1 ⟨x,H1,I1,r1,q1⟩=>?_))
 refine wpAny_bind (wpAny_holding (thn (hi pins s1 σ H1 _ I1 q1) fun iv s2 ⟨y,H2,I2,r2,q2⟩=>?_))
 refine wpAny_bind (wpAny_standAt (wpAny_bind (wpAny_holding (thn (hs pins s2 σ H2 x y v ov iv u _ I2 r1 r2 r q2) fun _ s3 ⟨H3,I3,q3⟩=>?_))))
 exact wpAny_release ⟨σ,H3,I3,q3⟩
noncomputable def tAsg (te:TE) (g:TG):TS:=fun D σ H=>te σ H fun x H1=>g x σ H1 D.nx
theorem ps_asg {tg e:Expr} {te:TE} {g:TG} (he:PE X e te) (hg:PG X tg g) (hs:swapsWithSole [tg] e pos.line X.env = pure false:=by rfl) (hw:swappedStores [tg] e X.env = pure none:=by rfl)
  (h1:(assignEach [tg] X.env).map (·.2) = [assign tg X.env]:=by rfl):PS X (.Assign [tg] e pos) (tAsg te g):=by
 intro pins s σ H D I h
 refine wpAny_Assign_stores (thn (he pins s σ H _ I h) fun v s1 ⟨x,H1,I1,r1,q1⟩=>?_) hs hw
 rw [h1]
 exact thn (hg pins s1 σ H1 x v _ I1 r1 q1) fun _ s2 q=>q
end
section
variable {X:Cx} {pos:Pos}
noncomputable def tWhile (c:TT) (tb:TS):TS:=fun D σ H=>∃ W:Nat → St → Hp → Prop,(∃ m,W m σ H) ∧ ∀ m σ H,W m σ H →
 c σ H fun b H1=>if b = true then ∃ N:St → Hp → Prop,(∀ σ' H',N σ' H' → ∃ m',m' < m ∧ W m' σ' H') ∧ tb { D with nx:=N,ct:=N,bk:=D.nx } σ H1 else D.nx σ H1
theorem ps_while {c:Expr} {body:List Stmt} {tc:TT} {tb:TS} (hp:PassesOwn (model X.prog X.w) X.A X.env X.xe) (hc:PT X c tc) (hb:PSs X body tb):PS X (.While c body [] pos) (tWhile tc tb):=by
 intro pins s σ H D I h
 obtain ⟨W,⟨m0,w0⟩,turn⟩:=h
 refine wpAny_While (codeAny_whileLoop (fun n s'=>∃ σ' H',Inv X pins σ' H' s' ∧ W n σ' H') ?_ m0 ⟨σ,H,I,w0⟩)
 rintro n s1 ⟨σ1,H1,I1,w1⟩
 refine wpAny_passesOwn hp (thn (hc pins s1 σ1 H1 _ I1 (turn n σ1 H1 w1)) fun b s2 ⟨H2,I2,q2⟩=>?_)
 cases b with
 | true =>
  obtain ⟨N,hN,q2⟩:=q2
  rw [if_pos rfl]
  refine wpAny_passesOwn hp (thn (hb pins s2 σ1 H2 _ I2 q2) fun f s3 q3=>?_)
  cases f with
  | next =>
   obtain ⟨σ3,H3,I3,n3⟩:=q3
   obtain ⟨m',hm,w3⟩:=hN σ3 H3 n3
   exact ⟨m',hm,σ3,H3,I3,w3⟩
  | cont =>
   obtain ⟨σ3,H3,I3,n3⟩:=q3
   obtain ⟨m',hm,w3⟩:=hN σ3 H3 n3
   exact ⟨m',hm,σ3,H3,I3,w3⟩
  | brk=>exact q3
  | ret v=>exact q3
 | false =>
  rw [if_neg Bool.false_ne_true]
  exact wpAny_execs_nil ⟨σ1,H2,I2,q2⟩
end
structure It where
 go:Nat → Hp → Prop
 yld:Nat → Hp → V → Hp → Prop
 stop:Nat → Hp → Prop
noncomputable def FpOk (X:Cx) (pins:List (Addr × Obj)) (H:Hp) (b:Addr):Prop :=
 H b = none ∧ b ≠ X.env.locals ∧ b ∉ X.fs ∧ (b ∈ X.ex ∨ X.s₀.heap.objs.size ≤ b) ∧ (∀ x c,X.env.cells.lookup x = some c → c ≠ b) ∧ ∀ p ∈ X.pn ++ pins,p.1 ≠ b
theorem Inv.fpOk {X:Cx} {pins:List (Addr × Obj)} {σ:St} {H H':Hp} {s:Shared} {b:Addr} (I:Inv X pins σ H s) (hb:s.heap.objs.size ≤ b) (hn:H' b = none):FpOk X pins H' b:=by
 refine ⟨hn,Nat.ne_of_gt (Nat.lt_of_lt_of_le I.lt hb),I.nofs hb,.inr (Nat.le_trans I.sz hb),fun x c e z=>?_,fun p hp z=>?_⟩
 ·obtain ⟨v,q⟩:=I.cell x c e
  exact absurd (Nat.lt_of_lt_of_le q.lt (by rw [z]; exact hb)) (Nat.lt_irrefl _)
 ·exact absurd (Nat.lt_of_lt_of_le (Heap.lt_size (I.pin p hp).1) (by rw [z]; exact hb)) (Nat.lt_irrefl _)
structure Turn (P:Program) (w:World) (K:W.Frag) (tg:Expr) (J:It) (fp:List Addr) (it:Addr) (tn:Nat → Heap → Prop):Prop where
 mem:it ∈ fp
 obj:∀ i h,tn i h → ∀ b ∈ fp,∃ o,h.get? b = some o ∧ ∀ v,o.data ≠ .cell v
 keep:∀ i h h',tn i h → (∀ b ∈ fp,∀ o,h.get? b = some o → h'.get? b = some o) → tn i h'
 item:∀ (X:Cx),X.prog = P → X.w = w → X.K = K → X.calm = true → ∀ (i:Nat) (pins:List (Addr × Obj)) (s:Shared) (σ:St) (H:Hp) (E:Value → Shared → Prop),Inv X pins σ H s → (∀ b ∈ fp,FpOk X pins H b) → tn i s.heap → J.go i H →
  wpAny (model P w) X.A (pyNext (.ref it)) (fun r s1=>∃ u,r = some u ∧
   wpAny (model P w) X.A (letOwnedTupleGo tg (.ref it) u) (fun _ s2=>∃ x H',Inv X pins σ H' s2 ∧ RelV x u ∧ J.yld i H x H' ∧ tn (i + 1) s2.heap ∧ ∀ b ∈ fp,H' b = none) E s1) E s
 done:∀ (X:Cx),X.prog = P → X.w = w → X.K = K → X.calm = true → ∀ (i:Nat) (pins:List (Addr × Obj)) (s:Shared) (σ:St) (H:Hp) (E:Value → Shared → Prop),Inv X pins σ H s → (∀ b ∈ fp,FpOk X pins H b) → tn i s.heap → J.stop i H →
  wpAny (model P w) X.A (pyNext (.ref it)) (fun r s1=>r = none ∧ Inv X pins σ H s1) E s
 self:∀ (A:Around) (i:Nat) (s:Shared) (Q:Value → Shared → Prop) (E:Value → Shared → Prop),tn i s.heap → Q (.ref it) s → wpAny (model P w) A (pyIter (.ref it)) Q E s
noncomputable abbrev TI:=St → Hp → (It → Hp → Prop) → Prop
noncomputable def PIE (X:Cx) (pins:List (Addr × Obj)) (σ:St) (tg:Expr) (R:It → Hp → Prop) (itv:Value) (s2:Shared):Prop :=
 ∃ (it:Addr) (fp:List Addr) (tn:Nat → Heap → Prop) (J:It) (H':Hp),itv = .ref it ∧ Inv X pins σ H' s2 ∧ Turn X.prog X.w X.K tg J fp it tn ∧ tn 0 s2.heap ∧ (∀ b ∈ fp,FpOk X pins H' b) ∧ R J H'
noncomputable def PI (X:Cx) (tg iter:Expr) (wi:TI):Prop :=
 ∀ (pins:List (Addr × Obj)) (s:Shared) (σ:St) (H:Hp) (R:It → Hp → Prop),Inv X pins σ H s → wi σ H R →
  wpAny (model X.prog X.w) X.A (eval iter X.env) (fun v s1=>wpAny (model X.prog X.w) X.A (pyIter v) (PIE X pins σ tg R) X.xe s1) X.xe s
theorem go_of {M:Model} {A:Around} {E:Value → Shared → Prop} {s:Shared} {tg:Expr} {it:Addr} {u:Value} {o:Obj} {n:String} {vs:Array Value} {Q:Unit → Shared → Prop} (ho:s.heap.get? it = some o) (hc:o.cls = .type n) (hd:o.data = .fields vs)
  (hn:["enumerate", "zip", "dict_itemiterator", "dict_reverseitemiterator", "odict_iterator", "itertools.zip_longest", "itertools.pairwise"].contains n = false) (hQ:Q () s):wpAny M A (letOwnedTupleGo tg (.ref it) u) Q E s:=by
 unfold letOwnedTupleGo
 cases tg <;> first
  | exact wpAny_pure hQ
  | (cases u <;> first
    | exact wpAny_pure hQ
    | (refine wpAny_bind (wpAny_load ho ?_)
       rw [hc,hd]
       show wpAny M A (if (["enumerate", "zip", "dict_itemiterator", "dict_reverseitemiterator", "odict_iterator", "itertools.zip_longest", "itertools.pairwise"].contains n && vs[0]? == some (rawInt _)) = true then _ else _) Q E s
       rw [if_neg (by intro h; rw [hn,Bool.false_and] at h; cases h)]
       exact wpAny_pure hQ))
noncomputable def Itl (K:W.Frag) (a:Addr):It :=
 ⟨fun i H=>∃ xs x,SqL K H a xs ∧ xs[i]? = some x,fun i H x H'=>H' = H ∧ ∀ xs,SqL K H a xs → xs[i]? = some x,fun i H=>∃ xs,SqL K H a xs ∧ xs.length ≤ i⟩
noncomputable def Itt (K:W.Frag) (a:Addr):It :=
 ⟨fun i H=>∃ xs x,SqT K H a xs ∧ xs[i]? = some x,fun i H x H'=>H' = H ∧ ∀ xs,SqT K H a xs → xs[i]? = some x,fun i H=>∃ xs,SqT K H a xs ∧ xs.length ≤ i⟩
noncomputable def Itr (lo:Int) (n:Nat):It:=⟨fun i _=>i < n,fun i H x H'=>H' = H ∧ x = .int (lo + i),fun i _=>n ≤ i⟩
theorem turn_list {P:Program} {w:World} {K:W.Frag} {tg:Expr} (a it:Addr):Turn P w K tg (Itl K a) [it] it (fun i h=>h.IsListIter it a i) where
 mem:=by simp
 obj:=fun i h st b hb=>by
  have e:b = it:=by simpa using hb
  subst e
  obtain ⟨o,e,c,d⟩:=st
  exact ⟨o,e,fun v z=>by rw [d] at z; cases z⟩
 keep:=fun i h h' st k=>st.at fun o e=>k it (by simp) o e
 item:=by
  intro X hP hw hK hc i pins s σ H E I hf st hg
  subst hP hw hK
  obtain ⟨xs,x,hq,hx⟩:=hg
  obtain ⟨its,rv,p,hz⟩:=I.list hq
  obtain ⟨u,hu,ru⟩:=rv.get hx
  obtain ⟨f0,f1,f2,f3,f4,f5⟩:=hf it (by simp)
  refine wpAny_pyNext_list_item st p.isList (x:=u) (by simpa using hu) fun h' st' sb=>?_
  have I1:Inv X pins σ H { s with heap:=h' }:=I.turned (t':=s.toks) (fun b o hb e=>(sb.2 b hb).trans e) f0 f1 f3 f4 f5
  obtain ⟨o,e,c,d⟩:=id st'
  exact ⟨u,rfl,go_of (s:={ s with heap:=h' }) e c d (by decide) ⟨x,H,I1,ru,⟨rfl,fun ys hy=>by rw [I.list_inj hy hq]; exact hx⟩,st',fun b hb=>(hf b hb).1⟩⟩
 done:=by
  intro X hP hw hK hc i pins s σ H E I hf st hg
  subst hP hw hK
  obtain ⟨xs,hq,hx⟩:=hg
  obtain ⟨its,rv,p,hz⟩:=I.list hq
  obtain ⟨f0,f1,f2,f3,f4,f5⟩:=hf it (by simp)
  have hl:=rv.length
  exact wpAny_pyNext_list_end (I.ok.hd hc) st p.isList (by simp; omega) fun h' eb=>⟨rfl,I.turned (t':=s.toks) (fun b o hb e=>eb b o hb e) f0 f1 f3 f4 f5⟩
 self:=fun _ _ _ _ _ st h=>wpAny_pyIter_listiter st h
theorem turn_tuple {P:Program} {w:World} {K:W.Frag} {tg:Expr} (a it:Addr):Turn P w K tg (Itt K a) [it] it (fun i h=>h.IsTupleIter it a i) where
 mem:=by simp
 obj:=fun i h st b hb=>by
  have e:b = it:=by simpa using hb
  subst e
  obtain ⟨o,e,c,d⟩:=st
  exact ⟨o,e,fun v z=>by rw [d] at z; cases z⟩
 keep:=fun i h h' st k=>st.at fun o e=>k it (by simp) o e
 item:=by
  intro X hP hw hK hc i pins s σ H E I hf st hg
  subst hP hw hK
  obtain ⟨xs,x,hq,hx⟩:=hg
  obtain ⟨its,rv,p,hz⟩:=I.tuple hq
  obtain ⟨u,hu,ru⟩:=rv.get hx
  obtain ⟨f0,f1,f2,f3,f4,f5⟩:=hf it (by simp)
  refine wpAny_pyNext_tuple_item st (show s.heap.IsTuple a its.toArray from p) (x:=u) (by simpa using hu) fun h' st' sb=>?_
  have I1:Inv X pins σ H { s with heap:=h' }:=I.turned (t':=s.toks) (fun b o hb e=>(sb.2 b hb).trans e) f0 f1 f3 f4 f5
  obtain ⟨o,e,c,d⟩:=id st'
  exact ⟨u,rfl,go_of (s:={ s with heap:=h' }) e c d (by decide) ⟨x,H,I1,ru,⟨rfl,fun ys hy=>by rw [I.tuple_inj hy hq]; exact hx⟩,st',fun b hb=>(hf b hb).1⟩⟩
 done:=by
  intro X hP hw hK hc i pins s σ H E I hf st hg
  subst hP hw hK
  obtain ⟨xs,hq,hx⟩:=hg
  obtain ⟨its,rv,p,hz⟩:=I.tuple hq
  obtain ⟨f0,f1,f2,f3,f4,f5⟩:=hf it (by simp)
  have hl:=rv.length
  exact wpAny_pyNext_tuple_end (I.ok.hd hc) st (show s.heap.IsTuple a its.toArray from p) (by simp; omega) fun h' eb=>⟨rfl,I.turned (t':=s.toks) (fun b o hb e=>eb b o hb e) f0 f1 f3 f4 f5⟩
 self:=fun _ _ _ _ _ st h=>wpAny_pyIter_tupleiter st h
theorem turn_range {P:Program} {w:World} {K:W.Frag} {tg:Expr} (it:Addr) (lo:Int) (n:Nat):Turn P w K tg (Itr lo n) [it] it (fun i h=>IsRangeIter h it (lo + (i:Nat) * 1) ((n:Int) - (i:Nat)) 1) where
 mem:=by simp
 obj:=fun i h st b hb=>by
  have e:b = it:=by simpa using hb
  subst e
  exact ⟨_,st,fun v z=>by
   have z':Data.fields _ = Data.cell v:=z
   cases z'⟩
 keep:=fun i h h' st k=>k it (by simp) _ st
 item:=by
  intro X hP hw hK hc i pins s σ H E I hf st hg
  subst hP hw hK
  obtain ⟨f0,f1,f2,f3,f4,f5⟩:=hf it (by simp)
  have W:=Walks.range (prog:=X.prog) (w:=X.w) (I.ok.hd hc) it lo 1 n
  refine W.item i s _ _ hg st fun v h' tk hv st' kk=>?_
  obtain ⟨t,rfl⟩:=hv
  have I1:Inv X pins σ H { s with heap:=h',toks:=tk }:=I.turned (fun b o hb e=>kk b o (by simpa using hb) e) f0 f1 f3 f4 f5
  refine ⟨_,rfl,go_of (s:={ s with heap:=h',toks:=tk }) (n := "range_iterator") st' rfl rfl (by decide) ⟨.int (lo + i),H,I1,⟨t,?_⟩,⟨rfl,rfl⟩,st',fun b hb=>(hf b hb).1⟩⟩
  rw [Int.mul_one]
 done:=by
  intro X hP hw hK hc i pins s σ H E I hf st hg
  subst hP hw hK
  obtain ⟨f0,f1,f2,f3,f4,f5⟩:=hf it (by simp)
  exact wpAny_pyNext_range_end (I.ok.hd hc) st (by have:n ≤ i:=hg; omega) fun h' eb=>⟨rfl,I.turned (t':=s.toks) (fun b o hb e=>eb b o hb e) f0 f1 f3 f4 f5⟩
 self:=fun _ _ _ _ _ st h=>wpAny_pyIter_rangeiter st h
section
variable {X:Cx} {tg:Expr}
noncomputable def iList (K:W.Frag) (tl:TE):TI:=fun σ H R=>tl σ H fun x H1=>∃ a,x = .ref a ∧ (∃ xs,SqL K H1 a xs) ∧ R (Itl K a) H1
noncomputable def iTup (K:W.Frag) (tl:TE):TI:=fun σ H R=>tl σ H fun x H1=>∃ a,x = .ref a ∧ (∃ xs,SqT K H1 a xs) ∧ R (Itt K a) H1
theorem pi_list {l:Expr} {tl:TE} (hl:PE X l tl):PI X tg l (iList X.K tl):=by
 intro pins s σ H R I h
 refine thn (hl pins s σ H _ I h) fun v s1 ⟨x,H1,I1,r1,q1⟩=>?_
 obtain ⟨a,e,⟨xs,hq⟩,q⟩:=q1
 subst e
 cases r1
 obtain ⟨its,rv,p,hz⟩:=I1.list hq
 refine wpAny_pyIter_list p.isList ?_
 refine ⟨s1.heap.objs.size,[s1.heap.objs.size],_,_,H1,rfl,I1.kept (t':=s1.toks) fun b o e=>Heap.get?_push_of_some _ e,turn_list a _,⟨_,Heap.get?_push_size _ rfl,rfl,rfl⟩,fun b hb=>?_,q⟩
 have e:b = s1.heap.objs.size:=by simpa using hb
 subst e
 exact I1.fpOk (Nat.le_refl _) (I1.hok.fresh (Nat.le_refl _))
theorem pi_tup {l:Expr} {tl:TE} (hl:PE X l tl):PI X tg l (iTup X.K tl):=by
 intro pins s σ H R I h
 refine thn (hl pins s σ H _ I h) fun v s1 ⟨x,H1,I1,r1,q1⟩=>?_
 obtain ⟨a,e,⟨xs,hq⟩,q⟩:=q1
 subst e
 cases r1
 obtain ⟨its,rv,p,hz⟩:=I1.tuple hq
 refine wpAny_pyIter_tuple (show s1.heap.IsTuple a its.toArray from p) ?_
 refine ⟨s1.heap.objs.size,[s1.heap.objs.size],_,_,H1,rfl,I1.kept (t':=s1.toks) fun b o e=>Heap.get?_push_of_some _ e,turn_tuple a _,⟨_,Heap.get?_push_size _ rfl,rfl,rfl⟩,fun b hb=>?_,q⟩
 have e:b = s1.heap.objs.size:=by simpa using hb
 subst e
 exact I1.fpOk (Nat.le_refl _) (I1.hok.fresh (Nat.le_refl _))
theorem range_it {pins:List (Addr × Obj)} {σ:St} {H:Hp} {s:Shared} {R:It → Hp → Prop} {E:Value → Shared → Prop} {lo hi:Int} {t u v:Tok} {tk:Nat} (I:Inv X pins σ H s) (h1:-(2 ^ 62) ≤ lo) (h2:lo < 2 ^ 62) (h3:-(2 ^ 62) ≤ hi) (h4:hi < 2 ^ 62)
  (q:R (Itr lo (hi - lo).toNat) H):wpAny (model X.prog X.w) X.A (pyIter (.ref s.heap.objs.size)) (PIE X pins σ tg R) E { s with heap:=s.heap.push { cls:=.type "range",data:=.fields #[.int lo t,.int hi u,.int 1 v] },toks:=tk }:=by
 refine wpAny_pyIter_range (IsRange.new ..) (small_one h1 h2 h3 h4) ?_
 have I1:Inv X pins σ H { s with heap:=s.heap.push { cls:=.type "range",data:=.fields #[.int lo t,.int hi u,.int 1 v] },toks:=tk }:=I.kept fun b o e=>Heap.get?_push_of_some _ e
 refine ⟨(s.heap.push { cls:=.type "range",data:=.fields #[.int lo t,.int hi u,.int 1 v] }).objs.size,[(s.heap.push { cls:=.type "range",data:=.fields #[.int lo t,.int hi u,.int 1 v] }).objs.size],_,_,H,rfl,
  I1.kept (t':=tk) fun b o e=>Heap.get?_push_of_some _ e,turn_range _ lo (hi - lo).toNat,?_,fun b hb=>?_,q⟩
 ·have e1:lo + ((0:Nat):Int) * 1 = lo:=by simp
  have e2:(((hi - lo).toNat:Nat):Int) - ((0:Nat):Int) = Builtin.Range.rangeSize lo hi 1:=by rw [rangeSize_one]; split <;> omega
  show IsRangeIter _ _ (lo + ((0:Nat):Int) * 1) ((((hi - lo).toNat:Nat):Int) - ((0:Nat):Int)) 1
  rw [e1,e2]
  exact Heap.get?_push_size _ rfl
 ·have e:b = (s.heap.push { cls:=.type "range",data:=.fields #[.int lo t,.int hi u,.int 1 v] }).objs.size:=by simpa using hb
  subst e
  exact I1.fpOk (Nat.le_refl _) (I1.hok.fresh (Nat.le_refl _))
noncomputable def iRng1 (ta:TA):TI:=fun σ H R=>ta σ H fun vs H1=>∃ j:Int,vs = [.int j] ∧ -(2 ^ 62) ≤ j ∧ j < 2 ^ 62 ∧ R (Itr 0 j.toNat) H1
noncomputable def iRng2 (ta:TA):TI:=fun σ H R=>ta σ H fun vs H1=>∃ i j:Int,vs = [.int i,.int j] ∧ (-(2 ^ 62) ≤ i ∧ i < 2 ^ 62 ∧ -(2 ^ 62) ≤ j ∧ j < 2 ^ 62) ∧ R (Itr i (j - i).toNat) H1
theorem pi_range1 {a:Expr} {ta:TA} {p pos:Pos} (hg:Gl X "range") (hm:X.mg "range" = none) (ha:PA X [a] ta) (hs:starEach [a] X.env = [(false,eval a X.env)]:=by rfl):PI X tg (.Call (.Name "range" p) [a] [] pos) (iRng1 ta):=by
 intro pins s σ H R I h
 refine Call_ (ld_blt I hg hm boot_range (PyProof.Rows.callWith_type1 (thn (ha pos pins s σ H _ I h) fun us s1 ⟨vs,H1,I1,r1,q1⟩=>?_) hs rfl))
 obtain ⟨j,e,q1,q2,q⟩:=q1
 subst e
 cases r1 with
 | cons r rr =>
  cases rr
  obtain ⟨t,rfl⟩:=r
  exact call_range_1 (range_it I1 (by omega) (by omega) q1 q2 (by simpa using q))
theorem pi_range2 {a b:Expr} {ta:TA} {p pos:Pos} (hg:Gl X "range") (hm:X.mg "range" = none) (ha:PA X [a,b] ta) (hs:starEach [a,b] X.env = [(false,eval a X.env),(false,eval b X.env)]:=by rfl) (hs2:starEach [b] X.env = [(false,eval b X.env)]:=by rfl) :
  PI X tg (.Call (.Name "range" p) [a,b] [] pos) (iRng2 ta):=by
 intro pins s σ H R I h
 refine Call_ (ld_blt I hg hm boot_range (PyProof.Rows.callWith_type1 (thn (ha pos pins s σ H _ I h) fun us s1 ⟨vs,H1,I1,r1,q1⟩=>?_) (by rw [hs,hs2]) (by rw [hs2]; rfl)))
 obtain ⟨i,j,e,⟨q1,q2,q3,q4⟩,q⟩:=q1
 subst e
 cases r1 with
 | cons r rr =>
  cases rr with
  | cons r' rr =>
   cases rr
   obtain ⟨t,rfl⟩:=r
   obtain ⟨t',rfl⟩:=r'
   exact call_range_2 (range_it I1 q1 q2 q3 q4 q)
noncomputable def tFor (wi:TI) (g:TG) (tb:TS):TS:=fun D σ H=>wi σ H fun J H1=>∃ W:Nat → Nat → St → Hp → Prop,(∃ m,W 0 m σ H1) ∧ ∀ i m σ H,W i m σ H →
 (J.stop i H ∧ D.nx σ H) ∨ (J.go i H ∧ ∃ N:St → Hp → Prop,(∀ σ' H',N σ' H' → ∃ m',m' < m ∧ W (i + 1) m' σ' H') ∧ ∀ x H',J.yld i H x H' → g x σ H' fun σ2 H2=>tb { D with nx:=N,ct:=N,bk:=D.nx } σ2 H2)
noncomputable def pinsAt (fp:List Addr) (h:Heap):List (Addr × Obj):=fp.filterMap fun b=>(h.get? b).map fun o=>(b,o)
theorem mem_pinsAt {fp:List Addr} {h:Heap} {b:Addr} {o:Obj} (hb:b ∈ fp) (e:h.get? b = some o):(b,o) ∈ pinsAt fp h:=List.mem_filterMap.mpr ⟨b,hb,by rw [e]; rfl⟩
theorem of_pinsAt {fp:List Addr} {h:Heap} {p:Addr × Obj} (hp:p ∈ pinsAt fp h):p.1 ∈ fp ∧ h.get? p.1 = some p.2:=by
 obtain ⟨b,hb,e⟩:=List.mem_filterMap.mp hp
 cases q:h.get? b with
 | none=>rw [q] at e; cases e
 | some o =>
  rw [q] at e
  have e':(b,o) = p:=Option.some.inj e
  subst e'
  exact ⟨hb,q⟩
theorem Inv.pinned {pins:List (Addr × Obj)} {σ:St} {H:Hp} {s:Shared} {fp:List Addr} (I:Inv X pins σ H s) (hf:∀ b ∈ fp,FpOk X pins H b) (ho:∀ b ∈ fp,∃ o,s.heap.get? b = some o ∧ ∀ v,o.data ≠ .cell v):Inv X (pins ++ pinsAt fp s.heap) σ H s :=
 I.pins_of fun p hp=>(List.mem_append.mp hp).elim (fun z=>I.pin p (List.mem_append_right _ z)) fun z=>by
  obtain ⟨hb,e⟩:=of_pinsAt z
  obtain ⟨f0,f1,f2,_⟩:=hf p.1 hb
  obtain ⟨o,e',d⟩:=ho p.1 hb
  rw [e] at e'; cases e'
  exact ⟨e,f0,f1,f2,d⟩
theorem Inv.unpinned {pins pl:List (Addr × Obj)} {σ:St} {H:Hp} {s:Shared} (I:Inv X (pins ++ pl) σ H s):Inv X pins σ H s:=I.pins_of fun p hp=>I.pin p (List.mem_append_right _ (List.mem_append_left _ hp))
theorem ps_for {iter:Expr} {body:List Stmt} {wi:TI} {g:TG} {tb:TS} {pos:Pos} (hp:PassesOwn (model X.prog X.w) X.A X.env X.xe) (hc:X.calm = true) (hi:PI X tg iter wi) (hg:PG X tg g) (hb:PSs X body tb)
  (hs:∀ x,foldedSetIterable iter X.env x = pure x:=by intro _; rfl):PS X (.For tg iter body [] pos) (tFor wi g tb):=by
 intro pins s σ H D I h
 refine wpAny_For (thn (hi pins s σ H _ I h) fun v s1 h1=>thn h1 fun itv s2 h2=>?_) hs
 obtain ⟨it,fp,tn,J,H2,e,I2,T,st2,f2,W,⟨m0,w0⟩,turn⟩:=h2
 subst e
 have stat:∀ {H':Hp},(∀ b ∈ fp,H' b = none) → ∀ b ∈ fp,FpOk X pins H' b:=fun hn b hb=>⟨hn b hb,(f2 b hb).2⟩
 refine codeAny_forLoop_any (fun n s'=>∃ i σ' H',Inv X pins σ' H' s' ∧ tn i s'.heap ∧ (∀ b ∈ fp,H' b = none) ∧ W i n σ' H') ?_ m0 ⟨0,σ,H2,I2,st2,fun b hb=>(f2 b hb).1,w0⟩
 rintro n s3 ⟨i,σ3,H3,I3,st3,fr3,w3⟩
 rcases turn i n σ3 H3 w3 with ⟨stop,qn⟩ | ⟨go,N,hN,step⟩
 ·refine wpAny_passesOwn hp (thn (T.done X rfl rfl rfl hc i pins s3 σ3 H3 X.xe I3 (stat fr3) st3 stop) fun r s4 ⟨hr,I4⟩=>?_)
  subst hr
  exact wpAny_execs_nil ⟨σ3,H3,I4,qn⟩
 ·refine wpAny_passesOwn hp (thn (T.item X rfl rfl rfl hc i pins s3 σ3 H3 X.xe I3 (stat fr3) st3 go) fun r s4 ⟨u,hr,h4⟩=>?_)
  subst hr
  refine wpAny_passesOwn hp (thn h4 fun _ s5 ⟨x,H5,I5,r5,y5,st5,fr5⟩=>?_)
  have I5':=I5.pinned (stat fr5) (T.obj _ _ st5)
  refine wpAny_passesOwn hp (thn (hg _ s5 σ3 H5 x u _ I5' r5 (step x H5 y5)) fun _ s6 ⟨σ6,H6,I6,q6⟩=>?_)
  refine wpAny_passesOwn hp (thn (hb _ s6 σ6 H6 _ I6 q6) fun f s7 q7=>?_)
  have again:∀ {σ7:St} {H7:Hp},Inv X (pins ++ pinsAt fp s5.heap) σ7 H7 s7 → N σ7 H7 → ∃ m,m < n ∧ ∃ i σ' H',Inv X pins σ' H' s7 ∧ tn i s7.heap ∧ (∀ b ∈ fp,H' b = none) ∧ W i m σ' H':=fun {σ7 H7} I7 n7=>by
   obtain ⟨m',hm,w7⟩:=hN σ7 H7 n7
   refine ⟨m',hm,i + 1,σ7,H7,I7.unpinned,T.keep _ _ _ st5 fun b hb o e=>(I7.pin (b,o) (List.mem_append_right _ (List.mem_append_right _ (mem_pinsAt hb e)))).1,fun b hb=>?_,w7⟩
   obtain ⟨o,e,d⟩:=T.obj _ _ st5 b hb
   exact (I7.pin (b,o) (List.mem_append_right _ (List.mem_append_right _ (mem_pinsAt hb e)))).2.1
  cases f with
  | next=>obtain ⟨σ7,H7,I7,n7⟩:=q7; exact again I7 n7
  | cont=>obtain ⟨σ7,H7,I7,n7⟩:=q7; exact again I7 n7
  | brk=>obtain ⟨σ7,H7,I7,q7⟩:=q7; exact ⟨σ7,H7,I7.unpinned,q7⟩
  | ret v=>obtain ⟨x7,σ7,H7,I7,r7,q7⟩:=q7; exact ⟨x7,σ7,H7,I7.unpinned,r7,q7⟩
end
noncomputable abbrev R2:=V → V → Hp → VK → Prop
noncomputable def OpR (X:Cx) (f:Value → Value → Sem Value) (r:R2):Prop :=
 ∀ (pins:List (Addr × Obj)) (s:Shared) (σ:St) (H:Hp) (x y:V) (v u:Value) (Q:VK),Inv X pins σ H s → RelV x v → RelV y u → r x y H Q →
  wpAny (model X.prog X.w) X.A (f v u) (EP X pins σ Q) X.xe s
noncomputable def UnR (X:Cx) (f:Value → Sem Value) (r:V → Hp → VK → Prop):Prop :=
 ∀ (pins:List (Addr × Obj)) (s:Shared) (σ:St) (H:Hp) (x:V) (v:Value) (Q:VK),Inv X pins σ H s → RelV x v → r x H Q →
  wpAny (model X.prog X.w) X.A (f v) (EP X pins σ Q) X.xe s
noncomputable def CallR (X:Cx) (f:Value) (r:List V → Hp → VK → Prop):Prop :=
 ∀ (pins:List (Addr × Obj)) (s:Shared) (σ:St) (H:Hp) (xs:List V) (us:List Value) (Q:VK),Inv X pins σ H s → Vals xs us → r xs H Q →
  wpAny (model X.prog X.w) X.A (call f us) (EP X pins σ Q) X.xe s
noncomputable def tOp (r:R2) (ta tb:TE):TE:=fun σ H Q=>ta σ H fun x H1=>tb σ H1 fun y H2=>r x y H2 Q
noncomputable def tUn (r:V → Hp → VK → Prop) (ta:TE):TE:=fun σ H Q=>ta σ H fun x H1=>r x H1 Q
noncomputable def rI (C:Int → Int → Prop) (g:Int → Int → V):R2:=fun x y H Q=>∃ i j,x = .int i ∧ y = .int j ∧ C i j ∧ Q (g i j) H
noncomputable def rI0 (g:Int → Int → V):R2:=fun x y H Q=>∃ i j,x = .int i ∧ y = .int j ∧ Q (g i j) H
noncomputable def rU (g:Int → V):V → Hp → VK → Prop:=fun x H Q=>∃ i,x = .int i ∧ Q (g i) H
section
variable {X:Cx} {a b c:Expr} {ta tb tc:TE} {pos:Pos}
theorem binT (ha:PE X a ta) (hb:PE X b tb) {pins:List (Addr × Obj)} {s:Shared} {σ:St} {H:Hp} {R:V → V → Hp → Prop} (I:Inv X pins σ H s)
  (h:ta σ H fun x H1=>tb σ H1 fun y H2=>R x y H2) {Q:Value → Shared → Prop} {f:Value → Value → Sem Value}
  (hf:∀ v u s2 x y H2,Inv X pins σ H2 s2 → RelV x v → RelV y u → R x y H2 → wpAny (model X.prog X.w) X.A (f v u) Q X.xe s2) :
  wpAny (model X.prog X.w) X.A (eval a X.env) (fun v s₁=>wpAny (model X.prog X.w) X.A (eval b X.env) (fun u s₂=>wpAny (model X.prog X.w) X.A (f v u) Q X.xe s₂) X.xe s₁) X.xe s:=by
 refine thn (ha pins s σ H _ I h) fun v s1 ⟨x,H1,I1,r1,q1⟩=>?_
 refine thn (hb pins s1 σ H1 _ I1 q1) fun u s2 ⟨y,H2,I2,r2,q2⟩=>?_
 exact hf v u s2 x y H2 I2 r1 r2 q2
theorem pe_op {op:Operator} {r:R2} (ho:OpR X (binaryOp op) r) (ha:PE X a ta) (hb:PE X b tb):PE X (.BinOp a op b pos) (tOp r ta tb):=by
 intro pins s σ H Q I h
 exact wpAny_BinOp (binT ha hb I h fun v u s2 x y H2 I2 rx ry q=>ho pins s2 σ H2 x y v u Q I2 rx ry q)
theorem pe_un {op:UnaryOp} {r:V → Hp → VK → Prop} (ho:UnR X (unaryOp op) r) (ha:PE X a ta):PE X (.UnaryOp op a pos) (tUn r ta):=by
 intro pins s σ H Q I h
 exact UnaryOp_ (thn (ha pins s σ H _ I h) fun v s1 ⟨x,H1,I1,r1,q1⟩=>ho pins s1 σ H1 x v Q I1 r1 q1)
theorem opI {f:Value → Value → Sem Value} {C:Int → Int → Prop} {g:Int → Int → Int}
  (rule:∀ (i j:Int) (t u:Tok) (s:Shared) (Q:Value → Shared → Prop) (E:Value → Shared → Prop),C i j → Q (.int (g i j) s.toks) { s with toks:=s.toks + 1 } → wpAny (model X.prog X.w) X.A (f (.int i t) (.int j u)) Q E s) :
  OpR X f (rI C fun i j=>.int (g i j)):=by
 intro pins s σ H x y v u Q I rx ry h
 obtain ⟨i,j,rfl,rfl,hc,q⟩:=h
 obtain ⟨t,rfl⟩:=rx
 obtain ⟨t',rfl⟩:=ry
 exact rule i j t t' s _ _ hc ⟨.int (g i j),H,I.tok _,⟨_,rfl⟩,q⟩
theorem opI0 {f:Value → Value → Sem Value} {g:Int → Int → Int}
  (rule:∀ (i j:Int) (t u:Tok) (s:Shared) (Q:Value → Shared → Prop) (E:Value → Shared → Prop),Q (.int (g i j) s.toks) { s with toks:=s.toks + 1 } → wpAny (model X.prog X.w) X.A (f (.int i t) (.int j u)) Q E s) :
  OpR X f (rI0 fun i j=>.int (g i j)):=by
 intro pins s σ H x y v u Q I rx ry h
 obtain ⟨i,j,rfl,rfl,q⟩:=h
 obtain ⟨t,rfl⟩:=rx
 obtain ⟨t',rfl⟩:=ry
 exact rule i j t t' s _ _ ⟨.int (g i j),H,I.tok _,⟨_,rfl⟩,q⟩
theorem opB0 {f:Value → Value → Sem Value} {g:Int → Int → Bool}
  (rule:∀ (i j:Int) (t u:Tok) (s:Shared) (Q:Value → Shared → Prop) (E:Value → Shared → Prop),Q (.bool (g i j)) s → wpAny (model X.prog X.w) X.A (f (.int i t) (.int j u)) Q E s) :
  OpR X f (rI0 fun i j=>.bl (g i j)):=by
 intro pins s σ H x y v u Q I rx ry h
 obtain ⟨i,j,rfl,rfl,q⟩:=h
 obtain ⟨t,rfl⟩:=rx
 obtain ⟨t',rfl⟩:=ry
 exact rule i j t t' s _ _ ⟨.bl (g i j),H,I,rfl,q⟩
noncomputable def CDiv (i j:Int):Prop:=0 < j ∧ j < 1073741824
noncomputable def CPow (i j:Int):Prop:=0 ≤ j ∧ j ≤ 1000000 ∧ i.natAbs < 2 ^ 64
noncomputable def CMul (i j:Int):Prop:=(-(2 ^ 64) < i ∧ i < 2 ^ 64) ∨ (-(2 ^ 64) < j ∧ j < 2 ^ 64)
theorem CMul.ok {i j:Int} (h:CMul i j):IntMulOk i j:=by
 rcases h with ⟨h1,h2⟩ | ⟨h1,h2⟩
 ·exact .of_left (intBits_le_64 h1 h2)
 ·exact .of_right (intBits_le_64 h1 h2)
theorem op_add:OpR X (binaryOp .Add) (rI0 fun i j=>.int (i + j)):=opI0 fun _ _ _ _ _ _ _ q=>add_int q
theorem op_sub:OpR X (binaryOp .Sub) (rI0 fun i j=>.int (i - j)):=opI0 fun _ _ _ _ _ _ _ q=>sub_int q
theorem op_mul:OpR X (binaryOp .Mult) (rI CMul fun i j=>.int (i * j)):=opI fun _ _ _ _ _ _ _ hc q=>mul_int q hc.ok
theorem op_fdiv:OpR X (binaryOp .FloorDiv) (rI CDiv fun i j=>.int (i / j)):=opI fun i j _ _ _ _ _ hc q=>by
 have h1:(0:Int) < j:=hc.1
 have h2:j < 1073741824:=hc.2
 exact floordiv_int (by omega) (by rw [Int.fdiv_eq_ediv_of_nonneg i (by omega)]; exact q) (.inl (PyProof.noPylong_small (by omega)))
theorem op_mod:OpR X (binaryOp .Mod) (rI (fun _ j=>0 < j) fun i j=>.int (i % j)):=opI fun i j _ _ _ _ _ hc q=>by
 have h1:(0:Int) < j:=hc
 exact mod_int' (by omega) (by rw [Int.fmod_eq_emod_of_nonneg i (by omega)]; exact q)
theorem op_pow:OpR X (binaryOp .Pow) (rI CPow fun i j=>.int (i ^ j.toNat)):=opI fun _ _ _ _ _ _ _ hc q=>pow_int_small hc.1 hc.2.1 hc.2.2 q
theorem unI {f:Value → Sem Value} {g:Int → Int}
  (rule:∀ (i:Int) (t:Tok) (s:Shared) (Q:Value → Shared → Prop) (E:Value → Shared → Prop),Q (.int (g i) s.toks) { s with toks:=s.toks + 1 } → wpAny (model X.prog X.w) X.A (f (.int i t)) Q E s) :
  UnR X f (rU fun i=>.int (g i)):=by
 intro pins s σ H x v Q I rx h
 obtain ⟨i,rfl,q⟩:=h
 obtain ⟨t,rfl⟩:=rx
 exact rule i t s _ _ ⟨.int (g i),H,I.tok _,⟨_,rfl⟩,q⟩
theorem un_neg:UnR X (unaryOp .USub) (rU fun i=>.int (-i)):=unI fun _ _ _ _ _ q=>neg_int q
end
noncomputable def scal:V → V → Bool
 | .non,.non=>true | .non,.int _=>true | .int _,.non=>true | .non,.bl _=>true | .bl _,.non=>true | .non,.str _=>true | .str _,.non=>true
 | .int _,.int _=>true | .bl _,.bl _=>true | .str _,.str _=>true | .byt _,.byt _=>true
 | .int _,.str _=>true | .str _,.int _=>true | .bl _,.str _=>true | .str _,.bl _=>true
 | _,_=>false
noncomputable def rEq:R2:=fun x y H Q=>scal x y = true ∧ Q (.bl (decide (x = y))) H
theorem dec_int {i j:Int}:decide (V.int i = V.int j) = (i == j):=by
 rw [Bool.eq_iff_iff]
 simp
theorem dec_bl {i j:Bool}:decide (V.bl i = V.bl j) = (i == j):=by
 rw [Bool.eq_iff_iff]
 simp
theorem dec_str {i j:Str}:decide (V.str i = V.str j) = (i == j):=by
 rw [Bool.eq_iff_iff]
 simp
theorem dec_byt {i j:Array UInt8}:decide (V.byt i = V.byt j) = (i.toList == j.toList):=by
 rw [Bool.eq_iff_iff]
 cases i
 cases j
 simp
section
variable {X:Cx} {a b c:Expr} {ta tb tc:TE} {pos:Pos}
theorem fin_bl {pins:List (Addr × Obj)} {σ:St} {H:Hp} {s:Shared} {Q:VK} {k k':Bool} (I:Inv X pins σ H s) (q:Q (.bl k) H) (e:k = k'):EP X pins σ Q (.bool k') s:=by
 subst e
 exact ⟨.bl k,H,I,rfl,q⟩
theorem op_eq:OpR X (compareOp .Eq) rEq:=by
 intro pins s σ H x y v u Q I rx ry h
 obtain ⟨hs,q⟩:=h
 cases x with
 | non =>
  cases rx
  cases y with
  | non=>cases ry; exact PySem.EqNone.eq_none_none (fin_bl I q (by simp))
  | bl j=>cases ry; exact PySem.EqNone.eq_none_bool (fin_bl I q (by simp))
  | int j=>obtain ⟨t',rfl⟩:=ry; exact PySem.EqNone.eq_none_int (fin_bl I q (by simp))
  | str j=>obtain ⟨t',rfl⟩:=ry; exact PySem.EqNone.eq_none_str (fin_bl I q (by simp))
  | _=>exact absurd (show false = true from hs) Bool.false_ne_true
 | bl i =>
  cases rx
  cases y with
  | non=>cases ry; exact PySem.EqNone.eq_bool_none (fin_bl I q (by simp))
  | bl j=>cases ry; exact eq_bool (fin_bl I q dec_bl)
  | str j=>obtain ⟨t',rfl⟩:=ry; exact PySem.EqMixed.eq_bool_str (fin_bl I q (by simp))
  | _=>exact absurd (show false = true from hs) Bool.false_ne_true
 | int i =>
  obtain ⟨t,rfl⟩:=rx
  cases y with
  | non=>cases ry; exact PySem.EqNone.eq_int_none (fin_bl I q (by simp))
  | int j=>obtain ⟨t',rfl⟩:=ry; exact eq_int (fin_bl I q dec_int)
  | str j=>obtain ⟨t',rfl⟩:=ry; exact PySem.EqMixed.eq_int_str (fin_bl I q (by simp))
  | _=>exact absurd (show false = true from hs) Bool.false_ne_true
 | str i =>
  obtain ⟨t,rfl⟩:=rx
  cases y with
  | non=>cases ry; exact PySem.EqNone.eq_str_none (fin_bl I q (by simp))
  | bl j=>cases ry; exact PySem.EqMixed.eq_str_bool (fin_bl I q (by simp))
  | int j=>obtain ⟨t',rfl⟩:=ry; exact PySem.EqMixed.eq_str_int (fin_bl I q (by simp))
  | str j=>obtain ⟨t',rfl⟩:=ry; exact eq_str (fin_bl I q dec_str)
  | _=>exact absurd (show false = true from hs) Bool.false_ne_true
 | byt i =>
  obtain ⟨t,rfl⟩:=rx
  cases y with
  | byt j=>obtain ⟨t',rfl⟩:=ry; exact W.eq_bytes (fin_bl I q dec_byt)
  | _=>exact absurd (show false = true from hs) Bool.false_ne_true
 | _=>cases y <;> exact absurd (show false = true from hs) Bool.false_ne_true
theorem op_lt:OpR X (compareOp .Lt) (rI0 fun i j=>.bl (decide (i < j))):=opB0 fun _ _ _ _ _ _ _ q=>lt_int q
theorem op_le:OpR X (compareOp .LtE) (rI0 fun i j=>.bl (decide (i ≤ j))):=opB0 fun _ _ _ _ _ _ _ q=>le_int q
theorem op_gt:OpR X (compareOp .Gt) (rI0 fun i j=>.bl (decide (j < i))):=opB0 fun _ _ _ _ _ _ _ q=>gt_int q
theorem op_isN:OpR X (compareOp .Is) (fun x y H Q=>y = .non ∧ Q (.bl (decide (x = .non))) H):=by
 intro pins s σ H x y v u Q I rx ry h
 obtain ⟨rfl,q⟩:=h
 cases ry
 refine is_none_gen (fin_bl I q ?_)
 cases x <;> first
  | (cases rx; rfl)
  | (obtain ⟨t,rfl⟩:=rx; rfl)
theorem OpR.or {f:Value → Value → Sem Value} {r r':R2} (h:OpR X f r) (h':OpR X f r'):OpR X f (fun x y H Q=>r x y H Q ∨ r' x y H Q):=by
 intro pins s σ H x y v u Q I rx ry q
 rcases q with q | q
 ·exact h pins s σ H x y v u Q I rx ry q
 ·exact h' pins s σ H x y v u Q I rx ry q
theorem nomark (b:Expr) {op:CmpOp} (h:op ≠ .In:=by decide) (h2:op ≠ .NotIn:=by decide):behindInMarks op b = false:=by
 have e1:(op == CmpOp.In) = false:=by cases op <;> first | rfl | exact absurd rfl h
 have e2:(op == CmpOp.NotIn) = false:=by cases op <;> first | rfl | exact absurd rfl h2
 cases b <;> simp [behindInMarks,e1,e2]
theorem pe_cmpR {op:CmpOp} {r:R2} (ho:OpR X (compareOp op) r) (ha:PE X a ta) (hb:PE X b tb) (hm:behindInMarks op b = false):PE X (.Compare a [op] [b] pos) (tOp r ta tb):=by
 intro pins s σ H Q I h
 exact wpAny_Compare1 (binT ha hb I h fun v u s2 x y H2 I2 rx ry q=>ho pins s2 σ H2 x y v u Q I2 rx ry q) hm
noncomputable def tTest (t:TE):TT:=fun σ H Q=>t σ H fun x H'=>∃ k,x = .bl k ∧ Q k H'
theorem pt_cmpR {op:CmpOp} {r:R2} (ho:OpR X (compareOp op) r) (ha:PE X a ta) (hb:PE X b tb) (hm:behindInMarks op b = false):PT X (.Compare a [op] [b] pos) (tTest (tOp r ta tb)):=by
 intro pins s σ H Q I h
 refine wpAny_isTrue_Compare1 (thn (ha pins s σ H _ I h) fun v s1 ⟨x,H1,I1,r1,q1⟩=>thn (hb pins s1 σ H1 _ I1 q1) fun u s2 ⟨y,H2,I2,r2,q2⟩ =>
  thn (ho pins s2 σ H2 x y v u _ I2 r1 r2 q2) fun c s3 ⟨z,H3,I3,r3,k,e,q3⟩=>?_) hm
 subst e
 cases r3
 exact wpAny_truthy_bool ⟨H3,I3,q3⟩
noncomputable def tChain (r r':R2) (ta tb tc:TE):TE:=fun σ H Q=>ta σ H fun x H1=>tb σ H1 fun y H2=>r x y H2 fun z H3=>∃ k,z = .bl k ∧
 (if k = true then tc σ H3 fun w' H4=>r' y w' H4 Q else Q (.bl false) H3)
theorem pe_chain {op op':CmpOp} {r r':R2} (ho:OpR X (compareOp op) r) (ho':OpR X (compareOp op') r') (ha:PE X a ta) (hb:PE X b tb) (hc:PE X c tc)
  (hm:lastMarks [op,op'] [b,c] = false:=by with_unfolding_all rfl):PE X (.Compare a [op,op'] [b,c] pos) (tChain r r' ta tb tc):=by
 intro pins s σ H Q I h
 refine Compare_chain (thn (ha pins s σ H _ I h) fun v s1 ⟨x,H1,I1,r1,q1⟩=>chain_link (thn (hb pins s1 σ H1 _ I1 q1) fun u s2 ⟨y,H2,I2,r2,q2⟩ =>
  thn (ho pins s2 σ H2 x y v u _ I2 r1 r2 q2) fun d s3 ⟨z,H3,I3,r3,k,e,q3⟩=>?_)) hm
 subst e
 cases r3
 refine wpAny_truthy_bool ?_
 cases k with
 | false=>exact ite_ff ⟨.bl false,H3,I3,rfl,q3⟩
 | true=>exact ite_tt (chain_last (thn (hc pins s3 σ H3 _ I3 q3) fun w' s4 ⟨z',H4,I4,r4,q4⟩=>ho' pins s4 σ H4 y z' u w' Q I4 r2 r4 q4))
theorem line63:(sizeLine:Nat) < 2 ^ 63:=by rw [sizeLine_eq]; decide
theorem op_add_str:OpR X (binaryOp .Add) (fun x y H Q=>∃ i j,x = .str i ∧ y = .str j ∧ i.length + j.length ≤ sizeLine ∧ Q (.str (i ++ j)) H):=by
 intro pins s σ H x y v u Q I rx ry h
 obtain ⟨i,j,rfl,rfl,hz,q⟩:=h
 obtain ⟨t,rfl⟩:=rx
 obtain ⟨t',rfl⟩:=ry
 exact add_str (fun t' tk=>⟨.str (i ++ j),H,I.tok _,⟨_,rfl⟩,q⟩) hz
theorem vals1 {x:V} {us:List Value} (r:Vals [x] us):∃ u,us = [u] ∧ RelV x u:=by
 cases r with
 | cons r1 r2=>cases r2; exact ⟨_,rfl,r1⟩
theorem call_int1:CallR X (.type "int") (fun xs H Q=>(∃ i,xs = [.int i] ∧ Q (.int i) H) ∨ ∃ k,xs = [.bl k] ∧ Q (.int (if k then 1 else 0)) H):=by
 intro pins s σ H xs us Q I r h
 rcases h with ⟨i,rfl,q⟩ | ⟨k,rfl,q⟩
 ·obtain ⟨u,rfl,t,rfl⟩:=vals1 r
  exact call_int_int ⟨.int i,H,I,⟨_,rfl⟩,q⟩
 ·obtain ⟨u,rfl,r1⟩:=vals1 r
  cases r1
  exact call_int_bool ⟨.int (if k then 1 else 0),H,I.tok _,⟨_,rfl⟩,q⟩
end
section
variable {prog:Program} {w:World} {A:Around} {E:Value → Shared → Prop} {s:Shared} {K:W.Frag} {x dx C f:Addr} {mA:Str → Option Value} {name:Str} {v:Value}
end
section
variable {P:Program} {w:World} {H H':Hp} {h h':Heap} {a C dx:Addr} {fs fs':List (Str × V)}
end
section
variable {X:Cx} {pins:List (Addr × Obj)} {σ:St} {H:Hp} {s:Shared} {a C dx:Addr} {fs:List (Str × V)} {f:Str} {v:V} {A:Around} {E:Value → Shared → Prop}
end
section
variable {X:Cx} {o e value:Expr} {f:Str} {pos pos' tpos:Pos} {ta tv:TE}
end
section
variable {X:Cx} {pins:List (Addr × Obj)} {σ:St} {H:Hp} {s:Shared} {A:Around} {E:Value → Shared → Prop} {Q:Value → Shared → Prop} {c:Value} {b:Bool}
end
structure Room (k:Nat) (A:Around):Prop where
 hd:A.handled = none
 dp:A.depth + 3 * k + 5 < recursionLimit
 un:A.units + 16 * k + 200 < cLine
theorem Room.mono {j k:Nat} {A:Around} (r:Room k A) (h:j ≤ k):Room j A:=⟨r.hd,by have:=r.dp; omega,by have:=r.un; omega⟩
theorem Room.deeper {k:Nat} {A:Around} (r:Room (k + 1) A) (env:Env):Room k (A.deeper env) :=
 ⟨r.hd,by have:=r.dp; show A.depth + 1 + 3 * k + 5 < _; omega,by have:=r.un; show A.units + 3 + 16 * k + 200 < _; omega⟩
theorem Room.depth {k:Nat} {A:Around} (r:Room k A):A.depth < recursionLimit:=by have:=r.dp; omega
theorem Room.units {k:Nat} {A:Around} (r:Room k A):A.units + 64 < cLine:=by have:=r.un; omega
noncomputable def tNil:TA:=fun _ H Q=>Q [] H
noncomputable def tCons (ta:TE) (tr:TA):TA:=fun σ H Q=>ta σ H fun x H1=>tr σ H1 fun xs H2=>Q (x :: xs) H2
section
variable {X:Cx} {e:Expr} {es:List Expr} {te:TE} {t:TA} {pos:Pos}
theorem pa_nil:PA X [] tNil:=fun _ _ _ _ H Q I h=>Calls.spliced_nil ⟨[],H,I,.nil,h⟩
theorem pa_cons (ha:PE X e te) (hr:PA X es t) (hs:starEach (e :: es) X.env = (false,eval e X.env) :: starEach es X.env:=by rfl):PA X (e :: es) (tCons te t):=by
 intro pos pins s σ H Q I h
 rw [hs]
 show wpAny _ _ (spliced ((false,eval e X.env) :: backTo pos (starEach es X.env))) _ _ s
 refine Calls.spliced_cons (thn (ha pins s σ H _ I h) fun u s1 ⟨x,H1,I1,r1,q1⟩=>?_)
 exact thn (hr pos pins s1 σ H1 _ I1 q1) fun us s2 ⟨xs,H2,I2,r2,q2⟩=>⟨x :: xs,H2,I2,.cons r1 r2,q2⟩
noncomputable def tTup (t:TA):TE:=fun σ H Q=>t σ H fun xs H1=>xs.length ≤ sizeLine ∧ ∀ p,H1 p = none → Q (.ref p) (upd H1 p (.tup xs))
noncomputable def tLst (t:TA):TE:=fun σ H Q=>t σ H fun xs H1=>xs.length ≤ sizeLine ∧ ∀ p,H1 p = none → Q (.ref p) (upd H1 p (.lst xs))
theorem pe_tup {x1} (h:PA X es t):PE X (.Tuple es x1 pos) (tTup t):=by
 intro pins s σ H Q I hq
 refine wpAny_Tuple_spliced (thn (h pos pins s σ H _ I hq) fun us s1 ⟨xs,H1,I1,r,z,q⟩=>⟨by rw [← r.length]; exact z,?_⟩)
 have hf:H1 s1.heap.objs.size = none:=I1.hok.fresh (Nat.le_refl _)
 refine ⟨.ref s1.heap.objs.size,upd H1 s1.heap.objs.size (.tup xs),I1.laid (t':=s1.toks) (fun b u e=>Heap.get?_push_of_some _ e) (Nat.le_refl _) ?_,rfl,q _ hf⟩
 exact ⟨z,us,r,⟨_,Heap.get?_push_size _ rfl,rfl,_,rfl,rfl⟩⟩
theorem pe_lst (h:PA X es t):PE X (.List es pos) (tLst t):=by
 intro pins s σ H Q I hq
 refine wpAny_List_spliced (thn (h pos pins s σ H _ I hq) fun us s1 ⟨xs,H1,I1,r,z,q⟩=>⟨by rw [← r.length]; exact z,?_⟩)
 have hf:H1 s1.heap.objs.size = none:=I1.hok.fresh (Nat.le_refl _)
 refine ⟨.ref s1.heap.objs.size,upd H1 s1.heap.objs.size (.lst xs),I1.laid (t':=s1.toks) (fun b u e=>Heap.get?_push_of_some _ e) (Nat.le_refl _) ?_,rfl,q _ hf⟩
 exact ⟨z,us,0,r,Heap.get?_push_size _ rfl⟩
end
noncomputable abbrev Sp:=List V → Hp → VK → XK → Prop
noncomputable abbrev CXT:=List Env → Hp → Shared → XK → Value → Shared → Prop
structure Env0 (P:Program) (w:World) (K:W.Frag) (mg:Str → Option Value) (base:Heap) (A:Around) (outer:List Env) (s:Shared) (H:Hp):Prop where
 frames:A.frames = some outer
 mod:Mod K mg base
 bs:∀ b o,base.get? b = some o → s.heap.get? b = some o ∧ H b = none
 bsz:base.objs.size ≤ s.heap.objs.size
 funs:s.heap.FunFrames base outer
 frf:∀ b ∈ frs outer,H b = none
 hok:HOk P w H s.heap
 bare:AllBare s.gens
noncomputable def CE (outer:List Env) (P:Program) (w:World) (H:Hp) (s:Shared) (Q:VK) (u:Value) (s':Shared):Prop :=
 ∃ v H',s'.os = s.os ∧ AllBare s'.gens ∧ Un (frs outer) [] H H' s.heap s'.heap ∧ HOk P w H' s'.heap ∧ RelV v u ∧ Q v H'
noncomputable def CR (CX:CXT) (outer:List Env) (P:Program) (w:World) (H:Hp) (s:Shared) (Q:VK) (E:XK) (r:Result) (s':Shared):Prop :=
 match r with
 | .ok (.ret u)=>CE outer P w H s Q u s'
 | .ok _=>False
 | .error e=>CX outer H s E e s'
structure FnOk (P:Program) (w:World) (K:W.Frag) (mg:Str → Option Value) (base:Heap) (CX:CXT) (k:Nat) (f:Addr) (fd:FuncData) (ps:List Str) (sp:Sp):Prop where
 len:∀ vs H Q E,sp vs H Q E → vs.length = ps.length
 run:∀ (A:Around) (outer:List Env) (s:Shared) (H:Hp) (args:Args) (us:List Value) (vs:List V) (Q:VK) (E:XK),Room k A → Env0 P w K mg base A outer s H → BindsTo s fd args (ps.zip us) → Vals vs us → sp vs H Q E →
  codeAny (model P w) A (.call (.ref f) args) (CR CX outer P w H s Q E) s
section
variable {X:Cx} {pins:List (Addr × Obj)} {σ:St} {H:Hp} {s s':Shared}
theorem Inv.env0 (I:Inv X pins σ H s):Env0 X.prog X.w X.K X.mg X.base X.A X.stack s H :=
 ⟨I.ok.frames,I.ok.mod,I.bs,Nat.le_trans I.ok.bsz I.sz,I.stack,I.stkFree,I.hok,I.bare⟩
theorem Inv.after {Q:VK} {u:Value} (I:Inv X pins σ H s) (h:CE X.stack X.prog X.w H s Q u s'):EP X pins σ Q u s':=by
 obtain ⟨v,H',os,bare,un,hok,r,q⟩:=h
 obtain ⟨hh,g,d,t,os'⟩:=s'
 obtain rfl:os' = s.os:=os
 exact ⟨v,H',I.call (h':=hh) (g':=g) (d':=d) (t':=t) (ch:=[]) un hok bare (fun b z=>absurd z (by simp)),r,q⟩
end
noncomputable def tCall (sp:Sp) (dvs:List V) (E:XK) (t:TA):TE:=fun σ H Q=>t σ H fun vs H1=>sp (vs ++ dvs) H1 Q E
noncomputable def Binds (K:W.Frag) (fd:FuncData) (ps:List Str) (ds:List Value):Prop :=
 ∀ (s:Shared) (us:List Value),K.In s.heap → (us ++ ds).length = ps.length → BindsTo s fd ⟨us,[]⟩ (ps.zip (us ++ ds))
theorem Binds.all {K:W.Frag} {fd:FuncData} {ps:List Str} (h:∀ us:List Value,us.length = ps.length → bindArgs fd ⟨us,[]⟩ = pure (ps.zip us)):Binds K fd ps []:=fun s us _ hl=>by
 rw [List.append_nil] at hl ⊢
 exact .of_eq (h us hl)
noncomputable def Passes (CX:CXT) (X:Cx) (E:XK):Prop:=∀ (pins:List (Addr × Obj)) (σ:St) (H:Hp) (s:Shared) (e:Value) (s':Shared),Inv X pins σ H s → CX X.stack H s E e s' → X.xe e s'
section
variable {X:Cx} {CX:CXT} {k:Nat} {f C:Addr} {fd:FuncData} {ps:List Str} {sp:Sp} {dvs:List V} {ds:List Value} {E:XK} {x m:Str} {p pos apos:Pos} {e o:Expr} {es:List Expr} {ta:TE} {t:TA}
theorem run_fn {pins:List (Addr × Obj)} {σ:St} {H:Hp} {s:Shared} {Q:VK} {us:List Value} {vs:List V} (F:FnOk X.prog X.w X.K X.mg X.base CX k f fd ps sp) (hr:Room k X.A) (hb:Binds X.K fd ps ds) (hd:Vals dvs ds) (hx:Passes CX X E)
  (I:Inv X pins σ H s) (r:Vals vs us) (h:sp (vs ++ dvs) H Q E):wpAny (model X.prog X.w) X.A (call (.ref f) us) (EP X pins σ Q) X.xe s:=by
 have r2:Vals (vs ++ dvs) (us ++ ds):=r.append hd
 have hl:(us ++ ds).length = ps.length:=by rw [← r2.length]; exact F.len _ _ _ _ h
 refine wpAny_call (codeAny_mono (F.run X.A X.stack s H ⟨us,[]⟩ (us ++ ds) (vs ++ dvs) Q E hr I.env0 (hb s us I.kIn hl) r2 h) fun r s' hq=>?_)
 cases r with
 | error e=>exact hx pins σ H s e s' I hq
 | ok fl =>
  cases fl with
  | ret u=>exact I.after hq
  | next=>exact False.elim hq
  | brk=>exact False.elim hq
  | cont=>exact False.elim hq
theorem pe_call (F:FnOk X.prog X.w X.K X.mg X.base CX k f fd ps sp) (hr:Room k X.A) (hg:Gl X x) (hm:X.mg x = some (.ref f)) (hk:W.keepIn X.K (.ref f) = true) (hb:Binds X.K fd ps ds) (hd:Vals dvs ds) (hx:Passes CX X E)
  (ha:PA X (e :: es) t) (hdb:(x == ("__debug__" : Str)) = false:=by decide) (he:starEach (e :: es) X.env = (false,eval e X.env) :: starEach es X.env:=by rfl) (hpl:(backTo pos (starEach es X.env)).any (·.1) = false:=by rfl) :
  PE X (.Call (.Name x p) (e :: es) [] pos) (tCall sp dvs E t):=by
 intro pins s σ H Q I h
 refine wpAny_Call_Name_kw (ld_glob I hg hm ?_ hdb)
 refine W.callWith_K (h₀:=X.base) I.ok.mod.kin hk (thn (ha pos pins s σ H _ I h) fun us s1 ⟨vs,H1,I1,r,q⟩=>⟨I1.kIn,?_⟩) he hpl
 exact run_fn F hr hb hd hx I1 r q
end
section
variable {X:Cx} {CX:CXT} {k:Nat} {f C:Addr} {fd:FuncData} {ps ks:List Str} {sp:Sp} {E:XK} {x m:Str} {p pos apos kpos:Pos} {e o:Expr} {es:List Expr} {kws:List Keyword} {te ta:TE} {t tk:TA} {nm:Option Str}
variable {g:List Value → List Value → List Value} {gV:List V → List V → List V}
end
structure FnScope (N P:List Str) (sc:Scope):Prop where
 kind:sc.kind = .function
 co:sc.isCoroutine = false
 gen:sc.isGenerator = false
 nd:N.Nodup
 pre:N.take P.length = P
 par:∀ x ∈ P,sc.names.lookup x = some .local ∨ sc.names.lookup x = some .cell
 nofree:∀ y ∈ sc.names,y.2 ≠ .free
theorem bindL_out {kindOf:Str → Option NameKind} {x:Str}:∀ {binds:List (Str × Value)} {m:Str → Option Value},(∀ v,(x,v) ∉ binds) → bindL kindOf binds m x = m x
 | [],_,_=>rfl
 | (n,v) :: r,m,h=>by
  unfold bindL
  rw [bindL_out fun w hw=>h w (List.mem_cons_of_mem _ hw)]
  split
  ·have:x ≠ n:=by rintro rfl; exact h v List.mem_cons_self
   simp [this]
  ·rfl
theorem bindC_out {kindOf:Str → Option NameKind} {x:Str}:∀ {binds:List (Str × Value)} {m:Str → Option Value},(∀ v,(x,v) ∉ binds) → bindC kindOf binds m x = m x
 | [],_,_=>rfl
 | (n,v) :: r,m,h=>by
  unfold bindC
  rw [bindC_out fun w hw=>h w (List.mem_cons_of_mem _ hw)]
  split
  ·rfl
  ·have:x ≠ n:=by rintro rfl; exact h v List.mem_cons_self
   simp [this]
theorem bindL_get {kindOf:Str → Option NameKind} {x:Str} {v:Value}:∀ {P:List Str} {vs:List Value} {i:Nat} {m:Str → Option Value},P.Nodup → P[i]? = some x → vs[i]? = some v → kindOf x = some .local →
  bindL kindOf (P.zip vs) m x = some v
 | [],_,_,_,_,h,_,_=>by simp at h
 | _ :: _,[],_,_,_,_,h,_=>by simp at h
 | p :: P,w :: vs,0,m,nd,h1,h2,hk=>by
  simp at h1 h2; subst h1; subst h2
  show bindL kindOf ((p,w) :: P.zip vs) m p = _
  unfold bindL
  rw [bindL_out fun v hv=>(List.nodup_cons.mp nd).1 (List.of_mem_zip hv).1,if_pos hk]
  simp
 | p :: P,w :: vs,i + 1,m,nd,h1,h2,hk=>by
  show bindL kindOf ((p,w) :: P.zip vs) m x = _
  unfold bindL
  exact bindL_get (i:=i) (List.nodup_cons.mp nd).2 (by simpa using h1) (by simpa using h2) hk
theorem bindC_get {kindOf:Str → Option NameKind} {x:Str} {v:Value}:∀ {P:List Str} {vs:List Value} {i:Nat} {m:Str → Option Value},P.Nodup → P[i]? = some x → vs[i]? = some v → kindOf x ≠ some .local →
  bindC kindOf (P.zip vs) m x = some v
 | [],_,_,_,_,h,_,_=>by simp at h
 | _ :: _,[],_,_,_,_,h,_=>by simp at h
 | p :: P,w :: vs,0,m,nd,h1,h2,hk=>by
  simp at h1 h2; subst h1; subst h2
  show bindC kindOf ((p,w) :: P.zip vs) m p = _
  unfold bindC
  rw [bindC_out fun v hv=>(List.nodup_cons.mp nd).1 (List.of_mem_zip hv).1,if_neg hk]
  simp
 | p :: P,w :: vs,i + 1,m,nd,h1,h2,hk=>by
  show bindC kindOf ((p,w) :: P.zip vs) m x = _
  unfold bindC
  exact bindC_get (i:=i) (List.nodup_cons.mp nd).2 (by simpa using h1) (by simpa using h2) hk
noncomputable def start (N:List Str) (vs:List V):St:=vs.map some ++ List.replicate (N.length - vs.length) none
noncomputable def cxOf (CX:CXT) (P:Program) (w:World) (K:W.Frag) (mg:Str → Option Value) (base:Heap) (N:List Str) (qual:Str) (scope:Scope) (f:Addr) (cd:Value) (A:Around) (outer:List Env) (s:Shared) (H:Hp) (E:XK):Cx where
 prog:=P
 w:=w
 K:=K
 mg:=mg
 base:=base
 A:=A.deeper (envOfC qual scope s.heap.objs.size f cd)
 N:=N
 s₀:=s
 H₀:=H
 env:=envOfC qual scope s.heap.objs.size f cd
 outer:=outer
 stack:=envOfC qual scope s.heap.objs.size f cd :: outer
 ex:=[]
 calm:=true
 fn:=fun _=>true
 pn:=[]
 xe:=fun e s'=>wpAny (model P w) (A.deeper (envOfC qual scope s.heap.objs.size f cd)) (leaving (envOfC qual scope s.heap.objs.size f cd) e) (fun _ s''=>CX outer H s E e s'') (fun e' s''=>CX outer H s E e' s'') s'
theorem cell_has {sc:Scope} {n:Nat} {x:Str} (h:sc.names.lookup x = some .cell):∃ c,(cellsFrom n sc.names []).lookup x = some c:=by
 have q:=W.cellsFrom_some sc.names n [] (.inl h)
 exact Option.isSome_iff_exists.mp q
theorem inv_start {CX:CXT} {P:Program} {w:World} {K:W.Frag} {mg:Str → Option Value} {base:Heap} {N ps:List Str} {qual:Str} {scope:Scope} {f:Addr} {cd:Value} {A:Around} {outer:List Env} {s s1:Shared} {H:Hp} {E:XK} {us:List Value} {vs:List V}
  (S:FnScope N ps scope) (hd:A.handled = none) (e0:Env0 P w K mg base A outer s H) (hl:vs.length = ps.length) (r:Vals vs us)
  (x:InCallC s s.heap.objs.size (bindL (envOfC qual scope s.heap.objs.size f cd).kindOf (ps.zip us) fun _=>none) (cellsFrom (s.heap.objs.size + 1) scope.names []) (bindC (envOfC qual scope s.heap.objs.size f cd).kindOf (ps.zip us) fun _=>none) s1) :
  Inv (cxOf CX P w K mg base N qual scope f cd A outer s H E) [] (start N vs) H s1:=by
 have hpl:ps.length ≤ N.length:=by have:=congrArg List.length S.pre; rw [List.length_take] at this; omega
 obtain ⟨h1,tk,rfl,hk⟩:=x.done
 have noA:∀ b:Addr,b ∉ (cxOf CX P w K mg base N qual scope f cd A outer s H E).ex:=fun b z=>absurd (show b ∈ ([]:List Addr) from z) (by simp)
 refine ⟨⟨e0.mod,S.kind,rfl,rfl,Nat.le_refl _,fun y z c h1 h2=>?_,fun y hy=>?_,fun y c _ h=>?_,fun _=>hd,Around.frames_deeper e0.frames,.inr ⟨rfl,rfl⟩,fun b z=>absurd z (noA b),e0.bs,e0.bsz,fun b _ _=>noA b,fun b z=>absurd z (noA b),e0.funs,e0.frf⟩,
  rfl,e0.bare,Un.kept hk,⟨_,x.toInCall.ns,fun i y v h1 h2 h3=>?_⟩,fun y c h=>⟨_,x.cell y c h⟩,e0.hok.fresh (Nat.le_refl _),fun y c h=>?_,fun p hp=>absurd (show p ∈ ([]:List (Addr × Obj)) from hp) (by simp),e0.hok.kept hk,?_⟩
 ·exact name_of_addr x.apart (PySem.mem_of_lookup h1) (PySem.mem_of_lookup h2)
 ·have hy:scope.names.lookup y = some .cell ∨ scope.names.lookup y = some .free:=hy
  rcases hy with hy | hy
  ·exact cell_has hy
  ·exact absurd rfl (S.nofree _ (PySem.mem_of_lookup hy))
 ·exact Nat.le_of_lt (x.above y c (PySem.mem_of_lookup h))
 ·have hi:i < vs.length:=by
   unfold start at h2
   by_cases hi:i < vs.length
   ·exact hi
   ·rw [List.getElem?_append_right (by simpa using hi)] at h2
    rw [List.getElem?_replicate] at h2
    split at h2 <;> cases h2
  have ha:vs[i]? = some v:=by
   unfold start at h2
   rw [List.getElem?_append_left (by simpa using hi),List.getElem?_map] at h2
   cases e:vs[i]? with
   | none=>rw [e] at h2; cases h2
   | some a=>rw [e] at h2; cases h2; rfl
  obtain ⟨u,hu,rv⟩:=r.get ha
  have hp:ps[i]? = some y:=by
   rw [← S.pre,List.getElem?_take_of_lt (by omega)]; exact h1
  have ndP:ps.Nodup:=by rw [← S.pre]; exact S.nd.sublist (List.take_sublist _ _)
  refine ⟨u,rv,?_⟩
  rcases S.par y (List.mem_of_getElem? hp) with k | k
  ·exact .inl ⟨k,bindL_get ndP hp hu k⟩
  ·obtain ⟨c,e⟩:=cell_has (n:=s.heap.objs.size + 1) k
   refine .inr ⟨.inl k,c,e,?_⟩
   have q:=x.cell y c e
   rw [bindC_get ndP hp hu (by show scope.names.lookup y ≠ _; rw [k]; decide)] at q
   exact q
 ·exact e0.hok.fresh (Nat.le_of_lt (x.above y c (PySem.mem_of_lookup h)))
 ·unfold start
  show _ = N.length
  rw [List.length_append,List.length_map,List.length_replicate]
  omega
theorem fn_of {CX:CXT} {P:Program} {w:World} {K:W.Frag} {mg:Str → Option Value} {base:Heap} {k:Nat} {f:Addr} {name qual:Str} {params:Arguments} {body:List Stmt} {scope:Scope} {dV kV doc pm cdv ct oc:Value} {an od:Option Addr}
  {osl:Array (Option Value)} {N ps:List Str} {sp:Sp} (lk:K.lookup f = some ⟨oc,od,.func (W.fnOf name qual params body scope dV kV doc pm an cdv ct),osl⟩) (hcd:W.codeIn K cdv qual = true) (S:FnScope N ps scope)
  (len:∀ vs H Q E,sp vs H Q E → vs.length = ps.length)
  (hbody:∀ (A:Around) (outer:List Env) (s:Shared) (H:Hp) (vs:List V) (Q:VK) (E:XK),Room k (A.deeper (envOfC qual scope s.heap.objs.size f cdv)) → sp vs H Q E →
   ∃ t,PSs (cxOf CX P w K mg base N qual scope f cdv A outer s H E) body t ∧ t { nx:=fun _ H'=>Q .non H',rt:=Q } (start N vs) H) :
  FnOk P w K mg base CX (k + 1) f (W.fnOf name qual params body scope dV kV doc pm an cdv ct) ps sp:=by
 refine ⟨len,fun A outer s H args us vs Q E hr e0 hb r hsp=>?_⟩
 have hl:=len _ _ _ _ hsp
 have KX:K.In s.heap:=e0.mod.kin.keeps fun b o e=>(e0.bs b o e).1
 have lim:s.heap.NoLimit:=e0.mod.nolimit.keeps fun b o e=>(e0.bs b o e).1
 have hkind:∀ y ∈ ps.zip us,scope.names.lookup y.1 = some .local ∨ (scope.names.lookup y.1 = some .cell ∧ ((cellsFrom (s.heap.objs.size + 1) scope.names []).lookup y.1).isSome = true):=fun ⟨n,v⟩ hy=>by
  rcases S.par n (List.of_mem_zip hy).1 with q | q
  ·exact .inl q
  ·exact .inr ⟨q,W.cellsFrom_some _ _ _ (.inl q)⟩
 refine codeAny_call_function hr.depth (KX _ _ lk) rfl S.co S.gen rfl (W.codeRec_of KX hcd) (hb _ _ _ _ ?_)
 refine wpAny_newFunctionEnv_cells S.kind hkind fun env he s1 x=>?_
 subst he
 refine ⟨lim.keeps x.toInCall.keep,codeAny_func ?_⟩
 obtain ⟨t,ht,hq⟩:=hbody A outer s H vs Q E (hr.deeper _) hsp
 have I:Inv (cxOf CX P w K mg base N qual scope f cdv A outer s H E) [] (start N vs) H s1:=inv_start S hr.hd e0 hl r x
 refine wpAny_mono (ht [] s1 (start N vs) H _ I hq) (fun fl s' hs=>?_) fun e s' hs=>hs
 have fin:∀ {σ':St} {H':Hp} {v:V} {u:Value},Inv (cxOf CX P w K mg base N qual scope f cdv A outer s H E) [] σ' H' s' → RelV v u → Q v H' → CE outer P w H s Q u s' :=
  fun {σ' H' v u} J rv q=>⟨v,H',J.os,J.bare,J.base,J.hok,rv,q⟩
 cases fl with
 | ret u =>
  obtain ⟨v,σ',H',J,rv,q⟩:=hs
  exact fin J rv q
 | next =>
  obtain ⟨σ',H',J,q⟩:=hs
  exact fin (v:=V.non) (u:=Value.none) J rfl q
 | brk =>
  obtain ⟨_,_,_,q⟩:=hs
  exact False.elim q
 | cont =>
  obtain ⟨_,_,_,q⟩:=hs
  exact False.elim q
section
variable {X:Cx} {x:Str} {p pos:Pos} {e:Expr} {es:List Expr} {t:TA} {id T:String} {r:List V → Hp → VK → Prop}
noncomputable def tCB (r:List V → Hp → VK → Prop) (t:TA):TE:=fun σ H Q=>t σ H fun vs H1=>r vs H1 Q
theorem pe_callB (hc:CallR X (.builtin id) r) (hg:Gl X x) (hm:X.mg x = none) (hv:bootBuiltins x = some (.builtin id)) (ha:PA X (e :: es) t) (hn:x ≠ "__name__" := by decide) (hdb:(x == ("__debug__" : Str)) = false:=by decide)
  (he:starEach (e :: es) X.env = (false,eval e X.env) :: starEach es X.env:=by rfl) (hpl:(backTo pos (starEach es X.env)).any (·.1) = false:=by rfl):PE X (.Call (.Name x p) (e :: es) [] pos) (tCB r t):=by
 intro pins s σ H Q I h
 refine wpAny_Call_Name_kw (ld_blt I hg hm hv ?_ hn hdb)
 exact PyProof.Rows.callWith_builtin1 (thn (ha pos pins s σ H _ I h) fun us s1 ⟨vs,H1,I1,r1,q1⟩=>hc pins s1 σ H1 vs us Q I1 r1 q1) he hpl
theorem pe_callTy (hc:CallR X (.type T) r) (hg:Gl X x) (hm:X.mg x = none) (hv:bootBuiltins x = some (.type T)) (ha:PA X (e :: es) t) (hn:x ≠ "__name__" := by decide) (hdb:(x == ("__debug__" : Str)) = false:=by decide)
  (he:starEach (e :: es) X.env = (false,eval e X.env) :: starEach es X.env:=by rfl) (hpl:(backTo pos (starEach es X.env)).any (·.1) = false:=by rfl):PE X (.Call (.Name x p) (e :: es) [] pos) (tCB r t):=by
 intro pins s σ H Q I h
 refine wpAny_Call_Name_kw (ld_blt I hg hm hv ?_ hn hdb)
 exact PyProof.Rows.callWith_type1 (thn (ha pos pins s σ H _ I h) fun us s1 ⟨vs,H1,I1,r1,q1⟩=>hc pins s1 σ H1 vs us Q I1 r1 q1) he hpl
end
end L2
namespace HT
open PySem PyProof.Rows
section
open PySem.SeqAt
open PySem.AutoSeq1 (wpAny_loadPart')
open PySem.MeetsSeq PySem.MeetsSeq2 PySem.MeetsSeq3
end
section
variable {prog:Program} {w:World} {A:Around} {E:Value → Shared → Prop} {s:Shared}
theorem cat_tup {t b:Addr} {vs ws:List Value} {Q:Value → Shared → Prop} (ht:IsTup s.heap t vs.toArray) (hb:IsTup s.heap b ws.toArray) (hv:vs ≠ [])
  (h1:ws = [] → Q (.ref t) s) (h2:ws ≠ [] → Q (.ref s.heap.objs.size) { s with heap:=s.heap.push { cls:=.type "tuple",data:=.seq (vs ++ ws).toArray } })
  (hsz:vs.length + ws.length ≤ sizeLine):wpAny (model prog w) A (binaryOp .Add (.ref t) (.ref b)) Q E s:=by
 obtain ⟨⟨cls,dd,data,sl⟩,ho,hc,n,hd⟩:=id ht
 obtain ⟨⟨cls2,dd2,data2,sl2⟩,ho2,hc2,n2,hd2⟩:=id hb
 simp only at hc hd hc2 hd2
 subst hc hd hc2 hd2
 have e:vs.toArray ++ ws.toArray = (vs ++ ws).toArray:=by simp
 by_cases hw:ws = []
 ·exact concat_meets ⟨_,ho,rfl⟩ ⟨_,ho2,rfl⟩ noFill_tuple_add seq_tuple_add PySem.F.slot_tuple_add PySem.F.entry_tuple_add (PySem.F.args_tuple_add_2 _ _)
   (tuple_addW1 t b vs.toArray ws.toArray n n2 dd dd2 sl sl2 (by simpa using hv) (by simp [hw])) ⟨ho,ho2,h1 hw⟩
 ·refine concat_meets ⟨_,ho,rfl⟩ ⟨_,ho2,rfl⟩ noFill_tuple_add seq_tuple_add PySem.F.slot_tuple_add PySem.F.entry_tuple_add (PySem.F.args_tuple_add_2 _ _)
   (tuple_addW2 t b vs.toArray ws.toArray n n2 dd dd2 sl sl2 (by simpa using hv) (by simpa using hw) (by rw [List.size_toArray,List.size_toArray]; exact hsz)) ⟨ho,ho2,?_⟩
  rw [e]
  exact h2 hw
noncomputable def sIx (n d:Nat):Option Int → Nat
 | none=>d
 | some v=>if v < 0 then (v + (n:Int)).toNat else min v.toNat n
theorem sIx_le (n d:Nat) (hd:d ≤ n) (o:Option Int):sIx n d o ≤ n:=by
 cases o with
 | none=>exact hd
 | some v =>
  show (if v < 0 then (v + (n:Int)).toNat else min v.toNat n) ≤ n
  by_cases hv:v < 0
  ·rw [if_pos hv]; omega
  ·rw [if_neg hv]; exact Nat.min_le_right _ _
theorem clip_eq (v:Int) (n d:Nat):(if v < 0 then max (v + (n:Int)) 0 else min v (n:Int)) = ((sIx n d (some v):Nat):Int):=by
 show (if v < 0 then max (v + (n:Int)) 0 else min v (n:Int)) = (((if v < 0 then (v + (n:Int)).toNat else min v.toNat n):Nat):Int)
 by_cases hv:v < 0
 ·simp only [if_pos hv]; omega
 ·simp only [if_neg hv]; omega
theorem adjust_gen (lo hi:Option Int) (n:Nat):Builtin.Slice.sliceAdjust lo hi 1 (n:Int) = (((sIx n 0 lo:Nat):Int),((sIx n n hi:Nat):Int)):=by
 have h1:¬ ((1:Int) < 0):=by omega
 unfold Builtin.Slice.sliceAdjust
 simp only [h1,if_false]
 refine Prod.ext ?_ ?_
 ·cases lo with
  | none=>rfl
  | some v=>exact clip_eq v n 0
 ·cases hi with
  | none=>rfl
  | some v=>exact clip_eq v n n
theorem places_gen (i j:Nat):Builtin.Slice.slicePlaces (i:Int) (j:Int) 1 = j - i:=by
 unfold Builtin.Slice.slicePlaces
 have h1:(1:Int) > 0:=by omega
 simp only [h1,if_true,Int.ediv_one]
 split <;> omega
theorem slicePart_ {v:Value} {o:Option Int} {Q:Option Int → Shared → Prop} (p:IsPart v o) (h:Q o s):wpAny (model prog w) A (Builtin.Slice.slicePartIndex v) Q E s:=by
 cases p with
 | none=>exact slicePart_none h
 | int i t=>exact slicePart_int h
theorem sliceApplied_gen {sl:Addr} {vl vu:Value} {lo hi:Option Int} {n:Nat} {Q:Int × Int × Nat → Shared → Prop} (hs:s.heap.IsSliceOf sl vl vu .none) (pl:IsPart vl lo) (pu:IsPart vu hi)
  (h:Q (((sIx n 0 lo:Nat):Int),1,sIx n n hi - sIx n 0 lo) s):wpAny (model prog w) A (Builtin.Slice.sliceApplied (.ref sl) (pure (n:Int))) Q E s:=by
 obtain ⟨os,hos,hcs,hds⟩:=id hs
 unfold Builtin.Slice.sliceApplied Builtin.Slice.sliceFields
 refine wpAny_bind (wpAny_bind (wpAny_field hos hds (x:=vl) rfl (wpAny_bind (wpAny_field hos hds (x:=vu) rfl (wpAny_bind (wpAny_field hos hds (x:=.none) rfl (wpAny_pure ?_)))))))
 refine wpAny_bind (slicePart_none ?_)
 show wpAny _ _ (if ((1:Int) == 0) = true then _ else _) _ _ s
 rw [if_neg (by decide)]
 refine wpAny_bind (slicePart_ pl (wpAny_bind (slicePart_ pu (wpAny_bind (wpAny_pure ?_)))))
 show wpAny _ _ (match Builtin.Slice.sliceAdjust lo hi 1 (n:Int) with | (lo,hi)=>pure (lo,(1:Int),Builtin.Slice.slicePlaces lo hi 1)) _ _ s
 rw [adjust_gen lo hi n]
 show wpAny _ _ (pure (((sIx n 0 lo:Nat):Int),(1:Int),Builtin.Slice.slicePlaces ((sIx n 0 lo:Nat):Int) ((sIx n n hi:Nat):Int) 1)) _ _ s
 rw [places_gen]
 exact wpAny_pure h
theorem pick_gen (xs:Array Value) (i k:Nat):((List.range k).filterMap fun (m:Nat)=>xs[((i:Int) + (m:Int) * 1).toNat]?).toArray = ((xs.toList.drop i).take k).toArray:=by
 have e:(fun (m:Nat)=>xs[((i:Int) + (m:Int) * 1).toNat]?) = fun m=>xs[i + m]?:=by
  funext m
  have:((i:Int) + (m:Int) * 1).toNat = i + m:=by omega
  rw [this]
 rw [e]
 have:=pick_run xs i k
 rw [List.filterMap_map] at this
 have e2:((fun x=>xs[x]?) ∘ fun x=>i + x) = fun m=>xs[i + m]?:=rfl
 rw [e2] at this
 rw [this]
theorem getItem_tuple_cut {t sl:Addr} {items:Array Value} {vl vu:Value} {lo hi:Option Int} {Q:Value → Shared → Prop} (ht:IsTup s.heap t items) (hs:s.heap.IsSliceOf sl vl vu .none) (pl:IsPart vl lo) (pu:IsPart vu hi)
  (hw:¬ (sIx items.size 0 lo = 0 ∧ sIx items.size items.size hi = items.size))
  (h:Q (.ref s.heap.objs.size) { s with heap:=s.heap.push { cls:=.type "tuple",data:=.seq ((items.toList.drop (sIx items.size 0 lo)).take (sIx items.size items.size hi - sIx items.size 0 lo)).toArray } })
  (hsz:items.size ≤ sizeLine):wpAny (model prog w) A (getItem (.ref t) (.ref sl)) Q E s:=by
 have htake:sizeOk (.seq ((items.toList.drop (sIx items.size 0 lo)).take (sIx items.size items.size hi - sIx items.size 0 lo)).toArray):=by
  show ((items.toList.drop (sIx items.size 0 lo)).take (sIx items.size items.size hi - sIx items.size 0 lo)).toArray.size ≤ sizeLine
  rw [List.size_toArray,List.length_take,List.length_drop,Array.length_toList]
  omega
 have hj:sIx items.size items.size hi ≤ items.size:=sIx_le _ _ (Nat.le_refl _) hi
 obtain ⟨os,hos,hcs,hds⟩:=id hs
 have hTs:s.TypeIs (.ref sl) "slice" := ⟨os,hos,hcs⟩
 unfold getItem
 try with_reducible refine wpAny_holding ?_
 first | refine wpAny_bind (wpAny_pure ?_) | skip
 refine wpAny_bind (wpAny_sequenceKey ht.typeIs (by decide) ?_)
 refine wpAny_bind (wpAny_callSpecial?_slot (name:=Str.ofString "__getitem__") ht.typeIs PyProof.Rows.slot_tuple_getitem
  (wpAny_call_entry PyProof.Rows.slot_tuple_getitem ht.typeIs entry_tuple_getitem ?_ (args_tuple_getitem _ _)))
 show wpAny _ _ (Builtin.Tuple.tupleItemsOf (.ref t) >>= _) _ _ s
 refine wpAny_bind (tupleItemsOf_ ht ?_)
 refine wpAny_bind (wpAny_typeOf hTs ?_)
 rw [if_pos (by decide)]
 refine wpAny_bind (sliceApplied_gen hs pl pu ?_)
 have hno:¬ ((((sIx items.size 0 lo:Nat):Int) == 0 && (1:Int) == 1 && (sIx items.size items.size hi - sIx items.size 0 lo) == items.size) = true):=by
  intro q
  rw [Bool.and_eq_true,Bool.and_eq_true] at q
  have q1:((sIx items.size 0 lo:Nat):Int) = 0:=eq_of_beq q.1.1
  have q2:sIx items.size items.size hi - sIx items.size 0 lo = items.size:=eq_of_beq q.2
  exact hw ⟨by omega,by omega⟩
 show wpAny _ _ (if (((sIx items.size 0 lo:Nat):Int) == 0 && (1:Int) == 1 && (sIx items.size items.size hi - sIx items.size 0 lo) == items.size) = true then _ else _) _ _ s
 rw [if_neg hno,pick_gen]
 first
  | exact wpAny_bind (m:=Builtin.Tuple.tupleExact _) (wpAny_newObj_type (wpAny_pure ⟨_,rfl,wpAny_pure h⟩) htake)
  | exact wpAny_bind (m:=Builtin.Tuple.tupleExact _) (wpAny_newObj_type (wpAny_bind (wpAny_pure (wpAny_pure ⟨_,rfl,wpAny_pure h⟩))) htake)
  | exact wpAny_bind (wpAny_bind (m:=Builtin.Tuple.tupleExact _) (wpAny_newObj_type (wpAny_pure (wpAny_pure ⟨_,rfl,wpAny_pure h⟩)) htake))
  | exact wpAny_bind (wpAny_bind (m:=Builtin.Tuple.tupleExact _) (wpAny_newObj_type (wpAny_pure ⟨_,rfl,wpAny_pure h⟩) htake))
end
end HT
namespace L2
open PySem PySem.Spec PyProof.Rows
noncomputable abbrev TO:=St → Hp → (Option Int → Hp → Prop) → Prop
noncomputable def PO (X:Cx) (e:Option Expr) (t:TO):Prop :=
 ∀ (pins:List (Addr × Obj)) (s:Shared) (σ:St) (H:Hp) (Q:Option Int → Hp → Prop),Inv X pins σ H s → t σ H Q →
  wpAny (model X.prog X.w) X.A (evalPart e X.env) (fun u s'=>∃ o H',Inv X pins σ H' s' ∧ IsPart u o ∧ Q o H') X.xe s
noncomputable def tNoPart:TO:=fun _ H Q=>Q none H
noncomputable def tPart (t:TE):TO:=fun σ H Q=>t σ H fun x H1=>∃ i,x = .int i ∧ Q (some i) H1
section
variable {X:Cx} {e:Expr} {te:TE} {lo hi:Option Expr} {tl th:TO} {pos p2:Pos}
theorem po_none:PO X none tNoPart:=by
 intro pins s σ H Q I h
 rw [evalPart_none]
 exact wpAny_pure ⟨none,H,I,.none,h⟩
theorem po_some (h:PE X e te):PO X (some e) (tPart te):=by
 intro pins s σ H Q I hw
 rw [evalPart_some]
 refine thn (h pins s σ H _ I hw) fun u s1 ⟨x,H1,I1,r1,q1⟩=>?_
 obtain ⟨i,rfl,q⟩:=q1
 obtain ⟨t,rfl⟩:=r1
 exact ⟨some i,H1,I1,.int i t,q⟩
noncomputable def SlR (X:Cx) (r:V → Option Int → Option Int → Hp → VK → Prop):Prop :=
 ∀ (pins:List (Addr × Obj)) (s:Shared) (σ:St) (H:Hp) (x:V) (v vl vu:Value) (lo hi:Option Int) (sl:Addr) (Q:VK),Inv X pins σ H s → RelV x v → s.heap.IsSliceOf sl vl vu .none → IsPart vl lo → IsPart vu hi → r x lo hi H Q →
  ∃ T id,typeLookup (.type T) "__getitem__" = pure (some (.builtin id)) ∧ s.TypeIs v T ∧ wpAny (model X.prog X.w) X.A (getItem v (.ref sl)) (EP X pins σ Q) X.xe s
theorem SlR.or {r r':V → Option Int → Option Int → Hp → VK → Prop} (h:SlR X r) (h':SlR X r'):SlR X (fun x lo hi H Q=>r x lo hi H Q ∨ r' x lo hi H Q):=by
 intro pins s σ H x v vl vu lo hi sl Q I rx hs pl pu q
 rcases q with q | q
 ·exact h pins s σ H x v vl vu lo hi sl Q I rx hs pl pu q
 ·exact h' pins s σ H x v vl vu lo hi sl Q I rx hs pl pu q
noncomputable def tSl (r:V → Option Int → Option Int → Hp → VK → Prop) (te:TE) (tl th:TO):TE:=fun σ H Q=>te σ H fun x H1=>tl σ H1 fun l H2=>th σ H2 fun u H3=>r x l u H3 Q
theorem pe_slice {r:V → Option Int → Option Int → Hp → VK → Prop} (hr:SlR X r) (he:PE X e te) (hl:PO X lo tl) (hu:PO X hi th):PE X (.Subscript e (.Slice lo hi none p2) pos) (tSl r te tl th):=by
 intro pins s σ H Q I h
 refine Subscript_ (thn (he pins s σ H _ I h) fun v s1 ⟨x,H1,I1,r1,q1⟩=>?_)
 refine wpAny_Slice (thn (hl pins s1 σ H1 _ I1 q1) fun vl s2 ⟨l,H2,I2,pl,q2⟩=>thn (hu pins s2 σ H2 _ I2 q2) fun vu s3 ⟨u,H3,I3,pu,q3⟩=>?_)
 rw [evalPart_none]
 refine wpAny_pure ?_
 have I4:Inv X pins σ H3 { s3 with heap:=s3.heap.push { cls:=.type "slice",data:=.fields #[vl,vu,.none] } }:=I3.kept (t':=s3.toks) fun b ob q=>Heap.get?_push_of_some _ q
 obtain ⟨T,id,hT,ht,hg⟩:=hr pins { s3 with heap:=s3.heap.push { cls:=.type "slice",data:=.fields #[vl,vu,.none] } } σ H3 x v vl vu l u s3.heap.objs.size Q I4 r1 (Heap.IsSliceOf.new ..) pl pu q3
 show wpAny (model X.prog X.w) X.A (subscriptTail e (.Slice lo hi none p2) v (.ref s3.heap.objs.size)) (EP X pins σ Q) X.xe { s3 with heap:=s3.heap.push { cls:=.type "slice",data:=.fields #[vl,vu,.none] } }
 exact tail_any (ops:=[.ref s3.heap.objs.size,v]) ht hT hg (by with_unfolding_all rfl)
noncomputable def cutV (xs:List V) (lo hi:Option Int):List V:=(xs.drop (HT.sIx xs.length 0 lo)).take (HT.sIx xs.length xs.length hi - HT.sIx xs.length 0 lo)
theorem cutV_length (xs:List V) (lo hi:Option Int):(cutV xs lo hi).length ≤ xs.length:=by
 unfold cutV
 rw [List.length_take,List.length_drop]
 omega
noncomputable def rSlT (K:W.Frag):V → Option Int → Option Int → Hp → VK → Prop:=fun x lo hi H Q=>∃ a xs,x = .ref a ∧ SqT K H a xs ∧
 ¬ (HT.sIx xs.length 0 lo = 0 ∧ HT.sIx xs.length xs.length hi = xs.length) ∧ ∀ p,H p = none → Q (.ref p) (upd H p (.tup (cutV xs lo hi)))
theorem sl_tup:SlR X (rSlT X.K):=by
 intro pins s σ H x v vl vu lo hi sl Q I rx hs pl pu h
 obtain ⟨a,xs,rfl,hx,hw,q⟩:=h
 cases rx
 obtain ⟨its,r,ht,hz⟩:=I.tuple hx
 have hlen:its.toArray.size = xs.length:=by rw [List.size_toArray]; exact r.length.symm
 refine ⟨"tuple",_,PyProof.Rows.slot_tuple_getitem.lookup,ht.typeIs,?_⟩
 refine HT.getItem_tuple_cut ht hs pl pu (by rw [hlen]; exact hw) ?_ (by rw [hlen]; exact hz)
 rw [hlen]
 refine ⟨.ref s.heap.objs.size,_,I.laid (t':=s.toks) (o:=.tup (cutV xs lo hi)) (fun b ob q=>Heap.get?_push_of_some _ q) (Nat.le_refl _) ?_,rfl,q _ (I.hok.fresh (Nat.le_refl _))⟩
 exact ⟨Nat.le_trans (cutV_length xs lo hi) hz,_,(r.drop (HT.sIx xs.length 0 lo)).take (HT.sIx xs.length xs.length hi - HT.sIx xs.length 0 lo),IsTupN.new _ _⟩
noncomputable def rCatT (K:W.Frag):R2:=fun x y H Q=>∃ a b xs ys,x = .ref a ∧ y = .ref b ∧ SqT K H a xs ∧ SqT K H b ys ∧ xs ≠ [] ∧ xs.length + ys.length ≤ sizeLine ∧
 (ys = [] → Q (.ref a) H) ∧ (ys ≠ [] → ∀ p,H p = none → Q (.ref p) (upd H p (.tup (xs ++ ys))))
theorem Vals.nil_iff {xs:List V} {us:List Value} (r:Vals xs us):us = [] ↔ xs = []:=by
 cases r with
 | nil=>simp
 | cons _ _=>simp
theorem op_catT:OpR X (binaryOp .Add) (rCatT X.K):=by
 intro pins s σ H x y v u Q I rx ry h
 obtain ⟨a,b,xs,ys,rfl,rfl,ha,hb,hx,hz,q1,q2⟩:=h
 cases rx
 cases ry
 obtain ⟨its,r1,p1,_⟩:=I.tuple ha
 obtain ⟨its2,r2,p2,_⟩:=I.tuple hb
 refine HT.cat_tup p1 p2 (fun z=>hx (r1.nil_iff.mp z)) (fun z=>⟨.ref a,H,I,rfl,q1 (r2.nil_iff.mp z)⟩) (fun z=>?_) (by rw [← r1.length,← r2.length]; exact hz)
 refine ⟨.ref s.heap.objs.size,_,I.laid (t':=s.toks) (o:=.tup (xs ++ ys)) (fun b ob q=>Heap.get?_push_of_some _ q) (Nat.le_refl _) ?_,rfl,q2 (fun w=>z (r2.nil_iff.mpr w)) _ (I.hok.fresh (Nat.le_refl _))⟩
 exact ⟨by rw [List.length_append]; exact hz,_,r1.append r2,IsTupN.new _ _⟩
end
noncomputable def ixN (n:Nat) (i:Int):Option Nat:=if 0 ≤ i then (if i < n then some i.toNat else none) else if -(n:Int) ≤ i then some (i + n).toNat else none
noncomputable def atI {α:Type} (xs:List α) (i:Int):Option α:=(ixN xs.length i).bind fun j=>xs[j]?
theorem ixN_seq {n:Nat} {i:Int} {j:Nat} (h:ixN n i = some j):seqIndex? i n = some j ∧ j < n ∧ -(n:Int) ≤ i ∧ i < n:=by
 unfold ixN at h
 by_cases h0:0 ≤ i
 ·rw [if_pos h0] at h
  by_cases h1:i < n
  ·rw [if_pos h1] at h
   have e:i.toNat = j:=Option.some.inj h
   exact ⟨by rw [seqIndex_of h0 h1,e],by omega,by omega,h1⟩
  ·rw [if_neg h1] at h; cases h
 ·rw [if_neg h0] at h
  by_cases h1:-(n:Int) ≤ i
  ·rw [if_pos h1] at h
   have e:(i + n).toNat = j:=Option.some.inj h
   exact ⟨by rw [seqIndex_neg (by omega) h1,e],by omega,h1,by omega⟩
  ·rw [if_neg h1] at h; cases h
theorem atI_get {α:Type} {xs:List α} {i:Int} {v:α} (h:atI xs i = some v):∃ j,seqIndex? i xs.length = some j ∧ xs[j]? = some v ∧ j < xs.length ∧ -(xs.length:Int) ≤ i ∧ i < xs.length:=by
 unfold atI at h
 cases e:ixN xs.length i with
 | none=>rw [e] at h; cases h
 | some j =>
  rw [e] at h
  obtain ⟨h1,h2,h3,h4⟩:=ixN_seq e
  exact ⟨j,h1,h,h2,h3,h4⟩
noncomputable def PlainIx (b:Expr):Prop:=∀ o i,subscripted b false o i = operate [o,i] (getItem o i)
noncomputable def IxR (X:Cx) (r:R2):Prop :=
 ∀ (value slice:Expr) (pins:List (Addr × Obj)) (s:Shared) (σ:St) (H:Hp) (x y:V) (v u:Value) (Q:VK),Inv X pins σ H s → RelV x v → RelV y u → r x y H Q →
  subscripted slice false v u = operate [v,u] (getItem v u) → wpAny (model X.prog X.w) X.A (subscriptTail value slice v u) (EP X pins σ Q) X.xe s
noncomputable def MtR (X:Cx) (id:String) (r:V → List V → Hp → VK → Prop):Prop :=
 ∀ (pins:List (Addr × Obj)) (s:Shared) (σ:St) (H:Hp) (x:V) (xs:List V) (v:Value) (us:List Value) (Q:VK),Inv X pins σ H s → RelV x v → Vals xs us → r x xs H Q →
  wpAny (model X.prog X.w) X.A (call (.builtin id) (v :: us)) (EP X pins σ Q) X.xe s
section
variable {X:Cx} {a b:Expr} {ta tb:TE} {pos:Pos}
theorem IxR.or {r r':R2} (h:IxR X r) (h':IxR X r'):IxR X (fun x y H Q=>r x y H Q ∨ r' x y H Q):=by
 intro value slice pins s σ H x y v u Q I rx ry q hs
 rcases q with q | q
 ·exact h value slice pins s σ H x y v u Q I rx ry q hs
 ·exact h' value slice pins s σ H x y v u Q I rx ry q hs
theorem pe_ix {r:R2} (hr:IxR X r) (ha:PE X a ta) (hb:PE X b tb) (hs:PlainIx b):PE X (.Subscript a b pos) (tOp r ta tb):=by
 intro pins s σ H Q I h
 exact Subscript_ (binT ha hb I h fun v u s2 x y H2 I2 rx ry q=>hr a b pins s2 σ H2 x y v u Q I2 rx ry q (hs _ _))
noncomputable def rIxL (K:W.Frag):R2:=fun x y H Q=>∃ p xs i v,x = .ref p ∧ y = .int i ∧ SqL K H p xs ∧ atI xs i = some v ∧ Q v H
noncomputable def rIxT (K:W.Frag):R2:=fun x y H Q=>∃ p xs i v,x = .ref p ∧ y = .int i ∧ SqT K H p xs ∧ atI xs i = some v ∧ Q v H
noncomputable def rIxS:R2:=fun x y H Q=>∃ z i c,x = .str z ∧ y = .int i ∧ z.length ≤ sizeLine ∧ atI z.cps.toList i = some c ∧ Q (.str ⟨#[c]⟩) H
theorem ix_list:IxR X (rIxL X.K):=by
 intro value slice pins s σ H x y v u Q I rx ry h hs
 obtain ⟨p,xs,i,z,rfl,rfl,hq,he,q⟩:=h
 cases rx
 obtain ⟨t,rfl⟩:=ry
 obtain ⟨its,r,pl,hz⟩:=I.list hq
 obtain ⟨j,h1,h2,h3,h4,h5⟩:=atI_get he
 obtain ⟨w,ew,rw'⟩:=r.get h2
 have hl:=r.length
 have hn:=line63
 have fin:EP X pins σ Q w s:=⟨z,H,I,rw',q⟩
 by_cases h0:0 ≤ i
 ·have hj:i.toNat = j:=by
   rw [seqIndex_of h0 h5] at h1
   exact Option.some.inj h1
  exact item_listR pl.isList h0 (by omega) (by rw [hj]; simpa using ew) fin hs
 ·have hj:(i + (its.toArray.size:Int)).toNat = j:=by
   rw [seqIndex_neg (by omega) h4] at h1
   rw [List.size_toArray,← hl]
   exact Option.some.inj h1
  exact subscriptTail_builtinR (x:=w) pl.isList.typeIs slot_list_getitem.lookup
   (wpAny_getItem_list_neg (Q:=fun r s'=>r = w ∧ EP X pins σ Q r s') pl.isList (by omega) (by rw [List.size_toArray] <;> omega) (by omega) (by rw [hj]; simpa using ew) ⟨rfl,fin⟩) hs
theorem ix_tup:IxR X (rIxT X.K):=by
 intro value slice pins s σ H x y v u Q I rx ry h hs
 obtain ⟨p,xs,i,z,rfl,rfl,hq,he,q⟩:=h
 cases rx
 obtain ⟨t,rfl⟩:=ry
 obtain ⟨its,r,pl,hz⟩:=I.tuple hq
 obtain ⟨j,h1,h2,h3,h4,h5⟩:=atI_get he
 obtain ⟨w,ew,rw'⟩:=r.get h2
 have hl:=r.length
 have hn:=line63
 have fin:EP X pins σ Q w s:=⟨z,H,I,rw',q⟩
 exact subscriptTail_builtinR (x:=w) pl.typeIs slot_tuple_getitem.lookup
  (getItem_tuple (j:=j) (Q:=fun r s'=>r = w ∧ EP X pins σ Q r s') pl (by omega) (by omega) (by rw [List.size_toArray,← hl]; exact h1) (by simpa using ew) ⟨rfl,fin⟩) hs
theorem ix_str:IxR X rIxS:=by
 intro value slice pins s σ H x y v u Q I rx ry h hs
 obtain ⟨z,i,c,rfl,rfl,hz,he,q⟩:=h
 obtain ⟨t,rfl⟩:=rx
 obtain ⟨t',rfl⟩:=ry
 obtain ⟨j,h1,h2,h3,h4,h5⟩:=atI_get he
 have hl:z.cps.toList.length = z.length:=by simp [Str.length]
 rw [hl] at h1 h4 h5
 have hn:=line63
 exact tail_any (typeIs_str s z t) slot_str_getitem.lookup (getItem_str (c:=c) (by
  have e1:decide (i < -(2 ^ 63:Int)) = false:=decide_eq_false (by omega)
  have e2:decide (i ≥ 2 ^ 63) = false:=decide_eq_false (by omega)
  rw [e1,e2,Bool.or_false]) (by rw [h1]; simpa using h2) ⟨.str ⟨#[c]⟩,H,I.tok _,⟨_,rfl⟩,q⟩) hs
noncomputable def rIx (K:W.Frag):R2:=fun x y H Q=>rIxL K x y H Q ∨ rIxT K x y H Q ∨ rIxS x y H Q
theorem ix_seq:IxR X (rIx X.K):=ix_list.or (ix_tup.or ix_str)
theorem mapSeq_set (its:List Value) (n j:Nat) (u:Value):Obj.mapSeq (·.setIfInBounds j u) { cls:=.type "list",data:=.seq its.toArray n } = { cls:=.type "list",data:=.seq (its.set j u).toArray n }:=by
 simp [Obj.mapSeq]
theorem Inv.lst {pins:List (Addr × Obj)} {σ:St} {H:Hp} {s:Shared} {p:Addr} {xs:List V} (I:Inv X pins σ H s) (h:H p = some (.lst xs)) :
  ∃ (its:List Value) (n:Nat),Vals xs its ∧ s.heap.get? p = some { cls:=.type "list",data:=.seq its.toArray n } ∧ xs.length ≤ sizeLine:=by
 obtain ⟨z,its,n,r,e⟩:=I.hok p _ h
 exact ⟨its,n,r,e,z⟩
theorem Inv.lstUpd {pins:List (Addr × Obj)} {σ:St} {H:Hp} {s:Shared} {p:Addr} {xs ys:List V} {its its':List Value} {n n':Nat} {f:Obj → Obj} (I:Inv X pins σ H s) (h:H p = some (.lst xs))
  (ho:s.heap.get? p = some { cls:=.type "list",data:=.seq its.toArray n }) (hf:f { cls:=.type "list",data:=.seq its.toArray n } = { cls:=.type "list",data:=.seq its'.toArray n' }) (r:Vals ys its') (hz:ys.length ≤ sizeLine) (t:Nat) :
  Inv X pins σ (upd H p (.lst ys)) { s with heap:=s.heap.update p f,toks:=t }:=by
 have e:(s.heap.update p f).get? p = some { cls:=.type "list",data:=.seq its'.toArray n' }:=by
  rw [Heap.get?_update_self f ho (by rw [hf] <;> rfl),hf]
 refine I.write (x:=p) (e:=p) (by rw [h]; trivial) (.inl rfl) (fun b u hb q=>(Heap.get?_update_other _ _ (Ne.symm hb)).trans q) ⟨_,e⟩ ?_
 exact ⟨hz,its',n',r,e⟩
noncomputable def rSetL:V → V → V → Hp → (Hp → Prop) → Prop:=fun o i v H Q=>∃ p xs k j,o = .ref p ∧ i = .int k ∧ H p = some (.lst xs) ∧ ixN xs.length k = some j ∧ Q (upd H p (.lst (xs.set j v)))
theorem set_list:PSet X rSetL:=by
 intro pins s σ H o i v ov iv u Q I ro ri rv h
 obtain ⟨p,xs,k,j,rfl,rfl,hp,hj,q⟩:=h
 cases ro
 obtain ⟨t,rfl⟩:=ri
 obtain ⟨its,n,r,ho,hz⟩:=I.lst hp
 obtain ⟨h1,h2,h3,h4⟩:=ixN_seq hj
 have hl:=r.length
 have hn:=line63
 have I':Inv X pins σ (upd H p (.lst (xs.set j v))) { s with heap:=s.heap.update p (Obj.mapSeq (·.setIfInBounds j u)) } :=
  I.lstUpd hp ho (mapSeq_set its n j u) (r.set rv j) (by rw [List.length_set]; exact hz) s.toks
 by_cases h0:0 ≤ k
 ·have hk:k.toNat = j:=by
   rw [seqIndex_of h0 h4] at h1
   exact Option.some.inj h1
  exact W.ki_setAt ho h0 (by omega) (by rw [List.size_toArray,← hl]; exact h4) (by rw [hk]; exact ⟨_,I',q⟩)
 ·have hk:(k + (its.toArray.size:Int)).toNat = j:=by
   rw [seqIndex_neg (by omega) h3] at h1
   rw [List.size_toArray,← hl]
   exact Option.some.inj h1
  exact W.ki_setBack ho (by omega) (by rw [List.size_toArray,← hl]; exact h3) (by omega) (by rw [hk]; exact ⟨_,I',q⟩)
theorem slice_bounds (lo hi:Option Int) (n:Nat):(sliceBounds lo hi none n).1 = ((HT.sIx n 0 lo:Nat):Int) ∧ (sliceBounds lo hi none n).2.1 = ((HT.sIx n n hi:Nat):Int) ∧ (sliceBounds lo hi none n).2.2 = 1:=by
 refine ⟨?_,?_,rfl⟩
 ·cases lo with
  | none=>simp [sliceBounds,HT.sIx]
  | some i =>
   simp only [sliceBounds,HT.sIx,Option.getD_none,show (1:Int) > 0 by decide,if_true]
   by_cases h:i < 0
   ·simp only [h,if_true] <;> omega
   ·simp only [h,if_false] <;> omega
 ·cases hi with
  | none=>simp [sliceBounds,HT.sIx]
  | some i =>
   simp only [sliceBounds,HT.sIx,Option.getD_none,show (1:Int) > 0 by decide,if_true]
   by_cases h:i < 0
   ·simp only [h,if_true] <;> omega
   ·simp only [h,if_false] <;> omega
theorem slicePick_cut (its:List Value) (lo hi:Option Int):slicePick its.toArray lo hi none = ((its.drop (HT.sIx its.length 0 lo)).take (HT.sIx its.length its.length hi - HT.sIx its.length 0 lo)).toArray:=by
 obtain ⟨h1,h2,h3⟩:=slice_bounds lo hi its.toArray.size
 unfold slicePick
 rw [h1,h2,h3]
 simp only [sliceRange_one,pick_run,List.size_toArray] <;> rfl
noncomputable def rSlL (K:W.Frag):V → Option Int → Option Int → Hp → VK → Prop:=fun x lo hi H Q=>∃ a xs,x = .ref a ∧ SqL K H a xs ∧ ∀ p,H p = none → Q (.ref p) (upd H p (.lst (cutV xs lo hi)))
theorem sl_list:SlR X (rSlL X.K):=by
 intro pins s σ H x v vl vu lo hi sl Q I rx hs pl pu h
 obtain ⟨a,xs,rfl,hx,q⟩:=h
 cases rx
 obtain ⟨its,r,ht,hz⟩:=I.list hx
 have hlen:=r.length
 refine ⟨"list",_,slot_list_getitem.lookup,ht.isList.typeIs,?_⟩
 refine wpAny_getItem_list_slice ht.isList hs pl pu .none (by simp) ?_ (by rw [List.size_toArray] <;> omega)
 rw [slicePick_cut,← hlen]
 refine ⟨.ref s.heap.objs.size,_,I.laid (t':=s.toks) (o:=.lst (cutV xs lo hi)) (fun b ob q=>Heap.get?_push_of_some _ q) (Nat.le_refl _) ?_,rfl,q _ (I.hok.fresh (Nat.le_refl _))⟩
 exact ⟨Nat.le_trans (cutV_length xs lo hi) hz,_,0,(r.drop (HT.sIx xs.length 0 lo)).take (HT.sIx xs.length xs.length hi - HT.sIx xs.length 0 lo),Heap.get?_push_size _ rfl⟩
noncomputable def flatV:V → Bool
 | .non=>true
 | .bl _=>true
 | .int _=>true
 | .str _=>true
 | _=>false
noncomputable def eqV:V → V → Bool
 | .non,.non=>true
 | .bl a,.bl b=>a == b
 | .bl a,.int b=>(if a then 1 else 0) == b
 | .int a,.bl b=>a == (if b then 1 else 0)
 | .int a,.int b=>a == b
 | .str a,.str b=>a == b
 | _,_=>false
theorem eqAt_V {A:Around} {s:Shared} {y x:V} {u v:Value} (ry:RelV y u) (rx:RelV x v) (fy:flatV y = true) (fx:flatV x = true):SeqAt.EqAt A s u v (eqV y x):=by
 cases y with
 | non =>
  cases ry
  cases x with
  | non=>cases rx; exact SeqAt.EqAt.same _
  | bl b=>cases rx; exact SeqAt.EqAt.none_bool b
  | int b=>obtain ⟨t,rfl⟩:=rx; exact SeqAt.EqAt.none_int b t
  | str b=>obtain ⟨t,rfl⟩:=rx; exact SeqAt.EqAt.none_str b t
  | _=>exact absurd (show false = true from fx) Bool.false_ne_true
 | bl a =>
  cases ry
  cases x with
  | non=>cases rx; exact SeqAt.EqAt.bool_none a
  | bl b=>cases rx; exact SeqAt.EqAt.bool_bool a b
  | int b=>obtain ⟨t,rfl⟩:=rx; exact SeqAt.EqAt.bool_int a b t
  | str b=>obtain ⟨t,rfl⟩:=rx; exact SeqAt.EqAt.bool_str a b t
  | _=>exact absurd (show false = true from fx) Bool.false_ne_true
 | int a =>
  obtain ⟨t',rfl⟩:=ry
  cases x with
  | non=>cases rx; exact SeqAt.EqAt.int_none a t'
  | bl b=>cases rx; exact SeqAt.EqAt.int_bool a t' b
  | int b=>obtain ⟨t,rfl⟩:=rx; exact SeqAt.EqAt.int_int a t' b t
  | str b=>obtain ⟨t,rfl⟩:=rx; exact SeqAt.EqAt.int_str a t' b t
  | _=>exact absurd (show false = true from fx) Bool.false_ne_true
 | str a =>
  obtain ⟨t',rfl⟩:=ry
  cases x with
  | non=>cases rx; exact SeqAt.EqAt.str_none a t'
  | bl b=>cases rx; exact SeqAt.EqAt.str_bool a t' b
  | int b=>obtain ⟨t,rfl⟩:=rx; exact SeqAt.EqAt.str_int a t' b t
  | str b=>obtain ⟨t,rfl⟩:=rx; exact SeqAt.EqAt.str_str a t' b t
  | _=>exact absurd (show false = true from fx) Bool.false_ne_true
 | _=>exact absurd (show false = true from fy) Bool.false_ne_true
noncomputable def eqU (x:V) (u:Value):Bool:=match u with
 | .none=>eqV .non x
 | .bool b=>eqV (.bl b) x
 | .int i _=>eqV (.int i) x
 | .str z _=>eqV (.str z) x
 | _=>false
theorem eqU_of {x y:V} {u:Value} (r:RelV y u) (f:flatV y = true):eqU x u = eqV y x:=by
 cases y with
 | non=>cases r; rfl
 | bl b=>cases r; rfl
 | int i=>obtain ⟨t,rfl⟩:=r; rfl
 | str z=>obtain ⟨t,rfl⟩:=r; rfl
 | _=>exact absurd (show false = true from f) Bool.false_ne_true
theorem any_eqU {x:V}:∀ {xs:List V} {us:List Value},Vals xs us → xs.all flatV = true → us.any (eqU x) = xs.any fun y=>eqV y x
 | _,_,.nil,_=>rfl
 | y :: xs,u :: us,.cons r t,f=>by
  rw [List.all_cons,Bool.and_eq_true] at f
  rw [List.any_cons,List.any_cons,eqU_of r f.1,any_eqU t f.2]
theorem mem_eqAt {A:Around} {s:Shared} {x:V} {v:Value} (rx:RelV x v) (fx:flatV x = true):∀ {xs:List V} {us:List Value},Vals xs us → xs.all flatV = true → ∀ u ∈ us,SeqAt.EqAt A s u v (eqU x u)
 | _,_,.nil,_=>fun u hu=>by cases hu
 | y :: xs,u :: us,.cons r t,f=>fun u' hu=>by
  rw [List.all_cons,Bool.and_eq_true] at f
  rcases List.mem_cons.mp hu with rfl | hu
  ·rw [eqU_of r f.1]; exact eqAt_V r rx f.1 fx
  ·exact mem_eqAt rx fx t f.2 u' hu
noncomputable def inV (x:V) (xs:List V):Bool:=xs.any fun y=>eqV y x
noncomputable def rIn (K:W.Frag) (neg:Bool):R2:=fun x y H Q=>∃ p xs,y = .ref p ∧ (SqL K H p xs ∨ SqT K H p xs) ∧ flatV x = true ∧ xs.all flatV = true ∧ Q (.bl (if neg then !inV x xs else inV x xs)) H
theorem op_notIn_seq:OpR X (compareOp .NotIn) (rIn X.K true):=by
 intro pins s σ H x y v u Q I rx ry h
 obtain ⟨p,xs,rfl,hq,fx,fs,q⟩:=h
 cases ry
 rcases hq with hq | hq
 ·obtain ⟨its,r,pl,hz⟩:=I.list hq
  refine SeqAt.notIn_listAt (eqU x) pl.isList (fun w hw=>mem_eqAt rx fx r fs w (by simpa using hw)) ⟨.bl _,H,I,rfl,?_⟩
  rw [show its.toArray.any (eqU x) = its.any (eqU x) by simp,any_eqU r fs]
  exact q
 ·obtain ⟨its,r,pl,hz⟩:=I.tuple hq
  refine SeqAt.notIn_tupleAt (eqU x) pl (fun w hw=>mem_eqAt rx fx r fs w (by simpa using hw)) ⟨.bl _,H,I,rfl,?_⟩
  rw [show its.toArray.any (eqU x) = its.any (eqU x) by simp,any_eqU r fs]
  exact q
theorem call_len_seq:CallR X (.builtin "len") (fun xs H Q=>∃ p ys,xs = [.ref p] ∧ (SqL X.K H p ys ∨ SqT X.K H p ys) ∧ Q (.int ys.length) H):=by
 intro pins s σ H xs us Q I r h
 obtain ⟨p,ys,rfl,hq,q⟩:=h
 obtain ⟨u,rfl,rx⟩:=vals1 r
 cases rx
 have hn:=line63
 rcases hq with hq | hq
 ·obtain ⟨its,r',pl,hz⟩:=I.list hq
  have hlen:=r'.length
  exact Calls.call_len_list pl.isList (by simp only [List.size_toArray] <;> omega) ⟨.int ys.length,H,I.tok _,⟨s.toks + 1,by rw [List.size_toArray,hlen]⟩,q⟩
 ·obtain ⟨its,r',pl,hz⟩:=I.tuple hq
  have hlen:=r'.length
  exact len_tuple pl (by simp only [List.size_toArray] <;> omega) ⟨.int ys.length,H,I.tok _,⟨s.toks + 1,by rw [List.size_toArray,hlen]⟩,q⟩
theorem call_len_str:CallR X (.builtin "len") (fun xs H Q=>∃ z,xs = [.str z] ∧ z.length ≤ sizeLine ∧ Q (.int z.length) H):=by
 intro pins s σ H xs us Q I r h
 obtain ⟨z,rfl,hz,q⟩:=h
 obtain ⟨u,rfl,t,rfl⟩:=vals1 r
 have hn:=line63
 exact len_str (by omega) ⟨.int z.length,H,I.tok _,⟨_,rfl⟩,q⟩
theorem CallR.or {f:Value} {r r':List V → Hp → VK → Prop} (h:CallR X f r) (h':CallR X f r'):CallR X f (fun xs H Q=>r xs H Q ∨ r' xs H Q):=by
 intro pins s σ H xs us Q I rs q
 rcases q with q | q
 ·exact h pins s σ H xs us Q I rs q
 ·exact h' pins s σ H xs us Q I rs q
theorem call_list_of:CallR X (.type "list") (fun xs H Q=>∃ p ys,xs = [.ref p] ∧ (SqL X.K H p ys ∨ SqT X.K H p ys) ∧ ∀ l,H l = none → Q (.ref l) (upd H l (.lst ys))):=by
 intro pins s σ H xs us Q I r h
 obtain ⟨p,ys,rfl,hq,q⟩:=h
 obtain ⟨u,rfl,rx⟩:=vals1 r
 cases rx
 have fin:∀ (its:List Value),Vals ys its → ys.length ≤ sizeLine → ∀ (h':Heap) (c':Nat),(∀ b o',s.heap.get? b = some o' → h'.get? b = some o') →
   h'.get? s.heap.objs.size = some { cls:=.type "list",dict:=none,data:=.seq its.toArray c',slots:=#[] } → EP X pins σ Q (.ref s.heap.objs.size) { s with heap:=h' }:=fun its r' hz h' c' kp e =>
  ⟨.ref s.heap.objs.size,_,I.laid (t':=s.toks) kp (Nat.le_refl _) (show ObjOk X.prog X.w _ h' _ (.lst ys) from ⟨hz,its,c',r',e⟩),rfl,q _ (I.hok.fresh (Nat.le_refl _))⟩
 rcases hq with hq | hq
 ·obtain ⟨its,r',pl,hz⟩:=I.list hq
  have hlen:=r'.length
  obtain ⟨o,ho,hc,n,hd⟩:=pl.isList
  exact call_list_seq p (.inl rfl) ho hc hd (fun h' c' kp e=>fin its r' hz h' c' kp e) (by simp only [List.size_toArray] <;> omega)
 ·obtain ⟨its,r',pl,hz⟩:=I.tuple hq
  have hlen:=r'.length
  obtain ⟨o,ho,hc,n,hd⟩:=pl
  exact call_list_seq p (.inr rfl) ho hc hd (fun h' c' kp e=>fin its r' hz h' c' kp e) (by simp only [List.size_toArray] <;> omega)
theorem call_tuple_of:CallR X (.type "tuple") (fun xs H Q=>∃ p ys,xs = [.ref p] ∧ ((SqL X.K H p ys ∧ ∀ l,H l = none → Q (.ref l) (upd H l (.tup ys))) ∨ (SqT X.K H p ys ∧ Q (.ref p) H))):=by
 intro pins s σ H xs us Q I r h
 obtain ⟨p,ys,rfl,h⟩:=h
 obtain ⟨u,rfl,rx⟩:=vals1 r
 cases rx
 rcases h with ⟨hq,q⟩ | ⟨hq,q⟩
 ·obtain ⟨its,r',pl,hz⟩:=I.list hq
  have hlen:=r'.length
  refine call_tuple_list pl.isList (fun h' kp=>?_) (by simp only [List.size_toArray] <;> omega)
  have I1:Inv X pins σ H { s with heap:=h' }:=I.kept (t':=s.toks) kp
  have I2:Inv X pins σ (upd H h'.objs.size (.tup ys)) { s with heap:=h'.push { cls:=.type "tuple",data:=.seq its.toArray } } :=
   I1.laid (t':=s.toks) (fun b o e=>Heap.get?_push_of_some _ e) (Nat.le_refl _) (show ObjOk X.prog X.w _ _ _ (.tup ys) from ⟨hz,its,r',IsTupN.new _ _⟩)
  exact ⟨.ref h'.objs.size,_,I2,rfl,q _ (I1.hok.fresh (Nat.le_refl _))⟩
 ·obtain ⟨its,r',pl,hz⟩:=I.tuple hq
  exact call_tuple_same pl ⟨.ref p,H,I,rfl,q⟩
noncomputable def tyV (K:W.Frag) (T:String) (x:V) (H:Hp):Prop:=match x with
 | .str _=>T = "str"
 | .int _=>T = "int"
 | .ref p=>(T = "list" ∧ ∃ xs,SqL K H p xs) ∨ (T = "tuple" ∧ ∃ o,K.lookup p = some o ∧ o.cls = .type "tuple" ∧ o.dict = none) ∨
   (T = "dict" ∧ ((∃ kvs,H p = some (.dK kvs)) ∨ ∃ kvs,H p = some (.dT kvs))) ∨ (T = "set" ∧ ∃ S n,H p = some (.set S n))
 | _=>False
theorem tyV_is {pins:List (Addr × Obj)} {σ:St} {H:Hp} {s:Shared} {T:String} {x:V} {v:Value} (I:Inv X pins σ H s) (r:RelV x v) (ty:tyV X.K T x H) :
  s.TypeIs v T ∧ ∀ a,v = .ref a → ∃ ob,s.heap.get? a = some ob ∧ ob.dict = none:=by
 cases x with
 | str z =>
  obtain ⟨t,rfl⟩:=r
  cases (show T = "str" from ty)
  exact ⟨typeIs_str s z t,fun _ e=>nomatch e⟩
 | int i =>
  obtain ⟨t,rfl⟩:=r
  cases (show T = "int" from ty)
  exact ⟨typeIs_int s i t,fun _ e=>nomatch e⟩
 | ref p =>
  cases r
  rcases ty with ⟨rfl,xs,hq⟩ | ⟨rfl,o,hk,hc,hd⟩ | ⟨rfl,hk⟩ | ⟨rfl,S,n,hk⟩
  ·obtain ⟨its,_,pl,_⟩:=I.list hq
   refine ⟨pl.isList.typeIs,fun a e=>?_⟩
   cases e
   obtain ⟨o,n,e,c,hd,_⟩:=pl
   exact ⟨o,e,hd⟩
  ·refine ⟨⟨o,I.kIn p o hk,hc⟩,fun a e=>?_⟩
   cases e
   exact ⟨o,I.kIn _ o hk,hd⟩
  ·have z:∃ o,s.heap.get? p = some o ∧ o.ExactDict:=by
    rcases hk with ⟨kvs,hk⟩ | ⟨kvs,hk⟩
    ·obtain ⟨_,_,_,_,o,_,_,e,ex,_⟩:=I.hok p _ hk
     exact ⟨o,e,ex⟩
    ·obtain ⟨_,_,_,_,o,_,_,e,ex,_⟩:=I.hok p _ hk
     exact ⟨o,e,ex⟩
   obtain ⟨o,e,ex⟩:=z
   refine ⟨⟨o,e,ex.1⟩,fun a e2=>?_⟩
   cases e2
   exact ⟨o,e,ex.2.1⟩
  ·obtain ⟨o,_,_,_,e,ex,_⟩:=I.hok p _ hk
   refine ⟨⟨o,e,ex.1⟩,fun a e2=>?_⟩
   cases e2
   exact ⟨o,e,ex.2.1⟩
 | _=>exact False.elim ty
noncomputable def tBM0 (K:W.Frag) (T:String) (r:V → List V → Hp → VK → Prop) (to:TE):TE:=fun σ H Q=>to σ H fun x H1=>tyV K T x H1 ∧ r x [] H1 Q
noncomputable def tBM (K:W.Frag) (T:String) (r:V → List V → Hp → VK → Prop) (to:TE) (t:TA):TE:=fun σ H Q=>to σ H fun x H1=>tyV K T x H1 ∧ t σ H1 fun xs H2=>r x xs H2 Q
variable {o e:Expr} {es:List Expr} {to:TE} {t:TA} {name:Str} {apos cpos:Pos} {T id:String} {r:V → List V → Hp → VK → Prop}
theorem pe_bm0 (pa:PlainAttrs T) (slot:Slot T name id) (hty:typeOf (.builtin id) = pure (.type "method_descriptor")) (hm:MtR X id r) (ho:PE X o to)
  (hbase:attributeBase o name X.env (eval o X.env) = eval o X.env:=by rfl) (hline:(apos.endLine == cpos.line) = true:=by rfl):PE X (.Call (.Attribute o name apos) [] [] cpos) (tBM0 X.K T r to):=by
 intro pins s σ H Q I h
 refine wpAny_Call_method0_late hbase hline (thn (ho pins s σ H _ I h) fun v s1 ⟨x,H1,I1,r1,ty,q1⟩=>?_)
 obtain ⟨h1,h2⟩:=tyV_is I1 r1 ty
 exact ⟨T,id,pa,slot,hty,h1,h2,Calls.callWith_builtin rfl (PySem.evalArgs_none (hm pins s1 σ H1 x [] v [] Q I1 r1 .nil q1))⟩
theorem pe_bm (pa:PlainAttrs T) (slot:Slot T name id) (hty:typeOf (.builtin id) = pure (.type "method_descriptor")) (hm:MtR X id r) (ho:PE X o to) (ha:PA X (e :: es) t)
  (hbase:attributeBase o name X.env (eval o X.env) = eval o X.env:=by rfl)
  (hfew:((backTo cpos (starEach (e :: es) X.env)).all (fun x=>!x.1) && (backToKw cpos (keywordEach [] X.env)).all (fun x=>x.1.isSome)
   && decide ((e :: es).length + ([]:List Keyword).length + (if ([]:List Keyword).isEmpty then 0 else 1) < 30)) = true:=by rfl)
  (hline:(apos.endLine == cpos.line) = true:=by rfl) (hs:starEach (e :: es) X.env = (false,eval e X.env) :: starEach es X.env:=by rfl) (hplain:(backTo cpos (starEach es X.env)).any (·.1) = false:=by rfl) :
  PE X (.Call (.Attribute o name apos) (e :: es) [] cpos) (tBM X.K T r to t):=by
 intro pins s σ H Q I h
 refine wpAny_Call_method_late hbase hfew hline rfl (thn (ho pins s σ H _ I h) fun v s1 ⟨x,H1,I1,r1,ty,q1⟩=>?_)
 obtain ⟨h1,h2⟩:=tyV_is I1 r1 ty
 refine ⟨T,id,pa,slot,hty,h1,h2,?_⟩
 have hA:=ha cpos pins s1 σ H1 _ I1 q1
 rw [hs] at hA ⊢
 refine Calls.callWith_builtin (by show (false || (backTo cpos (starEach es X.env)).any (·.1)) = false; rw [hplain] <;> rfl) (Calls.evalArgs_plain ?_)
 exact thn hA fun us s2 ⟨vs,H2,I2,r2,q2⟩=>hm pins s2 σ H2 x vs v us Q I2 r1 r2 q2
end
noncomputable def MtM (X:Cx) (id:String) (r:V → List V → Hp → VK → Prop):Prop :=
 ∀ (pins:List (Addr × Obj)) (s:Shared) (σ:St) (H:Hp) (x:V) (xs:List V) (v:Value) (us:List Value) (Q:VK),Inv X pins σ H s → RelV x v → Vals xs us → r x xs H Q →
  wpAny (model X.prog X.w) X.A (call (.builtin id) (v :: us)) (EP X pins σ Q) X.xe s
theorem Vals.one:∀ {x:V} {us:List Value},Vals [x] us → ∃ u,us = [u] ∧ RelV x u
 | _,_,.cons r .nil=>⟨_,rfl,r⟩
theorem Vals.two:∀ {x y:V} {us:List Value},Vals [x,y] us → ∃ u v,us = [u,v] ∧ RelV x u ∧ RelV y v
 | _,_,_,.cons r (.cons q .nil)=>⟨_,_,rfl,r,q⟩
theorem Vals.zero:∀ {us:List Value},Vals [] us → us = []
 | _,.nil=>rfl
theorem Vals.dropLast {xs:List V} {us:List Value} (h:Vals xs us):Vals xs.dropLast us.dropLast:=by
 induction h with
 | nil=>exact .nil
 | cons r t ih =>
  cases t with
  | nil=>exact .nil
  | cons q t'=>exact .cons r ih
theorem Vals.eraseIdx:∀ {xs:List V} {us:List Value} (i:Nat),Vals xs us → Vals (xs.eraseIdx i) (us.eraseIdx i)
 | _,_,_,.nil=>.nil
 | _,_,0,.cons _ t=>t
 | _,_,i + 1,.cons r t=>.cons r (Vals.eraseIdx i t)
theorem Vals.reverse {xs:List V} {us:List Value} (h:Vals xs us):Vals xs.reverse us.reverse:=by
 induction h with
 | nil=>exact .nil
 | cons r t ih=>rw [List.reverse_cons,List.reverse_cons]; exact Vals.append ih (.cons r .nil)
theorem Vals.rep {xs:List V} {us:List Value} (h:Vals xs us):∀ k:Nat,Vals (List.replicate k xs).flatten (List.replicate k us).flatten
 | 0=>.nil
 | k + 1=>by
  rw [List.replicate_succ,List.replicate_succ,List.flatten_cons,List.flatten_cons]
  exact Vals.append h (Vals.rep h k)
theorem erase_last {α:Type} (l:List α):l.eraseIdx (l.length - 1) = l.dropLast:=by
 induction l with
 | nil=>rfl
 | cons a r ih =>
  cases r with
  | nil=>rfl
  | cons b r =>
   have e:(a :: b :: r).length - 1 = ((b :: r).length - 1) + 1:=by
    have h1:(a :: b :: r).length = r.length + 2:=rfl
    have h2:(b :: r).length = r.length + 1:=rfl
    omega
   rw [e,List.eraseIdx_cons_succ,ih]
   all_goals rfl
theorem len_erase {α:Type}:∀ (l:List α) (i:Nat),(l.eraseIdx i).length ≤ l.length
 | [],_=>Nat.le_refl _
 | _ :: _,0=>Nat.le_succ _
 | _ :: r,i + 1=>Nat.succ_le_succ (len_erase r i)
theorem foldl_rep (its:List Value):∀ (k:Nat) (acc:List Value),
  List.foldl (fun x1 x2=>x1 ++ x2) acc.toArray (List.replicate k its.toArray) = (acc ++ (List.replicate k its).flatten).toArray
 | 0,acc=>by simp
 | k + 1,acc=>by
  have e:acc.toArray ++ its.toArray = (acc ++ its).toArray:=by simp
  have e2:(acc ++ its) ++ (List.replicate k its).flatten = acc ++ (List.replicate (k + 1) its).flatten:=by
   rw [List.replicate_succ,List.flatten_cons,List.append_assoc]
  rw [← e2,← foldl_rep its k (acc ++ its),← e,List.replicate_succ,List.foldl_cons]
section
variable {X:Cx} {pins:List (Addr × Obj)} {σ:St} {H:Hp} {s:Shared} {l b:Addr} {xs ys zs:List V}
theorem Inv.lset {its its':List Value} {n:Nat} {f:Array Value → Array Value} {t':Nat} (I:Inv X pins σ H s) (hH:H l = some (.lst xs))
  (e:s.heap.get? l = some { cls:=.type "list",data:=.seq its.toArray n }) (hf:f its.toArray = its'.toArray) (hv:Vals ys its') (hz:ys.length ≤ sizeLine) :
  Inv X pins σ (upd H l (.lst ys)) { s with heap:=s.heap.update l (Obj.mapSeq f),toks:=t' }:=by
 have q:=PySem.IsL.update e f
 rw [hf] at q
 refine I.write (x:=l) (e:=l) (by rw [hH]; exact trivial) (.inl rfl) (fun b' u hb hu=>(Heap.get?_update_other s.heap (Obj.mapSeq f) (Ne.symm hb)).trans hu) ⟨_,q⟩ ?_
 exact ⟨hz,its',_,hv,q⟩
theorem Inv.lnew {its:List Value} {t':Nat} (I:Inv X pins σ H s) (hv:Vals ys its) (hz:ys.length ≤ sizeLine) :
  Inv X pins σ (upd H s.heap.objs.size (.lst ys)) { s with heap:=s.heap.push { cls:=.type "list",data:=.seq its.toArray },toks:=t' } :=
 I.laid (fun _ _ q=>Heap.get?_push_of_some _ q) (Nat.le_refl _) ⟨hz,its,0,hv,Heap.get?_push_size _ rfl⟩
theorem Inv.fresh (I:Inv X pins σ H s):H s.heap.objs.size = none:=I.hok.fresh (Nat.le_refl _)
theorem Inv.lstM (I:Inv X pins σ H s) (hH:H l = some (.lst xs)):xs.length ≤ sizeLine ∧ ∃ (its:List Value) (n:Nat),Vals xs its ∧ xs.length = its.length ∧ s.heap.get? l = some { cls:=.type "list",data:=.seq its.toArray n }:=by
 obtain ⟨z,its,n,r,e⟩:=I.hok l _ hH
 exact ⟨z,its,n,r,r.length,e⟩
end
section
variable {X:Cx}
noncomputable def rAppend:V → List V → Hp → VK → Prop:=fun x vs H Q=>∃ l xs y,x = .ref l ∧ vs = [y] ∧ H l = some (.lst xs) ∧ xs.length < sizeLine ∧ Q .non (upd H l (.lst (xs ++ [y])))
theorem mt_append:MtM X "list.append" rAppend:=by
 intro pins s σ H x vs v us Q I rx rv h
 obtain ⟨l,xs,y,rfl,rfl,hH,hz,q⟩:=h
 cases rx
 obtain ⟨u,rfl,ru⟩:=rv.one
 obtain ⟨z,its,n,r,hl,e⟩:=I.lstM hH
 refine call_meets F.slot_list_append ⟨_,e,rfl⟩ F.entry_list_append (F.args_list_append_2 _ _) (PySem.list_append l its.toArray n u (by rw [List.size_toArray]; omega)) ⟨e,?_⟩
 refine ⟨.non,_,I.lset (its':=its ++ [u]) hH e (by simp) (r.append (.cons ru .nil)) ?_,rfl,q⟩
 rw [List.length_append,List.length_singleton]
 omega
noncomputable def rPop:V → List V → Hp → VK → Prop:=fun x vs H Q=>∃ l xs y,x = .ref l ∧ vs = [] ∧ H l = some (.lst xs) ∧ xs[xs.length - 1]? = some y ∧ Q y (upd H l (.lst xs.dropLast))
theorem mt_pop:MtM X "list.pop" rPop:=by
 intro pins s σ H x vs v us Q I rx rv h
 obtain ⟨l,xs,y,rfl,rfl,hH,hy,q⟩:=h
 cases rx
 have hus:=rv.zero
 subst hus
 obtain ⟨z,its,n,r,hl,e⟩:=I.lstM hH
 obtain ⟨u,hu,ru⟩:=r.get hy
 have hy':its.toArray[its.toArray.size - 1]? = some u:=by
  show its.toArray[its.length - 1]? = some u
  rw [← Array.getElem?_toList,← hl]
  exact hu
 refine call_meets F.slot_list_pop ⟨_,e,rfl⟩ F.entry_list_pop (F.args_list_pop_1 _) (MeetsSeq.list_pop_last l its.toArray n u hy' (by rw [List.size_toArray]; omega)) ⟨e,?_⟩
 refine ⟨y,_,I.lset (its':=its.dropLast) hH e ?_ r.dropLast ?_,ru,q⟩
 ·show its.toArray.eraseIdxIfInBounds (its.toArray.size - 1) = its.dropLast.toArray
  rw [List.size_toArray,List.eraseIdxIfInBounds_toArray,erase_last]
 ·rw [List.length_dropLast]
  omega
noncomputable def rPopAt:V → List V → Hp → VK → Prop:=fun x vs H Q=>∃ l xs i k y,x = .ref l ∧ vs = [.int i] ∧ H l = some (.lst xs) ∧ -(2 ^ 63) ≤ i ∧ i < 2 ^ 63 ∧ seqIndex? i xs.length = some k ∧ xs[k]? = some y ∧ Q y (upd H l (.lst (xs.eraseIdx k)))
theorem mt_popAt:MtM X "list.pop" rPopAt:=by
 intro pins s σ H x vs v us Q I rx rv h
 obtain ⟨l,xs,i,k,y,rfl,rfl,hH,h1,h2,hk,hy,q⟩:=h
 cases rx
 obtain ⟨u,rfl,ru⟩:=rv.one
 obtain ⟨t,rfl⟩:=ru
 obtain ⟨z,its,n,r,hl,e⟩:=I.lstM hH
 obtain ⟨w,hw,rw'⟩:=r.get hy
 refine call_meets F.slot_list_pop ⟨_,e,rfl⟩ F.entry_list_pop (F.args_list_pop_2 _ _)
  (MeetsSeq.list_pop_at l its.toArray n i t k w (fitsIndex_both h1 h2) (by rw [List.size_toArray,← hl]; exact hk) (by rw [← Array.getElem?_toList]; exact hw) (by rw [List.size_toArray]; omega)) ⟨e,?_⟩
 refine ⟨y,_,I.lset (its':=its.eraseIdx k) hH e ?_ (r.eraseIdx k) ?_,rw',q⟩
 ·show its.toArray.eraseIdxIfInBounds k = (its.eraseIdx k).toArray
  rw [List.eraseIdxIfInBounds_toArray]
 ·have:=len_erase xs k
  omega
theorem len_rep {α:Type} (xs:List α) (k:Nat):(List.replicate k xs).flatten.length = k * xs.length:=by
 induction k with
 | zero=>simp
 | succ k ih=>rw [List.replicate_succ,List.flatten_cons,List.length_append,ih,Nat.succ_mul,Nat.add_comm]
end
section
variable {prog:Program} {w:World} {A:Around} {E:Value → Shared → Prop} {s:Shared}
end
section
variable {X:Cx}
end
end L2
namespace Att
open PySem PySem.W PySem.Calls PyProof.Rows
theorem ints_of_wellAll {P:Params} {h:Heap}:∀ (ns:List Int) (vs:List Value),WellAll P h vs (ns.map WData.int) → IntsAre vs ns:=by
 intro ns
 induction ns with
 | nil =>
  intro vs w
  rw [List.map_nil] at w
  cases w
  exact .nil
 | cons n ns ih =>
  intro vs w
  rw [List.map_cons] at w
  cases w with
  | cons a b =>
   cases a
   exact .cons _ _ (ih _ b)
theorem script_of {l:OpenLaw} {n:Nat} (hn:l.most = some n) {P:Params} {h:Heap} {args:List WData} {vals:List Value}
  (hpre:l.row.toRowW.claim.pre args = true) (hwl:WellAll P h vals args) :
  ∃ a vs ns,vals = [Value.ref a] ∧ args = [WData.list (ns.map WData.int)] ∧ h.get? a = some { cls:=.type "list",data:=.seq vs.toArray } ∧ IntsAre vs ns ∧ ns.length ≤ n:=by
 have hsh:WShape.hasAll [] args [.list .int] = true:=(pre_splitW hpre).1
 have hc:l.pre.holds [] { args:=args } = true:=(pre_splitW hpre).2
 obtain ⟨d,r,rfl,h1,h2⟩:=hasAllW_cons hsh
 obtain rfl:=hasAllW_nil h2
 obtain ⟨xs,rfl,h3⟩:=hasW_list h1
 obtain ⟨ns,rfl⟩:=items_int h3
 have hlen:ns.length ≤ n:=by
  unfold OpenLaw.pre at hc
  have h4:(WTm.not (.lt (.lit (.int (n:Int))) (.len (.arg 0)))).holds [] { args:=[.list (ns.map .int)] } = true:=by
   have h4:=(holds_andW hc).1
   rw [hn] at h4
   exact h4
  have h5:=condW_of h4 (w_not (w_lt w_lit (w_len_list (w_arg rfl))))
  rw [List.length_map] at h5
  refine Nat.le_of_not_lt fun q=>?_
  have q':(n:Int) < ((ns.length:Nat):Int):=by omega
  first
   | (rw [decide_eq_true q'] at h5; exact absurd h5 (by decide))
   | (simp at h5; omega)
 cases hwl with
 | cons w1 w2 =>
  cases w2
  cases w1 with
  | list ho hall=>exact ⟨_,_,ns,rfl,rfl,ho,ints_of_wellAll ns _ hall,hlen⟩
theorem post_true (l:OpenLaw) (args:List WData):l.row.toRowW.claim.post args (.bool true) args = true :=
 postW_of (r:=l.row.toRowW) (X:=(true == true))
  (show WShape.has [] (.bool true) .bool = true by first | rfl | decide | simp [WShape.has,WShape.arms,WShape.armsAll])
  (show (WTm.eq .res (.lit (.bool true))).value [] { args:=args,res:=some (.bool true),after:=args } = some (.bool (true == true)) from w_eq_bool (w_res rfl) w_lit) rfl
theorem attach_call {l:OpenLaw} {n:Nat} {q:Program} {loose:List Str} {XP:(Str → Option Value) → Heap → Prop} {YP:World → Heap → Prop} {d:DefRec}
  (hn:l.most = some n) (hdf:d.params.defaults = [])
  (call:∀ (w:World) (s₀ s₁:Shared) (mg mb:Str → Option Value) (fa:Addr) (o:Obj) (pm cd doc:Value) (a:Addr) (vs:List Value) (ns:List Int),
   Ground q loose [] XP w s₀ mg mb s₁.heap → YP w s₁.heap →
   s₁.heap.get? fa = some o → o.data = .func (docDef d.name d.params d.body d.scope pm cd doc) → s₁.heap.CodeRec cd d.name → mg d.name = some (.ref fa) →
   s₁.heap.get? a = some { cls:=.type "list",data:=.seq vs.toArray } → IntsAre vs ns → ns.length ≤ n → s₁.gens = #[] →
   codeAny (model l.prog w) callerA (.call (.ref fa) ⟨[.ref a],[]⟩) (fun r s'=>r = .ok (.ret (.bool true)) ∧ OldK s₁.heap s'.heap ∧ s'.os = s₁.os ∧ AllBare s'.gens) s₁) :
  WalkO q loose XP YP l.row.toRowW d [] (fun f vs=>PySem.call f vs):=by
 intro w s₀ s₁ mg mb G Y fa o pm cd doc dV kV ho hd hcd hD hmg hg args vals as hpre hlay hrd hwl hlo
 obtain rfl:dV = .none:=Dflts.none hD hdf
 obtain rfl:kV = .none:=Dflts.noKw hD
 obtain ⟨a,vs,ns,rfl,rfl,hobj,hints,hlen⟩:=script_of hn hpre hwl
 refine enter_call (codeAny_mono (call w s₀ s₁ mg mb fa o pm cd doc a vs ns G Y ho (fd_plain hd) hcd hmg hobj hints hlen hg) fun r s' hq=>?_)
 obtain ⟨rfl,h2,h3,h4⟩:=hq
 exact ⟨.inl ⟨.bool true,.bool true,[],rfl,fun _=>rfl,.bool true,post_true l _,fun _=>⟨List.Pairwise.nil,fun _ hm=>(nomatch hm)⟩⟩,h2,h3,h4⟩
section
variable {prog:Program} {w:World} {A:Around} {E:Value → Shared → Prop} {s:Shared} {K:Frag}
end
end Att
namespace L2
open PySem PySem.Spec PyProof.Rows
theorem vals_ints:∀ {vs:List Value} {ns:List Int},IntsAre vs ns → Vals (ns.map V.int) vs
 | _,_,.nil=>.nil
 | _,_,.cons n t h=>.cons ⟨t,rfl⟩ (vals_ints h)
noncomputable def Only (H:Hp):Prop:=∀ b,H b = none ∨ ∃ o xs,H b = some (.frz o (.lst xs))
theorem law_call {P:Program} {w:World} {K:W.Frag} {mg mb:Str → Option Value} {CX:CXT} {k:Nat} {fa a:Addr} {fd:FuncData} {x:Str} {sp:Sp} {s₁:Shared} {vs:List Value} {ns:List Int}
  (KX:K.In s₁.heap) (hns:s₁.heap.Ns mainGlobals mg) (hb:s₁.heap.Ns builtinsNs mb) (hbb:∀ x:Str,x ≠ "__name__" → mb x = bootBuiltins x) (hlim:s₁.heap.NoLimit) (hg:s₁.gens = #[])
  (ha:s₁.heap.get? a = some { cls:=.type "list",data:=.seq vs.toArray }) (hi:IntsAre vs ns) (hl:ns.length ≤ sizeLine) (hr:Room k callerA)
  (F:∀ base:Heap,K.In base → base.Ns mainGlobals mg → FnOk P w K mg base CX k fa fd [x] sp) (hbind:∀ (s:Shared) (u:Value),BindsTo s fd ⟨[u],[]⟩ [(x,u)])
  (hsp:∀ H:Hp,Only H → SqL K H a (ns.map V.int) → sp [.ref a] H (fun v _=>v = .bl true) fun _ _ _=>False)
  (hCX:∀ H e s',CX [] H s₁ (fun _ _ _=>False) e s' → False) :
  codeAny (model P w) callerA (.call (.ref fa) ⟨[.ref a],[]⟩) (fun r s'=>r = .ok (.ret (.bool true)) ∧ OldK s₁.heap s'.heap ∧ s'.os = s₁.os ∧ AllBare s'.gens) s₁:=by
 have rv:=vals_ints hi
 have lenV:=hi.length
 have core:∀ H:Hp,Only H → SqL K H a (ns.map V.int) → HOk P w H s₁.heap → (∀ b,H b ≠ none → b = a) → (H a ≠ none → K.lookup a = none) →
   codeAny (model P w) callerA (.call (.ref fa) ⟨[.ref a],[]⟩) (fun r s'=>r = .ok (.ret (.bool true)) ∧ OldK s₁.heap s'.heap ∧ s'.os = s₁.os ∧ AllBare s'.gens) s₁:=by
  intro H hO hS hok hA hK
  have base_of:∀ {b:Addr} {o:Obj},s₁.heap.get? b = some o → H b = none → (hidT s₁.heap H).get? b = some o:=fun e n=>hidT_get e n
  have noA:∀ {b:Addr} {o:Obj} {es:Array DictEntry} {ep:Nat},s₁.heap.get? b = some o → o.data = .dict es ep → H b = none:=fun {b o es ep} e d=>by
   cases q:H b with
   | none=>rfl
   | some u =>
    have e':b = a:=hA b (by rw [q]; simp)
    subst e'
    rw [ha] at e; cases e
    have d':Data.seq vs.toArray _ = Data.dict es ep:=d
    cases d'
  have nsK:∀ {b:Addr} {m:Str → Option Value},s₁.heap.Ns b m → (hidT s₁.heap H).Ns b m:=fun {b m} ⟨o,es,ep,e,d,r⟩=>⟨o,es,ep,base_of e (noA e d),d,r⟩
  have hKb:K.In (hidT s₁.heap H):=fun b o e=>base_of (KX b o e) (by
   cases q:H b with
   | none=>rfl
   | some u =>
    have e':b = a:=hA b (by rw [q]; simp)
    subst e'
    rw [hK (by rw [q]; simp)] at e; cases e)
  have hM:Mod K mg (hidT s₁.heap H):=⟨hKb,nsK hns,⟨mb,nsK hb,hbb⟩,let ⟨mc,h1,h2⟩:=hlim; ⟨mc,nsK h1,h2⟩⟩
  have e0:Env0 P w K mg (hidT s₁.heap H) callerA [] s₁ H:=⟨rfl,hM,fun b o e=>of_hidT e,Nat.le_of_eq (hidT_size _ _),trivial,fun b hb=>absurd (show b ∈ ([]:List Addr) from hb) (by simp),hok,.of_eq hg⟩
  refine codeAny_mono ((F _ hKb (nsK hns)).run callerA [] s₁ H ⟨[.ref a],[]⟩ [.ref a] [.ref a] _ _ hr e0 (hbind s₁ (.ref a)) (.cons rfl .nil) (hsp H hO hS)) fun r s' h=>?_
  cases r with
  | error e=>exact (hCX H e s' h).elim
  | ok fl =>
   cases fl with
   | next=>exact False.elim h
   | brk=>exact False.elim h
   | cont=>exact False.elim h
   | ret u =>
    obtain ⟨v,H',os,bare,un,hok',r',q⟩:=h
    have q':v = .bl true:=q
    subst q'
    obtain rfl:u = Value.bool true:=r'
    refine ⟨rfl,OldK.of_keep fun b o e=>?_,os,bare⟩
    cases q:H b with
    | none=>exact un.keep b o e q (by intro z; exact absurd (show b ∈ ([]:List Addr) from z) (by simp)) (by simp)
    | some u =>
     rcases hO b with z | ⟨ob,xs,z⟩
     ·rw [q] at z; cases z
     ·have z2:=un.frzs b ob _ z
      obtain ⟨e1,_⟩:=hok b _ z
      obtain ⟨e2,_⟩:=hok' b _ z2
      rw [e] at e1; cases e1
      exact e2
 cases hk:K.lookup a with
 | some o =>
  have e:=KX a o hk
  rw [ha] at e
  cases e
  refine core (fun _=>none) (fun _=>.inl rfl) (.inr ⟨_,vs.toArray,_,hk,rfl,rfl,rfl,by rw [List.size_toArray,lenV]; exact hl,by simpa using rv⟩) (fun b u z=>by have z':(none:Option HO) = some u:=z; cases z') (fun b z=>absurd rfl z) fun z=>absurd rfl z
 | none =>
  refine core (fun b=>if b = a then some (.frz { cls:=.type "list",data:=.seq vs.toArray } (.lst (ns.map V.int))) else none) (fun b=>?_) (.inl (.inr ⟨{ cls:=.type "list",data:=.seq vs.toArray },if_pos rfl⟩)) (fun b u z=>?_) (fun b z=>?_) fun _=>hk
  ·by_cases hb:b = a
   ·exact .inr ⟨_,_,if_pos hb⟩
   ·exact .inl (if_neg hb)
  ·by_cases hb:b = a
   ·have z':=(if_pos hb).symm.trans z
    cases z'
    subst hb
    exact ⟨ha,by rw [List.length_map]; exact hl,vs,_,rv,ha⟩
   ·have z':=(if_neg hb).symm.trans z
    cases z'
  ·by_cases hb:b = a
   ·exact hb
   ·exact absurd (if_neg hb) z
theorem walk_of {l:W.OpenLaw} {n k:Nat} {q:Program} {loose:List Str} {XP:(Str → Option Value) → Heap → Prop} {YP:World → Heap → Prop} {d:DefRec} {K:Params → W.Frag} {CX:World → CXT} {sp:World → Sp} {x:Str}
  (hn:l.most = some n) (hn2:n ≤ sizeLine) (hdf:d.params.defaults = []) (hr:Room k callerA)
  (hY:∀ (w:World) (h:Heap),YP w h → (K w.params).In h)
  (F:∀ (w:World) (mg:Str → Option Value) (fa:Addr) (h:Heap),(K w.params).In h → h.Ns mainGlobals mg → mg d.name = some (.ref fa) →
   ∃ fd:FuncData,(∀ (s:Shared) (u:Value),BindsTo s fd ⟨[u],[]⟩ [(x,u)]) ∧
    ∀ base:Heap,(K w.params).In base → base.Ns mainGlobals mg → FnOk l.prog w (K w.params) mg base (CX w) k fa fd [x] (sp w))
  (hsp:∀ (w:World) (H:Hp) (a:Addr) (ns:List Int),ns.length ≤ n → Only H → SqL (K w.params) H a (ns.map V.int) → sp w [.ref a] H (fun v _=>v = .bl true) fun _ _ _=>False)
  (hCX:∀ (w:World) (H:Hp) (s:Shared) (e:Value) (s':Shared),CX w [] H s (fun _ _ _=>False) e s' → False) :
  W.WalkO q loose XP YP l.row.toRowW d [] (fun f vs=>PySem.call f vs):=by
 refine Att.attach_call hn hdf fun w s₀ s₁ mg mb fa o pm cd doc a vs ns G Y ho hd hcd hmg hobj hints hlen hg=>?_
 have KX:=hY w _ Y
 obtain ⟨fd,hb,hF⟩:=F w mg fa _ KX G.T.g hmg
 exact law_call KX G.T.g G.T.b G.T.builtins G.T.nolimit hg hobj hints (Nat.le_trans hlen hn2) hr hF hb (fun H hO hS=>hsp w H a ns hlen hO hS) fun H e s'=>hCX w H s₁ e s'
theorem walk_ofK {l:W.OpenLaw} {n k:Nat} {q:Program} {loose:List Str} {XP:(Str → Option Value) → Heap → Prop} {YP:World → Heap → Prop} {d:DefRec} {K:Params → W.Frag} {CX:CXT} {sp:W.Frag → Sp} {x:Str}
  (hn:l.most = some n) (hn2:n ≤ sizeLine) (hdf:d.params.defaults = []) (hr:Room k callerA)
  (hY:∀ (w:World) (h:Heap),YP w h → (K w.params).In h)
  (F:∀ (w:World) (mg:Str → Option Value) (fa:Addr) (h:Heap),(K w.params).In h → h.Ns mainGlobals mg → mg d.name = some (.ref fa) →
   ∃ fd:FuncData,(∀ (s:Shared) (u:Value),BindsTo s fd ⟨[u],[]⟩ [(x,u)]) ∧
    ∀ base:Heap,(K w.params).In base → base.Ns mainGlobals mg → FnOk l.prog w (K w.params) mg base CX k fa fd [x] (sp (K w.params)))
  (hsp:∀ (K:W.Frag) (H:Hp) (a:Addr) (ns:List Int),ns.length ≤ n → Only H → SqL K H a (ns.map V.int) → sp K [.ref a] H (fun v _=>v = .bl true) fun _ _ _=>False)
  (hCX:∀ (H:Hp) (s:Shared) (e:Value) (s':Shared),CX [] H s (fun _ _ _=>False) e s' → False) :
  W.WalkO q loose XP YP l.row.toRowW d [] (fun f vs=>PySem.call f vs) :=
 walk_of (K:=K) (CX:=fun _=>CX) (sp:=fun w=>sp (K w.params)) hn hn2 hdf hr hY F (fun w H a ns h1 h2 h3=>hsp (K w.params) H a ns h1 h2 h3) fun _ H s e s'=>hCX H s e s'
noncomputable def defArgs (s:Stmt):Arguments:=match s with
 | .FunctionDef _ a _ _ _ _ _ _ _ _=>a
 | _=>{ posonlyargs:=[],args:=[],vararg:=none,kwonlyargs:=[],kw_defaults:=[],kwarg:=none,defaults:=[] }
noncomputable def defBody (s:Stmt):List Stmt:=match s with
 | .FunctionDef _ _ b _ _ _ _ _ _ _=>b
 | _=>[]
noncomputable def defScope (s:Stmt):Scope:=match s with
 | .FunctionDef _ _ _ _ _ _ sc _ _ _=>sc
 | _=>{ kind:=.function,names:=[],isGenerator:=false,isCoroutine:=false }
noncomputable abbrev CX0:CXT:=fun _ _ _ _ _ _=>False
noncomputable abbrev E0:XK:=fun _ _ _=>False
theorem pass0 {X:Cx}:Passes CX0 X E0:=fun _ _ _ _ _ _ _ h=>h.elim
structure Fun (K:W.Frag) (x qual:Str) (st:Stmt) (f:Addr) (fd:FuncData):Prop where
 ex:∃ (oc:Value) (od:Option Addr) (kV doc pm:Value) (an:Option Addr) (cdv ct:Value) (osl:Array (Option Value)),
  fd = W.fnOf x qual (defArgs st) (defBody st) (defScope st) .none kV doc pm an cdv ct ∧ K.lookup f = some ⟨oc,od,.func fd,osl⟩ ∧ W.codeIn K cdv qual = true
 kp:W.keepIn K (.ref f) = true
section
variable {P:Program} {w:World} {K:W.Frag} {mg:Str → Option Value} {base:Heap}
theorem Fun.ok {x qual:Str} {st:Stmt} {f:Addr} {fd:FuncData} {N ps:List Str} {k:Nat} {sp:Sp} (F:Fun K x qual st f fd) (S:FnScope N ps (defScope st)) (len:∀ vs H Q E,sp vs H Q E → vs.length = ps.length)
  (hbody:∀ (cdv:Value) (A:Around) (outer:List Env) (s:Shared) (H:Hp) (vs:List V) (Q:VK) (E:XK),Room k (A.deeper (envOfC qual (defScope st) s.heap.objs.size f cdv)) → sp vs H Q E →
   ∃ t,PSs (cxOf CX0 P w K mg base N qual (defScope st) f cdv A outer s H E).nox (defBody st) t ∧ t { nx:=fun _ H'=>Q .non H',rt:=Q } (start N vs) H):FnOk P w K mg base CX0 (k + 1) f fd ps sp:=by
 obtain ⟨oc,od,kV,doc,pm,an,cdv,ct,osl,rfl,lk,hcd⟩:=F.ex
 refine fn_of lk hcd S len fun A outer s H vs Q E hr hsp=>?_
 obtain ⟨t,h,q⟩:=hbody cdv A outer s H vs Q E hr hsp
 exact ⟨t,h.nox,q⟩
theorem Fun.binds {x qual:Str} {st:Stmt} {f:Addr} {fd:FuncData} {ps:List Str} (F:Fun K x qual st f fd)
  (h:∀ (kV doc pm:Value) (an:Option Addr) (cdv ct:Value) (us:List Value),us.length = ps.length → bindArgs (W.fnOf x qual (defArgs st) (defBody st) (defScope st) .none kV doc pm an cdv ct) ⟨us,[]⟩ = pure (ps.zip us)):Binds K fd ps []:=by
 obtain ⟨oc,od,kV,doc,pm,an,cdv,ct,osl,rfl,lk,hcd⟩:=F.ex
 exact .all (h kV doc pm an cdv ct)
theorem fun_mk {x qual:Str} {st:Stmt} {f:Addr} {oc:Value} {od an:Option Addr} {osl:Array (Option Value)} {kV doc pm cdv ct:Value} (l:K.lookup f = some ⟨oc,od,.func (W.fnOf x qual (defArgs st) (defBody st) (defScope st) .none kV doc pm an cdv ct),osl⟩)
  (c:W.codeIn K cdv qual = true) (k:W.keepIn K (.ref f) = true):Fun K x qual st f (W.fnOf x qual (defArgs st) (defBody st) (defScope st) .none kV doc pm an cdv ct):=⟨⟨oc,od,kV,doc,pm,an,cdv,ct,osl,rfl,l,c⟩,k⟩
end
theorem hu_of {A:Around} {k:Nat} (hr:Room k A):A.units + 1 < cLine:=Nat.lt_of_le_of_lt (Nat.add_le_add_left (by decide:1 ≤ 64) _) hr.units
section
variable {X:Cx}
end
noncomputable def Same (H H':Hp):Prop:=∀ b o,H b = some o → H' b = some o
theorem Same.refl (H:Hp):Same H H:=fun _ _ h=>h
theorem Same.trans {H H1 H2:Hp} (a:Same H H1) (b:Same H1 H2):Same H H2:=fun c o h=>b c o (a c o h)
theorem Same.free {H H':Hp} (e:Same H H') {l:Addr} (h:H' l = Option.none):H l = Option.none:=by
 cases q:H l with
 | none=>rfl
 | some o =>
  rw [e l o q] at h
  cases h
noncomputable def cxComp (X:Cx) (scope:Scope) (cl:List (Str × Addr)) (N':List Str) (s:Shared) (H:Hp) (ex:List Addr):Cx :=
 { X with N:=N',s₀:=s,H₀:=H,env:=compEnvC scope cl s.heap.objs.size X.env,outer:=X.stack,ex:=ex,fn:=fun _=>false,pn:=[],xe:=fun _ _=>False }
structure CompOk (sc scope:Scope) (N N':List Str) (n:Nat) (caps:List Nat):Prop where
 kind:scope.kind = .function
 nocell:∀ y ∈ scope.names,y.2 ≠ .cell
 loc:∀ y ∈ scope.names,y.2 = .local → scope.names.lookup y.1 = some .local
 free:∀ y ∈ scope.names,y.2 = .free → sc.names.lookup y.1 = some .cell ∨ sc.names.lookup y.1 = some .free
 nd:N'.Nodup
 len:N'.length = n + caps.length
 cap:∀ k ∈ List.range caps.length,N'[n + k]? = (caps[k]?).bind (N[·]?) ∧ (N'[n + k]?).all (fun y=>scope.names.lookup y == some .free) = true
noncomputable def sComp (n:Nat) (caps:List Nat) (σ:St):St:=List.replicate n none ++ caps.map fun j=>(σ[j]?).join
theorem sComp_len (n:Nat) (caps:List Nat) (σ:St):(sComp n caps σ).length = n + caps.length:=by simp [sComp]
theorem closure_some {env:Env}:∀ (names:List (Str × NameKind)),(∀ x ∈ names,x.2 = .free → ∃ c,env.cells.lookup x.1 = some c) → ∀ acc:List (Str × Addr),
  ∃ cl:List (Str × Addr),(forIn names acc (fun (x:Str × NameKind) (cs:List (Str × Addr))=>if (x.2 == .free) = true then do let a ← cellOf env x.1; pure (ForInStep.yield ((x.1,a) :: cs)) else pure (ForInStep.yield cs)):Sem (List (Str × Addr))) = pure cl ∧
   (∀ y c,cl.lookup y = some c → env.cells.lookup y = some c ∨ acc.lookup y = some c) ∧ (∀ x ∈ names,x.2 = .free → ∃ c,cl.lookup x.1 = some c) ∧ (∀ y c,acc.lookup y = some c → ∃ c',cl.lookup y = some c')
 | [],_,acc=>⟨acc,rfl,fun _ _ h=>.inr h,(fun _ h=>nomatch h),fun _ c h=>⟨c,h⟩⟩
 | (n,k) :: r,h,acc=>by
  cases hk:(k == NameKind.free) with
  | true =>
   have hk':k = .free:=by simpa using hk
   obtain ⟨c,hc⟩:=h (n,k) List.mem_cons_self hk'
   obtain ⟨cl,e,h1,h2,h3⟩:=closure_some r (fun x hx=>h x (List.mem_cons_of_mem _ hx)) ((n,c) :: acc)
   refine ⟨cl,?_,fun y d hy=>?_,fun x hx hf=>?_,fun y d hy=>?_⟩
   ·rw [List.forIn_cons]
    simp only [hk,if_true,cellOf,hc,pure_bind]
    exact e
   ·rcases h1 y d hy with z | z
    ·exact .inl z
    ·rw [List.lookup_cons] at z
     cases q:(y == n) with
     | true =>
      rw [q] at z
      cases z
      have:y = n:=by simpa using q
      subst this
      exact .inl hc
     | false =>
      rw [q] at z
      exact .inr z
   ·rcases List.mem_cons.mp hx with rfl | hx
    ·exact h3 n c (by simp [List.lookup_cons])
    ·exact h2 x hx hf
   ·by_cases q:y = n
    ·subst q
     exact h3 y c (by simp [List.lookup_cons])
    ·refine h3 y d ?_
     have:(y == n) = false:=by simpa using q
     rw [List.lookup_cons,this]
     exact hy
  | false =>
   obtain ⟨cl,e,h1,h2,h3⟩:=closure_some r (fun x hx=>h x (List.mem_cons_of_mem _ hx)) acc
   refine ⟨cl,?_,h1,fun x hx hf=>?_,h3⟩
   ·rw [List.forIn_cons]
    simp only [hk,Bool.false_eq_true,if_false,pure_bind]
    exact e
   ·rcases List.mem_cons.mp hx with rfl | hx
    ·have:k = .free:=hf
     rw [this] at hk
     exact absurd hk (by decide)
    ·exact h2 x hx hf
theorem closureFor_some {env:Env} {scope:Scope} (h:∀ x ∈ scope.names,x.2 = .free → ∃ c,env.cells.lookup x.1 = some c) :
  ∃ cl:List (Str × Addr),closureFor scope env = pure cl ∧ (∀ y c,cl.lookup y = some c → env.cells.lookup y = some c) ∧ ∀ x ∈ scope.names,x.2 = .free → ∃ c,cl.lookup x.1 = some c:=by
 obtain ⟨cl,e,h1,h2,_⟩:=closure_some scope.names h []
 refine ⟨cl,?_,fun y c hy=>(h1 y c hy).elim id (fun z=>nomatch z),h2⟩
 simp only [closureFor]
 rw [← bind_pure (forIn _ _ _)] at e
 first
  | exact e
  | (refine Eq.trans ?_ e; rfl)
theorem lookup_relabel {env:Env}:∀ (names:List (Str × NameKind)) (x:Str),
  (names.map fun (n,k)=>if (k == NameKind.free && env.scope.kind == .function && env.kindOf n == some .cell) then (n,NameKind.cell) else (n,k)).lookup x =
   (names.lookup x).map fun k=>if (k == NameKind.free && env.scope.kind == .function && env.kindOf x == some .cell) = true then NameKind.cell else k
 | [],_=>rfl
 | (n,k) :: r,x=>by
  have ih:=@lookup_relabel env r x
  have l1:List.lookup x (((n,k) :: r).map fun (n,k)=>if (k == NameKind.free && env.scope.kind == .function && env.kindOf n == some .cell) then (n,NameKind.cell) else (n,k)) =
    List.lookup x ((if (k == NameKind.free && env.scope.kind == .function && env.kindOf n == some .cell) = true then (n,NameKind.cell) else (n,k)) :: r.map fun (n,k)=>if (k == NameKind.free && env.scope.kind == .function && env.kindOf n == some .cell) then (n,NameKind.cell) else (n,k)):=rfl
  rw [l1,List.lookup_cons (as:=r)]
  by_cases hc:(k == NameKind.free && env.scope.kind == .function && env.kindOf n == some .cell) = true
  ·rw [if_pos hc,List.lookup_cons]
   cases hx:x == n with
   | true =>
    have e:x = n:=by simpa using hx
    subst e
    show some NameKind.cell = some (if (k == NameKind.free && env.scope.kind == .function && env.kindOf x == some .cell) = true then NameKind.cell else k)
    rw [if_pos hc]
   | false=>exact ih
  ·rw [if_neg hc,List.lookup_cons]
   cases hx:x == n with
   | true =>
    have e:x = n:=by simpa using hx
    subst e
    show some k = some (if (k == NameKind.free && env.scope.kind == .function && env.kindOf x == some .cell) = true then NameKind.cell else k)
    rw [if_neg hc]
   | false=>exact ih
section
variable {prog:Program} {w:World} {A:Around} {R:Result → Shared → Prop} {s:Shared}
theorem compLoop_any {elt target iter:Expr} {ifs:List Expr} {scope:Scope} {pos:Pos} {it acc:Value} {env:Env} (I:Nat → Shared → Prop)
  (turn:∀ n s,I n s → wpAny (model prog w) A (pyNext it) (fun r s₁=>match r with
   | none=>R (.ok .next) s₁
   | some v=>wpAny (model prog w) A (letOwnedTupleGo target it v) (fun _ s₁'=>wpAny (model prog w) A (assign target env v) (fun _ s₂ =>
     wpAny (model prog w) A (forIn ifs true fun c r=>if r = true then do let ok ← isTrue c env (eval c env); pure (ForInStep.yield ok) else pure (ForInStep.yield r)) (fun ok s₃ =>
      if ok = true then wpAny (model prog w) A (eval elt env) (fun x s₄ =>
       wpAny (model prog w) A (call (.builtin "list.append") [acc,x]) (fun _ s₅=>∃ m,m < n ∧ I m s₅) (fun _ _=>False) s₄) (fun _ _=>False) s₃
      else ∃ m,m < n ∧ I m s₃) (fun _ _=>False) s₂) (fun _ _=>False) s₁') (fun _ _=>False) s₁) (fun _ _=>False) s)
  (n:Nat) (h:I n s) :
  codeAny (model prog w) A (.compLoop (.ListComp elt [⟨target,iter,ifs,0⟩] scope pos) 0 it acc env) R s:=by
 refine codeAny_loop rfl I (fun n s hI=>?_) n h
 show wpAny _ A ((compTurn (.ListComp elt [⟨target,iter,ifs,0⟩] scope pos) 0 it acc env).onRaise (fun x=>do noteFrame x env; theTreesLotGoes x)) _ _ s
 refine wpAny_noted ?_
 rw [compTurn_list]
 refine wpAny_bind (wpAny_standAt (wpAny_bind (wpAny_mono (turn n s hI) (fun r s₁ h₁=>?_) fun _ _ h'=>h'.elim)))
 cases r with
 | none=>exact wpAny_pure h₁
 | some v =>
  refine wpAny_bind (wpAny_mono h₁ (fun _ s₁' h₁'=>?_) fun _ _ h'=>h'.elim)
  refine wpAny_bind (wpAny_mono h₁' (fun _ s₂ h₂=>wpAny_bind (wpAny_mono h₂ (fun ok s₃ h₃=>?_) fun _ _ h'=>h'.elim)) fun _ _ h'=>h'.elim)
  cases ok with
  | false=>exact wpAny_pure ⟨rfl,h₃⟩
  | true =>
   exact wpAny_bind (wpAny_bind (wpAny_mono h₃ (fun x s₄ h₄=>wpAny_bind (wpAny_mono h₄ (fun _ s₅ h₅=>wpAny_pure (wpAny_pure ⟨rfl,h₅⟩)) fun _ _ h'=>h'.elim)) fun _ _ h'=>h'.elim))
end
noncomputable def PF (X:Cx) (ifs:List Expr) (t:TT):Prop :=
 ∀ (pins:List (Addr × Obj)) (s:Shared) (σ:St) (H:Hp) (Q:Bool → Hp → Prop),Inv X pins σ H s → t σ H Q →
  wpAny (model X.prog X.w) X.A (forIn ifs true fun c r=>if r = true then do let ok ← isTrue c X.env (eval c X.env); pure (ForInStep.yield ok) else pure (ForInStep.yield r)) (TP X pins σ Q) X.xe s
theorem pf_nil {X:Cx}:PF X [] fun _ H Q=>Q true H:=fun _ _ _ H _ I h=>wpAny_tests_nil ⟨H,I,h⟩
theorem pf_one {X:Cx} {c:Expr} {t:TT} (h:PT X c t):PF X [c] t:=fun pins s σ H Q I q=>wpAny_tests_one (h pins s σ H Q I q)
noncomputable def Wk (σ σ':St):Prop:=σ'.length = σ.length ∧ ∀ (j:Nat) (v:V),σ[j]? = some (some v) → σ'[j]? = some (some v)
noncomputable def tComp (n:Nat) (caps:List Nat) (wi:TI) (g:TG) (tt:TT) (te:TE):TE:=fun σ H Q=>wi σ H fun J H1=>∀ D,H1 D = none →
 ∃ W:Nat → Nat → List V → Hp → Prop,(∃ m,W 0 m [] (upd H1 D (.lst []))) ∧ ∀ i m ys H2,W i m ys H2 →
  (J.stop i H2 ∧ Q (.ref D) H2) ∨ (J.go i H2 ∧ ∀ x H3,J.yld i H2 x H3 → g x (sComp n caps σ) H3 fun σ4 H4=>Wk (sComp n caps σ) σ4 ∧ tt σ4 H4 fun b H5 =>
   if b = true then te σ4 H5 fun y H6=>H6 D = some (.lst ys) ∧ ys.length < sizeLine ∧ ∃ m',m' < m ∧ W (i + 1) m' (ys ++ [y]) (upd H6 D (.lst (ys ++ [y]))) else ∃ m',m' < m ∧ W (i + 1) m' ys H5)
section
variable {X:Cx} {sc:Scope} {elt iter tg:Expr} {ifs:List Expr} {scope:Scope} {pos:Pos} {N':List Str} {n:Nat} {caps:List Nat} {wi:TI} {g:TG} {tt:TT} {te:TE}
noncomputable def Aside (X:Cx) (pins:List (Addr × Obj)) (H:Hp) (C:Addr):Prop :=
 H C = none ∧ C ≠ X.env.locals ∧ X.s₀.heap.objs.size ≤ C ∧ (∀ x c,X.env.cells.lookup x = some c → c ≠ C) ∧ ∀ p ∈ X.pn ++ pins,p.1 ≠ C
theorem comp_core {pins:List (Addr × Obj)} {σ:St} {H2:Hp} {s2:Shared} {it:Addr} {fp:List Addr} {tn:Nat → Heap → Prop} {J:It} {cl:List (Str × Addr)} {Q:VK} {RR:Value → Addr → Result → Shared → Prop} {E:Value → Shared → Prop}
  (hc:X.calm = true) (hsc:X.env.scope = sc) (ok:CompOk sc scope X.N N' n caps)
  (hcl1:∀ y c,cl.lookup y = some c → X.env.cells.lookup y = some c) (hcl2:∀ x ∈ scope.names,x.2 = .free → ∃ c,cl.lookup x.1 = some c)
  (hg:∀ s H ex,PG (cxComp X scope cl N' s H ex) tg g) (ht:∀ s H ex,PF (cxComp X scope cl N' s H ex) ifs tt) (he:∀ s H ex,PE (cxComp X scope cl N' s H ex) elt te)
  (I2:Inv X pins σ H2 s2) (T:Turn X.prog X.w X.K tg J fp it tn) (st2:tn 0 s2.heap) (f2:∀ b ∈ fp,FpOk X pins H2 b)
  (q:∀ D,H2 D = none → ∃ W:Nat → Nat → List V → Hp → Prop,(∃ m,W 0 m [] (upd H2 D (.lst []))) ∧ ∀ i m ys H2,W i m ys H2 →
   (J.stop i H2 ∧ Q (.ref D) H2) ∨ (J.go i H2 ∧ ∀ x H3,J.yld i H2 x H3 → g x (sComp n caps σ) H3 fun σ4 H4=>Wk (sComp n caps σ) σ4 ∧ tt σ4 H4 fun b H5 =>
    if b = true then te σ4 H5 fun y H6=>H6 D = some (.lst ys) ∧ ys.length < sizeLine ∧ ∃ m',m' < m ∧ W (i + 1) m' (ys ++ [y]) (upd H6 D (.lst (ys ++ [y]))) else ∃ m',m' < m ∧ W (i + 1) m' ys H5))
  (hend:∀ (D C:Addr) (H':Hp) (s':Shared) (m:Str → Option Value),Inv X pins σ H' s' → Aside X pins H' C → s'.heap.Ns C m → Q (.ref D) H' → RR (.ref D) C (.ok .next) s') :
  wpAny (model X.prog X.w) X.A (newList []) (fun acc s₃=>wpAny (model X.prog X.w) X.A (newFunctionEnv scope X.env.globals cl [] X.env.qual none .none (some X.env)) (fun cenv s₄ =>
   codeAny (model X.prog X.w) X.A (.compStart (.ListComp elt [⟨tg,iter,ifs,0⟩] scope pos) 0 (.ref it) acc { cenv with scope:=relabel scope X.env }) (RR acc cenv.locals) s₄) E s₃) E s2:=by
 refine wpAny_newObj_type (wpAny_newFunctionEnv ok.nocell (by intro y hy; simp at hy) (fun h₁ hns₁ hsb₁=>?_) ok.kind)
 dsimp only at hns₁ hsb₁ ⊢
 obtain ⟨D,hD⟩:∃ D,D = s2.heap.objs.size:=⟨_,rfl⟩
 have I3:Inv X pins σ (upd H2 s2.heap.objs.size (.lst [])) { s2 with heap:=s2.heap.push { cls:=.type "list",data:=.seq ([]:List Value).toArray } }:=I2.lnew (its:=[]) (t':=s2.toks) .nil (Nat.zero_le _)
 have hfD:H2 s2.heap.objs.size = none:=I2.fresh
 obtain ⟨W,⟨m0,w0⟩,turn⟩:=q s2.heap.objs.size hfD
 generalize hs3:({ s2 with heap:=s2.heap.push { cls:=.type "list",data:=.seq ([]:List Value).toArray } }:Shared) = s3 at *
 have hs3h:s2.heap.push { cls:=.type "list",data:=.seq ([]:List Value).toArray } = s3.heap:=by rw [← hs3]
 have hs3t:s2.toks = s3.toks:=by rw [← hs3]
 rw [hs3h] at hns₁ hsb₁ ⊢
 generalize hH3:upd H2 s2.heap.objs.size (HO.lst []) = H3 at *
 rw [← hD] at turn hH3 hfD ⊢
 have old:∀ b o,s3.heap.get? b = some o → h₁.get? b = some o:=fun b o e=>hsb₁.extBut b o (Nat.ne_of_lt (Heap.lt_size e)) (Heap.get?_push_of_some _ e)
 have old2:∀ b o,s2.heap.get? b = some o → s3.heap.get? b = some o:=fun b o e=>by rw [← hs3h]; exact Heap.get?_push_of_some _ e
 have fpl:∀ b ∈ fp,b < s3.heap.objs.size:=fun b hb=>by
  obtain ⟨o,e,_⟩:=T.obj _ _ st2 b hb
  exact Heap.lt_size (old2 b o e)
 have fpD:∀ b ∈ fp,b ≠ D:=fun b hb z=>by
  obtain ⟨o,e,_⟩:=T.obj _ _ st2 b hb
  rw [z,hD] at e
  exact absurd (Heap.lt_size e) (Nat.lt_irrefl _)
 obtain ⟨X',hX'⟩:∃ X',X' = cxComp X scope cl N' s3 H3 fp:=⟨_,rfl⟩
 have okX:X'.Ok:=by
  subst hX'
  refine ⟨I3.ok.mod,ok.kind,I3.ok.glob,I3.ok.blt,Nat.le_refl _,fun x y c h1 h2=>I3.ok.inj x y c (hcl1 x c h1) (hcl1 y c h2),fun x hx=>?_,fun x c h _=>absurd h (by simp [cxComp]),I3.ok.hd,I3.ok.frames,.inl rfl,
   fun b hb=>⟨Nat.ne_of_lt (fpl b hb),fun x c e=>(f2 b hb).2.2.2.2.1 x c (hcl1 x c e)⟩,fun b o e=>I3.bs b o e,Nat.le_trans I3.ok.bsz I3.sz,fun b o e hb=>?_,fun b hb hf=>?_,I3.stack,I3.stkFree⟩
  ·have hx':((relabel scope X.env).names.lookup x = some .cell) ∨ ((relabel scope X.env).names.lookup x = some .free):=hx
   have q2:=lookup_relabel (env:=X.env) scope.names x
   have q3:(relabel scope X.env).names.lookup x = (scope.names.lookup x).map fun k=>if (k == NameKind.free && X.env.scope.kind == .function && X.env.kindOf x == some .cell) = true then NameKind.cell else k:=q2
   cases e:scope.names.lookup x with
   | none =>
    rw [q3,e] at hx'
    rcases hx' with z | z <;> cases z
   | some k =>
    have hk:k = .free:=by
     rw [q3,e] at hx'
     have nc:=ok.nocell (x,k) (PySem.mem_of_lookup e)
     cases k <;> first
      | rfl
      | exact absurd rfl nc
      | (rcases hx' with z | z <;> simp at z)
    subst hk
    exact hcl2 (x,.free) (PySem.mem_of_lookup e) rfl
  ·rcases (f2 b hb).2.2.2.1 with z | z
   ·exact I3.ok.noex b o e z
   ·exact absurd (Nat.lt_of_lt_of_le (Heap.lt_size (I3.ok.bs b o e).1) z) (Nat.lt_irrefl _)
  ·rcases List.mem_cons.mp (I3.stkSub b hf) with z | z
   ·exact (f2 b hb).2.1 z
   ·exact (f2 b hb).2.2.1 z
 have I4:Inv X' [] (sComp n caps σ) H3 { s3 with heap:=h₁,toks:=s2.toks + ([]:List (Str × Value)).length }:=by
  refine ⟨okX,?_,?_,?_,?_,fun x c e=>?_,?_,fun x c e=>?_,fun p hp=>?_,(by subst hX'; exact I3.hok.kept old),?_⟩
  ·subst hX'; rfl
  ·exact I3.bare
  ·subst hX'; exact Un.kept old
  ·subst hX'
   refine ⟨_,hns₁,fun i x v e1 e2 e3=>?_⟩
   have hi:n ≤ i:=by
    by_cases hi:i < n
    ·unfold sComp at e2
     rw [List.getElem?_append_left (by simpa using hi),List.getElem?_replicate,if_pos hi] at e2
     cases e2
    ·omega
   obtain ⟨k,rfl⟩:∃ k,i = n + k:=⟨i - n,by omega⟩
   have hk:k < caps.length:=by
    have:=(List.getElem?_eq_some_iff.mp e1).1
    have e5:(cxComp X scope cl N' s3 H3 fp).N.length = n + caps.length:=ok.len
    omega
   obtain ⟨c1,c2⟩:=ok.cap k (List.mem_range.mpr hk)
   have e1':N'[n + k]? = some x:=e1
   unfold sComp at e2
   rw [List.getElem?_append_right (by simp),List.length_replicate,Nat.add_sub_cancel_left,List.getElem?_map] at e2
   obtain ⟨j,hj⟩:∃ j,caps[k]? = some j:=⟨caps[k],by simp [hk]⟩
   rw [hj] at e2 c1
   have hj2:X.N[j]? = some x:=by rw [← e1',c1]; rfl
   have e2':(σ[j]?).join = some v:=Option.some.inj e2
   have e2'':σ[j]? = some (some v):=by
    cases q:σ[j]? with
    | none=>rw [q] at e2'; cases e2'
    | some o=>rw [q] at e2'; rw [show o = some v from e2']
   rw [e1'] at c2
   have hfree:scope.names.lookup x = some .free:=by simpa using c2
   have hvis:=ok.free (x,.free) (PySem.mem_of_lookup hfree) rfl
   obtain ⟨m,hn,hl⟩:=I3.loc
   obtain ⟨u,ru,l⟩:=hl j x v hj2 e2'' (by
    rcases hvis with z | z
    ·exact .inr (.inl (by rw [hsc]; exact z))
    ·exact .inr (.inr (by rw [hsc]; exact z)))
   refine ⟨u,ru,.inr ⟨?_,?_⟩⟩
   ·have q3:(relabel scope X.env).names.lookup x = (scope.names.lookup x).map fun k=>if (k == NameKind.free && X.env.scope.kind == .function && X.env.kindOf x == some .cell) = true then NameKind.cell else k:=lookup_relabel scope.names x
    rw [hfree] at q3
    show (relabel scope X.env).names.lookup x = _ ∨ (relabel scope X.env).names.lookup x = _
    rw [q3]
    by_cases hcc:(NameKind.free == NameKind.free && X.env.scope.kind == .function && X.env.kindOf x == some .cell) = true
    ·left; simp only [Option.map_some,if_pos hcc]
    ·right; simp only [Option.map_some,if_neg hcc]
   ·obtain ⟨c',hc'⟩:=hcl2 (x,.free) (PySem.mem_of_lookup hfree) rfl
    rcases l with ⟨hkk,_⟩ | ⟨_,c,hc2,hcell⟩
    ·have hkk':X.env.scope.names.lookup x = some .local:=hkk
     rw [hsc] at hkk'
     rcases hvis with z | z <;> (rw [hkk'] at z; cases z)
    ·have:=hcl1 x c' hc'
     rw [hc2] at this
     cases this
     obtain ⟨o,ho,hd⟩:=hcell
     exact ⟨_,hc',o,old _ o ho,hd⟩
  ·have e':cl.lookup x = some c:=by subst hX'; exact e
   obtain ⟨v,o,ho,hd⟩:=I3.cell x c (hcl1 x c e')
   exact ⟨v,o,old _ o ho,hd⟩
  ·subst hX'; exact I3.hok.fresh (Nat.le_refl _)
  ·have e':cl.lookup x = some c:=by subst hX'; exact e
   exact I3.freeC x c (hcl1 x c e')
  ·subst hX'; exact absurd hp (by simp [cxComp])
  ·subst hX'
   show _ = N'.length
   rw [sComp_len,ok.len]
 have hX'c:X'.calm = true:=by subst hX'; exact hc
 have hfpX:∀ {H':Hp},(∀ b ∈ fp,H' b = none) → ∀ b ∈ fp,FpOk X' [] H' b:=fun {H'} hn b hb=>by
  subst hX'
  refine ⟨hn b hb,Nat.ne_of_lt (fpl b hb),fun hf=>?_,.inl hb,fun x c e=>(f2 b hb).2.2.2.2.1 x c (hcl1 x c e),fun p hp=>absurd hp (by simp [cxComp])⟩
  rcases List.mem_cons.mp (I3.stkSub b hf) with z | z
  ·exact (f2 b hb).2.1 z
  ·exact (f2 b hb).2.2.1 z
 have fr3:∀ b ∈ fp,H3 b = none:=fun b hb=>by rw [← hH3,upd_ne (fpD b hb)]; exact (f2 b hb).1
 have st4:tn 0 h₁:=T.keep _ _ _ st2 fun b hb o e=>old b o (old2 b o e)
 have loop:∀ s4:Shared,s4 = { s3 with heap:=h₁,toks:=s2.toks + ([]:List (Str × Value)).length } →
   codeAny (model X.prog X.w) X.A (.compLoop (.ListComp elt [⟨tg,iter,ifs,0⟩] scope pos) 0 (.ref it) (.ref D) X'.env) (RR (.ref D) s3.heap.objs.size) s4:=by
  rintro s4 rfl
  refine compLoop_any (fun k s'=>∃ i ys H',Inv X' [] (sComp n caps σ) H' s' ∧ tn i s'.heap ∧ (∀ b ∈ fp,H' b = none) ∧ W i k ys H') ?_ m0 ⟨0,[],H3,I4,st4,fr3,w0⟩
  rintro k s5 ⟨i,ys,H5,I5,st5,fr5,w5⟩
  have eP:X'.prog = X.prog:=by subst hX'; rfl
  have ew:X'.w = X.w:=by subst hX'; rfl
  have eK:X'.K = X.K:=by subst hX'; rfl
  have eA:X'.A = X.A:=by subst hX'; rfl
  rcases turn i k ys H5 w5 with ⟨stop,qe⟩ | ⟨go,step⟩
  ·have T':=T.done X' eP ew eK hX'c i [] s5 (sComp n caps σ) H5 (fun _ _=>False) I5 (hfpX fr5) st5 stop
   rw [eA] at T'
   refine thn T' fun r s6 ⟨hr,I6⟩=>?_
   subst hr
   have un6:Un (frs X.stack) fp H3 H5 s3.heap s6.heap:=by have:=I6.base; subst hX'; exact this
   have hos:s6.os = s3.os:=by have:=I6.os; subst hX'; exact this
   have hok6:HOk X.prog X.w H5 s6.heap:=by have:=I6.hok; subst hX'; exact this
   have IX:Inv X pins σ H5 s6:=I3.call' hos un6 hok6 I6.bare fun b hb=>⟨(f2 b hb).2.2.2.1,(f2 b hb).2.1,(f2 b hb).2.2.2.2.1,(f2 b hb).2.2.2.2.2⟩
   obtain ⟨m6,hn6,_⟩:=I6.loc
   have hn6':s6.heap.Ns s3.heap.objs.size m6:=by subst hX'; exact hn6
   refine hend D s3.heap.objs.size H5 s6 m6 IX ⟨by have:=I6.free; subst hX'; exact this,Nat.ne_of_gt I3.lt,I3.sz,fun x c e z=>?_,fun p hp z=>?_⟩ hn6' qe
   ·obtain ⟨v,qc⟩:=I3.cell x c e
    exact absurd (Nat.lt_of_lt_of_le qc.lt (Nat.le_of_eq z.symm)) (Nat.lt_irrefl _)
   ·exact absurd (Nat.lt_of_lt_of_le (Heap.lt_size (I3.pin p hp).1) (Nat.le_of_eq z.symm)) (Nat.lt_irrefl _)
  ·have T':=T.item X' eP ew eK hX'c i [] s5 (sComp n caps σ) H5 (fun _ _=>False) I5 (hfpX fr5) st5 go
   rw [eA] at T'
   refine thn T' fun r s6 ⟨u,hr,h6⟩=>?_
   subst hr
   refine thn h6 fun _ s7 ⟨x,H7,I7,r7,y7,st7,fr7⟩=>?_
   have I7':=I7.pinned (hfpX fr7) (T.obj _ _ st7)
   have hg':=hg s3 H3 fp
   have ht':=ht s3 H3 fp
   have he':=he s3 H3 fp
   rw [← hX'] at hg' ht' he'
   have g1:=hg' _ s7 (sComp n caps σ) H7 x u _ I7' r7 (step x H7 y7)
   rw [eP,ew,eA] at g1
   have exe:X'.xe = fun _ _=>False:=by subst hX'; rfl
   rw [exe] at g1
   refine thn g1 fun _ s8 ⟨σ8,H8,I8,wk8,q8⟩=>?_
   have t1:=ht' _ s8 σ8 H8 _ I8 q8
   rw [eP,ew,eA,exe] at t1
   refine thn t1 fun b s9 ⟨H9,I9,q9⟩=>?_
   have back:∀ {σa:St} {Ha:Hp} {sa:Shared} {ysa:List V} {ma:Nat},Inv X' ([] ++ pinsAt fp s7.heap) σa Ha sa → σa.length = (sComp n caps σ).length → (∀ (j:Nat) v,(sComp n caps σ)[j]? = some (some v) → σa[j]? = some (some v)) → W (i + 1) ma ysa Ha →
     ∃ i ys H',Inv X' [] (sComp n caps σ) H' sa ∧ tn i sa.heap ∧ (∀ b ∈ fp,H' b = none) ∧ W i ma ys H':=fun {σa Ha sa ysa ma} Ia hl hw wa=>by
    refine ⟨i + 1,ysa,Ha,(Ia.weak hl.symm hw).unpinned,T.keep _ _ _ st7 fun b hb o e=>(Ia.pin (b,o) (List.mem_append_right _ (List.mem_append_right _ (mem_pinsAt hb e)))).1,fun b hb=>?_,wa⟩
    obtain ⟨o,e,d⟩:=T.obj _ _ st7 b hb
    exact (Ia.pin (b,o) (List.mem_append_right _ (List.mem_append_right _ (mem_pinsAt hb e)))).2.1
   cases b with
   | false =>
    rw [if_neg Bool.false_ne_true]
    rw [if_neg Bool.false_ne_true] at q9
    obtain ⟨m',hm,w9⟩:=q9
    exact ⟨m',hm,back I9 wk8.1 wk8.2 w9⟩
   | true =>
    rw [if_pos rfl]
    rw [if_pos rfl] at q9
    have e1:=he' _ s9 σ8 H9 _ I9 q9
    rw [eP,ew,eA,exe] at e1
    refine thn e1 fun v s10 ⟨y,H10,I10,r10,hD10,hlen,m',hm,w10⟩=>?_
    have a1:=mt_append (X:=X') _ s10 σ8 H10 (.ref D) [y] (.ref D) [v] (fun _ H'=>W (i + 1) m' (ys ++ [y]) H') I10 rfl (.cons r10 .nil) ⟨D,ys,y,rfl,rfl,hD10,hlen,w10⟩
    rw [eP,ew,eA,exe] at a1
    refine thn a1 fun _ s11 ⟨_,H11,I11,_,w11⟩=>?_
    exact ⟨m',hm,back I11 wk8.1 wk8.2 w11⟩
 subst hX'
 exact codeAny_compStart_list (loop _ (by rw [← hs3])) (T.self X.A 0 _ _ _ st4 (loop _ (by rw [← hs3])))
theorem pe_comp (hc:X.calm = true) (hsc:X.env.scope = sc) (ok:CompOk sc scope X.N N' n caps) (hi:PI X tg iter wi)
  (hg:∀ cl s H ex,PG (cxComp X scope cl N' s H ex) tg g) (ht:∀ cl s H ex,PF (cxComp X scope cl N' s H ex) ifs tt) (he:∀ cl s H ex,PE (cxComp X scope cl N' s H ex) elt te)
  (hs:∀ x,foldedSetIterable iter X.env x = pure x:=by intro _; rfl) :
  PE X (.ListComp elt [⟨tg,iter,ifs,0⟩] scope pos) (tComp n caps wi g tt te):=by
 intro pins s σ H Q I h
 obtain ⟨cl,hclos,hcl1,hcl2⟩:=closureFor_some (env:=X.env) (scope:=scope) fun x hx hf=>I.ok.has x.1 (by
  rcases ok.free x hx hf with z | z
  ·exact .inl (by show X.env.scope.names.lookup x.1 = _; rw [hsc]; exact z)
  ·exact .inr (by show X.env.scope.names.lookup x.1 = _; rw [hsc]; exact z))
 rw [eval_ListComp]
 refine wpAny_comprehension_free (use:=none) rfl hs hclos ok.kind ok.loc (thn (hi pins s σ H _ I h) fun v s1 h1=>thn h1 fun itv s2 h2=>?_)
 obtain ⟨it,fp,tn,J,H2,rfl,I2,T,st2,f2,q2⟩:=h2
 refine comp_core (Q:=Q) (RR:=fun acc C=>compPost (model X.prog X.w) X.A X.xe none (EP X pins σ Q) acc C) hc hsc ok hcl1 hcl2 (hg cl) (ht cl) (he cl) I2 T st2 f2 q2 ?_
 intro D C H' s' m IX as hn qe
 refine ⟨m,hn,fun h' sb=>⟨.ref D,H',IX.turned (t':=s'.toks) (fun b o hb e=>(sb.2 b hb).trans e) as.1 as.2.1 (.inr as.2.2.1) as.2.2.2.1 as.2.2.2.2,rfl,qe⟩⟩
theorem ps_setComp {i:Nat} {y:Str} {py spos:Pos} (hN:X.N.Nodup) (hiN:X.N[i]? = some y) (hy:Loc X.env.scope y) (hc:X.calm = true) (hsc:X.env.scope = sc) (ok:CompOk sc scope X.N N' n caps) (hi:PI X tg iter wi)
  (hg:∀ cl s H ex,PG (cxComp X scope cl N' s H ex) tg g) (ht:∀ cl s H ex,PF (cxComp X scope cl N' s H ex) ifs tt) (he:∀ cl s H ex,PE (cxComp X scope cl N' s H ex) elt te)
  (hsw:swapsWith (.ListComp elt [⟨tg,iter,ifs,0⟩] scope pos) (some (.Name y py)) spos.line X.env = pure true:=by rfl)
  (hs:∀ x,foldedSetIterable iter X.env x = pure x:=by intro _; rfl)
  (hf:X.fn y = true ∨ X.env.scope.names.lookup y = some .local:=by first | exact .inl rfl | exact .inr rfl | assumption) :
  PS X (.Assign [.Name y py] (.ListComp elt [⟨tg,iter,ifs,0⟩] scope pos) spos) (fun D σ H=>tComp n caps wi g tt te σ H fun v H'=>D.nx (σ.set i (some v)) H'):=by
 intro pins s σ H D I h
 obtain ⟨cl,hclos,hcl1,hcl2⟩:=closureFor_some (env:=X.env) (scope:=scope) fun x hx hf=>I.ok.has x.1 (by
  rcases ok.free x hx hf with z | z
  ·exact .inl (by show X.env.scope.names.lookup x.1 = _; rw [hsc]; exact z)
  ·exact .inr (by show X.env.scope.names.lookup x.1 = _; rw [hsc]; exact z))
 rw [exec_Assign_Name_used _ _ _ _ hsw]
 refine wpAny_bind (wpAny_standAt (wpAny_bind ?_))
 show wpAny _ X.A (do let _ ← comprehension (.ListComp elt [⟨tg,iter,ifs,0⟩] scope pos) scope X.env _ (newList []) false (eval iter X.env) (some (assign (.Name y py) X.env))) _ _ s
 refine wpAny_bind (wpAny_mono (wpAny_comprehension_free (use:=some (assign (.Name y py) X.env)) (Q:=fun _ s'=>SP X pins D .next s') rfl hs hclos ok.kind ok.loc
  (thn (hi pins s σ H _ I h) fun v s1 h1=>thn h1 fun itv s2 h2=>?_)) (fun _ s' hq=>wpAny_pure (wpAny_pure hq)) fun _ _ e=>e)
 obtain ⟨it,fp,tn,J,H2,rfl,I2,T,st2,f2,q2⟩:=h2
 refine comp_core (Q:=fun v H'=>D.nx (σ.set i (some v)) H') (RR:=fun acc C=>compPost (model X.prog X.w) X.A X.xe (some (assign (.Name y py) X.env)) (fun _ s'=>SP X pins D .next s') acc C) hc hsc ok hcl1 hcl2 (hg cl) (ht cl) (he cl) I2 T st2 f2 q2 ?_
 intro Da C H' s' m IX as hn qe
 show wpAny _ X.A (assign (.Name y py) X.env (.ref Da)) _ _ _
 refine wpAny_assign_Name (store_ok2 IX hN hiN hy (v:=.ref Da) rfl (fun s'' I'' ⟨a,sb,ha⟩=>?_) hf)
 have hCa:C ≠ a:=by
  rcases ha with z | z
  ·rw [z]; exact as.2.1
  ·exact Ne.symm (as.2.2.2.1 y a z)
 refine ⟨m,hn.sameBut sb hCa,fun h' sb'=>⟨_,H',I''.turned (t':=s''.toks) (fun b o hb e=>(sb'.2 b hb).trans e) as.1 as.2.1 (.inr as.2.2.1) as.2.2.2.1 as.2.2.2.2,qe⟩⟩
end
end L2
namespace DL
open PySem PySem.Spec PyProof.Rows
inductive D where
 | non | bl (b:Bool) | int (i:Int) | str (x:Str) | tup (ds:List D) | lst (ds:List D) | dct (ks:Sum (List (Sum Int Str)) (List (List (Sum Int Str)))) (ds:List D)
 deriving Inhabited
@[simp] noncomputable def unl:D → D
 | .tup [_,d]=>d
 | d=>d
@[simp] noncomputable def isL:D → Bool
 | .tup _=>true
 | _=>false
inductive Sl where
 | un | sh (d:D) | ow (d:D)
 | ex (c:Str) (n:Option Int)
noncomputable abbrev Ds:=List Sl
inductive Res where
 | nx (δ:Ds) | rt (d:D) | bk (δ:Ds) | ct (δ:Ds) | rf (d:D)
noncomputable abbrev GE:=Ds → Option D
noncomputable abbrev GB:=Ds → Option Bool
noncomputable abbrev GA:=Ds → Option (List D)
noncomputable abbrev GS:=Ds → Option Res
@[simp] noncomputable def asB:D → Option Bool
 | .bl b=>some b
 | _=>none
@[simp] noncomputable def asI:D → Option Int
 | .int i=>some i
 | _=>none
@[simp] noncomputable def gv (i:Nat):GE:=fun δ=>match δ[i]? with
 | some (.sh d)=>some d
 | _=>none
@[simp] noncomputable def gc (d:D):GE:=fun _=>some d
@[simp] noncomputable def o2 (ga gb:GE) (f:D → D → Option D):GE:=fun δ=>(ga δ).bind fun x=>(gb δ).bind fun y=>f x y
@[simp] noncomputable def ob (g:GE):GB:=fun δ=>(g δ).bind asB
@[simp] noncomputable def tNotG (g:GB):GB:=fun δ=>(g δ).map (!·)
@[simp] noncomputable def tAndG (gt gu:GB):GB:=fun δ=>(gt δ).bind fun t=>if t = true then gu δ else some false
@[simp] noncomputable def tOrG (gt gu:GB):GB:=fun δ=>(gt δ).bind fun t=>if t = true then some true else gu δ
@[simp] noncomputable def andG (ga gb:GE):GE:=fun δ=>(ob ga δ).bind fun t=>if t = true then gb δ else some (.bl false)
@[simp] noncomputable def nilA:GA:=fun _=>some []
@[simp] noncomputable def consA (g:GE) (gA:GA):GA:=fun δ=>(g δ).bind fun d=>(gA δ).map fun ds=>d :: ds
@[simp] noncomputable def tupG (gA:GA):GE:=fun δ=>(gA δ).bind fun ds=>if ds.length ≤ sizeLine then some (.tup ds) else none
@[simp] noncomputable def lstG (gA:GA):GE:=fun δ=>(gA δ).bind fun ds=>if ds.length ≤ sizeLine then some (.lst ds) else none
@[simp] noncomputable def oA (gA:GA) (f:List D → Option D):GE:=fun δ=>(gA δ).bind f
@[simp] noncomputable def isiG (f:D → Bool) (g:GE):GE:=fun δ=>(g δ).map fun d=>.bl (f d)
@[simp] noncomputable def negD (d:D):Option D:=match d with
 | .int i=>some (.int (-i))
 | _=>none
@[simp] noncomputable def unG (f:D → Option D) (g:GE):GE:=fun δ=>(g δ).bind f
@[simp] noncomputable def seqD (G1 G2:GS):GS:=fun δ=>match G1 δ with
 | some (.nx δ')=>G2 δ'
 | r=>r
@[simp] noncomputable def nilD:GS:=fun δ=>some (.nx δ)
@[simp] noncomputable def retD (g:GE):GS:=fun δ=>(g δ).map .rt
@[simp] noncomputable def gN (i:Nat):D → Ds → Option Ds:=fun d δ=>some (δ.set i (.sh d))
@[simp] noncomputable def setD (f:D → Ds → Option Ds) (g:GE):GS:=fun δ=>(g δ).bind fun d=>(f d δ).map .nx
@[simp] noncomputable def ifD (gt:GB) (Ga Gb:GS):GS:=fun δ=>(gt δ).bind fun t=>if t = true then Ga δ else Gb δ
noncomputable def forD (f:D → Ds → Option Ds) (G:GS):List D → Ds → Option Res
 | [],δ=>some (.nx δ)
 | d :: ds,δ=>match (f d δ).bind G with
  | some (.nx δ')=>forD f G ds δ'
  | some (.ct δ')=>forD f G ds δ'
  | some (.bk δ')=>some (.nx δ')
  | r=>r
@[simp] noncomputable def forG (gi:GA) (f:D → Ds → Option Ds) (G:GS):GS:=fun δ=>(gi δ).bind fun items=>forD f G items δ
@[simp] noncomputable def asLst:D → Option (List D)
 | .lst ds=>some ds
 | _=>none
@[simp] noncomputable def asTup:D → Option (List D)
 | .tup ds=>some ds
 | _=>none
@[simp] noncomputable def lstI (g:GE):GA:=fun δ=>(g δ).bind asLst
@[simp] noncomputable def tupI (g:GE):GA:=fun δ=>(g δ).bind asTup
noncomputable def rngD (lo hi:Int):List D:=(List.range (hi - lo).toNat).map fun k=>.int (lo + (k:Nat))
@[simp] noncomputable def rng1D (ds:List D):Option (List D):=match ds with
 | [.int j]=>if -(2 ^ 62) ≤ j ∧ j < 2 ^ 62 then some (rngD 0 j) else none
 | _=>none
@[simp] noncomputable def rng2D (ds:List D):Option (List D):=match ds with
 | [.int i,.int j]=>if (-(2 ^ 62) ≤ i ∧ i < 2 ^ 62) ∧ -(2 ^ 62) ≤ j ∧ j < 2 ^ 62 then some (rngD i j) else none
 | _=>none
@[simp] noncomputable def rng1I (gA:GA):GA:=fun δ=>(gA δ).bind rng1D
@[simp] noncomputable def rng2I (gA:GA):GA:=fun δ=>(gA δ).bind rng2D
@[simp] noncomputable def noT:GB:=fun _=>some true
@[simp] noncomputable def capSl:Option Sl → Sl
 | some (.sh d)=>.sh d
 | _=>.un
@[simp] noncomputable def dComp (n:Nat) (caps:List Nat) (δ:Ds):Ds:=List.replicate n .un ++ caps.map fun j=>capSl δ[j]?
noncomputable def compD (f:D → Ds → Option Ds) (gt:GB) (ge:GE) (δ:Ds):List D → Option (List D)
 | []=>some []
 | d :: ds=>match f d δ with
  | none=>none
  | some δ'=>match gt δ' with
   | none=>none
   | some false=>compD f gt ge δ ds
   | some true=>match ge δ' with
    | none=>none
    | some y=>(compD f gt ge δ ds).map fun r=>y :: r
@[simp] noncomputable def compG (n:Nat) (caps:List Nat) (gi:GA) (f:D → Ds → Option Ds) (gt:GB) (ge:GE):GE :=
 fun δ=>(gi δ).bind fun items=>if items.length ≤ sizeLine then (compD f gt ge (dComp n caps δ) items).map .lst else none
@[simp] noncomputable def dStart (N:List Str) (ds:List D):Ds:=ds.map .sh ++ List.replicate (N.length - ds.length) .un
@[simp] noncomputable def isBool:D → Bool
 | .bl _=>true | _=>false
@[simp] noncomputable def isTup:D → Bool
 | .tup _=>true | _=>false
@[simp] noncomputable def ii (f:Int → Int → Option D):D → D → Option D
 | .int i,.int j=>f i j
 | _,_=>none
@[simp] noncomputable def subD:D → D → Option D:=ii fun i j=>some (.int (i - j))
@[simp] noncomputable def fdivD:D → D → Option D:=ii fun i j=>if 0 < j ∧ j < 1073741824 then some (.int (i / j)) else none
@[simp] noncomputable def modD:D → D → Option D:=ii fun i j=>if 0 < j then some (.int (i % j)) else none
@[simp] noncomputable def powD:D → D → Option D:=ii fun i j=>if 0 ≤ j ∧ j ≤ 1000000 ∧ i.natAbs < 2 ^ 64 then some (.int (i ^ j.toNat)) else none
@[simp] noncomputable def ltD:D → D → Option D:=ii fun i j=>some (.bl (decide (i < j)))
@[simp] noncomputable def leD:D → D → Option D:=ii fun i j=>some (.bl (decide (i ≤ j)))
@[simp] noncomputable def gtD:D → D → Option D:=ii fun i j=>some (.bl (decide (j < i)))
@[simp] noncomputable def eqS:D → D → Option Bool
 | .non,.non=>some true
 | .non,.int _=>some false | .int _,.non=>some false | .non,.bl _=>some false | .bl _,.non=>some false | .non,.str _=>some false | .str _,.non=>some false
 | .int i,.int j=>some (decide (i = j))
 | .bl i,.bl j=>some (decide (i = j))
 | .str i,.str j=>some (decide (i = j))
 | .int _,.str _=>some false | .str _,.int _=>some false | .bl _,.str _=>some false | .str _,.bl _=>some false
 | _,_=>none
@[simp] noncomputable def eqD (x y:D):Option D:=(eqS x y).map .bl
@[simp] noncomputable def isNon:D → Bool
 | .non=>true | _=>false
@[simp] noncomputable def isND (x y:D):Option D:=match y with
 | .non=>some (.bl (isNon x))
 | _=>none
noncomputable def ixN (n:Nat) (i:Int):Option Nat:=if 0 ≤ i then (if i < n then some i.toNat else none) else if -(n:Int) ≤ i then some (i + n).toNat else none
noncomputable def atI {α:Type} (xs:List α) (i:Int):Option α:=(ixN xs.length i).bind fun j=>xs[j]?
@[simp] noncomputable def ixD:D → D → Option D
 | .lst xs,.int i=>atI xs i
 | .tup xs,.int i=>atI xs i
 | .str z,.int i=>if z.length ≤ sizeLine then (atI z.cps.toList i).map fun c=>.str ⟨#[c]⟩ else none
 | _,_=>none
noncomputable def sIx (n d:Nat):Option Int → Nat
 | none=>d
 | some v=>if v < 0 then (v + (n:Int)).toNat else min v.toNat n
noncomputable def cutD (xs:List D) (lo hi:Option Int):List D:=(xs.drop (sIx xs.length 0 lo)).take (sIx xs.length xs.length hi - sIx xs.length 0 lo)
noncomputable abbrev GO:=Ds → Option (Option Int)
@[simp] noncomputable def noneO:GO:=fun _=>some none
@[simp] noncomputable def someO (g:GE):GO:=fun δ=>(g δ).bind fun d=>(asI d).map some
@[simp] noncomputable def lenD:List D → Option D
 | [.str z]=>if z.length ≤ sizeLine then some (.int z.length) else none
 | [.lst xs]=>some (.int xs.length)
 | [.tup xs]=>some (.int xs.length)
 | _=>none
noncomputable def bools:List D → Option (List Bool)
 | []=>some []
 | .bl b :: ds=>(bools ds).map fun r=>b :: r
 | _=>none
@[simp] noncomputable def allD:List D → Option D
 | [.lst ds]=>(bools ds).map fun bs=>.bl (bs.all id)
 | _=>none
noncomputable def strL:List D → Option (List Str)
 | []=>some []
 | .str b :: ds=>(strL ds).map fun r=>b :: r
 | _=>none
@[simp] noncomputable def joinD (d:D) (ds:List D):Option D:=match d,ds with
 | .str sep,[.lst xs]=>(strL xs).bind fun ys=>if (ys.map (·.length)).sum + ys.length * sep.length ≤ 16777216 then some (.str (Txt.join sep ys)) else none
 | _,_=>none
@[simp] noncomputable def joinG (g:GE) (gA:GA):GE:=fun δ=>(g δ).bind fun d=>(gA δ).bind fun ds=>joinD d ds
@[simp] noncomputable def tupOfD:List D → Option D
 | [.lst ds]=>some (.tup ds)
 | [.tup ds]=>some (.tup ds)
 | _=>none
theorem compD_filter {f:D → Ds → Option Ds} {gt:GB} {ge:GE} {δ:Ds} (p:D → Bool) (h:D → D):∀ {items:List D},(∀ d ∈ items,∃ δ',f d δ = some δ' ∧ gt δ' = some (p d) ∧ (p d = true → ge δ' = some (h d))) →
  compD f gt ge δ items = some ((items.filter p).map h)
 | [],_=>rfl
 | d :: ds,H=>by
  obtain ⟨δ',e1,e2,e3⟩:=H d List.mem_cons_self
  have ih:=compD_filter p h fun d hd=>H d (List.mem_cons_of_mem _ hd)
  unfold compD
  rw [e1]
  dsimp only
  rw [e2]
  cases hp:p d with
  | false =>
   dsimp only
   rw [List.filter_cons_of_neg (by simp [hp])]
   exact ih
  | true =>
   dsimp only
   rw [e3 hp,ih,List.filter_cons_of_pos hp]
   rfl
theorem compD_map {f:D → Ds → Option Ds} {gt:GB} {ge:GE} {δ:Ds} (h:D → D) {items:List D} (H:∀ d ∈ items,∃ δ',f d δ = some δ' ∧ gt δ' = some true ∧ ge δ' = some (h d)):compD f gt ge δ items = some (items.map h):=by
 have:=compD_filter (f:=f) (gt:=gt) (ge:=ge) (δ:=δ) (fun _=>true) h (items:=items) fun d hd=>by
  obtain ⟨δ',a,b,c⟩:=H d hd
  exact ⟨δ',a,b,fun _=>c⟩
 rw [List.filter_eq_self.mpr (by simp)] at this
 exact this
theorem strs_map {α:Type} (h:α → Str):∀ l:List α,strL (l.map fun a=>.str (h a)) = some (l.map h)
 | []=>rfl
 | a :: l=>by
  show (strL (l.map fun a=>.str (h a))).map (fun r=>h a :: r) = _
  rw [strs_map h l]
  rfl
theorem forD_inv {f:D → Ds → Option Ds} {G:GS} (P:Nat → Ds → Prop):∀ (items:List D) (i:Nat) (δ:Ds),(∀ j d δ,items[j]? = some d → P (i + j) δ → ∃ δ1 δ2,f d δ = some δ1 ∧ G δ1 = some (.nx δ2) ∧ P (i + j + 1) δ2) → P i δ →
  ∃ δ',forD f G items δ = some (.nx δ') ∧ P (i + items.length) δ'
 | [],i,δ,_,h=>⟨δ,rfl,h⟩
 | d :: ds,i,δ,H,h=>by
  obtain ⟨δ1,δ2,e1,e2,h2⟩:=H 0 d δ rfl h
  obtain ⟨δ',e3,h3⟩:=forD_inv P ds (i + 1) δ2 (fun j d δ hj hp=>by
   have q:i + (j + 1) = i + 1 + j:=by omega
   obtain ⟨a,b,c,d',e⟩:=H (j + 1) d δ (by simpa using hj) (by rw [q]; exact hp)
   exact ⟨a,b,c,d',by rw [q] at e; exact e⟩) h2
  have q:i + (d :: ds).length = i + 1 + ds.length:=by rw [List.length_cons]; omega
  refine ⟨δ',?_,by rw [q]; exact h3⟩
  unfold forD
  rw [e1]
  simp only [Option.bind_some,e2]
  exact e3
theorem seq_nx {G1 G2:GS} {δ δ':Ds} (h:G1 δ = some (.nx δ')):seqD G1 G2 δ = G2 δ':=by unfold seqD; rw [h]
theorem seq_rt {G1 G2:GS} {δ:Ds} {d:D} (h:G1 δ = some (.rt d)):seqD G1 G2 δ = some (.rt d):=by unfold seqD; rw [h]
theorem ret_of {g:GE} {δ:Ds} {d:D} (h:g δ = some d):retD g δ = some (.rt d):=by unfold retD; rw [h]; rfl
theorem set_of {g:GE} {i:Nat} {δ:Ds} {d:D} (h:g δ = some d):setD (gN i) g δ = some (.nx (δ.set i (.sh d))):=by unfold setD; rw [h]; rfl
theorem if_t {g:GB} {Ga Gb:GS} {δ:Ds} (h:g δ = some true):ifD g Ga Gb δ = Ga δ:=by unfold ifD; rw [h]; rfl
theorem if_f {g:GB} {Ga Gb:GS} {δ:Ds} (h:g δ = some false):ifD g Ga Gb δ = Gb δ:=by unfold ifD; rw [h]; rfl
theorem comp_of {n:Nat} {caps:List Nat} {gi:GA} {f:D → Ds → Option Ds} {gt:GB} {ge:GE} {δ:Ds} {items out:List D} (h1:gi δ = some items) (h2:items.length ≤ sizeLine) (h3:compD f gt ge (dComp n caps δ) items = some out):compG n caps gi f gt ge δ = some (.lst out):=by
 unfold compG
 rw [h1]
 show (if items.length ≤ sizeLine then (compD f gt ge (dComp n caps δ) items).map D.lst else none) = _
 rw [if_pos h2,h3]
 rfl
theorem for_of {gi:GA} {f:D → Ds → Option Ds} {G:GS} {δ:Ds} {items:List D} {r:Option Res} (h1:gi δ = some items) (h2:forD f G items δ = r):forG gi f G δ = r:=by
 unfold forG
 rw [h1]
 exact h2
theorem cons_of {g:GE} {gA:GA} {δ:Ds} {d:D} {ds:List D} (h1:g δ = some d) (h2:gA δ = some ds):consA g gA δ = some (d :: ds):=by unfold consA; rw [h1,h2]; rfl
theorem oA_of {gA:GA} {δ:Ds} {ds:List D} {f:List D → Option D} (h:gA δ = some ds):oA gA f δ = f ds:=by unfold oA; rw [h]; rfl
theorem o2_of {ga gb:GE} {δ:Ds} {x y:D} {f:D → D → Option D} (h1:ga δ = some x) (h2:gb δ = some y):o2 ga gb f δ = f x y:=by unfold o2; rw [h1,h2]; rfl
theorem join_of {g:GE} {gA:GA} {δ:Ds} {x:D} {ds:List D} (h1:g δ = some x) (h2:gA δ = some ds):joinG g gA δ = joinD x ds:=by unfold joinG; rw [h1,h2]; rfl
theorem atI_in {α:Type} {xs:List α} {i:Int} (h0:0 ≤ i) (h1:i < xs.length) (d:α):atI xs i = some (xs.getD i.toNat d):=by
 unfold atI ixN
 rw [if_pos h0,if_pos h1]
 show xs[i.toNat]? = _
 have:i.toNat < xs.length:=by omega
 simp [List.getD_eq_getElem?_getD,this]
end DL
namespace DL
open PySem PySem.Spec PyProof.Rows L2
noncomputable abbrev BS:=Addr → Prop
noncomputable abbrev St:=L2.St
noncomputable abbrev noH:Hp:=fun _=>none
noncomputable def SqT' (K:W.Frag) (H:Hp) (B:BS) (a:Addr) (xs:List V):Prop:=¬ B a ∧ H a = some (.tup xs)
noncomputable def SqL' (K:W.Frag) (H:Hp) (B:BS) (a:Addr) (xs:List V):Prop:=(¬ B a ∧ Rd H a (.lst xs)) ∨ SqL K noH a xs
section
variable {K:W.Frag} {H H':Hp} {B B':BS} {a:Addr} {xs:List V}
theorem rd_no {a:Addr} {u:HO} (h:Rd noH a u):False:=by
 rcases h with h | ⟨o,h⟩ <;> cases h
theorem SqT'.to (h:SqT' K H B a xs):SqT K H a xs:=.inl (.inl h.2)
theorem SqL'.to (h:SqL' K H B a xs):SqL K H a xs:=by
 rcases h with h | h | h
 ·exact .inl h.2
 ·exact (rd_no h).elim
 ·exact .inr h
noncomputable def Gr (H H':Hp) (B B':BS):Prop:=∀ b o,¬ B b → H b = some o → ¬ B' b ∧ H' b = some o
theorem SqT'.mono (g:Gr H H' B B') (h:SqT' K H B a xs):SqT' K H' B' a xs:=g _ _ h.1 h.2
theorem SqL'.mono (g:Gr H H' B B') (h:SqL' K H B a xs):SqL' K H' B' a xs:=by
 rcases h with ⟨n,h | ⟨o,h⟩⟩ | h
 ·exact .inl ⟨(g _ _ n h).1,.inl (g _ _ n h).2⟩
 ·exact .inl ⟨(g _ _ n h).1,.inr ⟨o,(g _ _ n h).2⟩⟩
 ·exact .inr h
theorem Gr.same (s:Same H H'):Gr H H' B B:=fun b o n h=>⟨n,s b o h⟩
theorem Gr.less (h:∀ a,B' a → B a):Gr H H B B':=fun b o n e=>⟨fun z=>n (h b z),e⟩
end
noncomputable abbrev KS:=Sum (List Key) (List (List Key))
noncomputable def dOb:KS → List V → HO
 | .inl ks,xs=>.dK (ks.zip xs)
 | .inr ks,xs=>.dT (ks.zip xs)
noncomputable def dLn:KS → Nat
 | .inl ks=>ks.length
 | .inr ks=>ks.length
mutual
noncomputable def Rp (K:W.Frag) (H:Hp) (B:BS):D → V → Prop
 | .non,v=>v = .non
 | .bl b,v=>v = .bl b
 | .int i,v=>v = .int i
 | .str x,v=>v = .str x
 | .tup ds,v=>∃ a xs,v = .ref a ∧ SqT' K H B a xs ∧ Rps K H B ds xs
 | .lst ds,v=>∃ a xs,v = .ref a ∧ SqL' K H B a xs ∧ Rps K H B ds xs
 | .dct ks ds,v=>∃ a xs,v = .ref a ∧ ¬ B a ∧ H a = some (dOb ks xs) ∧ dLn ks = xs.length ∧ Rps K H B ds xs
noncomputable def Rps (K:W.Frag) (H:Hp) (B:BS):List D → List V → Prop
 | [],xs=>xs = []
 | d :: ds,xs=>∃ x r,xs = x :: r ∧ Rp K H B d x ∧ Rps K H B ds r
end
mutual
theorem Rp.mono {K:W.Frag} {H H':Hp} {B B':BS} (g:Gr H H' B B'):∀ {d:D} {v:V},Rp K H B d v → Rp K H' B' d v
 | .non,_,h=>by unfold Rp at h ⊢; exact h
 | .bl _,_,h=>by unfold Rp at h ⊢; exact h
 | .int _,_,h=>by unfold Rp at h ⊢; exact h
 | .str _,_,h=>by unfold Rp at h ⊢; exact h
 | .tup ds,_,h=>by
  unfold Rp at h ⊢
  obtain ⟨a,xs,e,q,r⟩:=h
  exact ⟨a,xs,e,q.mono g,Rps.mono g r⟩
 | .lst ds,_,h=>by
  unfold Rp at h ⊢
  obtain ⟨a,xs,e,q,r⟩:=h
  exact ⟨a,xs,e,q.mono g,Rps.mono g r⟩
 | .dct ks ds,_,h=>by
  unfold Rp at h ⊢
  obtain ⟨a,xs,e,n,q,l,r⟩:=h
  exact ⟨a,xs,e,(g _ _ n q).1,(g _ _ n q).2,l,Rps.mono g r⟩
theorem Rps.mono {K:W.Frag} {H H':Hp} {B B':BS} (g:Gr H H' B B'):∀ {ds:List D} {xs:List V},Rps K H B ds xs → Rps K H' B' ds xs
 | [],_,h=>by unfold Rps at h ⊢; exact h
 | d :: ds,_,h=>by
  unfold Rps at h ⊢
  obtain ⟨x,r,e,h1,h2⟩:=h
  exact ⟨x,r,e,Rp.mono g h1,Rps.mono g h2⟩
end
section
variable {K:W.Frag} {H H':Hp} {B B':BS} {v:V}
theorem rp_non:Rp K H B .non v = (v = .non):=by unfold Rp; rfl
theorem rp_bl {b:Bool}:Rp K H B (.bl b) v = (v = .bl b):=by unfold Rp; rfl
theorem rp_int {i:Int}:Rp K H B (.int i) v = (v = .int i):=by unfold Rp; rfl
theorem rp_str {x:Str}:Rp K H B (.str x) v = (v = .str x):=by unfold Rp; rfl
theorem rp_tup {ds:List D}:Rp K H B (.tup ds) v = ∃ a xs,v = .ref a ∧ SqT' K H B a xs ∧ Rps K H B ds xs:=by conv=>lhs; unfold Rp
theorem rp_lst {ds:List D}:Rp K H B (.lst ds) v = ∃ a xs,v = .ref a ∧ SqL' K H B a xs ∧ Rps K H B ds xs:=by conv=>lhs; unfold Rp
theorem rp_dctG {ks:KS} {ds:List D}:Rp K H B (.dct ks ds) v = ∃ a xs,v = .ref a ∧ ¬ B a ∧ H a = some (dOb ks xs) ∧ dLn ks = xs.length ∧ Rps K H B ds xs:=by conv=>lhs; unfold Rp
theorem rp_dct {ks:List Key} {ds:List D}:Rp K H B (.dct (.inl ks) ds) v = ∃ a xs,v = .ref a ∧ ¬ B a ∧ H a = some (.dK (ks.zip xs)) ∧ ks.length = xs.length ∧ Rps K H B ds xs:=rp_dctG
theorem rp_dctT {ks:List (List Key)} {ds:List D}:Rp K H B (.dct (.inr ks) ds) v = ∃ a xs,v = .ref a ∧ ¬ B a ∧ H a = some (.dT (ks.zip xs)) ∧ ks.length = xs.length ∧ Rps K H B ds xs:=rp_dctG
theorem rps_nil {xs:List V}:Rps K H B [] xs = (xs = []):=by unfold Rps; rfl
theorem rps_cons {d:D} {ds:List D} {xs:List V}:Rps K H B (d :: ds) xs = ∃ x r,xs = x :: r ∧ Rp K H B d x ∧ Rps K H B ds r:=by conv=>lhs; unfold Rps
theorem Rps.length:∀ {ds:List D} {xs:List V},Rps K H B ds xs → xs.length = ds.length
 | [],_,h=>by rw [rps_nil] at h; subst h; rfl
 | d :: ds,_,h=>by
  rw [rps_cons] at h
  obtain ⟨x,r,rfl,_,h2⟩:=h
  simp [Rps.length h2]
theorem Rps.get:∀ {ds:List D} {xs:List V} {i:Nat} {d:D},Rps K H B ds xs → ds[i]? = some d → ∃ x,xs[i]? = some x ∧ Rp K H B d x
 | [],_,_,_,_,e=>by simp at e
 | d :: ds,_,0,d',h,e=>by
  rw [rps_cons] at h
  obtain ⟨x,r,rfl,h1,_⟩:=h
  simp at e; subst e
  exact ⟨x,rfl,h1⟩
 | d :: ds,_,i + 1,d',h,e=>by
  rw [rps_cons] at h
  obtain ⟨x,r,rfl,_,h2⟩:=h
  obtain ⟨y,e1,e2⟩:=Rps.get (i:=i) h2 (by simpa using e)
  exact ⟨y,by simpa using e1,e2⟩
theorem Rps.snoc:∀ {ds:List D} {xs:List V} {d:D} {x:V},Rps K H B ds xs → Rp K H B d x → Rps K H B (ds ++ [d]) (xs ++ [x])
 | [],_,_,_,h,r=>by
  rw [rps_nil] at h; subst h
  rw [List.nil_append,List.nil_append,rps_cons]
  exact ⟨_,[],rfl,r,by rw [rps_nil]⟩
 | d :: ds,_,_,_,h,r=>by
  rw [rps_cons] at h
  obtain ⟨y,t,rfl,h1,h2⟩:=h
  rw [List.cons_append,List.cons_append,rps_cons]
  exact ⟨y,_,rfl,h1,Rps.snoc h2 r⟩
theorem Rps.append:∀ {ds es:List D} {xs ys:List V},Rps K H B ds xs → Rps K H B es ys → Rps K H B (ds ++ es) (xs ++ ys)
 | [],_,_,_,h,r=>by rw [rps_nil] at h; subst h; exact r
 | d :: ds,_,_,_,h,r=>by
  rw [rps_cons] at h
  obtain ⟨y,t,rfl,h1,h2⟩:=h
  rw [List.cons_append,List.cons_append,rps_cons]
  exact ⟨y,_,rfl,h1,Rps.append h2 r⟩
theorem Rps.drop:∀ {ds:List D} {xs:List V} (n:Nat),Rps K H B ds xs → Rps K H B (ds.drop n) (xs.drop n)
 | _,_,0,h=>h
 | [],_,n + 1,h=>by rw [rps_nil] at h; subst h; simpa [rps_nil]
 | d :: ds,_,n + 1,h=>by
  rw [rps_cons] at h
  obtain ⟨y,t,rfl,h1,h2⟩:=h
  simpa using Rps.drop n h2
theorem Rps.take:∀ {ds:List D} {xs:List V} (n:Nat),Rps K H B ds xs → Rps K H B (ds.take n) (xs.take n)
 | _,_,0,h=>by simp [rps_nil]
 | [],_,n + 1,h=>by rw [rps_nil] at h; subst h; simp [rps_nil]
 | d :: ds,_,n + 1,h=>by
  rw [rps_cons] at h
  obtain ⟨y,t,rfl,h1,h2⟩:=h
  rw [List.take_succ_cons,List.take_succ_cons,rps_cons]
  exact ⟨y,_,rfl,h1,Rps.take n h2⟩
theorem Rps.same {ds:List D} {xs:List V} (s:Same H H') (h:Rps K H B ds xs):Rps K H' B ds xs:=Rps.mono (Gr.same s) h
theorem Rp.same {d:D} {v:V} (s:Same H H') (h:Rp K H B d v):Rp K H' B d v:=Rp.mono (Gr.same s) h
end
noncomputable def RpO (K:W.Frag) (H:Hp) (B:BS) (d:D) (a:Addr):Prop:=match d with
 | .lst ds=>∃ xs,H a = some (.lst xs) ∧ Rps K H B ds xs
 | .dct ks ds=>∃ xs,H a = some (dOb ks xs) ∧ dLn ks = xs.length ∧ Rps K H B ds xs
 | _=>False
theorem RpO.same {K:W.Frag} {H H':Hp} {B:BS} {d:D} {a:Addr} (s:Same H H') (h:RpO K H B d a):RpO K H' B d a:=by
 cases d <;> try exact h.elim
 ·obtain ⟨xs,e,r⟩:=h; exact ⟨xs,s _ _ e,r.same s⟩
 ·obtain ⟨xs,e,l,r⟩:=h; exact ⟨xs,s _ _ e,l,r.same s⟩
theorem RpO.rp {K:W.Frag} {H:Hp} {B B':BS} {d:D} {a:Addr} (l:∀ a,B' a → B a) (n:¬ B' a) (h:RpO K H B d a):Rp K H B' d (.ref a):=by
 cases d <;> try exact h.elim
 ·obtain ⟨xs,e,r⟩:=h
  rw [rp_lst]
  exact ⟨a,xs,rfl,.inl ⟨n,.inl e⟩,r.mono (Gr.less l)⟩
 ·obtain ⟨xs,e,q,r⟩:=h
  rw [rp_dctG]
  exact ⟨a,xs,rfl,n,e,q,r.mono (Gr.less l)⟩
theorem RpO.live {K:W.Frag} {H:Hp} {B:BS} {d:D} {a:Addr} (h:RpO K H B d a):H a ≠ none:=by
 cases d <;> try exact h.elim
 ·obtain ⟨xs,e,r⟩:=h; rw [e]; exact fun z=>nomatch z
 ·obtain ⟨xs,e,q,r⟩:=h; rw [e]; exact fun z=>nomatch z
noncomputable def RpL (K:W.Frag) (H:Hp) (B:BS) (d:D) (a:Addr):Prop:=match d with
 | .tup es=>∃ ds,es = [.int (a:Int),.lst ds] ∧ ∃ xs,H a = some (.lst xs) ∧ Rps K H B ds xs
 | d=>RpO K H B d a
theorem RpO.toL {K:W.Frag} {H:Hp} {B:BS} {d:D} {a:Addr} (h:RpO K H B d a):RpL K H B d a:=by
 cases d with
 | tup es=>exact (show False from h).elim
 | _=>exact h
theorem RpL.toO {K:W.Frag} {H:Hp} {B:BS} {d:D} {a:Addr} (n:isL d = false) (h:RpL K H B d a):RpO K H B d a:=by
 cases d with
 | tup es=>cases n
 | _=>exact h
theorem RpL.same {K:W.Frag} {H H':Hp} {B:BS} {d:D} {a:Addr} (s:Same H H') (h:RpL K H B d a):RpL K H' B d a:=by
 cases d with
 | tup es=>obtain ⟨ds,q,xs,e,r⟩:=h; exact ⟨ds,q,xs,s _ _ e,r.same s⟩
 | _=>exact (RpO.same s (RpL.toO rfl h)).toL
theorem RpL.rp {K:W.Frag} {H:Hp} {B B':BS} {d:D} {a:Addr} (l:∀ a,B' a → B a) (n:¬ B' a) (h:RpL K H B d a):Rp K H B' (unl d) (.ref a):=by
 cases d with
 | tup es=>obtain ⟨ds,rfl,xs,e,r⟩:=h; exact RpO.rp (d:=.lst ds) l n ⟨xs,e,r⟩
 | _=>exact RpO.rp l n (RpL.toO rfl h)
noncomputable def XcAt (a C:Addr) (od:Option Addr):Heap → Prop:=fun h=>∃ oe,h.get? a = some oe ∧ oe.cls = .ref C ∧ (∀ dx,od = some dx → oe.dict = some dx) ∧ ∃ vs,oe.data = .fields vs
noncomputable def XdAt (H:Hp) (B:BS) (od:Option Addr):Option Int → Prop
 | none=>True
 | some n=>∃ dx,od = some dx ∧ ¬ B dx ∧ H dx = some (.xd [("at",.int n)])
noncomputable def XcR (K:W.Frag) (H:Hp) (B:BS) (c:Str) (n:Option Int) (a:Addr):Prop:=∃ C od,¬ B a ∧ H a = some (.ext (XcAt a C od)) ∧ W.nsIn K mainGlobals c = some (some (.ref C)) ∧ XdAt H B od n
theorem XcR.mono {K:W.Frag} {H H':Hp} {B B':BS} {c:Str} {n:Option Int} {a:Addr} (g:Gr H H' B B') (h:XcR K H B c n a):XcR K H' B' c n a:=by
 obtain ⟨C,od,h1,h2,h3,h4⟩:=h
 refine ⟨C,od,(g _ _ h1 h2).1,(g _ _ h1 h2).2,h3,?_⟩
 cases n with
 | none=>trivial
 | some n=>obtain ⟨dx,e,q1,q2⟩:=h4; exact ⟨dx,e,(g _ _ q1 q2).1,(g _ _ q1 q2).2⟩
noncomputable def SlR (K:W.Frag) (H:Hp) (B:BS) (o:Option V):Sl → Prop
 | .un=>True
 | .sh d=>∃ v,o = some v ∧ Rp K H B d v
 | .ow d=>∃ a,o = some (.ref a) ∧ B a ∧ RpL K H B d a
 | .ex c n=>∃ a,o = some (.ref a) ∧ XcR K H B c n a
theorem Pd.get {α β:Type} {F:α → β → Prop}:∀ {l:List α} {m:List β} {i:Nat} {b:β},Paired F l m → m[i]? = some b → ∃ a,l[i]? = some a ∧ F a b
 | _,_,_,_,.nil,e=>by simp at e
 | _,_,0,_,.cons r _,e=>by simp at e; subst e; exact ⟨_,rfl,r⟩
 | _,_,i + 1,b,.cons _ t,e=>by
  obtain ⟨u,h1,h2⟩:=Pd.get (i:=i) (b:=b) t (by simpa using e)
  exact ⟨u,by simpa using h1,h2⟩
theorem Pd.imp {α β:Type} {F G:α → β → Prop} (h:∀ a b,F a b → G a b):∀ {l:List α} {m:List β},Paired F l m → Paired G l m
 | _,_,.nil=>.nil
 | _,_,.cons r t=>.cons (h _ _ r) (Pd.imp h t)
theorem Pd.set {α β:Type} {F:α → β → Prop} {a:α} {b:β} (r:F a b):∀ {l:List α} {m:List β} (i:Nat),Paired F l m → Paired F (l.set i a) (m.set i b)
 | _,_,_,.nil=>.nil
 | _,_,0,.cons _ t=>.cons r t
 | _,_,i + 1,.cons q t=>.cons q (Pd.set r i t)
theorem Pd.app {α β:Type} {F:α → β → Prop}:∀ {l l':List α} {m m':List β},Paired F l m → Paired F l' m' → Paired F (l ++ l') (m ++ m')
 | _,_,_,_,.nil,s=>s
 | _,_,_,_,.cons r t,s=>.cons r (Pd.app t s)
structure Env (K:W.Frag) (H:Hp) (B:BS) (σ:St) (δ:Ds):Prop where
 all:Paired (SlR K H B) σ δ
 bad:∀ a,B a → H a ≠ none
 own:∀ (i j:Nat) (a:Addr) (ds es:D),δ[i]? = some (.ow ds) → δ[j]? = some (.ow es) → σ[i]? = some (some (.ref a)) → σ[j]? = some (some (.ref a)) → i = j
section
variable {K:W.Frag} {H H':Hp} {B:BS} {σ σ':St} {δ δ':Ds}
theorem SlR.same {o:Option V} {s:Sl} (q:Same H H') (h:SlR K H B o s):SlR K H' B o s:=by
 cases s with
 | un=>trivial
 | sh d=>obtain ⟨v,e,r⟩:=h; exact ⟨v,e,r.same q⟩
 | ow d=>obtain ⟨a,e,b,r⟩:=h; exact ⟨a,e,b,r.same q⟩
 | ex c n=>obtain ⟨a,e,r⟩:=h; exact ⟨a,e,r.mono (Gr.same q)⟩
theorem Env.same (q:Same H H') (e:Env K H B σ δ):Env K H' B σ δ :=
 ⟨Pd.imp (fun _ _ h=>h.same q) e.all,(fun a b z=>by
  cases h:H a with
  | none=>exact e.bad a b h
  | some o=>rw [q a o h] at z; cases z),e.own⟩
theorem Env.free (e:Env K H B σ δ) {p:Addr} (h:H p = none):¬ B p:=fun z=>e.bad p z h
theorem Env.get (e:Env K H B σ δ) {i:Nat} {d:D} (h:δ[i]? = some (.sh d)):∃ v,σ[i]? = some (some v) ∧ Rp K H B d v:=by
 obtain ⟨o,h1,v,rfl,r⟩:=Pd.get e.all h
 exact ⟨v,h1,r⟩
theorem Env.set (e:Env K H B σ δ) (i:Nat) {d:D} {v:V} (r:Rp K H B d v):Env K H B (σ.set i (some v)) (δ.set i (.sh d)):=by
 refine ⟨Pd.set ⟨v,rfl,r⟩ i e.all,e.bad,fun j k a ds es h1 h2 h3 h4=>?_⟩
 have hj:j ≠ i:=by
  rintro rfl
  by_cases hl:j < δ.length
  ·rw [List.getElem?_set_self hl] at h1; cases h1
  ·rw [List.getElem?_eq_none (by simpa using hl)] at h1; cases h1
 have hk:k ≠ i:=by
  rintro rfl
  by_cases hl:k < δ.length
  ·rw [List.getElem?_set_self hl] at h2; cases h2
  ·rw [List.getElem?_eq_none (by simpa using hl)] at h2; cases h2
 rw [List.getElem?_set_ne (Ne.symm hj)] at h1 h3
 rw [List.getElem?_set_ne (Ne.symm hk)] at h2 h4
 exact e.own j k a ds es h1 h2 h3 h4
end
theorem same_upd {H:Hp} {p:Addr} {o:HO} (h:H p = none):Same H (upd H p o):=fun b u e=>by rw [upd_ne (ne_of_none e h)]; exact e
noncomputable def tD (K:W.Frag) (B:BS) (δ:Ds) (g:Ds → Option D):TE:=fun σ H Q=>∃ d,Env K H B σ δ ∧ g δ = some d ∧ ∀ v H',Same H H' → Rp K H' B d v → Q v H'
structure PD (X:Cx) (e:Expr) (g:Ds → Option D):Prop where
 mk :: go:∀ B δ,PE X e (tD X.K B δ g)
instance {X:Cx} {e:Expr} {g:Ds → Option D}:CoeFun (PD X e g) (fun _=>∀ B δ,PE X e (tD X.K B δ g)):=⟨PD.go⟩
noncomputable def tDT (K:W.Frag) (B:BS) (δ:Ds) (g:Ds → Option Bool):TT:=fun σ H Q=>∃ b,Env K H B σ δ ∧ g δ = some b ∧ ∀ H',Same H H' → Q b H'
structure PTD (X:Cx) (e:Expr) (g:Ds → Option Bool):Prop where
 mk :: go:∀ B δ,PT X e (tDT X.K B δ g)
instance {X:Cx} {e:Expr} {g:Ds → Option Bool}:CoeFun (PTD X e g) (fun _=>∀ B δ,PT X e (tDT X.K B δ g)):=⟨PTD.go⟩
structure PWD (X:Cx) (e:Expr) (g:Ds → Option Bool):Prop where
 mk :: go:∀ B δ,PW X e (tDT X.K B δ g)
instance {X:Cx} {e:Expr} {g:Ds → Option Bool}:CoeFun (PWD X e g) (fun _=>∀ B δ,PW X e (tDT X.K B δ g)):=⟨PWD.go⟩
noncomputable def tDA (K:W.Frag) (B:BS) (δ:Ds) (g:Ds → Option (List D)):TA:=fun σ H Q=>∃ ds,Env K H B σ δ ∧ g δ = some ds ∧ ∀ vs H',Same H H' → Rps K H' B ds vs → Q vs H'
structure PDA (X:Cx) (es:List Expr) (g:Ds → Option (List D)):Prop where
 mk :: go:∀ B δ,PA X es (tDA X.K B δ g)
instance {X:Cx} {es:List Expr} {g:Ds → Option (List D)}:CoeFun (PDA X es g) (fun _=>∀ B δ,PA X es (tDA X.K B δ g)):=⟨PDA.go⟩
theorem asB_eq {d:D} {b:Bool} (h:asB d = some b):d = .bl b:=by
 cases d <;> simp [asB] at h
 subst h; rfl
noncomputable def Op2 (K:W.Frag) (r:R2) (f:D → D → Option D):Prop:=∀ (H:Hp) (B:BS) (x y:V) (dx dy d:D) (Q:VK),(∀ a,B a → H a ≠ none) → Rp K H B dx x → Rp K H B dy y → f dx dy = some d → (∀ v H',Same H H' → Rp K H' B d v → Q v H') → r x y H Q
noncomputable def FnR (K:W.Frag) (r:List V → Hp → VK → Prop) (f:List D → Option D):Prop:=∀ (H:Hp) (B:BS) (xs:List V) (ds:List D) (d:D) (Q:VK),(∀ a,B a → H a ≠ none) → Rps K H B ds xs → f ds = some d → (∀ v H',Same H H' → Rp K H' B d v → Q v H') → r xs H Q
section
variable {X:Cx} {e a b c:Expr} {es:List Expr} {pos:Pos} {g ga gb:Ds → Option D} {gA:Ds → Option (List D)} {gt gu:Ds → Option Bool} {rest:List Expr}
theorem _root_.L2.PE.imp {t t':TE} (h:PE X e t) (q:∀ σ H Q,t' σ H Q → t σ H Q):PE X e t':=fun pins s σ H Q I z=>h pins s σ H Q I (q σ H Q z)
theorem _root_.L2.PT.imp {t t':TT} (h:PT X e t) (q:∀ σ H Q,t' σ H Q → t σ H Q):PT X e t':=fun pins s σ H Q I z=>h pins s σ H Q I (q σ H Q z)
theorem _root_.L2.PW.imp {t t':TT} (h:PW X e t) (q:∀ σ H Q,t' σ H Q → t σ H Q):PW X e t':=fun w pins s σ H Q I z=>h w pins s σ H Q I (q σ H Q z)
theorem _root_.L2.PA.imp {t t':TA} (h:PA X es t) (q:∀ σ H Q,t' σ H Q → t σ H Q):PA X es t':=fun p pins s σ H Q I z=>h p pins s σ H Q I (q σ H Q z)
theorem gv_eq {i:Nat} {δ:Ds} {d:D} (h:gv i δ = some d):δ[i]? = some (.sh d):=by
 unfold gv at h
 split at h
 ·cases h; assumption
 ·cases h
theorem pd_var (i:Nat) {x:Str} (hN:X.N[i]? = some x:=by rfl) (hv:Vis X.env.scope x:=by first | exact Or.inl rfl | exact Or.inr (Or.inl rfl) | exact Or.inr (Or.inr rfl)) (hd:(x == ("__debug__" : Str)) = false:=by decide)
  (hcd:(x == ("__classdict__" : Str)) = false:=by decide):PD X (.Name x pos) (gv i):=.mk fun B δ=>(pe_var (i:=i) hN hv hd hcd).imp fun σ H Q ⟨d,en,h,k⟩=>by
 obtain ⟨v,e,r⟩:=en.get (gv_eq h)
 exact ⟨v,e,k v H (Same.refl H) r⟩
theorem pd_int {i:Int} {j:Nat}:PD X (.Constant (.int i) j pos) (gc (.int i)):=.mk fun B δ=>pe_int.imp fun σ H Q ⟨d,en,h,k⟩=>by cases h; exact k _ H (Same.refl H) (by rw [rp_int])
theorem pd_bl {i:Bool} {j:Nat}:PD X (.Constant (.bool i) j pos) (gc (.bl i)):=.mk fun B δ=>pe_bl.imp fun σ H Q ⟨d,en,h,k⟩=>by cases h; exact k _ H (Same.refl H) (by rw [rp_bl])
theorem pd_non {j:Nat}:PD X (.Constant .none j pos) (gc .non):=.mk fun B δ=>pe_non.imp fun σ H Q ⟨d,en,h,k⟩=>by cases h; exact k _ H (Same.refl H) (by rw [rp_non])
theorem pd_str {x:Str} {j:Nat}:PD X (.Constant (.str x) j pos) (gc (.str x)):=.mk fun B δ=>pe_str.imp fun σ H Q ⟨d,en,h,k⟩=>by cases h; exact k _ H (Same.refl H) (by rw [rp_str])
theorem o2_red {K:W.Frag} {r:R2} {f:D → D → Option D} (hf:Op2 K r f) {B:BS} {δ:Ds} {σ:St} {H:Hp} {Q:VK} (h:tD K B δ (o2 ga gb f) σ H Q):tOp r (tD K B δ ga) (tD K B δ gb) σ H Q:=by
 obtain ⟨d,en,h,k⟩:=h
 unfold o2 at h
 cases e1:ga δ with
 | none=>rw [e1] at h; cases h
 | some x =>
  cases e2:gb δ with
  | none=>rw [e1,e2] at h; cases h
  | some y =>
   rw [e1,e2] at h
   refine ⟨x,en,e1,fun v1 H1 s1 r1=>⟨y,en.same s1,e2,fun v2 H2 s2 r2=>?_⟩⟩
   exact hf H2 B v1 v2 x y d Q ((en.same s1).same s2).bad (r1.same s2) r2 h fun v H' s r=>k v H' ((s1.trans s2).trans s) r
theorem pd_op {op:Operator} {r:R2} {f:D → D → Option D} (ho:OpR X (binaryOp op) r) (hf:Op2 X.K r f) (ha:PD X a ga) (hb:PD X b gb):PD X (.BinOp a op b pos) (o2 ga gb f):=.mk fun B δ=>(pe_op ho (ha B δ) (hb B δ)).imp fun σ H Q h=>o2_red hf h
theorem pd_cmp {op:CmpOp} {r:R2} {f:D → D → Option D} (ho:OpR X (compareOp op) r) (hf:Op2 X.K r f) (ha:PD X a ga) (hb:PD X b gb) (hm:behindInMarks op b = false:=by first | exact nomark _ | with_unfolding_all rfl):PD X (.Compare a [op] [b] pos) (o2 ga gb f) :=
 .mk fun B δ=>(pe_cmpR ho (ha B δ) (hb B δ) hm).imp fun σ H Q h=>o2_red hf h
theorem pd_ix {r:R2} {f:D → D → Option D} (ho:IxR X r) (hf:Op2 X.K r f) (ha:PD X a ga) (hb:PD X b gb) (hs:PlainIx b:=by exact fun _ _=>rfl):PD X (.Subscript a b pos) (o2 ga gb f) :=
 .mk fun B δ=>(pe_ix ho (ha B δ) (hb B δ) hs).imp fun σ H Q h=>o2_red hf h
theorem ptd_cmp {op:CmpOp} {r:R2} {f:D → D → Option D} (ho:OpR X (compareOp op) r) (hf:Op2 X.K r f) (ha:PD X a ga) (hb:PD X b gb) (hm:behindInMarks op b = false:=by first | exact nomark _ | with_unfolding_all rfl):PTD X (.Compare a [op] [b] pos) (ob (o2 ga gb f)) :=
 .mk fun B δ=>(pt_cmpR ho (ha B δ) (hb B δ) hm).imp fun σ H Q ⟨t,en,h,k⟩=>by
  unfold ob at h
  cases e:o2 ga gb f δ with
  | none=>rw [e] at h; cases h
  | some d =>
   rw [e] at h
   cases asB_eq h
   exact o2_red hf ⟨_,en,e,fun v H' s r=>⟨t,by rw [rp_bl] at r; exact r,k H' s⟩⟩
theorem ptd_val (h:PD X e g) (he:∀ whole,isTrue e X.env whole = (do let v ← whole; standAt e.pos; holding [v] (truthy v)):=by intro _; rfl):PTD X e (ob g) :=
 .mk fun B δ=>(pt_val (h B δ) he).imp fun σ H Q ⟨t,en,h,k⟩=>by
  unfold ob at h
  cases e:g δ with
  | none=>rw [e] at h; cases h
  | some d =>
   rw [e] at h
   cases asB_eq h
   exact ⟨_,en,e,fun v H' s r=>⟨t,by rw [rp_bl] at r; exact r,k H' s⟩⟩
theorem ptd_not (h:PTD X a gt):PTD X (.UnaryOp .Not a pos) (tNotG gt) :=
 .mk fun B δ=>(pt_not (h B δ)).imp fun σ H Q ⟨t,en,h,k⟩=>by
  unfold tNotG at h
  cases e:gt δ with
  | none=>rw [e] at h; cases h
  | some b =>
   rw [e] at h
   cases h
   exact ⟨b,en,e,fun H' s=>k H' s⟩
theorem pwd_and1 (h:PTD X a gt):PWD X (.BoolOp .And [a] pos) gt:=.mk fun B δ=>pw_and1 (h B δ)
theorem pwd_or1 (h:PTD X a gt):PWD X (.BoolOp .Or [a] pos) gt:=.mk fun B δ=>pw_or1 (h B δ)
theorem pwd_and (ha:PTD X a gt) (hb:PWD X (.BoolOp .And (b :: rest) pos) gu):PWD X (.BoolOp .And (a :: b :: rest) pos) (tAndG gt gu) :=
 .mk fun B δ=>(pw_and (ha B δ) (hb B δ)).imp fun σ H Q ⟨t,en,h,k⟩=>by
  unfold tAndG at h
  cases e:gt δ with
  | none=>rw [e] at h; cases h
  | some b =>
   rw [e] at h
   refine ⟨b,en,e,fun H' s=>?_⟩
   cases b with
   | true=>exact ⟨t,en.same s,h,fun H'' s'=>k H'' (s.trans s')⟩
   | false =>
    simp at h
    subst h
    rw [if_neg Bool.false_ne_true]
    exact k H' s
theorem pwd_or (ha:PTD X a gt) (hb:PWD X (.BoolOp .Or (b :: rest) pos) gu):PWD X (.BoolOp .Or (a :: b :: rest) pos) (tOrG gt gu) :=
 .mk fun B δ=>(pw_or (ha B δ) (hb B δ)).imp fun σ H Q ⟨t,en,h,k⟩=>by
  unfold tOrG at h
  cases e:gt δ with
  | none=>rw [e] at h; cases h
  | some b =>
   rw [e] at h
   refine ⟨b,en,e,fun H' s=>?_⟩
   cases b with
   | false=>exact ⟨t,en.same s,h,fun H'' s'=>k H'' (s.trans s')⟩
   | true =>
    simp at h
    subst h
    rw [if_pos rfl]
    exact k H' s
theorem PWD.pt (h:PWD X e gt):PTD X e gt:=.mk fun B δ=>(h B δ).pt
theorem pd_one {op} (h:PD X a g):PD X (.BoolOp op [a] pos) g:=.mk fun B δ=>pe_one (h B δ)
theorem pd_and (ha:PD X a ga) (hb:PD X (.BoolOp .And (b :: rest) pos) gb):PD X (.BoolOp .And (a :: b :: rest) pos) (andG ga gb) :=
 .mk fun B δ=>(pe_and (ha B δ) (hb B δ)).imp fun σ H Q ⟨d,en,h,k⟩=>by
  unfold andG ob at h
  cases e:ga δ with
  | none=>rw [e] at h; cases h
  | some x =>
   rw [e] at h
   refine ⟨x,en,e,fun v H' s r=>?_⟩
   cases x with
   | bl c =>
    rw [rp_bl] at r
    refine ⟨c,r,?_⟩
    cases c with
    | true=>exact ⟨d,en.same s,h,fun v H'' s'=>k v H'' (s.trans s')⟩
    | false =>
     simp [asB] at h
     rw [if_neg Bool.false_ne_true]
     exact k _ H' s (by rw [← h,rp_bl])
   | _=>simp [asB] at h
theorem pda_nil:PDA X [] nilA:=.mk fun B δ=>pa_nil.imp fun σ H Q ⟨ds,en,h,k⟩=>by cases h; exact k [] H (Same.refl H) (by rw [rps_nil])
theorem pda_cons (ha:PD X e g) (hr:PDA X es gA) (hs:starEach (e :: es) X.env = (false,eval e X.env) :: starEach es X.env:=by rfl):PDA X (e :: es) (consA g gA) :=
 .mk fun B δ=>(pa_cons (ha B δ) (hr B δ) hs).imp fun σ H Q ⟨ds,en,h,k⟩=>by
  unfold consA at h
  cases e1:g δ with
  | none=>rw [e1] at h; cases h
  | some d =>
   cases e2:gA δ with
   | none=>rw [e1,e2] at h; cases h
   | some es' =>
    rw [e1,e2] at h
    cases h
    refine ⟨d,en,e1,fun v H1 s1 r1=>⟨es',en.same s1,e2,fun vs H2 s2 r2=>k _ H2 (s1.trans s2) ?_⟩⟩
    rw [rps_cons]
    exact ⟨v,vs,rfl,r1.same s2,r2⟩
theorem pd_tup {x1} (h:PDA X es gA):PD X (.Tuple es x1 pos) (tupG gA) :=
 .mk fun B δ=>(pe_tup (h B δ)).imp fun σ H Q ⟨d,en,h,k⟩=>by
  unfold tupG at h
  cases e1:gA δ with
  | none=>rw [e1] at h; cases h
  | some ds =>
   rw [e1] at h
   by_cases hl:ds.length ≤ sizeLine
   ·simp only [Option.bind_some,if_pos hl] at h
    cases h
    refine ⟨ds,en,e1,fun vs H1 s1 r1=>⟨by rw [r1.length]; exact hl,fun p hp=>k _ _ (s1.trans (same_upd hp)) ?_⟩⟩
    rw [rp_tup]
    exact ⟨p,vs,rfl,⟨(en.same s1).free hp,upd_same⟩,r1.same (same_upd hp)⟩
   ·simp only [Option.bind_some,if_neg hl] at h
    cases h
theorem pd_lst (h:PDA X es gA):PD X (.List es pos) (lstG gA) :=
 .mk fun B δ=>(pe_lst (h B δ)).imp fun σ H Q ⟨d,en,h,k⟩=>by
  unfold lstG at h
  cases e1:gA δ with
  | none=>rw [e1] at h; cases h
  | some ds =>
   rw [e1] at h
   by_cases hl:ds.length ≤ sizeLine
   ·simp only [Option.bind_some,if_pos hl] at h
    cases h
    refine ⟨ds,en,e1,fun vs H1 s1 r1=>⟨by rw [r1.length]; exact hl,fun p hp=>k _ _ (s1.trans (same_upd hp)) ?_⟩⟩
    rw [rp_lst]
    exact ⟨p,vs,rfl,.inl ⟨(en.same s1).free hp,.inl upd_same⟩,r1.same (same_upd hp)⟩
   ·simp only [Option.bind_some,if_neg hl] at h
    cases h
theorem oA_red {K:W.Frag} {r:List V → Hp → VK → Prop} {f:List D → Option D} (hf:FnR K r f) {B:BS} {δ:Ds} {σ:St} {H:Hp} {Q:VK} (h:tD K B δ (oA gA f) σ H Q):tCB r (tDA K B δ gA) σ H Q:=by
 obtain ⟨d,en,h,k⟩:=h
 unfold oA at h
 cases e1:gA δ with
 | none=>rw [e1] at h; cases h
 | some ds =>
  rw [e1] at h
  exact ⟨ds,en,e1,fun vs H1 s1 r1=>hf H1 B vs ds d Q (en.same s1).bad r1 h fun v H' s r=>k v H' (s1.trans s) r⟩
theorem pd_callB {id:String} {x:Str} {p:Pos} {r:List V → Hp → VK → Prop} {f:List D → Option D} (hc:CallR X (.builtin id) r) (hf:FnR X.K r f) (hm:X.mg x = none) (hv:bootBuiltins x = some (.builtin id)) (ha:PDA X (e :: es) gA) (hg:Gl X x:=by rfl)
  (hn:x ≠ "__name__" := by decide) (hdb:(x == ("__debug__" : Str)) = false:=by decide) (he:starEach (e :: es) X.env = (false,eval e X.env) :: starEach es X.env:=by rfl) (hpl:(backTo pos (starEach es X.env)).any (·.1) = false:=by rfl) :
  PD X (.Call (.Name x p) (e :: es) [] pos) (oA gA f):=.mk fun B δ=>(pe_callB hc hg hm hv (ha B δ) hn hdb he hpl).imp fun σ H Q h=>oA_red hf h
theorem pd_callTy {T:String} {x:Str} {p:Pos} {r:List V → Hp → VK → Prop} {f:List D → Option D} (hc:CallR X (.type T) r) (hf:FnR X.K r f) (hm:X.mg x = none) (hv:bootBuiltins x = some (.type T)) (ha:PDA X (e :: es) gA) (hg:Gl X x:=by rfl)
  (hn:x ≠ "__name__" := by decide) (hdb:(x == ("__debug__" : Str)) = false:=by decide) (he:starEach (e :: es) X.env = (false,eval e X.env) :: starEach es X.env:=by rfl) (hpl:(backTo pos (starEach es X.env)).any (·.1) = false:=by rfl) :
  PD X (.Call (.Name x p) (e :: es) [] pos) (oA gA f):=.mk fun B δ=>(pe_callTy hc hg hm hv (ha B δ) hn hdb he hpl).imp fun σ H Q h=>oA_red hf h
noncomputable def spD (K:W.Frag) (f:List D → Option D):Sp:=fun vs H Q _=>∃ (B:BS) (ds:List D) (d:D),(∀ a,B a → H a ≠ none) ∧ Rps K H B ds vs ∧ f ds = some d ∧ ∀ v H',Same H H' → Rp K H' B d v → Q v H'
theorem pd_call {k:Nat} {fa:Addr} {fd:FuncData} {ps:List Str} {x:Str} {p:Pos} {f:List D → Option D} (F:FnOk X.prog X.w X.K X.mg X.base CX0 k fa fd ps (spD X.K f)) (hr:Room k X.A) (hm:X.mg x = some (.ref fa)) (hk:W.keepIn X.K (.ref fa) = true) (hb:Binds X.K fd ps [])
  (ha:PDA X (e :: es) gA) (hg:Gl X x:=by rfl) (hdb:(x == ("__debug__" : Str)) = false:=by decide) (he:starEach (e :: es) X.env = (false,eval e X.env) :: starEach es X.env:=by rfl) (hpl:(backTo pos (starEach es X.env)).any (·.1) = false:=by rfl) :
  PD X (.Call (.Name x p) (e :: es) [] pos) (oA gA f):=.mk fun B δ=>(pe_call (E:=E0) F hr hg hm hk hb .nil pass0 (ha B δ) hdb he hpl).imp fun σ H Q h=>by
 obtain ⟨d,en,h,k⟩:=h
 unfold oA at h
 cases e1:gA δ with
 | none=>rw [e1] at h; cases h
 | some ds =>
  rw [e1] at h
  refine ⟨ds,en,e1,fun vs H1 s1 r1=>?_⟩
  show spD X.K f (vs ++ []) H1 Q E0
  rw [List.append_nil]
  exact ⟨B,ds,d,(en.same s1).bad,r1,h,fun v H' s r=>k v H' (s1.trans s) r⟩
end
end DL
namespace DL
open PySem PySem.Spec PyProof.Rows L2
structure EnvS (K:W.Frag) (H₀:Hp) (B₀:BS) (H:Hp) (σ:St) (δ:Ds):Prop where
 same:Same H₀ H
 ex:∃ B:BS,(∀ a,B₀ a → B a) ∧ (∀ a,B a → B₀ a ∨ H₀ a = none) ∧ Env K H B σ δ
 fr:∀ (i:Nat) (ds:D) (a:Addr),δ[i]? = some (.ow ds) → σ[i]? = some (some (.ref a)) → H₀ a = none
 b0:∀ a,B₀ a → H₀ a ≠ none
noncomputable def ResK (K:W.Frag) (H₀:Hp) (B₀:BS) (D:Ends):Res → Prop
 | .nx δ=>∀ σ H,EnvS K H₀ B₀ H σ δ → D.nx σ H
 | .rt d=>∀ v H,Same H₀ H → Rp K H B₀ d v → D.rt v H
 | .bk δ=>∀ σ H,EnvS K H₀ B₀ H σ δ → D.bk σ H
 | .ct δ=>∀ σ H,EnvS K H₀ B₀ H σ δ → D.ct σ H
 | .rf d=>∀ p H,H₀ p = none → Same H₀ H → RpL K H (fun a=>B₀ a ∨ a = p) d p → D.rt (.ref p) H
noncomputable def tDS (K:W.Frag) (H₀:Hp) (B₀:BS) (δ:Ds) (G:Ds → Option Res):TS:=fun D σ H=>∃ r,EnvS K H₀ B₀ H σ δ ∧ G δ = some r ∧ ResK K H₀ B₀ D r
structure PSD (X:Cx) (st:Stmt) (G:Ds → Option Res):Prop where
 mk :: go:∀ H₀ B₀ δ,PS X st (tDS X.K H₀ B₀ δ G)
instance {X:Cx} {st:Stmt} {G:Ds → Option Res}:CoeFun (PSD X st G) (fun _=>∀ H₀ B₀ δ,PS X st (tDS X.K H₀ B₀ δ G)):=⟨PSD.go⟩
structure PSsD (X:Cx) (st:List Stmt) (G:Ds → Option Res):Prop where
 mk :: go:∀ H₀ B₀ δ,PSs X st (tDS X.K H₀ B₀ δ G)
instance {X:Cx} {st:List Stmt} {G:Ds → Option Res}:CoeFun (PSsD X st G) (fun _=>∀ H₀ B₀ δ,PSs X st (tDS X.K H₀ B₀ δ G)):=⟨PSsD.go⟩
section
variable {K:W.Frag} {H₀ H H':Hp} {B₀:BS} {σ:St} {δ:Ds}
theorem EnvS.grow (e:EnvS K H₀ B₀ H σ δ) (s:Same H H'):EnvS K H₀ B₀ H' σ δ:=⟨e.same.trans s,let ⟨B,b1,b2,en⟩:=e.ex; ⟨B,b1,b2,en.same s⟩,e.fr,e.b0⟩
end
structure Wr (idx:List Nat) (σ σ':St) (δ δ':Ds):Prop where
 len:σ'.length = σ.length
 oth:∀ j,j ∉ idx → σ'[j]? = σ[j]? ∧ δ'[j]? = δ[j]?
 own:∀ j ∈ idx,∀ ds,δ'[j]? ≠ some (.ow ds)
noncomputable def tDG (K:W.Frag) (idx:List Nat) (f:D → Ds → Option Ds) (B:BS) (d:D) (δ:Ds):TG:=fun v σ H Q=>∃ δ',Rp K H B d v ∧ Env K H B σ δ ∧ f d δ = some δ' ∧ ∀ σ',Wr idx σ σ' δ δ' → Env K H B σ' δ' → Q σ' H
structure PGD (X:Cx) (tg:Expr) (idx:List Nat) (f:D → Ds → Option Ds):Prop where
 mk :: go:∀ B d δ,PG X tg (tDG X.K idx f B d δ)
instance {X:Cx} {tg:Expr} {idx:List Nat} {f:D → Ds → Option Ds}:CoeFun (PGD X tg idx f) (fun _=>∀ B d δ,PG X tg (tDG X.K idx f B d δ)):=⟨PGD.go⟩
theorem _root_.L2.PG.imp {X:Cx} {tg:Expr} {t t':TG} (h:PG X tg t) (q:∀ v σ H Q,t' v σ H Q → t v σ H Q):PG X tg t':=fun pins s σ H v u Q I r z=>h pins s σ H v u Q I r (q v σ H Q z)
theorem wr_set {σ:St} {δ:Ds} {i:Nat} {v:V} {d:D}:Wr [i] σ (σ.set i (some v)) δ (δ.set i (.sh d)):=by
 refine ⟨by simp,fun j hj=>?_,fun j hj ds h=>?_⟩
 ·have:j ≠ i:=by simpa using hj
  rw [List.getElem?_set_ne (Ne.symm this),List.getElem?_set_ne (Ne.symm this)]
  exact ⟨rfl,rfl⟩
 ·have:j = i:=by simpa using hj
  subst this
  by_cases hl:j < δ.length
  ·rw [List.getElem?_set_self hl] at h; cases h
  ·rw [List.getElem?_eq_none (by simpa using hl)] at h; cases h
theorem pgd_name (i:Nat) {X:Cx} {x:Str} {pos:Pos} (hN:X.N.Nodup) (hi:X.N[i]? = some x:=by rfl) (hx:Loc X.env.scope x:=by first | exact Or.inl rfl | exact Or.inr rfl)
  (hf:X.fn x = true ∨ X.env.scope.names.lookup x = some .local:=by first | exact .inl rfl | exact .inr rfl | assumption):PGD X (.Name x pos) [i] (gN i):=.mk fun B d δ=>(pg_name (i:=i) hN hi hx hf).imp fun v σ H Q ⟨δ',r,en,e,k⟩=>by
 cases e
 exact k _ wr_set (en.set i r)
section
variable {X:Cx} {e tg:Expr} {st:Stmt} {rest:List Stmt} {pos:Pos} {g:Ds → Option D} {G G1 G2 Ga Gb:Ds → Option Res} {gt:Ds → Option Bool} {c:Expr} {as bs body:List Stmt}
theorem pssd_nil:PSsD X [] nilD:=.mk fun H₀ B₀ δ pins s σ H D I ⟨r,en,e,k⟩=>by
 cases e
 exact pss_nil pins s σ H D I (k σ H en)
theorem pssd_cons (h1:PSD X st G1) (h2:PSsD X rest G2):PSsD X (st :: rest) (seqD G1 G2):=.mk fun H₀ B₀ δ pins s σ H D I ⟨r,en,e,k⟩=>by
 unfold seqD at e
 cases e1:G1 δ with
 | none=>rw [e1] at e; cases e
 | some r1 =>
  rw [e1] at e
  cases r1 with
  | nx δ'=>exact pss_cons (h1 H₀ B₀ δ) (h2 H₀ B₀ δ') pins s σ H D I ⟨_,en,e1,fun σ' H' en'=>⟨r,en',e,k⟩⟩
  | rt d=>cases e; exact pss_cons (h1 H₀ B₀ δ) pss_never pins s σ H D I ⟨_,en,e1,k⟩
  | bk δ'=>cases e; exact pss_cons (h1 H₀ B₀ δ) pss_never pins s σ H D I ⟨_,en,e1,k⟩
  | ct δ'=>cases e; exact pss_cons (h1 H₀ B₀ δ) pss_never pins s σ H D I ⟨_,en,e1,k⟩
  | rf d=>cases e; exact pss_cons (h1 H₀ B₀ δ) pss_never pins s σ H D I ⟨_,en,e1,k⟩
theorem psd_ret (h:PD X e g):PSD X (.Return (some e) pos) (retD g):=.mk fun H₀ B₀ δ pins s σ H D I ⟨r,en,e1,k⟩=>by
 unfold retD at e1
 obtain ⟨B,b1,b2,env⟩:=en.ex
 cases e2:g δ with
 | none=>rw [e2] at e1; cases e1
 | some d =>
  rw [e2] at e1
  cases e1
  exact ps_ret (h B δ) pins s σ H D I ⟨d,env,e2,fun v H' s' r=>k v H' (en.same.trans s') (r.mono (Gr.less b1))⟩
theorem EnvS.wr {K:W.Frag} {H₀ H H':Hp} {B₀ B:BS} {σ σ':St} {δ δ':Ds} {idx:List Nat} (e:EnvS K H₀ B₀ H σ δ) (b1:∀ a,B₀ a → B a) (b2:∀ a,B a → B₀ a ∨ H₀ a = none) (s:Same H H') (w:Wr idx σ σ' δ δ') (en:Env K H' B σ' δ'):EnvS K H₀ B₀ H' σ' δ':=by
 refine ⟨e.same.trans s,⟨B,b1,b2,en⟩,fun i ds a h1 h2=>?_,e.b0⟩
 by_cases hi:i ∈ idx
 ·exact absurd h1 (w.own i hi ds)
 ·rw [(w.oth i hi).2] at h1
  rw [(w.oth i hi).1] at h2
  exact e.fr i ds a h1 h2
theorem psd_asg {idx:List Nat} {f:D → Ds → Option Ds} (h:PD X e g) (hg:PGD X tg idx f) (hs:swapsWithSole [tg] e pos.line X.env = pure false:=by rfl) (hw:swappedStores [tg] e X.env = pure none:=by rfl)
  (h1:(assignEach [tg] X.env).map (·.2) = [assign tg X.env]:=by rfl):PSD X (.Assign [tg] e pos) (setD f g):=.mk fun H₀ B₀ δ pins s σ H D I ⟨r,en,e1,k⟩=>by
 unfold setD at e1
 obtain ⟨B,b1,b2,env⟩:=en.ex
 cases e2:g δ with
 | none=>rw [e2] at e1; cases e1
 | some d =>
  rw [e2] at e1
  simp only [Option.bind_some] at e1
  cases e3:f d δ with
  | none=>rw [e3] at e1; cases e1
  | some δ' =>
   rw [e3] at e1
   cases e1
   exact ps_asg (h B δ) (hg B d δ) hs hw h1 pins s σ H D I ⟨d,env,e2,fun v H' s' r=>⟨δ',r,env.same s',e3,fun σ' w en'=>k σ' H' (en.wr b1 b2 s' w en')⟩⟩
theorem psd_if (hc:PTD X c gt) (ha:PSsD X as Ga) (hb:PSsD X bs Gb):PSD X (.If c as bs pos) (ifD gt Ga Gb):=.mk fun H₀ B₀ δ pins s σ H D I ⟨r,en,e1,k⟩=>by
 unfold ifD at e1
 obtain ⟨B,b1,b2,env⟩:=en.ex
 cases e2:gt δ with
 | none=>rw [e2] at e1; cases e1
 | some t =>
  rw [e2] at e1
  refine ps_if (hc B δ) (ha H₀ B₀ δ) (hb H₀ B₀ δ) pins s σ H D I ⟨t,env,e2,fun H' s'=>?_⟩
  cases t with
  | true=>exact ⟨r,en.grow s',e1,k⟩
  | false=>exact ⟨r,en.grow s',e1,k⟩
structure ItD (K:W.Frag) (B:BS) (J:It) (items:List D) (H₁:Hp):Prop where
 go:∀ i H,Gr H₁ H B B → i < items.length → J.go i H
 yld:∀ i H x H',Gr H₁ H B B → J.yld i H x H' → i < items.length → Same H H' ∧ ∃ d,items[i]? = some d ∧ ∀ B':BS,Gr H₁ H' B B' → (∀ a,B' a → H a ≠ none) → Rp K H' B' d x
 stop:∀ i H,Gr H₁ H B B → items.length ≤ i → J.stop i H
noncomputable def tDI (K:W.Frag) (B:BS) (δ:Ds) (g:Ds → Option (List D)):TI:=fun σ H R=>∃ items,Env K H B σ δ ∧ g δ = some items ∧ ∀ J H',Same H H' → ItD K B J items H' → R J H'
structure PID (X:Cx) (tg e:Expr) (g:Ds → Option (List D)):Prop where
 mk :: go:∀ B δ,PI X tg e (tDI X.K B δ g)
instance {X:Cx} {tg e:Expr} {g:Ds → Option (List D)}:CoeFun (PID X tg e g) (fun _=>∀ B δ,PI X tg e (tDI X.K B δ g)):=⟨PID.go⟩
theorem _root_.L2.PI.imp {t t':TI} (h:PI X tg e t) (q:∀ σ H R,t' σ H R → t σ H R):PI X tg e t':=fun pins s σ H R I z=>h pins s σ H R I (q σ H R z)
theorem pid_list (h:PD X e g):PID X tg e (lstI g):=.mk fun B δ=>L2.PI.imp (pi_list (h B δ)) fun σ H R ⟨items,en,e1,k⟩=>by
 unfold lstI at e1
 cases e2:g δ with
 | none=>rw [e2] at e1; cases e1
 | some d =>
  rw [e2] at e1
  cases d <;> simp [asLst] at e1
  subst e1
  refine ⟨_,en,e2,fun v H' s' r=>?_⟩
  rw [rp_lst] at r
  obtain ⟨a,xs,rfl,q,rs⟩:=r
  refine ⟨a,rfl,⟨xs,q.to⟩,k _ H' s' ⟨fun i H2 g2 hi=>?_,fun i H2 x H3 g2 y hi=>?_,fun i H2 g2 hi=>?_⟩⟩
  ·have:i < xs.length:=by rw [rs.length]; exact hi
   exact ⟨xs,xs[i],(q.mono g2).to,by simp [this]⟩
  ·obtain ⟨e3,y⟩:=y
   obtain ⟨x',e4,r'⟩:=rs.get (i:=i) (d:=_) (List.getElem?_eq_getElem hi)
   have:=y xs (q.mono g2).to
   rw [e4] at this
   cases this
   subst e3
   exact ⟨Same.refl _,_,List.getElem?_eq_getElem hi,fun B' gB _=>r'.mono gB⟩
  ·exact ⟨xs,(q.mono g2).to,by rw [rs.length]; exact hi⟩
theorem pid_tup (h:PD X e g):PID X tg e (tupI g):=.mk fun B δ=>L2.PI.imp (pi_tup (h B δ)) fun σ H R ⟨items,en,e1,k⟩=>by
 unfold tupI at e1
 cases e2:g δ with
 | none=>rw [e2] at e1; cases e1
 | some d =>
  rw [e2] at e1
  cases d <;> simp [asTup] at e1
  subst e1
  refine ⟨_,en,e2,fun v H' s' r=>?_⟩
  rw [rp_tup] at r
  obtain ⟨a,xs,rfl,q,rs⟩:=r
  refine ⟨a,rfl,⟨xs,q.to⟩,k _ H' s' ⟨fun i H2 g2 hi=>?_,fun i H2 x H3 g2 y hi=>?_,fun i H2 g2 hi=>?_⟩⟩
  ·have:i < xs.length:=by rw [rs.length]; exact hi
   exact ⟨xs,xs[i],(q.mono g2).to,by simp [this]⟩
  ·obtain ⟨e3,y⟩:=y
   obtain ⟨x',e4,r'⟩:=rs.get (i:=i) (d:=_) (List.getElem?_eq_getElem hi)
   have:=y xs (q.mono g2).to
   rw [e4] at this
   cases this
   subst e3
   exact ⟨Same.refl _,_,List.getElem?_eq_getElem hi,fun B' gB _=>r'.mono gB⟩
  ·exact ⟨xs,(q.mono g2).to,by rw [rs.length]; exact hi⟩
theorem rngD_len (lo hi:Int):(rngD lo hi).length = (hi - lo).toNat:=by simp [rngD]
theorem itd_rng {K:W.Frag} {B:BS} {H:Hp} (lo hi:Int):ItD K B (Itr lo (hi - lo).toNat) (rngD lo hi) H:=by
 refine ⟨fun i H2 g2 hi=>?_,fun i H2 x H3 g2 y hi=>?_,fun i H2 g2 hi=>?_⟩
 ·rw [rngD_len] at hi; exact hi
 ·obtain ⟨e3,rfl⟩:=y
  rw [rngD_len] at hi
  subst e3
  exact ⟨Same.refl _,.int (lo + i),by simp [rngD,hi],fun B' gB _=>by rw [rp_int]⟩
 ·rw [rngD_len] at hi; exact hi
theorem pid_range1 {a:Expr} {gA:Ds → Option (List D)} {p:Pos} (hm:X.mg "range" = none) (ha:PDA X [a] gA) (hg:Gl X "range" := by rfl) (hs:starEach [a] X.env = [(false,eval a X.env)]:=by rfl):PID X tg (.Call (.Name "range" p) [a] [] pos) (rng1I gA) :=
 .mk fun B δ=>L2.PI.imp (pi_range1 hg hm (ha B δ) hs) fun σ H R ⟨items,en,e1,k⟩=>by
 unfold rng1I at e1
 cases e2:gA δ with
 | none=>rw [e2] at e1; cases e1
 | some ds =>
  rw [e2] at e1
  simp only [Option.bind_some] at e1
  unfold rng1D at e1
  split at e1
  ·split at e1
   ·rename_i j hj
    cases e1
    refine ⟨_,en,e2,fun vs H' s' r=>?_⟩
    rw [rps_cons] at r
    obtain ⟨x,t,rfl,r1,r2⟩:=r
    rw [rps_nil] at r2
    subst r2
    rw [rp_int] at r1
    subst r1
    refine ⟨j,rfl,hj.1,hj.2,k _ H' s' ?_⟩
    have:=itd_rng (K:=X.K) (B:=B) (H:=H') 0 j
    rw [Int.sub_zero] at this
    exact this
   ·cases e1
  ·cases e1
theorem pid_range2 {a b:Expr} {gA:Ds → Option (List D)} {p:Pos} (hm:X.mg "range" = none) (ha:PDA X [a,b] gA) (hg:Gl X "range" := by rfl) (hs:starEach [a,b] X.env = [(false,eval a X.env),(false,eval b X.env)]:=by rfl) (hs2:starEach [b] X.env = [(false,eval b X.env)]:=by rfl) :
  PID X tg (.Call (.Name "range" p) [a,b] [] pos) (rng2I gA):=.mk fun B δ=>L2.PI.imp (pi_range2 hg hm (ha B δ) hs hs2) fun σ H R ⟨items,en,e1,k⟩=>by
 unfold rng2I at e1
 cases e2:gA δ with
 | none=>rw [e2] at e1; cases e1
 | some ds =>
  rw [e2] at e1
  simp only [Option.bind_some] at e1
  unfold rng2D at e1
  split at e1
  ·split at e1
   ·rename_i i j hj
    cases e1
    refine ⟨_,en,e2,fun vs H' s' r=>?_⟩
    rw [rps_cons] at r
    obtain ⟨x,t,rfl,r1,r2⟩:=r
    rw [rps_cons] at r2
    obtain ⟨y,t',rfl,r2,r3⟩:=r2
    rw [rps_nil] at r3
    subst r3
    rw [rp_int] at r1 r2
    subst r1 r2
    exact ⟨i,j,rfl,⟨hj.1.1,hj.1.2,hj.2.1,hj.2.2⟩,k _ H' s' (itd_rng i j)⟩
   ·cases e1
  ·cases e1
theorem EnvS.lower {K:W.Frag} {H₀ H₁ H:Hp} {B₀:BS} {σ:St} {δ:Ds} (e:EnvS K H₁ B₀ H σ δ) (s:Same H₀ H₁) (b0:∀ a,B₀ a → H₀ a ≠ none):EnvS K H₀ B₀ H σ δ:=by
 obtain ⟨B,b1,b2,en⟩:=e.ex
 exact ⟨s.trans e.same,⟨B,b1,fun a z=>(b2 a z).imp id fun q=>s.free q,en⟩,fun i ds a h1 h2=>s.free (e.fr i ds a h1 h2),b0⟩
open Classical in
theorem psd_for {iter:Expr} {gi:Ds → Option (List D)} {idx:List Nat} {f:D → Ds → Option Ds} (hp:PassesOwn (model X.prog X.w) X.A X.env X.xe) (hc:X.calm = true) (hi:PID X tg iter gi) (hg:PGD X tg idx f) (hb:PSsD X body G)
  (hs:∀ x,foldedSetIterable iter X.env x = pure x:=by intro _; rfl):PSD X (.For tg iter body [] pos) (forG gi f G):=.mk fun H₀ B₀ δ pins s σ H D I ⟨r,en,e1,k⟩=>by
 unfold forG at e1
 obtain ⟨B,b1,b2,env⟩:=en.ex
 cases e2:gi δ with
 | none=>rw [e2] at e1; cases e1
 | some items =>
  rw [e2] at e1
  simp only [Option.bind_some] at e1
  have hg':PG X tg (fun v σ H Q=>∃ B d δ,tDG X.K idx f B d δ v σ H Q):=fun pins s σ H v u Q I r ⟨B,d,δ,h⟩=>hg B d δ pins s σ H v u Q I r h
  have hb':PSs X body (fun D σ H=>∃ H₀ B₀ δ,tDS X.K H₀ B₀ δ G D σ H):=fun pins s σ H D I ⟨H₀,B₀,δ,h⟩=>hb H₀ B₀ δ pins s σ H D I h
  refine ps_for hp hc (hi B δ) hg' hb' hs pins s σ H D I ⟨items,env,e2,fun J H1 s1 it=>?_⟩
  obtain ⟨Hh,hHh⟩:∃ Hh:Hp,Hh = fun b=>if B b ∧ ¬ B₀ b then none else H1 b:=⟨_,rfl⟩
  have hoff:∀ b,¬ B b → Hh b = H1 b:=fun b n=>by rw [hHh]; exact if_neg fun z=>n z.1
  have hown:∀ b,B b → ¬ B₀ b → Hh b = none:=fun b n n'=>by rw [hHh]; exact if_pos ⟨n,n'⟩
  have hin:∀ b,B₀ b → Hh b = H1 b:=fun b n=>by rw [hHh]; exact if_neg fun z=>z.2 n
  have hle:Same Hh H1:=fun b o h=>by
   by_cases z:B b ∧ ¬ B₀ b
   ·rw [hown b z.1 z.2] at h; cases h
   ·rw [hHh] at h
    have h':(if B b ∧ ¬ B₀ b then none else H1 b) = some o:=h
    rw [if_neg z] at h'
    exact h'
  have hS:Same H₀ Hh:=fun b o h=>by
   have h1:=s1 b o (en.same b o h)
   by_cases z:B b
   ·rcases b2 b z with q | q
    ·rw [hin b q]; exact h1
    ·rw [h] at q; cases q
   ·rw [hoff b z]; exact h1
  have env1:=env.same s1
  have start:EnvS X.K Hh B₀ H1 σ δ:=by
   refine ⟨hle,⟨B,b1,fun a z=>?_,env1⟩,fun i ds a h1 h2=>?_,fun a z=>?_⟩
   ·by_cases q:B₀ a
    ·exact .inl q
    ·exact .inr (hown a z q)
   ·have hn:=en.fr i ds a h1 h2
    have nb:¬ B₀ a:=fun z=>en.b0 a z hn
    obtain ⟨o,e3,a',e4,hB,_⟩:=Pd.get env1.all h1
    rw [h2] at e3
    cases e3
    cases e4
    exact hown a hB nb
   ·rw [hin a z]
    exact env1.bad a (b1 a z)
  refine ⟨fun i m σ H=>m = items.length - i ∧ i ≤ items.length ∧ ∃ δi,EnvS X.K Hh B₀ H σ δi ∧ forD f G (items.drop i) δi = some r,⟨_,rfl,Nat.zero_le _,δ,start,e1⟩,?_⟩
  rintro i m σi Hi ⟨rfl,hil,δi,eni,ei⟩
  have gr:Gr H1 Hi B B:=fun b o n h=>⟨n,eni.same b o (by rw [hoff b n]; exact h)⟩
  by_cases hlt:i < items.length
  ·refine .inr ⟨it.go i Hi gr hlt,fun σ' H'=>∃ δn,EnvS X.K Hh B₀ H' σ' δn ∧ forD f G (items.drop (i + 1)) δn = some r,fun σ' H' ⟨δn,en',e'⟩=>⟨items.length - (i + 1),by omega,rfl,hlt,δn,en',e'⟩,fun x H' y=>?_⟩
   obtain ⟨sm,d,hd,rd⟩:=it.yld i Hi x H' gr y hlt
   obtain ⟨B',c1,c2,env0⟩:=eni.ex
   have rd':Rp X.K H' B' d x:=rd B' (fun b o n h=>by
    have h':Hh b = some o:=by rw [hoff b n]; exact h
    refine ⟨fun z=>?_,sm b o (eni.same b o h')⟩
    rcases c2 b z with q | q
    ·exact n (b1 b q)
    ·rw [h'] at q; cases q) env0.bad
   have env':=env0.same sm
   replace eni:=eni.grow sm
   have hdrop:items.drop i = d :: items.drop (i + 1):=by
    rw [List.drop_eq_getElem_cons hlt]
    congr 1
    rw [List.getElem?_eq_getElem hlt] at hd
    exact Option.some.inj hd
   rw [hdrop] at ei
   unfold forD at ei
   cases e3:f d δi with
   | none=>rw [e3] at ei; cases ei
   | some δ2 =>
    rw [e3] at ei
    simp only [Option.bind_some] at ei
    refine ⟨B',d,δi,δ2,rd',env',e3,fun σ' w en'=>?_⟩
    have enb:EnvS X.K Hh B₀ H' σ' δ2:=eni.wr c1 c2 (Same.refl _) w en'
    cases e4:G δ2 with
    | none=>rw [e4] at ei; cases ei
    | some rb =>
     rw [e4] at ei
     refine ⟨Hh,B₀,δ2,rb,enb,e4,?_⟩
     cases rb with
     | nx δn=>exact fun σ' H' en'=>⟨δn,en',ei⟩
     | ct δn=>exact fun σ' H' en'=>⟨δn,en',ei⟩
     | bk δn =>
      cases ei
      exact fun σ' H' en'=>k σ' H' (en'.lower hS en.b0)
     | rt d' =>
      cases ei
      exact fun v H' s' r'=>k v H' (hS.trans s') r'
     | rf d' =>
      cases ei
      exact fun p H' hp s' r'=>k p H' (hS.free hp) (hS.trans s') r'
  ·have e:i = items.length:=by omega
   subst e
   refine .inl ⟨it.stop _ Hi gr (Nat.le_refl _),?_⟩
   rw [List.drop_length] at ei
   cases ei
   exact k σi Hi (eni.lower hS en.b0)
structure PFD (X:Cx) (ifs:List Expr) (g:Ds → Option Bool):Prop where
 mk :: go:∀ B δ,PF X ifs (tDT X.K B δ g)
instance {X:Cx} {ifs:List Expr} {g:Ds → Option Bool}:CoeFun (PFD X ifs g) (fun _=>∀ B δ,PF X ifs (tDT X.K B δ g)):=⟨PFD.go⟩
theorem pfd_nil:PFD X [] noT:=.mk fun B δ pins s σ H Q I ⟨b,en,e,k⟩=>by
 cases e
 exact pf_nil pins s σ H Q I (k H (Same.refl H))
theorem pfd_one (h:PTD X c gt):PFD X [c] gt:=.mk fun B δ=>pf_one (h B δ)
theorem sComp_lt {n:Nat} {caps:List Nat} {σ:St} {j:Nat} (h:j < n):(sComp n caps σ)[j]? = some none:=by
 unfold sComp
 rw [List.getElem?_append_left (by simpa using h),List.getElem?_replicate,if_pos h]
theorem rep_un {K:W.Frag} {H:Hp} {B:BS}:∀ n:Nat,Paired (SlR K H B) (List.replicate n (none:Option V)) (List.replicate n Sl.un)
 | 0=>.nil
 | n + 1=>.cons trivial (rep_un n)
theorem caps_rel {K:W.Frag} {H:Hp} {B:BS} {σ:St} {δ:Ds} (en:Env K H B σ δ):∀ caps:List Nat,Paired (SlR K H B) (caps.map fun j=>(σ[j]?).join) (caps.map fun j=>capSl δ[j]?)
 | []=>.nil
 | j :: caps=>by
  refine .cons ?_ (caps_rel en caps)
  show SlR K H B (σ[j]?).join (capSl δ[j]?)
  cases h:δ[j]? with
  | none=>trivial
  | some sl =>
   cases sl with
   | un=>trivial
   | ow ds=>trivial
   | ex c n=>trivial
   | sh d =>
    obtain ⟨v,e,r⟩:=en.get h
    rw [e]
    exact ⟨v,rfl,r⟩
theorem capSl_ow {o:Option Sl} {ds:D} (h:capSl o = .ow ds):False:=by
 cases o with
 | none=>cases h
 | some s=>cases s <;> cases h
theorem dComp_ow {n:Nat} {caps:List Nat} {δ:Ds} {i:Nat} {ds:D} (h:(dComp n caps δ)[i]? = some (.ow ds)):False:=by
 unfold dComp at h
 by_cases hi:i < n
 ·rw [List.getElem?_append_left (by simpa using hi),List.getElem?_replicate,if_pos hi] at h
  cases h
 ·rw [List.getElem?_append_right (by simpa using hi),List.getElem?_map] at h
  cases q:caps[i - (List.replicate n Sl.un).length]? with
  | none=>rw [q] at h; cases h
  | some j =>
   rw [q] at h
   exact capSl_ow (Option.some.inj h)
theorem Env.comp {K:W.Frag} {H:Hp} {B:BS} {σ:St} {δ:Ds} (en:Env K H B σ δ) (n:Nat) (caps:List Nat):Env K H B (sComp n caps σ) (dComp n caps δ) :=
 ⟨Pd.app (rep_un n) (caps_rel en caps),en.bad,fun i j a ds es h1 _ _ _=>(dComp_ow h1).elim⟩
theorem SlR.gr {K:W.Frag} {H H':Hp} {B B':BS} {o:Option V} {s:Sl} (g:Gr H H' B B') (no:∀ ds,s ≠ .ow ds) (h:SlR K H B o s):SlR K H' B' o s:=by
 cases s with
 | un=>trivial
 | sh d=>obtain ⟨v,e,r⟩:=h; exact ⟨v,e,r.mono g⟩
 | ow ds=>exact absurd rfl (no ds)
 | ex c n=>obtain ⟨a,e,r⟩:=h; exact ⟨a,e,r.mono g⟩
theorem Pd.impG {K:W.Frag} {H H':Hp} {B B':BS} (g:Gr H H' B B'):∀ {σ:St} {δ:Ds},(∀ (i:Nat) (ds:D),δ[i]? ≠ some (.ow ds)) → Paired (SlR K H B) σ δ → Paired (SlR K H' B') σ δ
 | _,_,_,.nil=>.nil
 | _,_,no,.cons r t=>.cons (r.gr g fun ds z=>no 0 ds (by rw [← z]; rfl)) (Pd.impG g (fun i ds z=>no (i + 1) ds (by simpa using z)) t)
noncomputable def tDF (K:W.Frag) (B:BS) (δ:Ds) (g:Ds → Option D):TE:=fun σ H Q=>∃ d,Env K H B σ δ ∧ g δ = some d ∧ ∀ p H',H p = none → Same H H' → RpO K H' (fun a=>B a ∨ a = p) d p → Q (.ref p) H'
structure PDF (X:Cx) (e:Expr) (g:Ds → Option D):Prop where
 mk :: go:∀ B δ,PE X e (tDF X.K B δ g)
instance {X:Cx} {e:Expr} {g:Ds → Option D}:CoeFun (PDF X e g) (fun _=>∀ B δ,PE X e (tDF X.K B δ g)):=⟨PDF.go⟩
theorem tD.toF {K:W.Frag} {B:BS} {δ:Ds} {g:Ds → Option D} {σ:St} {H:Hp} {Q:VK} (h:tD K B δ g σ H Q):tDF K B δ g σ H Q:=by
 obtain ⟨d,en,e,k⟩:=h
 exact ⟨d,en,e,fun p H' hp s r=>k _ H' s (r.rp (fun a z=>.inl z) (en.free hp))⟩
theorem PDF.pd {X:Cx} {e:Expr} {g:Ds → Option D} (h:PDF X e g):PD X e g:=.mk fun B δ=>(h B δ).imp fun σ H Q z=>z.toF
theorem comp_read {K:W.Frag} {B:BS} {δ:Ds} {σ:St} {H:Hp} {Q:VK} {n:Nat} {caps:List Nat} {gi:Ds → Option (List D)} {idx:List Nat} {f:D → Ds → Option Ds} {gt:Ds → Option Bool} {ge:Ds → Option D} (hidx:∀ j ∈ idx,j < n)
  (h:tDF K B δ (compG n caps gi f gt ge) σ H Q) :
  tComp n caps (tDI K B δ gi) (fun v σ H Q=>∃ B d δ,tDG K idx f B d δ v σ H Q) (fun σ H Q=>∃ B δ,tDT K B δ gt σ H Q) (fun σ H Q=>∃ B δ,tD K B δ ge σ H Q) σ H Q:=by
 obtain ⟨d,en,h,k⟩:=h
 unfold compG at h
 cases e1:gi δ with
 | none=>rw [e1] at h; cases h
 | some items =>
  rw [e1] at h
  simp only [Option.bind_some] at h
  by_cases hsz:items.length ≤ sizeLine
  ·rw [if_pos hsz] at h
   cases e2:compD f gt ge (dComp n caps δ) items with
   | none=>rw [e2] at h; cases h
   | some out =>
    rw [e2] at h
    cases h
    refine ⟨items,en,e1,fun J H1 s1 it=>fun L hL=>?_⟩
    have en1:=en.same s1
    have nBL:¬ B L:=en1.free hL
    obtain ⟨Bp,hBp⟩:∃ Bp:BS,Bp = fun a=>B a ∨ a = L:=⟨_,rfl⟩
    have bpL:Bp L:=by rw [hBp]; exact .inr rfl
    have bpB:∀ a,B a → Bp a:=fun a z=>by rw [hBp]; exact .inl z
    have bpI:∀ a,Bp a → B a ∨ a = L:=fun a z=>by rw [hBp] at z; exact z
    have gr:∀ {H2:Hp},Same H1 H2 → Gr H1 H2 B Bp:=fun {H2} s2 b o nb hb=>⟨(fun z=>by
     rcases bpI b z with q | q
     ·exact nb q
     ·subst q; rw [hL] at hb; cases hb),s2 b o hb⟩
    refine ⟨fun i m ys H2=>m = items.length - i ∧ i ≤ items.length ∧ H2 L = some (.lst ys) ∧ Same H1 H2 ∧ ys.length ≤ i ∧ ∃ pre rest,out = pre ++ rest ∧ Rps K H2 Bp pre ys ∧ compD f gt ge (dComp n caps δ) (items.drop i) = some rest,
     ⟨_,rfl,Nat.zero_le _,upd_same,same_upd hL,Nat.le_refl _,[],out,rfl,by rw [rps_nil],e2⟩,?_⟩
    rintro i m ys H2 ⟨rfl,hil,hD,s2,hyl,pre,rest,ho,rp,ec⟩
    have en2:Env K H2 Bp (sComp n caps σ) (dComp n caps δ):=by
     refine ⟨Pd.impG (gr s2) (fun i ds z=>dComp_ow z) (en1.comp n caps).all,fun a z=>?_,fun i j a ds es h1 _ _ _=>(dComp_ow h1).elim⟩
     rcases bpI a z with q | q
     ·exact (en1.same s2).bad a q
     ·subst q; rw [hD]; exact fun z=>nomatch z
    by_cases hlt:i < items.length
    ·refine .inr ⟨it.go i H2 (Gr.same s2) hlt,fun x H3 y=>?_⟩
     obtain ⟨sm,dx,hdx,rx⟩:=it.yld i H2 x H3 (Gr.same s2) y hlt
     have rx':Rp K H3 Bp dx x:=rx Bp (gr (s2.trans sm)) en2.bad
     replace en2:=en2.same sm
     replace s2:=s2.trans sm
     replace hD:=sm _ _ hD
     replace rp:=rp.same sm
     have hdrop:items.drop i = dx :: items.drop (i + 1):=by
      rw [List.drop_eq_getElem_cons hlt]
      congr 1
      rw [List.getElem?_eq_getElem hlt] at hdx
      exact Option.some.inj hdx
     rw [hdrop] at ec
     unfold compD at ec
     cases e3:f dx (dComp n caps δ) with
     | none=>rw [e3] at ec; cases ec
     | some δ' =>
      rw [e3] at ec
      dsimp only at ec
      refine ⟨Bp,dx,dComp n caps δ,δ',rx',en2,e3,fun σ4 w en4=>⟨⟨w.len,fun j v z=>?_⟩,?_⟩⟩
      ·by_cases hj:j ∈ idx
       ·rw [sComp_lt (hidx j hj)] at z; cases z
       ·rw [(w.oth j hj).1]; exact z
      ·cases e4:gt δ' with
       | none=>rw [e4] at ec; cases ec
       | some t =>
        rw [e4] at ec
        refine ⟨Bp,δ',t,en4,e4,fun H5 s5=>?_⟩
        cases t with
        | false =>
         rw [if_neg Bool.false_ne_true]
         exact ⟨items.length - (i + 1),by omega,rfl,hlt,s5 _ _ hD,s2.trans s5,by omega,pre,rest,ho,rp.same s5,ec⟩
        | true =>
         rw [if_pos rfl]
         dsimp only at ec
         cases e5:ge δ' with
         | none=>rw [e5] at ec; cases ec
         | some yd =>
          rw [e5] at ec
          dsimp only at ec
          cases e6:compD f gt ge (dComp n caps δ) (items.drop (i + 1)) with
          | none=>rw [e6] at ec; cases ec
          | some rest' =>
           rw [e6] at ec
           cases ec
           refine ⟨Bp,δ',yd,en4.same s5,e5,fun v H6 s6 r6=>?_⟩
           have hD6:H6 L = some (.lst ys):=s6 _ _ (s5 _ _ hD)
           have g6:Gr H6 (upd H6 L (.lst (ys ++ [v]))) Bp Bp:=fun b o nb hb=>⟨nb,by
            rw [upd_ne (fun z=>nb (by rw [z]; exact bpL))]; exact hb⟩
           refine ⟨hD6,by omega,items.length - (i + 1),by omega,rfl,hlt,upd_same,fun b o hb=>?_,by simp; omega,pre ++ [yd],rest',by rw [ho]; simp,?_,e6⟩
           ·have nbL:b ≠ L:=fun z=>by rw [z,hL] at hb; cases hb
            rw [upd_ne nbL]
            exact s6 _ _ (s5 _ _ (s2 _ _ hb))
           ·exact (Rps.snoc ((rp.same s5).same s6) r6).mono g6
    ·have e:i = items.length:=by omega
     subst e
     refine .inl ⟨it.stop _ H2 (Gr.same s2) (Nat.le_refl _),?_⟩
     rw [List.drop_length] at ec
     have ec':([]:List D) = rest:=Option.some.inj ec
     subst ec'
     rw [List.append_nil] at ho
     subst ho
     refine k L H2 (s1.free hL) (s1.trans s2) ⟨ys,hD,?_⟩
     rw [hBp] at rp
     exact rp
  ·rw [if_neg hsz] at h; cases h
theorem pdf_comp {sc scope:Scope} {elt iter:Expr} {ifs:List Expr} {N':List Str} {n:Nat} {caps:List Nat} {gi:Ds → Option (List D)} {idx:List Nat} {f:D → Ds → Option Ds} {ge:Ds → Option D}
  (hc:X.calm = true) (hsc:X.env.scope = sc) (ok:CompOk sc scope X.N N' n caps) (hidx:∀ j ∈ idx,j < n) (hi:PID X tg iter gi)
  (hg:∀ cl s H ex,PGD (cxComp X scope cl N' s H ex) tg idx f) (ht:∀ cl s H ex,PFD (cxComp X scope cl N' s H ex) ifs gt) (he:∀ cl s H ex,PD (cxComp X scope cl N' s H ex) elt ge)
  (hs:∀ x,foldedSetIterable iter X.env x = pure x:=by intro _; rfl) :
  PDF X (.ListComp elt [⟨tg,iter,ifs,0⟩] scope pos) (compG n caps gi f gt ge):=.mk fun B δ =>
 (pe_comp hc hsc ok (hi B δ) (g:=fun v σ H Q=>∃ B d δ,tDG X.K idx f B d δ v σ H Q) (tt:=fun σ H Q=>∃ B δ,tDT X.K B δ gt σ H Q) (te:=fun σ H Q=>∃ B δ,tD X.K B δ ge σ H Q)
  (fun cl s H ex pins s' σ H v u Q I r ⟨B,d,δ,h⟩=>hg cl s _ ex B d δ pins s' σ H v u Q I r h)
  (fun cl s H ex pins s' σ H Q I ⟨B,δ,h⟩=>ht cl s _ ex B δ pins s' σ H Q I h)
  (fun cl s H ex pins s' σ H Q I ⟨B,δ,h⟩=>he cl s _ ex B δ pins s' σ H Q I h) hs).imp fun σ H Q h=>comp_read hidx h
theorem pd_comp {sc scope:Scope} {elt iter:Expr} {ifs:List Expr} {N':List Str} {n:Nat} {caps:List Nat} {gi:Ds → Option (List D)} {idx:List Nat} {f:D → Ds → Option Ds} {ge:Ds → Option D}
  (hc:X.calm = true) (hsc:X.env.scope = sc) (ok:CompOk sc scope X.N N' n caps) (hidx:∀ j ∈ idx,j < n) (hi:PID X tg iter gi)
  (hg:∀ cl s H ex,PGD (cxComp X scope cl N' s H ex) tg idx f) (ht:∀ cl s H ex,PFD (cxComp X scope cl N' s H ex) ifs gt) (he:∀ cl s H ex,PD (cxComp X scope cl N' s H ex) elt ge)
  (hs:∀ x,foldedSetIterable iter X.env x = pure x:=by intro _; rfl) :
  PD X (.ListComp elt [⟨tg,iter,ifs,0⟩] scope pos) (compG n caps gi f gt ge):=(pdf_comp hc hsc ok hidx hi hg ht he hs).pd
theorem psd_setComp (i:Nat) {y:Str} {py spos:Pos} {sc scope:Scope} {elt iter:Expr} {ifs:List Expr} {N':List Str} {n:Nat} {caps:List Nat} {gi:Ds → Option (List D)} {idx:List Nat} {f:D → Ds → Option Ds} {ge:Ds → Option D}
  (hN:X.N.Nodup) (hc:X.calm = true) (hsc:X.env.scope = sc) (ok:CompOk sc scope X.N N' n caps) (hidx:∀ j ∈ idx,j < n) (hi:PID X tg iter gi)
  (hg:∀ cl s H ex,PGD (cxComp X scope cl N' s H ex) tg idx f) (ht:∀ cl s H ex,PFD (cxComp X scope cl N' s H ex) ifs gt) (he:∀ cl s H ex,PD (cxComp X scope cl N' s H ex) elt ge)
  (hiN:X.N[i]? = some y:=by rfl) (hy:Loc X.env.scope y:=by first | exact Or.inl rfl | exact Or.inr rfl)
  (hsw:swapsWith (.ListComp elt [⟨tg,iter,ifs,0⟩] scope pos) (some (.Name y py)) spos.line X.env = pure true:=by rfl)
  (hs:∀ x,foldedSetIterable iter X.env x = pure x:=by intro _; rfl)
  (hf:X.fn y = true ∨ X.env.scope.names.lookup y = some .local:=by first | exact .inl rfl | exact .inr rfl | assumption) :
  PSD X (.Assign [.Name y py] (.ListComp elt [⟨tg,iter,ifs,0⟩] scope pos) spos) (setD (gN i) (compG n caps gi f gt ge)):=.mk fun H₀ B₀ δ pins s σ H D I ⟨r,en,e1,k⟩=>by
 unfold setD at e1
 obtain ⟨B,b1,b2,env⟩:=en.ex
 cases e2:compG n caps gi f gt ge δ with
 | none=>rw [e2] at e1; cases e1
 | some d =>
  rw [e2] at e1
  cases e1
  refine ps_setComp (i:=i) hN hiN hy hc hsc ok (hi B δ) (g:=fun v σ H Q=>∃ B d δ,tDG X.K idx f B d δ v σ H Q) (tt:=fun σ H Q=>∃ B δ,tDT X.K B δ gt σ H Q) (te:=fun σ H Q=>∃ B δ,tD X.K B δ ge σ H Q)
   (fun cl s H ex pins s' σ H v u Q I r ⟨B,d,δ,h⟩=>hg cl s _ ex B d δ pins s' σ H v u Q I r h)
   (fun cl s H ex pins s' σ H Q I ⟨B,δ,h⟩=>ht cl s _ ex B δ pins s' σ H Q I h)
   (fun cl s H ex pins s' σ H Q I ⟨B,δ,h⟩=>he cl s _ ex B δ pins s' σ H Q I h) hsw hs hf pins s σ H D I (comp_read hidx (tD.toF ⟨d,env,e2,fun v H' s' r'=>k _ H' (en.wr b1 b2 s' wr_set ((env.same s').set i r'))⟩))
end
theorem start_rel {K:W.Frag} {H:Hp} {B:BS} {N:List Str}:∀ {ds:List D} {vs:List V},Rps K H B ds vs → Paired (SlR K H B) (vs.map some) (ds.map Sl.sh)
 | [],_,h=>by rw [rps_nil] at h; subst h; exact .nil
 | d :: ds,_,h=>by
  rw [rps_cons] at h
  obtain ⟨x,r,rfl,h1,h2⟩:=h
  exact .cons ⟨x,rfl,h1⟩ (start_rel (N:=N) h2)
theorem dStart_ow {N:List Str} {ds:List D} {i:Nat} {es:D} (h:(dStart N ds)[i]? = some (.ow es)):False:=by
 unfold dStart at h
 by_cases hi:i < ds.length
 ·rw [List.getElem?_append_left (by simpa using hi),List.getElem?_map] at h
  cases q:ds[i]? with
  | none=>rw [q] at h; cases h
  | some d=>rw [q] at h; cases h
 ·rw [List.getElem?_append_right (by simpa using hi),List.getElem?_replicate] at h
  split at h <;> cases h
section
variable {P:Program} {w:World} {K:W.Frag} {mg:Str → Option Value} {base:Heap}
theorem okD {x qual:Str} {st:Stmt} {fa:Addr} {fd:FuncData} {N ps:List Str} {k:Nat} {f:List D → Option D} {G:Ds → Option Res} (F:Fun K x qual st fa fd) (S:FnScope N ps (defScope st))
  (body:∀ (cdv:Value) (A:Around) (outer:List PySem.Env) (s:Shared) (H:Hp) (E:XK),Room k (A.deeper (envOfC qual (defScope st) s.heap.objs.size fa cdv)) → PSsD (cxOf CX0 P w K mg base N qual (defScope st) fa cdv A outer s H E).nox (defBody st) G)
  (hf:∀ ds d,f ds = some d → ds.length = ps.length ∧ (G (dStart N ds) = some (.rt d) ∨ (d = .non ∧ ∃ δ,G (dStart N ds) = some (.nx δ)) ∨ G (dStart N ds) = some (.rf d) ∧ isL d = false)) :
  FnOk P w K mg base CX0 (k + 1) fa fd ps (spD K f):=by
 refine F.ok S (fun vs H Q E ⟨B,ds,d,_,r,h,_⟩=>?_) (fun cdv A outer s H vs Q E hr ⟨B,ds,d,hb,r,h,q⟩=>?_)
 ·rw [r.length]; exact (hf ds d h).1
 ·refine ⟨_,body cdv A outer s H E hr H B (dStart N ds),?_⟩
  have en:EnvS K H B H (L2.start N vs) (dStart N ds):=by
   refine ⟨Same.refl H,⟨B,fun _ z=>z,fun _ z=>.inl z,⟨?_,hb,fun i j a ds' es h1 _ _ _=>(dStart_ow h1).elim⟩⟩,fun i ds' a h1 _=>(dStart_ow h1).elim,hb⟩
   unfold L2.start dStart
   rw [r.length]
   exact Pd.app (start_rel (N:=N) r) (rep_un _)
  rcases (hf ds d h).2 with e | ⟨rfl,δ,e⟩ | ⟨e,hn⟩
  ·exact ⟨_,en,e,fun v H' s' r'=>q v H' s' r'⟩
  ·exact ⟨_,en,e,fun σ' H' en'=>q .non H' en'.same (by rw [rp_non])⟩
  ·exact ⟨_,en,e,fun p H' hp s' r'=>q _ H' s' ((r'.toO hn).rp (fun a z=>.inl z) (fun z=>hb p z hp))⟩
noncomputable def spN (K:W.Frag) (f:List D → Option D):Sp:=fun vs H Q _=>∃ (B:BS) (ds:List D) (d:D),(∀ a,B a → H a ≠ none) ∧ Rps K H B ds vs ∧ f ds = some d ∧ ∀ p H',H p = none → Same H H' → RpO K H' (fun a=>B a ∨ a = p) d p → Q (.ref p) H'
theorem okN {x qual:Str} {st:Stmt} {fa:Addr} {fd:FuncData} {N ps:List Str} {k:Nat} {f:List D → Option D} {G:Ds → Option Res} (F:Fun K x qual st fa fd) (S:FnScope N ps (defScope st))
  (body:∀ (cdv:Value) (A:Around) (outer:List PySem.Env) (s:Shared) (H:Hp) (E:XK),Room k (A.deeper (envOfC qual (defScope st) s.heap.objs.size fa cdv)) → PSsD (cxOf CX0 P w K mg base N qual (defScope st) fa cdv A outer s H E).nox (defBody st) G)
  (hf:∀ ds d,f ds = some d → ds.length = ps.length ∧ G (dStart N ds) = some (.rf d) ∧ isL d = false) :
  FnOk P w K mg base CX0 (k + 1) fa fd ps (spN K f):=by
 refine F.ok S (fun vs H Q E ⟨B,ds,d,_,r,h,_⟩=>?_) (fun cdv A outer s H vs Q E hr ⟨B,ds,d,hb,r,h,q⟩=>?_)
 ·rw [r.length]; exact (hf ds d h).1
 ·refine ⟨_,body cdv A outer s H E hr H B (dStart N ds),?_⟩
  have en:EnvS K H B H (L2.start N vs) (dStart N ds):=by
   refine ⟨Same.refl H,⟨B,fun _ z=>z,fun _ z=>.inl z,⟨?_,hb,fun i j a ds' es h1 _ _ _=>(dStart_ow h1).elim⟩⟩,fun i ds' a h1 _=>(dStart_ow h1).elim,hb⟩
   unfold L2.start dStart
   rw [r.length]
   exact Pd.app (start_rel (N:=N) r) (rep_un _)
  exact ⟨_,en,(hf ds d h).2.1,fun p H' hp s' r'=>q p H' hp s' (r'.toO (hf ds d h).2.2)⟩
end
end DL
namespace L2
open PySem PySem.Spec PyProof.Rows
section
variable {X:Cx}
theorem bools_at:∀ {bs:List Bool} {us:List Value} {i:Nat} {v:Value},Vals (bs.map V.bl) us → us[i]? = some v → v = .bool (bs.getD i true)
 | [],_,_,_,r,e=>by
  rw [List.map_nil] at r
  cases r
  simp at e
 | b :: bs,_,0,v,r,e=>by
  rw [List.map_cons] at r
  cases r with
  | cons r1 r2=>simp at e; subst e; exact r1
 | b :: bs,_,i + 1,v,r,e=>by
  rw [List.map_cons] at r
  cases r with
  | cons r1 r2=>simpa using bools_at (i:=i) r2 (by simpa using e)
theorem all_range (bs:List Bool):(List.range bs.length).all (fun i=>bs.getD i true) = bs.all id:=by
 rw [Bool.eq_iff_iff,List.all_eq_true,List.all_eq_true]
 constructor
 ·intro h b hb
  obtain ⟨i,hi,rfl⟩:=List.mem_iff_getElem.mp hb
  have:=h i (List.mem_range.mpr hi)
  simpa [List.getD_eq_getElem?_getD,hi] using this
 ·intro h i hi
  have hi':=List.mem_range.mp hi
  have:=h bs[i] (List.getElem_mem hi')
  simpa [List.getD_eq_getElem?_getD,hi'] using this
theorem call_all (hc:X.calm = true):CallR X (.builtin "all") (fun xs H Q=>∃ (p:Addr) (bs:List Bool),xs = [.ref p] ∧ SqL X.K H p (bs.map V.bl) ∧ Q (.bl (bs.all id)) H):=by
 intro pins s σ H xs us Q I rs h
 obtain ⟨p,bs,rfl,hq,q⟩:=h
 obtain ⟨u,rfl,ru⟩:=rs.one
 cases ru
 obtain ⟨its,rv,pl,hz⟩:=I.list hq
 refine call_all_walk (wpAny_pyIter_list pl.isList ?_)
 have hp:p ≠ s.heap.objs.size:=by
  obtain ⟨o,n,e,_⟩:=pl
  exact Nat.ne_of_lt (Heap.lt_size e)
 refine ⟨_,_,_,_,_,_,fun i=>bs.getD i true,rfl,Walks.list (A:=X.A.in1) (I.ok.hd hc) s.heap.objs.size p hp its.toArray,⟨⟨_,Heap.get?_push_size _ rfl,rfl,rfl⟩,pl.isList.push _⟩,?_,?_⟩
 ·intro i v s' Q' E' hP hQ
  have e:=bools_at rv (i:=i) (v:=v) (by simpa using hP)
  subst e
  exact wpAny_truthy_bool hQ
 ·intro h' tk hk
  have e1:its.toArray.size = bs.length:=by
   have:=rv.length
   simp at this
   simp [this]
  rw [e1,all_range]
  refine ⟨.bl (bs.all id),H,I.kept (t':=tk) fun b o e=>?_,rfl,q⟩
  refine hk b o ?_ (Heap.get?_push_of_some _ e)
  intro z
  have z':b = s.heap.objs.size:=by simpa using z
  subst z'
  exact absurd (Heap.lt_size e) (Nat.lt_irrefl _)
theorem strs_are:∀ {ys:List Str} {us:List Value},Vals (ys.map V.str) us → StrsAre us ys
 | [],_,r=>by rw [List.map_nil] at r; cases r; exact .nil
 | y :: ys,_,r=>by
  rw [List.map_cons] at r
  cases r with
  | cons r1 r2 =>
   obtain ⟨t,e⟩:=r1
   subst e
   exact .cons y t (strs_are r2)
theorem mt_join:MtR X "str.join" (fun x xs H Q=>∃ (sep:Str) (p:Addr) (ys:List Str),x = .str sep ∧ xs = [.ref p] ∧ SqL X.K H p (ys.map V.str) ∧ (ys.map (·.length)).sum + ys.length * sep.length ≤ 16777216 ∧ Q (.str (Txt.join sep ys)) H):=by
 intro pins s σ H x xs v us Q I rx rs h
 obtain ⟨sep,p,ys,rfl,rfl,hq,hz,q⟩:=h
 obtain ⟨t,rfl⟩:=rx
 obtain ⟨u,rfl,ru⟩:=rs.one
 cases ru
 obtain ⟨its,rv,pl,_⟩:=I.list hq
 exact join_list pl.isList (by simpa using strs_are rv) hz fun t' k=>⟨.str _,H,I.tok k,⟨t',rfl⟩,q⟩
theorem part_of {u:Value} {o:Option Int} (p:IsPart u o):∃ l:Option (Int × Tok),u = partValue l ∧ l.map (·.1) = o:=by
 cases p with
 | none=>exact ⟨none,rfl,rfl⟩
 | int i t=>exact ⟨some (i,t),rfl,rfl⟩
theorem sl_str:SlR X (fun x lo hi H Q=>∃ z,x = .str z ∧ z.length ≤ sizeLine ∧ Q (.str (Txt.slice z lo hi)) H):=by
 intro pins s σ H x v vl vu lo hi sl Q I rx hs pl pu h
 obtain ⟨z,rfl,hz,q⟩:=h
 obtain ⟨t,rfl⟩:=rx
 obtain ⟨l,rfl,rfl⟩:=part_of pl
 obtain ⟨u,rfl,rfl⟩:=part_of pu
 refine ⟨"str",_,F.slot_str_getitem.lookup,typeIs_str _ _ _,wpAny_getItem_str_slice (l:=l) (u:=u) (st:=none) ?_ rfl (post_val_or_str ⟨Nat.le_trans (Txt.slice_le z _ _) hz,fun t' k=>⟨.str _,H,I.tok k,⟨t',rfl⟩,q⟩⟩)⟩
 obtain ⟨o,h1,h2,h3⟩:=hs
 exact ⟨o,h1,h2,h3⟩
end
end L2
namespace DL
open PySem PySem.Spec PyProof.Rows L2
noncomputable def tyD:D → String
 | .non => "NoneType" | .bl _ => "bool" | .int _ => "int" | .str _ => "str" | .tup _ => "tuple" | .lst _ => "list" | .dct _ _ => "dict"
noncomputable def okT (T:String) (f:D → Bool):Prop:=∀ (K:W.Frag) (d:D),W.kitOne K (.type (tyD d)) (.type T) = some (f d)
theorem okT_bool:okT "bool" isBool:=fun K d=>by cases d <;> kernel_rfl
theorem okT_tuple:okT "tuple" isTup:=fun K d=>by cases d <;> kernel_rfl
section
variable {X:Cx}
theorem call_isi {T:String} {f:D → Bool} (hT:okT T f):CallR X (.builtin "isinstance") (fun xs H Q=>∃ B d x,xs = [x,.ty T] ∧ Rp X.K H B d x ∧ Q (.bl (f d)) H):=by
 intro pins s σ H xs us Q I rs h
 obtain ⟨B,d,x,rfl,r,q⟩:=h
 obtain ⟨u,c,rfl,ru,rc⟩:=rs.two
 obtain rfl:c = Value.type T:=rc
 have fin:∀ tk,EP X pins σ Q (.bool (f d)) { s with toks:=tk }:=fun tk=>⟨.bl _,H,I.tok tk,rfl,q⟩
 have e:=hT X.K d
 cases d with
 | non=>rw [rp_non] at r; subst r; cases (show u = Value.none from ru); exact W.kia_one W.kitx_none I.kIn True.intro e (fun z=>nomatch z) fin
 | bl y=>rw [rp_bl] at r; subst r; cases (show u = Value.bool y from ru); exact W.kia_one W.kitx_bool I.kIn True.intro e (fun z=>nomatch z) fin
 | int i=>rw [rp_int] at r; subst r; obtain ⟨t,rfl⟩:=(show ∃ t,u = Value.int i t from ru); exact W.kia_one W.kitx_int I.kIn True.intro e (fun z=>nomatch z) fin
 | str y=>rw [rp_str] at r; subst r; obtain ⟨t,rfl⟩:=(show ∃ t,u = Value.str y t from ru); exact W.kia_one W.kitx_str I.kIn True.intro e (fun z=>nomatch z) fin
 | tup ds =>
  rw [rp_tup] at r
  obtain ⟨a,xs,rfl,hq,_⟩:=r
  cases (show u = Value.ref a from ru)
  obtain ⟨its,_,p,_⟩:=I.tuple hq.to
  obtain ⟨o,h1,h2,_⟩:=p
  exact W.kia_one W.kitx_tuple I.kIn ⟨o,h1,h2⟩ e (fun z=>nomatch z) fin
 | lst ds =>
  rw [rp_lst] at r
  obtain ⟨a,xs,rfl,hq,_⟩:=r
  cases (show u = Value.ref a from ru)
  obtain ⟨its,_,p,_⟩:=I.list hq.to
  obtain ⟨o,n,h1,h2,_⟩:=p
  exact W.kia_one W.kitx_list I.kIn ⟨o,h1,h2⟩ e (fun z=>nomatch z) fin
 | dct ks ds =>
  rw [rp_dctG] at r
  obtain ⟨a,xs,rfl,_,hq,_⟩:=r
  cases (show u = Value.ref a from ru)
  cases ks with
  | inl ks =>
   obtain ⟨_,_,vs,_,p⟩:=(show ObjOk X.prog X.w H s.heap a (.dK (ks.zip xs)) from I.hok a _ hq)
   obtain ⟨o,es,ep,h1,h2,_⟩:=p
   exact W.kia_one W.kitx_dict I.kIn ⟨o,h1,h2.1⟩ e (fun z=>nomatch z) fin
  | inr ks =>
   obtain ⟨_,_,vs,_,o,es,ep,h1,h2,_⟩:=(show ObjOk X.prog X.w H s.heap a (.dT (ks.zip xs)) from I.hok a _ hq)
   exact W.kia_one W.kitx_dict I.kIn ⟨o,h1,h2.1⟩ e (fun z=>nomatch z) fin
theorem pd_isi {T:String} {f:D → Bool} {Tn:Str} {e:Expr} {g:Ds → Option D} {p p2 pos:Pos} (hT:okT T f) (hb:bootBuiltins Tn = some (.type T)) (hm:X.mg "isinstance" = none) (hmT:X.mg Tn = none) (h:PD X e g) (hg:Gl X "isinstance" := by rfl) (hgT:Gl X Tn:=by rfl)
  (hn:Tn ≠ "__name__" := by decide) (hd:(Tn == ("__debug__" : Str)) = false:=by decide)
  (he:starEach [e,.Name Tn p2] X.env = (false,eval e X.env) :: starEach [.Name Tn p2] X.env:=by rfl) (he2:starEach [.Name Tn p2] X.env = (false,eval (.Name Tn p2) X.env) :: starEach [] X.env:=by rfl)
  (hpl:(backTo pos (starEach [.Name Tn p2] X.env)).any (·.1) = false:=by rfl) :
  PD X (.Call (.Name "isinstance" p) [e,.Name Tn p2] [] pos) (isiG f g) :=
 .mk fun B δ=>(pe_callB (call_isi hT) hg hm PyProof.Rows.boot_isinstance (pa_cons (h B δ) (pa_cons (pe_bltn (v:=.ty T) hgT hmT hb rfl hn hd) pa_nil he2) he) (by decide) (by decide) he hpl).imp fun σ H Q ⟨d,en,h,k⟩=>by
  unfold isiG at h
  cases e1:g δ with
  | none=>rw [e1] at h; cases h
  | some x =>
   rw [e1] at h
   cases h
   exact ⟨x,en,e1,fun v H1 s1 r1=>⟨B,x,v,rfl,r1,k _ H1 s1 (by rw [rp_bl])⟩⟩
theorem op2_ii {K:W.Frag} {C:Int → Int → Prop} [∀ i j,Decidable (C i j)] {g:Int → Int → V} {g':Int → Int → D} (hg:∀ i j H B,Rp K H B (g' i j) (g i j)):Op2 K (rI C g) (ii fun i j=>if C i j then some (g' i j) else none):=by
 intro H B x y dx dy d Q hb rx ry h k
 cases dx <;> cases dy <;> simp only [ii] at h <;> try cases h
 rename_i i j
 split at h
 ·cases h
  rw [rp_int] at rx ry
  subst rx ry
  exact ⟨i,j,rfl,rfl,by assumption,k _ H (Same.refl H) (hg i j H B)⟩
 ·cases h
theorem op2_i0 {K:W.Frag} {g:Int → Int → V} {g':Int → Int → D} (hg:∀ i j H B,Rp K H B (g' i j) (g i j)):Op2 K (rI0 g) (ii fun i j=>some (g' i j)):=by
 intro H B x y dx dy d Q hb rx ry h k
 cases dx <;> cases dy <;> simp only [ii] at h <;> try cases h
 rename_i i j
 rw [rp_int] at rx ry
 subst rx ry
 exact ⟨i,j,rfl,rfl,k _ H (Same.refl H) (hg i j H B)⟩
instance decDiv (i j:Int):Decidable (CDiv i j):=inferInstanceAs (Decidable (0 < j ∧ j < 1073741824))
instance decPow (i j:Int):Decidable (CPow i j):=inferInstanceAs (Decidable (0 ≤ j ∧ j ≤ 1000000 ∧ i.natAbs < 2 ^ 64))
variable {e a b:Expr} {pos:Pos} {g ga gb:Ds → Option D}
theorem pd_sub (ha:PD X a ga) (hb:PD X b gb):PD X (.BinOp a .Sub b pos) (o2 ga gb subD):=pd_op op_sub (op2_i0 (g':=fun i j=>.int (i - j)) fun _ _ _ _=>by rw [rp_int]) ha hb
theorem pd_fdiv (ha:PD X a ga) (hb:PD X b gb):PD X (.BinOp a .FloorDiv b pos) (o2 ga gb fdivD):=pd_op op_fdiv (op2_ii (C:=CDiv) (g':=fun i j=>.int (i / j)) fun _ _ _ _=>by rw [rp_int]) ha hb
theorem pd_mod (ha:PD X a ga) (hb:PD X b gb):PD X (.BinOp a .Mod b pos) (o2 ga gb modD):=pd_op op_mod (op2_ii (C:=fun _ j=>0 < j) (g':=fun i j=>.int (i % j)) fun _ _ _ _=>by rw [rp_int]) ha hb
theorem pd_pow (ha:PD X a ga) (hb:PD X b gb):PD X (.BinOp a .Pow b pos) (o2 ga gb powD):=pd_op op_pow (op2_ii (C:=CPow) (g':=fun i j=>.int (i ^ j.toNat)) fun _ _ _ _=>by rw [rp_int]) ha hb
end
end DL
namespace L2
open PySem PySem.Spec PyProof.Rows
section
variable {X:Cx}
noncomputable def rCatL (K:W.Frag):R2:=fun x y H Q=>∃ l b xs zs,x = .ref l ∧ y = .ref b ∧ SqL K H l xs ∧ SqL K H b zs ∧ xs.length + zs.length ≤ sizeLine ∧ ∀ p,H p = none → Q (.ref p) (upd H p (.lst (xs ++ zs)))
theorem op_catL:OpR X (binaryOp .Add) (rCatL X.K):=by
 intro pins s σ H x y v u Q I rx ry h
 obtain ⟨l,b,xs,zs,rfl,rfl,hH,hB,hz,q⟩:=h
 cases rx
 cases ry
 obtain ⟨its,r,p1,z1⟩:=I.list hH
 obtain ⟨its2,r2,p2,z2⟩:=I.list hB
 obtain ⟨⟨cls,dd,data,sl⟩,ho,hc,n,hd⟩:=p1.isList
 obtain ⟨⟨cls2,dd2,data2,sl2⟩,ho2,hc2,n2,hd2⟩:=p2.isList
 simp only at hc hd hc2 hd2
 subst hc hd hc2 hd2
 have e:its.toArray ++ its2.toArray = (its ++ its2).toArray:=by simp
 have hsz:its.toArray.size + its2.toArray.size ≤ sizeLine:=by
  rw [List.size_toArray,List.size_toArray,← r.length,← r2.length]; exact hz
 refine concat_meets ⟨_,ho,rfl⟩ ⟨_,ho2,rfl⟩ noFill_list_add seq_list_add PySem.F.slot_list_add PySem.F.entry_list_add (PySem.F.args_list_add_2 _ _) (list_addW l b its.toArray its2.toArray n n2 dd dd2 sl sl2 hsz) ⟨ho,ho2,?_⟩
 rw [e]
 exact ⟨.ref _,_,I.lnew (t':=s.toks) (r.append r2) (by rw [List.length_append]; exact hz),rfl,q _ I.fresh⟩
end
end L2
namespace DL
open PySem PySem.Spec PyProof.Rows L2
section
variable {X:Cx} {K:W.Frag} {e a b:Expr} {es:List Expr} {pos p:Pos} {g ga gb:Ds → Option D} {gA:Ds → Option (List D)}
theorem fresh_not {H:Hp} {B:BS} (hb:∀ a,B a → H a ≠ none) {p:Addr} (h:H p = none):¬ B p:=fun z=>hb p z h
theorem rp_newL {H:Hp} {B:BS} {p:Addr} {ds:List D} {xs:List V} (hb:∀ a,B a → H a ≠ none) (h:H p = none) (r:Rps K H B ds xs):Rp K (upd H p (.lst xs)) B (.lst ds) (.ref p):=by
 rw [rp_lst]
 exact ⟨p,xs,rfl,.inl ⟨fresh_not hb h,.inl upd_same⟩,r.same (same_upd h)⟩
theorem rp_newT {H:Hp} {B:BS} {p:Addr} {ds:List D} {xs:List V} (hb:∀ a,B a → H a ≠ none) (h:H p = none) (r:Rps K H B ds xs):Rp K (upd H p (.tup xs)) B (.tup ds) (.ref p):=by
 rw [rp_tup]
 exact ⟨p,xs,rfl,⟨fresh_not hb h,upd_same⟩,r.same (same_upd h)⟩
theorem op2_lt:Op2 K (rI0 fun i j=>.bl (decide (i < j))) ltD:=op2_i0 (g':=fun i j=>.bl (decide (i < j))) fun _ _ _ _=>by rw [rp_bl]
theorem op2_le:Op2 K (rI0 fun i j=>.bl (decide (i ≤ j))) leD:=op2_i0 (g':=fun i j=>.bl (decide (i ≤ j))) fun _ _ _ _=>by rw [rp_bl]
theorem op2_gt:Op2 K (rI0 fun i j=>.bl (decide (j < i))) gtD:=op2_i0 (g':=fun i j=>.bl (decide (j < i))) fun _ _ _ _=>by rw [rp_bl]
theorem eqS_ok {H:Hp} {B:BS} {x y:V} {dx dy:D} {b:Bool} (rx:Rp K H B dx x) (ry:Rp K H B dy y) (h:eqS dx dy = some b):scal x y = true ∧ decide (x = y) = b:=by
 cases dx <;> cases dy <;> simp only [eqS] at h <;> try cases h
 all_goals
  simp only [rp_non,rp_bl,rp_int,rp_str] at rx ry
  subst rx ry
  refine ⟨rfl,?_⟩
  simp
theorem op2_eq:Op2 K rEq eqD:=by
 intro H B x y dx dy d Q hb rx ry h k
 unfold eqD at h
 cases e:eqS dx dy with
 | none=>rw [e] at h; cases h
 | some b =>
  rw [e] at h
  cases h
  obtain ⟨h1,h2⟩:=eqS_ok rx ry e
  exact ⟨h1,by rw [h2]; exact k _ H (Same.refl H) (by rw [rp_bl])⟩
theorem op2_isN:Op2 K (fun x y H Q=>y = .non ∧ Q (.bl (decide (x = .non))) H) isND:=by
 intro H B x y dx dy d Q hb rx ry h k
 have hy:dy = .non:=by cases dy <;> first | rfl | cases h
 subst hy
 cases h
 rw [rp_non] at ry
 refine ⟨ry,k _ H (Same.refl H) ?_⟩
 rw [rp_bl]
 cases dx <;> simp only [rp_non,rp_bl,rp_int,rp_str,rp_tup,rp_lst,rp_dctG] at rx
 all_goals first
  | (subst rx; rfl)
  | (obtain ⟨a,xs,rfl,_⟩:=rx; rfl)
theorem atI_eq {α:Type} (xs:List α) (i:Int):L2.atI xs i = DL.atI xs i:=rfl
theorem sIx_eq (n d:Nat) (o:Option Int):HT.sIx n d o = sIx n d o:=by cases o <;> rfl
theorem atI_rel {H:Hp} {B:BS} {ds:List D} {xs:List V} {i:Int} {d:D} (r:Rps K H B ds xs) (h:DL.atI ds i = some d):∃ v,L2.atI xs i = some v ∧ Rp K H B d v:=by
 rw [atI_eq]
 unfold DL.atI at h ⊢
 rw [r.length]
 cases e:DL.ixN ds.length i with
 | none=>rw [e] at h; cases h
 | some j =>
  rw [e] at h
  exact r.get h
theorem op2_ix:Op2 K (rIx K) ixD:=by
 intro H B x y dx dy d Q hb rx ry h k
 cases dx <;> cases dy <;> simp only [ixD] at h <;> try cases h
 ·split at h
  ·rename_i hz
   rw [rp_str] at rx
   rw [rp_int] at ry
   subst rx ry
   obtain ⟨c,hc,rfl⟩:=Option.map_eq_some_iff.mp h
   exact .inr (.inr ⟨_,_,c,rfl,rfl,hz,hc,k _ H (Same.refl H) (by rw [rp_str])⟩)
  ·cases h
 ·rw [rp_tup] at rx
  rw [rp_int] at ry
  subst ry
  obtain ⟨a,xs,rfl,q,r⟩:=rx
  obtain ⟨v,hv,rv⟩:=atI_rel r h
  exact .inr (.inl ⟨a,xs,_,v,rfl,rfl,q.to,hv,k _ H (Same.refl H) rv⟩)
 ·rw [rp_lst] at rx
  rw [rp_int] at ry
  subst ry
  obtain ⟨a,xs,rfl,q,r⟩:=rx
  obtain ⟨v,hv,rv⟩:=atI_rel r h
  exact .inl ⟨a,xs,_,v,rfl,rfl,q.to,hv,k _ H (Same.refl H) rv⟩
theorem pd_ix' (ha:PD X a ga) (hb:PD X b gb) (hs:PlainIx b:=by exact fun _ _=>rfl):PD X (.Subscript a b pos) (o2 ga gb ixD):=pd_ix ix_seq op2_ix ha hb hs
structure PDO (X:Cx) (e:Option Expr) (g:Ds → Option (Option Int)):Prop where
 mk :: go:∀ B δ,PO X e (fun σ H Q=>∃ o,Env X.K H B σ δ ∧ g δ = some o ∧ ∀ H',Same H H' → Q o H')
instance {X:Cx} {e:Option Expr} {g:Ds → Option (Option Int)}:CoeFun (PDO X e g) (fun _=>∀ B δ,PO X e (fun σ H Q=>∃ o,Env X.K H B σ δ ∧ g δ = some o ∧ ∀ H',Same H H' → Q o H')):=⟨PDO.go⟩
theorem pdo_none:PDO X none noneO:=.mk fun B δ pins s σ H Q I ⟨o,en,h,k⟩=>by
 cases h
 exact po_none pins s σ H Q I (k H (Same.refl H))
theorem pdo_some (h:PD X e g):PDO X (some e) (someO g):=.mk fun B δ pins s σ H Q I ⟨o,en,hq,k⟩=>by
 unfold someO at hq
 cases e1:g δ with
 | none=>rw [e1] at hq; cases hq
 | some d =>
  rw [e1] at hq
  cases d <;> simp [asI] at hq
  subst hq
  exact po_some (h B δ) pins s σ H Q I ⟨_,en,e1,fun v H' s' r=>⟨_,by rw [rp_int] at r; exact r,k H' s'⟩⟩
theorem cut_rel {H:Hp} {B:BS} {ds:List D} {xs:List V} (r:Rps K H B ds xs) (lo hi:Option Int):Rps K H B (cutD ds lo hi) (cutV xs lo hi):=by
 unfold cutD cutV
 rw [r.length,sIx_eq,sIx_eq]
 exact (r.drop _).take _
theorem rps_one {H:Hp} {B:BS} {d:D} {xs:List V} (h:Rps K H B [d] xs):∃ v,xs = [v] ∧ Rp K H B d v:=by
 rw [rps_cons] at h
 obtain ⟨x,r,rfl,h1,h2⟩:=h
 rw [rps_nil] at h2
 subst h2
 exact ⟨x,rfl,h1⟩
theorem fn_len:FnR K (fun xs H Q=>(∃ z,xs = [.str z] ∧ z.length ≤ sizeLine ∧ Q (.int z.length) H) ∨ ∃ p ys,xs = [.ref p] ∧ (SqL K H p ys ∨ SqT K H p ys) ∧ Q (.int ys.length) H) lenD:=by
 intro H B xs ds d Q hb r h k
 unfold lenD at h
 split at h
 ·split at h
  ·cases h
   obtain ⟨v,rfl,r1⟩:=rps_one r
   rw [rp_str] at r1
   subst r1
   exact .inl ⟨_,rfl,by assumption,k _ H (Same.refl H) (by rw [rp_int])⟩
  ·cases h
 ·cases h
  obtain ⟨v,rfl,r1⟩:=rps_one r
  rw [rp_lst] at r1
  obtain ⟨a,ys,rfl,q,rr⟩:=r1
  exact .inr ⟨a,ys,rfl,.inl q.to,k _ H (Same.refl H) (by rw [rp_int,rr.length])⟩
 ·cases h
  obtain ⟨v,rfl,r1⟩:=rps_one r
  rw [rp_tup] at r1
  obtain ⟨a,ys,rfl,q,rr⟩:=r1
  exact .inr ⟨a,ys,rfl,.inr q.to,k _ H (Same.refl H) (by rw [rp_int,rr.length])⟩
 ·cases h
theorem pd_len (hm:X.mg "len" = none) (ha:PDA X [e] gA) (hg:Gl X "len" := by rfl) (he:starEach [e] X.env = (false,eval e X.env) :: starEach [] X.env:=by rfl) (hpl:(backTo pos (starEach [] X.env)).any (·.1) = false:=by rfl) :
  PD X (.Call (.Name "len" p) [e] [] pos) (oA gA lenD):=pd_callB (call_len_str.or call_len_seq) fn_len hm PySem.boot_len ha hg (by decide) (by decide) he hpl
theorem bools_rel {H:Hp} {B:BS}:∀ {ds:List D} {xs:List V} {bs:List Bool},Rps K H B ds xs → bools ds = some bs → xs = bs.map V.bl
 | [],_,_,r,h=>by
  cases h
  rw [rps_nil] at r
  exact r
 | d :: ds,_,bs,r,h=>by
  rw [rps_cons] at r
  obtain ⟨x,t,rfl,r1,r2⟩:=r
  cases d <;> simp only [bools] at h <;> try cases h
  obtain ⟨t',e,rfl⟩:=Option.map_eq_some_iff.mp h
  rw [rp_bl] at r1
  rw [r1,bools_rel r2 e]
  rfl
theorem fn_all:FnR K (fun xs H Q=>∃ (p:Addr) (bs:List Bool),xs = [.ref p] ∧ SqL K H p (bs.map V.bl) ∧ Q (.bl (bs.all id)) H) allD:=by
 intro H B xs ds d Q hb r h k
 unfold allD at h
 split at h
 ·obtain ⟨bs,e,rfl⟩:=Option.map_eq_some_iff.mp h
  obtain ⟨v,rfl,r1⟩:=rps_one r
  rw [rp_lst] at r1
  obtain ⟨a,ys,rfl,q,rr⟩:=r1
  have:=bools_rel rr e
  subst this
  exact ⟨a,bs,rfl,q.to,k _ H (Same.refl H) (by rw [rp_bl])⟩
 ·cases h
theorem strL_rel {H:Hp} {B:BS}:∀ {ds:List D} {xs:List V} {bs:List Str},Rps K H B ds xs → strL ds = some bs → xs = bs.map V.str
 | [],_,_,r,h=>by
  cases h
  rw [rps_nil] at r
  exact r
 | d :: ds,_,bs,r,h=>by
  rw [rps_cons] at r
  obtain ⟨x,t,rfl,r1,r2⟩:=r
  cases d <;> simp only [strL] at h <;> try cases h
  obtain ⟨t',e,rfl⟩:=Option.map_eq_some_iff.mp h
  rw [rp_str] at r1
  rw [r1,strL_rel r2 e]
  rfl
theorem pd_join {o:Expr} {apos cpos:Pos} (ho:PD X o g) (ha:PDA X [e] gA) (hbase:attributeBase o "join" X.env (eval o X.env) = eval o X.env:=by rfl)
  (hfew:((backTo cpos (starEach [e] X.env)).all (fun x=>!x.1) && (backToKw cpos (keywordEach [] X.env)).all (fun x=>x.1.isSome)
   && decide ([e].length + ([]:List Keyword).length + (if ([]:List Keyword).isEmpty then 0 else 1) < 30)) = true:=by rfl)
  (hline:(apos.endLine == cpos.line) = true:=by rfl) (hs:starEach [e] X.env = (false,eval e X.env) :: starEach [] X.env:=by rfl) (hplain:(backTo cpos (starEach [] X.env)).any (·.1) = false:=by rfl) :
  PD X (.Call (.Attribute o "join" apos) [e] [] cpos) (joinG g gA):=.mk fun B δ =>
 (pe_bm F.plainAttrs_str F.slot_str_join F.type_str_join mt_join (ho B δ) (ha B δ) hbase hfew hline hs hplain).imp fun σ H Q ⟨d,en,h,k⟩=>by
  unfold joinG at h
  cases e1:g δ with
  | none=>rw [e1] at h; cases h
  | some x =>
   cases e2:gA δ with
   | none=>rw [e1,e2] at h; cases h
   | some ds =>
    rw [e1,e2] at h
    simp only [Option.bind_some] at h
    unfold joinD at h
    split at h
    ·cases e3:strL _ with
     | none=>rw [e3] at h; cases h
     | some ys =>
      rw [e3] at h
      simp only [Option.bind_some] at h
      split at h
      ·cases h
       refine ⟨_,en,e1,fun v H1 s1 r1=>?_⟩
       rw [rp_str] at r1
       subst r1
       refine ⟨rfl,_,en.same s1,e2,fun vs H2 s2 r2=>?_⟩
       obtain ⟨w,rfl,r3⟩:=rps_one r2
       rw [rp_lst] at r3
       obtain ⟨a,zs,rfl,q,rr⟩:=r3
       have:=strL_rel rr e3
       subst this
       exact ⟨_,a,ys,rfl,rfl,q.to,by assumption,k _ H2 (s1.trans s2) (by rw [rp_str])⟩
      ·cases h
    ·cases h
theorem fn_tup:FnR K (fun xs H Q=>∃ p ys,xs = [.ref p] ∧ ((SqL K H p ys ∧ ∀ l,H l = none → Q (.ref l) (upd H l (.tup ys))) ∨ (SqT K H p ys ∧ Q (.ref p) H))) tupOfD:=by
 intro H B xs ds d Q hb r h k
 unfold tupOfD at h
 split at h
 ·cases h
  obtain ⟨v,rfl,r1⟩:=rps_one r
  rw [rp_lst] at r1
  obtain ⟨a,ys,rfl,q,rr⟩:=r1
  exact ⟨a,ys,rfl,.inl ⟨q.to,fun l hl=>k _ _ (same_upd hl) (rp_newT hb hl rr)⟩⟩
 ·cases h
  obtain ⟨v,rfl,r1⟩:=rps_one r
  have r1':=r1
  rw [rp_tup] at r1
  obtain ⟨a,ys,rfl,q,rr⟩:=r1
  exact ⟨a,ys,rfl,.inr ⟨q.to,k _ H (Same.refl H) r1'⟩⟩
 ·cases h
end
section
variable {X:Cx} {K:W.Frag} {e a b:Expr} {es:List Expr} {pos p:Pos} {g ga gb:Ds → Option D} {gA:Ds → Option (List D)}
theorem pd_neg (h:PD X a ga):PD X (.UnaryOp .USub a pos) (unG negD ga):=.mk fun B δ=>(pe_un un_neg (h B δ)).imp fun σ H Q ⟨d,en,h,k⟩=>by
 unfold unG at h
 cases e1:ga δ with
 | none=>rw [e1] at h; cases h
 | some x =>
  rw [e1] at h
  cases x <;> simp [negD] at h
  subst h
  exact ⟨_,en,e1,fun v H' s r=>⟨_,by rw [rp_int] at r; exact r,k _ H' s (by rw [rp_int])⟩⟩
noncomputable def FnD (P:Program) (w:World) (K:W.Frag) (mg:Str → Option Value) (base:Heap) (x:Str) (k:Nat) (ps:List Str) (f:List D → Option D):Prop :=
 ∃ (fa:Addr) (fd:FuncData),FnOk P w K mg base CX0 k fa fd ps (spD K f) ∧ mg x = some (.ref fa) ∧ W.keepIn K (.ref fa) = true ∧ Binds K fd ps []
theorem pd_fn {k m:Nat} {ps:List Str} {x:Str} {f:List D → Option D} (C:FnD X.prog X.w X.K X.mg X.base x k ps f) (hr:Room m X.A) (hk:k ≤ m) (ha:PDA X (e :: es) gA) (hg:Gl X x:=by rfl) (hdb:(x == ("__debug__" : Str)) = false:=by decide)
  (he:starEach (e :: es) X.env = (false,eval e X.env) :: starEach es X.env:=by rfl) (hpl:(backTo pos (starEach es X.env)).any (·.1) = false:=by rfl):PD X (.Call (.Name x p) (e :: es) [] pos) (oA gA f):=by
 obtain ⟨fa,fd,F,hm,kp,hb⟩:=C
 exact pd_call F (hr.mono hk) hm kp hb ha hg hdb he hpl
theorem pd_cmpD {sc scope:Scope} {elt iter tg:Expr} {ifs:List Expr} {N N':List Str} {n:Nat} {caps:List Nat} {gi:Ds → Option (List D)} {idx:List Nat} {f:D → Ds → Option Ds} {gt:Ds → Option Bool} {ge:Ds → Option D}
  (ok:CompOk sc scope N N' n caps) (hidx:∀ j ∈ idx,j < n) (hi:PID X tg iter gi)
  (hg:∀ cl s H ex,PGD (cxComp X scope cl N' s H ex) tg idx f) (ht:∀ cl s H ex,PFD (cxComp X scope cl N' s H ex) ifs gt) (he:∀ cl s H ex,PD (cxComp X scope cl N' s H ex) elt ge)
  (hc:X.calm = true:=by rfl) (hsc:X.env.scope = sc:=by rfl) (hN:X.N = N:=by rfl) (hs:∀ x,foldedSetIterable iter X.env x = pure x:=by intro _; rfl) :
  PD X (.ListComp elt [⟨tg,iter,ifs,0⟩] scope pos) (compG n caps gi f gt ge):=pd_comp hc hsc (hN ▸ ok) hidx hi hg ht he hs
theorem psd_cmpD (i:Nat) {y:Str} {py spos:Pos} {sc scope:Scope} {elt iter tg:Expr} {ifs:List Expr} {N N':List Str} {n:Nat} {caps:List Nat} {gi:Ds → Option (List D)} {idx:List Nat} {f:D → Ds → Option Ds} {gt:Ds → Option Bool} {ge:Ds → Option D}
  (hnd:N.Nodup) (ok:CompOk sc scope N N' n caps) (hidx:∀ j ∈ idx,j < n) (hi:PID X tg iter gi)
  (hg:∀ cl s H ex,PGD (cxComp X scope cl N' s H ex) tg idx f) (ht:∀ cl s H ex,PFD (cxComp X scope cl N' s H ex) ifs gt) (he:∀ cl s H ex,PD (cxComp X scope cl N' s H ex) elt ge)
  (hc:X.calm = true:=by rfl) (hsc:X.env.scope = sc:=by rfl) (hN:X.N = N:=by rfl)
  (hiN:X.N[i]? = some y:=by rfl) (hy:Loc X.env.scope y:=by first | exact Or.inl rfl | exact Or.inr rfl)
  (hsw:swapsWith (.ListComp elt [⟨tg,iter,ifs,0⟩] scope pos) (some (.Name y py)) spos.line X.env = pure true:=by rfl)
  (hs:∀ x,foldedSetIterable iter X.env x = pure x:=by intro _; rfl)
  (hf:X.fn y = true ∨ X.env.scope.names.lookup y = some .local:=by first | exact .inl rfl | exact .inr rfl | assumption) :
  PSD X (.Assign [.Name y py] (.ListComp elt [⟨tg,iter,ifs,0⟩] scope pos) spos) (setD (gN i) (compG n caps gi f gt ge)):=psd_setComp i (hN ▸ hnd) hc hsc (hN ▸ ok) hidx hi hg ht he hiN hy hsw hs hf
end
end DL
namespace DL
open PySem PySem.Spec PyProof.Rows
@[simp] noncomputable def frz1:Sl → Sl
 | .ow d=>.sh (unl d)
 | s=>s
@[simp] noncomputable def frz (δ:Ds):Ds:=δ.map frz1
@[simp] noncomputable def flat:D → Bool
 | .non=>true | .bl _=>true | .int _=>true | .str _=>true | _=>false
@[simp] noncomputable def borE (g:GE):GE:=fun δ=>(g (frz δ)).bind fun d=>if flat d = true then some d else none
@[simp] noncomputable def borB (g:GB):GB:=fun δ=>g (frz δ)
@[simp] noncomputable def borA (g:GE):GE:=fun δ=>g (frz δ)
@[simp] noncomputable def frzAt (i:Nat) (δ:Ds):Ds:=match δ[i]? with
 | some s=>δ.set i (frz1 s)
 | none=>δ
@[simp] noncomputable def frzS (i:Nat) (G:GS):GS:=fun δ=>G (frzAt i δ)
@[simp] noncomputable def ownD (i:Nat) (g:GE):GS:=fun δ=>(g δ).map fun d=>.nx (δ.set i (.ow d))
noncomputable abbrev GX:=Ds → Option (D × Ds)
@[simp] noncomputable def pureX (g:GE):GX:=fun δ=>(g δ).map fun d=>(d,δ)
@[simp] noncomputable def asgX (gx:GX) (ft:D → Ds → Option Ds):GS:=fun δ=>(gx δ).bind fun r=>(ft r.1 r.2).map .nx
@[simp] noncomputable def exprX (gx:GX):GS:=fun δ=>(gx δ).map fun r=>.nx r.2
@[simp] noncomputable def owL (i:Nat) (δ:Ds):Option (List D):=match δ[i]? with
 | some (.ow (.lst ds))=>some ds
 | _=>none
@[simp] noncomputable def appX (i:Nat) (g:GE):GX:=fun δ=>(owL i δ).bind fun ds=>(g δ).bind fun d=>if ds.length < sizeLine then some (.non,δ.set i (.ow (.lst (ds ++ [d])))) else none
@[simp] noncomputable def popX (i:Nat):GX:=fun δ=>(owL i δ).bind fun ds=>(ds.getLast?).map fun d=>(d,δ.set i (.ow (.lst ds.dropLast)))
@[simp] noncomputable def popAtX (i:Nat) (g:GE):GX:=fun δ=>(owL i δ).bind fun ds=>(g δ).bind fun d=>match d with
 | .int k=>if 0 ≤ k ∧ k < ds.length then (ds[k.toNat]?).map fun d=>(d,δ.set i (.ow (.lst (ds.eraseIdx k.toNat)))) else none
 | _=>none
@[simp] noncomputable def setAt (i:Nat) (g:GE):D → Ds → Option Ds:=fun v δ=>(owL i δ).bind fun ds=>(g δ).bind fun d=>match d with
 | .int k=>(ixN ds.length k).map fun j=>δ.set i (.ow (.lst (ds.set j v)))
 | _=>none
noncomputable abbrev KeyD:=Sum Int Str
@[simp] noncomputable def asKey:D → Option KeyD
 | .int i=>some (.inl i)
 | .str x=>some (.inr x)
 | _=>none
noncomputable def asKeys:List D → Option (List KeyD)
 | []=>some []
 | d :: ds=>(asKey d).bind fun k=>(asKeys ds).map (k :: ·)
@[simp] noncomputable def asKeyT:D → Option (List KeyD)
 | .tup ds=>asKeys ds
 | _=>none
noncomputable def getK {κ:Type} [DecidableEq κ]:List κ → List D → κ → Option D
 | k :: ks,d :: ds,q=>if k = q then some d else getK ks ds q
 | _,_,_=>none
noncomputable def hasK {κ:Type} [DecidableEq κ] (ks:List κ) (k:κ):Bool:=ks.any fun q=>decide (q = k)
noncomputable def putKs {κ:Type} [DecidableEq κ] (ks:List κ) (k:κ):List κ:=if hasK ks k = true then ks else ks ++ [k]
noncomputable def putDs {κ:Type} [DecidableEq κ] (ks:List κ) (ds:List D) (q:κ) (v:D):List D:=if hasK ks q = true then (ks.zip ds).map (fun p=>if p.1 = q then v else p.2) else ds ++ [v]
@[simp] noncomputable def owDc (i:Nat) (δ:Ds):Option (List KeyD × List D):=match δ[i]? with
 | some (.ow (.dct (.inl ks) ds))=>some (ks,ds)
 | _=>none
@[simp] noncomputable def putAt (i:Nat) (g:GE):D → Ds → Option Ds:=fun v δ=>(owDc i δ).bind fun r=>(g δ).bind fun d=>(asKey d).bind fun k =>
 if r.1.length < sizeLine then some (δ.set i (.ow (.dct (.inl (putKs r.1 k)) (putDs r.1 r.2 k v)))) else none
@[simp] noncomputable def owDt (i:Nat) (δ:Ds):Option (List (List KeyD) × List D):=match δ[i]? with
 | some (.ow (.dct (.inr ks) ds))=>some (ks,ds)
 | _=>none
@[simp] noncomputable def putAtT (i:Nat) (g:GE):D → Ds → Option Ds:=fun v δ=>(owDt i δ).bind fun r=>(g δ).bind fun d=>(asKeyT d).bind fun k =>
 if r.1.length < sizeLine then some (δ.set i (.ow (.dct (.inr (putKs r.1 k)) (putDs r.1 r.2 k v)))) else none
@[simp] noncomputable def inDctD (neg:Bool):D → D → Option D
 | d,.dct ks ds=>match ks with
  | .inl ks=>(asKey d).map fun k=>.bl (xor neg (hasK ks k))
  | .inr ks=>(asKeyT d).map fun k=>.bl (xor neg (hasK ks k))
 | _,_=>none
noncomputable def whileD (gt:GB) (G:GS):Nat → Ds → Option Res
 | 0,_=>none
 | n + 1,δ=>match gt δ with
  | some false=>some (.nx δ)
  | some true=>match G δ with
   | some (.nx δ')=>whileD gt G n δ'
   | some (.ct δ')=>whileD gt G n δ'
   | some (.bk δ')=>some (.nx δ')
   | r=>r
  | none=>none
@[simp] noncomputable def tup2 (i j:Nat):D → Ds → Option Ds
 | .tup [a,b],δ=>some ((δ.set i (.sh a)).set j (.sh b))
 | _,_=>none
mutual
noncomputable def deq:D → D → Bool
 | .non,.non=>true
 | .bl a,.bl b=>a == b
 | .bl a,.int b=>(if a then 1 else 0) == b
 | .int a,.bl b=>a == (if b then 1 else 0)
 | .int a,.int b=>a == b
 | .str a,.str b=>a == b
 | .tup xs,.tup ys=>deqs xs ys
 | .lst xs,.lst ys=>deqs xs ys
 | _,_=>false
noncomputable def deqs:List D → List D → Bool
 | [],[]=>true
 | x :: xs,y :: ys=>deq x y && deqs xs ys
 | _,_=>false
end
mutual
noncomputable def lean:D → Nat → Bool
 | .dct _ _,_=>false
 | .tup xs,n + 1=>leans xs n
 | .lst xs,n + 1=>leans xs n
 | .tup _,0=>false
 | .lst _,0=>false
 | _,_=>true
noncomputable def leans:List D → Nat → Bool
 | [],_=>true
 | x :: xs,n=>lean x n && leans xs n
end
@[simp] noncomputable def eqDD (x y:D):Option D:=if lean x 50 = true ∧ lean y 50 = true then some (.bl (deq x y)) else none
@[simp] noncomputable def neDD (x y:D):Option D:=if lean x 50 = true ∧ lean y 50 = true then some (.bl (!deq x y)) else none
@[simp] noncomputable def eqF:D → D → Bool
 | .non,.non=>true
 | .bl a,.bl b=>a == b
 | .bl a,.int b=>(if a then 1 else 0) == b
 | .int a,.bl b=>a == (if b then 1 else 0)
 | .int a,.int b=>a == b
 | .str a,.str b=>a == b
 | _,_=>false
@[simp] noncomputable def inSeqD (neg:Bool):D → D → Option D
 | x,.lst ys=>if flat x = true ∧ ys.all flat = true then some (.bl (xor neg (ys.any fun y=>eqF y x))) else none
 | x,.tup ys=>if flat x = true ∧ ys.all flat = true then some (.bl (xor neg (ys.any fun y=>eqF y x))) else none
 | _,_=>none
@[simp] noncomputable def intOfD:List D → Option D
 | [.int i]=>some (.int i)
 | [.bl k]=>some (.int (if k then 1 else 0))
 | _=>none
@[simp] noncomputable def lstOfD:List D → Option D
 | [.lst ds]=>some (.lst ds)
 | [.tup ds]=>some (.lst ds)
 | _=>none
noncomputable def mkF (n:Nat) (N:List Str) (G:GS) (ds:List D):Option D:=if ds.length = n then (match G (dStart N ds) with
 | some (.rt d)=>some d
 | some (.rf d)=>if isL d = true then none else some d
 | some (.nx _)=>some .non
 | _=>none) else none
theorem mkF_ok {n:Nat} {N:List Str} {G:GS} {ds:List D} {d:D} (h:mkF n N G ds = some d):ds.length = n ∧ (G (dStart N ds) = some (.rt d) ∨ (d = .non ∧ ∃ δ,G (dStart N ds) = some (.nx δ)) ∨ G (dStart N ds) = some (.rf d) ∧ isL d = false):=by
 unfold mkF at h
 split at h
 ·rename_i hl
  refine ⟨hl,?_⟩
  split at h
  ·rename_i e; cases h; exact .inl e
  ·rename_i e
   split at h
   ·cases h
   ·rename_i hn
    cases h
    exact .inr (.inr ⟨e,Bool.eq_false_iff.mpr hn⟩)
  ·rename_i e; cases h; exact .inr (.inl ⟨rfl,_,e⟩)
  ·cases h
 ·cases h
noncomputable def mkN (n:Nat) (N:List Str) (G:GS) (ds:List D):Option D:=if ds.length = n then (match G (dStart N ds) with
 | some (.rf d)=>if isL d = true then none else some d
 | _=>none) else none
theorem mkN_ok {n:Nat} {N:List Str} {G:GS} {ds:List D} {d:D} (h:mkN n N G ds = some d):ds.length = n ∧ G (dStart N ds) = some (.rf d) ∧ isL d = false:=by
 unfold mkN at h
 split at h
 ·rename_i hl
  refine ⟨hl,?_⟩
  split at h
  ·rename_i e
   split at h
   ·cases h
   ·rename_i hn
    cases h
    exact ⟨e,Bool.eq_false_iff.mpr hn⟩
  ·cases h
 ·cases h
theorem mkN_rf {n:Nat} {N:List Str} {G:GS} {ds:List D} {d:D} (hl:ds.length = n) (h:G (dStart N ds) = some (.rf d)) (hn:isL d = false:=by rfl):mkN n N G ds = some d:=by
 unfold mkN
 rw [if_pos hl,h]
 simp only []
 rw [hn]
 rfl
@[simp] noncomputable def retF (g:GE):GS:=fun δ=>(g δ).map .rf
@[simp] noncomputable def retO (i:Nat):GS:=fun δ=>match δ[i]? with
 | some (.ow d)=>some (.rf d)
 | _=>none
theorem seq_rf {G1 G2:GS} {δ:Ds} {d:D} (h:G1 δ = some (.rf d)):seqD G1 G2 δ = some (.rf d):=by unfold seqD; rw [h]
theorem retF_of {g:GE} {δ:Ds} {d:D} (h:g δ = some d):retF g δ = some (.rf d):=by unfold retF; rw [h]; rfl
theorem mkF_rt {n:Nat} {N:List Str} {G:GS} {ds:List D} {d:D} (hl:ds.length = n) (h:G (dStart N ds) = some (.rt d)):mkF n N G ds = some d:=by
 unfold mkF
 rw [if_pos hl,h]
theorem seq_to {G1 G2:GS} {δ δ':Ds} {r:Option Res} (h:G1 δ = some (.nx δ')) (k:G2 δ' = r):seqD G1 G2 δ = r:=(seq_nx h).trans k
@[simp] noncomputable def addA:D → D → Option D
 | .int i,.int j=>some (.int (i + j))
 | .str x,.str y=>if x.length + y.length ≤ sizeLine then some (.str (x ++ y)) else none
 | .lst xs,.lst ys=>if xs.length + ys.length ≤ sizeLine then some (.lst (xs ++ ys)) else none
 | .tup xs,.tup ys=>if xs.length + ys.length ≤ sizeLine then some (.tup (xs ++ ys)) else none
 | _,_=>none
noncomputable def repD (x:Str) (n:Int):Str:=⟨(List.replicate n.toNat x.cps).foldl (· ++ ·) #[]⟩
@[simp] noncomputable def mulA:D → D → Option D
 | .int i,.int j=>if (-(2 ^ 64) < i ∧ i < 2 ^ 64) ∨ (-(2 ^ 64) < j ∧ j < 2 ^ 64) then some (.int (i * j)) else none
 | .str x,.int n=>if -(2 ^ 62) ≤ n ∧ n < 2 ^ 62 ∧ x.length * n.toNat ≤ sizeLine then some (.str (repD x n)) else none
 | .tup xs,.int k=>if xs ≠ [] ∧ 2 ≤ k ∧ k < 2 ^ 62 ∧ xs.length * k.toNat ≤ sizeLine then some (.tup (List.replicate k.toNat xs).flatten) else none
 | _,_=>none
@[simp] noncomputable def slA (d:D) (lo hi:Option Int):Option D:=match d with
 | .str z=>if z.length ≤ sizeLine then some (.str (Txt.slice z lo hi)) else none
 | .lst xs=>some (.lst (cutD xs lo hi))
 | .tup xs=>some (.tup (cutD xs lo hi))
 | _=>none
@[simp] noncomputable def slAG (g:GE) (gl gh:GO):GE:=fun δ=>(g δ).bind fun d=>(gl δ).bind fun l=>(gh δ).bind fun h=>slA d l h
end DL
set_option maxHeartbeats 0
namespace L2
open PySem PySem.Spec PyProof.Rows
section
variable {κ:Type} [DecidableEq κ]
noncomputable def valV (kvs:List (κ × V)) (k:κ):Option V:=(kvs.find? fun kv=>decide (kv.1 = k)).map (·.2)
noncomputable def putK (kvs:List (κ × V)) (k:κ) (v:V):List (κ × V) :=
 if (kvs.any fun kv=>decide (kv.1 = k)) = true then kvs.map (fun kv=>if kv.1 = k then (kv.1,v) else kv) else kvs ++ [(k,v)]
theorem valV_pos {p:κ × V} {r:List (κ × V)} {k:κ} (e:p.1 = k):valV (p :: r) k = some p.2:=by simp [valV,List.find?_cons,e]
theorem valV_neg {p:κ × V} {r:List (κ × V)} {k:κ} (e:¬ p.1 = k):valV (p :: r) k = valV r k:=by simp [valV,List.find?_cons,e]
theorem valV_any (k:κ):∀ kvs:List (κ × V),(kvs.any fun kv=>decide (kv.1 = k)) = (valV kvs k).isSome
 | []=>rfl
 | p :: r=>by
  rw [List.any_cons]
  by_cases e:p.1 = k
  ·simp only [valV_pos e,decide_eq_true e,Bool.true_or,Option.isSome_some]
  ·rw [valV_neg e,decide_eq_false e,Bool.false_or]; exact valV_any k r
theorem length_putK (kvs:List (κ × V)) (k:κ) (v:V):(putK kvs k v).length ≤ kvs.length + 1:=by
 unfold putK
 split
 ·rw [List.length_map]; omega
 ·rw [List.length_append,List.length_cons,List.length_nil]; omega
theorem RelO.isSome_eq {o:Option V} {u:Option Value} (r:RelO o u):o.isSome = u.isSome:=by
 cases o with
 | none=>cases u with
  | none=>rfl
  | some _=>exact (show False from r).elim
 | some _=>cases u with
  | none=>exact (show False from r).elim
  | some _=>rfl
theorem KV.val {kvs:List (κ × V)} {vs:List (κ × Value)} (r:KV kvs vs) (k:κ):RelO (valV kvs k) (valueAt vs k):=by
 unfold KV at r
 induction r with
 | nil=>exact True.intro
 | @cons p q ps qs h t ih =>
  obtain ⟨h1,h2⟩:=h
  by_cases e:p.1 = k
  ·have e':q.1 = k:=h1.symm.trans e
   have b:valueAt (q :: qs) k = some q.2:=by simp [valueAt,List.find?_cons,e']
   rw [valV_pos e,b]; exact h2
  ·have e':¬ q.1 = k:=fun z=>e (h1.trans z)
   have b:valueAt (q :: qs) k = valueAt qs k:=by simp [valueAt,List.find?_cons,e']
   rw [valV_neg e,b]; exact ih
theorem KV.any {kvs:List (κ × V)} {vs:List (κ × Value)} (r:KV kvs vs) (k:κ):(kvs.any fun kv=>decide (kv.1 = k)) = vs.any fun kv=>decide (kv.1 = k):=by
 unfold KV at r
 induction r with
 | nil=>rfl
 | cons h t ih=>rw [List.any_cons,List.any_cons,ih,h.1]
theorem KV.repl {kvs:List (κ × V)} {vs:List (κ × Value)} (r:KV kvs vs) (k:κ) {y:V} {u:Value} (ry:RelV y u) :
  KV (kvs.map fun kv=>if kv.1 = k then (kv.1,y) else kv) (vs.map fun kv=>if kv.1 = k then (kv.1,u) else kv):=by
 unfold KV at r ⊢
 induction r with
 | nil=>exact .nil
 | @cons p q ps qs h t ih =>
  rw [List.map_cons,List.map_cons]
  refine .cons ?_ ih
  obtain ⟨h1,h2⟩:=h
  by_cases e:p.1 = k
  ·rw [if_pos e,if_pos (h1.symm.trans e)]; exact ⟨h1,ry⟩
  ·rw [if_neg e,if_neg (fun z=>e (h1.trans z))]; exact ⟨h1,h2⟩
theorem KV.put {kvs:List (κ × V)} {vs:List (κ × Value)} (r:KV kvs vs) (k:κ) {y:V} {u:Value} (ry:RelV y u):KV (putK kvs k y) (stored vs k u):=by
 unfold putK stored
 rw [r.any k]
 by_cases e:(vs.any fun kv=>decide (kv.1 = k)) = true
 ·rw [if_pos e,if_pos e]; exact r.repl k ry
 ·rw [if_neg e,if_neg e]; exact Paired.snoc r ⟨rfl,ry⟩
theorem KV.length {kvs:List (κ × V)} {vs:List (κ × Value)} (r:KV kvs vs):kvs.length = vs.length:=Paired.length r
end
theorem kV_is {P:Program} {w:World} {k:Key} {u:Value} (r:RelV (kV k) u):(mixKind P w).is k u = true:=by
 cases k with
 | inl i=>obtain ⟨t,e⟩:=(show ∃ t,u = Value.int i t from r); subst e; exact mixKind_int P w i t
 | inr x=>obtain ⟨t,e⟩:=(show ∃ t,u = Value.str x t from r); subst e; exact mixKind_str P w x t
theorem items_are {P:Program} {w:World}:∀ {ks:List Key} {us:List Value},Vals (ks.map kV) us → ItemsAre (mixKind P w) ks us
 | [],_,r=>by rw [List.map_nil] at r; cases r; exact .nil
 | k :: ks,_,r=>by
  rw [List.map_cons] at r
  cases r with
  | cons h t=>exact .cons (kV_is h) (items_are t)
noncomputable abbrev KT (H:Hp):List (List Key × V) → List (List Key × Addr × Value) → Prop:=Paired fun p q=>p.1 = q.1 ∧ H q.2.1 = some (.tup (p.1.map kV)) ∧ RelV p.2 q.2.2
theorem KT.val {H:Hp} {kvs:List (List Key × V)} {xs:List (List Key × Addr × Value)} (r:KT H kvs xs) (k:List Key):RelO (valV kvs k) ((atKey xs k).map (·.2)):=by
 induction r with
 | nil=>exact True.intro
 | @cons p q ps qs h t ih =>
  obtain ⟨h1,_,h2⟩:=h
  by_cases e:p.1 = k
  ·have e':q.1 = k:=h1.symm.trans e
   have b:atKey (q :: qs) k = some q.2:=by simp [atKey,List.find?_cons,e']
   rw [valV_pos e,b]; exact h2
  ·have e':¬ q.1 = k:=fun z=>e (h1.trans z)
   have b:atKey (q :: qs) k = atKey qs k:=by simp [atKey,List.find?_cons,e']
   rw [valV_neg e,b]; exact ih
theorem KT.repl {H:Hp} {kvs:List (List Key × V)} {xs:List (List Key × Addr × Value)} (r:KT H kvs xs) (k:List Key) {y:V} {u:Value} (ry:RelV y u) :
  KT H (kvs.map fun kv=>if kv.1 = k then (kv.1,y) else kv) (xs.map (putAt k u)):=by
 induction r with
 | nil=>exact .nil
 | @cons p q ps qs h t ih =>
  rw [List.map_cons,List.map_cons]
  refine .cons ?_ ih
  obtain ⟨h1,h2,h3⟩:=h
  unfold putAt
  by_cases e:p.1 = k
  ·rw [if_pos e,if_pos (h1.symm.trans e)]; exact ⟨h1,h2,ry⟩
  ·rw [if_neg e,if_neg (fun z=>e (h1.trans z))]; exact ⟨h1,h2,h3⟩
theorem KT.put {H:Hp} {kvs:List (List Key × V)} {xs:List (List Key × Addr × Value)} (r:KT H kvs xs) (k:List Key) {b:Addr} {y:V} {u:Value} (hb:H b = some (.tup (k.map kV))) (ry:RelV y u) :
  KT H (putK kvs k y) (storedH xs k b u):=by
 have e:(kvs.any fun kv=>decide (kv.1 = k)) = (atKey xs k).isSome:=by
  rw [valV_any,(r.val k).isSome_eq,Option.isSome_map]
 unfold putK storedH
 rw [e]
 by_cases q:(atKey xs k).isSome = true
 ·rw [if_pos q,if_pos q]; exact r.repl k ry
 ·rw [if_neg q,if_neg q]; exact Paired.snoc r ⟨rfl,hb,ry⟩
theorem KT.keeps {H H':Hp} {kvs:List (List Key × V)} {xs:List (List Key × Addr × Value)} (r:KT H kvs xs) (ht:∀ b ys,H b = some (.tup ys) → H' b = some (.tup ys)):KT H' kvs xs :=
 Paired.mapP r fun _ _ z=>⟨z.1,ht _ _ z.2.1,z.2.2⟩
section
variable {P:Program} {w:World} {H:Hp} {h:Heap} {a:Addr}
theorem rd_of {u:HO} (ok:HOk P w H h) (e:Rd H a u):ObjOk P w H h a u:=e.ok ok
theorem dk_rd {kvs:List (Key × V)} (ok:HOk P w H h) (e:Rd H a (.dK kvs)):kvs.length ≤ sizeLine ∧ (a == sysModules) = false ∧ ∃ vs,KV kvs vs ∧ h.DictOf (mixKind P w) a vs :=
 show ObjOk P w H h a (.dK kvs) from rd_of ok e
theorem dk_of {kvs:List (Key × V)} (ok:HOk P w H h) (e:H a = some (.dK kvs)):kvs.length ≤ sizeLine ∧ (a == sysModules) = false ∧ ∃ vs,KV kvs vs ∧ h.DictOf (mixKind P w) a vs:=dk_rd ok (.inl e)
theorem key_of {ks:List Key} (ok:HOk P w H h) (e:H a = some (.tup (ks.map kV))):(tupleKind (mixKind P w)).is h ks a:=by
 obtain ⟨_,its,r,o,h1,h2,n,h3,_⟩:=(show ObjOk P w H h a (.tup (ks.map kV)) from ok a _ e)
 exact ⟨o,its.toArray,n,h1,h2,h3,by simpa using items_are r⟩
theorem dt_rd {kvs:List (List Key × V)} (ok:HOk P w H h) (e:Rd H a (.dT kvs)):kvs.length ≤ sizeLine ∧ (a == sysModules) = false ∧
  ∃ xs,KT H kvs xs ∧ h.DictOfH (tupleKind (mixKind P w)) a xs:=by
 obtain ⟨z,y,xs,r,o,es,ep,h1,h2,h3,h4,h5⟩:=(show ObjOk P w H h a (.dT kvs) from rd_of ok e)
 refine ⟨z,y,xs,r,o,es,ep,h1,h2,h3,h4,fun x hx=>?_,h5⟩
 have all:∀ {l:List (List Key × V)} {m:List (List Key × Addr × Value)},KT H l m → ∀ x ∈ m,(tupleKind (mixKind P w)).is h x.1 x.2.1:=by
  intro l m q
  induction q with
  | nil=>intro x hx; exact nomatch hx
  | @cons p q ps qs hq t ih =>
   intro x hx
   rcases List.mem_cons.mp hx with e | hx
   ·subst e
    exact key_of ok (by rw [← hq.1]; exact hq.2.1)
   ·exact ih x hx
 exact all r x hx
theorem dt_of {kvs:List (List Key × V)} (ok:HOk P w H h) (e:H a = some (.dT kvs)):kvs.length ≤ sizeLine ∧ (a == sysModules) = false ∧
  ∃ xs,KT H kvs xs ∧ h.DictOfH (tupleKind (mixKind P w)) a xs:=dt_rd ok (.inl e)
end
noncomputable def DGet (H:Hp) (a:Addr) (y:V) (r:Option V):Prop :=
 (∃ kvs k,Rd H a (.dK kvs) ∧ y = kV k ∧ r = valV kvs k) ∨ ∃ kvs k b,Rd H a (.dT kvs) ∧ y = .ref b ∧ H b = some (.tup (k.map kV)) ∧ r = valV kvs k
noncomputable def DPut (H:Hp) (a:Addr) (y v:V) (H':Hp):Prop :=
 (∃ kvs k,H a = some (.dK kvs) ∧ y = kV k ∧ kvs.length < sizeLine ∧ H' = upd H a (.dK (putK kvs k v))) ∨
 ∃ kvs k b,H a = some (.dT kvs) ∧ y = .ref b ∧ H b = some (.tup (k.map kV)) ∧ kvs.length < sizeLine ∧ H' = upd H a (.dT (putK kvs k v))
theorem DGet.k {H:Hp} {a:Addr} {kvs:List (Key × V)} {k:Key} (e:H a = some (.dK kvs)):DGet H a (kV k) (valV kvs k):=.inl ⟨kvs,k,.inl e,rfl,rfl⟩
theorem DGet.t {H:Hp} {a b:Addr} {kvs:List (List Key × V)} {k:List Key} (e:H a = some (.dT kvs)) (eb:H b = some (.tup (k.map kV))):DGet H a (.ref b) (valV kvs k):=.inr ⟨kvs,k,b,.inl e,rfl,eb,rfl⟩
theorem DPut.k {H:Hp} {a:Addr} {kvs:List (Key × V)} {k:Key} {v:V} (e:H a = some (.dK kvs)) (hl:kvs.length < sizeLine):DPut H a (kV k) v (upd H a (.dK (putK kvs k v))):=.inl ⟨kvs,k,e,rfl,hl,rfl⟩
theorem DPut.t {H:Hp} {a b:Addr} {kvs:List (List Key × V)} {k:List Key} {v:V} (e:H a = some (.dT kvs)) (eb:H b = some (.tup (k.map kV))) (hl:kvs.length < sizeLine) :
  DPut H a (.ref b) v (upd H a (.dT (putK kvs k v))):=.inr ⟨kvs,k,b,e,rfl,eb,hl,rfl⟩
section
variable {X:Cx} {pins:List (Addr × Obj)} {σ:St} {H:Hp} {s:Shared} {a:Addr} {y v:V} {u r:Value} {o:Option V} {A:Around} {E:Value → Shared → Prop}
theorem Inv.big (I:Inv X pins σ H s):sysModules < s.heap.objs.size:=by
 have h:mainGlobals < s.heap.objs.size:=(I.mod.glob.keeps I.bk).lt
 exact Nat.lt_trans (by decide) h
theorem d_in {Q:Value → Shared → Prop} (hu:A.units + 1 < cLine) (I:Inv X pins σ H s) (g:DGet H a y o) (ry:RelV y u) (h:∀ s',Inv X pins σ H s' → Q (.bool o.isSome) s') :
  wpAny (model X.prog X.w) A (compareOp .In u (.ref a)) Q E s:=by
 rcases g with ⟨kvs,k,e,ey,l⟩ | ⟨kvs,k,b,e,ey,eb,l⟩
 ·subst ey
  obtain ⟨z,hd,vs,rel,dd⟩:=dk_rd I.hok e
  refine wpAny_in_of (kV_is ry) hd dd.mapOf ?_
  rw [← (rel.val k).isSome_eq,← l]
  exact h _ (I.tok _)
 ·subst ey
  cases (show u = Value.ref b from ry)
  obtain ⟨z,hd,xs,rel,dd⟩:=dt_rd I.hok e
  refine wpAny_in_heap (tupleKind_room_in1 hu) (key_of I.hok eb) hd dd ?_
  have q:=(rel.val k).isSome_eq
  rw [Option.isSome_map] at q
  rw [← q,← l]
  exact h _ (I.tok _)
theorem d_notIn {Q:Value → Shared → Prop} (hu:A.units + 1 < cLine) (I:Inv X pins σ H s) (g:DGet H a y o) (ry:RelV y u) (h:∀ s',Inv X pins σ H s' → Q (.bool (!o.isSome)) s') :
  wpAny (model X.prog X.w) A (compareOp .NotIn u (.ref a)) Q E s:=by
 rcases g with ⟨kvs,k,e,ey,l⟩ | ⟨kvs,k,b,e,ey,eb,l⟩
 ·subst ey
  obtain ⟨z,hd,vs,rel,dd⟩:=dk_rd I.hok e
  refine wpAny_notIn_of (kV_is ry) hd dd.mapOf ?_
  rw [← (rel.val k).isSome_eq,← l]
  exact h _ (I.tok _)
 ·subst ey
  cases (show u = Value.ref b from ry)
  obtain ⟨z,hd,xs,rel,dd⟩:=dt_rd I.hok e
  refine wpAny_notIn_heap (tupleKind_room_in1 hu) (key_of I.hok eb) hd dd ?_
  have q:=(rel.val k).isSome_eq
  rw [Option.isSome_map] at q
  rw [← q,← l]
  exact h _ (I.tok _)
theorem d_write {h':Heap} {t':Nat} {ob:HO} (I:Inv X pins σ H s) (mu:Mut (H a)) (hs:Heap.SameBut a s.heap h') (he:∃ q,h'.get? a = some q) (new:ObjOk X.prog X.w (upd H a ob) h' a ob) :
  Inv X pins σ (upd H a ob) { s with heap:=h',toks:=t' } :=
 I.write (x:=a) (e:=a) mu (.inl rfl) (fun b q hb z=>(hs.2 b hb).trans z) he new
theorem dk_new {P:Program} {w:World} {H':Hp} {h':Heap} {kvs:List (Key × V)} {vs:List (Key × Value)} (z:kvs.length ≤ sizeLine) (hd:(a == sysModules) = false) (rel:KV kvs vs) (dd:h'.DictOf (mixKind P w) a vs) :
  ObjOk P w H' h' a (.dK kvs):=⟨z,hd,vs,rel,dd⟩
theorem d_setItem {H':Hp} {Q:Unit → Shared → Prop} (hu:A.units + 1 < cLine) (I:Inv X pins σ H s) (g:DPut H a y v H') (ry:RelV y u) (rv:RelV v r) (h:∀ s',Inv X pins σ H' s' → Q () s') :
  wpAny (model X.prog X.w) A (setItem (.ref a) u r) Q E s:=by
 rcases g with ⟨kvs,k,e,ey,l,eH⟩ | ⟨kvs,k,b,e,ey,eb,l,eH⟩
 ·subst ey eH
  obtain ⟨z,hd,vs,rel,dd⟩:=dk_of I.hok e
  have hz:vs.length ≤ sizeLine:=by rw [← rel.length]; exact z
  have hl:(putK kvs k v).length ≤ sizeLine:=by have:=length_putK kvs k v; omega
  refine wpAny_setItem_pairs (hsz:=hz) (kV_is ry) dd fun h' dd' hs=>h _ ?_
  have he:∃ q,h'.get? a = some q:=let ⟨q,_,_,hq,_⟩:=dd'; ⟨q,hq⟩
  exact d_write I (by rw [e]; exact True.intro) hs he (dk_new hl hd (rel.put k rv) dd')
 ·subst ey eH
  cases (show u = Value.ref b from ry)
  obtain ⟨z,hd,xs,rel,dd⟩:=dt_of I.hok e
  have hz:xs.length ≤ sizeLine:=by rw [← Paired.length rel]; exact z
  have hl:(putK kvs k v).length ≤ sizeLine:=by have:=length_putK kvs k v; omega
  refine wpAny_setItem_heap (hsz:=hz) (tupleKind_room_in1 hu) (key_of I.hok eb) dd fun h' dd' hs=>h _ ?_
  obtain ⟨q,es,ep,hq,h2,h3,h4,_,h5⟩:=dd'
  refine d_write I (by rw [e]; exact True.intro) hs ⟨q,hq⟩ ⟨hl,hd,_,(rel.put k eb rv).keeps fun c ys ec=>?_,q,es,ep,hq,h2,h3,h4,h5⟩
  rw [upd_ne (ne_of ec e (fun z=>nomatch z))]
  exact ec
end
section
variable {X:Cx} {pins:List (Addr × Obj)} {σ:St} {H:Hp} {s:Shared} {a:Addr} {kvs:List (Key × V)} {k:Key} {u:Value} {A:Around} {E:Value → Shared → Prop}
end
noncomputable def tDIn (ty td:TE):TE:=fun σ H Q=>ty σ H fun y H1=>td σ H1 fun x H2=>∃ a o,x = .ref a ∧ DGet H2 a y o ∧ Q (.bl o.isSome) H2
noncomputable def tDNotIn (ty td:TE):TE:=fun σ H Q=>ty σ H fun y H1=>td σ H1 fun x H2=>∃ a o,x = .ref a ∧ DGet H2 a y o ∧ Q (.bl (!o.isSome)) H2
section
variable {X:Cx} {o i e value:Expr} {pos pos' tpos:Pos} {td ty tv:TE}
theorem pc_din (hu:X.A.units + 1 < cLine) (hi:PE X i ty) (ho:PE X o td):PC X .In i o (tDIn ty td):=by
 intro pins s σ H Q I h
 refine thn (hi pins s σ H _ I h) fun iv s1 ⟨y,H1,I1,ry,q1⟩=>thn (ho pins s1 σ H1 _ I1 q1) fun u s2 ⟨x,H2,I2,rx,a,ov,ex,g,q2⟩=>?_
 subst ex
 obtain rfl:u = Value.ref a:=rx
 exact d_in hu I2 g ry fun s3 I3=>⟨.bl ov.isSome,H2,I3,rfl,q2⟩
theorem pc_dnotin (hu:X.A.units + 1 < cLine) (hi:PE X i ty) (ho:PE X o td):PC X .NotIn i o (tDNotIn ty td):=by
 intro pins s σ H Q I h
 refine thn (hi pins s σ H _ I h) fun iv s1 ⟨y,H1,I1,ry,q1⟩=>thn (ho pins s1 σ H1 _ I1 q1) fun u s2 ⟨x,H2,I2,rx,a,ov,ex,g,q2⟩=>?_
 subst ex
 obtain rfl:u = Value.ref a:=rx
 exact d_notIn hu I2 g ry fun s3 I3=>⟨.bl (!ov.isSome),H2,I3,rfl,q2⟩
end
theorem dk_empty {P:Program} {w:World} {H:Hp} (h:Heap) (hb:sysModules < h.objs.size):ObjOk P w H (h.push { cls:=.type "dict",data:=.dict #[] }) h.objs.size (.dK []) :=
 ⟨Nat.zero_le _,beq_eq_false_iff_ne.mpr (Ne.symm (Nat.ne_of_lt hb)),[],.nil,Heap.DictOf.new h⟩
theorem dt_empty {P:Program} {w:World} {H:Hp} (h:Heap) (hb:sysModules < h.objs.size):ObjOk P w H (h.push { cls:=.type "dict",data:=.dict #[] }) h.objs.size (.dT []) :=
 ⟨Nat.zero_le _,beq_eq_false_iff_ne.mpr (Ne.symm (Nat.ne_of_lt hb)),[],.nil,_,#[],0,Heap.get?_push_size _ rfl,⟨rfl,rfl,rfl⟩,rfl,rfl,List.nodup_nil⟩
noncomputable def tDNewK:TE:=fun _ H Q=>∀ p,H p = none → Q (.ref p) (upd H p (.dK []))
noncomputable def tDNewT:TE:=fun _ H Q=>∀ p,H p = none → Q (.ref p) (upd H p (.dT []))
section
variable {X:Cx} {pos:Pos}
theorem pe_dnewK:PE X (.Dict [] [] pos) tDNewK:=fun pins s σ H Q I h =>
 wpAny_Dict_empty ⟨.ref s.heap.objs.size,_,I.laid (a:=s.heap.objs.size) (o:=.dK []) (t':=s.toks) (fun _ _ q=>Heap.get?_push_of_some _ q) (Nat.le_refl _) (dk_empty s.heap I.big),rfl,h _ (I.hok.fresh (Nat.le_refl _))⟩
theorem pe_dnewT:PE X (.Dict [] [] pos) tDNewT:=fun pins s σ H Q I h =>
 wpAny_Dict_empty ⟨.ref s.heap.objs.size,_,I.laid (a:=s.heap.objs.size) (o:=.dT []) (t':=s.toks) (fun _ _ q=>Heap.get?_push_of_some _ q) (Nat.le_refl _) (dt_empty s.heap I.big),rfl,h _ (I.hok.fresh (Nat.le_refl _))⟩
end
section
variable {X:Cx} {pins:List (Addr × Obj)} {σ:St} {H:Hp} {s:Shared} {a:Addr} {y d:V} {u r:Value} {o:Option V} {A:Around} {E:Value → Shared → Prop}
end
section
variable {X:Cx} {o e f:Expr} {apos cpos:Pos} {td ty tx:TE}
end
section
variable {X:Cx} {pins:List (Addr × Obj)} {σ:St} {H:Hp} {s:Shared} {a:Addr} {kvs:List (Key × V)} {A:Around} {E:Value → Shared → Prop}
end
section
variable {X:Cx} {pins:List (Addr × Obj)} {σ:St} {H:Hp} {s:Shared} {a:Addr} {y:V} {u:Value} {A:Around} {E:Value → Shared → Prop}
end
end L2
namespace DL
open PySem PySem.Spec PyProof.Rows L2
section
variable {K:W.Frag} {H H':Hp} {B B':BS} {σ σ':St} {δ δ':Ds}
theorem Gr.fresh {p:Addr} {o:HO} (h:H p = none):Gr H (upd H p o) B (fun a=>B a ∨ a = p):=fun b u n e=>by
 have hb:b ≠ p:=ne_of_none e h
 exact ⟨fun z=>z.elim n hb,by rw [upd_ne hb]; exact e⟩
theorem Gr.own {a:Addr} {o:HO} (h:B a):Gr H (upd H a o) B B:=fun b u n e=>⟨n,by rw [upd_ne (fun z=>n (by rw [z]; exact h))]; exact e⟩
theorem RpO.mono {d:D} {a:Addr} (s:∀ o,H a = some o → H' a = some o) (g:Gr H H' B B') (h:RpO K H B d a):RpO K H' B' d a:=by
 cases d <;> try exact h.elim
 ·obtain ⟨xs,e,r⟩:=h; exact ⟨xs,s _ e,r.mono g⟩
 ·obtain ⟨xs,e,l,r⟩:=h; exact ⟨xs,s _ e,l,r.mono g⟩
theorem RpL.mono {d:D} {a:Addr} (s:∀ o,H a = some o → H' a = some o) (g:Gr H H' B B') (h:RpL K H B d a):RpL K H' B' d a:=by
 cases d with
 | tup es=>obtain ⟨ds,q,xs,e,r⟩:=h; exact ⟨ds,q,xs,s _ e,r.mono g⟩
 | _=>exact (RpO.mono s g (RpL.toO rfl h)).toL
theorem Pd.impI {α β:Type} {F G:α → β → Prop}:∀ {l:List α} {m:List β},(∀ (i:Nat) a b,l[i]? = some a → m[i]? = some b → F a b → G a b) → Paired F l m → Paired G l m
 | _,_,_,.nil=>.nil
 | _,_,h,.cons r t=>.cons (h 0 _ _ rfl rfl r) (Pd.impI (fun i a b e1 e2=>h (i + 1) a b (by simpa using e1) (by simpa using e2)) t)
theorem set_self {α:Type}:∀ {l:List α} {i:Nat} {a:α},l[i]? = some a → l.set i a = l
 | [],_,_,h=>by simp at h
 | x :: l,0,a,h=>by simp at h; subst h; rfl
 | x :: l,i + 1,a,h=>by rw [List.set_cons_succ,set_self (by simpa using h)]
theorem Pd.setR {α β:Type} {F:α → β → Prop} {a:α} {b:β} {i:Nat} (r:F a b) {l:List α} {m:List β} (e:l[i]? = some a) (h:Paired F l m):Paired F l (m.set i b):=by
 have:=Pd.set r i h
 rwa [set_self e] at this
theorem get_set {α:Type} {l:List α} {i j:Nat} {a b:α} (h:(l.set i a)[j]? = some b):(i = j ∧ a = b ∧ j < l.length) ∨ (i ≠ j ∧ l[j]? = some b):=by
 by_cases e:i = j
 ·subst e
  by_cases hl:i < l.length
  ·rw [List.getElem?_set_self hl] at h
   exact .inl ⟨rfl,Option.some.inj h,hl⟩
  ·rw [List.getElem?_eq_none (by simpa using hl)] at h; cases h
 ·rw [List.getElem?_set_ne e] at h
  exact .inr ⟨e,h⟩
theorem Env.at (e:Env K H B σ δ) {i:Nat} {d:D} (h:δ[i]? = some (.ow d)):∃ a,σ[i]? = some (some (.ref a)) ∧ B a ∧ RpL K H B d a:=by
 obtain ⟨o,h1,a,rfl,hb,r⟩:=Pd.get e.all h
 exact ⟨a,h1,hb,r⟩
theorem Env.mut (e:Env K H B σ δ) {i:Nat} {d0 d:D} {a:Addr} {o:HO} (hi:δ[i]? = some (.ow d0)) (hs:σ[i]? = some (some (.ref a))) (r:RpL K (upd H a o) B d a):Env K (upd H a o) B σ (δ.set i (.ow d)):=by
 obtain ⟨a',h1,hb,_⟩:=e.at hi
 rw [hs] at h1
 cases h1
 refine ⟨?_,fun b z=>?_,fun j k b ds es h1 h2 h3 h4=>?_⟩
 ·
  have h0:Paired (fun (o':Option V) (s:Sl)=>SlR K (upd H a o) B o' s ∨ (∃ d,s = .ow d ∧ o' = some (.ref a))) σ δ:=Pd.imp (fun o' s h=>by
   cases s with
   | un=>exact .inl trivial
   | ex c n=>obtain ⟨v,e,r⟩:=h; exact .inl ⟨v,e,r.mono (Gr.own hb)⟩
   | sh d=>obtain ⟨v,e,r⟩:=h; exact .inl ⟨v,e,r.mono (Gr.own hb)⟩
   | ow d =>
    obtain ⟨b,e,hb',r⟩:=h
    by_cases z:b = a
    ·subst z; exact .inr ⟨d,rfl,e⟩
    ·exact .inl ⟨b,e,hb',r.mono (fun o h=>by rw [upd_ne z]; exact h) (Gr.own hb)⟩) e.all
  have h1:=Pd.setR (i:=i) (b:=Sl.ow d) (.inl ⟨a,rfl,hb,r⟩) hs h0
  refine Pd.impI (fun j o' s e1 e2 h=>?_) h1
  rcases h with h | ⟨d',rfl,rfl⟩
  ·exact h
  ·rcases get_set e2 with ⟨rfl,e3,_⟩ | ⟨hne,e3⟩
   ·cases e3; exact ⟨a,rfl,hb,r⟩
   ·exact absurd (e.own i j a d0 d' hi e3 hs e1) hne
 ·by_cases z':b = a
  ·subst z'; rw [upd_same]; exact fun z=>nomatch z
  ·rw [upd_ne z']; exact e.bad b z
 ·have q1:∃ d,δ[j]? = some (.ow d):=by
   rcases get_set h1 with ⟨rfl,_,_⟩ | ⟨_,h⟩
   ·exact ⟨_,hi⟩
   ·exact ⟨_,h⟩
  have q2:∃ d,δ[k]? = some (.ow d):=by
   rcases get_set h2 with ⟨rfl,_,_⟩ | ⟨_,h⟩
   ·exact ⟨_,hi⟩
   ·exact ⟨_,h⟩
  obtain ⟨d1,q1⟩:=q1
  obtain ⟨d2,q2⟩:=q2
  exact e.own j k b d1 d2 q1 q2 h3 h4
theorem EnvS.mut {H₀:Hp} {B₀:BS} (en:EnvS K H₀ B₀ H σ δ) (s:Same H H') (b1:∀ a,B₀ a → B a) (b2:∀ a,B a → B₀ a ∨ H₀ a = none) {i:Nat} {d0 d:D} {a:Addr} {o:HO} (hi:δ[i]? = some (.ow d0)) (hs:σ[i]? = some (some (.ref a)))
  (env:Env K (upd H' a o) B σ (δ.set i (.ow d))):EnvS K H₀ B₀ (upd H' a o) σ (δ.set i (.ow d)):=by
 have h0:=en.fr i d0 a hi hs
 refine ⟨fun b u h=>?_,⟨B,b1,b2,env⟩,fun j ds b h1 h2=>?_,en.b0⟩
 ·have:b ≠ a:=fun z=>by rw [z,h0] at h; cases h
  rw [upd_ne this]
  exact s _ _ (en.same b u h)
 ·rcases get_set h1 with ⟨rfl,_,_⟩ | ⟨_,h⟩
  ·rw [hs] at h2; cases h2; exact h0
  ·exact en.fr j ds b h h2
theorem EnvS.take {H₀:Hp} {B₀:BS} (en:EnvS K H₀ B₀ H σ δ) (b1:∀ a,B₀ a → B a) (b2:∀ a,B a → B₀ a ∨ H₀ a = none) (e:Env K H B σ δ) (i:Nat) {d:D} {p:Addr} (hp:H p = none) (s:Same H H')
  (r:RpO K H' (fun a=>B a ∨ a = p) d p):EnvS K H₀ B₀ H' (σ.set i (some (.ref p))) (δ.set i (.ow d)):=by
 have g:Gr H H' B (fun a=>B a ∨ a = p):=fun b u n h=>⟨fun z=>z.elim n (ne_of_none h hp),s _ _ h⟩
 have h0p:H₀ p = none:=en.same.free hp
 have live:∀ {j:Nat} {d':D} {b:Addr},δ[j]? = some (.ow d') → σ[j]? = some (some (.ref b)) → b ≠ p:=fun {j d' b} h1 h2=>by
  obtain ⟨a,q1,q2,q3⟩:=e.at h1
  rw [h2] at q1; cases q1
  exact fun z=>e.bad _ q2 (by rw [z]; exact hp)
 refine ⟨en.same.trans s,⟨fun a=>B a ∨ a = p,fun a z=>.inl (b1 a z),fun a z=>?_,?_,fun a z=>?_,fun j k a ds es h1 h2 h3 h4=>?_⟩,fun j ds a h1 h2=>?_,en.b0⟩
 ·rcases z with z | rfl
  ·exact b2 a z
  ·exact .inr h0p
 ·refine Pd.set ⟨p,rfl,.inr rfl,r.toL⟩ i (Pd.imp (fun o sl h=>?_) e.all)
  cases sl with
  | un=>trivial
  | ex c n=>obtain ⟨v,e,r⟩:=h; exact ⟨v,e,r.mono g⟩
  | sh d=>obtain ⟨v,e,r⟩:=h; exact ⟨v,e,r.mono g⟩
  | ow d=>obtain ⟨b,e,hb',r⟩:=h; exact ⟨b,e,.inl hb',r.mono (fun o h=>s _ _ h) g⟩
 ·rcases z with z | rfl
  ·intro q
   cases h:H a with
   | none=>exact e.bad a z h
   | some u=>rw [s _ _ h] at q; cases q
  ·exact r.live
 ·rcases get_set h1 with ⟨rfl,_,_⟩ | ⟨n1,h1⟩
  ·rcases get_set h2 with ⟨rfl,_,_⟩ | ⟨n2,h2⟩
   ·rfl
   ·rcases get_set h3 with ⟨_,e3,_⟩ | ⟨n3,_⟩
    ·cases e3
     rw [List.getElem?_set_ne n2] at h4
     exact absurd rfl (live h2 h4)
    ·exact absurd rfl n3
  ·rcases get_set h2 with ⟨rfl,_,_⟩ | ⟨n2,h2⟩
   ·rcases get_set h4 with ⟨_,e4,_⟩ | ⟨n4,_⟩
    ·cases e4
     rw [List.getElem?_set_ne n1] at h3
     exact absurd rfl (live h1 h3)
    ·exact absurd rfl n4
   ·rw [List.getElem?_set_ne n1] at h3
    rw [List.getElem?_set_ne n2] at h4
    exact e.own j k a ds es h1 h2 h3 h4
 ·rcases get_set h1 with ⟨rfl,_,_⟩ | ⟨n1,h1⟩
  ·rcases get_set h2 with ⟨_,e3,_⟩ | ⟨n3,_⟩
   ·cases e3; exact h0p
   ·exact absurd rfl n3
  ·rw [List.getElem?_set_ne n1] at h2
   exact en.fr j ds a h1 h2
theorem Env.frz (e:Env K H B σ δ):∃ B':BS,(∀ a,B' a → B a) ∧ (∀ a,B a → B' a ∨ ∃ (i:Nat) (d:D),δ[i]? = some (.ow d) ∧ σ[i]? = some (some (.ref a))) ∧ Env K H B' σ (DL.frz δ):=by
 refine ⟨fun a=>B a ∧ ¬ ∃ (i:Nat) (d:D),δ[i]? = some (.ow d) ∧ σ[i]? = some (some (.ref a)),fun a z=>z.1,fun a z=>?_,?_,fun a z=>e.bad a z.1,fun i j a ds es h1 _ _ _=>?_⟩
 ·by_cases q:∃ (i:Nat) (d:D),δ[i]? = some (.ow d) ∧ σ[i]? = some (some (.ref a))
  ·exact .inr q
  ·exact .inl ⟨z,q⟩
 ·have:Paired (fun o s=>SlR K H (fun a=>B a ∧ ¬ ∃ (i:Nat) (d:D),δ[i]? = some (.ow d) ∧ σ[i]? = some (some (.ref a))) o (frz1 s)) σ δ:=Pd.impI (fun i o s e1 e2 h=>by
   cases s with
   | un=>trivial
   | ex c n=>obtain ⟨v,e,r⟩:=h; exact ⟨v,e,r.mono (Gr.less fun a z=>z.1)⟩
   | sh d=>obtain ⟨v,e,r⟩:=h; exact ⟨v,e,r.mono (Gr.less fun a z=>z.1)⟩
   | ow d =>
    obtain ⟨a,rfl,hb,r⟩:=h
    exact ⟨_,rfl,r.rp (fun a z=>z.1) fun z=>z.2 ⟨i,d,e2,e1⟩⟩) e.all
  have mp:∀ {l:St} {m:Ds} {F:Option V → Sl → Prop},Paired (fun o s=>F o (frz1 s)) l m → Paired F l (m.map frz1):=by
   intro l m F h
   induction h with
   | nil=>exact .nil
   | cons r t ih=>exact .cons r ih
  exact mp this
 ·unfold DL.frz at h1
  rw [List.getElem?_map] at h1
  cases q:δ[i]? with
  | none=>rw [q] at h1; cases h1
  | some s=>rw [q] at h1; cases s <;> cases h1
theorem EnvS.frz {H₀:Hp} {B₀:BS} (en:EnvS K H₀ B₀ H σ δ):EnvS K H₀ B₀ H σ (DL.frz δ):=by
 obtain ⟨B,b1,b2,env⟩:=en.ex
 obtain ⟨B',c1,c2,env'⟩:=env.frz
 refine ⟨en.same,⟨B',fun a z=>?_,fun a z=>b2 a (c1 a z),env'⟩,fun i ds a h1 _=>?_,en.b0⟩
 ·rcases c2 a (b1 a z) with q | ⟨i,d,q1,q2⟩
  ·exact q
  ·exact absurd (en.fr i d a q1 q2) (en.b0 a z)
 ·unfold DL.frz at h1
  rw [List.getElem?_map] at h1
  cases q:δ[i]? with
  | none=>rw [q] at h1; cases h1
  | some s=>rw [q] at h1; cases s <;> cases h1
theorem Env.frzAt (e:Env K H B σ δ) (i:Nat):∃ B':BS,(∀ a,B' a → B a) ∧ (∀ a,B a → B' a ∨ ∃ (d:D),δ[i]? = some (.ow d) ∧ σ[i]? = some (some (.ref a))) ∧ Env K H B' σ (DL.frzAt i δ):=by
 unfold DL.frzAt
 cases h:δ[i]? with
 | none=>exact ⟨B,fun _ z=>z,fun _ z=>.inl z,e⟩
 | some s =>
  cases s with
  | un=>dsimp only [frz1]; rw [set_self h]; exact ⟨B,fun _ z=>z,fun _ z=>.inl z,e⟩
  | ex c n=>dsimp only [frz1]; rw [set_self h]; exact ⟨B,fun _ z=>z,fun _ z=>.inl z,e⟩
  | sh d=>dsimp only [frz1]; rw [set_self h]; exact ⟨B,fun _ z=>z,fun _ z=>.inl z,e⟩
  | ow d =>
   obtain ⟨a,h1,hb,r⟩:=e.at h
   refine ⟨fun b=>B b ∧ b ≠ a,fun b z=>z.1,fun b z=>?_,?_,fun b z=>e.bad b z.1,fun j k b ds es h1' h2' h3 h4=>?_⟩
   ·by_cases q:b = a
    ·subst q; exact .inr ⟨d,rfl,h1⟩
    ·exact .inl ⟨z,q⟩
   ·have h0:Paired (fun (o':Option V) (s:Sl)=>SlR K H (fun b=>B b ∧ b ≠ a) o' s ∨ (∃ d,s = .ow d ∧ o' = some (.ref a))) σ δ:=Pd.imp (fun o' s h=>by
     cases s with
     | un=>exact .inl trivial
     | ex c n=>obtain ⟨v,e,r⟩:=h; exact .inl ⟨v,e,r.mono (Gr.less fun a z=>z.1)⟩
     | sh d=>obtain ⟨v,e,r⟩:=h; exact .inl ⟨v,e,r.mono (Gr.less fun a z=>z.1)⟩
     | ow d =>
      obtain ⟨b,e,hb',r⟩:=h
      by_cases z:b = a
      ·subst z; exact .inr ⟨d,rfl,e⟩
      ·exact .inl ⟨b,e,⟨hb',z⟩,r.mono (fun o h=>h) (Gr.less fun a z=>z.1)⟩) e.all
    have h2:=Pd.setR (i:=i) (b:=Sl.sh (unl d)) (.inl ⟨.ref a,rfl,r.rp (fun b z=>z.1) fun z=>z.2 rfl⟩) h1 h0
    refine Pd.impI (fun j o' s e1 e2 hh=>?_) h2
    rcases hh with hh | ⟨d',rfl,rfl⟩
    ·exact hh
    ·rcases get_set e2 with ⟨rfl,e3,_⟩ | ⟨hne,e3⟩
     ·cases e3
     ·exact absurd (e.own i j a d d' h e3 h1 e1) hne
   ·rcases get_set h1' with ⟨_,q,_⟩ | ⟨_,q1⟩
    ·cases q
    ·rcases get_set h2' with ⟨_,q,_⟩ | ⟨_,q2⟩
     ·cases q
     ·exact e.own j k b ds es q1 q2 h3 h4
theorem EnvS.frzAt {H₀:Hp} {B₀:BS} (en:EnvS K H₀ B₀ H σ δ) (i:Nat):EnvS K H₀ B₀ H σ (DL.frzAt i δ):=by
 obtain ⟨B,b1,b2,env⟩:=en.ex
 obtain ⟨B',c1,c2,env'⟩:=env.frzAt i
 refine ⟨en.same,⟨B',fun a z=>?_,fun a z=>b2 a (c1 a z),env'⟩,fun j ds a h1 h2=>?_,en.b0⟩
 ·rcases c2 a (b1 a z) with q | ⟨d,q1,q2⟩
  ·exact q
  ·exact absurd (en.fr i d a q1 q2) (en.b0 a z)
 ·unfold DL.frzAt at h1
  cases q:δ[i]? with
  | none=>rw [q] at h1; exact en.fr j ds a h1 h2
  | some s =>
   rw [q] at h1
   rcases get_set h1 with ⟨rfl,q',_⟩ | ⟨_,q1⟩
   ·cases s <;> cases q'
   ·exact en.fr j ds a q1 h2
theorem flat_rp {d:D} {v:V} (h:flat d = true) (r:Rp K H B d v):Rp K H' B' d v:=by
 cases d <;> simp [flat] at h
 ·rw [rp_non] at r ⊢; exact r
 ·rw [rp_bl] at r ⊢; exact r
 ·rw [rp_int] at r ⊢; exact r
 ·rw [rp_str] at r ⊢; exact r
end
section
variable {X:Cx} {e tg:Expr} {st:Stmt} {pos:Pos} {g:GE} {gt:GB} {G:GS}
theorem pd_bor (h:PD X e g):PD X e (borE g):=.mk fun B δ pins s σ H Q I ⟨d,en,hq,k⟩=>by
 obtain ⟨B',c1,c2,en'⟩:=en.frz
 unfold borE at hq
 cases e1:g (frz δ) with
 | none=>rw [e1] at hq; cases hq
 | some x =>
  rw [e1] at hq
  by_cases hf:flat x = true
  ·simp only [Option.bind_some,if_pos hf] at hq
   cases hq
   exact h B' (frz δ) pins s σ H Q I ⟨_,en',e1,fun v H' s' r=>k v H' s' (flat_rp hf r)⟩
  ·simp only [Option.bind_some,if_neg hf] at hq
   cases hq
theorem ptd_bor (h:PTD X e gt):PTD X e (borB gt):=.mk fun B δ pins s σ H Q I ⟨d,en,hq,k⟩=>by
 obtain ⟨B',c1,c2,en'⟩:=en.frz
 exact h B' (frz δ) pins s σ H Q I ⟨d,en',hq,k⟩
theorem psd_frzS (i:Nat) (h:PSD X st G):PSD X st (frzS i G):=.mk fun H₀ B₀ δ pins s σ H D I ⟨r,en,hq,k⟩=>h H₀ B₀ _ pins s σ H D I ⟨r,en.frzAt i,hq,k⟩
theorem psd_retB (h:PD X e g):PSD X (.Return (some e) pos) (retD (borA g)):=.mk fun H₀ B₀ δ pins s σ H D I ⟨r,en,hq,k⟩ =>
 psd_ret h H₀ B₀ (frz δ) pins s σ H D I ⟨r,en.frz,hq,k⟩
theorem pdf_lst {es:List Expr} {gA:GA} (h:PDA X es gA):PDF X (.List es pos) (lstG gA) :=
 .mk fun B δ=>(pe_lst (h B δ)).imp fun σ H Q ⟨d,en,h,k⟩=>by
  unfold lstG at h
  cases e1:gA δ with
  | none=>rw [e1] at h; cases h
  | some ds =>
   rw [e1] at h
   by_cases hl:ds.length ≤ sizeLine
   ·simp only [Option.bind_some,if_pos hl] at h
    cases h
    refine ⟨ds,en,e1,fun vs H1 s1 r1=>⟨by rw [r1.length]; exact hl,fun p hp=>k _ _ (s1.free hp) (s1.trans (same_upd hp)) ⟨vs,upd_same,r1.mono (Gr.fresh hp)⟩⟩⟩
   ·simp only [Option.bind_some,if_neg hl] at h
    cases h
theorem pdf_dict0:PDF X (.Dict [] [] pos) (gc (.dct (.inl []) [])):=.mk fun B δ=>pe_dnewK.imp fun σ H Q ⟨d,en,h,k⟩=>by
 cases h
 exact fun p hp=>k p _ hp (same_upd hp) ⟨[],upd_same,rfl,by rw [rps_nil]⟩
theorem psd_own (i:Nat) {x:Str} {px:Pos} (h:PDF X e g) (hN:X.N.Nodup) (hi:X.N[i]? = some x:=by rfl) (hx:Loc X.env.scope x:=by first | exact Or.inl rfl | exact Or.inr rfl)
  (hs:swapsWithSole [.Name x px] e pos.line X.env = pure false:=by rfl) (hw:swappedStores [.Name x px] e X.env = pure none:=by rfl)
  (h1:(assignEach [.Name x px] X.env).map (·.2) = [assign (.Name x px) X.env]:=by rfl)
  (hf:X.fn x = true ∨ X.env.scope.names.lookup x = some .local:=by first | exact .inl rfl | exact .inr rfl | assumption):PSD X (.Assign [.Name x px] e pos) (ownD i g):=.mk fun H₀ B₀ δ pins s σ H D I ⟨r,en,e1,k⟩=>by
 unfold ownD at e1
 obtain ⟨B,b1,b2,env⟩:=en.ex
 cases e2:g δ with
 | none=>rw [e2] at e1; cases e1
 | some d =>
  rw [e2] at e1
  cases e1
  exact ps_asg (h B δ) (pg_name (i:=i) hN hi hx hf) hs hw h1 pins s σ H D I ⟨d,env,e2,fun p H' hp s' r=>k _ H' (en.take b1 b2 env i hp s' r)⟩
end
end DL
namespace L2
open PySem PySem.Spec PyProof.Rows
open PySem.AutoSeq1 (wpAny_loadPart')
section
variable {X:Cx}
noncomputable def rDPutS:V → V → V → Hp → (Hp → Prop) → Prop:=fun o i v H Q=>∃ a H',o = .ref a ∧ DPut H a i v H' ∧ Q H'
theorem set_dict (hu:X.A.units + 1 < cLine):PSet X rDPutS:=by
 intro pins s σ H o i v ov iv u Q I ro ri rv h
 obtain ⟨a,H',rfl,g,q⟩:=h
 cases ro
 exact d_setItem hu I g ri rv fun s3 I3=>⟨H',I3,q⟩
end
end L2
namespace DL
open PySem PySem.Spec PyProof.Rows L2
section
variable {K:W.Frag} {H H':Hp} {B B':BS} {σ σ':St} {δ δ':Ds}
theorem Rps.set:∀ {ds:List D} {xs:List V} {d:D} {v:V} (j:Nat),Rps K H B ds xs → Rp K H B d v → Rps K H B (ds.set j d) (xs.set j v)
 | [],_,_,_,_,h,_=>by rw [rps_nil] at h; subst h; simp [rps_nil]
 | d :: ds,_,_,_,0,h,r=>by
  rw [rps_cons] at h
  obtain ⟨y,t,rfl,h1,h2⟩:=h
  rw [List.set_cons_zero,List.set_cons_zero,rps_cons]
  exact ⟨_,_,rfl,r,h2⟩
 | d :: ds,_,_,_,j + 1,h,r=>by
  rw [rps_cons] at h
  obtain ⟨y,t,rfl,h1,h2⟩:=h
  rw [List.set_cons_succ,List.set_cons_succ,rps_cons]
  exact ⟨_,_,rfl,h1,Rps.set j h2 r⟩
theorem Rps.dropLast {ds:List D} {xs:List V} (h:Rps K H B ds xs):Rps K H B ds.dropLast xs.dropLast:=by
 rw [List.dropLast_eq_take,List.dropLast_eq_take,h.length]
 exact h.take _
theorem Rps.erase {ds:List D} {xs:List V} (j:Nat) (h:Rps K H B ds xs):Rps K H B (ds.eraseIdx j) (xs.eraseIdx j):=by
 rw [List.eraseIdx_eq_take_drop_succ,List.eraseIdx_eq_take_drop_succ]
 exact Rps.append (h.take _) (h.drop _)
structure EnvV (K:W.Frag) (H₀:Hp) (B₀:BS) (H:Hp) (σ:St) (δ:Ds) (d:D) (v:V):Prop where
 same:Same H₀ H
 ex:∃ B:BS,(∀ a,B₀ a → B a) ∧ (∀ a,B a → B₀ a ∨ H₀ a = none) ∧ Env K H B σ δ ∧ Rp K H B d v
 fr:∀ (i:Nat) (ds:D) (a:Addr),δ[i]? = some (.ow ds) → σ[i]? = some (some (.ref a)) → H₀ a = none
 b0:∀ a,B₀ a → H₀ a ≠ none
theorem EnvV.s {H₀:Hp} {B₀:BS} {d:D} {v:V} (h:EnvV K H₀ B₀ H σ δ d v):EnvS K H₀ B₀ H σ δ:=⟨h.same,let ⟨B,b1,b2,e,_⟩:=h.ex; ⟨B,b1,b2,e⟩,h.fr,h.b0⟩
theorem EnvV.mk' {H₀:Hp} {B₀:BS} {d:D} {v:V} (h:EnvS K H₀ B₀ H σ δ) (b1:∀ a,B₀ a → B a) (b2:∀ a,B a → B₀ a ∨ H₀ a = none) (e:Env K H B σ δ) (r:Rp K H B d v):EnvV K H₀ B₀ H σ δ d v:=⟨h.same,⟨B,b1,b2,e,r⟩,h.fr,h.b0⟩
end
noncomputable def tX (K:W.Frag) (H₀:Hp) (B₀:BS) (δ:Ds) (gx:GX):TE:=fun σ H Q=>∃ r,EnvS K H₀ B₀ H σ δ ∧ gx δ = some r ∧ ∀ v H',EnvV K H₀ B₀ H' σ r.2 r.1 v → Q v H'
structure PX (X:Cx) (e:Expr) (gx:GX):Prop where
 mk :: go:∀ H₀ B₀ δ,PE X e (tX X.K H₀ B₀ δ gx)
instance {X:Cx} {e:Expr} {gx:GX}:CoeFun (PX X e gx) (fun _=>∀ H₀ B₀ δ,PE X e (tX X.K H₀ B₀ δ gx)):=⟨PX.go⟩
noncomputable def tTG (K:W.Frag) (H₀:Hp) (B₀:BS) (ft:D → Ds → Option Ds) (d:D) (δ:Ds):TG:=fun v σ H Q=>∃ δ',EnvV K H₀ B₀ H σ δ d v ∧ ft d δ = some δ' ∧ ∀ σ' H',EnvS K H₀ B₀ H' σ' δ' → Q σ' H'
structure PTG (X:Cx) (tg:Expr) (ft:D → Ds → Option Ds):Prop where
 mk :: go:∀ H₀ B₀ d δ,PG X tg (tTG X.K H₀ B₀ ft d δ)
instance {X:Cx} {tg:Expr} {ft:D → Ds → Option Ds}:CoeFun (PTG X tg ft) (fun _=>∀ H₀ B₀ d δ,PG X tg (tTG X.K H₀ B₀ ft d δ)):=⟨PTG.go⟩
section
variable {X:Cx} {e tg:Expr} {st:Stmt} {pos apos cpos px:Pos} {g:GE} {gt:GB} {G:GS} {x:Str}
theorem px_pure (h:PD X e g):PX X e (pureX g):=.mk fun H₀ B₀ δ pins s σ H Q I ⟨r,en,e1,k⟩=>by
 unfold pureX at e1
 obtain ⟨B,b1,b2,env⟩:=en.ex
 cases e2:g δ with
 | none=>rw [e2] at e1; cases e1
 | some d =>
  rw [e2] at e1
  cases e1
  exact h B δ pins s σ H Q I ⟨d,env,e2,fun v H' s' r=>k v H' (EnvV.mk' (en.grow s') b1 b2 (env.same s') r)⟩
theorem owL_eq {i:Nat} {δ:Ds} {ds:List D} (h:owL i δ = some ds):δ[i]? = some (.ow (.lst ds)):=by
 unfold owL at h
 split at h
 ·cases h; assumption
 ·cases h
theorem owDc_eq {i:Nat} {δ:Ds} {r:List KeyD × List D} (h:owDc i δ = some r):δ[i]? = some (.ow (.dct (.inl r.1) r.2)):=by
 unfold owDc at h
 split at h
 ·cases h; assumption
 ·cases h
theorem px_app (i:Nat) (h:PD X e g) (hN:X.N[i]? = some x:=by rfl) (hv:Vis X.env.scope x:=by first | exact Or.inl rfl | exact Or.inr (Or.inl rfl) | exact Or.inr (Or.inr rfl)) (hd:(x == ("__debug__" : Str)) = false:=by decide) (hcd:(x == ("__classdict__" : Str)) = false:=by decide)
  (hbase:attributeBase (.Name x px) "append" X.env (eval (.Name x px) X.env) = eval (.Name x px) X.env:=by rfl)
  (hfew:((backTo cpos (starEach [e] X.env)).all (fun x=>!x.1) && (backToKw cpos (keywordEach [] X.env)).all (fun x=>x.1.isSome)
   && decide (([e]:List Expr).length + ([]:List Keyword).length + (if ([]:List Keyword).isEmpty then 0 else 1) < 30)) = true:=by rfl)
  (hline:(apos.endLine == cpos.line) = true:=by rfl) (hs:starEach [e] X.env = (false,eval e X.env) :: starEach [] X.env:=by rfl) (hplain:(backTo cpos (starEach [] X.env)).any (·.1) = false:=by rfl) :
  PX X (.Call (.Attribute (.Name x px) "append" apos) [e] [] cpos) (appX i g):=.mk fun H₀ B₀ δ pins s σ H Q I ⟨r,en,e1,k⟩=>by
 unfold appX at e1
 obtain ⟨B,b1,b2,env⟩:=en.ex
 cases e2:owL i δ with
 | none=>rw [e2] at e1; cases e1
 | some ds =>
  cases e3:g δ with
  | none=>rw [e2,e3] at e1; cases e1
  | some d =>
   rw [e2,e3] at e1
   simp only [Option.bind_some] at e1
   split at e1
   ·rename_i hz
    cases e1
    have hi:=owL_eq e2
    obtain ⟨a,hs',hb,xs,hx,rx⟩:=env.at hi
    refine pe_bm PySem.F.plainAttrs_list PySem.F.slot_list_append PySem.F.type_list_append mt_append (pe_var (i:=i) hN hv hd hcd) (pa_cons (h B δ) pa_nil hs) hbase hfew hline hs hplain pins s σ H Q I
     ⟨_,hs',.inl ⟨rfl,xs,.inl (.inl hx)⟩,d,env,e3,fun v H1 s1 r1=>⟨a,xs,v,rfl,rfl,s1 _ _ hx,by rw [rx.length]; exact hz,?_⟩⟩
    have env2:Env X.K (upd H1 a (.lst (xs ++ [v]))) B σ (δ.set i (.ow (.lst (ds ++ [d])))):=(env.same s1).mut hi hs' ⟨_,upd_same,(Rps.snoc (rx.same s1) r1).mono (Gr.own hb)⟩
    exact k _ _ (EnvV.mk' (en.mut s1 b1 b2 hi hs' env2) b1 b2 env2 (by rw [rp_non]))
   ·cases e1
theorem px_pop (i:Nat) (hN:X.N[i]? = some x:=by rfl) (hv:Vis X.env.scope x:=by first | exact Or.inl rfl | exact Or.inr (Or.inl rfl) | exact Or.inr (Or.inr rfl)) (hd:(x == ("__debug__" : Str)) = false:=by decide) (hcd:(x == ("__classdict__" : Str)) = false:=by decide)
  (hbase:attributeBase (.Name x px) "pop" X.env (eval (.Name x px) X.env) = eval (.Name x px) X.env:=by rfl) (hline:(apos.endLine == cpos.line) = true:=by rfl) :
  PX X (.Call (.Attribute (.Name x px) "pop" apos) [] [] cpos) (popX i):=.mk fun H₀ B₀ δ pins s σ H Q I ⟨r,en,e1,k⟩=>by
 unfold popX at e1
 obtain ⟨B,b1,b2,env⟩:=en.ex
 cases e2:owL i δ with
 | none=>rw [e2] at e1; cases e1
 | some ds =>
  rw [e2] at e1
  simp only [Option.bind_some] at e1
  cases e3:ds.getLast? with
  | none=>rw [e3] at e1; cases e1
  | some d =>
   rw [e3] at e1
   cases e1
   have hi:=owL_eq e2
   obtain ⟨a,hs',hb,xs,hx,rx⟩:=env.at hi
   rw [List.getLast?_eq_getElem?] at e3
   obtain ⟨y,hy,ry⟩:=rx.get e3
   refine pe_bm0 PySem.F.plainAttrs_list PySem.F.slot_list_pop PySem.F.type_list_pop mt_pop (pe_var (i:=i) hN hv hd hcd) hbase hline pins s σ H Q I
    ⟨_,hs',.inl ⟨rfl,xs,.inl (.inl hx)⟩,a,xs,y,rfl,rfl,hx,by rw [rx.length]; exact hy,?_⟩
   have env2:Env X.K (upd H a (.lst xs.dropLast)) B σ (δ.set i (.ow (.lst ds.dropLast))):=env.mut hi hs' ⟨_,upd_same,rx.dropLast.mono (Gr.own hb)⟩
   exact k _ _ (EnvV.mk' (en.mut (Same.refl _) b1 b2 hi hs' env2) b1 b2 env2 (ry.mono (Gr.own hb)))
theorem px_popAt (i:Nat) (h:PD X e g) (hN:X.N[i]? = some x:=by rfl) (hv:Vis X.env.scope x:=by first | exact Or.inl rfl | exact Or.inr (Or.inl rfl) | exact Or.inr (Or.inr rfl)) (hd:(x == ("__debug__" : Str)) = false:=by decide) (hcd:(x == ("__classdict__" : Str)) = false:=by decide)
  (hbase:attributeBase (.Name x px) "pop" X.env (eval (.Name x px) X.env) = eval (.Name x px) X.env:=by rfl)
  (hfew:((backTo cpos (starEach [e] X.env)).all (fun x=>!x.1) && (backToKw cpos (keywordEach [] X.env)).all (fun x=>x.1.isSome)
   && decide (([e]:List Expr).length + ([]:List Keyword).length + (if ([]:List Keyword).isEmpty then 0 else 1) < 30)) = true:=by rfl)
  (hline:(apos.endLine == cpos.line) = true:=by rfl) (hs:starEach [e] X.env = (false,eval e X.env) :: starEach [] X.env:=by rfl) (hplain:(backTo cpos (starEach [] X.env)).any (·.1) = false:=by rfl) :
  PX X (.Call (.Attribute (.Name x px) "pop" apos) [e] [] cpos) (popAtX i g):=.mk fun H₀ B₀ δ pins s σ H Q I ⟨r,en,e1,k⟩=>by
 unfold popAtX at e1
 obtain ⟨B,b1,b2,env⟩:=en.ex
 cases e2:owL i δ with
 | none=>rw [e2] at e1; cases e1
 | some ds =>
  cases e3:g δ with
  | none=>rw [e2,e3] at e1; cases e1
  | some d =>
   rw [e2,e3] at e1
   simp only [Option.bind_some] at e1
   cases d <;> try cases e1
   rename_i kk
   dsimp only at e1
   split at e1
   ·rename_i hz
    cases e4:ds[kk.toNat]? with
    | none=>rw [e4] at e1; cases e1
    | some dy =>
     rw [e4] at e1
     cases e1
     have hi:=owL_eq e2
     obtain ⟨a,hs',hb,xs,hx,rx⟩:=env.at hi
     obtain ⟨y,hy,ry⟩:=rx.get e4
     have hn:xs.length ≤ sizeLine:=(I.lstM hx).1
     have hl:=line63
     have hxl:=rx.length
     refine pe_bm PySem.F.plainAttrs_list PySem.F.slot_list_pop PySem.F.type_list_pop mt_popAt (pe_var (i:=i) hN hv hd hcd) (pa_cons (h B δ) pa_nil hs) hbase hfew hline hs hplain pins s σ H Q I
      ⟨_,hs',.inl ⟨rfl,xs,.inl (.inl hx)⟩,_,env,e3,fun v H1 s1 r1=>?_⟩
     rw [rp_int] at r1
     subst r1
     refine ⟨a,xs,kk,kk.toNat,y,rfl,rfl,s1 _ _ hx,by omega,by omega,seqIndex_of hz.1 (by rw [hxl]; exact hz.2),hy,?_⟩
     have env2:Env X.K (upd H1 a (.lst (xs.eraseIdx kk.toNat))) B σ (δ.set i (.ow (.lst (ds.eraseIdx kk.toNat)))):=(env.same s1).mut hi hs' ⟨_,upd_same,((rx.same s1).erase _).mono (Gr.own hb)⟩
     exact k _ _ (EnvV.mk' (en.mut s1 b1 b2 hi hs' env2) b1 b2 env2 ((ry.same s1).mono (Gr.own hb)))
   ·cases e1
theorem ptg_of {idx:List Nat} {f:D → Ds → Option Ds} (h:PGD X tg idx f):PTG X tg f:=.mk fun H₀ B₀ d δ pins s σ H v u Q I r ⟨δ',en,e1,k⟩=>by
 obtain ⟨B,b1,b2,env,rv⟩:=en.ex
 exact h B d δ pins s σ H v u Q I r ⟨δ',rv,env,e1,fun σ' w en'=>k σ' H (en.s.wr b1 b2 (Same.refl _) w en')⟩
theorem ptg_set (i:Nat) (h:PD X e g) (hN:X.N[i]? = some x:=by rfl) (hv:Vis X.env.scope x:=by first | exact Or.inl rfl | exact Or.inr (Or.inl rfl) | exact Or.inr (Or.inr rfl)) (hd:(x == ("__debug__" : Str)) = false:=by decide) (hcd:(x == ("__classdict__" : Str)) = false:=by decide)
  (ha:∀ v,assign (.Subscript (.Name x px) e pos) X.env v = (do
   let ov ← holding [v] (eval (.Name x px) X.env)
   let iv ← holding [v,ov] (eval e X.env)
   standAt pos
   holding [v,ov,iv] (setItem ov iv v)
   release [v,ov,iv] []):=by intro _; rfl):PTG X (.Subscript (.Name x px) e pos) (setAt i g):=.mk fun H₀ B₀ d δ pins s σ H v u Q I r ⟨δ',en,e1,k⟩=>by
 unfold setAt at e1
 obtain ⟨B,b1,b2,env,rv⟩:=en.ex
 cases e2:owL i δ with
 | none=>rw [e2] at e1; cases e1
 | some ds =>
  cases e3:g δ with
  | none=>rw [e2,e3] at e1; cases e1
  | some dk =>
   rw [e2,e3] at e1
   simp only [Option.bind_some] at e1
   cases dk <;> try cases e1
   rename_i kk
   dsimp only at e1
   cases e4:ixN ds.length kk with
   | none=>rw [e4] at e1; cases e1
   | some j =>
    rw [e4] at e1
    cases e1
    have hi:=owL_eq e2
    obtain ⟨a,hs',hb,xs,hx,rx⟩:=env.at hi
    refine pg_sub (pe_var (i:=i) hN hv hd hcd) (h B δ) set_list ha pins s σ H v u Q I r ⟨_,hs',_,env,e3,fun iv H1 s1 r1=>?_⟩
    rw [rp_int] at r1
    subst r1
    refine ⟨a,xs,kk,j,rfl,rfl,s1 _ _ hx,by rw [rx.length]; exact e4,?_⟩
    have env2:Env X.K (upd H1 a (.lst (xs.set j v))) B σ (δ.set i (.ow (.lst (ds.set j d)))):=(env.same s1).mut hi hs' ⟨_,upd_same,(Rps.set j (rx.same s1) (rv.same s1)).mono (Gr.own hb)⟩
    exact k _ _ (en.s.mut s1 b1 b2 hi hs' env2)
theorem psd_asgX {gx:GX} {ft:D → Ds → Option Ds} (h:PX X e gx) (hg:PTG X tg ft) (hs:swapsWithSole [tg] e pos.line X.env = pure false:=by rfl) (hw:swappedStores [tg] e X.env = pure none:=by rfl)
  (h1:(assignEach [tg] X.env).map (·.2) = [assign tg X.env]:=by rfl):PSD X (.Assign [tg] e pos) (asgX gx ft):=.mk fun H₀ B₀ δ pins s σ H D I ⟨r,en,e1,k⟩=>by
 unfold asgX at e1
 cases e2:gx δ with
 | none=>rw [e2] at e1; cases e1
 | some q =>
  rw [e2] at e1
  simp only [Option.bind_some] at e1
  cases e3:ft q.1 q.2 with
  | none=>rw [e3] at e1; cases e1
  | some δ' =>
   rw [e3] at e1
   cases e1
   exact ps_asg (h H₀ B₀ δ) (hg H₀ B₀ q.1 q.2) hs hw h1 pins s σ H D I ⟨q,en,e2,fun v H' en'=>⟨δ',en',e3,fun σ' H'' en''=>k σ' H'' en''⟩⟩
theorem psd_exprX {gx:GX} (h:PX X e gx) (hs:swapsWith e none pos.line X.env = pure false:=by rfl):PSD X (.Expr e pos) (exprX gx):=.mk fun H₀ B₀ δ pins s σ H D I ⟨r,en,e1,k⟩=>by
 unfold exprX at e1
 cases e2:gx δ with
 | none=>rw [e2] at e1; cases e1
 | some q =>
  rw [e2] at e1
  cases e1
  exact ps_expr (h H₀ B₀ δ) hs pins s σ H D I ⟨q,en,e2,fun v H' en'=>k σ H' en'.s⟩
theorem psd_while (n:Nat) {c:Expr} {body:List Stmt} (hp:PassesOwn (model X.prog X.w) X.A X.env X.xe) (hc:PTD X c gt) (hb:PSsD X body G):PSD X (.While c body [] pos) (whileD gt G n):=.mk fun H₀ B₀ δ pins s σ H D I ⟨r,en,e1,k⟩=>by
 have hc':PT X c (fun σ H Q=>∃ B δ,tDT X.K B δ gt σ H Q):=fun pins s σ H Q I ⟨B,δ,h⟩=>hc B δ pins s σ H Q I h
 have hb':PSs X body (fun D σ H=>∃ δ,tDS X.K H₀ B₀ δ G D σ H):=fun pins s σ H D I ⟨δ,h⟩=>hb H₀ B₀ δ pins s σ H D I h
 refine ps_while hp hc' hb' pins s σ H D I ⟨fun m σ H=>∃ δ',EnvS X.K H₀ B₀ H σ δ' ∧ whileD gt G m δ' = some r,⟨n,δ,en,e1⟩,?_⟩
 rintro m σ1 H1 ⟨δ1,en1,e2⟩
 cases m with
 | zero=>cases e2
 | succ m =>
  unfold whileD at e2
  obtain ⟨B,b1,b2,env⟩:=en1.ex
  cases e3:gt δ1 with
  | none=>rw [e3] at e2; cases e2
  | some t =>
   rw [e3] at e2
   refine ⟨B,δ1,t,env,e3,fun H2 s2=>?_⟩
   cases t with
   | false =>
    rw [if_neg Bool.false_ne_true]
    cases e2
    exact k σ1 H2 (en1.grow s2)
   | true =>
    rw [if_pos rfl]
    dsimp only at e2
    refine ⟨fun σ' H'=>∃ δ',EnvS X.K H₀ B₀ H' σ' δ' ∧ whileD gt G m δ' = some r,fun σ' H' z=>⟨m,Nat.lt_succ_self m,z⟩,δ1,?_⟩
    cases e4:G δ1 with
    | none=>rw [e4] at e2; cases e2
    | some rb =>
     rw [e4] at e2
     refine ⟨rb,en1.grow s2,e4,?_⟩
     cases rb with
     | nx δn=>exact fun σ' H' en'=>⟨δn,en',e2⟩
     | ct δn=>exact fun σ' H' en'=>⟨δn,en',e2⟩
     | bk δn=>cases e2; exact fun σ' H' en'=>k σ' H' en'
     | rt d'=>cases e2; exact fun v H' s' r'=>k v H' s' r'
     | rf d'=>cases e2; exact fun p H' hp s' r'=>k p H' hp s' r'
theorem pgd_tup2 (i j:Nat) {y:Str} {p2 p3:Pos} {kk} (hN:X.N.Nodup) (hij:i ≠ j) (hc:X.calm = true:=by rfl) (hi:X.N[i]? = some x:=by rfl) (hj:X.N[j]? = some y:=by rfl)
  (hx:Loc X.env.scope x:=by first | exact Or.inl rfl | exact Or.inr rfl) (hy:Loc X.env.scope y:=by first | exact Or.inl rfl | exact Or.inr rfl)
  (hf:X.fn x = true ∨ X.env.scope.names.lookup x = some .local:=by first | exact .inl rfl | exact .inr rfl | assumption) (hf2:X.fn y = true ∨ X.env.scope.names.lookup y = some .local:=by first | exact .inl rfl | exact .inr rfl | assumption)
  (hs1:(assignEach [.Name x p2,.Name y p3] X.env).map (·.2) = assign (.Name x p2) X.env :: (assignEach [.Name y p3] X.env).map (·.2):=by rfl) (hs2:(assignEach [.Name y p3] X.env).map (·.2) = assign (.Name y p3) X.env :: (assignEach [] X.env).map (·.2):=by rfl)
  (hn:(assignEach [.Name x p2,.Name y p3] X.env).length = 2:=by rfl) (hst:(assignEach [.Name x p2,.Name y p3] X.env).findIdx? (·.1) = none:=by rfl) :
  PGD X (.Tuple [.Name x p2,.Name y p3] kk pos) [i,j] (tup2 i j):=.mk fun B d δ=>(pg_tup hc (pgs_cons (pg_name (i:=i) hN hi hx hf) (pgs_cons (pg_name (i:=j) hN hj hy hf2) pgs_nil hs2) hs1) hn hst).imp fun v σ H Q ⟨δ',r,en,e1,k⟩=>by
 unfold tup2 at e1
 split at e1
 ·rename_i da db
  cases e1
  rw [rp_tup] at r
  obtain ⟨p,xs,rfl,hq,rs⟩:=r
  rw [rps_cons] at rs
  obtain ⟨va,t1,rfl,ra,rs⟩:=rs
  rw [rps_cons] at rs
  obtain ⟨vb,t2,rfl,rb,rs⟩:=rs
  rw [rps_nil] at rs
  subst rs
  refine ⟨p,_,rfl,hq.to,rfl,va,[vb],rfl,vb,[],rfl,rfl,k _ ?_ ((en.set i ra).set j rb)⟩
  refine ⟨by simp,fun q hq=>?_,fun q hq ds h=>?_⟩
  ·have h1:q ≠ i:=fun z=>hq (by rw [z]; exact List.mem_cons_self)
   have h2:q ≠ j:=fun z=>hq (by rw [z]; exact List.mem_cons_of_mem _ List.mem_cons_self)
   rw [List.getElem?_set_ne (Ne.symm h2),List.getElem?_set_ne (Ne.symm h1),List.getElem?_set_ne (Ne.symm h2),List.getElem?_set_ne (Ne.symm h1)]
   exact ⟨rfl,rfl⟩
  ·rcases get_set h with ⟨rfl,e3,_⟩ | ⟨n1,e3⟩
   ·cases e3
   ·rcases get_set e3 with ⟨rfl,e4,_⟩ | ⟨n2,e4⟩
    ·cases e4
    ·simp at hq
     rcases hq with z | z
     ·exact n2 z.symm
     ·exact n1 z.symm
 ·cases e1
end
end DL
namespace HT
open PySem PyProof.Rows
section
variable {prog:Program} {w:World} {A:Around} {E:Value → Shared → Prop} {s:Shared}
theorem getItem_tuple_whole {t sl:Addr} {items:Array Value} {vl vu:Value} {lo hi:Option Int} {Q:Value → Shared → Prop} (ht:IsTup s.heap t items) (hs:s.heap.IsSliceOf sl vl vu .none) (pl:IsPart vl lo) (pu:IsPart vu hi)
  (hw:sIx items.size 0 lo = 0 ∧ sIx items.size items.size hi = items.size) (h:Q (.ref t) s):wpAny (model prog w) A (getItem (.ref t) (.ref sl)) Q E s:=by
 obtain ⟨os,hos,hcs,hds⟩:=id hs
 have hTs:s.TypeIs (.ref sl) "slice" := ⟨os,hos,hcs⟩
 unfold getItem
 try with_reducible refine wpAny_holding ?_
 first | refine wpAny_bind (wpAny_pure ?_) | skip
 refine wpAny_bind (wpAny_sequenceKey ht.typeIs (by decide) ?_)
 refine wpAny_bind (wpAny_callSpecial?_slot (name:=Str.ofString "__getitem__") ht.typeIs PyProof.Rows.slot_tuple_getitem
  (wpAny_call_entry PyProof.Rows.slot_tuple_getitem ht.typeIs entry_tuple_getitem ?_ (args_tuple_getitem _ _)))
 show wpAny _ _ (Builtin.Tuple.tupleItemsOf (.ref t) >>= _) _ _ s
 refine wpAny_bind (tupleItemsOf_ ht ?_)
 refine wpAny_bind (wpAny_typeOf hTs ?_)
 rw [if_pos (by decide)]
 refine wpAny_bind (sliceApplied_gen hs pl pu ?_)
 have hyes:(((sIx items.size 0 lo:Nat):Int) == 0 && (1:Int) == 1 && (sIx items.size items.size hi - sIx items.size 0 lo) == items.size) = true:=by
  rw [hw.1,hw.2]
  simp
 show wpAny _ _ (if (((sIx items.size 0 lo:Nat):Int) == 0 && (1:Int) == 1 && (sIx items.size items.size hi - sIx items.size 0 lo) == items.size) = true then _ else _) _ _ s
 rw [if_pos hyes]
 unfold Builtin.Tuple.tupleIsExact
 refine wpAny_bind (wpAny_bind (wpAny_typeOf ht.typeIs (wpAny_pure ?_)))
 rw [if_pos (by decide)]
 exact wpAny_bind (wpAny_rule (wpAny_pure ⟨_,rfl,wpAny_pure h⟩))
end
end HT
namespace L2
open PySem PySem.Spec PyProof.Rows
section
variable {X:Cx}
noncomputable def rSlTW (K:W.Frag):V → Option Int → Option Int → Hp → VK → Prop:=fun x lo hi H Q=>∃ a xs,x = .ref a ∧ SqT K H a xs ∧ (HT.sIx xs.length 0 lo = 0 ∧ HT.sIx xs.length xs.length hi = xs.length) ∧ Q (.ref a) H
theorem sl_tupW:SlR X (rSlTW X.K):=by
 intro pins s σ H x v vl vu lo hi sl Q I rx hs pl pu h
 obtain ⟨a,xs,rfl,hx,hw,q⟩:=h
 cases rx
 obtain ⟨its,r,ht,hz⟩:=I.tuple hx
 have hlen:its.toArray.size = xs.length:=by rw [List.size_toArray]; exact r.length.symm
 exact ⟨"tuple",_,PyProof.Rows.slot_tuple_getitem.lookup,ht.typeIs,HT.getItem_tuple_whole ht hs pl pu (by rw [hlen]; exact hw) ⟨.ref a,H,I,rfl,q⟩⟩
noncomputable def rCatT0 (K:W.Frag):R2:=fun x y H Q=>∃ a b ys,x = .ref a ∧ y = .ref b ∧ SqT K H a [] ∧ SqT K H b ys ∧ Q (.ref b) H
theorem op_catT0:OpR X (binaryOp .Add) (rCatT0 X.K):=by
 intro pins s σ H x y v u Q I rx ry h
 obtain ⟨a,b,ys,rfl,rfl,ha,hb,q⟩:=h
 cases rx
 cases ry
 obtain ⟨its,r1,p1,_⟩:=I.tuple ha
 obtain ⟨its2,r2,p2,_⟩:=I.tuple hb
 have e:its = []:=r1.zero
 subst e
 obtain ⟨⟨cls,dd,data,sl⟩,ho,hc,n,hd⟩:=id p1
 obtain ⟨⟨cls2,dd2,data2,sl2⟩,ho2,hc2,n2,hd2⟩:=id p2
 simp only at hc hd hc2 hd2
 subst hc hd hc2 hd2
 exact concat_meets ⟨_,ho,rfl⟩ ⟨_,ho2,rfl⟩ noFill_tuple_add seq_tuple_add PySem.F.slot_tuple_add PySem.F.entry_tuple_add (PySem.F.args_tuple_add_2 _ _)
  (tuple_addW0 a b _ its2.toArray n n2 dd dd2 sl sl2 rfl) ⟨ho,ho2,⟨.ref b,H,I,rfl,q⟩⟩
noncomputable def repS (x:Str) (n:Int):Str:=⟨(List.replicate n.toNat x.cps).foldl (· ++ ·) #[]⟩
noncomputable def rMulS:R2:=fun x y H Q=>∃ z n,x = .str z ∧ y = .int n ∧ -(2 ^ 62) ≤ n ∧ n < 2 ^ 62 ∧ z.length * n.toNat ≤ sizeLine ∧ Q (.str (repS z n)) H
theorem op_mulS:OpR X (binaryOp .Mult) rMulS:=by
 intro pins s σ H x y v u Q I rx ry h
 obtain ⟨z,n,rfl,rfl,h1,h2,hz,q⟩:=h
 obtain ⟨t,rfl⟩:=rx
 obtain ⟨t',rfl⟩:=ry
 have fin:∀ t'' k,EP X pins σ Q (.str (repS z n) t'') { s with toks:=k }:=fun t'' k=>⟨.str _,H,I.tok k,⟨t'',rfl⟩,q⟩
 have hsl:(sizeLine:Nat) < 2 ^ 40:=by decide
 have hdiv:¬ n < 1 → ¬ ((z.length:Int) > (2 ^ 63 - 1) / n):=by
  intro hn
  have hn':0 < n:=by omega
  have:(z.length:Int) * n ≤ 2 ^ 63 - 1:=by
   have e:n = (n.toNat:Int):=by omega
   rw [e]
   have:((z.length * n.toNat:Nat):Int) ≤ 2 ^ 40:=by exact_mod_cast (by omega:z.length * n.toNat ≤ 2 ^ 40)
   rw [Int.natCast_mul] at this
   omega
  exact Int.not_lt.mpr ((Int.le_ediv_iff_mul_le hn').mpr this)
 refine PySem.P.mul_str (by rw [decide_eq_false (by omega),decide_eq_false (by omega)]; rfl) (fun hn _=>hdiv hn) (fun _ _=>?_) ?_
 ·show decide (z.length * n.toNat > sizeLine) = false
  exact decide_eq_false (by omega)
 ·by_cases hn:n < 1
  ·rw [if_pos hn]
   have e:repS z n = Str.empty:=by
    unfold repS
    rw [show n.toNat = 0 by omega]
    rfl
   refine ⟨by decide,?_⟩
   rw [← e]
   exact fin _ _
  ·rw [if_neg hn]
   by_cases h3:(n == 1 || z.length == 0) = true
   ·rw [if_pos h3]
    have e:repS z n = z:=by
     rw [Bool.or_eq_true] at h3
     rcases h3 with h3 | h3
     ·have:n = 1:=eq_of_beq h3
      subst this
      unfold repS
      show (⟨#[] ++ z.cps⟩:Str) = z
      rw [Array.empty_append]
     ·have h3:z.length = 0:=eq_of_beq h3
      have hz0:z.cps = #[]:=Array.eq_empty_of_size_eq_zero h3
      have:∀ k:Nat,(List.replicate k (#[]:Array Nat)).foldl (· ++ ·) #[] = #[]:=by
       intro k
       induction k with
       | zero=>rfl
       | succ k ih=>rw [List.replicate_succ,List.foldl_cons]; exact ih
      unfold repS
      rw [hz0,this]
      cases z
      simp at hz0
      rw [hz0]
    have:=fin t s.toks
    rw [e] at this
    exact this
   ·rw [if_neg h3]
    have hl2:∀ (k:Nat) (acc:Array Nat),((List.replicate k z.cps).foldl (· ++ ·) acc).size = acc.size + k * z.cps.size:=by
     intro k
     induction k with
     | zero=>intro acc; simp
     | succ k ih=>intro acc; rw [List.replicate_succ,List.foldl_cons,ih,Array.size_append,Nat.succ_mul]; omega
    refine ⟨?_,fin _ _⟩
    show ((List.replicate n.toNat z.cps).foldl (· ++ ·) #[]).size ≤ _
    rw [hl2]
    have:z.length = z.cps.size:=rfl
    rw [this,Nat.mul_comm] at hz
    simpa using hz
theorem noFill_tup_mul:fillsNumberSlot (.type "tuple") "mul" = pure false :=
 PySem.fillsNumberSlot_seq (id := "tuple.__mul__") (r:=some (.builtin "tuple.__rmul__")) PySem.F.slot_tuple_mul.lookup (by decide +kernel) PySem.F.slot_tuple_rmul.lookup (by decide +kernel)
theorem repeat_tup:seqRepeat? (.type "tuple") = pure (some (.builtin "tuple.__mul__")):=by
 unfold seqRepeat?
 rw [PySem.seqSlot_of (T := "tuple") (name := "__mul__") (id := "tuple.__mul__") PySem.F.slot_tuple_mul.lookup (by decide +kernel),PySem.seqSlot_of (T := "tuple") (name := "__rmul__") (id := "tuple.__rmul__") PySem.F.slot_tuple_rmul.lookup (by decide +kernel)]
 rfl
theorem rmul_int_tup (a:Int) (t:Tok) (l:Addr) (items:Array Value) (n:Nat) (dd:Option Addr) (sl:Array (Option Value)) :
  Meets (Builtin.«int.__rmul__» ⟨[.int a t,.ref l],[]⟩) (fun _ R s=>s.heap.get? l = some { cls:=.type "tuple",dict:=dd,data:=.seq items n,slots:=sl } ∧ R (.ok (.ret Value.notImplemented)) s) :=
 .of_wp fun prog w A R s h=>by
  obtain ⟨hp,g,d,tk,os⟩:=s
  obtain ⟨hl,h⟩:=h
  wp_walk
  exact ⟨_,rfl,h⟩
theorem tup_mulW (l:Addr) (items:Array Value) (n:Nat) (dd:Option Addr) (sl:Array (Option Value)) (k:Int) (t:Tok) (h2:2 ≤ k) (h3:k < 2 ^ 62) (he:items.isEmpty = false) (hsz:items.size * k.toNat ≤ sizeLine) :
  Meets (Builtin.«tuple.__mul__» ⟨[.ref l,.int k t],[]⟩) (fun _ R s=>s.heap.get? l = some { cls:=.type "tuple",dict:=dd,data:=.seq items n,slots:=sl } ∧ R (.ok (.ret (Value.ref s.heap.objs.size))) { s with heap:=s.heap.push { cls:=.type "tuple",data:=.seq ((List.replicate k.toNat items).foldl (· ++ ·) #[]) } }) :=
 .of_wp fun prog w A R s h=>by
  obtain ⟨hp,g,d,tk,os⟩:=s
  obtain ⟨hl,h⟩:=h
  have f1:=AutoSeq1.idx_int
  have c1:¬ ((decide (k < -(2 ^ 63:Int)) || decide (k ≥ 2 ^ 63)) = true):=by
   rw [decide_eq_false (by omega),decide_eq_false (by omega)]; exact Bool.false_ne_true
  have c2:¬ ((items.isEmpty || k == 1) = true):=by
   rw [he,beq_eq_false_iff_ne.mpr (by omega)]; exact Bool.false_ne_true
  have c3:¬ ((decide (k ≤ 0) || items.isEmpty) = true):=by
   rw [he,decide_eq_false (by omega)]; exact Bool.false_ne_true
  have hk:((items.size:Int) * k) = ((items.size * k.toNat:Nat):Int):=by
   rw [Int.natCast_mul]; congr 1; omega
  have hb:(sizeLine:Nat) < 2 ^ 40:=by decide
  have c4:¬ ((items.size:Int) * k > (2 ^ 63 - 1) / 8):=by
   rw [hk]; omega
  have c5:¬ (Builtin.Tuple.tupleTooMany ((items.size:Int) * k) = true):=by
   rw [hk]
   unfold Builtin.Tuple.tupleTooMany
   simp only [decide_eq_true_eq]
   omega
  have hsz2:∀ (m:Nat) (acc:Array Value),((List.replicate m items).foldl (· ++ ·) acc).size = acc.size + m * items.size:=by
   intro m
   induction m with
   | zero=>intro acc; simp
   | succ m ih=>intro acc; rw [List.replicate_succ,List.foldl_cons,ih,Array.size_append,Nat.succ_mul]; omega
  have htake:sizeOk (.seq ((List.replicate k.toNat items).foldl (· ++ ·) #[])):=by
   show ((List.replicate k.toNat items).foldl (· ++ ·) #[]).size ≤ sizeLine
   rw [hsz2,Nat.mul_comm]
   simpa using hsz
  wp_walk
  rw [if_neg c1]
  show wpAny _ _ (Builtin.Tuple.tupleItemsOf (.ref l) >>= _) _ _ _
  refine wpAny_bind (tupleItemsOf_ ⟨_,hl,rfl,n,rfl⟩ ?_)
  dsimp only
  rw [if_neg c2,if_neg c3]
  rw [if_neg c4,if_neg c5]
  exact wpAny_bind (m:=Builtin.Tuple.tupleExact _) (wpAny_newObj_type (wpAny_pure ⟨_,rfl,h⟩) htake)
noncomputable def rMulT (K:W.Frag):R2:=fun x y H Q=>∃ a xs k,x = .ref a ∧ y = .int k ∧ SqT K H a xs ∧ xs ≠ [] ∧ 2 ≤ k ∧ k < 2 ^ 62 ∧ xs.length * k.toNat ≤ sizeLine ∧ ∀ p,H p = none → Q (.ref p) (upd H p (.tup (List.replicate k.toNat xs).flatten))
theorem op_mulT:OpR X (binaryOp .Mult) (rMulT X.K):=by
 intro pins s σ H x y v u Q I rx ry h
 obtain ⟨a,xs,k,rfl,rfl,ha,hx,h2,h3,hz,q⟩:=h
 cases rx
 obtain ⟨t,rfl⟩:=ry
 obtain ⟨its,r1,p1,_⟩:=I.tuple ha
 obtain ⟨⟨cls,dd,data,sl⟩,ho,hc,n,hd⟩:=id p1
 simp only at hc hd
 subst hc hd
 have hl:=r1.length
 have he:its.toArray.isEmpty = false:=by
  cases its with
  | nil=>exact absurd (r1.nil_iff.mp rfl) hx
  | cons a b=>rfl
 have hlen:its.toArray.size * k.toNat ≤ sizeLine:=by rw [List.size_toArray,← hl]; exact hz
 have hnew:(List.replicate k.toNat its.toArray).foldl (· ++ ·) #[] = (List.replicate k.toNat its).flatten.toArray:=by
  have:=foldl_rep its k.toNat []
  rw [List.nil_append] at this
  exact this
 refine wpAny_binaryOp_repeat_ref (T := "tuple") (U := "int") (by decide) ⟨_,ho,rfl⟩ (fun s'=>typeIs_int s' k t) noFill_tup_mul F.fills_int_mul F.slot_int_rmul repeat_tup F.slot_int_index.lookup
  (call_meets F.slot_int_rmul (typeIs_int s k t) F.entry_int_rmul (F.args_int_rmul_2 _ _) (rmul_int_tup k t a its.toArray n dd sl)
   ⟨ho,rfl,⟨_,ho,rfl⟩,call_meets F.slot_tuple_mul ⟨_,ho,rfl⟩ F.entry_tuple_mul (F.args_tuple_mul_2 _ _) (tup_mulW a its.toArray n dd sl k t h2 h3 he hlen) ⟨ho,?_⟩⟩)
 rw [hnew]
 refine ⟨.ref s.heap.objs.size,_,I.laid (t':=s.toks) (o:=.tup (List.replicate k.toNat xs).flatten) (fun b ob q=>Heap.get?_push_of_some _ q) (Nat.le_refl _) ?_,rfl,q _ (I.hok.fresh (Nat.le_refl _))⟩
 exact ⟨by rw [len_rep,Nat.mul_comm]; exact hz,_,r1.rep k.toNat,IsTupN.new _ _⟩
end
end L2
namespace DL
open PySem PySem.Spec PyProof.Rows L2
mutual
theorem deq_refl:∀ (d:D) (n:Nat),lean d n = true → deq d d = true
 | .non,_,_=>by unfold deq; rfl
 | .bl b,_,_=>by unfold deq; simp
 | .int b,_,_=>by unfold deq; simp
 | .str b,_,_=>by unfold deq; simp
 | .tup ds,0,h=>by unfold lean at h; cases h
 | .tup ds,n + 1,h=>by unfold lean at h; unfold deq; exact deqs_refl ds n h
 | .lst ds,0,h=>by unfold lean at h; cases h
 | .lst ds,n + 1,h=>by unfold lean at h; unfold deq; exact deqs_refl ds n h
 | .dct _ _,n,h=>by unfold lean at h; cases h
theorem deqs_refl:∀ (ds:List D) (n:Nat),leans ds n = true → deqs ds ds = true
 | [],_,_=>by unfold deqs; rfl
 | d :: ds,n,h=>by
  unfold leans at h
  rw [Bool.and_eq_true] at h
  unfold deqs
  rw [deq_refl d n h.1,deqs_refl ds n h.2]
  rfl
end
theorem deqs_range:∀ ds es:List D,deqs ds es = ((List.range (min ds.length es.length)).all (fun j=>deq (ds.getD j .non) (es.getD j .non)) && ds.length == es.length)
 | [],[]=>by unfold deqs; simp
 | [],_ :: _=>by unfold deqs; simp
 | _ :: _,[]=>by unfold deqs; simp
 | d :: ds,e :: es=>by
  unfold deqs
  rw [deqs_range ds es]
  have h1:min (d :: ds).length (e :: es).length = min ds.length es.length + 1:=by simp only [List.length_cons]; omega
  rw [h1,List.range_succ_eq_map,List.all_cons,List.all_map]
  have h2:((d :: ds).length == (e :: es).length) = (ds.length == es.length):=by
   rw [Bool.eq_iff_iff]
   simp
  rw [h2,Bool.and_assoc]
  rfl
theorem leans_get:∀ {ds:List D} {n j:Nat} {d:D},leans ds n = true → ds[j]? = some d → lean d n = true
 | [],_,_,_,_,h=>by simp at h
 | d :: ds,n,0,_,h,e=>by
  unfold leans at h
  rw [Bool.and_eq_true] at h
  simp at e; subst e; exact h.1
 | d :: ds,n,j + 1,_,h,e=>by
  unfold leans at h
  rw [Bool.and_eq_true] at h
  exact leans_get (j:=j) h.2 (by simpa using e)
section
variable {X:Cx} {pins:List (Addr × Obj)} {σ:St} {H:Hp} {s:Shared}
mutual
theorem Rp.inj (I:Inv X pins σ H s) {B B':BS}:∀ {d e:D} {n m:Nat} {v:V},lean d n = true → lean e m = true → Rp X.K H B d v → Rp X.K H B' e v → d = e
 | .non,e,_,m,v,_,le,h,h'=>by
  rw [rp_non] at h; subst h
  cases e with
  | non=>rfl
  | bl b=>rw [rp_bl] at h'; cases h'
  | int b=>rw [rp_int] at h'; cases h'
  | str b=>rw [rp_str] at h'; cases h'
  | tup b=>rw [rp_tup] at h'; obtain ⟨_,_,z,_⟩:=h'; cases z
  | lst b=>rw [rp_lst] at h'; obtain ⟨_,_,z,_⟩:=h'; cases z
  | dct a b=>unfold lean at le; cases le
 | .bl c,e,_,m,v,_,le,h,h'=>by
  rw [rp_bl] at h; subst h
  cases e with
  | non=>rw [rp_non] at h'; cases h'
  | bl b=>rw [rp_bl] at h'; cases h'; rfl
  | int b=>rw [rp_int] at h'; cases h'
  | str b=>rw [rp_str] at h'; cases h'
  | tup b=>rw [rp_tup] at h'; obtain ⟨_,_,z,_⟩:=h'; cases z
  | lst b=>rw [rp_lst] at h'; obtain ⟨_,_,z,_⟩:=h'; cases z
  | dct a b=>unfold lean at le; cases le
 | .int c,e,_,m,v,_,le,h,h'=>by
  rw [rp_int] at h; subst h
  cases e with
  | non=>rw [rp_non] at h'; cases h'
  | bl b=>rw [rp_bl] at h'; cases h'
  | int b=>rw [rp_int] at h'; cases h'; rfl
  | str b=>rw [rp_str] at h'; cases h'
  | tup b=>rw [rp_tup] at h'; obtain ⟨_,_,z,_⟩:=h'; cases z
  | lst b=>rw [rp_lst] at h'; obtain ⟨_,_,z,_⟩:=h'; cases z
  | dct a b=>unfold lean at le; cases le
 | .str c,e,_,m,v,_,le,h,h'=>by
  rw [rp_str] at h; subst h
  cases e with
  | non=>rw [rp_non] at h'; cases h'
  | bl b=>rw [rp_bl] at h'; cases h'
  | int b=>rw [rp_int] at h'; cases h'
  | str b=>rw [rp_str] at h'; cases h'; rfl
  | tup b=>rw [rp_tup] at h'; obtain ⟨_,_,z,_⟩:=h'; cases z
  | lst b=>rw [rp_lst] at h'; obtain ⟨_,_,z,_⟩:=h'; cases z
  | dct a b=>unfold lean at le; cases le
 | .tup ds,e,0,m,v,ld,_,_,_=>by unfold lean at ld; cases ld
 | .tup ds,e,n + 1,m,v,ld,le,h,h'=>by
  rw [rp_tup] at h
  obtain ⟨a,xs,rfl,q,r⟩:=h
  unfold lean at ld
  cases e with
  | non=>rw [rp_non] at h'; cases h'
  | bl b=>rw [rp_bl] at h'; cases h'
  | int b=>rw [rp_int] at h'; cases h'
  | str b=>rw [rp_str] at h'; cases h'
  | tup es =>
   cases m with
   | zero=>unfold lean at le; cases le
   | succ m =>
    unfold lean at le
    rw [rp_tup] at h'
    obtain ⟨a',ys,z,q',r'⟩:=h'
    cases z
    have:=I.tuple_inj q.to q'.to
    subst this
    rw [Rps.inj I ld le r r']
  | lst es =>
   rw [rp_lst] at h'
   obtain ⟨a',ys,z,q',r'⟩:=h'
   cases z
   obtain ⟨_,_,⟨o,e1,c1,_⟩,_⟩:=I.tuple q.to
   obtain ⟨_,_,p,_⟩:=I.list q'.to
   obtain ⟨o',e2,c2,_⟩:=p.isList
   rw [e1] at e2; cases e2
   rw [c1] at c2
   injection c2 with z
   exact absurd z (by decide)
  | dct a b=>unfold lean at le; cases le
 | .lst ds,e,0,m,v,ld,_,_,_=>by unfold lean at ld; cases ld
 | .lst ds,e,n + 1,m,v,ld,le,h,h'=>by
  rw [rp_lst] at h
  obtain ⟨a,xs,rfl,q,r⟩:=h
  unfold lean at ld
  cases e with
  | non=>rw [rp_non] at h'; cases h'
  | bl b=>rw [rp_bl] at h'; cases h'
  | int b=>rw [rp_int] at h'; cases h'
  | str b=>rw [rp_str] at h'; cases h'
  | lst es =>
   cases m with
   | zero=>unfold lean at le; cases le
   | succ m =>
    unfold lean at le
    rw [rp_lst] at h'
    obtain ⟨a',ys,z,q',r'⟩:=h'
    cases z
    have:=I.list_inj q.to q'.to
    subst this
    rw [Rps.inj I ld le r r']
  | tup es =>
   rw [rp_tup] at h'
   obtain ⟨a',ys,z,q',r'⟩:=h'
   cases z
   obtain ⟨_,_,⟨o,e1,c1,_⟩,_⟩:=I.tuple q'.to
   obtain ⟨_,_,p,_⟩:=I.list q.to
   obtain ⟨o',e2,c2,_⟩:=p.isList
   rw [e1] at e2; cases e2
   rw [c1] at c2
   injection c2 with z
   exact absurd z (by decide)
  | dct a b=>unfold lean at le; cases le
 | .dct a b,e,n,m,v,ld,_,_,_=>by unfold lean at ld; cases ld
theorem Rps.inj (I:Inv X pins σ H s) {B B':BS}:∀ {ds es:List D} {n m:Nat} {xs:List V},leans ds n = true → leans es m = true → Rps X.K H B ds xs → Rps X.K H B' es xs → ds = es
 | [],es,_,_,_,_,_,h,h'=>by
  rw [rps_nil] at h; subst h
  have:=h'.length
  cases es with
  | nil=>rfl
  | cons a b=>simp at this
 | d :: ds,es,n,m,_,ld,le,h,h'=>by
  rw [rps_cons] at h
  obtain ⟨x,r,rfl,h1,h2⟩:=h
  cases es with
  | nil=>rw [rps_nil] at h'; cases h'
  | cons e es =>
   rw [rps_cons] at h'
   obtain ⟨x',r',z,h1',h2'⟩:=h'
   cases z
   unfold leans at ld le
   rw [Bool.and_eq_true] at ld le
   rw [Rp.inj I ld.1 le.1 h1 h1',Rps.inj I ld.2 le.2 h2 h2']
end
theorem view (I:Inv X pins σ H s) {B:BS} {d:D} {n:Nat} {x:V} {u:Value} (l:lean d n = true) (h:Rp X.K H B d x) (r:RelV x u) :
  (d = .non ∧ u = .none) ∨ (∃ b,d = .bl b ∧ u = .bool b) ∨ (∃ i t,d = .int i ∧ u = .int i t) ∨ (∃ z t,d = .str z ∧ u = .str z t) ∨
  (∃ m ds a xs its,n = m + 1 ∧ leans ds m = true ∧ d = .tup ds ∧ x = .ref a ∧ u = .ref a ∧ Rps X.K H B ds xs ∧ Vals xs its ∧ s.heap.IsTuple a its.toArray) ∨
  (∃ m ds a xs its,n = m + 1 ∧ leans ds m = true ∧ d = .lst ds ∧ x = .ref a ∧ u = .ref a ∧ Rps X.K H B ds xs ∧ Vals xs its ∧ s.heap.IsList a its.toArray):=by
 cases d with
 | non=>rw [rp_non] at h; subst h; exact .inl ⟨rfl,r⟩
 | bl b=>rw [rp_bl] at h; subst h; exact .inr (.inl ⟨b,rfl,r⟩)
 | int i=>rw [rp_int] at h; subst h; obtain ⟨t,e⟩:=r; exact .inr (.inr (.inl ⟨i,t,rfl,e⟩))
 | str z=>rw [rp_str] at h; subst h; obtain ⟨t,e⟩:=r; exact .inr (.inr (.inr (.inl ⟨z,t,rfl,e⟩)))
 | tup ds =>
  cases n with
  | zero=>unfold lean at l; cases l
  | succ m =>
   unfold lean at l
   rw [rp_tup] at h
   obtain ⟨a,xs,rfl,q,rr⟩:=h
   obtain ⟨its,rv,p,_⟩:=I.tuple q.to
   exact .inr (.inr (.inr (.inr (.inl ⟨m,ds,a,xs,its,rfl,l,rfl,rfl,r,rr,rv,p⟩))))
 | lst ds =>
  cases n with
  | zero=>unfold lean at l; cases l
  | succ m =>
   unfold lean at l
   rw [rp_lst] at h
   obtain ⟨a,xs,rfl,q,rr⟩:=h
   obtain ⟨its,rv,p,_⟩:=I.list q.to
   exact .inr (.inr (.inr (.inr (.inr ⟨m,ds,a,xs,its,rfl,l,rfl,rfl,r,rr,rv,p.isList⟩))))
 | dct a b=>unfold lean at l; cases l
theorem in1_units {A:Around}:A.in1.units = A.units + 1:=rfl
theorem items_eq {ds es:List D} {xs ys:List V} {us ws:List Value} {n m:Nat} {B B':BS} {A:Around} (ld:leans ds n = true) (le:leans es m = true) (r1:Rps X.K H B ds xs) (r2:Rps X.K H B' es ys) (v1:Vals xs us) (v2:Vals ys ws)
  (ih:∀ d e x y u w,lean d n = true → lean e m = true → Rp X.K H B d x → Rp X.K H B' e y → RelV x u → RelV y w → SeqAt.EqAt A s u w (deq d e)) :
  ∀ j (h1:j < us.toArray.size) (h2:j < ws.toArray.size),SeqAt.EqAt A s us.toArray[j] ws.toArray[j] (deq (ds.getD j .non) (es.getD j .non)):=by
 intro j h1 h2
 have l1:j < ds.length:=by rw [← r1.length,v1.length]; simpa using h1
 have l2:j < es.length:=by rw [← r2.length,v2.length]; simpa using h2
 obtain ⟨x,ex,rx⟩:=r1.get (List.getElem?_eq_getElem l1)
 obtain ⟨y,ey,ry⟩:=r2.get (List.getElem?_eq_getElem l2)
 obtain ⟨u,eu,ru⟩:=v1.get ex
 obtain ⟨w,ew,rw'⟩:=v2.get ey
 have hu:us.toArray[j] = u:=by
  have:us[j]? = some u:=eu
  simp at h1
  rw [List.getElem?_eq_getElem h1] at this
  simpa using Option.some.inj this
 have hw:ws.toArray[j] = w:=by
  have:ws[j]? = some w:=ew
  simp at h2
  rw [List.getElem?_eq_getElem h2] at this
  simpa using Option.some.inj this
 rw [hu,hw]
 have e1:ds.getD j .non = ds[j]:=by simp [List.getD_eq_getElem?_getD,l1]
 have e2:es.getD j .non = es[j]:=by simp [List.getD_eq_getElem?_getD,l2]
 rw [e1,e2]
 exact ih _ _ _ _ _ _ (leans_get ld (List.getElem?_eq_getElem l1)) (leans_get le (List.getElem?_eq_getElem l2)) rx ry ru rw'
set_option maxHeartbeats 0 in
theorem eqAt_D (I:Inv X pins σ H s) {B B':BS}:∀ (n m:Nat) (d e:D) (x y:V) (u w:Value) (A:Around),A.units + n < cLine → lean d n = true → lean e m = true → Rp X.K H B d x → Rp X.K H B' e y → RelV x u → RelV y w → SeqAt.EqAt A s u w (deq d e):=by
 intro n
 induction n with
 | zero =>
  intro m d e x y u w A hu ld le hx hy rx ry
  have hu':A.units < cLine:=by omega
  rcases view I ld hx rx with ⟨rfl,rfl⟩ | ⟨b,rfl,rfl⟩ | ⟨i,t,rfl,rfl⟩ | ⟨z,t,rfl,rfl⟩ | ⟨n',_,_,_,_,hn,_⟩ | ⟨n',_,_,_,_,hn,_⟩ <;> (try (exact absurd hn (by omega))) <;>
  rcases view I le hy ry with ⟨rfl,rfl⟩ | ⟨b',rfl,rfl⟩ | ⟨i',t',rfl,rfl⟩ | ⟨z',t',rfl,rfl⟩ | ⟨m',es,a',ys,its',rfl,le',rfl,rfl,rfl,rr',rv',p'⟩ | ⟨m',es,a',ys,its',rfl,le',rfl,rfl,rfl,rr',rv',p'⟩ <;>
  unfold deq <;>
  first
  | with_reducible exact SeqAt.EqAt.same _ | with_reducible exact SeqAt.EqAt.bool_bool _ _ | with_reducible exact SeqAt.EqAt.int_int _ _ _ _ | with_reducible exact SeqAt.EqAt.str_str _ _ _ _ | with_reducible exact SeqAt.EqAt.bool_int _ _ _ | with_reducible exact SeqAt.EqAt.int_bool _ _ _
  | with_reducible exact SeqAt.EqAt.none_bool _ | with_reducible exact SeqAt.EqAt.none_int _ _ | with_reducible exact SeqAt.EqAt.none_str _ _ | with_reducible exact SeqAt.EqAt.bool_none _ | with_reducible exact SeqAt.EqAt.bool_str _ _ _ | with_reducible exact SeqAt.EqAt.int_none _ _ | with_reducible exact SeqAt.EqAt.int_str _ _ _ _
  | with_reducible exact SeqAt.EqAt.str_none _ _ | with_reducible exact SeqAt.EqAt.str_bool _ _ _ | with_reducible exact SeqAt.EqAt.str_int _ _ _ _
  | with_reducible exact SeqAt.EqAt.none_list p' hu' | with_reducible exact SeqAt.EqAt.bool_list _ p' hu' | with_reducible exact SeqAt.EqAt.int_list _ _ p' hu' | with_reducible exact SeqAt.EqAt.str_list _ _ p' hu'
  | with_reducible exact SeqAt.EqAt.none_tuple p' hu' | with_reducible exact SeqAt.EqAt.bool_tuple _ p' hu' | with_reducible exact SeqAt.EqAt.int_tuple _ _ p' hu' | with_reducible exact SeqAt.EqAt.str_tuple _ _ p' hu'
 | succ n ih =>
  intro m d e x y u w A hu ld le hx hy rx ry
  have hu':A.units < cLine:=by omega
  have hin:A.in1.units + n < cLine:=by rw [in1_units]; omega
  rcases view I ld hx rx with ⟨rfl,rfl⟩ | ⟨b,rfl,rfl⟩ | ⟨i,t,rfl,rfl⟩ | ⟨z,t,rfl,rfl⟩ | ⟨n',ds,a,xs,its,hn,ld',rfl,rfl,rfl,rr,rv,p⟩ | ⟨n',ds,a,xs,its,hn,ld',rfl,rfl,rfl,rr,rv,p⟩ <;>
  rcases view I le hy ry with ⟨rfl,rfl⟩ | ⟨b',rfl,rfl⟩ | ⟨i',t',rfl,rfl⟩ | ⟨z',t',rfl,rfl⟩ | ⟨m',es,a',ys,its',rfl,le',rfl,rfl,rfl,rr',rv',p'⟩ | ⟨m',es,a',ys,its',rfl,le',rfl,rfl,rfl,rr',rv',p'⟩
  case inr.inr.inr.inr.inl.inr.inr.inr.inr.inl =>
   cases hn
   by_cases hab:a = a'
   ·subst hab
    have e:D.tup ds = D.tup es:=Rp.inj I ld le hx hy
    rw [← e,deq_refl _ _ ld]
    exact SeqAt.EqAt.same _
   ·refine SeqAt.EqAt.of_refs hab ?_
    have:=SeqAt.RcAt.tuples (e:=fun j=>deq (ds.getD j .non) (es.getD j .non)) p p' hu' (items_eq ld' le' rr rr' rv rv' fun d e x y u w h1 h2 h3 h4 h5 h6=>ih m' d e x y u w A.in1 hin h1 h2 h3 h4 h5 h6)
    unfold deq
    rw [deqs_range]
    simpa [← rv.length,← rv'.length,rr.length,rr'.length] using this
  case inr.inr.inr.inr.inr.inr.inr.inr.inr.inr =>
   cases hn
   by_cases hab:a = a'
   ·subst hab
    have e:D.lst ds = D.lst es:=Rp.inj I ld le hx hy
    rw [← e,deq_refl _ _ ld]
    exact SeqAt.EqAt.same _
   ·refine SeqAt.EqAt.of_refs hab ?_
    have s1:its.toArray.size = ds.length:=by rw [List.size_toArray,← rv.length,rr.length]
    have s2:its'.toArray.size = es.length:=by rw [List.size_toArray,← rv'.length,rr'.length]
    unfold deq
    rw [deqs_range]
    by_cases hl:ds.length = es.length
    ·have:=SeqAt.RcAt.lists (e:=fun j=>deq (ds.getD j .non) (es.getD j .non)) p p' (by rw [s1,s2,hl]) hu' (items_eq ld' le' rr rr' rv rv' fun d e x y u w h1 h2 h3 h4 h5 h6=>ih m' d e x y u w A.in1 hin h1 h2 h3 h4 h5 h6)
     rw [s1] at this
     rw [hl] at this ⊢
     simpa using this
    ·have:=SeqAt.RcAt.lists_lengths (A:=A) p p' (by rw [s1,s2]; simpa using hl) hu'
     rw [beq_eq_false_iff_ne.mpr hl,Bool.and_false]
     exact this
  all_goals
   unfold deq
   first
   | with_reducible exact SeqAt.EqAt.same _ | with_reducible exact SeqAt.EqAt.bool_bool _ _ | with_reducible exact SeqAt.EqAt.int_int _ _ _ _ | with_reducible exact SeqAt.EqAt.str_str _ _ _ _ | with_reducible exact SeqAt.EqAt.bool_int _ _ _ | with_reducible exact SeqAt.EqAt.int_bool _ _ _
   | with_reducible exact SeqAt.EqAt.none_bool _ | with_reducible exact SeqAt.EqAt.none_int _ _ | with_reducible exact SeqAt.EqAt.none_str _ _ | with_reducible exact SeqAt.EqAt.bool_none _ | with_reducible exact SeqAt.EqAt.bool_str _ _ _ | with_reducible exact SeqAt.EqAt.int_none _ _ | with_reducible exact SeqAt.EqAt.int_str _ _ _ _
   | with_reducible exact SeqAt.EqAt.str_none _ _ | with_reducible exact SeqAt.EqAt.str_bool _ _ _ | with_reducible exact SeqAt.EqAt.str_int _ _ _ _
   | with_reducible exact SeqAt.EqAt.none_list p' hu' | with_reducible exact SeqAt.EqAt.bool_list _ p' hu' | with_reducible exact SeqAt.EqAt.int_list _ _ p' hu' | with_reducible exact SeqAt.EqAt.str_list _ _ p' hu'
   | with_reducible exact SeqAt.EqAt.none_tuple p' hu' | with_reducible exact SeqAt.EqAt.bool_tuple _ p' hu' | with_reducible exact SeqAt.EqAt.int_tuple _ _ p' hu' | with_reducible exact SeqAt.EqAt.str_tuple _ _ p' hu'
   | with_reducible exact SeqAt.EqAt.list_none p hu' | with_reducible exact SeqAt.EqAt.list_bool _ p hu' | with_reducible exact SeqAt.EqAt.list_int _ _ p hu' | with_reducible exact SeqAt.EqAt.list_str _ _ p hu'
   | with_reducible exact SeqAt.EqAt.tuple_none p hu' | with_reducible exact SeqAt.EqAt.tuple_bool _ p hu' | with_reducible exact SeqAt.EqAt.tuple_int _ _ p hu' | with_reducible exact SeqAt.EqAt.tuple_str _ _ p hu'
   | with_reducible exact SeqAt.EqAt.list_tuple p p' hu' | with_reducible exact SeqAt.EqAt.tuple_list p p' hu'
end
end DL
namespace DL
open PySem PySem.Spec PyProof.Rows L2
section
variable {X:Cx} {pins:List (Addr × Obj)} {σ:St} {H:Hp} {s:Shared}
set_option maxHeartbeats 0 in
theorem rcAt_D (I:Inv X pins σ H s) {B B':BS} (n m:Nat) (d e:D) (x y:V) (u w:Value) (A:Around) (hu:A.units + n < cLine) (ld:lean d n = true) (le:lean e m = true) (hx:Rp X.K H B d x) (hy:Rp X.K H B' e y) (rx:RelV x u) (ry:RelV y w) :
  SeqAt.RcAt A s u w (deq d e) ∧ SeqAt.RcNeAt A s u w (!deq d e):=by
 have hu':A.units < cLine:=by omega
 rcases view I ld hx rx with ⟨rfl,rfl⟩ | ⟨b,rfl,rfl⟩ | ⟨i,t,rfl,rfl⟩ | ⟨z,t,rfl,rfl⟩ | ⟨n',ds,a,xs,its,hn,ld',rfl,rfl,rfl,rr,rv,p⟩ | ⟨n',ds,a,xs,its,hn,ld',rfl,rfl,rfl,rr,rv,p⟩ <;>
 rcases view I le hy ry with ⟨rfl,rfl⟩ | ⟨b',rfl,rfl⟩ | ⟨i',t',rfl,rfl⟩ | ⟨z',t',rfl,rfl⟩ | ⟨m',es,a',ys,its',rfl,le',rfl,rfl,rfl,rr',rv',p'⟩ | ⟨m',es,a',ys,its',rfl,le',rfl,rfl,rfl,rr',rv',p'⟩
 case inr.inr.inr.inr.inl.inr.inr.inr.inr.inl =>
  subst hn
  have hin:A.in1.units + n' < cLine:=by rw [in1_units]; omega
  have hit:=items_eq (A:=A.in1) ld' le' rr rr' rv rv' fun d e x y u w h1 h2 h3 h4 h5 h6=>eqAt_D I n' m' d e x y u w A.in1 hin h1 h2 h3 h4 h5 h6
  have q1:=SeqAt.RcAt.tuples (e:=fun j=>deq (ds.getD j .non) (es.getD j .non)) p p' hu' hit
  have q2:=SeqAt.RcNeAt.tuples (e:=fun j=>deq (ds.getD j .non) (es.getD j .non)) p p' hu' hit
  unfold deq
  rw [deqs_range]
  have s1:its.toArray.size = ds.length:=by rw [List.size_toArray,← rv.length,rr.length]
  have s2:its'.toArray.size = es.length:=by rw [List.size_toArray,← rv'.length,rr'.length]
  rw [s1,s2] at q1 q2
  exact ⟨q1,q2⟩
 case inr.inr.inr.inr.inr.inr.inr.inr.inr.inr =>
  subst hn
  have hin:A.in1.units + n' < cLine:=by rw [in1_units]; omega
  have hit:=items_eq (A:=A.in1) ld' le' rr rr' rv rv' fun d e x y u w h1 h2 h3 h4 h5 h6=>eqAt_D I n' m' d e x y u w A.in1 hin h1 h2 h3 h4 h5 h6
  have s1:its.toArray.size = ds.length:=by rw [List.size_toArray,← rv.length,rr.length]
  have s2:its'.toArray.size = es.length:=by rw [List.size_toArray,← rv'.length,rr'.length]
  unfold deq
  rw [deqs_range]
  by_cases hl:ds.length = es.length
  ·have q1:=SeqAt.RcAt.lists (e:=fun j=>deq (ds.getD j .non) (es.getD j .non)) p p' (by rw [s1,s2,hl]) hu' hit
   have q2:=SeqAt.RcNeAt.lists (e:=fun j=>deq (ds.getD j .non) (es.getD j .non)) p p' (by rw [s1,s2,hl]) hu' hit
   rw [s1] at q1 q2
   rw [hl] at q1 q2 ⊢
   simp only [Nat.min_self,beq_self_eq_true,Bool.and_true]
   exact ⟨q1,q2⟩
  ·have q1:=SeqAt.RcAt.lists_lengths (A:=A) p p' (by rw [s1,s2]; simpa using hl) hu'
   have q2:=SeqAt.RcNeAt.lists_lengths (A:=A) p p' (by rw [s1,s2]; simpa using hl) hu'
   rw [beq_eq_false_iff_ne.mpr hl,Bool.and_false]
   exact ⟨q1,q2⟩
 all_goals
  unfold deq
  constructor
  ·first
   | with_reducible exact SeqAt.RcAt.none_none | with_reducible exact SeqAt.RcAt.bool_bool _ _ | with_reducible exact SeqAt.RcAt.int_int _ _ _ _ | with_reducible exact SeqAt.RcAt.str_str _ _ _ _ | with_reducible exact SeqAt.RcAt.bool_int _ _ _ | with_reducible exact SeqAt.RcAt.int_bool _ _ _
   | with_reducible exact SeqAt.RcAt.none_bool _ | with_reducible exact SeqAt.RcAt.none_int _ _ | with_reducible exact SeqAt.RcAt.none_str _ _ | with_reducible exact SeqAt.RcAt.bool_none _ | with_reducible exact SeqAt.RcAt.bool_str _ _ _ | with_reducible exact SeqAt.RcAt.int_none _ _ | with_reducible exact SeqAt.RcAt.int_str _ _ _ _
   | with_reducible exact SeqAt.RcAt.str_none _ _ | with_reducible exact SeqAt.RcAt.str_bool _ _ _ | with_reducible exact SeqAt.RcAt.str_int _ _ _ _
   | with_reducible exact SeqAt.RcAt.none_list p' hu' | with_reducible exact SeqAt.RcAt.bool_list _ p' hu' | with_reducible exact SeqAt.RcAt.int_list _ _ p' hu' | with_reducible exact SeqAt.RcAt.str_list _ _ p' hu'
   | with_reducible exact SeqAt.RcAt.none_tuple p' hu' | with_reducible exact SeqAt.RcAt.bool_tuple _ p' hu' | with_reducible exact SeqAt.RcAt.int_tuple _ _ p' hu' | with_reducible exact SeqAt.RcAt.str_tuple _ _ p' hu'
   | with_reducible exact SeqAt.RcAt.list_none p hu' | with_reducible exact SeqAt.RcAt.list_bool _ p hu' | with_reducible exact SeqAt.RcAt.list_int _ _ p hu' | with_reducible exact SeqAt.RcAt.list_str _ _ p hu'
   | with_reducible exact SeqAt.RcAt.tuple_none p hu' | with_reducible exact SeqAt.RcAt.tuple_bool _ p hu' | with_reducible exact SeqAt.RcAt.tuple_int _ _ p hu' | with_reducible exact SeqAt.RcAt.tuple_str _ _ p hu'
   | with_reducible exact SeqAt.RcAt.list_tuple p p' hu' | with_reducible exact SeqAt.RcAt.tuple_list p p' hu'
  ·try rw [Bool.not_false]
   try rw [Bool.not_true]
   first
   | with_reducible exact SeqAt.RcNeAt.none_none | with_reducible exact SeqAt.RcNeAt.bool_bool _ _ | with_reducible exact SeqAt.RcNeAt.int_int _ _ _ _ | with_reducible exact SeqAt.RcNeAt.str_str _ _ _ _ | with_reducible exact SeqAt.RcNeAt.bool_int _ _ _ | with_reducible exact SeqAt.RcNeAt.int_bool _ _ _
   | with_reducible exact SeqAt.RcNeAt.none_bool _ | with_reducible exact SeqAt.RcNeAt.none_int _ _ | with_reducible exact SeqAt.RcNeAt.none_str _ _ | with_reducible exact SeqAt.RcNeAt.bool_none _ | with_reducible exact SeqAt.RcNeAt.bool_str _ _ _ | with_reducible exact SeqAt.RcNeAt.int_none _ _ | with_reducible exact SeqAt.RcNeAt.int_str _ _ _ _
   | with_reducible exact SeqAt.RcNeAt.str_none _ _ | with_reducible exact SeqAt.RcNeAt.str_bool _ _ _ | with_reducible exact SeqAt.RcNeAt.str_int _ _ _ _
   | with_reducible exact SeqAt.RcNeAt.none_list p' hu' | with_reducible exact SeqAt.RcNeAt.bool_list _ p' hu' | with_reducible exact SeqAt.RcNeAt.int_list _ _ p' hu' | with_reducible exact SeqAt.RcNeAt.str_list _ _ p' hu'
   | with_reducible exact SeqAt.RcNeAt.none_tuple p' hu' | with_reducible exact SeqAt.RcNeAt.bool_tuple _ p' hu' | with_reducible exact SeqAt.RcNeAt.int_tuple _ _ p' hu' | with_reducible exact SeqAt.RcNeAt.str_tuple _ _ p' hu'
   | with_reducible exact SeqAt.RcNeAt.list_none p hu' | with_reducible exact SeqAt.RcNeAt.list_bool _ p hu' | with_reducible exact SeqAt.RcNeAt.list_int _ _ p hu' | with_reducible exact SeqAt.RcNeAt.list_str _ _ p hu'
   | with_reducible exact SeqAt.RcNeAt.tuple_none p hu' | with_reducible exact SeqAt.RcNeAt.tuple_bool _ p hu' | with_reducible exact SeqAt.RcNeAt.tuple_int _ _ p hu' | with_reducible exact SeqAt.RcNeAt.tuple_str _ _ p hu'
   | with_reducible exact SeqAt.RcNeAt.list_tuple p p' hu' | with_reducible exact SeqAt.RcNeAt.tuple_list p p' hu'
end
section
variable {X:Cx} {K:W.Frag} {e a b:Expr} {es:List Expr} {pos p:Pos} {g ga gb:Ds → Option D} {gA:Ds → Option (List D)}
noncomputable def rEqX (K:W.Frag) (neg:Bool):R2:=fun x y H Q=>∃ B B' dx dy,Rp K H B dx x ∧ Rp K H B' dy y ∧ lean dx 50 = true ∧ lean dy 50 = true ∧ Q (.bl (xor neg (deq dx dy))) H
theorem op_eqX (hu:X.A.units + 64 < cLine):OpR X (compareOp .Eq) (rEqX X.K false):=by
 intro pins s σ H x y v u Q I rx ry h
 obtain ⟨B,B',dx,dy,hx,hy,lx,ly,q⟩:=h
 exact (rcAt_D I 50 50 dx dy x y v u X.A (by omega) lx ly hx hy rx ry).1 _ _ _ _ ⟨.bl _,H,I,rfl,by rw [Bool.false_xor] at q; exact q⟩
theorem op_neX (hu:X.A.units + 64 < cLine):OpR X (compareOp .NotEq) (rEqX X.K true):=by
 intro pins s σ H x y v u Q I rx ry h
 obtain ⟨B,B',dx,dy,hx,hy,lx,ly,q⟩:=h
 exact (rcAt_D I 50 50 dx dy x y v u X.A (by omega) lx ly hx hy rx ry).2 _ _ _ _ ⟨.bl _,H,I,rfl,by rw [Bool.true_xor] at q; exact q⟩
theorem op2_eqX:Op2 K (rEqX K false) eqDD:=by
 intro H B x y dx dy d Q hb rx ry h k
 unfold eqDD at h
 split at h
 ·rename_i hl
  cases h
  exact ⟨B,B,dx,dy,rx,ry,hl.1,hl.2,k _ H (Same.refl H) (by rw [rp_bl,Bool.false_xor])⟩
 ·cases h
theorem op2_neX:Op2 K (rEqX K true) neDD:=by
 intro H B x y dx dy d Q hb rx ry h k
 unfold neDD at h
 split at h
 ·rename_i hl
  cases h
  exact ⟨B,B,dx,dy,rx,ry,hl.1,hl.2,k _ H (Same.refl H) (by rw [rp_bl,Bool.true_xor])⟩
 ·cases h
theorem op2_addA:Op2 K (fun x y H Q=>rI0 (fun i j=>.int (i + j)) x y H Q ∨ (∃ i j,x = .str i ∧ y = .str j ∧ i.length + j.length ≤ sizeLine ∧ Q (.str (i ++ j)) H) ∨ rCatL K x y H Q ∨ rCatT K x y H Q ∨ rCatT0 K x y H Q) addA:=by
 intro H B x y dx dy d Q hb rx ry h k
 cases dx <;> cases dy <;> simp only [addA] at h <;> try cases h
 ·rw [rp_int] at rx ry
  subst rx ry
  exact .inl ⟨_,_,rfl,rfl,k _ H (Same.refl H) (by rw [rp_int])⟩
 ·split at h
  ·cases h
   rw [rp_str] at rx ry
   subst rx ry
   exact .inr (.inl ⟨_,_,rfl,rfl,by assumption,k _ H (Same.refl H) (by rw [rp_str])⟩)
  ·cases h
 ·split at h
  ·rename_i hz
   cases h
   have ry0:=ry
   have rx0:=rx
   rw [rp_tup] at rx ry
   obtain ⟨a,xs,rfl,q1,r1⟩:=rx
   obtain ⟨b,ys,rfl,q2,r2⟩:=ry
   by_cases he:xs = []
   ·subst he
    have e:‹List D› = ‹List D›:=rfl
    have hn:=r1.length
    simp at hn
    have hn':=List.length_eq_zero_iff.mp hn.symm
    subst hn'
    exact .inr (.inr (.inr (.inr ⟨a,b,ys,rfl,rfl,q1.to,q2.to,k _ H (Same.refl H) (by rw [List.nil_append]; exact ry0)⟩)))
   ·refine .inr (.inr (.inr (.inl ⟨a,b,xs,ys,rfl,rfl,q1.to,q2.to,he,by rw [r1.length,r2.length]; exact hz,fun z=>?_,fun z p hp=>k _ _ (same_upd hp) (rp_newT hb hp (r1.append r2))⟩)))
    subst z
    have hn:=r2.length
    simp at hn
    have hn':=List.length_eq_zero_iff.mp hn.symm
    subst hn'
    exact k _ H (Same.refl H) (by rw [List.append_nil]; exact rx0)
  ·cases h
 ·split at h
  ·rename_i hz
   cases h
   rw [rp_lst] at rx ry
   obtain ⟨a,xs,rfl,q1,r1⟩:=rx
   obtain ⟨b,ys,rfl,q2,r2⟩:=ry
   exact .inr (.inr (.inl ⟨a,b,xs,ys,rfl,rfl,q1.to,q2.to,by rw [r1.length,r2.length]; exact hz,fun p hp=>k _ _ (same_upd hp) (rp_newL hb hp (r1.append r2))⟩))
  ·cases h
theorem pd_addA (ha:PD X a ga) (hb:PD X b gb):PD X (.BinOp a .Add b pos) (o2 ga gb addA):=pd_op (op_add.or (op_add_str.or (op_catL.or (op_catT.or op_catT0)))) op2_addA ha hb
theorem rps_rep {H:Hp} {B:BS} {ds:List D} {xs:List V} (h:Rps K H B ds xs):∀ k:Nat,Rps K H B (List.replicate k ds).flatten (List.replicate k xs).flatten
 | 0=>by simp [rps_nil]
 | k + 1=>by
  rw [List.replicate_succ,List.replicate_succ,List.flatten_cons,List.flatten_cons]
  exact h.append (rps_rep h k)
theorem op2_mulA:Op2 K (fun x y H Q=>rI CMul (fun i j=>.int (i * j)) x y H Q ∨ rMulS x y H Q ∨ rMulT K x y H Q) mulA:=by
 intro H B x y dx dy d Q hb rx ry h k
 cases dx <;> cases dy <;> simp only [mulA] at h <;> try cases h
 ·split at h
  ·cases h
   rw [rp_int] at rx ry
   subst rx ry
   exact .inl ⟨_,_,rfl,rfl,by assumption,k _ H (Same.refl H) (by rw [rp_int])⟩
  ·cases h
 ·split at h
  ·rename_i hz
   cases h
   rw [rp_str] at rx
   rw [rp_int] at ry
   subst rx ry
   exact .inr (.inl ⟨_,_,rfl,rfl,hz.1,hz.2.1,hz.2.2,k _ H (Same.refl H) (by rw [rp_str]; rfl)⟩)
  ·cases h
 ·split at h
  ·rename_i hz
   cases h
   rw [rp_tup] at rx
   rw [rp_int] at ry
   subst ry
   obtain ⟨a,xs,rfl,q1,r1⟩:=rx
   refine .inr (.inr ⟨a,xs,_,rfl,rfl,q1.to,fun z=>hz.1 ?_,hz.2.1,hz.2.2.1,by rw [r1.length]; exact hz.2.2.2,fun p hp=>k _ _ (same_upd hp) (rp_newT hb hp (rps_rep r1 _))⟩)
   subst z
   have hn:=r1.length
   simp at hn
   exact List.length_eq_zero_iff.mp hn.symm
  ·cases h
theorem pd_mulA (ha:PD X a ga) (hb:PD X b gb):PD X (.BinOp a .Mult b pos) (o2 ga gb mulA):=pd_op (op_mul.or (op_mulS.or op_mulT)) op2_mulA ha hb
theorem cut_whole {xs:List D} {lo hi:Option Int} (h:sIx xs.length 0 lo = 0 ∧ sIx xs.length xs.length hi = xs.length):cutD xs lo hi = xs:=by
 unfold cutD
 rw [h.1,h.2]
 simp
theorem pd_sliceA {lo hi:Option Expr} {gl gh:Ds → Option (Option Int)} {p2:Pos} (he:PD X e g) (hl:PDO X lo gl) (hh:PDO X hi gh) :
  PD X (.Subscript e (.Slice lo hi none p2) pos) (slAG g gl gh):=.mk fun B δ =>
 (pe_slice (sl_str.or (sl_list.or (sl_tup.or sl_tupW))) (he B δ) (hl B δ) (hh B δ)).imp fun σ H Q ⟨d,en,h,k⟩=>by
  unfold slAG at h
  cases e1:g δ with
  | none=>rw [e1] at h; cases h
  | some x =>
   cases e2:gl δ with
   | none=>rw [e1,e2] at h; cases h
   | some l =>
    cases e3:gh δ with
    | none=>rw [e1,e2,e3] at h; cases h
    | some u =>
     rw [e1,e2,e3] at h
     simp only [Option.bind_some] at h
     refine ⟨x,en,e1,fun v H1 s1 r1=>⟨l,en.same s1,(by first | exact e2 | rfl),fun H2 s2=>⟨u,(en.same s1).same s2,(by first | exact e3 | rfl),fun H3 s3=>?_⟩⟩⟩
     have S:=(s1.trans s2).trans s3
     have r3:=(r1.same s2).same s3
     have hb:=(((en.same s1).same s2).same s3).bad
     cases x <;> simp only [slA] at h <;> try cases h
     ·split at h
      ·cases h
       rw [rp_str] at r3
       exact .inl ⟨_,r3,by assumption,k _ H3 S (by rw [rp_str])⟩
      ·cases h
     ·have r4:=r3
      rw [rp_tup] at r3
      obtain ⟨a,xs,rfl,q,r⟩:=r3
      rename_i dxs
      by_cases hw:sIx dxs.length 0 l = 0 ∧ sIx dxs.length dxs.length u = dxs.length
      ·refine .inr (.inr (.inr ⟨a,xs,rfl,q.to,by rw [r.length,sIx_eq,sIx_eq]; exact hw,k _ _ S ?_⟩))
       rw [cut_whole hw]
       exact r4
      ·exact .inr (.inr (.inl ⟨a,xs,rfl,q.to,by rw [r.length,sIx_eq,sIx_eq]; exact hw,fun p hp=>k _ _ (S.trans (same_upd hp)) (rp_newT hb hp (cut_rel r l u))⟩))
     ·rw [rp_lst] at r3
      obtain ⟨a,xs,rfl,q,r⟩:=r3
      exact .inr (.inl ⟨a,xs,rfl,q.to,fun p hp=>k _ _ (S.trans (same_upd hp)) (rp_newL hb hp (cut_rel r l u))⟩)
theorem fn_int:FnR K (fun xs H Q=>(∃ i,xs = [.int i] ∧ Q (.int i) H) ∨ ∃ k,xs = [.bl k] ∧ Q (.int (if k then 1 else 0)) H) intOfD:=by
 intro H B xs ds d Q hb r h k
 unfold intOfD at h
 split at h
 ·cases h
  obtain ⟨v,rfl,r1⟩:=rps_one r
  rw [rp_int] at r1
  subst r1
  exact .inl ⟨_,rfl,k _ H (Same.refl H) (by rw [rp_int])⟩
 ·cases h
  obtain ⟨v,rfl,r1⟩:=rps_one r
  rw [rp_bl] at r1
  subst r1
  exact .inr ⟨_,rfl,k _ H (Same.refl H) (by rw [rp_int])⟩
 ·cases h
theorem fn_list:FnR K (fun xs H Q=>∃ p ys,xs = [.ref p] ∧ (SqL K H p ys ∨ SqT K H p ys) ∧ ∀ l,H l = none → Q (.ref l) (upd H l (.lst ys))) lstOfD:=by
 intro H B xs ds d Q hb r h k
 unfold lstOfD at h
 split at h
 ·cases h
  obtain ⟨v,rfl,r1⟩:=rps_one r
  rw [rp_lst] at r1
  obtain ⟨a,ys,rfl,q,rr⟩:=r1
  exact ⟨a,ys,rfl,.inl q.to,fun l hl=>k _ _ (same_upd hl) (rp_newL hb hl rr)⟩
 ·cases h
  obtain ⟨v,rfl,r1⟩:=rps_one r
  rw [rp_tup] at r1
  obtain ⟨a,ys,rfl,q,rr⟩:=r1
  exact ⟨a,ys,rfl,.inr q.to,fun l hl=>k _ _ (same_upd hl) (rp_newL hb hl rr)⟩
 ·cases h
end
end DL
namespace SetS
open PySem PySem.Spec PyProof.Rows DL
section
variable {prog:Program} {w:World} {A:Around} {R:Result → Shared → Prop} {I:Addr} {fp wr:List Addr} {G:Array GenState → Array GenState → Prop} {P:Nat → Value → Prop} {St:Nat → Shared → Prop}
end
section
variable {prog:Program} {w:World} {A:Around} {E:Value → Shared → Prop} {s:Shared}
end
end SetS
namespace DL
open PySem PySem.Spec PyProof.Rows L2
section
variable {X:Cx} {K:W.Frag} {e a b:Expr} {es:List Expr} {pos p pos2 p2:Pos} {g ga gb:Ds → Option D} {gA:Ds → Option (List D)}
theorem b_set:bootBuiltins "set" = some (.type "set"):=by decide +kernel
end
end DL
namespace DL
open PySem PySem.Spec PyProof.Rows
theorem tup_of {gA:GA} {δ:Ds} {ds:List D} (h:gA δ = some ds) (hl:ds.length ≤ sizeLine):tupG gA δ = some (.tup ds):=by
 unfold tupG
 rw [h,Option.bind_some,if_pos hl]
theorem lst_of {gA:GA} {δ:Ds} {ds:List D} (h:gA δ = some ds) (hl:ds.length ≤ sizeLine):lstG gA δ = some (.lst ds):=by
 unfold lstG
 rw [h,Option.bind_some,if_pos hl]
theorem rng_mem {n:Int} {d:D} (h:d ∈ rngD 0 n):∃ k:Nat,(k:Int) < n ∧ d = .int (k:Int):=by
 obtain ⟨k,hk,rfl⟩:=List.mem_map.mp h
 have:=List.mem_range.mp hk
 exact ⟨k,by omega,by rw [Int.zero_add]⟩
theorem rng_map {α:Type} (f:D → α) (n:Int):(rngD 0 n).map f = (List.range n.toNat).map fun (k:Nat)=>f (.int (k:Int)):=by
 unfold rngD
 rw [List.map_map]
 have:n - 0 = n:=by omega
 rw [this]
 refine List.map_congr_left fun k _=>?_
 show f (.int (0 + (k:Int))) = _
 rw [Int.zero_add]
theorem rng_len (n:Int):(rngD 0 n).length = n.toNat:=by unfold rngD; simp
theorem rng_get {n:Int} {j:Nat} {d:D} (h:(rngD 0 n)[j]? = some d):j < n.toNat ∧ d = .int (j:Int):=by
 have hj:j < n.toNat:=by
  have:=(List.getElem?_eq_some_iff.mp h).1
  rwa [rng_len] at this
 refine ⟨hj,?_⟩
 unfold rngD at h
 rw [List.getElem?_map,List.getElem?_range (by simpa using hj)] at h
 have:=Option.some.inj h
 rw [← this]
 show D.int (0 + (j:Int)) = _
 rw [Int.zero_add]
theorem comp_rng {gt:GB} {ge:GE} {δ:Ds} {n:Int} (h:Nat → D) (H:∀ k:Nat,(k:Int) < n → ∃ δ',gN 0 (.int (k:Int)) δ = some δ' ∧ gt δ' = some true ∧ ge δ' = some (h k)) :
  compD (gN 0) gt ge δ (rngD 0 n) = some ((List.range n.toNat).map h):=by
 rw [compD_map (fun d=>match d with | .int j=>h j.toNat | _=>.non) (fun d hd=>by
  obtain ⟨k,hk,rfl⟩:=rng_mem hd
  exact H k hk),rng_map]
 rfl
end DL
namespace DL
open PySem PySem.Spec PyProof.Rows L2
section
variable {X:Cx} {K:W.Frag} {e a b:Expr} {es:List Expr} {pos p pos2 p2:Pos} {g ga gb:Ds → Option D} {gA:Ds → Option (List D)}
theorem pdf_list {x:Str} (hm:X.mg x = none) (hv:bootBuiltins x = some (.type "list")) (ha:PD X e g) (hg:Gl X x:=by rfl)
  (hn:x ≠ "__name__" := by decide) (hdb:(x == ("__debug__" : Str)) = false:=by decide) (he:starEach [e] X.env = (false,eval e X.env) :: starEach [] X.env:=by rfl) (hpl:(backTo pos (starEach [] X.env)).any (·.1) = false:=by rfl) :
  PDF X (.Call (.Name x p) [e] [] pos) (oA (consA g nilA) lstOfD):=.mk fun B δ=>(pe_callTy call_list_of hg hm hv (pa_cons (ha B δ) pa_nil he) hn hdb he hpl).imp fun σ H Q ⟨d,en,h,k⟩=>by
 unfold oA consA nilA at h
 cases e1:g δ with
 | none=>rw [e1] at h; cases h
 | some x =>
  rw [e1] at h
  simp only [Option.bind_some,Option.map_some] at h
  refine ⟨x,en,e1,fun v H1 s1 r1=>?_⟩
  cases x <;> simp only [lstOfD] at h <;> try cases h
  ·rw [rp_tup] at r1
   obtain ⟨q,xs,rfl,hq,rr⟩:=r1
   exact ⟨q,xs,rfl,.inr hq.to,fun l hl=>k l _ (s1.free hl) (s1.trans (same_upd hl)) ⟨_,upd_same,rr.mono (Gr.fresh hl)⟩⟩
  ·rw [rp_lst] at r1
   obtain ⟨q,xs,rfl,hq,rr⟩:=r1
   exact ⟨q,xs,rfl,.inl hq.to,fun l hl=>k l _ (s1.free hl) (s1.trans (same_upd hl)) ⟨_,upd_same,rr.mono (Gr.fresh hl)⟩⟩
end
section
variable {X:Cx} {e:Expr} {es:List Expr} {pos p:Pos} {g:Ds → Option D} {gA:Ds → Option (List D)}
noncomputable def FnN (P:Program) (w:World) (K:W.Frag) (mg:Str → Option Value) (base:Heap) (x:Str) (k:Nat) (ps:List Str) (f:List D → Option D):Prop :=
 ∃ (fa:Addr) (fd:FuncData),FnOk P w K mg base CX0 k fa fd ps (spN K f) ∧ mg x = some (.ref fa) ∧ W.keepIn K (.ref fa) = true ∧ Binds K fd ps []
theorem pdf_fn {k m:Nat} {ps:List Str} {x:Str} {f:List D → Option D} (C:FnN X.prog X.w X.K X.mg X.base x k ps f) (hr:Room m X.A) (hk:k ≤ m) (ha:PDA X (e :: es) gA) (hg:Gl X x:=by rfl) (hdb:(x == ("__debug__" : Str)) = false:=by decide)
  (he:starEach (e :: es) X.env = (false,eval e X.env) :: starEach es X.env:=by rfl) (hpl:(backTo pos (starEach es X.env)).any (·.1) = false:=by rfl):PDF X (.Call (.Name x p) (e :: es) [] pos) (oA gA f):=by
 obtain ⟨fa,fd,F,hm,kp,hb⟩:=C
 exact .mk fun B δ=>(pe_call (E:=E0) F (hr.mono hk) hg hm kp hb .nil pass0 (ha B δ) hdb he hpl).imp fun σ H Q h=>by
  obtain ⟨d,en,h,k⟩:=h
  unfold oA at h
  cases e1:gA δ with
  | none=>rw [e1] at h; cases h
  | some ds =>
   rw [e1] at h
   refine ⟨ds,en,e1,fun vs H1 s1 r1=>?_⟩
   show spN X.K f (vs ++ []) H1 Q E0
   rw [List.append_nil]
   exact ⟨B,ds,d,(en.same s1).bad,r1,h,fun p H' hp s r=>k p H' (s1.free hp) (s1.trans s) r⟩
theorem pd_fnN {k m:Nat} {ps:List Str} {x:Str} {f:List D → Option D} (C:FnN X.prog X.w X.K X.mg X.base x k ps f) (hr:Room m X.A) (hk:k ≤ m) (ha:PDA X (e :: es) gA) (hg:Gl X x:=by rfl) (hdb:(x == ("__debug__" : Str)) = false:=by decide)
  (he:starEach (e :: es) X.env = (false,eval e X.env) :: starEach es X.env:=by rfl) (hpl:(backTo pos (starEach es X.env)).any (·.1) = false:=by rfl):PD X (.Call (.Name x p) (e :: es) [] pos) (oA gA f):=(pdf_fn C hr hk ha hg hdb he hpl).pd
theorem psd_retF (h:PDF X e g):PSD X (.Return (some e) pos) (retF g):=.mk fun H₀ B₀ δ pins s σ H D I ⟨r,en,e1,k⟩=>by
 unfold retF at e1
 obtain ⟨B,b1,b2,env⟩:=en.ex
 cases e2:g δ with
 | none=>rw [e2] at e1; cases e1
 | some d =>
  rw [e2] at e1
  cases e1
  exact ps_ret (h B δ) pins s σ H D I ⟨d,env,e2,fun p H' hp s' r=>k p H' (en.same.free hp) (en.same.trans s') (r.mono (fun o h=>h) (Gr.less fun a z=>z.imp (b1 a) id)).toL⟩
theorem psd_retO (i:Nat) {x:Str} {px:Pos} (hN:X.N[i]? = some x:=by rfl) (hv:Vis X.env.scope x:=by first | exact Or.inl rfl | exact Or.inr (Or.inl rfl) | exact Or.inr (Or.inr rfl)) (hd:(x == ("__debug__" : Str)) = false:=by decide) (hcd:(x == ("__classdict__" : Str)) = false:=by decide) :
  PSD X (.Return (some (.Name x px)) pos) (retO i):=.mk fun H₀ B₀ δ pins s σ H D I ⟨r,en,e1,k⟩=>by
 unfold retO at e1
 obtain ⟨B,b1,b2,env⟩:=en.ex
 split at e1
 ·rename_i d hi
  obtain ⟨a,hs,hb,ro⟩:=env.at hi
  cases e1
  exact ps_ret (pe_var (i:=i) hN hv hd hcd) pins s σ H D I ⟨_,hs,k a H (en.fr i d a hi hs) en.same (ro.mono (fun o h=>h) (Gr.less fun b z=>z.elim (b1 b) fun q=>by rw [q]; exact hb))⟩
 ·cases e1
end
end DL
namespace DL
open PySem
noncomputable def zipLD:List D → Option (List D)
 | [.lst ds,.lst es]=>some ((ds.zip es).map fun p=>.tup [p.1,p.2])
 | _=>none
noncomputable def zipI (gA:GA):GA:=fun δ=>(gA δ).bind zipLD
noncomputable def lrngD:List D → Option D
 | [.int j]=>if -(2 ^ 62) ≤ j ∧ j ≤ 1000000 then some (.lst ((List.range j.toNat).map fun (k:Nat)=>.int (k:Int))) else none
 | _=>none
theorem rng1_of {gA:GA} {δ:Ds} {n:Int} (h:gA δ = some [.int n]) (h1:-(2 ^ 62) ≤ n) (h2:n < 2 ^ 62):rng1I gA δ = some (rngD 0 n):=by
 unfold rng1I
 rw [h,Option.bind_some]
 simp only [rng1D]
 rw [if_pos ⟨h1,h2⟩]
theorem len_of {g:GE} {δ:Ds} {ds:List D} (h:g δ = some (.lst ds)):oA (consA g nilA) lenD δ = some (.int (ds.length:Int)):=by
 rw [oA_of (cons_of h rfl)]
 rfl
end DL
namespace RevL
open PySem PySem.Spec PyProof.Rows
section
variable {prog:Program} {w:World} {A:Around} {s:Shared} {R:Result → Shared → Prop}
variable {I:Addr} {fp wr:List Addr} {G:Array GenState → Array GenState → Prop} {n:Nat} {P:Nat → Value → Prop} {St:Nat → Shared → Prop}
end
section
variable {prog:Program} {w:World} {A:Around} {E:Value → Shared → Prop} {s:Shared}
variable {I:Addr} {fp wr:List Addr} {G:Array GenState → Array GenState → Prop} {n:Nat} {P:Nat → Value → Prop} {St:Nat → Shared → Prop}
end
end RevL
namespace DL
open PySem PySem.Spec PyProof.Rows L2
section
variable {X:Cx} {e:Expr} {pos p pos2 p2:Pos} {g:Ds → Option D}
theorem b_list0:bootBuiltins "list" = some (.type "list"):=by decide +kernel
end
section
variable {K:W.Frag} {H:Hp} {B:BS}
theorem val_rel {κ:Type} [DecidableEq κ]:∀ {ks:List κ} {ds:List D} {xs:List V} {q:κ},Rps K H B ds xs → (∀ d,getK ks ds q = some d → ∃ x,valV (ks.zip xs) q = some x ∧ Rp K H B d x) ∧ (ks.length = xs.length → (valV (ks.zip xs) q).isSome = hasK ks q)
 | [],ds,xs,q,h=>by
  refine ⟨fun d e=>?_,fun _=>?_⟩
  ·unfold getK at e; cases e
  ·rfl
 | k :: ks,[],xs,q,h=>by
  rw [rps_nil] at h; subst h
  refine ⟨fun d e=>?_,fun z=>?_⟩
  ·unfold getK at e; cases e
  ·simp at z
 | k :: ks,d :: ds,xs,q,h=>by
  rw [rps_cons] at h
  obtain ⟨x,r,rfl,h1,h2⟩:=h
  obtain ⟨i1,i2⟩:=val_rel (ks:=ks) (q:=q) h2
  by_cases e:k = q
  ·subst e
   refine ⟨fun d' e'=>?_,fun _=>?_⟩
   ·unfold getK at e'
    rw [if_pos rfl] at e'
    cases e'
    exact ⟨x,valV_pos rfl,h1⟩
   ·rw [List.zip_cons_cons,valV_pos rfl]
    unfold hasK
    simp
  ·refine ⟨fun d' e'=>?_,fun z=>?_⟩
   ·unfold getK at e'
    rw [if_neg e] at e'
    rw [List.zip_cons_cons,valV_neg e]
    exact i1 d' e'
   ·rw [List.zip_cons_cons,valV_neg e,i2 (by simpa using z)]
    unfold hasK
    simp [e]
theorem any_zip {κ:Type} [DecidableEq κ]:∀ {ks:List κ} {xs:List V} {q:κ},ks.length = xs.length → ((ks.zip xs).any fun kv=>decide (kv.1 = q)) = hasK ks q
 | [],_,_,_=>rfl
 | k :: ks,[],_,h=>by simp at h
 | k :: ks,x :: xs,q,h=>by
  rw [List.zip_cons_cons,List.any_cons,any_zip (by simpa using h)]
  rfl
theorem put_zip {κ:Type} [DecidableEq κ] {ks:List κ} {xs:List V} {q:κ} {v:V} (h:ks.length = xs.length):∃ ys,putK (ks.zip xs) q v = (putKs ks q).zip ys ∧ (putKs ks q).length = ys.length ∧ (hasK ks q = true → ys = (ks.zip xs).map fun p=>if p.1 = q then v else p.2) ∧ (hasK ks q = false → ys = xs ++ [v]):=by
 unfold putK putKs
 rw [any_zip h]
 cases hk:hasK ks q with
 | true =>
  rw [if_pos rfl,if_pos rfl]
  refine ⟨(ks.zip xs).map fun p=>if p.1 = q then v else p.2,?_,by simp [h],fun _=>rfl,fun z=>by cases z⟩
  clear hk
  induction ks generalizing xs with
  | nil=>rfl
  | cons k ks ih =>
   cases xs with
   | nil=>simp at h
   | cons x xs =>
    rw [List.zip_cons_cons,List.map_cons,List.map_cons,List.zip_cons_cons,ih (by simpa using h)]
    by_cases e:k = q <;> simp [e]
 | false =>
  rw [if_neg (by simp),if_neg (by simp)]
  refine ⟨xs ++ [v],?_,by simp [h],fun z=>(by cases z),fun _=>rfl⟩
  rw [List.zip_append h]
  rfl
theorem rps_putMap {κ:Type} [DecidableEq κ] {q:κ} {d:D} {v:V} (hv:Rp K H B d v):∀ {ks:List κ} {ds:List D} {xs:List V},Rps K H B ds xs → Rps K H B ((ks.zip ds).map fun p=>if p.1 = q then d else p.2) ((ks.zip xs).map fun p=>if p.1 = q then v else p.2)
 | [],_,_,_=>by simp [rps_nil]
 | k :: ks,[],xs,h=>by rw [rps_nil] at h; subst h; simp [rps_nil]
 | k :: ks,d' :: ds,xs,h=>by
  rw [rps_cons] at h
  obtain ⟨x,r,rfl,h1,h2⟩:=h
  rw [List.zip_cons_cons,List.zip_cons_cons,List.map_cons,List.map_cons,rps_cons]
  refine ⟨_,_,rfl,?_,rps_putMap hv h2⟩
  by_cases e:k = q
  ·simp only [e,if_true]; exact hv
  ·simp only [e,if_false]; exact h1
end
section
variable {X:Cx} {e a b o:Expr} {es:List Expr} {pos p px:Pos} {g ga gb:Ds → Option D} {x:Str}
theorem key_v {K:W.Frag} {H:Hp} {B:BS} {d:D} {k:KeyD} {v:V} (h:asKey d = some k) (r:Rp K H B d v):v = kV k:=by
 cases d <;> simp [asKey] at h
 ·subst h; rw [rp_int] at r; subst r; rfl
 ·subst h; rw [rp_str] at r; subst r; rfl
theorem keys_v {K:W.Frag} {H:Hp} {B:BS}:∀ {ds:List D} {ks:List KeyD} {xs:List V},asKeys ds = some ks → Rps K H B ds xs → xs = ks.map kV
 | [],ks,xs,h,r=>by cases h; rw [rps_nil] at r; exact r
 | d :: ds,ks,xs,h,r=>by
  unfold asKeys at h
  rw [rps_cons] at r
  obtain ⟨x,r',rfl,h1,h2⟩:=r
  cases e1:asKey d with
  | none=>rw [e1] at h; cases h
  | some k =>
   cases e2:asKeys ds with
   | none=>rw [e1,e2] at h; cases h
   | some l =>
    rw [e1,e2] at h
    cases h
    rw [key_v e1 h1,keys_v e2 h2]
    rfl
theorem keyT_v {K:W.Frag} {H:Hp} {B:BS} {d:D} {k:List KeyD} {v:V} (h:asKeyT d = some k) (r:Rp K H B d v):∃ b,v = .ref b ∧ H b = some (.tup (k.map kV)):=by
 cases d <;> simp only [asKeyT] at h <;> try cases h
 rw [rp_tup] at r
 obtain ⟨a,xs,rfl,q,rr⟩:=r
 exact ⟨a,rfl,by rw [← keys_v h rr]; exact q.2⟩
theorem ptd_din (hu:X.A.units + 1 < cLine) (ha:PD X a ga) (hb:PD X b gb) (hm:behindInMarks .In b = false:=by first | rfl | with_unfolding_all rfl):PTD X (.Compare a [.In] [b] pos) (ob (o2 ga gb (inDctD false))):=.mk fun B δ=>(pt_cmp (pc_din hu (ha B δ) (hb B δ)) hm).imp fun σ H Q ⟨t,en,h,k⟩=>by
 unfold ob o2 at h
 cases e1:ga δ with
 | none=>rw [e1] at h; cases h
 | some x =>
  cases e2:gb δ with
  | none=>rw [e1,e2] at h; cases h
  | some y =>
   rw [e1,e2] at h
   simp only [Option.bind_some] at h
   refine ⟨x,en,e1,fun v1 H1 s1 r1=>⟨y,en.same s1,e2,fun v2 H2 s2 r2=>?_⟩⟩
   cases y <;> simp only [inDctD] at h <;> try cases h
   rename_i ks ds
   cases ks with
   | inl ks =>
    simp only at h
    cases e3:asKey x with
    | none=>rw [e3] at h; cases h
    | some q =>
     rw [e3] at h
     simp only [Option.map_some,Option.bind_some,asB,Bool.false_xor] at h
     cases h
     rw [rp_dct] at r2
     obtain ⟨p,xs,rfl,_,hp,hl,rr⟩:=r2
     have:=key_v e3 r1
     subst this
     refine ⟨p,_,rfl,DGet.k hp,_,rfl,?_⟩
     rw [(val_rel rr).2 hl]
     exact k H2 (s1.trans s2)
   | inr ks =>
    simp only at h
    cases e3:asKeyT x with
    | none=>rw [e3] at h; cases h
    | some q =>
     rw [e3] at h
     simp only [Option.map_some,Option.bind_some,asB,Bool.false_xor] at h
     cases h
     rw [rp_dctT] at r2
     obtain ⟨p,xs,rfl,_,hp,hl,rr⟩:=r2
     obtain ⟨b,rfl,hb⟩:=keyT_v e3 (r1.same s2)
     refine ⟨p,_,rfl,DGet.t hp hb,_,rfl,?_⟩
     rw [(val_rel rr).2 hl]
     exact k H2 (s1.trans s2)
theorem ptd_dnin (hu:X.A.units + 1 < cLine) (ha:PD X a ga) (hb:PD X b gb) (hm:behindInMarks .NotIn b = false:=by first | rfl | with_unfolding_all rfl):PTD X (.Compare a [.NotIn] [b] pos) (ob (o2 ga gb (inDctD true))):=.mk fun B δ=>(pt_cmp (pc_dnotin hu (ha B δ) (hb B δ)) hm).imp fun σ H Q ⟨t,en,h,k⟩=>by
 unfold ob o2 at h
 cases e1:ga δ with
 | none=>rw [e1] at h; cases h
 | some x =>
  cases e2:gb δ with
  | none=>rw [e1,e2] at h; cases h
  | some y =>
   rw [e1,e2] at h
   simp only [Option.bind_some] at h
   refine ⟨x,en,e1,fun v1 H1 s1 r1=>⟨y,en.same s1,e2,fun v2 H2 s2 r2=>?_⟩⟩
   cases y <;> simp only [inDctD] at h <;> try cases h
   rename_i ks ds
   cases ks with
   | inl ks =>
    simp only at h
    cases e3:asKey x with
    | none=>rw [e3] at h; cases h
    | some q =>
     rw [e3] at h
     simp only [Option.map_some,Option.bind_some,asB,Bool.true_xor] at h
     cases h
     rw [rp_dct] at r2
     obtain ⟨p,xs,rfl,_,hp,hl,rr⟩:=r2
     have:=key_v e3 r1
     subst this
     refine ⟨p,_,rfl,DGet.k hp,_,rfl,?_⟩
     rw [(val_rel rr).2 hl]
     exact k H2 (s1.trans s2)
   | inr ks =>
    simp only at h
    cases e3:asKeyT x with
    | none=>rw [e3] at h; cases h
    | some q =>
     rw [e3] at h
     simp only [Option.map_some,Option.bind_some,asB,Bool.true_xor] at h
     cases h
     rw [rp_dctT] at r2
     obtain ⟨p,xs,rfl,_,hp,hl,rr⟩:=r2
     obtain ⟨b,rfl,hb⟩:=keyT_v e3 (r1.same s2)
     refine ⟨p,_,rfl,DGet.t hp hb,_,rfl,?_⟩
     rw [(val_rel rr).2 hl]
     exact k H2 (s1.trans s2)
theorem ptg_put (i:Nat) (hu:X.A.units + 1 < cLine) (h:PD X e g) (hN:X.N[i]? = some x:=by rfl) (hv:Vis X.env.scope x:=by first | exact Or.inl rfl | exact Or.inr (Or.inl rfl) | exact Or.inr (Or.inr rfl)) (hd:(x == ("__debug__" : Str)) = false:=by decide) (hcd:(x == ("__classdict__" : Str)) = false:=by decide)
  (ha:∀ v,assign (.Subscript (.Name x px) e pos) X.env v = (do
   let ov ← holding [v] (eval (.Name x px) X.env)
   let iv ← holding [v,ov] (eval e X.env)
   standAt pos
   holding [v,ov,iv] (setItem ov iv v)
   release [v,ov,iv] []):=by intro _; rfl):PTG X (.Subscript (.Name x px) e pos) (putAt i g):=.mk fun H₀ B₀ d δ pins s σ H v u Q I r ⟨δ',en,e1,k⟩=>by
 unfold putAt at e1
 obtain ⟨B,b1,b2,env,rv⟩:=en.ex
 cases e2:owDc i δ with
 | none=>rw [e2] at e1; cases e1
 | some pr =>
  cases e3:g δ with
  | none=>rw [e2,e3] at e1; cases e1
  | some dk =>
   rw [e2,e3] at e1
   simp only [Option.bind_some] at e1
   cases e4:asKey dk with
   | none=>rw [e4] at e1; cases e1
   | some q =>
    rw [e4] at e1
    simp only [Option.bind_some] at e1
    split at e1
    ·rename_i hz
     cases e1
     have hi:=owDc_eq e2
     obtain ⟨a,hs',hb,xs,hx,hl,rx⟩:=env.at hi
     have hl:pr.1.length = xs.length:=hl
     refine pg_sub (pe_var (i:=i) hN hv hd hcd) (h B δ) (set_dict hu) ha pins s σ H v u Q I r ⟨_,hs',_,env,e3,fun iv H1 s1 r1=>?_⟩
     have:=key_v e4 r1
     subst this
     obtain ⟨ys,hy,hyl,hy1,hy2⟩:=put_zip (q:=q) (v:=v) hl
     refine ⟨a,_,rfl,DPut.k (s1 _ _ hx) (by rw [List.length_zip,← hl,Nat.min_self]; exact hz),?_⟩
     have rr:Rps X.K H1 B (putDs pr.1 pr.2 q d) ys:=by
      unfold putDs
      cases hk:hasK pr.1 q with
      | true=>rw [if_pos rfl,hy1 hk]; exact rps_putMap (rv.same s1) (rx.same s1)
      | false=>rw [if_neg (by simp),hy2 hk]; exact Rps.snoc (rx.same s1) (rv.same s1)
     rw [hy]
     have env2:Env X.K (upd H1 a (.dK ((putKs pr.1 q).zip ys))) B σ (δ.set i (.ow (.dct (.inl (putKs pr.1 q)) (putDs pr.1 pr.2 q d)))):=(env.same s1).mut hi hs' ⟨ys,upd_same,hyl,rr.mono (Gr.own hb)⟩
     exact k _ _ (en.s.mut s1 b1 b2 hi hs' env2)
    ·cases e1
theorem owDt_eq {i:Nat} {δ:Ds} {r:List (List KeyD) × List D} (h:owDt i δ = some r):δ[i]? = some (.ow (.dct (.inr r.1) r.2)):=by
 unfold owDt at h
 split at h
 ·cases h; assumption
 ·cases h
theorem pdf_dict0T:PDF X (.Dict [] [] pos) (gc (.dct (.inr []) [])):=.mk fun B δ=>pe_dnewT.imp fun σ H Q ⟨d,en,h,k⟩=>by
 cases h
 exact fun p hp=>k p _ hp (same_upd hp) ⟨[],upd_same,rfl,by rw [rps_nil]⟩
theorem ptg_putT (i:Nat) (hu:X.A.units + 1 < cLine) (h:PD X e g) (hN:X.N[i]? = some x:=by rfl) (hv:Vis X.env.scope x:=by first | exact Or.inl rfl | exact Or.inr (Or.inl rfl) | exact Or.inr (Or.inr rfl)) (hd:(x == ("__debug__" : Str)) = false:=by decide) (hcd:(x == ("__classdict__" : Str)) = false:=by decide)
  (ha:∀ v,assign (.Subscript (.Name x px) e pos) X.env v = (do
   let ov ← holding [v] (eval (.Name x px) X.env)
   let iv ← holding [v,ov] (eval e X.env)
   standAt pos
   holding [v,ov,iv] (setItem ov iv v)
   release [v,ov,iv] []):=by intro _; rfl):PTG X (.Subscript (.Name x px) e pos) (putAtT i g):=.mk fun H₀ B₀ d δ pins s σ H v u Q I r ⟨δ',en,e1,k⟩=>by
 unfold putAtT at e1
 obtain ⟨B,b1,b2,env,rv⟩:=en.ex
 cases e2:owDt i δ with
 | none=>rw [e2] at e1; cases e1
 | some pr =>
  cases e3:g δ with
  | none=>rw [e2,e3] at e1; cases e1
  | some dk =>
   rw [e2,e3] at e1
   simp only [Option.bind_some] at e1
   cases e4:asKeyT dk with
   | none=>rw [e4] at e1; cases e1
   | some q =>
    rw [e4] at e1
    simp only [Option.bind_some] at e1
    split at e1
    ·rename_i hz
     cases e1
     have hi:=owDt_eq e2
     obtain ⟨a,hs',hb,xs,hx,hl,rx⟩:=env.at hi
     have hl:pr.1.length = xs.length:=hl
     refine pg_sub (pe_var (i:=i) hN hv hd hcd) (h B δ) (set_dict hu) ha pins s σ H v u Q I r ⟨_,hs',_,env,e3,fun iv H1 s1 r1=>?_⟩
     obtain ⟨kb,rfl,hkb⟩:=keyT_v e4 r1
     obtain ⟨ys,hy,hyl,hy1,hy2⟩:=put_zip (q:=q) (v:=v) hl
     refine ⟨a,_,rfl,DPut.t (s1 _ _ hx) hkb (by rw [List.length_zip,← hl,Nat.min_self]; exact hz),?_⟩
     have rr:Rps X.K H1 B (putDs pr.1 pr.2 q d) ys:=by
      unfold putDs
      cases hk:hasK pr.1 q with
      | true=>rw [if_pos rfl,hy1 hk]; exact rps_putMap (rv.same s1) (rx.same s1)
      | false=>rw [if_neg (by simp),hy2 hk]; exact Rps.snoc (rx.same s1) (rv.same s1)
     rw [hy]
     have env2:Env X.K (upd H1 a (.dT ((putKs pr.1 q).zip ys))) B σ (δ.set i (.ow (.dct (.inr (putKs pr.1 q)) (putDs pr.1 pr.2 q d)))):=(env.same s1).mut hi hs' ⟨ys,upd_same,hyl,rr.mono (Gr.own hb)⟩
     exact k _ _ (en.s.mut s1 b1 b2 hi hs' env2)
    ·cases e1
end
end DL
namespace L2
open PySem PySem.Spec PyProof.Rows
section
variable {P:Program} {w:World} {K:W.Frag} {mg:Str → Option Value} {base:Heap}
end
end L2
namespace DL
open PySem PySem.Spec PyProof.Rows L2
section
variable {P:Program} {w:World} {K:W.Frag} {mg:Str → Option Value} {base:Heap}
end
section
variable {X:Cx} {e a b:Expr} {es:List Expr} {pos p:Pos} {g ga gb:Ds → Option D} {gA:Ds → Option (List D)}
theorem pdf_cmpD {sc scope:Scope} {elt iter tg:Expr} {ifs:List Expr} {N N':List Str} {n:Nat} {caps:List Nat} {gi:Ds → Option (List D)} {idx:List Nat} {f:D → Ds → Option Ds} {gt:Ds → Option Bool} {ge:Ds → Option D}
  (ok:CompOk sc scope N N' n caps) (hidx:∀ j ∈ idx,j < n) (hi:PID X tg iter gi)
  (hg:∀ cl s H ex,PGD (cxComp X scope cl N' s H ex) tg idx f) (ht:∀ cl s H ex,PFD (cxComp X scope cl N' s H ex) ifs gt) (he:∀ cl s H ex,PD (cxComp X scope cl N' s H ex) elt ge)
  (hc:X.calm = true:=by rfl) (hsc:X.env.scope = sc:=by rfl) (hN:X.N = N:=by rfl) (hs:∀ x,foldedSetIterable iter X.env x = pure x:=by intro _; rfl) :
  PDF X (.ListComp elt [⟨tg,iter,ifs,0⟩] scope pos) (compG n caps gi f gt ge):=pdf_comp hc hsc (hN ▸ ok) hidx hi hg ht he hs
theorem flat_v {K:W.Frag} {H:Hp} {B:BS} {d:D} {v:V} (h:flat d = true) (r:Rp K H B d v):flatV v = true ∧ ∀ e u,flat e = true → Rp K H B e u → eqV v u = eqF d e:=by
 cases d <;> simp [flat] at h
 ·rw [rp_non] at r; subst r
  refine ⟨rfl,fun e u he ru=>?_⟩
  cases e <;> simp [flat] at he <;> simp only [rp_non,rp_bl,rp_int,rp_str] at ru <;> subst ru <;> rfl
 ·rw [rp_bl] at r; subst r
  refine ⟨rfl,fun e u he ru=>?_⟩
  cases e <;> simp [flat] at he <;> simp only [rp_non,rp_bl,rp_int,rp_str] at ru <;> subst ru <;> rfl
 ·rw [rp_int] at r; subst r
  refine ⟨rfl,fun e u he ru=>?_⟩
  cases e <;> simp [flat] at he <;> simp only [rp_non,rp_bl,rp_int,rp_str] at ru <;> subst ru <;> rfl
 ·rw [rp_str] at r; subst r
  refine ⟨rfl,fun e u he ru=>?_⟩
  cases e <;> simp [flat] at he <;> simp only [rp_non,rp_bl,rp_int,rp_str] at ru <;> subst ru <;> rfl
theorem in_rel {K:W.Frag} {H:Hp} {B:BS} {d:D} {v:V} (h:flat d = true) (r:Rp K H B d v):∀ {ds:List D} {xs:List V},ds.all flat = true → Rps K H B ds xs → xs.all flatV = true ∧ inV v xs = ds.any fun y=>eqF y d
 | [],_,_,rs=>by rw [rps_nil] at rs; subst rs; exact ⟨rfl,rfl⟩
 | e :: ds,_,ha,rs=>by
  rw [rps_cons] at rs
  obtain ⟨x,t,rfl,r1,r2⟩:=rs
  rw [List.all_cons,Bool.and_eq_true] at ha
  obtain ⟨i1,i2⟩:=in_rel h r ha.2 r2
  obtain ⟨f1,f2⟩:=flat_v ha.1 r1
  refine ⟨by rw [List.all_cons,f1,i1]; rfl,?_⟩
  unfold inV at i2 ⊢
  rw [List.any_cons,List.any_cons,f2 d v h r,i2]
theorem op2_inSeq {K:W.Frag} (neg:Bool):Op2 K (rIn K neg) (inSeqD neg):=by
 intro H B x y dx dy d Q hb rx ry h k
 have key:∀ (ds:List D) (xs:List V),Rps K H B ds xs → flat dx = true ∧ ds.all flat = true → d = .bl (xor neg (ds.any fun y=>eqF y dx)) → ∀ p,y = .ref p → (SqL K H p xs ∨ SqT K H p xs) → rIn K neg x y H Q:=by
  intro ds xs rs hf hd p hp hq
  obtain ⟨f1,f2⟩:=in_rel hf.1 rx hf.2 rs
  refine ⟨p,xs,hp,hq,(flat_v hf.1 rx).1,f1,k _ H (Same.refl H) ?_⟩
  rw [hd,rp_bl,f2]
  cases neg <;> simp
 cases dy <;> simp only [inSeqD] at h <;> try cases h
 ·split at h
  ·rename_i hf
   have hd:=(Option.some.inj h).symm
   rw [rp_tup] at ry
   obtain ⟨p,xs,e,q,rs⟩:=ry
   exact key _ xs rs hf hd p e (.inr q.to)
  ·cases h
 ·split at h
  ·rename_i hf
   have hd:=(Option.some.inj h).symm
   rw [rp_lst] at ry
   obtain ⟨p,xs,e,q,rs⟩:=ry
   exact key _ xs rs hf hd p e (.inl q.to)
  ·cases h
end
end DL
namespace DL
open PySem
end DL
namespace ZipL
open PySem PySem.Spec PyProof.Rows
noncomputable abbrev IsZ (h:Heap) (z TI TO a:Addr) (f:Bool):Prop :=
 h.get? z = some { cls:=.type "zip",dict:=none,data:=.fields #[rawInt a,.bool f,.bool false,.ref TI,.ref TO],slots:=#[] }
section
variable {prog:Program} {w:World} {A:Around} {E:Value → Shared → Prop} {s:Shared}
theorem alive {a:Addr} {o:Obj} {Q:Option Obj → Shared → Prop} (ho:s.heap.get? a = some o) (h:Q (some o) s):wpAny (model prog w) A (loadIfAlive a) Q E s:=by
 have h':Q (s.heap.get? a) s:=by rw [ho]; exact h
 exact fun _ _ _=>h'
theorem not_free {z TI TO a:Addr} {f:Bool} {oa:Obj} {Q:Bool → Shared → Prop} (hz:IsZ s.heap z TI TO a f) (ha:s.heap.get? a = some oa)
  (hQ:∀ h',IsZ h' z TI TO a true → Heap.SameBut z s.heap h' → Q false { s with heap:=h' }):wpAny (model prog w) A (Builtin.SmallTypes.ownedTupleIsFree (.ref z)) Q E s:=by
 unfold Builtin.SmallTypes.ownedTupleIsFree
 refine wpAny_bind (wpAny_field hz rfl (x:=rawInt a) rfl ?_)
 show wpAny _ _ (loadIfAlive ((a:Int).toNat) >>= _) _ _ _
 rw [Int.toNat_natCast]
 refine wpAny_bind (alive ha ?_)
 simp only [Option.isNone_some,Bool.false_eq_true,if_false]
 refine wpAny_bind (wpAny_field hz rfl (x:=.bool f) rfl ?_)
 cases f with
 | true =>
  rw [if_neg (show ¬ ((Value.bool true != Value.bool true) = true) from Bool.false_ne_true)]
  exact wpAny_pure (hQ _ hz (Heap.SameBut.refl _ _))
 | false =>
  rw [if_pos (show (Value.bool false != Value.bool true) = true from rfl)]
  exact wpAny_bind (wpAny_setField_rec hz (by simp) fun h3 he3 hs3=>wpAny_pure (hQ h3 he3 hs3))
theorem next_out {z TI TO i1 i2 l1 l2 a:Addr} {f:Bool} {oa:Obj} {k1 k2:Nat} {xs ys:Array Value} {x y:Value} {Q:Value → Shared → Prop} (D:ZipApart z TI TO i1 i2 l1 l2)
  (hz:IsZ s.heap z TI TO a f) (ha:s.heap.get? a = some oa) (hTI:IsPair s.heap TI (.ref i1) (.ref i2))
  (h1:s.heap.IsListIter i1 l1 k1) (h2:s.heap.IsListIter i2 l2 k2) (hl1:s.heap.IsList l1 xs) (hl2:s.heap.IsList l2 ys) (hx:xs[k1]? = some x) (hy:ys[k2]? = some y)
  (hQ:∀ h',IsZ h' z TI TO a true → h'.IsListIter i1 l1 (k1 + 1) → h'.IsListIter i2 l2 (k2 + 1) → IsPair h' s.heap.objs.size x y → h'.objs.size = s.heap.objs.size + 1 →
   (∀ c o,c ≠ z → c ≠ i1 → c ≠ i2 → s.heap.get? c = some o → h'.get? c = some o) → Q (.ref s.heap.objs.size) { s with heap:=h' }) :
  wpAny (model prog w) A (Builtin.«zip.__next__» ⟨[.ref z],[]⟩) (fun fin s'=>∃ v,fin = .done (.ret v) ∧ Q v s') E s:=by
 show wpAny _ _ (field (.ref z) 2 >>= _) _ _ _
 refine wpAny_bind (wpAny_field hz rfl (x:=.bool false) rfl ?_)
 show wpAny _ _ (field (.ref z) 3 >>= _) _ _ _
 refine wpAny_bind (wpAny_field hz rfl (x:=.ref TI) rfl ?_)
 refine wpAny_bind (wpAny_seqItems hTI rfl ?_)
 show wpAny _ _ (Builtin.SmallTypes.ownedTupleIsFree (.ref z) >>= _) _ _ _
 refine wpAny_bind (not_free hz ha fun h₁ hz₁ hs₁=>?_)
 simp only [Bool.false_eq_true,if_false]
 refine wpAny_bind ?_
 simp only [List.forIn_toArray,List.forIn_cons,List.forIn_nil]
 refine wpAny_bind (wpAny_bind (wpAny_holding ?_))
 show wpAny _ _ (Builtin.SmallTypes.nextOf (.ref i1) >>= _) _ _ _
 refine wpAny_bind (wpAny_nextOf_list_item (h1.extBut hs₁.extBut D.i1z) (hl1.extBut hs₁.extBut D.l1z) hx fun h₂ h1₂ hs₂=>wpAny_pure ?_)
 refine wpAny_pure ?_
 refine wpAny_bind (wpAny_bind (wpAny_holding ?_))
 show wpAny _ _ (Builtin.SmallTypes.nextOf (.ref i2) >>= _) _ _ _
 refine wpAny_bind (wpAny_nextOf_list_item ((h2.extBut hs₁.extBut D.i2z).extBut hs₂.extBut D.i12.symm) ((hl2.extBut hs₁.extBut D.l2z).extBut hs₂.extBut D.l2i1) hy fun h₄ h2₄ hs₄=>wpAny_pure ?_)
 refine wpAny_pure (wpAny_pure ?_)
 refine wpAny_bind (wpAny_newTuple (hsz:=by show 2 ≤ sizeLine; decide) ?_)
 have hsz:h₄.objs.size = s.heap.objs.size:=by rw [hs₄.1,hs₂.1,hs₁.1]
 have hz₄:IsZ h₄ z TI TO a true:=hs₄.extBut _ _ D.i2z.symm (hs₂.extBut _ _ D.i1z.symm hz₁)
 have hk₄:∀ c o,c ≠ z → c ≠ i1 → c ≠ i2 → s.heap.get? c = some o → h₄.get? c = some o:=fun c o c1 c3 c4 e=>hs₄.extBut _ _ c4 (hs₂.extBut _ _ c3 (hs₁.extBut _ _ c1 e))
 refine wpAny_pure ⟨_,rfl,?_⟩
 show Q (.ref h₄.objs.size) _
 have hq:=hQ (h₄.push { cls:=.type "tuple",data:=.seq #[x,y] }) (Heap.get?_push_of_some _ hz₄) ((h1₂.extBut hs₄.extBut D.i12).at fun o e=>Heap.get?_push_of_some _ e) (h2₄.at fun o e=>Heap.get?_push_of_some _ e)
  (by rw [← hsz]; exact Heap.get?_push_size _ rfl) (by rw [Heap.size_push,hsz]) fun c o c1 c3 c4 e=>Heap.get?_push_of_some _ (hk₄ c o c1 c3 c4 e)
 rw [hsz]
 exact hq
theorem end_out {z TI TO i1 i2 l1 l2 a:Addr} {f:Bool} {oa:Obj} {k1 k2:Nat} {xs ys:Array Value} {Q:Fin → Shared → Prop} (hh:A.handled = none) (D:ZipApart z TI TO i1 i2 l1 l2)
  (hz:IsZ s.heap z TI TO a f) (ha:s.heap.get? a = some oa) (hTI:IsPair s.heap TI (.ref i1) (.ref i2))
  (h1:s.heap.IsListIter i1 l1 k1) (h2:s.heap.IsListIter i2 l2 k2) (hl1:s.heap.IsList l1 xs) (hl2:s.heap.IsList l2 ys) (hend:xs[k1]? = none ∨ ys[k2]? = none)
  (hE:∀ h' e,(∀ c o,c ≠ z → c ≠ i1 → c ≠ i2 → s.heap.get? c = some o → h'.get? c = some o) → (∃ o,h'.get? e = some o ∧ o.cls = .type "StopIteration") → E (.ref e) { s with heap:=h' }) :
  wpAny (model prog w) A (Builtin.«zip.__next__» ⟨[.ref z],[]⟩) Q E s:=by
 show wpAny _ _ (field (.ref z) 2 >>= _) _ _ _
 refine wpAny_bind (wpAny_field hz rfl (x:=.bool false) rfl ?_)
 show wpAny _ _ (field (.ref z) 3 >>= _) _ _ _
 refine wpAny_bind (wpAny_field hz rfl (x:=.ref TI) rfl ?_)
 refine wpAny_bind (wpAny_seqItems hTI rfl ?_)
 show wpAny _ _ (Builtin.SmallTypes.ownedTupleIsFree (.ref z) >>= _) _ _ _
 refine wpAny_bind (not_free hz ha fun h₁ hz₁ hs₁=>?_)
 simp only [Bool.false_eq_true,if_false]
 refine wpAny_bind ?_
 simp only [List.forIn_toArray,List.forIn_cons,List.forIn_nil]
 refine wpAny_bind (wpAny_bind (wpAny_holding ?_))
 show wpAny _ _ (Builtin.SmallTypes.nextOf (.ref i1) >>= _) _ _ _
 cases hx:xs[k1]? with
 | none =>
  refine wpAny_bind (wpAny_nextOf_list_end hh (h1.extBut hs₁.extBut D.i1z) (hl1.extBut hs₁.extBut D.l1z) hx fun h₂ e hs₂ he=>?_)
  exact hE h₂ e (fun c o c1 c3 _ x=>hs₂ _ _ c3 (hs₁.extBut _ _ c1 x)) he
 | some x =>
  have hy:ys[k2]? = none:=by rcases hend with h | h; rw [hx] at h; cases h; exact h
  refine wpAny_bind (wpAny_nextOf_list_item (h1.extBut hs₁.extBut D.i1z) (hl1.extBut hs₁.extBut D.l1z) hx fun h₂ h1₂ hs₂=>wpAny_pure ?_)
  refine wpAny_pure ?_
  refine wpAny_bind (wpAny_bind (wpAny_holding ?_))
  show wpAny _ _ (Builtin.SmallTypes.nextOf (.ref i2) >>= _) _ _ _
  refine wpAny_bind (wpAny_nextOf_list_end hh ((h2.extBut hs₁.extBut D.i2z).extBut hs₂.extBut D.i12.symm) ((hl2.extBut hs₁.extBut D.l2z).extBut hs₂.extBut D.l2i1) hy fun h₄ e hs₄ he=>?_)
  exact hE h₄ e (fun c o c1 c3 c4 x=>hs₄ _ _ c4 (hs₂.extBut _ _ c3 (hs₁.extBut _ _ c1 x))) he
theorem pyNext_out {z TI TO i1 i2 l1 l2 a:Addr} {f:Bool} {oa:Obj} {k1 k2:Nat} {xs ys:Array Value} {x y:Value} {Q:Option Value → Shared → Prop} (D:ZipApart z TI TO i1 i2 l1 l2)
  (hz:IsZ s.heap z TI TO a f) (ha:s.heap.get? a = some oa) (hTI:IsPair s.heap TI (.ref i1) (.ref i2))
  (h1:s.heap.IsListIter i1 l1 k1) (h2:s.heap.IsListIter i2 l2 k2) (hl1:s.heap.IsList l1 xs) (hl2:s.heap.IsList l2 ys) (hx:xs[k1]? = some x) (hy:ys[k2]? = some y)
  (hQ:∀ h',IsZ h' z TI TO a true → h'.IsListIter i1 l1 (k1 + 1) → h'.IsListIter i2 l2 (k2 + 1) → IsPair h' s.heap.objs.size x y → h'.objs.size = s.heap.objs.size + 1 →
   (∀ c o,c ≠ z → c ≠ i1 → c ≠ i2 → s.heap.get? c = some o → h'.get? c = some o) → Q (some (.ref s.heap.objs.size)) { s with heap:=h' }) :
  wpAny (model prog w) A (pyNext (.ref z)) Q E s:=by
 have hT:s.TypeIs (.ref z) "zip" := ⟨_,hz,rfl⟩
 unfold pyNext
 exact wpAny_bind (wpAny_attempt (wpAny_callSpecial?_slot (name:=Str.ofString "__next__") hT F.slot_zip_next
  (wpAny_call_entry F.slot_zip_next hT F.entry_zip_next
   (next_out D hz ha hTI h1 h2 hl1 hl2 hx hy fun h' a1 a3 a4 a5 a6 a7=>wpAny_pure (hQ h' a1 a3 a4 a5 a6 a7)) (F.args_zip_next_1 _))))
theorem pyNext_end_out {z TI TO i1 i2 l1 l2 a:Addr} {f:Bool} {oa:Obj} {k1 k2:Nat} {xs ys:Array Value} {Q:Option Value → Shared → Prop} (hh:A.handled = none) (D:ZipApart z TI TO i1 i2 l1 l2)
  (hz:IsZ s.heap z TI TO a f) (ha:s.heap.get? a = some oa) (hTI:IsPair s.heap TI (.ref i1) (.ref i2))
  (h1:s.heap.IsListIter i1 l1 k1) (h2:s.heap.IsListIter i2 l2 k2) (hl1:s.heap.IsList l1 xs) (hl2:s.heap.IsList l2 ys) (hend:xs[k1]? = none ∨ ys[k2]? = none)
  (hQ:∀ h',(∀ c o,c ≠ z → c ≠ i1 → c ≠ i2 → s.heap.get? c = some o → h'.get? c = some o) → Q none { s with heap:=h' }):wpAny (model prog w) A (pyNext (.ref z)) Q E s:=by
 have hT:s.TypeIs (.ref z) "zip" := ⟨_,hz,rfl⟩
 unfold pyNext
 refine wpAny_bind (wpAny_attempt (wpAny_callSpecial?_slot (name:=Str.ofString "__next__") hT F.slot_zip_next
  (wpAny_call_entry F.slot_zip_next hT F.entry_zip_next (end_out hh D hz ha hTI h1 h2 hl1 hl2 hend fun h' e hk he=>?_) (F.args_zip_next_1 _))))
 obtain ⟨o,ho,hc⟩:=he
 refine wpAny_bind (wpAny_isInstance (T := "StopIteration") (b:=true) ⟨o,ho,hc⟩ isSubtype_stop ?_)
 exact wpAny_pure (hQ _ hk)
end
section
variable {prog:Program} {w:World} {A:Around} {E:Value → Shared → Prop} {s:Shared} {z TI TO i1 i2 l1 l2 S:Addr} {xs ys:Array Value} {h h':Heap} {i:Nat}
end
section
variable {prog:Program} {w:World} {A:Around} {s:Shared} {R:Result → Shared → Prop} {z TI TO i1 i2 l1 l2 S lo:Addr} {xs ys:Array Value} {h₁:Heap}
end
section
variable {prog:Program} {w:World} {A:Around} {E:Value → Shared → Prop} {s:Shared} {z TI TO i1 i2 l1 l2 lo:Addr} {xs ys:Array Value}
end
section
variable {prog:Program} {w:World} {A:Around} {E:Value → Shared → Prop} {s:Shared} {z TI TO i1 i2 l1 l2 lo:Addr} {xs ys:Array Value}
end
end ZipL
namespace L2
open PySem PySem.Spec PyProof.Rows
section
variable {X:Cx} {pins:List (Addr × Obj)} {σ:List (Option V)} {H:Hp} {s:Shared} {h':Heap}
end
noncomputable def CallR2 (X:Cx) (f1 f2:Value) (r:List V → Hp → VK → Prop):Prop :=
 ∀ (pins:List (Addr × Obj)) (s:Shared) (σ:St) (H:Hp) (xs:List V) (us:List Value) (Q:VK),Inv X pins σ H s → Vals xs us → r xs H Q →
  wpAny (model X.prog X.w) X.A (call f2 us) (fun v s1=>wpAny (model X.prog X.w) X.A (call f1 [v]) (EP X pins σ Q) X.xe s1) X.xe s
section
variable {X:Cx} {e:Expr} {es:List Expr} {pos p pos2 p2:Pos} {x1 x2:Str} {T1 T2:String} {r:List V → Hp → VK → Prop} {t:TA}
theorem pe_nestTT (hc:CallR2 X (.type T1) (.type T2) r) (hg1:Gl X x1) (hg2:Gl X x2) (hm1:X.mg x1 = none) (hm2:X.mg x2 = none) (hv1:bootBuiltins x1 = some (.type T1)) (hv2:bootBuiltins x2 = some (.type T2)) (ha:PA X (e :: es) t)
  (hn1:x1 ≠ "__name__" := by decide) (hd1:(x1 == ("__debug__" : Str)) = false:=by decide) (hn2:x2 ≠ "__name__" := by decide) (hd2:(x2 == ("__debug__" : Str)) = false:=by decide)
  (e1:starEach [.Call (.Name x2 p2) (e :: es) [] pos2] X.env = (false,eval (.Call (.Name x2 p2) (e :: es) [] pos2) X.env) :: starEach [] X.env:=by rfl) (h1:(backTo pos (starEach [] X.env)).any (·.1) = false:=by rfl)
  (he:starEach (e :: es) X.env = (false,eval e X.env) :: starEach es X.env:=by rfl) (hpl:(backTo pos2 (starEach es X.env)).any (·.1) = false:=by rfl) :
  PE X (.Call (.Name x1 p) [.Call (.Name x2 p2) (e :: es) [] pos2] [] pos) (tCB r t):=by
 intro pins s σ H Q I h
 refine wpAny_Call_Name_kw (ld_blt I hg1 hm1 hv1 ?_ hn1 hd1)
 refine PyProof.Rows.callWith_type1 ?_ e1 h1
 rw [e1]
 show wpAny _ _ (spliced ((false,eval (.Call (.Name x2 p2) (e :: es) [] pos2) X.env) :: backTo pos (starEach [] X.env))) _ _ s
 refine Calls.spliced_cons ?_
 refine wpAny_Call_Name_kw (ld_blt I hg2 hm2 hv2 ?_ hn2 hd2)
 refine PyProof.Rows.callWith_type1 (thn (ha pos2 pins s σ H _ I h) fun us s1 ⟨vs,H1,I1,r1,q1⟩=>?_) he hpl
 exact thn (hc pins s1 σ H1 vs us Q I1 r1 q1) fun v s2 hv=>Calls.spliced_nil hv
end
end L2
namespace DL
open PySem PySem.Spec PyProof.Rows L2
section
variable {X:Cx} {e:Expr} {es:List Expr} {pos p pos2 p2:Pos} {x1 x2:Str} {T1 T2:String} {r:List V → Hp → VK → Prop} {gA:Ds → Option (List D)} {f:List D → Option D}
end
end DL
namespace L2
open PySem PySem.Spec PyProof.Rows
section
variable {X:Cx} {pins:List (Addr × Obj)} {σ:List (Option V)} {H:Hp} {s:Shared} {h':Heap}
theorem Inv.turnedL {t':Nat} {fp:List Addr} (I:Inv X pins σ H s) (hf:∀ b ∈ fp,FpOk X pins H b) (k:∀ b o,b ∉ fp → s.heap.get? b = some o → h'.get? b = some o):Inv X pins σ H { s with heap:=h',toks:=t' }:=by
 have nit:∀ b u,H b = some u → b ∉ fp:=fun b u e z=>by rw [(hf b z).1] at e; cases e
 refine I.step (g':=s.gens) (d':=s.drawn) (ch:=fp) (fun b hb=>⟨(hf b hb).2.2.2.1,(hf b hb).2.1,(hf b hb).2.2.2.2.1,(hf b hb).2.2.2.2.2⟩) (fun b o _ _ hc e _=>k b o hc e) (fun b o _ _ hc e _=>⟨o.slots,k b o hc e⟩) (fun _ _ _ _ n=>n)
  (fun b o hc e=>⟨o,k b o hc e⟩) (fun _ _ e=>e) (fun _ _ _ e=>e) (fun b ps e=>⟨#[],by rw [e]; simp⟩) (fun m hm=>?_) (fun b u e=>?_) I.bare
 ·obtain ⟨o,es,ep,ho,r⟩:=hm
  exact ⟨o,es,ep,k _ o (fun z=>(hf _ z).2.1 rfl) ho,r⟩
 ·refine (I.hok b u e).stay (fun c v hc q=>k c v ?_ q) (fun _ q=>q) fun _ _ q=>q
  rcases hc with z | z
  ·rw [z]; exact nit b u e
  ·exact nit c _ z
theorem Inv.turnedNew {t':Nat} {fp:List Addr} {x y:V} {u w:Value} (I:Inv X pins σ H s) (hf:∀ b ∈ fp,FpOk X pins H b) (rx:RelV x u) (ry:RelV y w) (hlt:∀ b ∈ fp,b < s.heap.objs.size)
  (hob:h'.get? s.heap.objs.size = some { cls:=.type "tuple",data:=.seq #[u,w] }) (k:∀ b o,b ∉ fp → s.heap.get? b = some o → h'.get? b = some o) :
  Inv X pins σ (upd H s.heap.objs.size (.tup [x,y])) { s with heap:=h',toks:=t' } ∧ ∀ b ∈ fp,upd H s.heap.objs.size (.tup [x,y]) b = none:=by
 have ne:∀ b ∈ fp,b ≠ s.heap.objs.size:=fun b hb=>Nat.ne_of_lt (hlt b hb)
 have fr:∀ b ∈ fp,upd H s.heap.objs.size (.tup [x,y]) b = none:=fun b hb=>by rw [upd_ne (ne b hb)]; exact (hf b hb).1
 have I1:Inv X pins σ (upd H s.heap.objs.size (.tup [x,y])) { s with heap:=s.heap.push { cls:=.type "tuple",data:=.seq #[u,w] },toks:=t' } :=
  I.laid (fun b o e=>Heap.get?_push_of_some _ e) (Nat.le_refl _) ⟨(by show 2 ≤ sizeLine; decide),[u,w],.cons rx (.cons ry .nil),⟨_,Heap.get?_push_size _ rfl,rfl,_,rfl,rfl⟩⟩
 refine ⟨Inv.turnedL (s:={ s with heap:=s.heap.push { cls:=.type "tuple",data:=.seq #[u,w] },toks:=t' }) (t':=t') (fp:=fp) I1 (fun b hb=>⟨fr b hb,(hf b hb).2⟩) fun b o hb e=>?_,fr⟩
 rcases Heap.get?_push_cases e with ⟨rfl,rfl⟩ | e
 ·exact hob
 ·exact k b o hb e
end
noncomputable def Itz (K:W.Frag) (a b:Addr):It :=
 ⟨fun i H=>∃ xs ys x y,SqL K H a xs ∧ SqL K H b ys ∧ xs[i]? = some x ∧ ys[i]? = some y,
   fun i H v H'=>∃ t x y,v = .ref t ∧ H t = none ∧ H' = upd H t (.tup [x,y]) ∧ (∀ xs,SqL K H a xs → xs[i]? = some x) ∧ ∀ ys,SqL K H b ys → ys[i]? = some y,
   fun i H=>∃ xs ys,SqL K H a xs ∧ SqL K H b ys ∧ (xs.length ≤ i ∨ ys.length ≤ i)⟩
section
variable {X:Cx} {elts:List Expr} {x1:Nat} {tpos:Pos}
noncomputable def iZip (K:W.Frag) (ta:TA):TI:=fun σ H R=>ta σ H fun vs H1=>∃ a b,vs = [.ref a,.ref b] ∧ (∃ xs,SqL K H1 a xs) ∧ (∃ ys,SqL K H1 b ys) ∧ R (Itz K a b) H1
theorem boot_zip:bootBuiltins "zip" = some (.type "zip"):=by decide +kernel
end
end L2
namespace DL
open PySem PySem.Spec PyProof.Rows L2
section
variable {X:Cx} {elts:List Expr} {x1:Nat} {tpos:Pos} {a b:Expr} {p pos:Pos} {gA:Ds → Option (List D)}
theorem rp_pair {K:W.Frag} {H:Hp} {B:BS} {t:Addr} {x y:V} {d e:D} (hn:¬ B t) (ht:H t = some (.tup [x,y])) (r1:Rp K H B d x) (r2:Rp K H B e y):Rp K H B (.tup [d,e]) (.ref t):=by
 rw [rp_tup]
 refine ⟨t,[x,y],rfl,⟨hn,ht⟩,?_⟩
 rw [rps_cons]
 refine ⟨_,_,rfl,r1,?_⟩
 rw [rps_cons]
 exact ⟨_,_,rfl,r2,by rw [rps_nil]⟩
end
section
variable {K:W.Frag} {H:Hp} {B B':BS}
end
section
variable {X:Cx} {K:W.Frag} {e:Expr} {pos p:Pos} {g:Ds → Option D}
end
section
variable {X:Cx} {e:Expr} {pos p pos2 p2:Pos} {gA:Ds → Option (List D)}
noncomputable def rLRange:List V → Hp → VK → Prop:=fun vs H Q=>∃ j:Int,vs = [.int j] ∧ -(2 ^ 62) ≤ j ∧ j ≤ 1000000 ∧ ∀ l,H l = none → Q (.ref l) (upd H l (.lst ((List.range j.toNat).map fun (k:Nat)=>V.int (k:Int))))
theorem call_list_rng {X:Cx} (hc:X.calm = true:=by rfl):CallR2 X (.type "list") (.type "range") rLRange:=by
 intro pins s σ H vs us Q I r h
 obtain ⟨j,rfl,h1,h2,k⟩:=h
 cases r with
 | cons r rr =>
  cases rr
  obtain ⟨t,rfl⟩:=r
  refine call_range_1 ?_
  have hsz:Builtin.Range.rangeSize 0 j 1 = (j.toNat:Nat):=by rw [rangeSize_one]; split <;> omega
  have zl:(1000000:Nat) ≤ sizeLine:=by decide
  refine call_list_range (s:={ s with heap:=s.heap.push { cls:=.type "range",data:=.fields #[.int 0 s.toks,.int j t,.int 1 (s.toks + 1)] },toks:=s.toks + 1 + 1 }) (n:=j.toNat) (I.ok.hd hc) (IsRange.new ..) (small_one (by omega) (by omega) h1 (by omega)) hsz (by
   have:(1000000:Nat) ≤ 2 ^ 24:=by decide
   omega) fun h' tk acc c hk ha hi=>?_
  have hS:(s.heap.push { cls:=.type "range",data:=.fields #[.int 0 s.toks,.int j t,.int 1 (s.toks + 1)] }).objs.size = s.heap.objs.size + 1:=Heap.size_push ..
  have ha:h'.get? (s.heap.objs.size + 1) = some { cls:=.type "list",dict:=none,data:=.seq acc c,slots:=#[] }:=by rw [← hS]; exact ha
  have hf:H (s.heap.objs.size + 1) = none:=I.hok.fresh (Nat.le_succ _)
  show EP X pins σ Q (.ref (s.heap.push _).objs.size) _
  rw [hS]
  refine ⟨.ref (s.heap.objs.size + 1),_,I.laid (a:=s.heap.objs.size + 1) (o:=.lst ((List.range j.toNat).map fun (k:Nat)=>V.int (k:Int))) (t':=tk) (fun b o q=>hk b o (Heap.get?_push_of_some _ q)) (Nat.le_succ _) ⟨by rw [List.length_map,List.length_range]; omega,acc.toList,c,?_,by rw [ha]⟩,rfl,k _ hf⟩
  have key:∀ (l:List Value) (m:Nat),(∀ i v,l[i]? = some v → ∃ t,v = Value.int ((m + i:Nat):Int) t) → Vals ((List.range' m l.length).map fun (k:Nat)=>V.int (k:Int)) l:=by
   intro l
   induction l with
   | nil=>intro m _; exact .nil
   | cons v l ih =>
    intro m h
    obtain ⟨t0,e0⟩:=h 0 v rfl
    rw [List.length_cons,List.range'_succ,List.map_cons]
    refine .cons ⟨t0,by simpa using e0⟩ (ih (m + 1) fun i w hw=>?_)
    obtain ⟨t1,e1⟩:=h (i + 1) w (by simpa using hw)
    exact ⟨t1,by rw [e1]; congr 2; omega⟩
  have hlen:acc.toList.length = j.toNat:=by rw [Array.length_toList]; exact hi.1
  have:=key acc.toList 0 (fun i v hv=>by
   obtain ⟨t0,e0⟩:=hi.2 i v (by simpa using hv)
   exact ⟨t0,by rw [e0]; congr 1; omega⟩)
  rw [hlen,← List.range_eq_range'] at this
  exact this
theorem pdf_lrange (hm1:X.mg "list" = none) (hm2:X.mg "range" = none) (ha:PDA X [e] gA) (hc:X.calm = true:=by rfl) (hg1:Gl X "list" := by rfl) (hg2:Gl X "range" := by rfl)
  (e1:starEach [.Call (.Name "range" p2) [e] [] pos2] X.env = (false,eval (.Call (.Name "range" p2) [e] [] pos2) X.env) :: starEach [] X.env:=by rfl) (h1:(backTo pos (starEach [] X.env)).any (·.1) = false:=by rfl)
  (he:starEach [e] X.env = (false,eval e X.env) :: starEach [] X.env:=by rfl) (hpl:(backTo pos2 (starEach [] X.env)).any (·.1) = false:=by rfl) :
  PDF X (.Call (.Name "list" p) [.Call (.Name "range" p2) [e] [] pos2] [] pos) (oA gA lrngD):=.mk fun B δ=>(pe_nestTT (call_list_rng hc) hg1 hg2 hm1 hm2 b_list0 boot_range (ha B δ) (by decide) (by decide) (by decide) (by decide) e1 h1 he hpl).imp fun σ H Q ⟨d,en,h,k⟩=>by
 unfold oA at h
 cases e3:gA δ with
 | none=>rw [e3] at h; cases h
 | some ds =>
  rw [e3] at h
  simp only [Option.bind_some] at h
  unfold lrngD at h
  split at h <;> try cases h
  rename_i j
  split at h <;> try cases h
  rename_i hj
  refine ⟨_,en,e3,fun vs H1 s1 r=>?_⟩
  rw [rps_cons] at r
  obtain ⟨x,t,rfl,r1,r⟩:=r
  rw [rps_nil] at r; subst r
  rw [rp_int] at r1; subst r1
  refine ⟨j,rfl,hj.1,hj.2,fun l hl=>k l _ (s1.free hl) (s1.trans (same_upd hl)) ⟨_,upd_same,?_⟩⟩
  have:∀ (l:List Nat) (H:Hp) (B:BS),Rps X.K H B (l.map fun (k:Nat)=>D.int (k:Int)) (l.map fun (k:Nat)=>V.int (k:Int)):=by
   intro l H B
   induction l with
   | nil=>simp [rps_nil]
   | cons a l ih=>rw [List.map_cons,List.map_cons,rps_cons]; exact ⟨_,_,rfl,by rw [rp_int],ih⟩
  exact this _ _ _
end
end DL
namespace TxtL
open PySem PySem.Spec PyProof.Rows Builtin Builtin.Str
section
variable {prog:Program} {w:World} {A:Around} {E:Value → Shared → Prop} {s:Shared} {Q:Value → Shared → Prop} {x y:PySem.Str} {t u:Tok}
end
end TxtL
namespace L2
open PySem PySem.Spec PyProof.Rows
section
variable {X:Cx}
end
end L2
namespace DL
open PySem PySem.Spec PyProof.Rows L2
section
variable {X:Cx} {K:W.Frag} {o e:Expr} {apos cpos:Pos} {g:Ds → Option D} {gA:Ds → Option (List D)} {name:PySem.Str} {id:String} {r:V → List V → Hp → VK → Prop} {f:D → List D → Option D}
end
@[simp] noncomputable def chainG (ga gb gc:GE) (f f':D → D → Option D):GE:=fun δ=>(ga δ).bind fun x=>(gb δ).bind fun y=>(f x y).bind fun t=>(asB t).bind fun k=>if k = true then (gc δ).bind fun z=>f' y z else some (.bl false)
@[simp] noncomputable def mulI:D → D → Option D
 | .int n,.str x=>if -(2 ^ 62) ≤ n ∧ n < 2 ^ 62 ∧ x.length * n.toNat ≤ sizeLine then some (.str (repD x n)) else none
 | _,_=>none
section
variable {X:Cx} {e a b c:Expr} {es:List Expr} {pos:Pos} {g ga gb gc:Ds → Option D}
theorem chain_red {K:W.Frag} {r r':R2} {f f':D → D → Option D} (hf:Op2 K r f) (hf':Op2 K r' f') {B:BS} {δ:Ds} {σ:St} {H:Hp} {Q:VK} (h:tD K B δ (chainG ga gb gc f f') σ H Q):tChain r r' (tD K B δ ga) (tD K B δ gb) (tD K B δ gc) σ H Q:=by
 obtain ⟨d,en,h,k⟩:=h
 unfold chainG at h
 cases e1:ga δ with
 | none=>rw [e1] at h; cases h
 | some x =>
  cases e2:gb δ with
  | none=>rw [e1,e2] at h; cases h
  | some y =>
   rw [e1,e2] at h
   simp only [Option.bind_some] at h
   cases e3:f x y with
   | none=>rw [e3] at h; cases h
   | some t =>
    rw [e3] at h
    simp only [Option.bind_some] at h
    cases e4:asB t with
    | none=>rw [e4] at h; cases h
    | some kb =>
     rw [e4] at h
     simp only [Option.bind_some] at h
     cases asB_eq e4
     refine ⟨x,en,e1,fun v1 H1 s1 r1=>⟨y,en.same s1,e2,fun v2 H2 s2 r2=>?_⟩⟩
     refine hf H2 B v1 v2 x y _ _ ((en.same s1).same s2).bad (r1.same s2) r2 e3 fun v H3 s3 r3=>?_
     rw [rp_bl] at r3
     refine ⟨kb,r3,?_⟩
     cases kb with
     | false =>
      rw [if_neg Bool.false_ne_true] at h ⊢
      cases h
      exact k _ H3 ((s1.trans s2).trans s3) (by rw [rp_bl])
     | true =>
      rw [if_pos rfl] at h ⊢
      cases e5:gc δ with
      | none=>rw [e5] at h; cases h
      | some z =>
       rw [e5] at h
       simp only [Option.bind_some] at h
       refine ⟨z,((en.same s1).same s2).same s3,e5,fun v4 H4 s4 r4=>?_⟩
       exact hf' H4 B v2 v4 y z d _ ((((en.same s1).same s2).same s3).same s4).bad ((r2.same s3).same s4) r4 h fun v' H5 s5 r5=>k v' H5 ((((s1.trans s2).trans s3).trans s4).trans s5) r5
theorem pd_chain {op op':CmpOp} {r r':R2} {f f':D → D → Option D} (ho:OpR X (compareOp op) r) (hf:Op2 X.K r f) (ho':OpR X (compareOp op') r') (hf':Op2 X.K r' f') (ha:PD X a ga) (hb:PD X b gb) (hc:PD X c gc)
  (hm:lastMarks [op,op'] [b,c] = false:=by with_unfolding_all rfl):PD X (.Compare a [op,op'] [b,c] pos) (chainG ga gb gc f f') :=
 .mk fun B δ=>(pe_chain ho ho' (ha B δ) (hb B δ) (hc B δ) hm).imp fun σ H Q h=>chain_red hf hf' h
open Builtin Builtin.Str Builtin.Int in
theorem mul_intstr {prog:Program} {w:World} {A:Around} {E:Value → Shared → Prop} {s:Shared} {x:Str} {n:Int} {t u:Tok} {Q:Value → Shared → Prop} (hr:(decide (n < -(2 ^ 63:Int)) || decide (n ≥ 2 ^ 63)) = false)
  (hb:¬ n < 1 → (n == 1 || x.length == 0) = false → ¬ ((x.length:Int) > (2 ^ 63 - 1) / n)) (hl:¬ n < 1 → (n == 1 || x.length == 0) = false → tooLong (x.length * n.toNat) = false)
  (h:(if n < 1 then Made.str Str.empty else if (n == 1 || x.length == 0) = true then Made.val (.str x t) else Made.str ⟨(List.replicate n.toNat x.cps).foldl (· ++ ·) #[]⟩).post Q s) :
  wpAny (model prog w) A (binaryOp .Mult (.int n u) (.str x t)) Q E s :=
 PySem.lm_binaryOp_repeat_right (T := "str") (U := "int") (by decide) (fun s'=>typeIs_int s' n u) (typeIs_str s x t) PySem.F.fills_int_mul PySem.noFill_str_mul PySem.F.slot_int_mul PySem.lm_noRepeat_int PySem.repeat_str PySem.F.slot_int_index.lookup
  (call_gives PySem.F.slot_int_mul (typeIs_int s n u) PySem.F.entry_int_mul (PySem.F.args_int_mul_2 _ _) (PySem.AutoIntG3.int___mul___int_str_0 n u x t)
   ⟨rfl,typeIs_str _ x t,call_gives PySem.F.slot_str_mul (typeIs_str s x t) PySem.F.entry_str_mul (PySem.F.args_str_mul_2 _ _) (gives_str_mul x n t u hr hb hl) h⟩)
noncomputable def rMulI:R2:=fun x y H Q=>∃ z n,y = .str z ∧ x = .int n ∧ -(2 ^ 62) ≤ n ∧ n < 2 ^ 62 ∧ z.length * n.toNat ≤ sizeLine ∧ Q (.str (repS z n)) H
theorem op_mulI:OpR X (binaryOp .Mult) rMulI:=by
 intro pins s σ H x y v u Q I rx ry h
 obtain ⟨z,n,rfl,rfl,h1,h2,hz,q⟩:=h
 obtain ⟨t,rfl⟩:=ry
 obtain ⟨t',rfl⟩:=rx
 have fin:∀ t'' k,EP X pins σ Q (.str (repS z n) t'') { s with toks:=k }:=fun t'' k=>⟨.str _,H,I.tok k,⟨t'',rfl⟩,q⟩
 have hsl:(sizeLine:Nat) < 2 ^ 40:=by decide
 have hdiv:¬ n < 1 → ¬ ((z.length:Int) > (2 ^ 63 - 1) / n):=by
  intro hn
  have hn':0 < n:=by omega
  have:(z.length:Int) * n ≤ 2 ^ 63 - 1:=by
   have e:n = (n.toNat:Int):=by omega
   rw [e]
   have:((z.length * n.toNat:Nat):Int) ≤ 2 ^ 40:=by exact_mod_cast (by omega:z.length * n.toNat ≤ 2 ^ 40)
   rw [Int.natCast_mul] at this
   omega
  exact Int.not_lt.mpr ((Int.le_ediv_iff_mul_le hn').mpr this)
 refine mul_intstr (by rw [decide_eq_false (by omega),decide_eq_false (by omega)]; rfl) (fun hn _=>hdiv hn) (fun _ _=>?_) ?_
 ·show decide (z.length * n.toNat > sizeLine) = false
  exact decide_eq_false (by omega)
 ·by_cases hn:n < 1
  ·rw [if_pos hn]
   have e:repS z n = Str.empty:=by
    unfold repS
    rw [show n.toNat = 0 by omega]
    rfl
   refine ⟨by decide,?_⟩
   rw [← e]
   exact fin _ _
  ·rw [if_neg hn]
   by_cases h3:(n == 1 || z.length == 0) = true
   ·rw [if_pos h3]
    have e:repS z n = z:=by
     rw [Bool.or_eq_true] at h3
     rcases h3 with h3 | h3
     ·have:n = 1:=eq_of_beq h3
      subst this
      unfold repS
      show (⟨#[] ++ z.cps⟩:Str) = z
      rw [Array.empty_append]
     ·have h3:z.length = 0:=eq_of_beq h3
      have hz0:z.cps = #[]:=Array.eq_empty_of_size_eq_zero h3
      have:∀ k:Nat,(List.replicate k (#[]:Array Nat)).foldl (· ++ ·) #[] = #[]:=by
       intro k
       induction k with
       | zero=>rfl
       | succ k ih=>rw [List.replicate_succ,List.foldl_cons]; exact ih
      unfold repS
      rw [hz0,this]
      cases z
      simp at hz0
      rw [hz0]
    have:=fin t s.toks
    rw [e] at this
    exact this
   ·rw [if_neg h3]
    have hl2:∀ (k:Nat) (acc:Array Nat),((List.replicate k z.cps).foldl (· ++ ·) acc).size = acc.size + k * z.cps.size:=by
     intro k
     induction k with
     | zero=>intro acc; simp
     | succ k ih=>intro acc; rw [List.replicate_succ,List.foldl_cons,ih,Array.size_append,Nat.succ_mul]; omega
    refine ⟨?_,fin _ _⟩
    show ((List.replicate n.toNat z.cps).foldl (· ++ ·) #[]).size ≤ _
    rw [hl2]
    have:z.length = z.cps.size:=rfl
    rw [this,Nat.mul_comm] at hz
    simpa using hz
theorem op2_mulI {K:W.Frag}:Op2 K rMulI mulI:=by
 intro H B x y dx dy d Q hb rx ry h k
 cases dx <;> cases dy <;> simp only [mulI] at h <;> try cases h
 split at h
 ·rename_i hz
  cases h
  rw [rp_str] at ry
  rw [rp_int] at rx
  subst rx ry
  exact ⟨_,_,rfl,rfl,hz.1,hz.2.1,hz.2.2,k _ H (Same.refl H) (by rw [rp_str]; rfl)⟩
 ·cases h
theorem pd_mulI (ha:PD X a ga) (hb:PD X b gb):PD X (.BinOp a .Mult b pos) (o2 ga gb mulI):=pd_op op_mulI op2_mulI ha hb
end
end DL
namespace HL
open PySem PySem.SeqAt PyProof.Rows
open PySem.AutoSeq1 (wpAny_loadPart')
open PySem.MeetsSeq PySem.MeetsSeq2 PySem.MeetsSeq3
end HL
namespace DL
open PySem PySem.Spec PyProof.Rows L2
section
variable {X:Cx} {e a b c:Expr} {es:List Expr} {pos px apos cpos:Pos} {g ga gb gc:Ds → Option D} {x:Str}
end
end DL
namespace ZipL
open PySem PySem.Spec PyProof.Rows
noncomputable abbrev IsZv (h:Heap) (z TI TO:Addr) (v:Value) (f:Bool):Prop :=
 h.get? z = some { cls:=.type "zip",dict:=none,data:=.fields #[v,.bool f,.bool false,.ref TI,.ref TO],slots:=#[] }
section
variable {prog:Program} {w:World} {A:Around} {E:Value → Shared → Prop} {s:Shared}
theorem dead {a:Addr} {Q:Option Obj → Shared → Prop} (ho:s.heap.get? a = none) (h:Q none s):wpAny (model prog w) A (loadIfAlive a) Q E s:=by
 have h':Q (s.heap.get? a) s:=by rw [ho]; exact h
 exact fun _ _ _=>h'
theorem free_dead {z TI TO a:Addr} {f:Bool} {Q:Bool → Shared → Prop} (hz:IsZ s.heap z TI TO a f) (ha:s.heap.get? a = none) (hQ:Q true s):wpAny (model prog w) A (Builtin.SmallTypes.ownedTupleIsFree (.ref z)) Q E s:=by
 unfold Builtin.SmallTypes.ownedTupleIsFree
 refine wpAny_bind (wpAny_field hz rfl (x:=rawInt a) rfl ?_)
 show wpAny _ _ (loadIfAlive ((a:Int).toNat) >>= _) _ _ _
 rw [Int.toNat_natCast]
 refine wpAny_bind (dead ha ?_)
 simp only [Option.isNone_none,if_true]
 exact wpAny_pure hQ
theorem next_again {z TI TO i1 i2 l1 l2:Addr} {v0:Value} {f:Bool} {k1 k2:Nat} {xs ys:Array Value} {x y a b:Value} {Q:Value → Shared → Prop} (D:ZipApart z TI TO i1 i2 l1 l2)
  (hz:IsZv s.heap z TI TO v0 f) (hfree:∀ Q':Bool → Shared → Prop,Q' true s → wpAny (model prog w) A (Builtin.SmallTypes.ownedTupleIsFree (.ref z)) Q' E s) (hTI:IsPair s.heap TI (.ref i1) (.ref i2)) (hTO:IsPair s.heap TO a b)
  (h1:s.heap.IsListIter i1 l1 k1) (h2:s.heap.IsListIter i2 l2 k2) (hl1:s.heap.IsList l1 xs) (hl2:s.heap.IsList l2 ys) (hx:xs[k1]? = some x) (hy:ys[k2]? = some y)
  (hQ:∀ h',IsZ h' z TI TO s.heap.objs.size false → IsPair h' TO x y → h'.IsListIter i1 l1 (k1 + 1) → h'.IsListIter i2 l2 (k2 + 1) → IsPair h' s.heap.objs.size x y → h'.objs.size = s.heap.objs.size + 1 →
   (∀ c o,c ≠ z → c ≠ TO → c ≠ i1 → c ≠ i2 → s.heap.get? c = some o → h'.get? c = some o) → Q (.ref s.heap.objs.size) { s with heap:=h' }) :
  wpAny (model prog w) A (Builtin.«zip.__next__» ⟨[.ref z],[]⟩) (fun fin s'=>∃ v,fin = .done (.ret v) ∧ Q v s') E s:=by
 show wpAny _ _ (field (.ref z) 2 >>= _) _ _ _
 refine wpAny_bind (wpAny_field hz rfl (x:=.bool false) rfl ?_)
 show wpAny _ _ (field (.ref z) 3 >>= _) _ _ _
 refine wpAny_bind (wpAny_field hz rfl (x:=.ref TI) rfl ?_)
 refine wpAny_bind (wpAny_seqItems hTI rfl ?_)
 show wpAny _ _ (Builtin.SmallTypes.ownedTupleIsFree (.ref z) >>= _) _ _ _
 refine wpAny_bind (hfree _ ?_)
 simp only [if_true]
 refine wpAny_bind (wpAny_rule ?_)
 refine wpAny_bind (wpAny_field hz rfl (x:=.ref TO) rfl ?_)
 refine wpAny_bind (wpAny_setField_rec hz (by simp) fun g1 zg1 e1=>?_)
 replace zg1:IsZv g1 z TI TO .ellipsis f:=zg1
 refine wpAny_bind ?_
 simp only [List.zipIdx_cons,List.zipIdx_nil,List.forIn_cons,List.forIn_nil]
 refine wpAny_bind (wpAny_bind (wpAny_onRaise ?_))
 show wpAny _ _ (Builtin.SmallTypes.nextOf (.ref i1) >>= _) _ _ _
 refine wpAny_bind (wpAny_nextOf_list_item (h1.extBut e1.extBut D.i1z) (hl1.extBut e1.extBut D.l1z) hx fun g2 it1 e2=>wpAny_pure ?_)
 have to2:IsPair g2 TO a b:=e2.extBut _ _ D.TOi1 (e1.extBut _ _ D.TOz hTO)
 refine wpAny_bind (wpAny_seqItems to2 rfl ?_)
 refine wpAny_bind (wpAny_updateSeq_pair to2 fun g3 to3 e3=>?_)
 replace to3:IsPair g3 TO x b:=to3
 refine wpAny_bind (wpAny_letGo (wpAny_pure ?_))
 refine wpAny_bind (wpAny_bind (wpAny_onRaise ?_))
 show wpAny _ _ (Builtin.SmallTypes.nextOf (.ref i2) >>= _) _ _ _
 refine wpAny_bind (wpAny_nextOf_list_item (((h2.extBut e1.extBut D.i2z).extBut e2.extBut D.i12.symm).extBut e3.extBut D.TOi2.symm) (((hl2.extBut e1.extBut D.l2z).extBut e2.extBut D.l2i1).extBut e3.extBut D.l2TO) hy fun g4 it2 e4=>wpAny_pure ?_)
 have to4:IsPair g4 TO x b:=e4.extBut _ _ D.TOi2 to3
 refine wpAny_bind (wpAny_seqItems to4 rfl ?_)
 refine wpAny_bind (wpAny_updateSeq_pair to4 fun g5 to5 e5=>?_)
 replace to5:IsPair g5 TO x y:=to5
 refine wpAny_bind (wpAny_letGo (wpAny_pure (wpAny_pure ?_)))
 refine wpAny_bind (wpAny_seqItems to5 rfl ?_)
 refine wpAny_bind (wpAny_newTuple (hsz:=by show 2 ≤ sizeLine; decide) ?_)
 have sz:g5.objs.size = s.heap.objs.size:=by rw [e5.1,e4.1,e3.1,e2.1,e1.1]
 have z5:IsZv g5 z TI TO .ellipsis f:=e5.extBut _ _ D.TOz.symm (e4.extBut _ _ D.i2z.symm (e3.extBut _ _ D.TOz.symm (e2.extBut _ _ D.i1z.symm zg1)))
 have keep:∀ c o,c ≠ z → c ≠ TO → c ≠ i1 → c ≠ i2 → s.heap.get? c = some o → g5.get? c = some o:=fun c o c1 c2 c3 c4 e=>e5.extBut _ _ c2 (e4.extBut _ _ c4 (e3.extBut _ _ c2 (e2.extBut _ _ c3 (e1.extBut _ _ c1 e))))
 have j1:g5.IsListIter i1 l1 (k1 + 1):=((it1.extBut e3.extBut D.TOi1.symm).extBut e4.extBut D.i12).extBut e5.extBut D.TOi1.symm
 have j2:g5.IsListIter i2 l2 (k2 + 1):=it2.extBut e5.extBut D.TOi2.symm
 have lz:z < g5.objs.size:=Heap.lt_size z5
 show wpAny _ _ (Builtin.SmallTypes.ownedTupleHandOut (.ref z) (.ref g5.objs.size) >>= _) _ _ _
 refine wpAny_bind ?_
 unfold Builtin.SmallTypes.ownedTupleHandOut
 have z6:IsZv (g5.push { cls:=.type "tuple",data:=.seq #[x,y] }) z TI TO .ellipsis f:=Heap.get?_push_of_some _ z5
 refine wpAny_bind (wpAny_setField_rec z6 (by simp) fun g7 z7 e7=>?_)
 replace z7:IsZv g7 z TI TO (rawInt g5.objs.size) f:=z7
 refine wpAny_setField_rec z7 (by simp) fun g8 z8 e8=>?_
 replace z8:IsZ g8 z TI TO g5.objs.size false:=z8
 have up:∀ c o,c ≠ z → g5.get? c = some o → g8.get? c = some o:=fun c o c1 e=>e8.extBut _ _ c1 (e7.extBut _ _ c1 (Heap.get?_push_of_some _ e))
 have t8:IsPair g8 g5.objs.size x y:=e8.extBut _ _ (Nat.ne_of_gt lz) (e7.extBut _ _ (Nat.ne_of_gt lz) (Heap.get?_push_size _ rfl))
 have s8:g8.objs.size = g5.objs.size + 1:=by rw [e8.1,e7.1,Heap.size_push]
 rw [sz] at z8 t8 s8
 refine wpAny_pure ⟨_,rfl,?_⟩
 show Q (.ref g5.objs.size) _
 rw [sz]
 exact hQ g8 z8 (up _ _ D.TOz to5) (j1.at fun o e=>up _ o D.i1z e) (j2.at fun o e=>up _ o D.i2z e) t8 s8 fun c o c1 c2 c3 c4 e=>up c o c1 (keep c o c1 c2 c3 c4 e)
theorem end_again {z TI TO i1 i2 l1 l2:Addr} {v0:Value} {f:Bool} {k1 k2:Nat} {xs ys:Array Value} {a b:Value} {Q:Fin → Shared → Prop} (hh:A.handled = none) (D:ZipApart z TI TO i1 i2 l1 l2)
  (hz:IsZv s.heap z TI TO v0 f) (hfree:∀ Q':Bool → Shared → Prop,Q' true s → wpAny (model prog w) A (Builtin.SmallTypes.ownedTupleIsFree (.ref z)) Q' E s) (hTI:IsPair s.heap TI (.ref i1) (.ref i2)) (hTO:IsPair s.heap TO a b)
  (h1:s.heap.IsListIter i1 l1 k1) (h2:s.heap.IsListIter i2 l2 k2) (hl1:s.heap.IsList l1 xs) (hl2:s.heap.IsList l2 ys) (hend:xs[k1]? = none ∨ ys[k2]? = none)
  (hE:∀ h' e,(∀ c o,c ≠ z → c ≠ TO → c ≠ i1 → c ≠ i2 → s.heap.get? c = some o → h'.get? c = some o) → (∃ o,h'.get? e = some o ∧ o.cls = .type "StopIteration") → E (.ref e) { s with heap:=h' }) :
  wpAny (model prog w) A (Builtin.«zip.__next__» ⟨[.ref z],[]⟩) Q E s:=by
 show wpAny _ _ (field (.ref z) 2 >>= _) _ _ _
 refine wpAny_bind (wpAny_field hz rfl (x:=.bool false) rfl ?_)
 show wpAny _ _ (field (.ref z) 3 >>= _) _ _ _
 refine wpAny_bind (wpAny_field hz rfl (x:=.ref TI) rfl ?_)
 refine wpAny_bind (wpAny_seqItems hTI rfl ?_)
 show wpAny _ _ (Builtin.SmallTypes.ownedTupleIsFree (.ref z) >>= _) _ _ _
 refine wpAny_bind (hfree _ ?_)
 simp only [if_true]
 refine wpAny_bind (wpAny_rule ?_)
 refine wpAny_bind (wpAny_field hz rfl (x:=.ref TO) rfl ?_)
 refine wpAny_bind (wpAny_setField_rec hz (by simp) fun g1 zg1 e1=>?_)
 replace zg1:IsZv g1 z TI TO .ellipsis f:=zg1
 refine wpAny_bind ?_
 simp only [List.zipIdx_cons,List.zipIdx_nil,List.forIn_cons,List.forIn_nil]
 refine wpAny_bind (wpAny_bind (wpAny_onRaise ?_))
 show wpAny _ _ (Builtin.SmallTypes.nextOf (.ref i1) >>= _) _ _ _
 cases hx:xs[k1]? with
 | none =>
  refine wpAny_bind (wpAny_nextOf_list_end hh (h1.extBut e1.extBut D.i1z) (hl1.extBut e1.extBut D.l1z) hx fun g2 e e2 he=>?_)
  obtain ⟨oe,hoe,hce⟩:=he
  have z2:IsZv g2 z TI TO .ellipsis f:=e2 _ _ D.i1z.symm zg1
  have hez:e ≠ z:=fun x=>by subst x; rw [z2] at hoe; cases hoe; simp at hce
  exact wpAny_setField_rec z2 (by simp) fun g3 _ e3=>hE g3 e (fun c o c1 _ c3 _ x=>e3.extBut _ _ c1 (e2 _ _ c3 (e1.extBut _ _ c1 x))) ⟨oe,e3.extBut _ _ hez hoe,hce⟩
 | some x =>
  have hy:ys[k2]? = none:=by rcases hend with h | h; rw [hx] at h; cases h; exact h
  refine wpAny_bind (wpAny_nextOf_list_item (h1.extBut e1.extBut D.i1z) (hl1.extBut e1.extBut D.l1z) hx fun g2 it1 e2=>wpAny_pure ?_)
  have to2:IsPair g2 TO a b:=e2.extBut _ _ D.TOi1 (e1.extBut _ _ D.TOz hTO)
  refine wpAny_bind (wpAny_seqItems to2 rfl ?_)
  refine wpAny_bind (wpAny_updateSeq_pair to2 fun g3 to3 e3=>?_)
  refine wpAny_bind (wpAny_letGo (wpAny_pure ?_))
  refine wpAny_bind (wpAny_bind (wpAny_onRaise ?_))
  show wpAny _ _ (Builtin.SmallTypes.nextOf (.ref i2) >>= _) _ _ _
  refine wpAny_bind (wpAny_nextOf_list_end hh (((h2.extBut e1.extBut D.i2z).extBut e2.extBut D.i12.symm).extBut e3.extBut D.TOi2.symm) (((hl2.extBut e1.extBut D.l2z).extBut e2.extBut D.l2i1).extBut e3.extBut D.l2TO) hy fun g4 e e4 he=>?_)
  obtain ⟨oe,hoe,hce⟩:=he
  have z4:IsZv g4 z TI TO .ellipsis f:=e4 _ _ D.i2z.symm (e3.extBut _ _ D.TOz.symm (e2.extBut _ _ D.i1z.symm zg1))
  have hez:e ≠ z:=fun x=>by subst x; rw [z4] at hoe; cases hoe; simp at hce
  exact wpAny_setField_rec z4 (by simp) fun g5 _ e5=>hE g5 e (fun c o c1 c2 c3 c4 x=>e5.extBut _ _ c1 (e4 _ _ c4 (e3.extBut _ _ c2 (e2.extBut _ _ c3 (e1.extBut _ _ c1 x))))) ⟨oe,e5.extBut _ _ hez hoe,hce⟩
theorem free_none {z TI TO:Addr} {f:Bool} {Q:Bool → Shared → Prop} (hz:IsZv s.heap z TI TO .none f) (hQ:Q true s):wpAny (model prog w) A (Builtin.SmallTypes.ownedTupleIsFree (.ref z)) Q E s:=by
 unfold Builtin.SmallTypes.ownedTupleIsFree
 exact wpAny_bind (wpAny_field hz rfl (x:=.none) rfl (wpAny_pure hQ))
theorem iter_v {z TI TO:Addr} {v:Value} {f:Bool} {Q:Value → Shared → Prop} (hz:IsZv s.heap z TI TO v f) (h:Q (.ref z) s):wpAny (model prog w) A (pyIter (.ref z)) Q E s:=by
 have hT:s.TypeIs (.ref z) "zip" := ⟨_,hz,rfl⟩
 refine wpAny_pyIter_slot hT F.slot_zip_iter (wpAny_call_entry F.slot_zip_iter hT F.entry_zip_iter ?_ (F.args_zip_iter_1 _))
 exact wpAny_pure ⟨_,rfl, "zip",_,hT,F.slot_zip_next.lookup,h⟩
noncomputable def ZOwn (h:Heap) (z TI TO:Addr):Prop:=∃ v f,IsZv h z TI TO v f ∧ (v = .none ∨ ∃ a:Addr,v = rawInt a)
theorem pyNext_any {z TI TO i1 i2 l1 l2:Addr} {k1 k2:Nat} {xs ys:Array Value} {x y a b:Value} {Q:Option Value → Shared → Prop} (D:ZipApart z TI TO i1 i2 l1 l2)
  (hz:ZOwn s.heap z TI TO) (hTI:IsPair s.heap TI (.ref i1) (.ref i2)) (hTO:IsPair s.heap TO a b)
  (h1:s.heap.IsListIter i1 l1 k1) (h2:s.heap.IsListIter i2 l2 k2) (hl1:s.heap.IsList l1 xs) (hl2:s.heap.IsList l2 ys) (hx:xs[k1]? = some x) (hy:ys[k2]? = some y)
  (hQ:∀ h',ZOwn h' z TI TO → (∃ p q,IsPair h' TO p q) → h'.IsListIter i1 l1 (k1 + 1) → h'.IsListIter i2 l2 (k2 + 1) → IsPair h' s.heap.objs.size x y →
   (∀ c o,c ≠ z → c ≠ TO → c ≠ i1 → c ≠ i2 → s.heap.get? c = some o → h'.get? c = some o) → Q (some (.ref s.heap.objs.size)) { s with heap:=h' }) :
  wpAny (model prog w) A (pyNext (.ref z)) Q E s:=by
 obtain ⟨v,f,hz,hv⟩:=hz
 have hT:s.TypeIs (.ref z) "zip" := ⟨_,hz,rfl⟩
 have again:(∀ (E':Value → Shared → Prop) (A':Around) (Q':Bool → Shared → Prop),Q' true s → wpAny (model prog w) A' (Builtin.SmallTypes.ownedTupleIsFree (.ref z)) Q' E' s) → wpAny (model prog w) A (pyNext (.ref z)) Q E s:=fun hf=>by
  unfold pyNext
  exact wpAny_bind (wpAny_attempt (wpAny_callSpecial?_slot (name:=Str.ofString "__next__") hT F.slot_zip_next
   (wpAny_call_entry F.slot_zip_next hT F.entry_zip_next
    (next_again D hz (fun Q' q=>hf _ _ Q' q) hTI hTO h1 h2 hl1 hl2 hx hy fun h' a1 a2 a3 a4 a5 a6 a7=>wpAny_pure (hQ h' ⟨_,_,a1,.inr ⟨_,rfl⟩⟩ ⟨_,_,a2⟩ a3 a4 a5 a7)) (F.args_zip_next_1 _))))
 rcases hv with rfl | ⟨a0,rfl⟩
 ·exact again fun E' A' Q' q=>free_none hz q
 ·cases e:s.heap.get? a0 with
  | none=>exact again fun E' A' Q' q=>free_dead hz e q
  | some oa =>
   exact pyNext_out D hz e hTI h1 h2 hl1 hl2 hx hy fun h' b1 b2 b3 b4 b5 b6=>hQ h' ⟨_,_,b1,.inr ⟨_,rfl⟩⟩ ⟨_,_,b6 _ _ D.TOz D.TOi1 D.TOi2 hTO⟩ b2 b3 b4 fun c o c1 _ c3 c4 q=>b6 c o c1 c3 c4 q
theorem pyNext_any_end {z TI TO i1 i2 l1 l2:Addr} {k1 k2:Nat} {xs ys:Array Value} {a b:Value} {Q:Option Value → Shared → Prop} (hh:A.handled = none) (D:ZipApart z TI TO i1 i2 l1 l2)
  (hz:ZOwn s.heap z TI TO) (hTI:IsPair s.heap TI (.ref i1) (.ref i2)) (hTO:IsPair s.heap TO a b)
  (h1:s.heap.IsListIter i1 l1 k1) (h2:s.heap.IsListIter i2 l2 k2) (hl1:s.heap.IsList l1 xs) (hl2:s.heap.IsList l2 ys) (hend:xs[k1]? = none ∨ ys[k2]? = none)
  (hQ:∀ h',(∀ c o,c ≠ z → c ≠ TO → c ≠ i1 → c ≠ i2 → s.heap.get? c = some o → h'.get? c = some o) → Q none { s with heap:=h' }):wpAny (model prog w) A (pyNext (.ref z)) Q E s:=by
 obtain ⟨v,f,hz,hv⟩:=hz
 have hT:s.TypeIs (.ref z) "zip" := ⟨_,hz,rfl⟩
 have again:(∀ (E':Value → Shared → Prop) (A':Around) (Q':Bool → Shared → Prop),Q' true s → wpAny (model prog w) A' (Builtin.SmallTypes.ownedTupleIsFree (.ref z)) Q' E' s) → wpAny (model prog w) A (pyNext (.ref z)) Q E s:=fun hf=>by
  unfold pyNext
  refine wpAny_bind (wpAny_attempt (wpAny_callSpecial?_slot (name:=Str.ofString "__next__") hT F.slot_zip_next
   (wpAny_call_entry F.slot_zip_next hT F.entry_zip_next (end_again hh D hz (fun Q' q=>hf _ _ Q' q) hTI hTO h1 h2 hl1 hl2 hend fun h' e hk he=>?_) (F.args_zip_next_1 _))))
  obtain ⟨o,ho,hc⟩:=he
  refine wpAny_bind (wpAny_isInstance (T := "StopIteration") (b:=true) ⟨o,ho,hc⟩ isSubtype_stop ?_)
  exact wpAny_pure (hQ _ hk)
 rcases hv with rfl | ⟨a0,rfl⟩
 ·exact again fun E' A' Q' q=>free_none hz q
 ·cases e:s.heap.get? a0 with
  | none=>exact again fun E' A' Q' q=>free_dead hz e q
  | some oa=>exact pyNext_end_out hh D hz e hTI h1 h2 hl1 hl2 hend fun h' hk=>hQ h' fun c o c1 _ c3 c4 q=>hk c o c1 c3 c4 q
end
end ZipL
namespace L2
open PySem PySem.Spec PyProof.Rows
theorem turn_zipN {P:Program} {w:World} {K:W.Frag} {nx:Str} {pos:Pos} {z TI TO i1 i2 a b:Addr} (D:ZipApart z TI TO i1 i2 a b):Turn P w K (.Name nx pos) (Itz K a b) [z,TI,TO,i1,i2] z
  (fun i h=>ZipL.ZOwn h z TI TO ∧ IsPair h TI (.ref i1) (.ref i2) ∧ (∃ p q,IsPair h TO p q) ∧ h.IsListIter i1 a i ∧ h.IsListIter i2 b i) where
 mem:=by simp
 obj:=fun i h st c hc=>by
  obtain ⟨⟨v,f,hz,_⟩,hTI,⟨p,q,hTO⟩,⟨o1,e1,c1,d1⟩,⟨o2,e2,c2,d2⟩⟩:=st
  simp only [List.mem_cons,List.not_mem_nil,or_false] at hc
  rcases hc with rfl | rfl | rfl | rfl | rfl
  ·exact ⟨_,hz,fun v z=>nomatch z⟩
  ·exact ⟨_,hTI,fun v z=>nomatch z⟩
  ·exact ⟨_,hTO,fun v z=>nomatch z⟩
  ·exact ⟨_,e1,fun v z=>by rw [d1] at z; cases z⟩
  ·exact ⟨_,e2,fun v z=>by rw [d2] at z; cases z⟩
 keep:=fun i h h' st k=>by
  obtain ⟨⟨v,f,hz,hv⟩,hTI,⟨p,q,hTO⟩,h1,h2⟩:=st
  exact ⟨⟨v,f,k z (by simp) _ hz,hv⟩,k TI (by simp) _ hTI,⟨p,q,k TO (by simp) _ hTO⟩,h1.at fun o e=>k i1 (by simp) o e,h2.at fun o e=>k i2 (by simp) o e⟩
 item:=by
  intro X hP hw hK hc i pins s σ H E I hf st hg
  subst hP hw hK
  obtain ⟨hz,hTI,⟨p,q,hTO⟩,h1,h2⟩:=st
  obtain ⟨xs,ys,x,y,hq1,hq2,hx,hy⟩:=hg
  obtain ⟨us,rv1,p1,z1⟩:=I.list hq1
  obtain ⟨ws,rv2,p2,z2⟩:=I.list hq2
  obtain ⟨u,hu,ru⟩:=rv1.get hx
  obtain ⟨w,hw,rw'⟩:=rv2.get hy
  refine ZipL.pyNext_any D hz hTI hTO h1 h2 p1.isList p2.isList (x:=u) (y:=w) (by simpa using hu) (by simpa using hw) fun h' a1 a2 a3 a4 a5 hk=>?_
  refine ⟨_,rfl,?_⟩
  unfold letOwnedTupleGo
  refine wpAny_pure ?_
  have lt:∀ {c o},s.heap.get? c = some o → c < s.heap.objs.size:=fun e=>Heap.lt_size e
  obtain ⟨v0,f0,hz0,_⟩:=id hz
  have lz:=lt hz0
  have lTO:=lt hTO
  have lTI:=lt hTI
  obtain ⟨o1,e1,_⟩:=id h1
  obtain ⟨o2,e2,_⟩:=id h2
  have l1:=lt e1
  have l2:=lt e2
  obtain ⟨I1,fr⟩:=I.turnedNew (h':=h') (t':=s.toks) (fp:=[z,TI,TO,i1,i2]) hf ru rw' (fun c hc=>by
   simp only [List.mem_cons,List.not_mem_nil,or_false] at hc
   rcases hc with rfl | rfl | rfl | rfl | rfl <;> assumption) a5 (fun c o hc e=>by
   simp only [List.mem_cons,List.not_mem_nil,or_false,not_or] at hc
   exact hk c o hc.1 hc.2.2.1 hc.2.2.2.1 hc.2.2.2.2 e)
  exact ⟨.ref s.heap.objs.size,_,I1,rfl,⟨_,x,y,rfl,I.hok.fresh (Nat.le_refl _),rfl,fun ys hy'=>by rw [I.list_inj hy' hq1]; exact hx,fun ys' hy'=>by rw [I.list_inj hy' hq2]; exact hy⟩,
   ⟨a1,hk _ _ D.TIz D.TITO D.TIi1 D.TIi2 hTI,a2,a3,a4⟩,fr⟩
 done:=by
  intro X hP hw hK hc i pins s σ H E I hf st hg
  subst hP hw hK
  obtain ⟨hz,hTI,⟨p,q,hTO⟩,h1,h2⟩:=st
  obtain ⟨xs,ys,hq1,hq2,hend⟩:=hg
  obtain ⟨us,rv1,p1,z1⟩:=I.list hq1
  obtain ⟨ws,rv2,p2,z2⟩:=I.list hq2
  have l1:=rv1.length
  have l2:=rv2.length
  refine ZipL.pyNext_any_end (I.ok.hd hc) D hz hTI hTO h1 h2 p1.isList p2.isList (hend.imp (fun h=>by simp; omega) fun h=>by simp; omega) fun h' hk=>⟨rfl,I.turnedL (t':=s.toks) (fp:=[z,TI,TO,i1,i2]) hf fun c o hc e=>?_⟩
  simp only [List.mem_cons,List.not_mem_nil,or_false,not_or] at hc
  exact hk c o hc.1 hc.2.2.1 hc.2.2.2.1 hc.2.2.2.2 e
 self:=fun _ _ _ _ _ st h=>by
  obtain ⟨⟨v,f,hz,_⟩,_⟩:=st
  exact ZipL.iter_v hz h
section
variable {X:Cx} {nx:Str} {tpos:Pos}
theorem pi_zipN {a b:Expr} {ta:TA} {p pos:Pos} (hg:Gl X "zip") (hm:X.mg "zip" = none) (ha:PA X [a,b] ta) (hs:starEach [a,b] X.env = [(false,eval a X.env),(false,eval b X.env)]:=by rfl) (hs2:starEach [b] X.env = [(false,eval b X.env)]:=by rfl) :
  PI X (.Name nx tpos) (.Call (.Name "zip" p) [a,b] [] pos) (iZip X.K ta):=by
 intro pins s σ H R I h
 refine Call_ (ld_blt I hg hm boot_zip (PyProof.Rows.callWith_type1 (thn (ha pos pins s σ H _ I h) fun us s1 ⟨vs,H1,I1,r1,q1⟩=>?_) (by rw [hs,hs2]) (by rw [hs2]; rfl)))
 obtain ⟨qa,qb,e,⟨xs,h1⟩,⟨ys,h2⟩,q⟩:=q1
 subst e
 cases r1 with
 | cons r rr =>
  cases rr with
  | cons r' rr =>
   cases rr
   obtain rfl:=r
   obtain rfl:=r'
   obtain ⟨us1,v1,p1,z1⟩:=I1.list h1
   obtain ⟨us2,v2,p2,z2⟩:=I1.list h2
   have a1:qa < s1.heap.objs.size:=by obtain ⟨_,e,_⟩:=p1.isList; exact Heap.lt_size e
   have a2:qb < s1.heap.objs.size:=by obtain ⟨_,e,_⟩:=p2.isList; exact Heap.lt_size e
   refine call_zip_2 p1.isList p2.isList fun h' hz hTI hTO hi1 hi2 hsz hk=>?_
   refine wpAny_pyIter_zip (s:={ s1 with heap:=h' }) hz ?_
   refine ⟨_,_,_,_,H1,rfl,I1.kept (t':=s1.toks) hk,turn_zipN (zipApart_new a1 a2),⟨⟨_,_,hz,.inl rfl⟩,hTI,⟨_,_,hTO⟩,hi1,hi2⟩,fun b hb=>?_,q⟩
   simp only [List.mem_cons,List.not_mem_nil,or_false] at hb
   rcases hb with rfl | rfl | rfl | rfl | rfl
   ·exact I1.fpOk (Nat.le_add_right _ 4) (I1.hok.fresh (Nat.le_add_right _ 4))
   ·exact I1.fpOk (Nat.le_add_right _ 2) (I1.hok.fresh (Nat.le_add_right _ 2))
   ·exact I1.fpOk (Nat.le_add_right _ 3) (I1.hok.fresh (Nat.le_add_right _ 3))
   ·exact I1.fpOk (Nat.le_refl _) (I1.hok.fresh (Nat.le_refl _))
   ·exact I1.fpOk (Nat.le_add_right _ 1) (I1.hok.fresh (Nat.le_add_right _ 1))
end
end L2
namespace DL
open PySem PySem.Spec PyProof.Rows L2
section
variable {X:Cx} {nx:Str} {tpos:Pos} {a b:Expr} {p pos:Pos} {gA:Ds → Option (List D)}
theorem pid_zipN (hm:X.mg "zip" = none) (ha:PDA X [a,b] gA) (hg:Gl X "zip" := by rfl) (hs:starEach [a,b] X.env = [(false,eval a X.env),(false,eval b X.env)]:=by rfl) (hs2:starEach [b] X.env = [(false,eval b X.env)]:=by rfl) :
  PID X (.Name nx tpos) (.Call (.Name "zip" p) [a,b] [] pos) (zipI gA):=.mk fun B δ=>L2.PI.imp (pi_zipN hg hm (ha B δ) hs hs2) fun σ H R ⟨items,en,e1,k⟩=>by
 unfold zipI at e1
 cases e2:gA δ with
 | none=>rw [e2] at e1; cases e1
 | some ds =>
  rw [e2] at e1
  simp only [Option.bind_some] at e1
  unfold zipLD at e1
  split at e1 <;> try cases e1
  rename_i ds es
  refine ⟨_,en,e2,fun vs H' s' r=>?_⟩
  rw [rps_cons] at r
  obtain ⟨x,t,rfl,r1,r⟩:=r
  rw [rps_cons] at r
  obtain ⟨y,t,rfl,r2,r⟩:=r
  rw [rps_nil] at r; subst r
  rw [rp_lst] at r1 r2
  obtain ⟨q1,us,rfl,s1,t1⟩:=r1
  obtain ⟨q2,ws,rfl,s2,t2⟩:=r2
  have hlen:((ds.zip es).map fun p=>D.tup [p.1,p.2]).length = min us.length ws.length:=by rw [List.length_map,List.length_zip,t1.length,t2.length]
  refine ⟨q1,q2,rfl,⟨us,s1.to⟩,⟨ws,s2.to⟩,k _ H' s' ⟨fun i H2 g2 hi=>?_,fun i H2 v H3 g2 y hi=>?_,fun i H2 g2 hi=>?_⟩⟩
  ·rw [hlen] at hi
   have h1:i < us.length:=by omega
   have h2:i < ws.length:=by omega
   exact ⟨us,ws,us[i],ws[i],(s1.mono g2).to,(s2.mono g2).to,by simp [h1],by simp [h2]⟩
  ·obtain ⟨t,x,y,rfl,ht,rfl,hx,hy⟩:=y
   rw [List.length_map,List.length_zip] at hi
   have h1:i < ds.length:=by omega
   have h2:i < es.length:=by omega
   obtain ⟨x',e4,rx⟩:=t1.get (i:=i) (List.getElem?_eq_getElem h1)
   obtain ⟨y',e5,ry⟩:=t2.get (i:=i) (List.getElem?_eq_getElem h2)
   have ex:=hx us (s1.mono g2).to
   have ey:=hy ws (s2.mono g2).to
   rw [e4] at ex
   rw [e5] at ey
   cases ex
   cases ey
   refine ⟨same_upd ht,.tup [ds[i],es[i]],by rw [List.getElem?_map,show (ds.zip es)[i]? = some (ds[i],es[i]) from List.getElem?_zip_eq_some.mpr ⟨List.getElem?_eq_getElem h1,List.getElem?_eq_getElem h2⟩]; rfl,fun B' gB hb=>?_⟩
   exact rp_pair (fun z=>hb t z ht) upd_same (rx.mono gB) (ry.mono gB)
  ·rw [hlen] at hi
   exact ⟨us,ws,(s1.mono g2).to,(s2.mono g2).to,by omega⟩
end
end DL
namespace L2
open PySem PySem.Spec PyProof.Rows
section
variable {X:Cx} {pins:List (Addr × Obj)} {σ:List (Option V)} {A:Around} {E:Value → Shared → Prop}
theorem d_rawPut {s:Shared} {H:Hp} {d b:Addr} {kvs:List (List Key × V)} {k:List Key} {v:V} {r:Value} {Q:Unit → Shared → Prop} (hu:A.units + 1 < cLine) (I:Inv X pins σ H s) (e:H d = some (.dT kvs)) (eb:H b = some (.tup (k.map kV))) (l:kvs.length < sizeLine) (rv:RelV v r)
  (h:∀ h' tk,Inv X pins σ (upd H d (.dT (putK kvs k v))) { s with heap:=h',toks:=tk } → Heap.SameBut d s.heap h' → Q () { s with heap:=h',toks:=tk }) :
  wpAny (model X.prog X.w) A.in1 (dictSet d (.ref b) r) Q E s:=by
 obtain ⟨z,hd,xs,rel,dd⟩:=dt_of I.hok e
 have hz:xs.length ≤ sizeLine:=by rw [← Paired.length rel]; exact z
 have hl:(putK kvs k v).length ≤ sizeLine:=by have:=length_putK kvs k v; omega
 refine wpAny_dictSet_heap (hsz:=hz) (knd:=tupleKind (mixKind X.prog X.w)) (tupleKind_room_in1 hu) (key_of I.hok eb) dd fun h' dd' hs=>h _ _ ?_ hs
 obtain ⟨q,es,ep,hq,h2,h3,h4,_,h5⟩:=dd'
 refine d_write I (by rw [e]; exact True.intro) hs ⟨q,hq⟩ ⟨hl,hd,_,(rel.put k eb rv).keeps fun c ys ec=>?_,q,es,ep,hq,h2,h3,h4,h5⟩
 rw [upd_ne (ne_of ec e (fun z=>nomatch z))]
 exact ec
structure PKV where
 p:Addr
 b:Addr
 k:List Key
 v:V
noncomputable def PKV.ok (H:Hp) (x:PKV):Prop:=H x.p = some (.tup [.ref x.b,x.v]) ∧ H x.b = some (.tup (x.k.map kV))
noncomputable def putAll (kvs:List (List Key × V)) (ps:List PKV):List (List Key × V):=ps.foldl (fun acc x=>putK acc x.k x.v) kvs
theorem plain_ul:plainId "dict.update.loop" = true:=by decide +kernel
theorem entry_ul:entryFor table "dict.update.loop" = some Builtin.«dict.update.loop»:=entryFor_of_fast (by kernel_rfl)
theorem dict_loop {it l d:Addr} (hh:A.handled = none) (hu:A.units + 1 < cLine) {R:Result → Shared → Prop} {ps:List PKV} (n:Nat):∀ (i:Nat) (s:Shared) (H:Hp) (kvs:List (List Key × V)),ps.length - i = n → i ≤ ps.length → Inv X pins σ H s → FpOk X pins H it → it ≠ d → it ≠ l → s.heap.IsListIter it l i →
  SqL X.K H l (ps.map fun x=>V.ref x.p) → (∀ x ∈ ps,x.ok H) → H d = some (.dT kvs) → kvs.length + (ps.length - i) ≤ sizeLine →
  (∀ s',Inv X pins σ (upd H d (.dT (putAll kvs (ps.drop i)))) s' → R (.ok (.ret .none)) s') →
  wpAny (model X.prog X.w) A.in1 (Builtin.«dict.update.loop» ⟨[.ref d,.ref it,rawInt i,.none],[]⟩) (fun fin s'=>match fin with | .done f=>R (.ok f) s' | .again c'=>c'.quiet = true ∧ codeAny (model X.prog X.w) A c' R s') (fun e s'=>R (.error e) s') s:=by
 induction n with
 | zero =>
  intro i s H kvs hn hi I hf hid hil hit hl hp hd hz hR
  obtain ⟨its,rv,pl,_⟩:=I.list hl
  have hlen:=rv.length
  rw [List.length_map] at hlen
  unfold Builtin.«dict.update.loop»
  refine wpAny_bind (wpAny_pyNext_list_end hh hit pl.isList (by simp; omega) fun h' hk=>?_)
  have I1:Inv X pins σ H { s with heap:=h' }:=I.turnedL (t':=s.toks) (fp:=[it]) (fun b hb=>by rw [List.mem_singleton.mp hb]; exact hf) fun b o hb e=>hk _ _ (fun z=>hb (by simp [z])) e
  have e:ps.drop i = []:=by rw [List.drop_eq_nil_iff]; omega
  rw [e] at hR
  have:=hR _ (show Inv X pins σ (upd H d (.dT (putAll kvs []))) { s with heap:=h' } from by
   rw [show upd H d (.dT (putAll kvs [])) = H from by funext c; by_cases q:c = d <;> simp [upd,q,putAll,hd]]
   exact I1)
  exact wpAny_bind (wpAny_pure (wpAny_pure this))
 | succ n ih =>
  intro i s H kvs hn hi I hf hid hil hit hl hp hd hz hR
  obtain ⟨its,rv,pl,_⟩:=I.list hl
  have hlt:i < ps.length:=by omega
  obtain ⟨x,hx⟩:∃ x,ps[i]? = some x:=⟨ps[i],by simp [hlt]⟩
  have hxm:x ∈ ps:=List.mem_of_getElem? hx
  obtain ⟨hx1,hx2⟩:=hp x hxm
  obtain ⟨u,hu1,ru⟩:=rv.get (show (ps.map fun x=>V.ref x.p)[i]? = some (.ref x.p) by rw [List.getElem?_map,hx]; rfl)
  cases (show u = Value.ref x.p from ru)
  unfold Builtin.«dict.update.loop»
  refine wpAny_bind (wpAny_pyNext_list_item hit pl.isList (by simpa using hu1) fun h' hit' hs=>?_)
  have I1:Inv X pins σ H { s with heap:=h' }:=I.turnedL (t':=s.toks) (fp:=[it]) (fun b hb=>by rw [List.mem_singleton.mp hb]; exact hf) fun b o hb e=>hs.extBut _ _ (fun z=>hb (by simp [z])) e
  obtain ⟨its2,rv2,ip,_⟩:=I1.tuple (SqT.of hx1)
  cases rv2 with
  | cons r1 rr =>
   cases rr with
   | cons r2 rr =>
    cases rr
    cases r1
    obtain ⟨o,ho,hc,nn,hdat⟩:=id ip
    rename_i rv0
    refine wpAny_bind (wpAny_holding ?_)
    refine wpAny_bind (wpAny_tryCatch ?_)
    unfold Builtin.Dict.pairItems
    refine wpAny_bind (wpAny_typeOf (show Shared.TypeIs _ (.ref x.p) "tuple" from ⟨o,ho,hc⟩) ?_)
    rw [if_pos (by decide)]
    refine wpAny_bind (wpAny_seqItems ho hdat (wpAny_pure ?_))
    show wpAny _ _ (holding [.ref x.b,rv0] (dictSet d (.ref x.b) rv0)) _ _ _
    refine wpAny_holding (d_rawPut (A:=A) hu I1 hd hx2 (by omega) r2 fun h2 tk I2 hs2=>?_)
    have hpd:∀ (c:Addr) (us:List V),H c = some (.tup us) → upd H d (.dT (putK kvs x.k x.v)) c = some (.tup us):=fun c us ec=>by
     rw [upd_ne (ne_of ec hd (fun z=>nomatch z))]; exact ec
    have hc':((i:Int) + 1) = ((i + 1:Nat):Int):=by push_cast; rfl
    refine wpAny_pure ⟨plainId_quiet plain_ul _,?_⟩
    rw [hc']
    refine codeAny_builtin entry_ul ?_
    rw [Around.under_plainId plain_ul _]
    have hdl:l ≠ d ∨ True:=.inr trivial
    refine ih (i + 1) _ (upd H d (.dT (putK kvs x.k x.v))) (putK kvs x.k x.v) (by omega) (by omega) I2 ⟨by rw [upd_ne hid]; exact hf.1,hf.2⟩ hid hil (hit'.extBut hs2.extBut hid) ?_ (fun y hy=>⟨hpd _ _ (hp y hy).1,hpd _ _ (hp y hy).2⟩) upd_same (by have:=length_putK kvs x.k x.v; omega) fun s' I'=>hR s' ?_
    ·rcases hl with (hl | ⟨o',hl⟩) | hl
     ·exact .inl (.inl (by rw [upd_ne (ne_of hl hd (fun z=>nomatch z))]; exact hl))
     ·exact .inl (.inr ⟨o',by rw [upd_ne (ne_of hl hd (fun z=>nomatch z))]; exact hl⟩)
     ·exact .inr hl
    ·have e1:upd (upd H d (.dT (putK kvs x.k x.v))) d (.dT (putAll (putK kvs x.k x.v) (ps.drop (i + 1)))) = upd H d (.dT (putAll kvs (ps.drop i))):=by
      have e2:ps.drop i = x :: ps.drop (i + 1):=by
       rw [List.drop_eq_getElem_cons hlt]
       have:ps[i] = x:=by
        have:=hx
        rw [List.getElem?_eq_getElem hlt] at this
        exact Option.some.inj this
       rw [this]
      rw [e2]
      funext c
      by_cases q:c = d <;> simp [upd,q,putAll]
     rw [← e1]
     exact I'
end
theorem miss_keys:typeLookup (.type "list") "keys" = pure none:=by rw [typeLookup_type,builtinLookup_eq_fast]; kernel_rfl
theorem keys_none {prog:Program} {w:World} {A:Around} {E:Value → Shared → Prop} {s:Shared} {a:Addr} {o:Obj} {xs:Array Value} {k:Nat} {Q:Option Value → Shared → Prop}
  (hx:s.heap.get? a = some o) (hc:o.cls = .type "list") (hdat:o.data = .seq xs k) (hd:o.dict = none) (hA:A.handled = none)
  (h:∀ h' tk,(∀ b ob,s.heap.get? b = some ob → h'.get? b = some ob) → Q none { s with heap:=h',toks:=tk }) :
  wpAny (model prog w) A (getAttr? (.ref a) "keys") Q E s:=by
 obtain ⟨c,dct,dat,sl⟩:=o
 simp only at hc hdat hd
 subst hc hdat hd
 obtain ⟨hp,g,d,tk,os⟩:=s
 have hT:∀ tk',(⟨hp,g,d,tk',os⟩:Shared).TypeIs (.ref a) "list" := fun _=>⟨_,hx,rfl⟩
 have f1:=sub_AttributeError
 have f3:=PySem.F.slot_list_getattribute.lookup
 have f4:=PySem.F.slot_list_getattribute.bind (.ref a)
 have f5:=am_list_getattr_none
 unfold getAttr? getAttrBy? getAttrBy
 repeat (any_goals (first | assumption | exact hT _ | ((with_reducible show wpAny _ _ (call (Value.builtin "list.__getattribute__") _ _) _ _ _); refine call_meets PySem.F.slot_list_getattribute (hT _) am_entry_list_getattribute (PySem.F.args_list_getattribute_2 _ _) (meets_getattribute_miss_list a xs k sl "keys" _ miss_keys (by decide +kernel)) ⟨hx,hA,fun h' tk' e hx'=>?_⟩) | wp_step))
 obtain ⟨t',u',he⟩:=hx'.there
 show wpAny _ _ (getattributeRaised _ _ _ _ _ _ _) _ _ _
 unfold getattributeRaised
 repeat (any_goals (first | assumption | wp_step))
 exact h _ _ hx'.keeps
noncomputable def rDictP (K:W.Frag):List V → Hp → VK → Prop:=fun vs H Q=>∃ l ps,vs = [.ref l] ∧ SqL K H l (ps.map fun x:PKV=>V.ref x.p) ∧ (∀ x ∈ ps,x.ok H) ∧ ps.length ≤ sizeLine ∧ ∀ d,H d = none → Q (.ref d) (upd H d (.dT (putAll [] ps)))
theorem call_dictP {X:Cx} (hu:X.A.units + 2 < cLine) (hcalm:X.calm = true:=by rfl):CallR X (.type "dict") (rDictP X.K):=by
 intro pins s σ H vs us Q I r h
 obtain ⟨l,ps,rfl,hl,hp,hz,k⟩:=h
 cases r with
 | cons r rr =>
  cases rr
  obtain rfl:=r
  have hb:sysModules < s.heap.objs.size:=Nat.lt_trans (by decide) ((I.mod.glob.keeps I.bk).lt:mainGlobals < s.heap.objs.size)
  have hf:H s.heap.objs.size = none:=I.hok.fresh (Nat.le_refl _)
  refine callType_codes (Q₁:=fun obj s₁=>obj = .ref s.heap.objs.size ∧ s₁ = { s with heap:=s.heap.push { cls:=.type "dict",data:=.dict #[] } }) PySem.F.kt_called_dict (PySem.F.kt_typeCall_dict_1 _) PySem.F.entry_dict_init (kt_code_dict_new _ ⟨rfl,rfl⟩) ?_
  rintro obj s₁ ⟨rfl,rfl⟩
  have I1:Inv X pins σ (upd H s.heap.objs.size (.dT [])) { s with heap:=s.heap.push { cls:=.type "dict",data:=.dict #[] } }:=I.laid (a:=s.heap.objs.size) (o:=.dT []) (t':=s.toks) (fun _ _ q=>Heap.get?_push_of_some _ q) (Nat.le_refl _) (dt_empty s.heap hb)
  have hT:Shared.TypeIs { s with heap:=s.heap.push { cls:=.type "dict",data:=.dict #[] } } (.ref s.heap.objs.size) "dict" := ⟨_,Heap.get?_push_size _ rfl,rfl⟩
  have hdne:∀ (c:Addr) (o:HO),H c = some o → upd H s.heap.objs.size (.dT []) c = some o:=fun c o e=>by rw [upd_ne (ne_of_none e hf)]; exact e
  have hl1:SqL X.K (upd H s.heap.objs.size (.dT [])) l (ps.map fun x:PKV=>V.ref x.p):=by
   rcases hl with (hl | ⟨o',hl⟩) | hl
   ·exact .inl (.inl (hdne _ _ hl))
   ·exact .inl (.inr ⟨o',hdne _ _ hl⟩)
   ·exact .inr hl
  obtain ⟨its,rv,⟨ol,nl,hol,hcl,hdl,hdat⟩,_⟩:=I1.list hl1
  refine ⟨hT,PySem.F.args_dict_init_2 _ _,?_⟩
  unfold Builtin.«dict.__init__»
  refine wpAny_bind ?_
  unfold Builtin.Dict.selfAndRest
  refine wpAny_bind (wpAny_notOrdered_dict hT ?_)
  show wpAny _ _ (pure (s.heap.objs.size,[Value.ref l])) _ _ _
  refine wpAny_pure ?_
  show wpAny _ _ (Builtin.Dict.updateFrom "dict.__init__" s.heap.objs.size (.ref l) [] .none) _ _ _
  unfold Builtin.Dict.updateFrom
  refine wpAny_bind (wpAny_typeOf (show Shared.TypeIs _ (.ref l) "list" from ⟨ol,hol,hcl⟩) ?_)
  rw [if_pos (by decide)]
  refine wpAny_bind (keys_none hol hcl hdat hdl (I.ok.hd hcalm) fun h1 tk1 k1=>?_)
  simp only [Option.isNone_none,if_true]
  have I2:Inv X pins σ (upd H s.heap.objs.size (.dT [])) { s with heap:=h1,toks:=tk1 }:=I1.kept (t':=tk1) k1
  obtain ⟨its2,rv2,pl2,_⟩:=I2.list hl1
  refine wpAny_bind (wpAny_rule (wpAny_bind (wpAny_pyIter_list (s:={ s with heap:=h1,toks:=tk1 }) pl2.isList ?_)))
  refine wpAny_pure ⟨plainId_quiet plain_ul _,codeAny_builtin entry_ul ?_⟩
  rw [Around.under_plainId plain_ul _]
  have I3:Inv X pins σ (upd H s.heap.objs.size (.dT [])) { s with heap:=h1.push { cls:=.type "list_iterator",data:=.fields #[.ref l,.int 0 0] },toks:=tk1 }:=I2.kept (t':=tk1) fun b o e=>Heap.get?_push_of_some _ e
  have lts:s.heap.objs.size < h1.objs.size:=Heap.lt_size (k1 _ _ (Heap.get?_push_size _ rfl))
  have hln:h1.objs.size ≠ l:=by
   obtain ⟨ol2,nl2,hol2,_⟩:=pl2
   exact Nat.ne_of_gt (Heap.lt_size hol2)
  have hfr:upd H s.heap.objs.size (.dT []) h1.objs.size = none:=I2.hok.fresh (Nat.le_refl _)
  refine dict_loop (X:=X) (pins:=pins) (σ:=σ) (A:=X.A.in1) (it:=h1.objs.size) (l:=l) (d:=s.heap.objs.size) (ps:=ps) (I.ok.hd hcalm) (show X.A.units + 1 + 1 < cLine by omega) ps.length 0 _ _ [] (by omega) (Nat.zero_le _) I3 (I2.fpOk (Nat.le_refl _) hfr) (Nat.ne_of_gt lts) hln ?_ hl1 (fun x hx=>⟨hdne _ _ (hp x hx).1,hdne _ _ (hp x hx).2⟩) upd_same (by simpa using hz) fun s' I'=>⟨rfl,?_⟩
  ·exact ⟨_,Heap.get?_push_size _ rfl,rfl,rfl⟩
  ·refine ⟨.ref s.heap.objs.size,_,I',rfl,?_⟩
   have e:upd (upd H s.heap.objs.size (.dT [])) s.heap.objs.size (.dT (putAll [] (ps.drop 0))) = upd H s.heap.objs.size (.dT (putAll [] ps)):=by
    funext c
    by_cases q:c = s.heap.objs.size <;> simp [upd,q]
   rw [e]
   exact k _ hf
end L2
namespace DL
open PySem PySem.Spec PyProof.Rows L2
noncomputable def dictPF:List (List KeyD) → List D → List D → Option (List (List KeyD) × List D)
 | ks,vs,[]=>some (ks,vs)
 | ks,vs,.tup [a,b] :: r=>(asKeyT a).bind fun k=>dictPF (putKs ks k) (putDs ks vs k b) r
 | _,_,_=>none
noncomputable def dictPD:List D → Option D
 | [.lst ds]=>if ds.length ≤ sizeLine then (dictPF [] [] ds).map fun r=>.dct (.inr r.1) r.2 else none
 | _=>none
section
variable {K:W.Frag} {H:Hp} {B:BS}
theorem dictPF_cons {ks:List (List KeyD)} {vs:List D} {d:D} {ds:List D} {r:List (List KeyD) × List D} (e:dictPF ks vs (d :: ds) = some r):∃ a b k,d = .tup [a,b] ∧ asKeyT a = some k ∧ dictPF (putKs ks k) (putDs ks vs k b) ds = some r:=by
 cases d with
 | tup l =>
  match l,e with
  | [],e=>simp [dictPF] at e
  | [_],e=>simp [dictPF] at e
  | [a,b],e =>
   unfold dictPF at e
   cases h:asKeyT a with
   | none=>rw [h] at e; cases e
   | some k=>rw [h] at e; exact ⟨a,b,k,rfl,h,e⟩
  | _ :: _ :: _ :: _,e=>simp [dictPF] at e
 | non=>simp [dictPF] at e
 | bl _=>simp [dictPF] at e
 | int _=>simp [dictPF] at e
 | str _=>simp [dictPF] at e
 | lst _=>simp [dictPF] at e
 | dct _ _=>simp [dictPF] at e
theorem dictPF_rel:∀ {ds:List D} {xs:List V} {ks:List (List KeyD)} {vs:List D} {ws:List V} {r:List (List KeyD) × List D},Rps K H B ds xs → Rps K H B vs ws → ks.length = ws.length → dictPF ks vs ds = some r →
  ∃ ps:List PKV,xs = ps.map (fun x=>V.ref x.p) ∧ (∀ x ∈ ps,x.ok H) ∧ ∃ ws',putAll (ks.zip ws) ps = r.1.zip ws' ∧ r.1.length = ws'.length ∧ Rps K H B r.2 ws'
 | [],xs,ks,vs,ws,r,h1,h2,hl,e=>by
  unfold dictPF at e
  cases e
  rw [rps_nil] at h1
  exact ⟨[],h1,(fun x hx=>by cases hx),ws,rfl,hl,h2⟩
 | d :: ds,xs,ks,vs,ws,r,h1,h2,hl,e=>by
  rw [rps_cons] at h1
  obtain ⟨x,t,rfl,hx,ht⟩:=h1
  obtain ⟨a,b,k,rfl,e1,e⟩:=dictPF_cons e
  rw [rp_tup] at hx
  obtain ⟨p,ys,rfl,hq,hys⟩:=hx
  rw [rps_cons] at hys
  obtain ⟨y1,t1,rfl,hy1,hys⟩:=hys
  rw [rps_cons] at hys
  obtain ⟨y2,t2,rfl,hy2,hys⟩:=hys
  rw [rps_nil] at hys
  subst hys
  obtain ⟨kb,rfl,hkb⟩:=keyT_v e1 hy1
  obtain ⟨zs,hz1,hz2,hz3,hz4⟩:=put_zip (q:=k) (v:=y2) hl
  have rr:Rps K H B (putDs ks vs k b) zs:=by
   unfold putDs
   cases hk:hasK ks k with
   | true=>rw [if_pos rfl,hz3 hk]; exact rps_putMap hy2 h2
   | false=>rw [if_neg (by simp),hz4 hk]; exact Rps.snoc h2 hy2
  obtain ⟨ps,q1,q2,ws',q3,q4,q5⟩:=dictPF_rel ht rr hz2 e
  refine ⟨⟨p,kb,k,y2⟩ :: ps,by rw [q1]; rfl,fun x hx=>?_,ws',?_,q4,q5⟩
  ·rcases List.mem_cons.mp hx with rfl | hx
   ·exact ⟨hq.2,hkb⟩
   ·exact q2 x hx
  ·show putAll (putK (ks.zip ws) k y2) ps = _
   rw [hz1]
   exact q3
end
section
variable {X:Cx} {e:Expr} {pos p:Pos} {g:Ds → Option D}
theorem pdf_dictP (hu:X.A.units + 2 < cLine) (hcalm:X.calm = true) (hm:X.mg "dict" = none) (hv:bootBuiltins "dict" = some (.type "dict")) (ha:PD X e g) (hg:Gl X "dict" := by rfl)
  (he:starEach [e] X.env = (false,eval e X.env) :: starEach [] X.env:=by rfl) (hpl:(backTo pos (starEach [] X.env)).any (·.1) = false:=by rfl) :
  PDF X (.Call (.Name "dict" p) [e] [] pos) (oA (consA g nilA) dictPD):=.mk fun B δ=>(pe_callTy (call_dictP hu hcalm) hg hm hv (pa_cons (ha B δ) pa_nil he) (by decide) (by decide) he hpl).imp fun σ H Q ⟨d,en,h,k⟩=>by
 unfold oA consA nilA at h
 cases e1:g δ with
 | none=>rw [e1] at h; cases h
 | some x =>
  rw [e1] at h
  simp only [Option.bind_some,Option.map_some] at h
  refine ⟨x,en,e1,fun v H1 s1 r1=>?_⟩
  unfold dictPD at h
  split at h
  ·rename_i ds he1
   injection he1 with he1
   subst he1
   split at h
   ·rename_i hz
    cases e2:dictPF [] [] ds with
    | none=>rw [e2] at h; cases h
    | some r =>
     rw [e2] at h
     cases h
     rw [rp_lst] at r1
     obtain ⟨q,xs,rfl,hq,rr⟩:=r1
     obtain ⟨ps,q1,q2,ws,q3,q4,q5⟩:=dictPF_rel rr (ks:=[]) (vs:=[]) (ws:=[]) (by rw [rps_nil]) rfl e2
     refine ⟨q,ps,rfl,by rw [← q1]; exact hq.to,q2,by have:=rr.length; rw [q1,List.length_map] at this; omega,fun l hl'=>?_⟩
     have q3:putAll [] ps = r.1.zip ws:=q3
     rw [q3]
     exact k l _ (s1.free hl') (s1.trans (same_upd hl')) ⟨ws,upd_same,q4,q5.mono (Gr.fresh hl')⟩
   ·cases h
  ·cases h
end
end DL
namespace L2
open PySem PySem.Spec PyProof.Rows
section
variable {X:Cx} {pins:List (Addr × Obj)} {σ:List (Option V)} {A:Around} {E:Value → Shared → Prop}
end
end L2
namespace DL
open PySem PySem.Spec PyProof.Rows L2
section
variable {K:W.Frag} {H:Hp} {B:BS} {σ:St} {δ:Ds}
end
section
variable {X:Cx} {ke ve:Expr} {pos:Pos} {gk gv:Ds → Option D}
end
section
variable {X:Cx} {e:Expr} {pos pos':Pos} {g:Ds → Option D} {x:Str}
end
section
variable {X:Cx} {e:Expr} {g:GE} {pos:Pos}
end
section
variable {X:Cx}
end
end DL
namespace L2
open PySem
section
variable {M:Model} {A:Around} {E:Value → Shared → Prop} {s:Shared}
end
end L2
namespace L2
open PySem PySem.Spec PyProof.Rows
section
variable {M:Model} {A:Around} {E:Value → Shared → Prop} {s:Shared}
end
section
variable {X:Cx} {pins:List (Addr × Obj)} {σ:St} {H:Hp} {s:Shared}
end
section
variable {X:Cx} {k:Nat} {f C:Addr} {fd:FuncData} {ps:List Str} {sp:Sp} {dvs:List V} {ds:List Value} {x c:Str} {p pos np cpos:Pos} {e:Expr} {es:List Expr} {t:TA}
end
section
variable {X:Cx} {pins:List (Addr × Obj)} {σ:St} {H:Hp} {s:Shared}
end
section
variable {X:Cx}
end
end L2
namespace DL
open PySem PySem.Spec PyProof.Rows L2
section
variable {X:Cx} {e:Expr} {st:Stmt} {rest as bs:List Stmt} {pos:Pos} {G:GS} {G1 G2 Ga Gb:GZ} {gt:GB} {gA:GA} {c:Expr}
end
section
variable {X:Cx} {e:Expr} {es:List Expr} {gA:GA} {pos p px:Pos}
end
section
variable {P:Program} {w:World} {K:W.Frag} {mg:Str → Option Value} {base:Heap}
end
end DL
namespace L2
open PySem PySem.Spec PyProof.Rows
section
variable {X:Cx} {pos:Pos} {tl:List Value}
end
end L2
namespace DL
open PySem PySem.Spec PyProof.Rows L2
section
variable {X:Cx} {root:Str} {r:Addr} {cs rs:List Str} {p px pc pos:Pos} {x:Str}
end
end DL
namespace L2
open PySem PySem.Spec PyProof.Rows
section
variable {X:Cx} {pins pins':List (Addr × Obj)} {σ:St} {H:Hp} {s:Shared} {W:Value → Shared → Prop} {A:Around}
end
end L2
namespace DL
open PySem PySem.Spec PyProof.Rows L2
section
variable {K:W.Frag} {H₀ H:Hp} {B₀ B:BS} {σ:St} {δ:Ds} {i:Nat} {a C:Addr} {c:Str}
end
section
variable {X:Cx} {root x:Str} {r:Addr} {cs rs:List Str} {body suite:List Stmt} {b₀:Stmt} {np hp pos:Pos} {Gb:GZ} {Gh:GS}
end
section
variable {X:Cx} {root:Str} {r:Addr} {cs rs:List Str} {p px pc tp pos:Pos} {x:Str} {es:List Expr} {ns:List Str}
end
end DL
namespace XC
open PySem PySem.W
section
variable {prog:Program} {w:World} {A:Around} {E:Value → Shared → Prop} {h:Heap} {g:Array GenState} {d:Drawn} {t:Nat} {os:OsState} {a C:Addr} {o:Obj} {tl:List Value} {K:Frag} {od:Option Obj} {f:Str} {v:Value}
end
end XC
namespace L2
open PySem PySem.Spec PyProof.Rows
section
variable {X:Cx} {pins:List (Addr × Obj)} {σ:St} {H:Hp} {s:Shared} {A:Around} {E:Value → Shared → Prop}
end
end L2
namespace DL
open PySem PySem.Spec PyProof.Rows L2
section
variable {X:Cx} {px pos:Pos} {x:Str}
end
section
variable {X:Cx} {tg:Expr} {body:List Stmt} {pos:Pos} {G:GZ}
end
end DL
namespace XC
open PySem PySem.W
end XC
namespace DL
open PySem PySem.Spec PyProof.Rows L2
section
variable {P:Program} {w:World} {K:W.Frag} {mg:Str → Option Value} {base:Heap}
end
end DL
namespace L2
open PySem PySem.Spec PyProof.Rows
section
variable {X:Cx}
end
end L2
namespace DL
open PySem PySem.Spec PyProof.Rows L2
section
variable {X:Cx} {e:Expr} {g:GE} {x:Str} {px p0 apos cpos:Pos} {j:Nat}
end
end DL
namespace L2
open PySem PySem.Spec PyProof.Rows
section
variable {X:Cx}
end
end L2
namespace DL
open PySem PySem.Spec PyProof.Rows L2
section
variable {X:Cx} {o e:Expr} {apos cpos:Pos} {g:Ds → Option D} {gA:Ds → Option (List D)}
end
end DL
namespace PySem.SeqAt
open AutoSeq1 (wpAny_loadPart')
open MeetsSeq MeetsSeq2 MeetsSeq3 SeqRoads2
end PySem.SeqAt
namespace L2
open PySem PySem.Spec PyProof.Rows
section
variable {X:Cx}
end
end L2
namespace DL
open PySem PySem.Spec PyProof.Rows L2
section
variable {X:Cx} {a b e:Expr} {ga gb:GE} {gA:GA} {pos p0 apos cpos:Pos} {x:Str} {ys:List Str}
end
end DL
namespace Att
open PySem PySem.W PySem.Calls PyProof.Rows
end Att
namespace L2
open PySem PySem.Spec PyProof.Rows
section
variable {X:Cx}
end
end L2
namespace DL
open PySem PySem.Spec PyProof.Rows L2
section
variable {X:Cx} {o e e0:Expr} {g g0:GE} {gA:GA} {x:Str} {px p0 apos cpos pos:Pos}
end
end DL
namespace L2
open PySem PySem.Spec PyProof.Rows
section
variable {X:Cx} {pins:List (Addr × Obj)} {σ:List (Option V)} {A:Around} {E:Value → Shared → Prop}
end
end L2
namespace DL
open PySem PySem.Spec PyProof.Rows L2
section
variable {K:W.Frag} {H:Hp} {B:BS}
end
section
variable {X:Cx} {e:Expr} {pos p:Pos} {g:Ds → Option D}
end
end DL
namespace DL
open PySem
end DL
namespace L2
open PySem PySem.Spec PyProof.Rows PySem.W
section
variable {X:Cx} {pins:List (Addr × Obj)} {σ:List (Option V)} {A:Around} {E:Value → Shared → Prop} {s:Shared} {H:Hp} {d:Addr} {kvs:List (Key × V)} {ys:List Str}
end
end L2
namespace L2
open PySem PySem.Spec PyProof.Rows
end L2
namespace DL
open PySem PySem.Spec PyProof.Rows L2
section
variable {X:Cx} {e:Expr} {pos p:Pos} {g:Ds → Option D}
end
end DL
namespace L2
open PySem PySem.Spec PyProof.Rows
open AutoSeq1 (wpAny_loadPart')
section
variable {prog:Program} {w:World} {A:Around} {E:Value → Shared → Prop} {s:Shared}
end
section
variable {X:Cx} {elts:List Expr} {x1:Nat} {tpos:Pos}
end
end L2
namespace DL
open PySem PySem.Spec PyProof.Rows L2
section
variable {X:Cx} {a:Expr} {gA:Ds → Option (List D)} {elts:List Expr} {x1:Nat} {tpos p pos:Pos}
end
section
variable {X:Cx} {a0 e:Expr} {es:List Expr} {g0:GE} {gA:GA} {pos posg p pg px:Pos}
end
section
variable {X:Cx} {root c0:Str} {r:Addr} {cs rs:List Str} {body suite:List Stmt} {b₀:Stmt} {np hp pos:Pos} {Gb:GZ} {Gh:GS}
end
section
variable {X:Cx} {o e f:Expr} {g:GE} {apos cpos:Pos}
end
end DL
namespace L2
open PySem PySem.Spec PyProof.Rows
open AutoSeq1 (wpAny_loadPart')
section
variable {prog:Program} {w:World} {A:Around} {E:Value → Shared → Prop} {s:Shared} {z TI TO i1 i2 l1 l2:Addr} {k1 k2:Nat} {xs ys:Array Value} {x y a b:Value}
end
section
variable {X:Cx} {elts:List Expr} {x1:Nat} {tpos:Pos}
end
end L2
namespace DL
open PySem PySem.Spec PyProof.Rows L2
section
variable {X:Cx} {a b:Expr} {gA:Ds → Option (List D)} {elts:List Expr} {x1:Nat} {tpos p pos:Pos}
end
end DL
namespace L2
open PySem PySem.Spec PyProof.Rows
section
variable {X:Cx}
noncomputable def rMulL (K:W.Frag):R2:=fun x y H Q=>∃ a xs k,x = .ref a ∧ y = .int k ∧ SqL K H a xs ∧ xs ≠ [] ∧ 0 ≤ k ∧ k < 2 ^ 62 ∧ xs.length * k.toNat ≤ 2 ^ 20 ∧ ∀ p,H p = none → Q (.ref p) (upd H p (.lst (List.replicate k.toNat xs).flatten))
theorem op_mulL:OpR X (binaryOp .Mult) (rMulL X.K):=by
 intro pins s σ H x y v u Q I rx ry h
 obtain ⟨a,xs,k,rfl,rfl,ha,hx,h2,h3,hz,q⟩:=h
 cases rx
 obtain ⟨t,rfl⟩:=ry
 obtain ⟨its,r1,p1,_⟩:=I.list ha
 obtain ⟨⟨cls,dd,data,sl⟩,ho,hc,n,hd⟩:=p1.isList
 simp only at hc hd
 subst hc hd
 have hl:=r1.length
 have he:its.toArray.isEmpty = false:=by
  cases its with
  | nil=>exact absurd (r1.nil_iff.mp rfl) hx
  | cons a b=>rfl
 have hlen:its.toArray.size * k.toNat ≤ 2 ^ 20:=by rw [List.size_toArray,← hl]; exact hz
 have hnew:(List.replicate (if its.toArray.isEmpty = true then 0 else k.toNat) its.toArray).foldl (· ++ ·) #[] = (List.replicate k.toNat its).flatten.toArray:=by
  rw [he]
  have:=foldl_rep its k.toNat []
  rw [List.nil_append] at this
  exact this
 have hc0:¬(!Builtin.List.listFitsIndex k) = true:=by
  have:Builtin.List.listFitsIndex k = true:=by unfold Builtin.List.listFitsIndex; simp; omega
  rw [this]; decide
 have hc1:¬its.toArray.size * k.toNat > (2 ^ 63 - 1) / 8:=by omega
 have hc2:¬Builtin.List.listTooLong (its.toArray.size * k.toNat) = true:=by
  rw [List.size_toArray] at hlen ⊢
  unfold Builtin.List.listTooLong; simp; unfold sizeLine; omega
 refine wpAny_binaryOp_repeat_ref (T := "list") (U := "int") (by decide) ⟨_,ho,rfl⟩ (fun s'=>typeIs_int s' k t) noFill_list_mul F.fills_int_mul F.slot_int_rmul repeat_list F.slot_int_index.lookup
  (call_meets F.slot_int_rmul (typeIs_int s k t) F.entry_int_rmul (F.args_int_rmul_2 _ _) (lm_int_rmul_list_any k t a its.toArray n dd sl)
   ⟨ho,rfl,⟨_,ho,rfl⟩,call_meets F.slot_list_mul ⟨_,ho,rfl⟩ F.entry_list_mul (F.args_list_mul_2 _ _) (lm_list_mul_any a its.toArray n dd sl k t hc0 hc1 hc2) ⟨ho,?_⟩⟩)
 rw [hnew]
 exact ⟨.ref _,_,I.lnew (t':=s.toks) (r1.rep k.toNat) (by rw [len_rep,Nat.mul_comm]; unfold sizeLine; omega),rfl,q _ I.fresh⟩
end
end L2
namespace DL
open PySem PySem.Spec PyProof.Rows L2
noncomputable def mulL:D → D → Option D
 | .lst xs,.int k=>if xs ≠ [] ∧ 0 ≤ k ∧ k < 2 ^ 62 ∧ xs.length * k.toNat ≤ 2 ^ 20 then some (.lst (List.replicate k.toNat xs).flatten) else none
 | _,_=>none
section
variable {X:Cx} {K:W.Frag} {a b:Expr} {ga gb:GE} {pos:Pos} {tg:Expr} {x:Str}
end
section
variable {X:Cx} {e:Expr} {es:List Expr} {gA:GA} {pos p px:Pos}
end
section
variable {K:W.Frag} {H H' H₀:Hp} {B B₀:BS} {σ:St} {δ:Ds}
end
section
variable {P:Program} {w:World} {K:W.Frag} {mg:Str → Option Value} {base:Heap}
end
section
variable {X:Cx} {e:Expr} {es:List Expr} {g:GE} {gA:GA} {pos p px:Pos} {y:Str}
end
section
variable {X:Cx} {e:Expr} {g:GE} {x:Str} {px apos cpos:Pos}
end
end DL
namespace EnS
open PySem PySem.Spec PyProof.Rows
section
variable {M:Model} {A:Around} {E:Value → Shared → Prop} {s:Shared} {env:Env}
end
section
variable {prog:Program} {w:World} {A:Around} {E:Value → Shared → Prop} {s:Shared}
end
section
variable {prog:Program} {w:World} {A:Around} {E:Value → Shared → Prop} {s:Shared}
end
end EnS
namespace L2
open PySem PySem.Spec PyProof.Rows
section
variable {X:Cx} {elts:List Expr} {x1:Nat} {tpos:Pos}
end
end L2
namespace DL
open PySem PySem.Spec PyProof.Rows L2
section
variable {X:Cx} {elts:List Expr} {x1:Nat} {tpos:Pos} {a b e:Expr} {es:List Expr} {p pos kp:Pos} {gA:GA} {gb:GE}
end
end DL
namespace L2
open PySem PySem.Spec PyProof.Rows
theorem down (n:Nat):sliceRange ((n:Int) - 1) (-1) (-1) = (List.range n).reverse:=by
 unfold sliceRange
 simp only []
 rw [if_neg (by decide)]
 have hc:(if (n:Int) - 1 > -1 then ((n:Int) - 1 - -1 - -1 - 1) / (- -1) else 0).toNat = n:=by
  split
  ·rw [show ((n:Int) - 1 - -1 - -1 - 1) = (n:Int) from by omega,show (- -1:Int) = 1 from rfl,Int.ediv_one,Int.toNat_natCast]
  ·omega
 rw [hc]
 apply List.ext_getElem?
 intro j
 by_cases hj:j < n
 ·rw [List.getElem?_map,List.getElem?_range hj,List.getElem?_reverse (by simpa using hj),List.length_range,List.getElem?_range (by omega)]
  show some (((n:Int) - 1 + -1 * (j:Int)).toNat) = _
  congr 1
  omega
 ·rw [List.getElem?_eq_none (by simp; omega),List.getElem?_eq_none (by simp; omega)]
theorem pick_all (its:List Value):∀ l:List Nat,(∀ j ∈ l,j < its.length) → l.filterMap (fun x=>its.toArray[x]?) = l.map fun j=>its.getD j .none
 | [],_=>rfl
 | j :: l,h=>by
  have hj:=h j List.mem_cons_self
  rw [List.filterMap_cons,List.map_cons,pick_all its l fun q hq=>h q (List.mem_cons_of_mem _ hq)]
  simp [hj]
theorem pick_rev (its:List Value):slicePick its.toArray none none (some (-1)) = its.reverse.toArray:=by
 unfold slicePick
 have h:sliceBounds none none (some (-1)) its.toArray.size = (((its.toArray.size:Nat):Int) - 1,-1,-1):=by
  unfold sliceBounds
  rfl
 rw [h]
 simp only [down]
 congr 1
 rw [List.size_toArray,pick_all its _ (by simp),← List.map_reverse.symm]
 congr 1
 apply List.ext_getElem?
 intro j
 by_cases hj:j < its.length
 ·simp [hj]
 ·rw [List.getElem?_eq_none (by simp; omega),List.getElem?_eq_none (by omega)]
section
variable {X:Cx} {e st:Expr} {te:TE} {ts:TO} {pos p2:Pos}
noncomputable def tRev (K:W.Frag) (te:TE) (ts:TO):TE:=fun σ H Q=>te σ H fun x H1=>ts σ H1 fun o H2=>o = some (-1) ∧ ∃ a xs,x = .ref a ∧ SqL K H2 a xs ∧ ∀ p,H2 p = none → Q (.ref p) (upd H2 p (.lst xs.reverse))
theorem pe_rev (he:PE X e te) (hs:PO X (some st) ts):PE X (.Subscript e (.Slice none none (some st) p2) pos) (tRev X.K te ts):=by
 intro pins s σ H Q I h
 refine Subscript_ (thn (he pins s σ H _ I h) fun v s1 ⟨x,H1,I1,r1,q1⟩=>?_)
 refine wpAny_Slice ?_
 rw [evalPart_none]
 refine wpAny_pure ?_
 refine wpAny_pure ?_
 refine thn (hs pins s1 σ H1 _ I1 q1) fun vt s2 ⟨o,H2,I2,pt,q2⟩=>?_
 obtain ⟨rfl,a,xs,rfl,hx,q⟩:=q2
 cases r1
 have I4:Inv X pins σ H2 { s2 with heap:=s2.heap.push { cls:=.type "slice",data:=.fields #[.none,.none,vt] } }:=I2.kept (t':=s2.toks) fun b ob q=>Heap.get?_push_of_some _ q
 obtain ⟨its,r,ht,hz⟩:=I4.list hx
 have hlen:=r.length
 show wpAny (model X.prog X.w) X.A (subscriptTail e (.Slice none none (some st) p2) (.ref a) (.ref s2.heap.objs.size)) (EP X pins σ Q) X.xe { s2 with heap:=s2.heap.push { cls:=.type "slice",data:=.fields #[.none,.none,vt] } }
 refine tail_any (ops:=[.ref a,.ref s2.heap.objs.size]) ht.isList.typeIs slot_list_getitem.lookup ?_ (by with_unfolding_all rfl)
 refine wpAny_getItem_list_slice ht.isList (Heap.IsSliceOf.new ..) .none .none pt (by decide) ?_ (by rw [List.size_toArray] <;> omega)
 rw [pick_rev]
 refine ⟨.ref (s2.heap.push { cls:=.type "slice",data:=.fields #[.none,.none,vt] }).objs.size,_,I4.laid (t':=s2.toks) (o:=.lst xs.reverse) (fun b ob q=>Heap.get?_push_of_some _ q) (Nat.le_refl _) ?_,rfl,q _ (I4.hok.fresh (Nat.le_refl _))⟩
 exact ⟨by rw [List.length_reverse]; exact hz,_,0,r.reverse,Heap.get?_push_size _ rfl⟩
end
end L2
namespace DL
open PySem PySem.Spec PyProof.Rows L2
noncomputable def revG (g:GE):GE:=fun δ=>(g δ).bind fun d=>match d with
 | .lst l=>some (.lst l.reverse)
 | _=>none
section
variable {X:Cx} {e st:Expr} {g:GE} {gs:Ds → Option (Option Int)} {pos p2:Pos}
theorem rps_rev {K:W.Frag} {H:Hp} {B:BS}:∀ {ds:List D} {xs:List V},Rps K H B ds xs → Rps K H B ds.reverse xs.reverse
 | [],xs,h=>by rw [rps_nil] at h; subst h; rw [List.reverse_nil,rps_nil]; rfl
 | d :: ds,xs,h=>by
  rw [rps_cons] at h
  obtain ⟨x,r,rfl,h1,h2⟩:=h
  rw [List.reverse_cons,List.reverse_cons]
  exact (rps_rev h2).append (by rw [rps_cons]; exact ⟨x,[],rfl,h1,by rw [rps_nil]⟩)
theorem pd_rev (he:PD X e g) (hs:PDO X (some st) gs) (hm:∀ δ,gs δ = some (some (-1)):=by intro _; rfl):PD X (.Subscript e (.Slice none none (some st) p2) pos) (revG g):=.mk fun B δ =>
 (pe_rev (he B δ) (hs B δ)).imp fun σ H Q ⟨d,en,h,k⟩=>by
  unfold revG at h
  cases e1:g δ with
  | none=>rw [e1] at h; cases h
  | some x =>
   rw [e1,Option.bind_some] at h
   split at h
   ·rename_i l
    cases h
    refine ⟨_,en,e1,fun v H1 s1 r1=>⟨_,en.same s1,hm δ,fun H2 s2=>⟨rfl,?_⟩⟩⟩
    replace r1:=r1.same s2
    have hb:=((en.same s1).same s2).bad
    rw [rp_lst] at r1
    obtain ⟨a,xs,rfl,q,r⟩:=r1
    exact ⟨a,xs,rfl,q.to,fun p hp=>k _ _ ((s1.trans s2).trans (same_upd hp)) (rp_newL hb hp (rps_rev r))⟩
   ·cases h
end
section
variable {X:Cx} {e:Expr} {es:List Expr} {gA:GA} {pos p px:Pos}
end
end DL
namespace DL
open PySem
noncomputable def sumL:List D → Option (List Int)
 | []=>some []
 | .int i :: ds=>(sumL ds).map fun r=>i :: r
 | _=>none
theorem sumL_ints:∀ is:List Int,sumL (is.map D.int) = some is
 | []=>rfl
 | i :: is=>by show (sumL (is.map D.int)).map _ = _; rw [sumL_ints is]; rfl
end DL
namespace L2
open PySem PySem.Spec PyProof.Rows
end L2
namespace DL
open PySem PySem.Spec PyProof.Rows L2
theorem sum_rel {K:W.Frag} {H:Hp} {B:BS}:∀ {ds:List D} {xs:List V} {is:List Int},Rps K H B ds xs → sumL ds = some is → xs = is.map V.int
 | [],xs,is,r,h=>by rw [rps_nil] at r; cases h; exact r
 | d :: ds,xs,is,r,h=>by
  rw [rps_cons] at r
  obtain ⟨x,t,rfl,r1,r2⟩:=r
  cases d with
  | int i =>
   have h:(sumL ds).map (fun r=>i :: r) = some is:=h
   obtain ⟨js,e,rfl⟩:=Option.map_eq_some_iff.mp h
   rw [rp_int] at r1
   rw [r1,sum_rel r2 e]
   rfl
  | _=>cases h
end DL
namespace L2
open PySem PySem.Spec PyProof.Rows PySem.W
section
variable {X:Cx} {o e f:Expr} {apos cpos:Pos} {td ty tx:TE}
end
end L2
namespace DL
open PySem PySem.Spec PyProof.Rows L2
section
variable {X:Cx} {a b e f:Expr} {ga gb g0 g:GE} {x:Str} {px p0 apos cpos pos:Pos}
end
end DL
namespace L2
open PySem PySem.Spec PyProof.Rows
open AutoSeq1 (wpAny_loadPart')
section
variable {prog:Program} {w:World} {A:Around} {E:Value → Shared → Prop} {s:Shared} {z TI TO i1 i2 l1 l2:Addr} {k1 k2:Nat} {xs ys:Array Value} {x y a b:Value}
end
section
variable {X:Cx} {elts:List Expr} {x1:Nat} {tpos:Pos}
end
end L2
namespace DL
open PySem PySem.Spec PyProof.Rows L2
section
variable {X:Cx} {a b:Expr} {gA:Ds → Option (List D)} {elts:List Expr} {x1:Nat} {tpos p pos:Pos}
end
end DL
namespace L2
open PySem PySem.Spec PyProof.Rows PySem.W
end L2
namespace DL
open PySem PySem.Spec PyProof.Rows L2
end DL
namespace SoT
open PySem PyProof.Rows
section
variable {P:Program} {w:World} {A:Around} {E:Value → Shared → Prop} {s:Shared} {b:Array Keyed} {κ:SortKind} {cmp:Keyed → Keyed → Bool}
structure Go (b:Array Keyed) (κ:SortKind) (st:SortSt):Prop where
 kd:kindOf st = κ
 pm:(arrOf st).Perm b
 pe:pendingOf st = #[]
 fa:failedOf st = none
structure Cp (P:Program) (w:World) (A:Around) (E:Value → Shared → Prop) (s:Shared) (b:Array Keyed) (κ:SortKind) (cmp:Keyed → Keyed → Bool):Prop where
 ask:∀ (st:SortSt) (i j:Nat) (x y:Keyed) (Q:Option Bool → SortSt → Prop),Go b κ st → (arrOf st)[i]? = some x → (arrOf st)[j]? = some y → Q (some (cmp x y)) st → wpS (model P w) A E s (ltAt' i j) Q st
 nd:b.toList.Nodup
 tr:∀ x ∈ b.toList,∀ y ∈ b.toList,∀ z ∈ b.toList,cmp x y = true → cmp y z = true → cmp x z = true
 to:∀ x ∈ b.toList,∀ y ∈ b.toList,x ≠ y → cmp y x = false → cmp x y = true
theorem Go.set {st:SortSt} (h:Go b κ st) {xs:Array Keyed} (p:xs.Perm (arrOf st)):Go b κ (setArr st xs):=⟨h.kd,p.trans h.pm,h.pe,h.fa⟩
theorem Go.sz {st:SortSt} (h:Go b κ st):(arrOf st).size = b.size:=h.pm.size_eq
theorem Go.el {st:SortSt} (h:Go b κ st) {i:Nat} (hi:i < b.size):∃ x,(arrOf st)[i]? = some x ∧ x ∈ b.toList:=by
 have hi':i < (arrOf st).size:=by rw [h.sz]; exact hi
 exact ⟨(arrOf st)[i],getElem?_pos _ i hi',(Array.perm_iff_toList_perm.mp h.pm).mem_iff.mp (by simp)⟩
theorem Go.mem {st:SortSt} (h:Go b κ st) {i:Nat} {x:Keyed} (e:(arrOf st)[i]? = some x):x ∈ b.toList ∧ i < b.size:=by
 obtain ⟨hi,rfl⟩:=Array.getElem?_eq_some_iff.mp e
 exact ⟨(Array.perm_iff_toList_perm.mp h.pm).mem_iff.mp (by simp),by rw [← h.sz]; exact hi⟩
theorem Go.ne {st:SortSt} (h:Go b κ st) (hn:b.toList.Nodup) {i j:Nat} {x y:Keyed} (e1:(arrOf st)[i]? = some x) (e2:(arrOf st)[j]? = some y) (hij:i < j):x ≠ y:=by
 have hn':(arrOf st).toList.Nodup:=(Array.perm_iff_toList_perm.mp h.pm).nodup_iff.mpr hn
 obtain ⟨h1,rfl⟩:=Array.getElem?_eq_some_iff.mp e1
 obtain ⟨h2,rfl⟩:=Array.getElem?_eq_some_iff.mp e2
 have:=List.pairwise_iff_getElem.mp hn' i j (by simpa using h1) (by simpa using h2) hij
 simpa using this
noncomputable def Up (cmp:Keyed → Keyed → Bool) (xs:Array Keyed) (n:Nat):Prop:=∀ i j x y,i < j → j < n → xs[i]? = some x → xs[j]? = some y → cmp x y = true
noncomputable def Dn (cmp:Keyed → Keyed → Bool) (xs:Array Keyed) (n:Nat):Prop:=∀ i j x y,i < j → j < n → xs[i]? = some x → xs[j]? = some y → cmp y x = true
variable (C:Cp P w A E s b κ cmp)
include C
theorem up_next {st:SortSt} (hg:Go b κ st) {n:Nat} (hn:n < b.size) (h1:1 ≤ n) (h:Up cmp (arrOf st) n) {u v:Keyed} (eu:(arrOf st)[n - 1]? = some u) (ev:(arrOf st)[n]? = some v) (huv:cmp u v = true):Up cmp (arrOf st) (n + 1):=fun i j x y hij hj ex ey=>by
 by_cases hjn:j < n
 ·exact h i j x y hij hjn ex ey
 ·have:j = n:=by omega
  subst this
  rw [ev] at ey
  cases ey
  by_cases hi:i = j - 1
  ·subst hi; rw [eu] at ex; cases ex; exact huv
  ·exact C.tr x (hg.mem ex).1 u (hg.mem eu).1 v (hg.mem ev).1 (h i (j - 1) x u (by omega) (by omega) ex eu) huv
theorem dn_next {st:SortSt} (hg:Go b κ st) {n:Nat} (hn:n < b.size) (h1:1 ≤ n) (h:Dn cmp (arrOf st) n) {u v:Keyed} (eu:(arrOf st)[n - 1]? = some u) (ev:(arrOf st)[n]? = some v) (huv:cmp v u = true):Dn cmp (arrOf st) (n + 1):=fun i j x y hij hj ex ey=>by
 by_cases hjn:j < n
 ·exact h i j x y hij hjn ex ey
 ·have:j = n:=by omega
  subst this
  rw [ev] at ey
  cases ey
  by_cases hi:i = j - 1
  ·subst hi; rw [eu] at ex; cases ex; exact huv
  ·exact C.tr v (hg.mem ev).1 u (hg.mem eu).1 x (hg.mem ex).1 huv (h i (j - 1) x u (by omega) (by omega) ex eu)
theorem asc {st:SortSt} {a m:Nat} {Q:AscSt → SortSt → Prop} (hg:Go b κ st) (hm:m ≤ b.size) (ha:1 ≤ a) (ham:a ≤ m) (hu:Up cmp (arrOf st) a)
  (k:∀ n,a ≤ n → n ≤ m → Up cmp (arrOf st) n → (n = m ∨ ∃ u v,(arrOf st)[n - 1]? = some u ∧ (arrOf st)[n]? = some v ∧ cmp v u = true) → Q (none,n) st):wpS (model P w) A E s (ascLoop a m) Q st:=by
 unfold ascLoop
 refine wpS_forRange (I:=fun x c t=>t = st ∧ c = (none,x) ∧ Up cmp (arrOf st) x) (fun x c t hax hxm hI=>?_) (fun c t hI=>?_) ⟨rfl,rfl,hu⟩
 ·obtain ⟨e1,e2,hu'⟩:=hI
  subst e1; subst e2
  obtain ⟨v,ev,mv⟩:=hg.el (i:=x) (by omega)
  obtain ⟨u,eu,mu⟩:=hg.el (i:=x - 1) (by omega)
  refine wpS_bind (C.ask _ _ _ _ _ _ hg ev eu ?_)
  cases hc:cmp v u with
  | true=>exact wpS_pure (k x hax (by omega) hu' (.inr ⟨u,v,eu,ev,hc⟩))
  | false=>exact wpS_pure ⟨rfl,rfl,up_next C hg (by omega) (by omega) hu' eu ev (C.to u mu v mv (hg.ne C.nd eu ev (by omega)) hc)⟩
 ·obtain ⟨e1,e2,hu'⟩:=hI
  subst e1; subst e2
  have e:max a m = m:=by omega
  rw [e] at hu' ⊢
  exact k m ham (Nat.le_refl _) hu' (.inl rfl)
theorem desc {st:SortSt} {a m:Nat} {Q:DescSt → SortSt → Prop} (hg:Go b κ st) (hm:m ≤ b.size) (ha:1 ≤ a) (ham:a ≤ m) (hd:Dn cmp (arrOf st) a)
  (k:∀ n,a ≤ n → n ≤ m → Dn cmp (arrOf st) n → Q (none,n,0) st):wpS (model P w) A E s (descLoop a m) Q st:=by
 unfold descLoop
 refine wpS_forRange (I:=fun x c t=>t = st ∧ c = (none,x,0) ∧ Dn cmp (arrOf st) x) (fun x c t hax hxm hI=>?_) (fun c t hI=>?_) ⟨rfl,rfl,hd⟩
 ·obtain ⟨e1,e2,hu'⟩:=hI
  subst e1; subst e2
  obtain ⟨v,ev,mv⟩:=hg.el (i:=x) (by omega)
  obtain ⟨u,eu,mu⟩:=hg.el (i:=x - 1) (by omega)
  refine wpS_bind (C.ask _ _ _ _ _ _ hg ev eu ?_)
  cases hc:cmp v u with
  | true =>
   dsimp only
   rw [if_pos rfl,if_neg (by omega)]
   exact wpS_pure ⟨rfl,rfl,dn_next C hg (by omega) (by omega) hu' eu ev hc⟩
  | false =>
   dsimp only
   rw [if_neg (by simp)]
   refine wpS_bind (C.ask _ _ _ _ _ _ hg eu ev ?_)
   rw [C.to u mu v mv (hg.ne C.nd eu ev (by omega)) hc]
   exact wpS_pure (k x hax (by omega) hu')
 ·obtain ⟨e1,e2,hu'⟩:=hI
  subst e1; subst e2
  have e:max a m = m:=by omega
  rw [e] at hu' ⊢
  exact k m ham (Nat.le_refl _) hu'
theorem tl {st:SortSt} {n m:Nat} {Q:Option Nat → SortSt → Prop} (hg:Go b κ st) (hm:m ≤ b.size) (h1:1 ≤ n) (hnm:n ≤ m) (hd:Dn cmp (arrOf st) n)
  (k:∀ r t,Go b κ t → 1 ≤ r → r ≤ m → Up cmp (arrOf t) r → Q (some r) t):wpS (model P w) A E s (tail3 n m) Q st:=by
 unfold tail3
 rw [reverseSlice'_eq]
 refine wpS_bind (wpS_modify ?_)
 have hsz:n ≤ (arrOf st).size:=by rw [hg.sz]; omega
 have g2:Go b κ (setArr st (mirror (arrOf st) 0 n ((n - 0) / 2))):=hg.set (mirror_perm _ _ _ _)
 have at_:∀ i,i < n → (mirror (arrOf st) 0 n ((n - 0) / 2))[i]? = (arrOf st)[n - 1 - i]?:=fun i hi=>by
  rw [getElem?_mirror_all hsz,if_pos ⟨Nat.zero_le _,hi⟩,Nat.zero_add]
 have hu:Up cmp (arrOf (setArr st (mirror (arrOf st) 0 n ((n - 0) / 2)))) n:=fun i j x y hij hj ex ey=>by
  have ex:(mirror (arrOf st) 0 n ((n - 0) / 2))[i]? = some x:=ex
  have ey:(mirror (arrOf st) 0 n ((n - 0) / 2))[j]? = some y:=ey
  rw [at_ i (by omega)] at ex
  rw [at_ j hj] at ey
  exact hd (n - 1 - j) (n - 1 - i) y x (by omega) (by omega) ey ex
 exact wpS_bind (asc C g2 hm h1 hnm hu fun r a1 a2 a3 _=>wpS_pure (k r _ g2 (by omega) a2 a3))
theorem run {st:SortSt} {m:Nat} {Q:Option Nat → SortSt → Prop} (hg:Go b κ st) (hm:m ≤ b.size) (h1:1 ≤ m)
  (k:∀ r t,Go b κ t → 1 ≤ r → r ≤ m → Up cmp (arrOf t) r → Q (some r) t):wpS (model P w) A E s (countRun' 0 m) Q st:=by
 rw [countRun0_eq]
 refine wpS_bind (asc C hg hm (Nat.le_refl 1) h1 (fun i j x y a c _ _=>by omega) fun n n1 n2 hu hor=>?_)
 dsimp only
 by_cases hnm:n = m
 ·rw [if_pos (by rw [hnm]; simp)]
  exact wpS_pure (k n st hg n1 n2 hu)
 ·rw [if_neg (by simpa using hnm)]
  obtain ⟨u,v,eu,ev,hc⟩:=hor.resolve_left hnm
  by_cases hg1:n > 1
  ·rw [if_pos hg1]
   obtain ⟨x,ex,mx⟩:=hg.el (i:=0) (by omega)
   refine wpS_bind (C.ask _ _ _ _ _ _ hg ex eu ?_)
   rw [hu 0 (n - 1) x u (by omega) (by omega) ex eu]
   exact wpS_pure (k n st hg n1 n2 hu)
  ·rw [if_neg hg1]
   have:n = 1:=by omega
   subst this
   unfold descPart
   refine wpS_bind (wpS_lift (wpAny_rule ⟨rfl,?_⟩))
   have d2:Dn cmp (arrOf st) (1 + 1):=fun i j x y hij hj ex ey=>by
    have hi:i = 0:=by omega
    have hj':j = 1:=by omega
    subst hi; subst hj'
    rw [show (1:Nat) - 1 = 0 from rfl,ex] at eu
    rw [ey] at ev
    cases eu; cases ev
    exact hc
   refine wpS_bind (desc C hg hm (by omega) (by omega) d2 fun r a1 a2 a3=>?_)
   dsimp only
   rw [if_neg (by omega)]
   exact tl C hg hm (by omega) a2 a3 k
theorem ins {st:SortSt} {n a:Nat} {Q:Bool → SortSt → Prop} (hg:Go b κ st) (hn:n ≤ b.size) (ha:a ≤ n) (hu:Up cmp (arrOf st) a)
  (k:∀ t,Go b κ t → Up cmp (arrOf t) n → Q true t):wpS (model P w) A E s (binarySort' 0 n a) Q st:=by
 rw [binarySort'_eq]
 simp only [Nat.zero_add]
 refine wpS_bind (wpS_mono (wpS_forRange (I:=fun x c t=>c = (none,()) ∧ Go b κ t ∧ Up cmp (arrOf t) (min x n)) (Q:=fun c t=>c = (none,()) ∧ Go b κ t ∧ Up cmp (arrOf t) n) (fun x c t hax hxn hI=>?_) (fun c t hI=>?_) ⟨rfl,hg,?_⟩) fun c t hI=>?_)
 ·obtain ⟨e1,g2,u2⟩:=hI
  subst e1
  have ex:min x n = x:=by omega
  rw [ex] at u2
  have hx:x < b.size:=by omega
  obtain ⟨v,ev,mv⟩:=g2.el hx
  refine wpS_bind (wpS_mono (wpS_forRange (I:=fun y c t2=>t2 = t ∧ ∃ l r,c = (none,l,r) ∧ l ≤ r ∧ r ≤ x ∧ r - l ≤ x - y ∧ (∀ i z,i < l → (arrOf t)[i]? = some z → cmp z v = true) ∧ ∀ i z,r ≤ i → i < x → (arrOf t)[i]? = some z → cmp v z = true)
   (Q:=fun c t2=>t2 = t ∧ ∃ l r,c = (none,l,r) ∧ l ≤ x ∧ (∀ i z,i < l → (arrOf t)[i]? = some z → cmp z v = true) ∧ ∀ i z,l ≤ i → i < x → (arrOf t)[i]? = some z → cmp v z = true) (fun y c t2 _ hyx hJ=>?_) (fun c t2 hJ=>?_)
   ⟨rfl,0,x,rfl,by omega,by omega,by omega,fun i z hi=>by omega,fun i z h1 h2=>by omega⟩) fun c t2 hJ=>?_)
  ·obtain ⟨e1,l,r,e2,hlr,hrx,hm,lo,hi⟩:=hJ
   subst e1; subst e2
   dsimp only
   by_cases hge:l ≥ r
   ·rw [if_pos hge]
    have:l = r:=by omega
    subst this
    exact wpS_pure ⟨rfl,l,l,rfl,hrx,lo,hi⟩
   ·rw [if_neg hge]
    obtain ⟨u,eu,mu⟩:=g2.el (i:=(l + r) / 2) (by omega)
    refine wpS_bind (C.ask _ _ _ _ _ _ g2 ev eu ?_)
    cases hc:cmp v u with
    | true =>
     refine wpS_pure ⟨rfl,l,(l + r) / 2,rfl,by omega,by omega,by omega,lo,fun i z h1 h2 ez=>?_⟩
     by_cases q:i = (l + r) / 2
     ·subst q; rw [eu] at ez; cases ez; exact hc
     ·exact C.tr v mv u mu z (g2.mem ez).1 hc (u2 _ i u z (by omega) (by omega) eu ez)
    | false =>
     have huv:=C.to u mu v mv (g2.ne C.nd eu ev (by omega)) hc
     refine wpS_pure ⟨rfl,(l + r) / 2 + 1,r,rfl,by omega,by omega,by omega,fun i z h1 ez=>?_,hi⟩
     by_cases q:i = (l + r) / 2
     ·subst q; rw [eu] at ez; cases ez; exact huv
     ·exact C.tr z (g2.mem ez).1 u mu v mv (u2 i _ z u (by omega) (by omega) ez eu) huv
  ·obtain ⟨e1,l,r,e2,hlr,hrx,hm,lo,hi⟩:=hJ
   subst e1; subst e2
   have:l = r:=by omega
   subst this
   exact ⟨rfl,l,l,rfl,hrx,lo,hi⟩
  ·obtain ⟨e1,l,r,e2,hlx,lo,hi⟩:=hJ
   subst e1; subst e2
   show wpS _ _ _ _ (do moveDown' x l; pure (ForInStep.yield (none,()))) _ _
   rw [moveDown'_eq]
   refine wpS_bind (wpS_modify (wpS_pure ⟨rfl,g2.set (bubble_perm _ _ _),?_⟩))
   have hxs:x < (arrOf t2).size:=by rw [g2.sz]; exact hx
   have e3:min (x + 1) n = x + 1:=by omega
   rw [e3]
   have at_:∀ i,(bubble (arrOf t2) x (x - l))[i]? = if i = l then some v else if l < i ∧ i ≤ x then (arrOf t2)[i - 1]? else (arrOf t2)[i]?:=fun i=>by
    rw [getElem?_bubble hxs _ (by omega),show x - (x - l) = l by omega,ev]
   intro i j y z hij hj ey ez
   have ey:(bubble (arrOf t2) x (x - l))[i]? = some y:=ey
   have ez:(bubble (arrOf t2) x (x - l))[j]? = some z:=ez
   rw [at_] at ey ez
   by_cases q1:j = l
   ·rw [if_pos q1] at ez
    rw [if_neg (by omega),if_neg (by omega)] at ey
    cases ez
    exact lo i y (by omega) ey
   ·rw [if_neg q1] at ez
    by_cases q2:i = l
    ·rw [if_pos q2] at ey
     rw [if_pos ⟨by omega,by omega⟩] at ez
     cases ey
     exact hi (j - 1) z (by omega) (by omega) ez
    ·rw [if_neg q2] at ey
     by_cases q3:l < i
     ·rw [if_pos ⟨q3,by omega⟩] at ey
      rw [if_pos ⟨by omega,by omega⟩] at ez
      exact u2 (i - 1) (j - 1) y z (by omega) (by omega) ey ez
     ·rw [if_neg (by omega)] at ey
      by_cases q4:l < j
      ·rw [if_pos ⟨q4,by omega⟩] at ez
       exact u2 i (j - 1) y z (by omega) (by omega) ey ez
      ·rw [if_neg (by omega)] at ez
       exact u2 i j y z hij (by omega) ey ez
 ·obtain ⟨hc,g2,u2⟩:=hI
  refine ⟨hc,g2,?_⟩
  rwa [show min (max (max a 1) n) n = n by omega] at u2
 ·intro i j x y hij hj ex ey
  exact hu i j x y hij (by omega) ex ey
 ·obtain ⟨e1,g2,u2⟩:=hI
  subst e1
  exact wpS_pure (k t g2 u2)
end
section
variable {P:Program} {w:World} {A:Around} {E:Value → Shared → Prop} {s:Shared} {b:Array Keyed} {κ:SortKind} {cmp:Keyed → Keyed → Bool}
theorem runs (C:Cp P w A E s b κ cmp) {st:SortSt} {Q:Unit → SortSt → Prop} (hg:Go b κ st) (h2:2 ≤ b.size) (h64:b.size < 64)
  (k:∀ t,(arrOf t).Perm b → failedOf t = none → Up cmp (arrOf t) b.size → Q () t):wpS (model P w) A E s sortRuns' Q st:=by
 rw [sortRuns'_eq]
 refine wpS_bind (wpS_get ?_)
 dsimp only
 have hmr:minRun' b.size b.size 0 = b.size:=by
  obtain ⟨f,hf⟩:∃ f,b.size = f + 1:=⟨b.size - 1,by omega⟩
  have e:minRun' (f + 1) b.size 0 = b.size:=by rw [minRun'_succ,if_pos h64]; rfl
  rwa [← hf] at e
 simp only [hg.sz,hmr]
 refine wpS_bind (wpS_mono (wpS_forRange (I:=fun x c t=>(x = 0 ∧ c = (none,0) ∧ Go b κ t) ∨ (1 ≤ x ∧ c = (none,b.size) ∧ (arrOf t).Perm b ∧ failedOf t = none ∧ (pendingOf t).size = 1 ∧ Up cmp (arrOf t) b.size))
  (Q:=fun c t=>c = (none,b.size) ∧ (arrOf t).Perm b ∧ failedOf t = none ∧ (pendingOf t).size = 1 ∧ Up cmp (arrOf t) b.size) (fun x c t _ hx hI=>?_) (fun c t hI=>?_) (.inl ⟨rfl,rfl,hg⟩)) fun c t hI=>?_)
 ·rcases hI with ⟨e1,e2,g2⟩ | ⟨e1,e2,d1⟩
  ·subst e1; subst e2
   dsimp only
   rw [if_neg (by omega)]
   simp only [Nat.sub_zero,Nat.min_self,Nat.zero_add]
   refine wpS_bind (run C g2 (Nat.le_refl _) (by omega) fun r t2 g3 r1 r2 u3=>?_)
   dsimp only
   have fin:∀ t3,Go b κ t3 → Up cmp (arrOf t3) b.size → (arrOf (setPending t3 ((pendingOf t3).push (0,b.size,0)))).Perm b ∧ failedOf (setPending t3 ((pendingOf t3).push (0,b.size,0))) = none ∧ (pendingOf (setPending t3 ((pendingOf t3).push (0,b.size,0)))).size = 1 ∧ Up cmp (arrOf (setPending t3 ((pendingOf t3).push (0,b.size,0)))) b.size :=
    fun t3 g u=>⟨g.pm,g.fa,(by show ((pendingOf t3).push (0,b.size,0)).size = 1; rw [g.pe]; rfl),u⟩
   have nob:∀ t3,Go b κ t3 → (pendingOf t3).back? = none:=fun t3 g=>by rw [g.pe]; rfl
   by_cases hlt:r < b.size
   ·rw [if_pos hlt]
    refine wpS_bind (wpS_lift (wpAny_rule ⟨rfl,?_⟩))
    refine wpS_bind (ins C g3 (Nat.le_refl _) r2 u3 fun t3 g4 u4=>?_)
    simp only [Bool.not_true,Bool.false_eq_true,if_false]
    refine wpS_bind (wpS_get ?_)
    rw [nob t3 g4]
    exact wpS_bind (wpS_modify (wpS_pure (.inr ⟨by omega,rfl,fin t3 g4 u4⟩)))
   ·rw [if_neg hlt]
    have hr:r = b.size:=by omega
    subst hr
    refine wpS_bind (wpS_get ?_)
    rw [nob t2 g3]
    exact wpS_bind (wpS_modify (wpS_pure (.inr ⟨by omega,rfl,fin t2 g3 u3⟩)))
  ·subst e2
   dsimp only
   rw [if_pos (Nat.le_refl _)]
   exact wpS_pure ⟨rfl,d1⟩
 ·rcases hI with ⟨e1,_,_⟩ | ⟨_,e2,d1⟩
  ·omega
  ·exact ⟨e2,d1⟩
 ·obtain ⟨e1,p1,p2,p3,p4⟩:=hI
  subst e1
  dsimp only
  refine wpS_bind (wpS_mono (wpS_forRange (I:=fun _ c t2=>t2 = t ∧ c = (none,())) (Q:=fun c t2=>t2 = t ∧ c = (none,())) (fun x c t2 _ _ hJ=>?_) (fun _ _ hJ=>hJ) ⟨rfl,rfl⟩) fun c t2 hJ=>?_)
  ·obtain ⟨e1,e2⟩:=hJ
   subst e1; subst e2
   refine wpS_bind (wpS_get ?_)
   rw [if_pos (by rw [p3]; exact Nat.le_refl 1)]
   exact wpS_pure ⟨rfl,rfl⟩
  ·obtain ⟨e1,e2⟩:=hJ
   subst e1; subst e2
   exact wpS_pure (k _ p1 p2 p4)
end
noncomputable def PairAt (h:Heap) (v:Value) (q:Int × Int):Prop:=∃ a o n t u,v = .ref a ∧ h.get? a = some o ∧ o.cls = .type "tuple" ∧ o.data = .seq #[.int q.1 t,.int q.2 u] n
theorem PairAt.one {h:Heap} {v:Value} {q r:Int × Int} (x:PairAt h v q) (y:PairAt h v r):q = r:=by
 obtain ⟨a,o,n,t,u,e,e1,_,e2⟩:=x
 obtain ⟨a',o',n',t',u',f,f1,_,f2⟩:=y
 rw [e] at f
 cases f
 rw [e1] at f1
 cases f1
 rw [e2] at f2
 injection f2 with f2 _
 have f3:=congrArg Array.toList f2
 simp only at f3
 injection f3 with g1 g2
 injection g1 with g1 _
 injection g2 with g2 _
 injection g2 with g2 _
 exact Prod.ext g1 g2
noncomputable def lt2 (a b:Int × Int):Bool:=decide (a.1 < b.1 ∨ (a.1 = b.1 ∧ a.2 < b.2))
theorem lt2_iff {a b:Int × Int}:lt2 a b = true ↔ (a.1 < b.1 ∨ (a.1 = b.1 ∧ a.2 < b.2)):=by unfold lt2; exact decide_eq_true_iff
open Classical in
noncomputable def pk (h:Heap) (v:Value):Int × Int:=if e:∃ q,PairAt h v q then e.choose else (0,0)
theorem pk_of {h:Heap} {v:Value} {q:Int × Int} (x:PairAt h v q):pk h v = q:=by
 unfold pk
 have e:∃ q,PairAt h v q:=⟨q,x⟩
 rw [dif_pos e]
 exact e.choose_spec.one x
section
variable {P:Program} {w:World} {A:Around} {E:Value → Shared → Prop} {s:Shared}
theorem keyLt_tup (f:Bool) (x y:Value):keyLt' (tuples' f) x y = (do
  let xs ← Builtin.List.listItems x; let ys ← Builtin.List.listItems y
  for ((p,q),i) in (xs.toList.zip ys.toList).zipIdx do
   if !(← eqBool p q) then return ← oneLt' (f && i == 0) p q
  return decide (xs.size < ys.size)):=rfl
theorem oneLt_ints {f:Bool} {a c:Int} {t u:Tok} {Q:Bool → Shared → Prop} (h:Q (decide (a < c)) s):wpAny (model P w) A (oneLt' f (.int a t) (.int c u)) Q E s:=by
 cases f with
 | true=>exact oneLt_int h
 | false =>
  rw [oneLt'_eq]
  rw [if_neg (by simp)]
  refine wpAny_bind (wpAny_richCompare_same (typeIs_int s a t) (typeIs_int s c u) slot_int_lt (call_int_lt ⟨(fun z=>nomatch z),?_⟩))
  exact wpAny_truthy_bool h
theorem keyLt_pair {f:Bool} {x y:Value} {q r:Int × Int} {Q:Bool → Shared → Prop} (hx:PairAt s.heap x q) (hy:PairAt s.heap y r) (h:Q (lt2 q r) s):wpAny (model P w) A (keyLt' (tuples' f) x y) Q E s:=by
 obtain ⟨a,o,n,t,u,rfl,e1,_,e2⟩:=hx
 obtain ⟨a',o',n',t',u',rfl,f1,_,f2⟩:=hy
 rw [keyLt_tup]
 refine wpAny_bind (listItems_at e1 e2 (wpAny_bind (listItems_at f1 f2 ?_)))
 simp only [List.zip_cons_cons,List.zip_nil_right,List.zipIdx_cons,List.zipIdx_nil,List.forIn_cons,List.forIn_nil]
 refine wpAny_bind (wpAny_bind (wpAny_bind (wpAny_eqBool_int ?_)))
 by_cases e:q.1 = r.1
 ·rw [show (q.1 == r.1) = true by simpa using e]
  rw [if_neg (by simp)]
  refine wpAny_pure (wpAny_bind (wpAny_bind (wpAny_eqBool_int ?_)))
  by_cases e':q.2 = r.2
  ·rw [show (q.2 == r.2) = true by simpa using e']
   rw [if_neg (by simp)]
   refine wpAny_pure (wpAny_pure (wpAny_pure ?_))
   have:lt2 q r = false:=by unfold lt2; rw [e,e']; simp
   rw [this] at h
   exact h
  ·rw [show (q.2 == r.2) = false by simpa using e']
   rw [if_pos (by rfl)]
   refine wpAny_bind (oneLt_ints (wpAny_pure (wpAny_pure (wpAny_pure ?_))))
   have:lt2 q r = decide (q.2 < r.2):=by unfold lt2; rw [e]; simp
   rw [this] at h
   exact h
 ·rw [show (q.1 == r.1) = false by simpa using e]
  rw [if_pos (by rfl)]
  refine wpAny_bind (oneLt_ints (wpAny_pure (wpAny_pure (wpAny_pure ?_))))
  have:lt2 q r = decide (q.1 < r.1):=by unfold lt2; simp [e]
  rw [this] at h
  exact h
end
structure Prs (h:Heap) (vs:List Value):Prop where
 all:∀ v ∈ vs,∃ q,PairAt h v q
 nd:(vs.map (pk h)).Nodup
noncomputable def cmpP (h:Heap) (x y:Keyed):Bool:=lt2 (pk h x.1) (pk h y.1)
section
variable {P:Program} {w:World} {A:Around} {E:Value → Shared → Prop} {s:Shared}
theorem askP {b:Array Keyed} {f:Bool} (hb:∀ x ∈ b.toList,∃ q,PairAt s.heap x.1 q) (st:SortSt) (i j:Nat) (x y:Keyed) (Q:Option Bool → SortSt → Prop) (hg:Go b (tuples' f) st) (ei:(arrOf st)[i]? = some x) (ej:(arrOf st)[j]? = some y) (k:Q (some (cmpP s.heap x y)) st):wpS (model P w) A E s (ltAt' i j) Q st:=by
 obtain ⟨q,hq⟩:=hb x (hg.mem ei).1
 obtain ⟨r,hr⟩:=hb y (hg.mem ej).1
 unfold cmpP at k
 rw [pk_of hq,pk_of hr] at k
 rw [ltAt'_eq]
 refine wpS_bind (wpS_get ?_)
 show wpS _ _ _ _ (elem' (arrOf st) i >>= fun x=>elem' (arrOf st) j >>= fun y=>lt' x y) Q st
 rw [elem'_eq,elem'_eq,ei,ej]
 refine wpS_bind (wpS_pure (wpS_bind (wpS_pure ?_)))
 rw [lt'_eq]
 refine wpS_bind (wpS_get ?_)
 rw [hg.kd]
 exact wpS_bind (wpS_lift (wpAny_attempt (keyLt_pair hq hr ⟨rfl,wpS_pure k⟩)))
theorem cpP {vs:List Value} (hv:Prs s.heap vs) (f:Bool):Cp P w A E s (pairsOf vs) (tuples' f) (cmpP s.heap):=by
 have el:∀ x ∈ (pairsOf vs).toList,x.1 ∈ vs ∧ x = (x.1,x.1):=fun x hx=>by
  rw [pairsOf_toList] at hx
  obtain ⟨i,hi,e⟩:=List.mem_iff_getElem.mp hx
  rw [List.getElem_zip] at e
  have e1:x.1 = vs[i]'(by rw [List.length_zip] at hi; omega):=by rw [← e]
  rw [e1]
  exact ⟨List.getElem_mem _,e.symm⟩
 have hb:∀ x ∈ (pairsOf vs).toList,∃ q,PairAt s.heap x.1 q:=fun x hx=>hv.all _ (el x hx).1
 have hnv:vs.Nodup:=by
  refine List.pairwise_iff_getElem.mpr fun i j hi hj hij e=>?_
  have:=List.pairwise_iff_getElem.mp hv.nd i j (by simpa using hi) (by simpa using hj) hij
  rw [List.getElem_map,List.getElem_map,e] at this
  exact this rfl
 refine ⟨askP hb,?_,fun x _ y _ z _ h1 h2=>?_,fun x hx y hy hne h=>?_⟩
 ·rw [pairsOf_toList]
  refine List.pairwise_iff_getElem.mpr fun i j hi hj hij e=>?_
  rw [List.getElem_zip,List.getElem_zip] at e
  have e1:=congrArg Prod.fst e
  simp only [List.length_zip] at hi hj
  exact List.pairwise_iff_getElem.mp hnv i j (by omega) (by omega) hij e1
 ·unfold cmpP at *
  rw [lt2_iff] at *
  omega
 ·unfold cmpP at *
  have hpk:pk s.heap x.1 ≠ pk s.heap y.1:=fun e=>by
   apply hne
   obtain ⟨mx,ex⟩:=el x hx
   obtain ⟨my,ey⟩:=el y hy
   obtain ⟨i,hi,e1⟩:=List.mem_iff_getElem.mp mx
   obtain ⟨j,hj,e2⟩:=List.mem_iff_getElem.mp my
   have hij:i = j:=by
    rcases Nat.lt_trichotomy i j with q | q | q
    ·have:=List.pairwise_iff_getElem.mp hv.nd i j (by simpa using hi) (by simpa using hj) q
     rw [List.getElem_map,List.getElem_map,e1,e2] at this
     exact absurd e this
    ·exact q
    ·have:=List.pairwise_iff_getElem.mp hv.nd j i (by simpa using hj) (by simpa using hi) q
     rw [List.getElem_map,List.getElem_map,e1,e2] at this
     exact absurd e.symm this
   subst hij
   rw [ex,ey,← e1,← e2]
  rw [lt2_iff]
  have h':¬ ((pk s.heap y.1).1 < (pk s.heap x.1).1 ∨ ((pk s.heap y.1).1 = (pk s.heap x.1).1 ∧ (pk s.heap y.1).2 < (pk s.heap x.1).2)):=fun z=>by
   rw [lt2_iff.mpr z] at h
   cases h
  have:(pk s.heap x.1).1 ≠ (pk s.heap y.1).1 ∨ (pk s.heap x.1).2 ≠ (pk s.heap y.1).2:=by
   by_cases q1:(pk s.heap x.1).1 = (pk s.heap y.1).1
   ·exact .inr fun q2=>hpk (Prod.ext q1 q2)
   ·exact .inl q1
  omega
theorem firstP {v:Value} {q:Int × Int} {Q:Option Value → Shared → Prop} (hv:PairAt s.heap v q) (h:∀ t,Q (some (.int q.1 t)) s):wpAny (model P w) A (firstOfTuple' v) Q E s:=by
 obtain ⟨a,o,n,t,u,rfl,e1,e2,e3⟩:=hv
 show wpAny _ _ (typeOf (.ref a) >>= fun T=>if (T != .type "tuple") = true then pure none else do return (← Builtin.List.listItems (.ref a))[0]?) _ _ _
 refine wpAny_bind (wpAny_typeOf (T := "tuple") ⟨o,e1,e2⟩ ?_)
 rw [if_neg (by simp)]
 exact wpAny_bind (listItems_at e1 e3 (wpAny_pure (h t)))
theorem firstsP:∀ {vs:List Value} {Q:List (Option Value) → Shared → Prop},(∀ v ∈ vs,∃ q,PairAt s.heap v q) → (∀ (fs:List Value) (ns:List Int),IntsAre fs ns → fs.length = vs.length → Q (fs.map some) s) → wpAny (model P w) A (vs.mapM firstOfTuple') Q E s
 | [],Q,_,h=>by
  rw [List.mapM_nil]
  exact wpAny_pure (h [] [] .nil rfl)
 | v :: vs,Q,hv,h=>by
  rw [List.mapM_cons]
  obtain ⟨q,hq⟩:=hv v List.mem_cons_self
  refine wpAny_bind (firstP hq fun t=>wpAny_bind (firstsP (fun u hu=>hv u (List.mem_cons_of_mem _ hu)) fun fs ns a c=>wpAny_pure ?_))
  exact h (.int q.1 t :: fs) (q.1 :: ns) (.cons q.1 t a) (by rw [List.length_cons,List.length_cons,c])
theorem kindP {v₁ v₂:Value} {r:List Value} {Q:SortKind → Shared → Prop} (hv:∀ v ∈ v₁ :: v₂ :: r,∃ q,PairAt s.heap v q) (h:Q (tuples' true) s):wpAny (model P w) A (keyKind' (v₁ :: v₂ :: r).toArray) Q E s:=by
 rw [keyKind'_eq,List.mapM_toArray]
 refine wpAny_bind ?_
 rw [map_eq_pure_bind]
 refine wpAny_bind (firstsP hv fun fs ns a c=>wpAny_pure ?_)
 have h1:((fs.map some).toArray.all fun x=>x.isSome) = true:=by simp
 rw [if_pos h1]
 have h2:(fs.map some).toArray.filterMap id = fs.toArray:=by
  simp
 refine wpAny_bind (wpAny_rule ?_)
 rw [h2,oneTypeOnly'_eq,List.mapM_toArray,mapM_typeOf_ints a]
 simp only [map_pure,pure_bind]
 obtain ⟨f0,fr,rfl⟩:∃ f0 fr,fs = f0 :: fr:=by
  cases fs with
  | nil=>simp at c
  | cons f0 fr=>exact ⟨f0,fr,rfl⟩
 have h3:((f0 :: fr).map fun _=>Value.type "int").toArray[0]? = some (.type "int"):=by simp
 rw [h3]
 have h4:(((f0 :: fr).map fun _=>Value.type "int").toArray.all fun x=>x == Value.type "int") = true:=by
  simp only [List.all_toArray,List.all_map,List.all_eq_true]
  exact fun _ _=>rfl
 simp only [h4,if_true,pure_bind]
 exact wpAny_pure h
end
section
variable {P:Program} {w:World} {A:Around} {E:Value → Shared → Prop} {s:Shared}
theorem PairAt.to {h h':Heap} {v:Value} {q:Int × Int} (x:PairAt h v q) (k:∀ a o,h.get? a = some o → o.cls = .type "tuple" → h'.get? a = some o):PairAt h' v q:=by
 obtain ⟨a,o,n,t,u,e,e1,e2,e3⟩:=x
 exact ⟨a,o,n,t,u,e,k a o e1 e2,e2,e3⟩
theorem Prs.to {h h':Heap} {vs:List Value} (x:Prs h vs) (k:∀ a o,h.get? a = some o → o.cls = .type "tuple" → h'.get? a = some o):Prs h' vs ∧ ∀ v ∈ vs,pk h' v = pk h v:=by
 have e:∀ v ∈ vs,pk h' v = pk h v:=fun v hv=>by
  obtain ⟨q,hq⟩:=x.all v hv
  rw [pk_of hq,pk_of (hq.to k)]
 refine ⟨⟨fun v hv=>?_,?_⟩,e⟩
 ·obtain ⟨q,hq⟩:=x.all v hv
  exact ⟨q,hq.to k⟩
 ·rw [List.map_congr_left e]
  exact x.nd
theorem sortP {a:Addr} {vs:List Value} {n:Nat} {F:Fin → Shared → Prop} (ho:s.heap.get? a = some (seqObj "list" vs.toArray n)) (hv:Prs s.heap vs) (h64:vs.length < 64)
  (h:∀ out:Array Value,out.toList.Perm vs → (out.toList.map (pk s.heap)).Pairwise (fun x y=>lt2 x y = true) → F (.done (.ret .none)) { s with heap:=sortedHeap s.heap a vs out }) :
  wpAny (model P w) A (Builtin.«list.sort» ⟨[.ref a],[]⟩) F E s:=by
 rw [list_sort_plain]
 have la:a < s.heap.objs.size:=Heap.lt_size ho
 obtain ⟨ep,hu⟩:∃ ep,(s.heap.update a (Obj.mapSeq fun _=>#[])).get? a = some (seqObj "list" #[] ep):=⟨_,get?_update_seq ho (fun _=>#[])⟩
 refine wpAny_bind (listItems_at ho rfl (wpAny_bind (listUpdate_at ho rfl (wpAny_bind (seqEpoch_at hu rfl (wpAny_bind (wpAny_newTuple (wpAny_bind (wpAny_newList (wpAny_holding ?_))))))))))
 obtain ⟨g,hgd⟩:∃ g,g = ((s.heap.update a (Obj.mapSeq fun _=>#[])).push (seqObj "tuple" vs.toArray 0)).push (seqObj "list" #[] 0):=⟨_,rfl⟩
 have ne1:a ≠ (s.heap.update a (Obj.mapSeq fun _=>#[])).objs.size:=by rw [Heap.size_update]; exact Nat.ne_of_lt la
 have h6:g.get? a = some (seqObj "list" #[] ep):=by
  rw [hgd,Heap.get?_push_ne _ _ _ (by rw [size_push',Heap.size_update]; exact Nat.ne_of_lt (Nat.lt_succ_of_lt la)),Heap.get?_push_ne _ _ _ ne1]
  exact hu
 have kp:∀ c o,s.heap.get? c = some o → o.cls = .type "tuple" → g.get? c = some o:=fun c o e1 e2=>by
  have hca:c ≠ a:=fun z=>by
   subst z
   rw [ho] at e1
   cases e1
   have e3:Value.type "list" = Value.type "tuple" := e2
   injection e3 with e3
   exact absurd e3 (by decide)
  rw [hgd]
  exact Heap.get?_push_of_some _ (Heap.get?_push_of_some _ (by rw [Heap.get?_update_ne _ _ _ _ hca]; exact e1))
 obtain ⟨hv6,hpk⟩:=hv.to kp
 show wpAny (model P w) A _ F E { s with heap:=((s.heap.update a (Obj.mapSeq fun _=>#[])).push (seqObj "tuple" vs.toArray 0)).push (seqObj "list" #[] 0) }
 rw [← hgd]
 dsimp only
 have hsz:vs.toArray.size = vs.length:=by simp
 have fin:∀ out:Array Value,out.toList.Perm vs → (out.toList.map (pk s.heap)).Pairwise (fun x y=>lt2 x y = true) → F (.done (.ret .none)) { s with heap:=g.update a (Obj.mapSeq fun _=>out) }:=fun out p1 p2=>by
  rw [hgd]
  exact h out p1 p2
 by_cases h2:vs.toArray.size < 2
 ·rw [if_pos h2,if_pos h2]
  refine wpAny_bind (wpAny_pure ?_)
  rw [StateT.run_pure]
  refine wpAny_bind (wpAny_pure ?_)
  dsimp only
  refine wpAny_bind (seqEpoch_at h6 rfl (wpAny_bind (listUpdate_at h6 rfl ?_ (hsz2:=by rw [Array.size_map]; show (pairsOf vs).size ≤ _; rw [pairsOf_size,sizeLine_eq]; omega))))
  simp only [bne_self_eq_false,Bool.false_eq_true,if_false]
  have e0:((vs.toArray.zip vs.toArray).map (·.2)).toList = vs:=by
   have:=List.map_snd_zip (Nat.le_refl vs.length)
   simpa using this
  refine wpAny_pure (fin _ (by rw [e0]) ?_)
  rw [e0]
  refine List.pairwise_iff_getElem.mpr fun i j hi hj hij=>?_
  rw [List.length_map] at hi hj
  omega
 ·rw [if_neg h2,if_neg h2]
  obtain ⟨v₁,v₂,r,rfl⟩:∃ v₁ v₂ r,vs = v₁ :: v₂ :: r:=by
   match vs,hsz,h2 with
   | [],_,h2=>simp at h2
   | [_],_,h2=>simp at h2
   | v₁ :: v₂ :: r,_,_=>exact ⟨v₁,v₂,r,rfl⟩
  refine wpAny_bind (kindP (s:={ s with heap:=g }) hv6.all ?_)
  have C:=cpP (P:=P) (w:=w) (A:=A) (E:=E) (s:={ s with heap:=g }) hv6 true
  refine wpAny_bind (wpAny_mono (runs C (st:=SortSt.mk' (tuples' true) ((v₁ :: v₂ :: r).toArray.zip (v₁ :: v₂ :: r).toArray) #[] 7 none)
   (Q:=fun _ t=>(arrOf t).Perm (pairsOf (v₁ :: v₂ :: r)) ∧ failedOf t = none ∧ Up (cmpP g) (arrOf t) (pairsOf (v₁ :: v₂ :: r)).size)
   ⟨rfl,Array.Perm.refl _,rfl,rfl⟩ (by rw [pairsOf_size]; simp) (by rw [pairsOf_size]; exact h64) fun t a1 a2 a3=>⟨a1,a2,a3⟩) ?_ fun _ _ e=>e)
  rintro ⟨⟨⟩,t⟩ s' ⟨es,hp,hf,hup⟩
  subst es
  dsimp only
  refine wpAny_bind (seqEpoch_at h6 rfl (wpAny_bind (listUpdate_at h6 rfl ?_ (hsz2:=by refine Nat.le_trans (Nat.le_of_eq ((Array.size_map ..).trans (hp.size_eq.trans (pairsOf_size _)))) ?_; rw [sizeLine_eq]; omega))))
  rw [hf]
  simp only [bne_self_eq_false,Bool.false_eq_true,if_false]
  have hpl:(arrOf t).toList.Perm ((v₁ :: v₂ :: r).zip (v₁ :: v₂ :: r)):=by
   have:=Array.perm_iff_toList_perm.mp hp
   rwa [pairsOf_toList] at this
  have eq12:∀ x ∈ (arrOf t).toList,x.1 = x.2 ∧ x.2 ∈ v₁ :: v₂ :: r:=fun x hx=>by
   have hm:=hpl.mem_iff.mp hx
   obtain ⟨i,hi,e⟩:=List.mem_iff_getElem.mp hm
   rw [List.getElem_zip] at e
   rw [← e]
   exact ⟨rfl,List.getElem_mem _⟩
  have e2:((arrOf t).map (·.2)).toList = (arrOf t).toList.map (·.2):=by simp
  refine wpAny_pure (fin _ ?_ ?_)
  ·rw [e2]
   have:=hpl.map Prod.snd
   rwa [List.map_snd_zip (Nat.le_refl _)] at this
  ·rw [e2,List.map_map]
   refine List.pairwise_iff_getElem.mpr fun i j hi hj hij=>?_
   rw [List.length_map] at hi hj
   rw [List.getElem_map,List.getElem_map]
   have hi':i < (arrOf t).size:=by simpa using hi
   have hj':j < (arrOf t).size:=by simpa using hj
   have:=hup i j (arrOf t)[i] (arrOf t)[j] hij (by rw [← hp.size_eq]; exact hj') (getElem?_pos _ i hi') (getElem?_pos _ j hj')
   have m1:=eq12 (arrOf t)[i] (by simp)
   have m2:=eq12 (arrOf t)[j] (by simp)
   unfold cmpP at this
   rw [m1.1,m2.1,hpk _ m1.2,hpk _ m2.2] at this
   simpa using this
theorem sortedP {l:Addr} {vs:List Value} {Q:Value → Shared → Prop} (hl:s.heap.IsList l vs.toArray) (hv:Prs s.heap vs) (h64:vs.length < 64)
  (h:∀ out:Array Value,out.toList.Perm vs → (out.toList.map (pk s.heap)).Pairwise (fun x y=>lt2 x y = true) → Q (.ref (s.heap.objs.size + 1)) { s with heap:=sortedAll s.heap vs out }) :
  wpAny (model P w) A (call (.builtin "sorted") [.ref l]) Q E s:=by
 refine Calls.call_function_entry kind_sorted plain_sorted entry_sorted (args_sorted1 _) ?_
 unfold Builtin.«sorted»
 refine wpAny_bind (m:=checkCount "sorted" 1 1 _) (wpAny_pure (wpAny_bind (collect_list hl (wpAny_bind (wpAny_newList ?_)))))
 have hsz:((s.heap.push (seqObj "list" #[] 0)).update s.heap.objs.size (Obj.mapSeq (· ++ vs.toArray))).objs.size = s.heap.objs.size + 1:=by rw [Heap.size_update,size_push']
 obtain ⟨g,hg⟩:∃ g,g = ((s.heap.push (seqObj "list" #[] 0)).update s.heap.objs.size (Obj.mapSeq (· ++ vs.toArray))).push (seqObj "list" vs.toArray 0):=⟨_,rfl⟩
 have hoL:g.get? (s.heap.objs.size + 1) = some (seqObj "list" vs.toArray 0):=by
  rw [← hsz,hg]; exact Heap.get?_push_size _ rfl
 have kp:∀ c o,s.heap.get? c = some o → o.cls = .type "tuple" → g.get? c = some o:=fun c o e1 _=>by
  have lc:=Heap.lt_size e1
  rw [hg]
  refine Heap.get?_push_of_some _ ?_
  rw [Heap.get?_update_ne _ _ _ _ (Nat.ne_of_lt lc)]
  exact Heap.get?_push_of_some _ e1
 obtain ⟨hv2,hpk⟩:=hv.to kp
 show wpAny _ _ _ _ _ { s with heap:=((s.heap.push (seqObj "list" #[] 0)).update s.heap.objs.size (Obj.mapSeq (· ++ vs.toArray))).push (seqObj "list" vs.toArray 0) }
 rw [hsz,← hg]
 refine wpAny_bind (wpAny_holding (wpAny_call_entry slot_list_sort ⟨_,hoL,rfl⟩ entry_list_sort (sortP (s:={ s with heap:=g }) hoL hv2 h64 fun out p1 p2=>⟨_,rfl,?_⟩) (args_list_sort _)))
 refine wpAny_pure ⟨_,rfl,?_⟩
 have p3:(out.toList.map (pk s.heap)).Pairwise (fun x y=>lt2 x y = true):=by
  rw [← List.map_congr_left fun v hv=>hpk v (p1.mem_iff.mp hv)]
  exact p2
 have:=h out p1 p3
 unfold sortedAll at this
 rw [hg]
 exact this
end
end SoT
namespace SoT
noncomputable def le2 (a b:Int × Int):Bool:=!lt2 b a
noncomputable def srt (ps:List (Int × Int)):List (Int × Int):=ps.mergeSort le2
theorem le2_iff {a b:Int × Int}:le2 a b = true ↔ ¬ (b.1 < a.1 ∨ (b.1 = a.1 ∧ b.2 < a.2)):=by
 unfold le2 lt2
 rw [Bool.not_eq_true',decide_eq_false_iff_not]
theorem le2_tr (a b c:Int × Int) (h1:le2 a b = true) (h2:le2 b c = true):le2 a c = true:=by rw [le2_iff] at *; omega
theorem le2_to (a b:Int × Int):(le2 a b || le2 b a) = true:=by rw [Bool.or_eq_true,le2_iff,le2_iff]; omega
theorem le2_an {a b:Int × Int} (h1:le2 a b = true) (h2:le2 b a = true):a = b:=by
 rw [le2_iff] at *
 exact Prod.ext (by omega) (by omega)
theorem srt_one:∀ {l m:List (Int × Int)},l.Perm m → l.Pairwise (fun a b=>le2 a b = true) → m.Pairwise (fun a b=>le2 a b = true) → l = m
 | [],m,h,_,_=>by rw [List.nil_perm.mp h]
 | a :: l,[],h,_,_=>by exact absurd (List.perm_nil.mp h) (by simp)
 | a :: l,b :: m,h,h1,h2=>by
  have self:∀ x:Int × Int,le2 x x = true:=fun x=>by rw [le2_iff]; omega
  have hab:le2 a b = true:=by
   rcases List.mem_cons.mp (h.mem_iff.mpr (List.mem_cons_self (a:=b) (l:=m))) with e | e
   ·rw [e]; exact self a
   ·exact List.rel_of_pairwise_cons h1 e
  have hba:le2 b a = true:=by
   rcases List.mem_cons.mp (h.mem_iff.mp (List.mem_cons_self (a:=a) (l:=l))) with e | e
   ·rw [e]; exact self b
   ·exact List.rel_of_pairwise_cons h2 e
  have e:=le2_an hab hba
  subst e
  rw [srt_one (List.Perm.cons_inv h) (List.pairwise_cons.mp h1).2 (List.pairwise_cons.mp h2).2]
theorem srt_perm (ps:List (Int × Int)):(srt ps).Perm ps:=List.mergeSort_perm ps le2
theorem srt_up (ps:List (Int × Int)):(srt ps).Pairwise (fun a b=>le2 a b = true):=List.pairwise_mergeSort le2_tr le2_to ps
theorem srt_eq {l ps:List (Int × Int)} (hp:l.Perm ps) (h:l.Pairwise (fun a b=>lt2 a b = true)):l = srt ps :=
 srt_one (hp.trans (srt_perm ps).symm) (h.imp fun {a b} z=>by rw [lt2_iff] at z; rw [le2_iff]; omega) (srt_up ps)
end SoT
namespace L2
open PySem PySem.Spec PyProof.Rows SoT
noncomputable def PrV (H:Hp):List V → List (Int × Int) → Prop
 | [],[]=>True
 | v :: vs,q :: qs=>(∃ a,v = .ref a ∧ H a = some (.tup [.int q.1,.int q.2])) ∧ PrV H vs qs
 | _,_=>False
section
variable {X:Cx} {pins:List (Addr × Obj)} {σ:List (Option V)} {s:Shared} {H:Hp}
theorem pair_at (I:Inv X pins σ H s) {a:Addr} {q:Int × Int} (h:H a = some (.tup [.int q.1,.int q.2])):PairAt s.heap (.ref a) q:=by
 obtain ⟨its,rv,⟨o,e1,e2,n,e3⟩,_⟩:=I.tuple (X:=X) (xs:=[.int q.1,.int q.2]) (.inl (.inl h))
 cases rv with
 | cons r1 rv =>
  cases rv with
  | cons r2 rv =>
   cases rv
   obtain ⟨t,rfl⟩:=r1
   obtain ⟨u,rfl⟩:=r2
   exact ⟨a,o,n,t,u,rfl,e1,e2,e3⟩
theorem prs_at (I:Inv X pins σ H s):∀ {ys:List V} {its:List Value} {ps:List (Int × Int)},Vals ys its → PrV H ys ps → its.map (pk s.heap) = ps ∧ (∀ v ∈ its,∃ q,PairAt s.heap v q) ∧ ∀ v ∈ its,∃ a,v = .ref a ∧ V.ref a ∈ ys ∧ H a = some (.tup [.int (pk s.heap v).1,.int (pk s.heap v).2])
 | [],_,[],.nil,_=>⟨rfl,(fun v h=>by cases h),(fun v h=>by cases h)⟩
 | [],_,_ :: _,.nil,h=>h.elim
 | y :: ys,_,[],.cons _ _,h=>h.elim
 | y :: ys,_,q :: ps,.cons r rv,h=>by
  obtain ⟨⟨a,rfl,ha⟩,h2⟩:=h
  cases (show _ = Value.ref a from r)
  obtain ⟨i1,i2,i3⟩:=prs_at I rv h2
  have e:=pk_of (pair_at I ha)
  refine ⟨by rw [List.map_cons,i1,e],fun v hv=>?_,fun v hv=>?_⟩
  ·rcases List.mem_cons.mp hv with rfl | hv
   ·exact ⟨q,pair_at I ha⟩
   ·exact i2 v hv
  ·rcases List.mem_cons.mp hv with rfl | hv
   ·exact ⟨a,rfl,List.mem_cons_self,by rw [e]; exact ha⟩
   ·obtain ⟨b,e1,e2,e3⟩:=i3 v hv
    exact ⟨b,e1,List.mem_cons_of_mem _ e2,e3⟩
theorem prv_back {h:Heap} {ys:List V}:∀ {vs:List Value},(∀ v ∈ vs,∃ a,v = .ref a ∧ V.ref a ∈ ys ∧ H a = some (.tup [.int (pk h v).1,.int (pk h v).2])) → ∃ zs,Vals zs vs ∧ PrV H zs (vs.map (pk h)) ∧ ∀ z ∈ zs,z ∈ ys
 | [],_=>⟨[],.nil,trivial,fun z hz=>by cases hz⟩
 | v :: vs,hv=>by
  obtain ⟨a,rfl,m,e⟩:=hv v List.mem_cons_self
  obtain ⟨zs,z1,z2,z3⟩:=prv_back (vs:=vs) fun u hu=>hv u (List.mem_cons_of_mem _ hu)
  exact ⟨.ref a :: zs,.cons rfl z1,⟨⟨a,rfl,e⟩,z2⟩,fun z hz=>by
   rcases List.mem_cons.mp hz with rfl | hz
   ·exact m
   ·exact z3 z hz⟩
theorem call_sortT:CallR X (.builtin "sorted") (fun xs H Q=>∃ (p:Addr) (ys:List V) (ps:List (Int × Int)),xs = [.ref p] ∧ SqL X.K H p ys ∧ PrV H ys ps ∧ ps.Nodup ∧ ps.length < 64 ∧ ∀ l zs,H l = none → PrV H zs (srt ps) → (∀ z ∈ zs,z ∈ ys) → Q (.ref l) (upd H l (.lst zs))):=by
 intro pins s σ H xs us Q I r h
 obtain ⟨p,ys,ps,rfl,hq,hp,hn,h64,k⟩:=h
 obtain ⟨u,rfl,rx⟩:=vals1 r
 cases rx
 obtain ⟨its,rv,pl,hz⟩:=I.list hq
 obtain ⟨i1,i2,i3⟩:=prs_at I rv hp
 have hl:its.length = ps.length:=by rw [← i1,List.length_map]
 refine sortedP pl.isList ⟨i2,by rw [i1]; exact hn⟩ (by omega) fun out p1 p2=>?_
 have hs:out.toList.map (pk s.heap) = srt ps:=by
  refine srt_eq ?_ p2
  have:=p1.map (pk s.heap)
  rwa [i1] at this
 obtain ⟨zs,z1,z2,z3⟩:=prv_back (H:=H) (h:=s.heap) (ys:=ys) (vs:=out.toList) fun v hv=>i3 v (p1.mem_iff.mp hv)
 rw [hs] at z2
 obtain ⟨e,he⟩:=sortedAll_at s.heap its out
 have hfr:H (s.heap.objs.size + 1) = none:=I.hok.fresh (Nat.le_succ _)
 refine ⟨.ref (s.heap.objs.size + 1),_,I.laid (t':=s.toks) (a:=s.heap.objs.size + 1) (o:=.lst zs) (fun b o hb=>sortedAll_old hb) (Nat.le_succ _) ⟨?_,out.toList,e,z1,he⟩,rfl,k _ zs hfr z2 z3⟩
 rw [z1.length,p1.length_eq]
 rw [rv.length] at hz
 exact hz
end
end L2
namespace DL
open PySem PySem.Spec PyProof.Rows L2 SoT
noncomputable def pD (q:Int × Int):D:=.tup [.int q.1,.int q.2]
noncomputable def prsD:List D → Option (List (Int × Int))
 | []=>some []
 | .tup [.int i,.int j] :: ds=>(prsD ds).map fun r=>(i,j) :: r
 | _=>none
noncomputable def sortTD:List D → Option D
 | [.lst ds]=>(prsD ds).bind fun ps=>if ps.Nodup ∧ ps.length < 64 then some (.lst ((srt ps).map pD)) else none
 | _=>none
theorem prsD_of:∀ ps:List (Int × Int),prsD (ps.map pD) = some ps
 | []=>rfl
 | q :: ps=>by show (prsD (ps.map pD)).map _ = _; rw [prsD_of ps]; rfl
theorem sort_of {ps:List (Int × Int)} (h1:ps.Nodup) (h2:ps.length < 64):sortTD [.lst (ps.map pD)] = some (.lst ((srt ps).map pD)):=by
 show (prsD (ps.map pD)).bind _ = _
 rw [prsD_of,Option.bind_some,if_pos ⟨h1,h2⟩]
section
variable {K:W.Frag} {H:Hp} {B:BS}
theorem prv_of:∀ {ds:List D} {ys:List V} {ps:List (Int × Int)},Rps K H B ds ys → prsD ds = some ps → PrV H ys ps ∧ ∀ y ∈ ys,∃ a,y = .ref a ∧ ¬ B a
 | [],ys,ps,r,h=>by
  rw [rps_nil] at r
  subst r
  cases h
  exact ⟨trivial,fun y hy=>by cases hy⟩
 | d :: ds,ys,ps,r,h=>by
  rw [rps_cons] at r
  obtain ⟨x,t,rfl,r1,r2⟩:=r
  unfold prsD at h
  split at h
  ·rename_i e; cases e
  ·rename_i i j ds' e
   injection e with e1 e2
   subst e1; subst e2
   obtain ⟨rs,e3,rfl⟩:=Option.map_eq_some_iff.mp h
   obtain ⟨i1,i2⟩:=prv_of r2 e3
   rw [rp_tup] at r1
   obtain ⟨a,xs,rfl,hq,rr⟩:=r1
   rw [rps_cons] at rr
   obtain ⟨x1,t1,rfl,q1,rr⟩:=rr
   rw [rps_cons] at rr
   obtain ⟨x2,t2,rfl,q2,rr⟩:=rr
   rw [rps_nil] at rr
   subst rr
   rw [rp_int] at q1 q2
   subst q1; subst q2
   exact ⟨⟨⟨a,rfl,hq.2⟩,i1⟩,fun y hy=>by
    rcases List.mem_cons.mp hy with rfl | hy
    ·exact ⟨a,rfl,hq.1⟩
    ·exact i2 y hy⟩
  ·cases h
theorem prv_live:∀ {zs:List V} {qs:List (Int × Int)} {a:Addr},PrV H zs qs → V.ref a ∈ zs → H a ≠ none
 | [],_,_,_,hz=>by cases hz
 | _ :: _,[],_,h,_=>h.elim
 | z :: zs,q :: qs,a,h,hz=>by
  obtain ⟨⟨b,e,hb⟩,h2⟩:=h
  rcases List.mem_cons.mp hz with e2 | hz
  ·rw [e] at e2
   cases e2
   rw [hb]
   exact fun z=>nomatch z
  ·exact prv_live h2 hz
theorem rps_of:∀ {zs:List V} {qs:List (Int × Int)},PrV H zs qs → (∀ z ∈ zs,∃ a,z = .ref a ∧ ¬ B a) → Rps K H B (qs.map pD) zs
 | [],[],_,_=>by rw [List.map_nil,rps_nil]
 | [],_ :: _,h,_=>h.elim
 | _ :: _,[],h,_=>h.elim
 | z :: zs,q :: qs,h,hb=>by
  obtain ⟨⟨a,rfl,ha⟩,h2⟩:=h
  rw [List.map_cons,rps_cons]
  refine ⟨_,_,rfl,?_,rps_of h2 fun y hy=>hb y (List.mem_cons_of_mem _ hy)⟩
  obtain ⟨b,e,nb⟩:=hb _ List.mem_cons_self
  cases e
  unfold pD
  rw [rp_tup]
  refine ⟨a,_,rfl,⟨nb,ha⟩,?_⟩
  rw [rps_cons]
  refine ⟨_,_,rfl,by rw [rp_int],?_⟩
  rw [rps_cons]
  exact ⟨_,_,rfl,by rw [rp_int],by rw [rps_nil]⟩
end
section
variable {X:Cx} {e:Expr} {pos p:Pos} {g:Ds → Option D}
theorem pdf_sortT (hm:X.mg "sorted" = none) (hv:bootBuiltins "sorted" = some (.builtin "sorted")) (ha:PD X e g) (hg:Gl X "sorted" := by rfl)
  (he:starEach [e] X.env = (false,eval e X.env) :: starEach [] X.env:=by rfl) (hpl:(backTo pos (starEach [] X.env)).any (·.1) = false:=by rfl) :
  PDF X (.Call (.Name "sorted" p) [e] [] pos) (oA (consA g nilA) sortTD):=.mk fun B δ=>(pe_callB call_sortT hg hm hv (pa_cons (ha B δ) pa_nil he) (by decide) (by decide) he hpl).imp fun σ H Q ⟨d,en,h,k⟩=>by
 unfold oA consA nilA at h
 cases e1:g δ with
 | none=>rw [e1] at h; cases h
 | some x =>
  rw [e1] at h
  simp only [Option.bind_some,Option.map_some] at h
  refine ⟨x,en,e1,fun v H1 s1 r1=>?_⟩
  unfold sortTD at h
  split at h
  ·rename_i ds he1
   injection he1 with he1
   subst he1
   cases e2:prsD ds with
   | none=>rw [e2] at h; cases h
   | some ps =>
    rw [e2] at h
    simp only [Option.bind_some] at h
    split at h
    ·rename_i hz
     cases h
     rw [rp_lst] at r1
     obtain ⟨q,ys,rfl,hq,rr⟩:=r1
     obtain ⟨v1,v2⟩:=prv_of rr e2
     refine ⟨q,ys,ps,rfl,hq.to,v1,hz.1,hz.2,fun l zs hl' hzs hin=>?_⟩
     refine k l _ (s1.free hl') (s1.trans (same_upd hl')) ⟨zs,upd_same,?_⟩
     refine Rps.same (same_upd hl') (rps_of hzs fun z hz=>?_)
     obtain ⟨a,rfl,nb⟩:=v2 z (hin z hz)
     refine ⟨a,rfl,fun q=>q.elim nb fun q=>?_⟩
     subst q
     exact prv_live hzs hz hl'
    ·cases h
  ·cases h
end
end DL
namespace DL
open PySem PySem.Spec PyProof.Rows L2
noncomputable def inXD (neg:Bool):D → D → Option D
 | x,.lst ys=>if lean x 50 = true ∧ leans ys 50 = true then some (.bl (xor neg (ys.any fun y=>deq y x))) else none
 | _,_=>none
noncomputable def rInX (K:W.Frag) (neg:Bool):R2:=fun x y H Q=>∃ (B B':BS) (dx:D) (ds:List D) (p:Addr) (xs:List V),y = .ref p ∧ SqL K H p xs ∧ Rp K H B dx x ∧ Rps K H B' ds xs ∧ lean dx 50 = true ∧ leans ds 50 = true ∧ Q (.bl (xor neg (ds.any fun d=>deq d dx))) H
section
variable {X:Cx} {K:W.Frag}
open Classical in
theorem eqs_at {pins:List (Addr × Obj)} {s:Shared} {σ:L2.St} {H:Hp} {B B':BS} (I:Inv X pins σ H s) {dx:D} {ds:List D} {x:V} {v:Value} {xs:List V} {its:List Value} {A:Around} (hu:A.units + 50 < cLine) (hx:Rp X.K H B dx x) (rx:RelV x v) (hs:Rps X.K H B' ds xs) (rv:Vals xs its) (lx:lean dx 50 = true) (ls:leans ds 50 = true) :
  ∃ f:Value → Bool,(∀ w ∈ its,SeqAt.EqAt A s w v (f w)) ∧ its.any f = ds.any fun d=>deq d dx:=by
 have at_:∀ j w,its[j]? = some w → ∃ d,ds[j]? = some d ∧ SeqAt.EqAt A s w v (deq d dx):=fun j w hw=>by
  have hj:j < its.length:=(List.getElem?_eq_some_iff.mp hw).1
  have l1:=rv.length
  have l2:=hs.length
  obtain ⟨y,ey,ry⟩:=hs.get (i:=j) (List.getElem?_eq_getElem (by omega:j < ds.length))
  obtain ⟨u,eu,ru⟩:=rv.get ey
  rw [hw] at eu
  cases eu
  exact ⟨_,List.getElem?_eq_getElem (by omega),eqAt_D I 50 50 _ _ _ _ _ _ A hu (leans_get ls (List.getElem?_eq_getElem (by omega))) lx ry hx ru rx⟩
 refine ⟨fun w=>decide (∃ (j:Nat) (d:D),its[j]? = some w ∧ ds[j]? = some d ∧ deq d dx = true),fun w hw=>?_,?_⟩
 ·obtain ⟨j,hj⟩:=List.mem_iff_getElem?.mp hw
  dsimp only
  by_cases h:∃ (j:Nat) (d:D),its[j]? = some w ∧ ds[j]? = some d ∧ deq d dx = true
  ·rw [decide_eq_true h]
   obtain ⟨i,d,e1,e2,e3⟩:=h
   obtain ⟨d',e4,q⟩:=at_ i w e1
   rw [e2] at e4
   cases e4
   rw [e3] at q
   exact q
  ·rw [decide_eq_false h]
   obtain ⟨d',e4,q⟩:=at_ j w (by assumption)
   cases e5:deq d' dx with
   | true=>exact absurd ⟨j,d',by assumption,e4,e5⟩ h
   | false=>rw [e5] at q; exact q
 ·rw [Bool.eq_iff_iff,List.any_eq_true,List.any_eq_true]
  constructor
  ·rintro ⟨w,_,h⟩
   obtain ⟨j,d,_,e2,e3⟩:=of_decide_eq_true h
   exact ⟨d,List.mem_of_getElem? e2,e3⟩
  ·rintro ⟨d,hd,h⟩
   obtain ⟨j,hj⟩:=List.mem_iff_getElem?.mp hd
   have l1:=rv.length
   have l2:=hs.length
   have hlt:j < its.length:=by have:=(List.getElem?_eq_some_iff.mp hj).1; omega
   exact ⟨its[j],List.getElem_mem hlt,decide_eq_true ⟨j,d,List.getElem?_eq_getElem hlt,hj,h⟩⟩
theorem op_ninX (hu:X.A.units + 64 < cLine):OpR X (compareOp .NotIn) (rInX X.K true):=by
 intro pins s σ H x y v u Q I rx ry h
 obtain ⟨B,B',dx,ds,p,xs,rfl,hq,hx,hs,lx,ls,q⟩:=h
 cases ry
 obtain ⟨its,r,pl,hz⟩:=I.list hq
 obtain ⟨f,f1,f2⟩:=eqs_at (A:=X.A.in1) I (by show X.A.units + 1 + 50 < cLine; omega) hx rx hs r lx ls
 refine SeqAt.notIn_listAt f pl.isList (fun w hw=>f1 w (by simpa using hw)) ⟨.bl _,H,I,rfl,?_⟩
 rw [show its.toArray.any f = its.any f by simp,f2]
 rw [Bool.true_xor] at q
 exact q
theorem op2_inX (neg:Bool):Op2 K (rInX K neg) (inXD neg):=by
 intro H B x y dx dy d Q hb rx ry h k
 unfold inXD at h
 split at h
 ·rename_i ds
  split at h
  ·rename_i hl
   cases h
   rw [rp_lst] at ry
   obtain ⟨p,xs,rfl,hq,rr⟩:=ry
   exact ⟨B,B,dx,ds,p,xs,rfl,hq.to,rx,rr,hl.1,hl.2,k _ H (Same.refl H) (by rw [rp_bl])⟩
  ·cases h
 ·cases h
end
noncomputable def lenSetI:List D → Option D
 | [.lst ds]=>(sumL ds).bind fun is=>if is.length ≤ 4000 then some (.int (PyProof.Rows.firstMet (fun i=>is.getD i 0) is.length).length) else none
 | _=>none
section
variable {X:Cx} {e:Expr} {pos p pos2 p2:Pos} {g:Ds → Option D}
theorem ints_are:∀ {is:List Int} {us:List Value},Vals (is.map V.int) us → PyProof.Rows.IntsAre us is
 | [],_,.nil=>.nil
 | i :: is,_,.cons r rv=>by
  obtain ⟨t,rfl⟩:=r
  exact .cons i t (ints_are rv)
theorem pe_lenSetI {te:TE} (hc:X.calm = true) (hl:X.mg "len" = none) (hs:X.mg "set" = none) (he:PE X e te) (bs:bootBuiltins "set" = some (.type "set")) (hgl:Gl X "len" := by rfl) (hgs:Gl X "set" := by rfl)
  (e1:starEach [.Call (.Name "set" p2) [e] [] pos2] X.env = (false,eval (.Call (.Name "set" p2) [e] [] pos2) X.env) :: starEach [] X.env:=by rfl) (e2:starEach [e] X.env = (false,eval e X.env) :: starEach [] X.env:=by rfl)
  (h1:(backTo pos (starEach [] X.env)).any (·.1) = false:=by rfl) (h2:(backTo pos2 (starEach [] X.env)).any (·.1) = false:=by rfl) :
  PE X (.Call (.Name "len" p) [.Call (.Name "set" p2) [e] [] pos2] [] pos) (fun σ H Q=>te σ H fun v H'=>∃ (q:Addr) (is:List Int),v = .ref q ∧ SqL X.K H' q (is.map V.int) ∧ is.length ≤ 4000 ∧ Q (.int (PyProof.Rows.firstMet (fun i=>is.getD i 0) is.length).length) H'):=by
 intro pins s σ H Q I h
 refine wpAny_Call_Name_kw (ld_blt I hgl hl PySem.boot_len ?_ (by decide) (by decide))
 refine PyProof.Rows.callWith_builtin1 ?_ e1 h1
 rw [e1]
 show wpAny _ _ (spliced ((false,eval (.Call (.Name "set" p2) [e] [] pos2) X.env) :: backTo pos (starEach [] X.env))) _ _ s
 refine Calls.spliced_cons ?_
 refine wpAny_Call_Name_kw (ld_blt I hgs hs bs ?_ (by decide) (by decide))
 refine PyProof.Rows.callWith_type1 ?_ e2 h2
 rw [e2]
 show wpAny _ _ (spliced ((false,eval e X.env) :: backTo pos2 (starEach [] X.env))) _ _ s
 refine Calls.spliced_cons (thn (he pins s σ H _ I h) fun u s1 ⟨v,H1,I1,r1,q,is,ev,hq,hy,k⟩=>Calls.spliced_nil ?_)
 subst ev
 obtain rfl:u = Value.ref q:=r1
 obtain ⟨its,rv,pl,_⟩:=I1.list hq
 have hn:=rv.length
 rw [List.length_map] at hn
 refine call_set_list (I1.ok.hd hc) pl.isList (by simpa using ints_are rv) (by show its.toArray.size + 1 < 4096; simp; omega) fun h' tk hS hk=>Calls.spliced_nil ?_
 obtain ⟨o,els,ep,t,ho,hex,hd,hel,hmem,hb,hf,hm⟩:=hS
 refine PySem.call_len_set (s:={ s1 with heap:=h',toks:=tk }) ho hex hd hf (by
  have:=hb
  have z:scanBound = 4096:=rfl
  omega) ?_
 rw [hm,show its.toArray.size = is.length by simp [hn]]
 have I2:Inv X pins σ H1 { s1 with heap:=h',toks:=tk + 1 + 1 }:=I1.kept fun b o e=>hk b o (Heap.lt_size e) e
 exact ⟨.int _,H1,I2,⟨_,rfl⟩,k⟩
theorem pd_lenSetI (hl:X.mg "len" = none) (hs:X.mg "set" = none) (he:PD X e g) (hc:X.calm = true:=by rfl) (hgl:Gl X "len" := by rfl) (hgs:Gl X "set" := by rfl)
  (e1:starEach [.Call (.Name "set" p2) [e] [] pos2] X.env = (false,eval (.Call (.Name "set" p2) [e] [] pos2) X.env) :: starEach [] X.env:=by rfl) (e2:starEach [e] X.env = (false,eval e X.env) :: starEach [] X.env:=by rfl)
  (h1:(backTo pos (starEach [] X.env)).any (·.1) = false:=by rfl) (h2:(backTo pos2 (starEach [] X.env)).any (·.1) = false:=by rfl) :
  PD X (.Call (.Name "len" p) [.Call (.Name "set" p2) [e] [] pos2] [] pos) (oA (consA g nilA) lenSetI):=.mk fun B δ =>
 (pe_lenSetI hc hl hs (he B δ) b_set hgl hgs e1 e2 h1 h2).imp fun σ H Q ⟨d,en,h,k⟩=>by
  unfold oA consA nilA at h
  cases e3:g δ with
  | none=>rw [e3] at h; cases h
  | some x =>
   rw [e3] at h
   simp only [Option.bind_some,Option.map_some] at h
   unfold lenSetI at h
   cases x <;> try cases h
   rename_i ds
   dsimp only at h
   cases e4:sumL ds with
   | none=>rw [e4] at h; cases h
   | some is =>
    rw [e4] at h
    simp only [Option.bind_some] at h
    split at h
    ·rename_i hz
     cases h
     refine ⟨_,en,e3,fun v H' s r=>?_⟩
     rw [rp_lst] at r
     obtain ⟨q,xs,rfl,hq,rr⟩:=r
     have:=sum_rel rr e4
     subst this
     exact ⟨q,is,rfl,hq.to,hz,k _ H' s (by rw [rp_int])⟩
    ·cases h
end
end DL
namespace L2
open PySem PySem.Spec PyProof.Rows PySem.W
noncomputable def Itv (K:W.Frag) (a:Addr) (n:Nat):It :=
 ⟨fun i H=>∃ xs x,SqL K H a xs ∧ xs.length = n ∧ i < n ∧ xs[n - 1 - i]? = some x,fun i H x H'=>H' = H ∧ ∀ xs,SqL K H a xs → xs[n - 1 - i]? = some x,fun i _=>n ≤ i⟩
theorem turn_rev {P:Program} {w:World} {K:W.Frag} {tg:Expr} (a it:Addr) (n:Nat):Turn P w K tg (Itv K a n) [it] it (fun i h=>i ≤ n ∧ h.IsRevIter it a ((n:Int) - 1 - (i:Int))) where
 mem:=by simp
 obj:=fun i h st b hb=>by
  have e:b = it:=by simpa using hb
  subst e
  obtain ⟨_,o,e,c,d⟩:=st
  exact ⟨o,e,fun v z=>by rw [d] at z; cases z⟩
 keep:=fun i h h' st k=>⟨st.1,st.2.at fun o e=>k it (by simp) o e⟩
 item:=by
  intro X hP hw hK hc i pins s σ H E I hf st hg
  subst hP hw hK
  obtain ⟨_,st⟩:=st
  obtain ⟨xs,x,hq,hn,hi,hx⟩:=hg
  obtain ⟨its,rv,p,hz⟩:=I.list hq
  obtain ⟨u,hu,ru⟩:=rv.get hx
  obtain ⟨f0,f1,f2,f3,f4,f5⟩:=hf it (by simp)
  have e1:(n:Int) - 1 - (i:Int) = ((n - 1 - i:Nat):Int):=by omega
  rw [e1] at st
  refine wpAny_pyNext_rev_item st p.isList (x:=u) (by simpa using hu) fun h' st' sb=>?_
  have e2:((n - 1 - i:Nat):Int) - 1 = (n:Int) - 1 - ((i + 1:Nat):Int):=by omega
  rw [e2] at st'
  have I1:Inv X pins σ H { s with heap:=h' }:=I.turned (t':=s.toks) (fun b o hb e=>(sb.2 b hb).trans e) f0 f1 f3 f4 f5
  obtain ⟨o,e,c,d⟩:=id st'
  exact ⟨u,rfl,go_of (s:={ s with heap:=h' }) e c d (by decide) ⟨x,H,I1,ru,⟨rfl,fun ys hy=>by rw [I.list_inj hy hq]; exact hx⟩,⟨by omega,st'⟩,fun b hb=>(hf b hb).1⟩⟩
 done:=by
  intro X hP hw hK hc i pins s σ H E I hf st hg
  subst hP hw hK
  obtain ⟨hle,st⟩:=st
  have hx:n = i:=Nat.le_antisymm hg hle
  subst hx
  obtain ⟨f0,f1,f2,f3,f4,f5⟩:=hf it (by simp)
  have e1:(n:Int) - 1 - (n:Int) = -1:=by omega
  rw [e1] at st
  exact wpAny_pyNext_rev_end (I.ok.hd hc) st fun h' eb=>⟨rfl,I.turned (t':=s.toks) (fun b o hb e=>eb b o hb e) f0 f1 f3 f4 f5⟩
 self:=fun _ _ _ _ _ st h=>wpAny_pyIter_revIter st.2 h
section
variable {X:Cx} {tg:Expr}
noncomputable def iRev (K:W.Frag) (ta:TA):TI:=fun σ H R=>ta σ H fun vs H1=>∃ a xs,vs = [.ref a] ∧ SqL K H1 a xs ∧ R (Itv K a xs.length) H1
theorem boot_rev:bootBuiltins "reversed" = some (.type "reversed"):=by decide +kernel
theorem pi_rev {a:Expr} {ta:TA} {p pos:Pos} (hg:Gl X "reversed") (hm:X.mg "reversed" = none) (ha:PA X [a] ta) (hs:starEach [a] X.env = (false,eval a X.env) :: starEach [] X.env:=by rfl) (hpl:(backTo pos (starEach [] X.env)).any (·.1) = false:=by rfl) :
  PI X tg (.Call (.Name "reversed" p) [a] [] pos) (iRev X.K ta):=by
 intro pins s σ H R I h
 refine Call_ (ld_blt I hg hm boot_rev (PyProof.Rows.callWith_type1 (thn (ha pos pins s σ H _ I h) fun us s1 ⟨vs,H1,I1,r1,q1⟩=>?_) hs hpl))
 obtain ⟨qa,xs,e,h1,q⟩:=q1
 subst e
 cases r1 with
 | cons r rr =>
  cases rr
  obtain rfl:=r
  obtain ⟨us1,v1,p1,z1⟩:=I1.list h1
  have hl:=v1.length
  refine call_reversed_list p1.isList ?_
  have hI:(s1.heap.push (revObj qa ((us1.toArray.size:Int) - 1))).IsRevIter s1.heap.objs.size qa ((us1.toArray.size:Int) - 1):=⟨_,Heap.get?_push_size _ rfl,rfl,rfl⟩
  refine wpAny_pyIter_revIter (s:={ s1 with heap:=s1.heap.push (revObj qa ((us1.toArray.size:Int) - 1)) }) hI ?_
  refine ⟨s1.heap.objs.size,[s1.heap.objs.size],_,_,H1,rfl,I1.kept (t':=s1.toks) fun b o e=>Heap.get?_push_of_some _ e,turn_rev qa _ xs.length,?_,fun b hb=>?_,q⟩
  ·have e0:((xs.length:Int) - 1 - ((0:Nat):Int)) = (us1.toArray.size:Int) - 1:=by simp [hl]
   refine ⟨Nat.zero_le _,?_⟩
   rw [e0]
   exact hI
  ·have e:b = s1.heap.objs.size:=by simpa using hb
   subst e
   exact I1.fpOk (Nat.le_refl _) (I1.hok.fresh (Nat.le_refl _))
end
end L2
namespace DL
open PySem PySem.Spec PyProof.Rows L2
noncomputable def revI (gA:GA):GA:=fun δ=>(gA δ).bind fun ds=>match ds with
 | [.lst l]=>some l.reverse
 | _=>none
noncomputable def appMX (i:Nat) (gx:GX):GX:=fun δ=>(owL i δ).bind fun _=>(gx δ).bind fun r=>(owL i r.2).bind fun ds=>if ds.length < sizeLine then some (.non,r.2.set i (.ow (.lst (ds ++ [r.1])))) else none
section
variable {X:Cx} {a b e:Expr} {ga gb g:GE} {gA:GA} {gx:GX} {x:Str} {tg:Expr} {px p apos cpos pos:Pos}
theorem pid_rev (hm:X.mg "reversed" = none) (ha:PDA X [a] gA) (hg:Gl X "reversed" := by rfl) (hs:starEach [a] X.env = (false,eval a X.env) :: starEach [] X.env:=by rfl) (hpl:(backTo pos (starEach [] X.env)).any (·.1) = false:=by rfl) :
  PID X tg (.Call (.Name "reversed" p) [a] [] pos) (revI gA):=.mk fun B δ=>L2.PI.imp (pi_rev hg hm (ha B δ) hs hpl) fun σ H R ⟨items,en,e1,k⟩=>by
 unfold revI at e1
 cases e2:gA δ with
 | none=>rw [e2] at e1; cases e1
 | some ds =>
  rw [e2] at e1
  simp only [Option.bind_some] at e1
  split at e1 <;> try cases e1
  rename_i l
  refine ⟨_,en,e2,fun vs H' s' r=>?_⟩
  rw [rps_cons] at r
  obtain ⟨x,t,rfl,r1,r⟩:=r
  rw [rps_nil] at r; subst r
  rw [rp_lst] at r1
  obtain ⟨q,xs,rfl,sq,rs⟩:=r1
  have hl:=rs.length
  refine ⟨q,xs,rfl,sq.to,k _ H' s' ⟨fun i H2 g2 hi=>?_,fun i H2 x H3 g2 y hi=>?_,fun i H2 g2 hi=>?_⟩⟩
  ·rw [List.length_reverse] at hi
   have:xs.length - 1 - i < xs.length:=by omega
   exact ⟨xs,xs[xs.length - 1 - i],(sq.mono g2).to,rfl,by omega,List.getElem?_eq_getElem this⟩
  ·obtain ⟨e3,y⟩:=y
   subst e3
   rw [List.length_reverse] at hi
   have hj:l.length - 1 - i < l.length:=by omega
   obtain ⟨y',e4,ry⟩:=rs.get (i:=l.length - 1 - i) (List.getElem?_eq_getElem hj)
   have ey:=y xs (sq.mono g2).to
   rw [hl,e4] at ey
   cases ey
   refine ⟨Same.refl _,l[l.length - 1 - i],?_,fun B' gB hb=>ry.mono gB⟩
   rw [List.getElem?_reverse hi,List.getElem?_eq_getElem hj]
  ·rw [List.length_reverse] at hi
   rw [hl]
   exact hi
theorem pdf_mulL (ha:PD X a ga) (hb:PD X b gb):PDF X (.BinOp a .Mult b pos) (o2 ga gb mulL):=.mk fun B δ=>(pe_op op_mulL (ha B δ) (hb B δ)).imp fun σ H Q ⟨d,en,h,k⟩=>by
 unfold o2 at h
 cases e1:ga δ with
 | none=>rw [e1] at h; cases h
 | some x =>
  cases e2:gb δ with
  | none=>rw [e1,e2] at h; cases h
  | some y =>
   rw [e1,e2] at h
   simp only [Option.bind_some] at h
   refine ⟨x,en,e1,fun v1 H1 s1 r1=>⟨y,en.same s1,e2,fun v2 H2 s2 r2=>?_⟩⟩
   unfold mulL at h
   split at h
   ·split at h
    ·rename_i hz
     cases h
     have r1:=r1.same s2
     rw [rp_lst] at r1
     rw [rp_int] at r2
     subst r2
     obtain ⟨a,xs,rfl,q1,rr⟩:=r1
     refine ⟨a,xs,_,rfl,rfl,q1.to,fun z=>hz.1 ?_,hz.2.1,hz.2.2.1,by rw [rr.length]; exact hz.2.2.2,fun p hp=>k p _ ((s1.trans s2).free hp) ((s1.trans s2).trans (same_upd hp)) ⟨_,upd_same,(rps_rep rr _).mono (Gr.fresh hp)⟩⟩
     subst z
     have hn:=rr.length
     simp at hn
     exact List.length_eq_zero_iff.mp hn.symm
    ·cases h
   ·cases h
theorem px_appM (i:Nat) (h:PX X e gx) (hN:X.N[i]? = some x:=by rfl) (hv:Vis X.env.scope x:=by first | exact Or.inl rfl | exact Or.inr (Or.inl rfl) | exact Or.inr (Or.inr rfl)) (hd:(x == ("__debug__" : Str)) = false:=by decide) (hcd:(x == ("__classdict__" : Str)) = false:=by decide)
  (hbase:attributeBase (.Name x px) "append" X.env (eval (.Name x px) X.env) = eval (.Name x px) X.env:=by rfl)
  (hfew:((backTo cpos (starEach [e] X.env)).all (fun x=>!x.1) && (backToKw cpos (keywordEach [] X.env)).all (fun x=>x.1.isSome)
   && decide (([e]:List Expr).length + ([]:List Keyword).length + (if ([]:List Keyword).isEmpty then 0 else 1) < 30)) = true:=by rfl)
  (hline:(apos.endLine == cpos.line) = true:=by rfl) (hs:starEach [e] X.env = (false,eval e X.env) :: starEach [] X.env:=by rfl) (hplain:(backTo cpos (starEach [] X.env)).any (·.1) = false:=by rfl) :
  PX X (.Call (.Attribute (.Name x px) "append" apos) [e] [] cpos) (appMX i gx):=.mk fun H₀ B₀ δ pins s σ H Q I ⟨r,en,e1,k⟩=>by
 unfold appMX at e1
 obtain ⟨B,b1,b2,env⟩:=en.ex
 cases e2:owL i δ with
 | none=>rw [e2] at e1; cases e1
 | some ds0 =>
  rw [e2] at e1
  simp only [Option.bind_some] at e1
  cases e3:gx δ with
  | none=>rw [e3] at e1; cases e1
  | some r' =>
   rw [e3] at e1
   simp only [Option.bind_some] at e1
   cases e4:owL i r'.2 with
   | none=>rw [e4] at e1; cases e1
   | some ds =>
    rw [e4] at e1
    simp only [Option.bind_some] at e1
    split at e1
    ·rename_i hz
     cases e1
     obtain ⟨a,hs',hb,xs,hx,rx⟩:=env.at (owL_eq e2)
     refine pe_bm PySem.F.plainAttrs_list PySem.F.slot_list_append PySem.F.type_list_append mt_append (pe_var (i:=i) hN hv hd hcd) (pa_cons (h H₀ B₀ δ) pa_nil hs) hbase hfew hline hs hplain pins s σ H Q I
      ⟨_,hs',.inl ⟨rfl,xs,.inl (.inl hx)⟩,r',en,e3,fun v H1 ev=>?_⟩
     obtain ⟨B2,c1,c2,env2,rv⟩:=ev.ex
     have hi2:=owL_eq e4
     obtain ⟨a2,hs2,hb2,ys,hy,ry⟩:=env2.at hi2
     rw [hs'] at hs2
     cases hs2
     refine ⟨a,ys,v,rfl,rfl,hy,by rw [ry.length]; exact hz,?_⟩
     have env3:Env X.K (upd H1 a (.lst (ys ++ [v]))) B2 σ (r'.2.set i (.ow (.lst (ds ++ [r'.1])))):=env2.mut hi2 hs' ⟨_,upd_same,(Rps.snoc ry rv).mono (Gr.own hb2)⟩
     exact k _ _ (EnvV.mk' (ev.s.mut (Same.refl H1) c1 c2 hi2 hs' env3) c1 c2 env3 (by rw [rp_non]))
    ·cases e1
end
noncomputable def lrng2D:List D → Option D
 | [.int i,.int j]=>if (-(2 ^ 62) ≤ i ∧ i < 2 ^ 62) ∧ (-(2 ^ 62) ≤ j ∧ j < 2 ^ 62) ∧ j - i ≤ 1000000 then some (.lst (rngD i j)) else none
 | _=>none
section
variable {X:Cx} {e f:Expr} {pos p pos2 p2:Pos} {gA:Ds → Option (List D)}
noncomputable def rLRange2:List V → Hp → VK → Prop:=fun vs H Q=>∃ i j:Int,vs = [.int i,.int j] ∧ (-(2 ^ 62) ≤ i ∧ i < 2 ^ 62) ∧ (-(2 ^ 62) ≤ j ∧ j < 2 ^ 62) ∧ j - i ≤ 1000000 ∧ ∀ l,H l = none → Q (.ref l) (upd H l (.lst ((List.range (j - i).toNat).map fun (k:Nat)=>V.int (i + (k:Int)))))
theorem call_list_rng2 {X:Cx} (hc:X.calm = true:=by rfl):CallR2 X (.type "list") (.type "range") rLRange2:=by
 intro pins s σ H vs us Q I r h
 obtain ⟨i,j,rfl,h1,h2,h3,k⟩:=h
 cases r with
 | cons r rr =>
  cases rr with
  | cons r' rr =>
  cases rr
  obtain ⟨t,rfl⟩:=r
  obtain ⟨t',rfl⟩:=r'
  refine call_range_2 ?_
  have hsz:Builtin.Range.rangeSize i j 1 = ((j - i).toNat:Nat):=by rw [rangeSize_one]; split <;> omega
  have zl:(1000000:Nat) ≤ sizeLine:=by decide
  refine call_list_range (n:=(j - i).toNat) (I.ok.hd hc) (IsRange.new ..) (small_one h1.1 h1.2 h2.1 h2.2) hsz (by
   have:(1000000:Nat) ≤ 2 ^ 24:=by decide
   omega) fun h' tk acc c hk ha hi=>?_
  have hS:∀ o:Obj,(s.heap.push o).objs.size = s.heap.objs.size + 1:=fun o=>Heap.size_push ..
  have hf:H (s.heap.objs.size + 1) = none:=I.hok.fresh (Nat.le_succ _)
  show EP X pins σ Q (.ref (s.heap.push _).objs.size) _
  rw [hS]
  refine ⟨.ref (s.heap.objs.size + 1),_,I.laid (a:=s.heap.objs.size + 1) (o:=.lst ((List.range (j - i).toNat).map fun (k:Nat)=>V.int (i + (k:Int)))) (t':=tk) (fun b o q=>hk b o (Heap.get?_push_of_some _ q)) (Nat.le_succ _) ⟨by rw [List.length_map,List.length_range]; omega,acc.toList,c,?_,by rw [← hS]; exact ha⟩,rfl,k _ hf⟩
  have key:∀ (l:List Value) (m:Nat),(∀ q v,l[q]? = some v → ∃ t,v = Value.int (i + ((m + q:Nat):Int)) t) → Vals ((List.range' m l.length).map fun (k:Nat)=>V.int (i + (k:Int))) l:=by
   intro l
   induction l with
   | nil=>intro m _; exact .nil
   | cons v l ih =>
    intro m h
    obtain ⟨t0,e0⟩:=h 0 v rfl
    rw [List.length_cons,List.range'_succ,List.map_cons]
    refine .cons ⟨t0,by simpa using e0⟩ (ih (m + 1) fun q w hw=>?_)
    obtain ⟨t1,e1⟩:=h (q + 1) w (by simpa using hw)
    exact ⟨t1,by rw [e1]; congr 2; omega⟩
  have hlen:acc.toList.length = (j - i).toNat:=by rw [Array.length_toList]; exact hi.1
  have:=key acc.toList 0 (fun q v hv=>by
   obtain ⟨t0,e0⟩:=hi.2 q v (by simpa using hv)
   exact ⟨t0,by rw [e0]; simp⟩)
  rw [hlen,← List.range_eq_range'] at this
  exact this
theorem pdf_lrange2 (hm1:X.mg "list" = none) (hm2:X.mg "range" = none) (ha:PDA X [e,f] gA) (hc:X.calm = true:=by rfl) (hg1:Gl X "list" := by rfl) (hg2:Gl X "range" := by rfl)
  (e1:starEach [.Call (.Name "range" p2) [e,f] [] pos2] X.env = (false,eval (.Call (.Name "range" p2) [e,f] [] pos2) X.env) :: starEach [] X.env:=by rfl) (h1:(backTo pos (starEach [] X.env)).any (·.1) = false:=by rfl)
  (he:starEach [e,f] X.env = (false,eval e X.env) :: starEach [f] X.env:=by rfl) (hpl:(backTo pos2 (starEach [f] X.env)).any (·.1) = false:=by rfl) :
  PDF X (.Call (.Name "list" p) [.Call (.Name "range" p2) [e,f] [] pos2] [] pos) (oA gA lrng2D):=.mk fun B δ=>(pe_nestTT (call_list_rng2 hc) hg1 hg2 hm1 hm2 b_list0 boot_range (ha B δ) (by decide) (by decide) (by decide) (by decide) e1 h1 he hpl).imp fun σ H Q ⟨d,en,h,k⟩=>by
 unfold oA at h
 cases e3:gA δ with
 | none=>rw [e3] at h; cases h
 | some ds =>
  rw [e3] at h
  simp only [Option.bind_some] at h
  unfold lrng2D at h
  split at h <;> try cases h
  rename_i i j
  split at h <;> try cases h
  rename_i hj
  refine ⟨_,en,e3,fun vs H1 s1 r=>?_⟩
  rw [rps_cons] at r
  obtain ⟨x,t,rfl,r1,r⟩:=r
  rw [rps_cons] at r
  obtain ⟨y,t,rfl,r2,r⟩:=r
  rw [rps_nil] at r; subst r
  rw [rp_int] at r1 r2; subst r1; subst r2
  refine ⟨i,j,rfl,hj.1,hj.2.1,hj.2.2,fun l hl=>k l _ (s1.free hl) (s1.trans (same_upd hl)) ⟨_,upd_same,?_⟩⟩
  have:∀ (l:List Nat) (H:Hp) (B:BS),Rps X.K H B (l.map fun (k:Nat)=>D.int (i + (k:Int))) (l.map fun (k:Nat)=>V.int (i + (k:Int))):=by
   intro l H B
   induction l with
   | nil=>simp [rps_nil]
   | cons a l ih =>
    rw [List.map_cons,List.map_cons,rps_cons]
    exact ⟨_,_,rfl,by rw [rp_int],ih⟩
  exact this _ _ _
end
end DL
namespace W
open PySem DL
noncomputable def hasAll (x s:Str):Bool:=x.cps.toList.all fun c=>decide (c ∈ s.cps.toList)
noncomputable def nameS:Str := "0123456789abcdefghijklmnopqrstuvwxyz"
noncomputable def wordS:Str := " 0123456789abcdefghijklmnopqrstuvwxyz"
noncomputable def isName (x:Str):Bool:=(decide ((x.length:Int) ≤ 8) && hasAll x nameS) && decide (0 < (x.length:Int))
noncomputable def isWord (x:Str):Bool:=decide ((x.length:Int) ≤ 20) && hasAll x wordS
noncomputable def marks (x:D) (m:Str):Bool:=match x with
 | .str y=>decide (y = m)
 | _=>false
noncomputable def valB:D → Bool
 | .non=>true
 | .int _=>true
 | .tup [x,.int i]=>marks x "at" && decide (0 ≤ i)
 | _=>false
noncomputable def fstS:D → Str
 | .tup (.str n :: _)=>n
 | _ => ""
inductive Pt where
 | text (w:Str) | row (vs:List D) | table (ps:List (Str × D)) | rcd (c:Str) (ps:List (Str × D))
noncomputable def pr (p:Str × D):D:=.tup [.str p.1,p.2]
noncomputable def Pt.d:Pt → D
 | .text w=>.tup [.str "text",.str w]
 | .row vs=>.tup [.str "row",.tup vs]
 | .table ps=>.tup [.str "table",.tup (ps.map pr)]
 | .rcd c ps=>.tup [.str "record",.str c,.tup (ps.map pr)]
noncomputable def Pt.vals:Pt → List D
 | .text _=>[]
 | .row vs=>vs
 | .table ps=>ps.map (·.2)
 | .rcd _ ps=>ps.map (·.2)
noncomputable def Pt.pnames:Pt → List Str
 | .text _=>[]
 | .row _=>[]
 | .table ps=>ps.map (·.1)
 | .rcd _ ps=>ps.map (·.1)
noncomputable def Pt.cls:Pt → List Str
 | .rcd c _=>[c]
 | _=>[]
noncomputable def Pt.all (p:Pt):List Str:=p.pnames ++ p.cls
noncomputable def lk:D → Option Int
 | .tup [_,.int i]=>some i
 | _=>none
structure PsOk (ps:List (Str × D)):Prop where
 len:ps.length ≤ 12
 names:∀ p ∈ ps,isName p.1 = true
 vals:∀ p ∈ ps,valB p.2 = true
 nd:(ps.map (·.1)).Nodup
noncomputable def Pt.Ok:Pt → Prop
 | .text w=>isWord w = true
 | .row vs=>vs.length ≤ 12 ∧ ∀ v ∈ vs,valB v = true
 | .table ps=>PsOk ps
 | .rcd c ps=>isName c = true ∧ PsOk ps
theorem name_short {n:Str} (h:isName n = true):n.length ≤ 8:=by
 unfold isName at h
 simp only [Bool.and_eq_true,decide_eq_true_eq] at h
 omega
theorem comp_snd (ps:List (Str × D)):compD (gN 0) noT (o2 (gv 0) (gc (.int 1)) ixD) [.un] (ps.map pr) = some (ps.map (·.2)):=by
 rw [compD_map (fun d=>match d with | .tup [_,v]=>v | _=>.non) (fun d hd=>by
  obtain ⟨p,hp,rfl⟩:=List.mem_map.mp hd
  exact ⟨[.sh (pr p)],rfl,rfl,rfl⟩),List.map_map]
 rfl
theorem comp_fst (ps:List (Str × D)):compD (gN 0) noT (o2 (gv 0) (gc (.int 0)) ixD) [.un] (ps.map pr) = some ((ps.map (·.1)).map .str):=by
 rw [compD_map (fun d=>.str (fstS d)) (fun d hd=>by
  obtain ⟨p,hp,rfl⟩:=List.mem_map.mp hd
  exact ⟨[.sh (pr p)],rfl,rfl,rfl⟩),List.map_map,List.map_map]
 rfl
noncomputable def Pt.few (p:Pt):Prop:=p.vals.length ≤ sizeLine
theorem val_cases {v:D} (h:valB v = true):v = .non ∨ (∃ i,v = .int i) ∨ ∃ i,v = .tup [.str "at",.int i] ∧ 0 ≤ i:=by
 cases v with
 | non=>exact .inl rfl
 | int i=>exact .inr (.inl ⟨i,rfl⟩)
 | tup xs =>
  match xs,h with
  | [x,.int i],h =>
   simp only [valB,Bool.and_eq_true,decide_eq_true_eq] at h
   cases x <;> simp [marks] at h
   exact .inr (.inr ⟨i,by rw [h.1],h.2⟩)
 | _=>cases h
noncomputable def signS:Str := "abcdefghijklmnopqrstuvwxyz0123456789"
noncomputable def cg (i:Int):Nat:=signS.cps.toList.getD i.toNat 0
theorem sign_at (i:Int) (h0:0 ≤ i) (h1:i < 36):ixD (.str signS) (.int i) = some (.str ⟨#[cg i]⟩):=by
 have hl:signS.cps.toList.length = 36:=by decide +kernel
 have hz:signS.length ≤ sizeLine:=by decide +kernel
 have:=atI_in (xs:=signS.cps.toList) (i:=i) h0 (by rw [hl]; omega) 0
 simp only [ixD,if_pos hz,this,Option.map_some]
 rfl
theorem cg_mem (i:Int) (h0:0 ≤ i) (h1:i < 36):cg i ∈ nameS.cps.toList:=by
 have h:∀ n:Nat,n < 36 → signS.cps.toList.getD n 0 ∈ nameS.cps.toList:=by decide +kernel
 exact h i.toNat (by omega)
theorem cg_inj (i j:Int) (h0:0 ≤ i) (h1:i < 36) (h2:0 ≤ j) (h3:j < 36) (e:cg i = cg j):i = j:=by
 have h:∀ n:Nat,n < 36 → ∀ m:Nat,m < 36 → signS.cps.toList.getD n 0 = signS.cps.toList.getD m 0 → n = m:=by decide +kernel
 have:=h i.toNat (by omega) j.toNat (by omega) e
 omega
noncomputable def ones (l:List Nat):List Str:=l.map fun c=>⟨#[c]⟩
noncomputable def strOf (l:List Nat):Str:=⟨l.toArray⟩
theorem join_ones (l:List Nat):Txt.join "" (ones l) = strOf l:=by
 have key:∀ (l:List Nat) (acc:List Nat),(ones l).foldl (fun a p=>a ++ ("" : Str).cps ++ p.cps) acc.toArray = (acc ++ l).toArray:=by
  intro l
  induction l with
  | nil=>intro acc; simp [ones]
  | cons c l ih =>
   intro acc
   show (ones l).foldl _ (acc.toArray ++ ("" : Str).cps ++ #[c]) = _
   have e:acc.toArray ++ ("" : Str).cps ++ #[c] = (acc ++ [c]).toArray:=by
    have:("" : Str).cps = #[]:=rfl
    rw [this]; simp
   rw [e,ih]
   simp
 cases l with
 | nil=>rfl
 | cons c l =>
  show (⟨_⟩:Str) = _
  unfold strOf
  congr 1
  exact key l [c]
theorem sum_ones':∀ l:List Nat,((ones l).map (·.length)).sum = l.length
 | []=>rfl
 | c :: l=>by
  show 1 + ((ones l).map (·.length)).sum = l.length + 1
  rw [sum_ones' l]; omega
theorem isName_of (l:List Nat) (h1:0 < l.length) (h2:l.length ≤ 8) (h3:∀ c ∈ l,c ∈ nameS.cps.toList):isName (strOf l) = true:=by
 unfold isName hasAll
 have e:(strOf l).length = l.length:=by show l.toArray.size = _; simp
 have e2:(strOf l).cps.toList = l:=by simp [strOf]
 rw [e,e2]
 simp only [Bool.and_eq_true,decide_eq_true_eq,List.all_eq_true]
 exact ⟨⟨by omega,fun c hc=>by simpa using h3 c hc⟩,by omega⟩
theorem strOf_inj {l m:List Nat} (h:strOf l = strOf m):l = m:=by
 unfold strOf at h
 injection h with h
 simpa using congrArg Array.toList h
end W
namespace Pn
open PySem DL W
noncomputable def G_pair_names:GS:=(seqD (ifD (tOrG (ob (o2 (o2 (gv 0) (gc (.int 0)) ixD) (gc (.str "text")) eqD)) (ob (o2 (o2 (gv 0) (gc (.int 0)) ixD) (gc (.str "row")) eqD)))
 (seqD (retF (lstG nilA))
 nilD)
 nilD)
 (seqD (retF (compG 1 [] (tupI (o2 (gv 0) (unG negD (gc (.int 1))) ixD)) (gN 0) noT (o2 (gv 0) (gc (.int 0)) ixD)))
 nilD))
noncomputable def N_pair_names:List Str:=["part"]
noncomputable def m_pair_names:List D → Option D:=mkN 1 N_pair_names G_pair_names
noncomputable def G_head:GS:=(seqD (ifD (ob (o2 (o2 (gv 0) (gc (.int 0)) ixD) (gc (.str "text")) eqD))
 (seqD (retD (tupG (consA (gc (.str "text")) (consA (o2 (gv 0) (gc (.int 1)) ixD) nilA))))
 nilD)
 nilD)
 (seqD (ifD (ob (o2 (o2 (gv 0) (gc (.int 0)) ixD) (gc (.str "row")) eqD))
 (seqD (retD (tupG (consA (gc (.str "row")) (consA (oA (consA (o2 (gv 0) (gc (.int 1)) ixD) nilA) lenD) nilA))))
 nilD)
 nilD)
 (seqD (ifD (ob (o2 (o2 (gv 0) (gc (.int 0)) ixD) (gc (.str "table")) eqD))
 (seqD (retD (tupG (consA (gc (.str "table")) (consA (oA (consA (oA (consA (gv 0) nilA) m_pair_names) nilA) tupOfD) nilA))))
 nilD)
 nilD)
 (seqD (retD (tupG (consA (gc (.str "record")) (consA (o2 (gv 0) (gc (.int 1)) ixD) (consA (oA (consA (oA (consA (gv 0) nilA) m_pair_names) nilA) tupOfD) nilA)))))
 nilD))))
noncomputable def N_head:List Str:=["part"]
noncomputable def m_head:List D → Option D:=mkF 1 N_head G_head
noncomputable def G_values:GS:=(seqD (ifD (ob (o2 (o2 (gv 0) (gc (.int 0)) ixD) (gc (.str "text")) eqD))
 (seqD (retF (lstG nilA))
 nilD)
 nilD)
 (seqD (ifD (ob (o2 (o2 (gv 0) (gc (.int 0)) ixD) (gc (.str "row")) eqD))
 (seqD (retF (oA (consA (o2 (gv 0) (gc (.int 1)) ixD) nilA) lstOfD))
 nilD)
 nilD)
 (seqD (retF (compG 1 [] (tupI (o2 (gv 0) (unG negD (gc (.int 1))) ixD)) (gN 0) noT (o2 (gv 0) (gc (.int 1)) ixD)))
 nilD)))
noncomputable def N_values:List Str:=["part"]
noncomputable def m_values:List D → Option D:=mkN 1 N_values G_values
theorem values_ok (p:Pt) (h:p.few):m_values [p.d] = some (.lst p.vals):=by
 cases p with
 | text w=>kernel_rfl
 | row vs =>
  refine mkN_rf rfl (seq_to (δ':=[.sh (Pt.row vs).d]) (by rw [if_f (by kernel_rfl)]; rfl) (seq_rf (by rw [if_t (by kernel_rfl)]; rfl)))
 | table ps =>
  refine mkN_rf rfl (seq_to (δ':=[.sh (Pt.table ps).d]) (by rw [if_f (by kernel_rfl)]; rfl) (seq_to (δ':=[.sh (Pt.table ps).d]) (by rw [if_f (by kernel_rfl)]; rfl) (seq_rf (retF_of ?_))))
  exact comp_of (items:=ps.map pr) rfl (by have:(ps.map (·.2)).length ≤ sizeLine:=h; simpa using this) (comp_snd ps)
 | rcd c ps =>
  refine mkN_rf rfl (seq_to (δ':=[.sh (Pt.rcd c ps).d]) (by rw [if_f (by kernel_rfl)]; rfl) (seq_to (δ':=[.sh (Pt.rcd c ps).d]) (by rw [if_f (by kernel_rfl)]; rfl) (seq_rf (retF_of ?_))))
  exact comp_of (items:=ps.map pr) rfl (by have:(ps.map (·.2)).length ≤ sizeLine:=h; simpa using this) (comp_snd ps)
theorem pair_names_ok (p:Pt) (h:p.few):m_pair_names [p.d] = some (.lst (p.pnames.map .str)):=by
 cases p with
 | text w=>kernel_rfl
 | row vs=>kernel_rfl
 | table ps =>
  refine mkN_rf rfl (seq_to (δ':=[.sh (Pt.table ps).d]) (by rw [if_f (by kernel_rfl)]; rfl) (seq_rf (retF_of ?_)))
  exact comp_of (items:=ps.map pr) rfl (by have:(ps.map (·.2)).length ≤ sizeLine:=h; simpa using this) (comp_fst ps)
 | rcd c ps =>
  refine mkN_rf rfl (seq_to (δ':=[.sh (Pt.rcd c ps).d]) (by rw [if_f (by kernel_rfl)]; rfl) (seq_rf (retF_of ?_)))
  exact comp_of (items:=ps.map pr) rfl (by have:(ps.map (·.2)).length ≤ sizeLine:=h; simpa using this) (comp_fst ps)
noncomputable def hd:Pt → D
 | .text w=>.tup [.str "text",.str w]
 | .row vs=>.tup [.str "row",.int vs.length]
 | .table ps=>.tup [.str "table",.tup ((ps.map (·.1)).map .str)]
 | .rcd c ps=>.tup [.str "record",.str c,.tup ((ps.map (·.1)).map .str)]
noncomputable def put:Pt → List D → Pt
 | .text w,_=>.text w
 | .row _,vs=>.row vs
 | .table ps,vs=>.table ((ps.map (·.1)).zip vs)
 | .rcd c ps,vs=>.rcd c ((ps.map (·.1)).zip vs)
theorem head_ok (p:Pt) (h:p.few):m_head [p.d] = some (hd p):=by
 have e:=pair_names_ok p h
 cases p with
 | text w=>kernel_rfl
 | row vs=>kernel_rfl
 | table ps =>
  refine mkF_rt rfl (seq_to (δ':=[.sh (Pt.table ps).d]) (by rw [if_f (by kernel_rfl)]; rfl) (seq_to (δ':=[.sh (Pt.table ps).d]) (by rw [if_f (by kernel_rfl)]; rfl) (seq_rt ?_)))
  rw [if_t (by kernel_rfl)]
  refine seq_rt (ret_of (tup_of (cons_of rfl (cons_of (d:=.tup ((ps.map (·.1)).map .str)) ?_ rfl)) (by show 2 ≤ sizeLine; decide)))
  rw [oA_of (cons_of (by rw [oA_of (ds:=[(Pt.table ps).d]) rfl]; exact e) rfl)]
  rfl
 | rcd c ps =>
  refine mkF_rt rfl (seq_to (δ':=[.sh (Pt.rcd c ps).d]) (by rw [if_f (by kernel_rfl)]; rfl) (seq_to (δ':=[.sh (Pt.rcd c ps).d]) (by rw [if_f (by kernel_rfl)]; rfl) (seq_to (δ':=[.sh (Pt.rcd c ps).d]) (by rw [if_f (by kernel_rfl)]; rfl) ?_)))
  refine seq_rt (ret_of (tup_of (cons_of rfl (cons_of (d:=.str c) rfl (cons_of (d:=.tup ((ps.map (·.1)).map .str)) ?_ rfl))) (by show 3 ≤ sizeLine; decide)))
  rw [oA_of (cons_of (by rw [oA_of (ds:=[(Pt.rcd c ps).d]) rfl]; exact e) rfl)]
  rfl
theorem leans_of {l:List D} {n:Nat} (h:∀ d ∈ l,lean d n = true):leans l n = true:=by
 induction l with
 | nil=>unfold leans; rfl
 | cons d l ih =>
  unfold leans
  rw [h d List.mem_cons_self,ih fun e he=>h e (List.mem_cons_of_mem _ he)]
  rfl
theorem lean_str (s:Str) (n:Nat):lean (.str s) n = true:=by unfold lean; rfl
theorem lean_tup {l:List D} {n:Nat} (h:∀ d ∈ l,lean d n = true):lean (.tup l) (n + 1) = true:=by unfold lean; exact leans_of h
mutual
theorem deq_self:∀ (d:D) (n:Nat),lean d n = true → deq d d = true
 | .non,_,_=>by unfold deq; rfl
 | .bl b,_,_=>by unfold deq; simp
 | .int b,_,_=>by unfold deq; simp
 | .str b,_,_=>by unfold deq; simp
 | .tup ds,0,h=>by unfold lean at h; cases h
 | .tup ds,n + 1,h=>by unfold lean at h; unfold deq; exact deqs_self ds n h
 | .lst ds,0,h=>by unfold lean at h; cases h
 | .lst ds,n + 1,h=>by unfold lean at h; unfold deq; exact deqs_self ds n h
 | .dct _ _,n,h=>by unfold lean at h; cases h
theorem deqs_self:∀ (ds:List D) (n:Nat),leans ds n = true → deqs ds ds = true
 | [],_,_=>by unfold deqs; rfl
 | d :: ds,n,h=>by
  unfold leans at h
  rw [Bool.and_eq_true] at h
  unfold deqs
  rw [deq_self d n h.1,deqs_self ds n h.2]
  rfl
end
mutual
noncomputable def nb:D → Bool
 | .bl _=>false
 | .dct _ _=>false
 | .tup xs=>nbs xs
 | .lst xs=>nbs xs
 | _=>true
noncomputable def nbs:List D → Bool
 | []=>true
 | x :: xs=>nb x && nbs xs
end
mutual
theorem deq_eq:∀ (d e:D),nb d = true → nb e = true → deq d e = true → d = e
 | .non,e,_,h2,h=>by cases e <;> unfold deq at h <;> first | rfl | (cases h)
 | .bl b,e,h1,_,_=>by unfold nb at h1; cases h1
 | .int i,e,_,h2,h=>by
  cases e <;> unfold deq at h <;> first | (cases h; done) | (unfold nb at h2; cases h2; done) | (rw [beq_iff_eq] at h; rw [h])
 | .str x,e,_,h2,h=>by cases e <;> unfold deq at h <;> first | (cases h; done) | (rw [beq_iff_eq] at h; rw [h])
 | .tup xs,e,h1,h2,h=>by
  cases e <;> unfold deq at h <;> try (cases h; done)
  unfold nb at h1 h2
  rw [deqs_eq _ _ h1 h2 h]
 | .lst xs,e,h1,h2,h=>by
  cases e <;> unfold deq at h <;> try (cases h; done)
  unfold nb at h1 h2
  rw [deqs_eq _ _ h1 h2 h]
 | .dct _ _,e,h1,_,_=>by unfold nb at h1; cases h1
theorem deqs_eq:∀ (ds es:List D),nbs ds = true → nbs es = true → deqs ds es = true → ds = es
 | [],[],_,_,_=>rfl
 | [],_ :: _,_,_,h=>by unfold deqs at h; cases h
 | _ :: _,[],_,_,h=>by unfold deqs at h; cases h
 | d :: ds,e :: es,h1,h2,h=>by
  unfold nbs at h1 h2
  unfold deqs at h
  rw [Bool.and_eq_true] at h1 h2 h
  rw [deq_eq d e h1.1 h2.1 h.1,deqs_eq ds es h1.2 h2.2 h.2]
end
theorem nbs_of {l:List D} (h:∀ d ∈ l,nb d = true):nbs l = true:=by
 induction l with
 | nil=>unfold nbs; rfl
 | cons d l ih =>
  unfold nbs
  rw [h d List.mem_cons_self,ih fun e he=>h e (List.mem_cons_of_mem _ he)]
  rfl
structure Pl (d:D):Prop where
 le:lean d 50 = true
 nb:nb d = true
theorem eq_t {d:D} (h:lean d 50 = true):eqDD d d = some (.bl true):=by
 unfold eqDD
 rw [if_pos ⟨h,h⟩,deq_self d 50 h]
theorem ne_f {d:D} (h:lean d 50 = true):neDD d d = some (.bl false):=by
 unfold neDD
 rw [if_pos ⟨h,h⟩,deq_self d 50 h]
 rfl
theorem ne_t {d e:D} (h1:Pl d) (h2:Pl e) (n:d ≠ e):neDD d e = some (.bl true):=by
 unfold neDD
 rw [if_pos ⟨h1.le,h2.le⟩]
 cases q:deq d e with
 | false=>rfl
 | true=>exact absurd (deq_eq d e h1.nb h2.nb q) n
theorem nb_str (s:Str):nb (.str s) = true:=by unfold nb; rfl
theorem nb_int (i:Int):nb (.int i) = true:=by unfold nb; rfl
theorem nb_tup {l:List D} (h:∀ d ∈ l,nb d = true):nb (.tup l) = true:=by unfold nb; exact nbs_of h
theorem pl_hd (p:Pt):Pl (hd p):=by
 have ls:∀ (ns:List Str) (n:Nat),lean (.tup (ns.map .str)) (n + 1) = true:=fun ns n=>lean_tup fun d hd=>by
  obtain ⟨q,_,rfl⟩:=List.mem_map.mp hd
  exact lean_str _ _
 have nn:∀ (ns:List Str),nb (.tup (ns.map .str)) = true:=fun ns=>nb_tup fun d hd=>by
  obtain ⟨q,_,rfl⟩:=List.mem_map.mp hd
  exact nb_str _
 have li:∀ (i:Int) (n:Nat),lean (.int i) n = true:=fun i n=>by unfold lean; rfl
 cases p with
 | text w=>exact ⟨lean_tup fun d hd=>by simp only [List.mem_cons,List.not_mem_nil,or_false] at hd; rcases hd with rfl | rfl <;> exact lean_str _ _,nb_tup fun d hd=>by simp only [List.mem_cons,List.not_mem_nil,or_false] at hd; rcases hd with rfl | rfl <;> exact nb_str _⟩
 | row w=>exact ⟨lean_tup fun d hd=>by simp only [List.mem_cons,List.not_mem_nil,or_false] at hd; rcases hd with rfl | rfl <;> first | exact lean_str _ _ | exact li _ _,nb_tup fun d hd=>by simp only [List.mem_cons,List.not_mem_nil,or_false] at hd; rcases hd with rfl | rfl <;> first | exact nb_str _ | exact nb_int _⟩
 | table w=>exact ⟨lean_tup fun d hd=>by simp only [List.mem_cons,List.not_mem_nil,or_false] at hd; rcases hd with rfl | rfl <;> first | exact lean_str _ _ | exact ls _ _,nb_tup fun d hd=>by simp only [List.mem_cons,List.not_mem_nil,or_false] at hd; rcases hd with rfl | rfl <;> first | exact nb_str _ | exact nn _⟩
 | rcd c w=>exact ⟨lean_tup fun d hd=>by simp only [List.mem_cons,List.not_mem_nil,or_false] at hd; rcases hd with rfl | rfl | rfl <;> first | exact lean_str _ _ | exact ls _ _,nb_tup fun d hd=>by simp only [List.mem_cons,List.not_mem_nil,or_false] at hd; rcases hd with rfl | rfl | rfl <;> first | exact nb_str _ | exact nn _⟩
end Pn
namespace W
open PySem DL StrLaws Builtin.Str
theorem strOf_list (l:List Nat):(strOf l).cps.toList = l:=by simp [strOf]
theorem strOf_len (l:List Nat):(strOf l).length = l.length:=by show l.toArray.size = _; simp
theorem strOf_of (x:PySem.Str):strOf x.cps.toList = x:=by cases x; simp [strOf]
end W
namespace W
open PySem DL StrLaws
end W
namespace Gw
open PySem DL W
noncomputable def G__law_cell_at:GS:=(seqD (ifD (ob (o2 (gv 1) (oA (consA (gv 0) nilA) lenD) ltD))
 (seqD (retD (o2 (gv 0) (gv 1) ixD))
 nilD)
 nilD)
 (seqD (retD (gc (.int 0)))
 nilD))
noncomputable def N__law_cell_at:List Str:=["_law_script", "_law_k"]
noncomputable def m__law_cell_at:List D → Option D:=mkF 2 N__law_cell_at G__law_cell_at
noncomputable def G__law_pool:GS:=(seqD (setD (gN 2) (gc (.str "abcdefghijklmnopqrstuvwxyz0123456789")))
 (seqD (setD (gN 3) (o2 (gc (.int 1)) (o2 (gv 0) (gc (.int 8)) modD) addA))
 (seqD (setD (gN 0) (o2 (gv 0) (gc (.int 8)) fdivD))
 (seqD (ownD 4 (lstG nilA))
 (seqD (forG (rng1I (consA (gv 3) nilA)) (gN 5)
 (seqD (exprX (appX 4 (o2 (gv 0) (gc (.int 36)) modD)))
 (seqD (setD (gN 0) (o2 (gv 0) (gc (.int 36)) fdivD))
 nilD)))
 (seqD (setD (gN 6) (borE (joinG (gc (.str "")) (consA (compG 1 [2] (lstI (gv 4)) (gN 0) noT (o2 (gv 1) (gv 0) ixD)) nilA))))
 (seqD (ifD (ob (o2 (o2 (o2 (gv 1) (gc (.int 8)) fdivD) (gc (.int 3)) modD) (gc (.int 1)) eqD))
 (seqD (retF (compG 1 [6] (rng2I (consA (gc (.int 1)) (consA (gc (.int 9)) nilA))) (gN 0) noT (slAG (o2 (gc (.int 8)) (gv 1) mulI) noneO (someO (gv 0)))))
 nilD)
 nilD)
 (seqD (setD (gN 7) (o2 (gv 1) (gv 3) modD))
 (seqD (ownD 8 (lstG nilA))
 (seqD (forG (rng1I (consA (gc (.int 8)) nilA)) (gN 5)
 (seqD (setD (gN 9) (o2 (gv 2) (o2 (o2 (borE (o2 (gv 4) (gv 7) ixD)) (o2 (gc (.int 4)) (gv 5) mulA) addA) (gc (.int 36)) modD) ixD))
 (seqD (exprX (appX 8 (o2 (o2 (slAG (gv 6) noneO (someO (gv 7))) (gv 9) addA) (slAG (gv 6) (someO (o2 (gv 7) (gc (.int 1)) addA)) noneO) addA)))
 nilD)))
 (seqD (retO 8)
 nilD)))))))))))
noncomputable def N__law_pool:List Str:=["_law_cell", "_law_turn", "_law_signs", "_law_size", "_law_places", "_law_k", "_law_word", "_law_at", "_law_found", "_law_sign"]
noncomputable def m__law_pool:List D → Option D:=mkN 2 N__law_pool G__law_pool
noncomputable def G__law_mix:GS:=(seqD (retD (o2 (o2 (o2 (o2 (gv 0) (gc (.int 2147483647)) modD) (gc (.int 1)) addA) (o2 (gc (.int 48271)) (o2 (gc (.int 7)) (gv 1) mulA) addA) mulA) (gc (.int 2147483647)) modD))
 nilD)
noncomputable def N__law_mix:List Str:=["_law_cell", "_law_k"]
noncomputable def m__law_mix:List D → Option D:=mkF 2 N__law_mix G__law_mix
noncomputable def G__law_value:GS:=(seqD (setD (gN 2) (o2 (gv 0) (gc (.int 10)) modD))
 (seqD (ifD (ob (o2 (gv 2) (gc (.int 6)) ltD))
 (seqD (retD (tupG (consA (gc (.str "at")) (consA (o2 (o2 (gv 0) (gc (.int 10)) fdivD) (gv 1) modD) nilA))))
 nilD)
 nilD)
 (seqD (ifD (ob (o2 (gv 2) (gc (.int 6)) eqD))
 (seqD (retD (gc .non))
 nilD)
 nilD)
 (seqD (ifD (ob (o2 (gv 2) (gc (.int 9)) ltD))
 (seqD (retD (o2 (o2 (o2 (gv 0) (gc (.int 10)) fdivD) (gc (.int 3)) modD) (gc (.int 1)) subD))
 nilD)
 nilD)
 (seqD (retD (o2 (o2 (o2 (o2 (gv 0) (gc (.int 10)) fdivD) (gc (.int 7)) powD) (o2 (gc (.int 10)) (gc (.int 60)) powD) modD) (o2 (gc (.int 1)) (o2 (gc (.int 2)) (o2 (o2 (gv 0) (gc (.int 20)) fdivD) (gc (.int 2)) modD) mulA) subD) mulA))
 nilD)))))
noncomputable def N__law_value:List Str:=["_law_number", "_law_many", "_law_kind"]
noncomputable def m__law_value:List D → Option D:=mkF 2 N__law_value G__law_value
noncomputable def G__law_values:GS:=(seqD (ownD 3 (lstG nilA))
 (seqD (forG (rng1I (consA (gv 1) nilA)) (gN 4)
 (seqD (setD (gN 0) (o2 (o2 (gv 0) (gc (.int 48271)) mulA) (gc (.int 2147483647)) modD))
 (seqD (exprX (appX 3 (oA (consA (gv 0) (consA (gv 2) nilA)) m__law_value)))
 nilD)))
 (seqD (retO 3)
 nilD)))
noncomputable def N__law_values:List Str:=["_law_number", "_law_count", "_law_many", "_law_found", "_law_k"]
noncomputable def m__law_values:List D → Option D:=mkN 3 N__law_values G__law_values
noncomputable def G__law_part:GS:=(seqD (setD (gN 3) (o2 (gv 0) (gc (.int 8)) modD))
 (seqD (ifD (ob (o2 (gv 3) (gc (.int 0)) eqD))
 (seqD (retD (tupG (consA (gc (.str "text")) (consA (o2 (lstG (consA (gc (.str "")) (consA (gc (.str "a")) (consA (gc (.str " a")) (consA (o2 (o2 (gv 2) (gc (.int 0)) ixD) (gc (.str " 0")) addA) nilA))))) (o2 (o2 (gv 0) (gc (.int 16)) fdivD) (gc (.int 4)) modD) ixD) nilA))))
 nilD)
 nilD)
 (seqD (ifD (ob (o2 (gv 3) (gc (.int 4)) ltD))
 (seqD (retD (tupG (consA (gc (.str "row")) (consA (oA (consA (gv 1) nilA) tupOfD) nilA))))
 nilD)
 nilD)
 (seqD (setD (gN 4) (o2 (o2 (o2 (gv 0) (gc (.int 8)) fdivD) (gc (.int 2)) modD) (gc (.int 3)) mulA))
 (seqD (setD (gN 5) (oA (consA (compG 1 [1,2,4] (rng1I (consA (oA (consA (gv 1) nilA) lenD) nilA)) (gN 0) noT (tupG (consA (o2 (gv 2) (o2 (o2 (gv 3) (gv 0) addA) (gc (.int 8)) modD) ixD) (consA (o2 (gv 1) (gv 0) ixD) nilA)))) nilA) tupOfD))
 (seqD (ifD (ob (o2 (gv 3) (gc (.int 6)) ltD))
 (seqD (retD (tupG (consA (gc (.str "table")) (consA (gv 5) nilA))))
 nilD)
 nilD)
 (seqD (retD (tupG (consA (gc (.str "record")) (consA (o2 (gv 2) (o2 (o2 (gv 0) (gc (.int 16)) fdivD) (gc (.int 2)) modD) ixD) (consA (gv 5) nilA)))))
 nilD)))))))
noncomputable def N__law_part:List Str:=["_law_number", "_law_some", "_law_pool_here", "_law_kind", "_law_start", "_law_pairs"]
noncomputable def m__law_part:List D → Option D:=mkF 3 N__law_part G__law_part
noncomputable def G__law_web:GS:=(seqD (ownD 3 (lstG nilA))
 (seqD (forG (rng1I (consA (gv 1) nilA)) (gN 4)
 (seqD (setD (gN 5) (oA (consA (o2 (o2 (gv 0) (o2 (gv 4) (oA (consA (gv 0) nilA) lenD) modD) ixD) (o2 (gv 4) (o2 (gv 4) (oA (consA (gv 0) nilA) lenD) fdivD) mulA) addA) (consA (gv 4) nilA)) m__law_mix))
 (seqD (setD (gN 6) (o2 (lstG (consA (gc (.int 0)) (consA (gc (.int 1)) (consA (gc (.int 2)) (consA (gc (.int 2)) (consA (gc (.int 3)) (consA (gc (.int 2)) (consA (gc (.int 3)) (consA (gc (.int 1)) nilA))))))))) (o2 (o2 (gv 5) (gc (.int 32)) fdivD) (gc (.int 8)) modD) ixD))
 (seqD (ifD (ob (o2 (o2 (o2 (gv 5) (gc (.int 256)) fdivD) (gc (.int 16)) modD) (gc (.int 3)) eqD))
 (seqD (setD (gN 6) (o2 (lstG (consA (gc (.int 8)) (consA (gc (.int 12)) nilA))) (oA (consA (o2 (o2 (gv 5) (gc (.int 8)) modD) (gc (.int 4)) ltD) nilA) intOfD) ixD))
 nilD)
 nilD)
 (seqD (setD (gN 7) (oA (consA (o2 (o2 (gv 5) (gc (.int 8)) fdivD) (gc (.int 1)) addA) (consA (gv 6) (consA (gv 1) nilA))) m__law_values))
 (seqD (exprX (appX 3 (oA (consA (gv 5) (consA (gv 7) (consA (gv 2) nilA))) m__law_part)))
 nilD))))))
 (seqD (retD (borA (oA (consA (gv 3) nilA) tupOfD)))
 nilD)))
noncomputable def N__law_web:List Str:=["_law_cells", "_law_many", "_law_pool_here", "_law_parts", "_law_k", "_law_number", "_law_count", "_law_some"]
noncomputable def m__law_web:List D → Option D:=mkF 3 N__law_web G__law_web
noncomputable def G__law_vals:GS:=(seqD (ifD (ob (o2 (o2 (gv 0) (gc (.int 0)) ixD) (gc (.str "text")) eqD))
 (seqD (retF (lstG nilA))
 nilD)
 nilD)
 (seqD (ifD (ob (o2 (o2 (gv 0) (gc (.int 0)) ixD) (gc (.str "row")) eqD))
 (seqD (retF (oA (consA (o2 (gv 0) (gc (.int 1)) ixD) nilA) lstOfD))
 nilD)
 nilD)
 (seqD (retF (compG 2 [] (tupI (o2 (gv 0) (unG negD (gc (.int 1))) ixD)) (tup2 0 1) noT (gv 1)))
 nilD)))
noncomputable def N__law_vals:List Str:=["_law_part_here"]
noncomputable def m__law_vals:List D → Option D:=mkN 1 N__law_vals G__law_vals
noncomputable def G__law_with:GS:=(seqD (ifD (ob (o2 (o2 (gv 0) (gc (.int 0)) ixD) (gc (.str "text")) eqD))
 (seqD (retD (gv 0))
 nilD)
 nilD)
 (seqD (ifD (ob (o2 (o2 (gv 0) (gc (.int 0)) ixD) (gc (.str "row")) eqD))
 (seqD (retD (tupG (consA (gc (.str "row")) (consA (oA (consA (gv 1) nilA) tupOfD) nilA))))
 nilD)
 nilD)
 (seqD (retD (o2 (slAG (gv 0) noneO (someO (unG negD (gc (.int 1))))) (tupG (consA (oA (consA (compG 1 [0,1] (rng1I (consA (oA (consA (gv 1) nilA) lenD) nilA)) (gN 0) noT (tupG (consA (o2 (o2 (o2 (gv 1) (unG negD (gc (.int 1))) ixD) (gv 0) ixD) (gc (.int 0)) ixD) (consA (o2 (gv 2) (gv 0) ixD) nilA)))) nilA) tupOfD) nilA)) addA))
 nilD)))
noncomputable def N__law_with:List Str:=["_law_part_here", "_law_some"]
noncomputable def m__law_with:List D → Option D:=mkF 2 N__law_with G__law_with
end Gw
namespace Gw
open PySem DL W StrLaws
theorem mul_r (i j:Int) (h:-(2 ^ 64) < j ∧ j < 2 ^ 64):mulA (.int i) (.int j) = some (.int (i * j)):=by simp only [mulA]; rw [if_pos (.inr h)]
theorem mul_l (i j:Int) (h:-(2 ^ 64) < i ∧ i < 2 ^ 64):mulA (.int i) (.int j) = some (.int (i * j)):=by simp only [mulA]; rw [if_pos (.inl h)]
theorem mod_p (i j:Int) (h:0 < j):modD (.int i) (.int j) = some (.int (i % j)):=by simp only [modD,ii]; rw [if_pos h]
theorem fdiv_p (i j:Int) (h:0 < j ∧ j < 1073741824):fdivD (.int i) (.int j) = some (.int (i / j)):=by simp only [fdivD,ii]; rw [if_pos h]
theorem app_ow {i:Nat} {g:GE} {δ:Ds} {l:List D} {d:D} (h1:owL i δ = some l) (h2:g δ = some d) (h3:l.length < sizeLine):exprX (appX i g) δ = some (.nx (δ.set i (.ow (.lst (l ++ [d]))))):=by
 unfold exprX appX
 rw [h1,h2]
 simp only [Option.bind_some]
 rw [if_pos h3]
 rfl
theorem cell_ok (ns:List Int) (k:Int) (h0:0 ≤ k):∃ z,m__law_cell_at [.lst (ns.map .int),.int k] = some (.int z):=by
 by_cases h:k < ns.length
 ·have hlt:k.toNat < ns.length:=by omega
  refine ⟨ns[k.toNat],mkF_rt rfl (seq_rt ?_)⟩
  rw [if_t (by
   show some (decide (k < (((ns.map D.int).length:Nat):Int))) = _
   rw [decide_eq_true (by rw [List.length_map]; exact h)])]
  refine seq_rt (ret_of ?_)
  show atI (ns.map D.int) k = _
  rw [atI_in h0 (by rw [List.length_map]; exact h) .non]
  simp [List.getD_eq_getElem?_getD,hlt]
 ·refine ⟨0,mkF_rt rfl (seq_to (δ':=[.sh (.lst (ns.map .int)),.sh (.int k)]) ?_ rfl)⟩
  rw [if_f (by
   show some (decide (k < (((ns.map D.int).length:Nat):Int))) = _
   rw [decide_eq_false (by rw [List.length_map]; exact h)])]
  rfl
theorem rep_list (l:List Nat) (n:Nat):repD (strOf l) (n:Int) = strOf (List.replicate n l).flatten:=by
 have key:∀ (k:Nat) (acc:Array Nat),(List.replicate k l.toArray).foldl (· ++ ·) acc = acc ++ (List.replicate k l).flatten.toArray:=by
  intro k
  induction k with
  | zero=>intro acc; simp
  | succ k ih=>intro acc; rw [List.replicate_succ,List.foldl_cons,ih,List.replicate_succ,List.flatten_cons]; simp
 unfold repD
 show (⟨(List.replicate ((n:Int)).toNat l.toArray).foldl (· ++ ·) #[]⟩:Str) = ⟨_⟩
 rw [Int.toNat_natCast,key]
 simp
theorem take_s (l:List Nat) (k:Int) (h0:0 ≤ k) (h1:k ≤ l.length):Txt.slice (strOf l) none (some k) = strOf (l.take k.toNat):=by
 show sliceText _ _ _ = _
 rw [sliceText_to ⟨h0,by rw [strOf_list]; exact h1⟩,strOf_list]
 simp [strOf]
theorem drop_s (l:List Nat) (k:Int) (h0:0 ≤ k) (h1:k ≤ l.length):Txt.slice (strOf l) (some k) none = strOf (l.drop k.toNat):=by
 show sliceText _ _ _ = _
 rw [sliceText_from ⟨h0,by rw [strOf_list]; exact h1⟩,strOf_list]
 unfold strOf
 congr 2
 rw [List.take_of_length_le]
 rw [List.length_drop]
 omega
theorem app_s (a b:List Nat):strOf a ++ strOf b = strOf (a ++ b):=by
 show (⟨_⟩:Str) = ⟨_⟩
 simp [strOf]
theorem add_s (a b:List Nat) (h:a.length + b.length ≤ sizeLine):addA (.str (strOf a)) (.str (strOf b)) = some (.str (strOf (a ++ b))):=by
 simp only [addA]
 rw [if_pos (by rw [strOf_len,strOf_len]; exact h),app_s]
structure Pool (nm:List Str):Prop where
 len:nm.length = 8
 names:∀ s ∈ nm,isName s = true
 nd:nm.Nodup
noncomputable def PB:GS:=(seqD (exprX (appX 4 (o2 (gv 0) (gc (.int 36)) modD)))
 (seqD (setD (gN 0) (o2 (gv 0) (gc (.int 36)) fdivD))
 nilD))
noncomputable def PC:GS:=(seqD (setD (gN 9) (o2 (gv 2) (o2 (o2 (borE (o2 (gv 4) (gv 7) ixD)) (o2 (gc (.int 4)) (gv 5) mulA) addA) (gc (.int 36)) modD) ixD))
 (seqD (exprX (appX 8 (o2 (o2 (slAG (gv 6) noneO (someO (gv 7))) (gv 9) addA) (slAG (gv 6) (someO (o2 (gv 7) (gc (.int 1)) addA)) noneO) addA)))
 nilD))
theorem pool_ok (c t:Int):∃ nm,m__law_pool [.int c,.int t] = some (.lst (nm.map .str)) ∧ Pool nm:=by
 have z:(1000:Nat) ≤ sizeLine:=by decide
 obtain ⟨n,hn⟩:∃ n:Nat,(n:Int) = 1 + c % 8:=⟨(1 + c % 8).toNat,by omega⟩
 obtain ⟨δ',l1,l2⟩:=forD_inv (f:=gN 5) (G:=PB) (fun i δ=>∃ (c':Int) (l:List Int) (s5:Sl),δ = [.sh (.int c'),.sh (.int t),.sh (.str signS),.sh (.int (n:Int)),.ow (.lst (l.map .int)),s5,.un,.un,.un,.un] ∧ l.length = i ∧ ∀ x ∈ l,0 ≤ x ∧ x < 36) (rngD 0 (n:Int)) 0
  [.sh (.int (c / 8)),.sh (.int t),.sh (.str signS),.sh (.int (n:Int)),.ow (.lst []),.un,.un,.un,.un,.un] (by
   rintro j d δ hj ⟨c',l,s5,rfl,hl,hx⟩
   obtain ⟨hj',rfl⟩:=rng_get hj
   rw [Int.toNat_natCast] at hj'
   refine ⟨_,[.sh (.int (c' / 36)),.sh (.int t),.sh (.str signS),.sh (.int (n:Int)),.ow (.lst ((l ++ [c' % 36]).map .int)),.sh (.int (j:Int)),.un,.un,.un,.un],rfl,?_,c' / 36,l ++ [c' % 36],_,rfl,by simp [hl],fun x hx'=>?_⟩
   ·refine seq_to (app_ow (l:=l.map .int) (d:=.int (c' % 36)) rfl rfl (by rw [List.length_map]; omega)) ?_
    rw [List.map_append]
    rfl
   ·rcases List.mem_append.mp hx' with q | q
    ·exact hx x q
    ·rw [List.mem_singleton.mp q]; omega) ⟨_,[],_,rfl,rfl,fun x hx=>by cases hx⟩
 obtain ⟨c',pl,s5,rfl,hpl,hpx⟩:=l2
 rw [rng_len,Int.toNat_natCast,Nat.zero_add] at hpl
 obtain ⟨w,hw⟩:∃ w:List Nat,w = pl.map cg:=⟨_,rfl⟩
 have wl:w.length = n:=by rw [hw,List.length_map,hpl]
 have wm:∀ x ∈ w,x ∈ nameS.cps.toList:=fun x hx=>by
  rw [hw] at hx
  obtain ⟨i,hi,rfl⟩:=List.mem_map.mp hx
  exact cg_mem i (hpx i hi).1 (hpx i hi).2
 have hpre:∀ (G:GS) (r:Option Res),G [.sh (.int c'),.sh (.int t),.sh (.str signS),.sh (.int (n:Int)),.ow (.lst (pl.map .int)),s5,.sh (.str (strOf w)),.un,.un,.un] = r →
   (seqD (setD (gN 2) (gc (.str "abcdefghijklmnopqrstuvwxyz0123456789")))
    (seqD (setD (gN 3) (o2 (gc (.int 1)) (o2 (gv 0) (gc (.int 8)) modD) addA))
    (seqD (setD (gN 0) (o2 (gv 0) (gc (.int 8)) fdivD))
    (seqD (ownD 4 (lstG nilA))
    (seqD (forG (rng1I (consA (gv 3) nilA)) (gN 5) PB)
    (seqD (setD (gN 6) (borE (joinG (gc (.str "")) (consA (compG 1 [2] (lstI (gv 4)) (gN 0) noT (o2 (gv 1) (gv 0) ixD)) nilA)))) G)))))) [.sh (.int c),.sh (.int t),.un,.un,.un,.un,.un,.un,.un,.un] = r:=fun G r hG=>by
  refine seq_to (set_of (d:=.str signS) rfl) (seq_to (set_of (d:=.int (n:Int)) (by rw [hn]; rfl)) (seq_to (set_of (d:=.int (c / 8)) rfl) (seq_to (δ':=[.sh (.int (c / 8)),.sh (.int t),.sh (.str signS),.sh (.int (n:Int)),.ow (.lst []),.un,.un,.un,.un,.un]) rfl (seq_to (for_of (items:=rngD 0 (n:Int)) (rng1_of (cons_of rfl rfl) (by omega) (by omega)) l1) (seq_to (set_of (d:=.str (strOf w)) ?_) hG)))))
  show Option.bind _ _ = _
  rw [join_of (x:=.str "") (ds:=[.lst ((ones w).map .str)]) rfl (cons_of (comp_of (items:=pl.map .int) rfl (by rw [List.length_map]; omega) (by
   rw [compD_map (fun d=>match d with | .int i=>.str ⟨#[cg i]⟩ | _=>.non) (fun d hd=>by
    obtain ⟨i,hi,rfl⟩:=List.mem_map.mp hd
    refine ⟨[.sh (.int i),.sh (.str signS)],rfl,rfl,?_⟩
    rw [o2_of (x:=.str signS) (y:=.int i) rfl rfl]
    exact sign_at i (hpx i hi).1 (hpx i hi).2)]
   rw [hw]
   unfold ones
   rw [List.map_map,List.map_map,List.map_map]
   rfl)) rfl)]
  have e1:=strs_map id (ones w)
  have e1':strL ((ones w).map D.str) = some (ones w):=by simpa using e1
  simp only [joinD]
  rw [e1',Option.bind_some,sum_ones',join_ones,if_pos (by
   have:("" : PySem.Str).length = 0:=by decide +kernel
   rw [this]; omega)]
  rfl
 by_cases hb:t / 8 % 3 = 1
 ·refine ⟨(List.range 8).map fun k=>strOf ((List.replicate 8 w).flatten.take (k + 1)),mkN_rf rfl (hpre _ _ (seq_rf ?_)),by simp,fun s hs=>?_,?_⟩
  ·rw [if_t (by show some (decide (t / 8 % 3 = 1)) = _; rw [decide_eq_true hb])]
   refine seq_rf (retF_of (comp_of (items:=(List.range 8).map fun (k:Nat)=>D.int ((k:Int) + 1)) rfl (by simp; omega) ?_))
   rw [compD_map (fun d=>match d with | .int i=>.str (strOf ((List.replicate 8 w).flatten.take i.toNat)) | _=>.non) (fun d hd=>by
    obtain ⟨k,hk,rfl⟩:=List.mem_map.mp hd
    have hk:=List.mem_range.mp hk
    refine ⟨[.sh (.int ((k:Int) + 1)),.sh (.str (strOf w))],rfl,rfl,?_⟩
    have hm:o2 (gc (.int 8)) (gv 1) mulI [.sh (.int ((k:Int) + 1)),.sh (.str (strOf w))] = some (.str (strOf (List.replicate 8 w).flatten)):=by
     rw [o2_of (x:=.int 8) (y:=.str (strOf w)) rfl rfl]
     simp only [mulI]
     rw [if_pos ⟨by decide,by decide,by rw [strOf_len,wl]; show n * 8 ≤ _; omega⟩]
     exact congrArg (fun s=>some (D.str s)) (rep_list w 8)
    have hfl:(List.replicate 8 w).flatten.length = 8 * n:=by simp [wl]; omega
    unfold slAG
    rw [hm]
    show slA (.str (strOf (List.replicate 8 w).flatten)) none (some ((k:Int) + 1)) = _
    simp only [slA]
    rw [if_pos (by rw [strOf_len,hfl]; omega),take_s _ _ (by omega) (by rw [hfl]; omega)])]
   rw [List.map_map,List.map_map]
   rfl
  ·obtain ⟨k,hk,rfl⟩:=List.mem_map.mp hs
   have hk:=List.mem_range.mp hk
   have hfl:(List.replicate 8 w).flatten.length = 8 * n:=by simp [wl]; omega
   refine isName_of _ (by rw [List.length_take,hfl]; omega) (by rw [List.length_take]; omega) fun x hx=>?_
   have:=List.mem_of_mem_take hx
   obtain ⟨l,hl,hx⟩:=List.mem_flatten.mp this
   rw [(List.mem_replicate.mp hl).2] at hx
   exact wm x hx
  ·refine List.nodup_iff_pairwise_ne.mpr (List.pairwise_map.mpr (List.Pairwise.imp_of_mem ?_ (List.nodup_range (n:=8))))
   intro a b ha hb' hab e
   have ha:=List.mem_range.mp ha
   have hb':=List.mem_range.mp hb'
   have e:=congrArg List.length (strOf_inj e)
   have hfl:(List.replicate 8 w).flatten.length = 8 * n:=by simp [wl]; omega
   rw [List.length_take,List.length_take,hfl] at e
   omega
 ·obtain ⟨a,ha⟩:∃ a:Nat,(a:Int) = t % (n:Int):=⟨(t % (n:Int)).toNat,by have:=Int.emod_nonneg t (by omega:(n:Int) ≠ 0); omega⟩
  have han:a < n:=by have:=Int.emod_lt_of_pos t (by omega:(0:Int) < n); omega
  obtain ⟨p,hp⟩:∃ p,p = pl.getD a 0:=⟨_,rfl⟩
  have hpp:0 ≤ p ∧ p < 36:=by
   have hlt:a < pl.length:=by omega
   have:p = pl[a]:=by rw [hp]; simp [List.getD_eq_getElem?_getD,hlt]
   rw [this]
   exact hpx _ (List.getElem_mem hlt)
  let F:Nat → List Nat:=fun k=>w.take a ++ cg ((p + 4 * (k:Int)) % 36) :: w.drop (a + 1)
  have Fl:∀ k,(F k).length = n:=fun k=>by
   show (w.take a ++ cg ((p + 4 * (k:Int)) % 36) :: w.drop (a + 1)).length = n
   rw [List.length_append,List.length_cons,List.length_take,List.length_drop]
   omega
  obtain ⟨δ'',m1,m2⟩:=forD_inv (f:=gN 5) (G:=PC) (fun i δ=>∃ (s5 s9:Sl),δ = [.sh (.int c'),.sh (.int t),.sh (.str signS),.sh (.int (n:Int)),.ow (.lst (pl.map .int)),s5,.sh (.str (strOf w)),.sh (.int (a:Int)),.ow (.lst (((List.range i).map fun k=>strOf (F k)).map .str)),s9]) (rngD 0 8) 0
   [.sh (.int c'),.sh (.int t),.sh (.str signS),.sh (.int (n:Int)),.ow (.lst (pl.map .int)),s5,.sh (.str (strOf w)),.sh (.int (a:Int)),.ow (.lst []),.un] (by
    rintro j d δ hj ⟨s5,s9,rfl⟩
    obtain ⟨hj',rfl⟩:=rng_get hj
    have hj':j < 8:=hj'
    rw [Nat.zero_add]
    refine ⟨_,[.sh (.int c'),.sh (.int t),.sh (.str signS),.sh (.int (n:Int)),.ow (.lst (pl.map .int)),.sh (.int (j:Int)),.sh (.str (strOf w)),.sh (.int (a:Int)),.ow (.lst (((List.range (j + 1)).map fun k=>strOf (F k)).map .str)),.sh (.str ⟨#[cg ((p + 4 * (j:Int)) % 36)]⟩)],rfl,?_,_,_,rfl⟩
    refine seq_to (set_of (d:=.str ⟨#[cg ((p + 4 * (j:Int)) % 36)]⟩) ?_) ?_
    ·rw [o2_of (x:=.str signS) (y:=.int ((p + 4 * (j:Int)) % 36)) rfl (by
      rw [o2_of (x:=.int (p + 4 * (j:Int))) (y:=.int 36) (by
       rw [o2_of (x:=.int p) (y:=.int (4 * (j:Int))) (by
        have q:o2 (gv 4) (gv 7) ixD (frz [.sh (.int c'),.sh (.int t),.sh (.str signS),.sh (.int (n:Int)),.ow (.lst (pl.map .int)),.sh (.int (j:Int)),.sh (.str (strOf w)),.sh (.int (a:Int)),.ow (.lst (((List.range j).map fun k=>strOf (F k)).map .str)),s9]) = some (.int p):=by
         rw [o2_of (x:=.lst (pl.map .int)) (y:=.int (a:Int)) rfl rfl]
         show atI (pl.map D.int) (a:Int) = _
         have hlt:a < pl.length:=by omega
         rw [atI_in (by omega) (by rw [List.length_map]; omega) .non,hp]
         simp [List.getD_eq_getElem?_getD,hlt]
        show Option.bind _ _ = _
        exact (congrArg (fun o=>Option.bind o _) q).trans rfl) (by rw [o2_of (x:=.int 4) (y:=.int (j:Int)) rfl rfl]; exact mul_r _ _ (by omega))]
       rfl) rfl]
      rfl)]
     exact sign_at _ (by omega) (by omega)
    ·refine seq_to (app_ow (l:=((List.range j).map fun k=>strOf (F k)).map .str) (d:=.str (strOf (F j))) rfl ?_ (by simp; omega)) ?_
     ·have t1:slAG (gv 6) noneO (someO (gv 7)) [.sh (.int c'),.sh (.int t),.sh (.str signS),.sh (.int (n:Int)),.ow (.lst (pl.map .int)),.sh (.int (j:Int)),.sh (.str (strOf w)),.sh (.int (a:Int)),.ow (.lst (((List.range j).map fun k=>strOf (F k)).map .str)),.sh (.str ⟨#[cg ((p + 4 * (j:Int)) % 36)]⟩)] = some (.str (strOf (w.take a))):=by
       show slA (.str (strOf w)) none (some (a:Int)) = _
       simp only [slA]
       rw [if_pos (by rw [strOf_len,wl]; omega),take_s _ _ (by omega) (by omega),Int.toNat_natCast]
      have t2:slAG (gv 6) (someO (o2 (gv 7) (gc (.int 1)) addA)) noneO [.sh (.int c'),.sh (.int t),.sh (.str signS),.sh (.int (n:Int)),.ow (.lst (pl.map .int)),.sh (.int (j:Int)),.sh (.str (strOf w)),.sh (.int (a:Int)),.ow (.lst (((List.range j).map fun k=>strOf (F k)).map .str)),.sh (.str ⟨#[cg ((p + 4 * (j:Int)) % 36)]⟩)] = some (.str (strOf (w.drop (a + 1)))):=by
       show slA (.str (strOf w)) (some ((a:Int) + 1)) none = _
       simp only [slA]
       rw [if_pos (by rw [strOf_len,wl]; omega),drop_s _ _ (by omega) (by omega),show ((a:Int) + 1).toNat = a + 1 by omega]
      change o2 _ _ _ [.sh (.int c'),.sh (.int t),.sh (.str signS),.sh (.int (n:Int)),.ow (.lst (pl.map .int)),.sh (.int (j:Int)),.sh (.str (strOf w)),.sh (.int (a:Int)),.ow (.lst (((List.range j).map fun k=>strOf (F k)).map .str)),.sh (.str ⟨#[cg ((p + 4 * (j:Int)) % 36)]⟩)] = _
      rw [o2_of (x:=.str (strOf (w.take a ++ [cg ((p + 4 * (j:Int)) % 36)]))) (y:=.str (strOf (w.drop (a + 1)))) (by
       rw [o2_of t1 rfl]
       exact add_s _ [cg ((p + 4 * (j:Int)) % 36)] (by rw [List.length_take]; simp; omega)) t2]
      rw [add_s _ _ (by rw [List.length_append,List.length_take,List.length_drop]; simp; omega)]
      show some (D.str (strOf _)) = some (D.str (strOf (w.take a ++ cg ((p + 4 * (j:Int)) % 36) :: w.drop (a + 1))))
      rw [List.append_assoc]
      rfl
     ·rw [List.range_succ,List.map_append,List.map_append]
      rfl) ⟨_,_,rfl⟩
  obtain ⟨s5',s9,rfl⟩:=m2
  refine ⟨(List.range 8).map fun k=>strOf (F k),mkN_rf rfl (hpre _ _ (seq_to (δ':=[.sh (.int c'),.sh (.int t),.sh (.str signS),.sh (.int (n:Int)),.ow (.lst (pl.map .int)),s5,.sh (.str (strOf w)),.un,.un,.un]) ?_ (seq_to (set_of (d:=.int (a:Int)) ?_) (seq_to (δ':=[.sh (.int c'),.sh (.int t),.sh (.str signS),.sh (.int (n:Int)),.ow (.lst (pl.map .int)),s5,.sh (.str (strOf w)),.sh (.int (a:Int)),.ow (.lst []),.un]) rfl (seq_to (for_of (items:=rngD 0 8) rfl m1) (seq_rf rfl)))))),by simp,fun s hs=>?_,?_⟩
  ·rw [if_f (by show some (decide (t / 8 % 3 = 1)) = _; rw [decide_eq_false hb])]; rfl
  ·rw [o2_of (x:=.int t) (y:=.int (n:Int)) rfl rfl,mod_p _ _ (by omega),ha]
  ·obtain ⟨k,hk,rfl⟩:=List.mem_map.mp hs
   refine isName_of _ (by rw [Fl]; omega) (by rw [Fl]; omega) fun x hx=>?_
   rcases List.mem_append.mp hx with q | q
   ·exact wm x (List.mem_of_mem_take q)
   ·rcases List.mem_cons.mp q with q | q
    ·rw [q]; exact cg_mem _ (by omega) (by omega)
    ·exact wm x (List.mem_of_mem_drop q)
  ·refine List.nodup_iff_pairwise_ne.mpr (List.pairwise_map.mpr (List.Pairwise.imp_of_mem ?_ (List.nodup_range (n:=8))))
   intro x y hx hy hxy e
   have hx:=List.mem_range.mp hx
   have hy:=List.mem_range.mp hy
   have e:w.take a ++ cg ((p + 4 * (x:Int)) % 36) :: w.drop (a + 1) = w.take a ++ cg ((p + 4 * (y:Int)) % 36) :: w.drop (a + 1):=strOf_inj e
   have e:=List.append_cancel_left e
   injection e with e _
   have:=cg_inj _ _ (by omega) (by omega) (by omega) (by omega) e
   omega
end Gw
namespace Gw
open PySem DL W
theorem mix_ok (c k:Int) (hk:0 ≤ k ∧ k ≤ 1000000):∃ x,0 ≤ x ∧ x < 2147483647 ∧ m__law_mix [.int c,.int k] = some (.int x):=by
 refine ⟨(c % 2147483647 + 1) * (48271 + 7 * k) % 2147483647,Int.emod_nonneg _ (by decide),Int.emod_lt_of_pos _ (by decide),mkF_rt rfl (seq_rt (ret_of ?_))⟩
 rw [o2_of (x:=.int ((c % 2147483647 + 1) * (48271 + 7 * k))) (y:=.int 2147483647) (by
  rw [o2_of (x:=.int (c % 2147483647 + 1)) (y:=.int (48271 + 7 * k)) rfl (by
   rw [o2_of (x:=.int 48271) (y:=.int (7 * k)) rfl (by rw [o2_of (x:=.int 7) (y:=.int k) rfl rfl]; exact mul_r _ _ (by omega))]
   rfl)]
  exact mul_r _ _ (by omega)) rfl]
 rfl
structure Vk (v:D) (m:Int):Prop where
 ok:valB v = true
 bd:∀ i,v = .int i → i.natAbs < 10 ^ 60
 lk:∀ k,lk v = some k → k < m
theorem pow60:powD (.int 10) (.int 60) = some (.int (10 ^ 60)):=by kernel_rfl
theorem value_ok (x m:Int) (hx:0 ≤ x ∧ x < 2 ^ 40) (hm:0 < m):∃ v,m__law_value [.int x,.int m] = some v ∧ Vk v m:=by
 have z:(100:Nat) ≤ sizeLine:=by decide
 have s0:setD (gN 2) (o2 (gv 0) (gc (.int 10)) modD) [.sh (.int x),.sh (.int m),.un] = some (.nx [.sh (.int x),.sh (.int m),.sh (.int (x % 10))]):=rfl
 have el:∀ k:Int,ob (o2 (gv 2) (gc (.int k)) ltD) [.sh (.int x),.sh (.int m),.sh (.int (x % 10))] = some (decide (x % 10 < k)):=fun k=>rfl
 have ee:∀ k:Int,ob (o2 (gv 2) (gc (.int k)) eqD) [.sh (.int x),.sh (.int m),.sh (.int (x % 10))] = some (decide (x % 10 = k)):=fun k=>rfl
 have nl:∀ (k:Int) (A:GS),¬ x % 10 < k → ifD (ob (o2 (gv 2) (gc (.int k)) ltD)) A nilD [.sh (.int x),.sh (.int m),.sh (.int (x % 10))] = some (.nx [.sh (.int x),.sh (.int m),.sh (.int (x % 10))]):=fun k A h=>by
  rw [if_f (by rw [el,decide_eq_false h])]; rfl
 have ne:∀ (k:Int) (A:GS),¬ x % 10 = k → ifD (ob (o2 (gv 2) (gc (.int k)) eqD)) A nilD [.sh (.int x),.sh (.int m),.sh (.int (x % 10))] = some (.nx [.sh (.int x),.sh (.int m),.sh (.int (x % 10))]):=fun k A h=>by
  rw [if_f (by rw [ee,decide_eq_false h])]; rfl
 by_cases h6:x % 10 < 6
 ·have hk0:0 ≤ x / 10 % m:=Int.emod_nonneg _ (by omega)
  have hk1:x / 10 % m < m:=Int.emod_lt_of_pos _ hm
  refine ⟨.tup [.str "at",.int (x / 10 % m)],mkF_rt rfl (seq_to s0 (seq_rt ?_)),by simp [valB,marks,hk0],(fun i hi=>by cases hi),fun k hk=>?_⟩
  ·rw [if_t (by rw [el,decide_eq_true h6])]
   exact seq_rt (ret_of (tup_of (cons_of rfl (cons_of (d:=.int (x / 10 % m)) (by
    rw [o2_of (x:=.int (x / 10)) (y:=.int m) rfl rfl]; exact mod_p _ _ hm) rfl)) (by show 2 ≤ sizeLine; omega)))
  ·have:=Option.some.inj hk
   omega
 by_cases e6:x % 10 = 6
 ·refine ⟨.non,mkF_rt rfl (seq_to s0 (seq_to (nl 6 _ h6) (seq_rt ?_))),rfl,(fun i hi=>by cases hi),fun k hk=>by cases hk⟩
  rw [if_t (by rw [ee,decide_eq_true e6])]; rfl
 have p60:(10:Nat) ^ 60 = 1000000000000000000000000000000000000000000000000000000000000:=by decide
 by_cases h9:x % 10 < 9
 ·refine ⟨.int (x / 10 % 3 - 1),mkF_rt rfl (seq_to s0 (seq_to (nl 6 _ h6) (seq_to (ne 6 _ e6) (seq_rt ?_)))),rfl,(fun i hi=>?_),fun k hk=>by cases hk⟩
  ·rw [if_t (by rw [el,decide_eq_true h9])]; rfl
  ·injection hi with hi
   rw [p60]; omega
 ·obtain ⟨b,hb⟩:∃ b:Int,b = (x / 10) ^ 7 % 10 ^ 60:=⟨_,rfl⟩
  have p60i:(10:Int) ^ 60 = 1000000000000000000000000000000000000000000000000000000000000:=by decide
  have b0:0 ≤ b:=by rw [hb]; exact Int.emod_nonneg _ (by decide)
  have b1:b < 10 ^ 60:=by rw [hb]; exact Int.emod_lt_of_pos _ (by decide)
  obtain ⟨q,hq,hq1⟩:∃ q:Int,q = 1 - 2 * (x / 20 % 2) ∧ (q = 1 ∨ q = -1):=⟨_,rfl,by omega⟩
  refine ⟨.int (b * q),mkF_rt rfl (seq_to s0 (seq_to (nl 6 _ h6) (seq_to (ne 6 _ e6) (seq_to (nl 9 _ h9) (seq_rt (ret_of ?_)))))),rfl,(fun i hi=>?_),fun k hk=>by cases hk⟩
  ·rw [o2_of (x:=.int b) (y:=.int q) (by
    rw [o2_of (x:=.int ((x / 10) ^ 7)) (y:=.int (10 ^ 60)) (by
     rw [o2_of (x:=.int (x / 10)) (y:=.int 7) rfl rfl]
     simp only [powD,ii]
     rw [if_pos ⟨by decide,by decide,by omega⟩]
     rfl) (by rw [o2_of (x:=.int 10) (y:=.int 60) rfl rfl]; exact pow60)]
    rw [mod_p _ _ (by decide),hb]) (by
    rw [o2_of (x:=.int 1) (y:=.int (2 * (x / 20 % 2))) rfl (by rw [o2_of (x:=.int 2) (y:=.int (x / 20 % 2)) rfl rfl]; exact mul_r _ _ (by omega)),hq]
    rfl)]
   exact mul_r _ _ (by omega)
  ·injection hi with hi
   rw [← hi,p60]
   rw [p60i] at b1
   rcases hq1 with rfl | rfl
   ·rw [Int.mul_one]; omega
   ·rw [Int.mul_neg,Int.mul_one,Int.natAbs_neg]; omega
noncomputable def VB:GS:=(seqD (setD (gN 0) (o2 (o2 (gv 0) (gc (.int 48271)) mulA) (gc (.int 2147483647)) modD))
 (seqD (exprX (appX 3 (oA (consA (gv 0) (consA (gv 2) nilA)) m__law_value)))
 nilD))
theorem values_ok (x:Int) (c:Nat) (m:Int) (hc:c ≤ 1000) (hm:0 < m):∃ vs,m__law_values [.int x,.int (c:Int),.int m] = some (.lst vs) ∧ vs.length = c ∧ ∀ v ∈ vs,Vk v m:=by
 have z:(10000:Nat) ≤ sizeLine:=by decide
 obtain ⟨δ',l1,l2⟩:=forD_inv (f:=gN 4) (G:=VB) (fun i δ=>∃ (x':Int) (vs:List D) (s4:Sl),δ = [.sh (.int x'),.sh (.int (c:Int)),.sh (.int m),.ow (.lst vs),s4] ∧ vs.length = i ∧ ∀ v ∈ vs,Vk v m) (rngD 0 (c:Int)) 0
  [.sh (.int x),.sh (.int (c:Int)),.sh (.int m),.ow (.lst []),.un] (by
   rintro j d δ hj ⟨x',vs,s4,rfl,hl,hv⟩
   obtain ⟨hj',rfl⟩:=rng_get hj
   rw [Int.toNat_natCast] at hj'
   obtain ⟨v,hv1,hv2⟩:=value_ok (x' * 48271 % 2147483647) m ⟨Int.emod_nonneg _ (by decide),by have:=Int.emod_lt_of_pos (x' * 48271) (by decide:(0:Int) < 2147483647); omega⟩ hm
   refine ⟨_,[.sh (.int (x' * 48271 % 2147483647)),.sh (.int (c:Int)),.sh (.int m),.ow (.lst (vs ++ [v])),.sh (.int (j:Int))],rfl,?_,_,vs ++ [v],_,rfl,by simp [hl],fun u hu=>?_⟩
   ·refine seq_to (set_of (d:=.int (x' * 48271 % 2147483647)) (by
     rw [o2_of (x:=.int (x' * 48271)) (y:=.int 2147483647) (by rw [o2_of (x:=.int x') (y:=.int 48271) rfl rfl]; exact mul_r _ _ (by omega)) rfl]
     rfl)) ?_
    refine seq_to (app_ow (l:=vs) (d:=v) rfl (by rw [oA_of (ds:=[.int (x' * 48271 % 2147483647),.int m]) rfl]; exact hv1) (by omega)) rfl
   ·rcases List.mem_append.mp hu with q | q
    ·exact hv u q
    ·rw [List.mem_singleton.mp q]; exact hv2) ⟨_,[],_,rfl,rfl,fun v hv=>by cases hv⟩
 obtain ⟨x',vs,s4,rfl,hl,hv⟩:=l2
 rw [rng_len,Int.toNat_natCast,Nat.zero_add] at hl
 exact ⟨vs,mkN_rf rfl (seq_to (δ':=[.sh (.int x),.sh (.int (c:Int)),.sh (.int m),.ow (.lst []),.un]) rfl (seq_to (for_of (items:=rngD 0 (c:Int)) (rng1_of (cons_of rfl rfl) (by omega) (by omega)) l1) (seq_rf rfl))),hl,hv⟩
structure Gd (p:Pt) (m:Int) (nm:List Str):Prop where
 ok:p.Ok
 vk:∀ v ∈ p.vals,Vk v m
 nms:∀ s ∈ p.all,s ∈ nm
theorem w_a:isWord ("" : Str) = true ∧ isWord ("a" : Str) = true ∧ isWord (" a" : Str) = true:=by decide +kernel
theorem s_0:((" 0" : Str)) = strOf [32,48]:=by decide +kernel
theorem isWord_of (l:List Nat) (h2:l.length ≤ 20) (h3:∀ c ∈ l,c ∈ wordS.cps.toList):isWord (strOf l) = true:=by
 unfold isWord hasAll
 rw [strOf_len,strOf_list]
 simp only [Bool.and_eq_true,decide_eq_true_eq,List.all_eq_true]
 exact ⟨by omega,fun c hc=>by simpa using h3 c hc⟩
theorem name_word:∀ c ∈ nameS.cps.toList,c ∈ wordS.cps.toList:=by decide +kernel
theorem sp_word:∀ c ∈ ([32,48]:List Nat),c ∈ wordS.cps.toList:=by decide +kernel
theorem name_mem {s:Str} (h:isName s = true):∀ c ∈ s.cps.toList,c ∈ nameS.cps.toList:=by
 unfold isName hasAll at h
 simp only [Bool.and_eq_true,decide_eq_true_eq,List.all_eq_true] at h
 intro c hc
 have:=h.1.2 c hc
 simpa using this
theorem at_nm (nm:List Str) (hp:Pool nm) (i:Int) (h0:0 ≤ i) (h1:i < 8):ixD (.lst (nm.map .str)) (.int i) = some (.str (nm.getD i.toNat "")) ∧ nm.getD i.toNat "" ∈ nm:=by
 have hl:=hp.len
 have hlt:i.toNat < nm.length:=by omega
 refine ⟨?_,?_⟩
 ·show atI (nm.map D.str) i = _
  rw [atI_in h0 (by rw [List.length_map]; omega) .non]
  simp [List.getD_eq_getElem?_getD,hlt]
 ·rw [show nm.getD i.toNat "" = nm[i.toNat] by simp [List.getD_eq_getElem?_getD,hlt]]
  exact List.getElem_mem hlt
theorem part_ok (x m:Int) (vs:List D) (nm:List Str) (hp:Pool nm) (hv:∀ v ∈ vs,Vk v m) (hl:vs.length ≤ 12) (hl8:¬ x % 8 < 4 → vs.length ≤ 8):∃ p:Pt,m__law_part [.int x,.lst vs,.lst (nm.map .str)] = some p.d ∧ Gd p m nm:=by
 have z:(100:Nat) ≤ sizeLine:=by decide
 have hnl:=hp.len
 have s0:setD (gN 3) (o2 (gv 0) (gc (.int 8)) modD) [.sh (.int x),.sh (.lst vs),.sh (.lst (nm.map .str)),.un,.un,.un] = some (.nx [.sh (.int x),.sh (.lst vs),.sh (.lst (nm.map .str)),.sh (.int (x % 8)),.un,.un]):=rfl
 by_cases h0:x % 8 = 0
 ·obtain ⟨w,hw,hww⟩:∃ w:Str,o2 (lstG (consA (gc (.str "")) (consA (gc (.str "a")) (consA (gc (.str " a")) (consA (o2 (o2 (gv 2) (gc (.int 0)) ixD) (gc (.str " 0")) addA) nilA))))) (o2 (o2 (gv 0) (gc (.int 16)) fdivD) (gc (.int 4)) modD) ixD [.sh (.int x),.sh (.lst vs),.sh (.lst (nm.map .str)),.sh (.int (x % 8)),.un,.un] = some (.str w) ∧ isWord w = true:=by
   obtain ⟨a1,a2⟩:=at_nm nm hp 0 (by omega) (by omega)
   obtain ⟨s,hs⟩:∃ s,s = nm.getD (0:Int).toNat "" := ⟨_,rfl⟩
   rw [← hs] at a1 a2
   have hn:=hp.names s a2
   have hsh:=name_short hn
   have es:s = strOf s.cps.toList:=(strOf_of s).symm
   have hsl:s.cps.toList.length ≤ 8:=by
    have:s.length = s.cps.toList.length:=by show s.cps.size = _; simp
    omega
   rw [o2_of (x:=.lst [.str "",.str "a",.str " a",.str (strOf (s.cps.toList ++ [32,48]))]) (y:=.int (x / 16 % 4)) (lst_of (cons_of rfl (cons_of rfl (cons_of rfl (cons_of (d:=.str (strOf (s.cps.toList ++ [32,48]))) (by
    rw [o2_of (x:=.str s) (y:=.str " 0") (by rw [o2_of (x:=.lst (nm.map .str)) (y:=.int 0) rfl rfl]; exact a1) rfl]
    have e:addA (.str (strOf s.cps.toList)) (.str (strOf [32,48])) = some (.str (strOf (s.cps.toList ++ [32,48]))):=add_s _ _ (by simp only [List.length_cons,List.length_nil]; omega)
    rw [← es,← s_0] at e
    exact e) rfl)))) (by show 4 ≤ sizeLine; omega)) rfl]
   have q:x / 16 % 4 = 0 ∨ x / 16 % 4 = 1 ∨ x / 16 % 4 = 2 ∨ x / 16 % 4 = 3:=by omega
   rcases q with q | q | q | q <;> rw [q]
   ·exact ⟨_,rfl,w_a.1⟩
   ·exact ⟨_,rfl,w_a.2.1⟩
   ·exact ⟨_,rfl,w_a.2.2⟩
   ·refine ⟨_,rfl,isWord_of _ (by simp only [List.length_append,List.length_cons,List.length_nil]; omega) fun c hc=>?_⟩
    rcases List.mem_append.mp hc with q | q
    ·exact name_word c (name_mem hn c q)
    ·exact sp_word c q
  refine ⟨.text w,mkF_rt rfl (seq_to s0 (seq_rt ?_)),hww,(fun v hv=>by cases hv),fun s hs=>by cases hs⟩
  rw [if_t (by show some (decide (x % 8 = 0)) = _; rw [decide_eq_true h0])]
  exact seq_rt (ret_of (tup_of (cons_of rfl (cons_of hw rfl)) (by show 2 ≤ sizeLine; omega)))
 have n0:∀ A:GS,ifD (ob (o2 (gv 3) (gc (.int 0)) eqD)) A nilD [.sh (.int x),.sh (.lst vs),.sh (.lst (nm.map .str)),.sh (.int (x % 8)),.un,.un] = some (.nx [.sh (.int x),.sh (.lst vs),.sh (.lst (nm.map .str)),.sh (.int (x % 8)),.un,.un]):=fun A=>by
  rw [if_f (by show some (decide (x % 8 = 0)) = _; rw [decide_eq_false h0])]; rfl
 by_cases h4:x % 8 < 4
 ·refine ⟨.row vs,mkF_rt rfl (seq_to s0 (seq_to (n0 _) (seq_rt ?_))),⟨hl,fun v q=>(hv v q).ok⟩,hv,fun s hs=>by cases hs⟩
  rw [if_t (by show some (decide (x % 8 < 4)) = _; rw [decide_eq_true h4])]
  exact seq_rt (ret_of (tup_of (cons_of rfl (cons_of (by rw [oA_of (ds:=[.lst vs]) rfl]; rfl) rfl)) (by show 2 ≤ sizeLine; omega)))
 have n4:∀ A:GS,ifD (ob (o2 (gv 3) (gc (.int 4)) ltD)) A nilD [.sh (.int x),.sh (.lst vs),.sh (.lst (nm.map .str)),.sh (.int (x % 8)),.un,.un] = some (.nx [.sh (.int x),.sh (.lst vs),.sh (.lst (nm.map .str)),.sh (.int (x % 8)),.un,.un]):=fun A=>by
  rw [if_f (by show some (decide (x % 8 < 4)) = _; rw [decide_eq_false h4])]; rfl
 have hv8:=hl8 h4
 obtain ⟨st,hst⟩:∃ st:Int,st = x / 8 % 2 * 3:=⟨_,rfl⟩
 have hst0:0 ≤ st ∧ st ≤ 3:=by omega
 obtain ⟨ns,hns⟩:∃ ns:Nat → Str,ns = fun (j:Nat)=>nm.getD ((st + (j:Int)) % 8).toNat "" := ⟨_,rfl⟩
 have nsm:∀ j,ns j ∈ nm:=fun j=>by rw [hns]; exact (at_nm nm hp ((st + (j:Int)) % 8) (by omega) (by omega)).2
 obtain ⟨ps,hps⟩:∃ ps:List (Str × D),ps = (List.range vs.length).map fun j=>(ns j,vs.getD j .non):=⟨_,rfl⟩
 have snd:ps.map (·.2) = vs:=by
  rw [hps,List.map_map]
  refine List.ext_getElem (by simp) fun i h1 h2=>?_
  simp [List.getD_eq_getElem?_getD,h2]
 have fst:∀ s ∈ ps.map (·.1),s ∈ nm:=fun s hs=>by
  obtain ⟨p,hp',rfl⟩:=List.mem_map.mp hs
  rw [hps] at hp'
  obtain ⟨j,_,rfl⟩:=List.mem_map.mp hp'
  exact nsm j
 have pok:PsOk ps:=by
  refine ⟨by rw [hps]; simp; omega,fun p hp'=>hp.names _ (fst _ (List.mem_map.mpr ⟨p,hp',rfl⟩)),fun p hp'=>(hv p.2 (by rw [← snd]; exact List.mem_map.mpr ⟨p,hp',rfl⟩)).ok,?_⟩
  rw [hps,List.map_map]
  refine List.nodup_iff_pairwise_ne.mpr (List.pairwise_map.mpr (List.Pairwise.imp_of_mem ?_ (List.nodup_range (n:=vs.length))))
  intro a b ha hb hab e
  have ha:=List.mem_range.mp ha
  have hb:=List.mem_range.mp hb
  have e:ns a = ns b:=e
  rw [hns] at e
  have la:((st + (a:Int)) % 8).toNat < nm.length:=by omega
  have lb:((st + (b:Int)) % 8).toNat < nm.length:=by omega
  have e:nm.getD ((st + (a:Int)) % 8).toNat "" = nm.getD ((st + (b:Int)) % 8).toNat "" := e
  rw [show nm.getD ((st + (a:Int)) % 8).toNat "" = nm[((st + (a:Int)) % 8).toNat] by simp [List.getD_eq_getElem?_getD,la],show nm.getD ((st + (b:Int)) % 8).toNat "" = nm[((st + (b:Int)) % 8).toNat] by simp [List.getD_eq_getElem?_getD,lb]] at e
  have:=(List.getElem_inj hp.nd).mp e
  omega
 have s4:setD (gN 4) (o2 (o2 (o2 (gv 0) (gc (.int 8)) fdivD) (gc (.int 2)) modD) (gc (.int 3)) mulA) [.sh (.int x),.sh (.lst vs),.sh (.lst (nm.map .str)),.sh (.int (x % 8)),.un,.un] = some (.nx [.sh (.int x),.sh (.lst vs),.sh (.lst (nm.map .str)),.sh (.int (x % 8)),.sh (.int st),.un]):=set_of (d:=.int st) (by
  rw [o2_of (x:=.int (x / 8 % 2)) (y:=.int 3) rfl rfl,mul_r _ _ (by omega),hst])
 have s5:setD (gN 5) (oA (consA (compG 1 [1,2,4] (rng1I (consA (oA (consA (gv 1) nilA) lenD) nilA)) (gN 0) noT (tupG (consA (o2 (gv 2) (o2 (o2 (gv 3) (gv 0) addA) (gc (.int 8)) modD) ixD) (consA (o2 (gv 1) (gv 0) ixD) nilA)))) nilA) tupOfD) [.sh (.int x),.sh (.lst vs),.sh (.lst (nm.map .str)),.sh (.int (x % 8)),.sh (.int st),.un] = some (.nx [.sh (.int x),.sh (.lst vs),.sh (.lst (nm.map .str)),.sh (.int (x % 8)),.sh (.int st),.sh (.tup (ps.map pr))]):=set_of (d:=.tup (ps.map pr)) (by
  rw [oA_of (ds:=[.lst (ps.map pr)]) (cons_of (comp_of (items:=rngD 0 (vs.length:Int)) (rng1_of (cons_of rfl rfl) (by omega) (by omega)) (by rw [rng_len]; omega) (by
   rw [hps,List.map_map]
   have q:=comp_rng (gt:=noT) (ge:=(tupG (consA (o2 (gv 2) (o2 (o2 (gv 3) (gv 0) addA) (gc (.int 8)) modD) ixD) (consA (o2 (gv 1) (gv 0) ixD) nilA)))) (δ:=[.un,.sh (.lst vs),.sh (.lst (nm.map .str)),.sh (.int st)]) (n:=(vs.length:Int)) (fun j=>pr (ns j,vs.getD j .non)) (fun k hk=>⟨[.sh (.int (k:Int)),.sh (.lst vs),.sh (.lst (nm.map .str)),.sh (.int st)],rfl,rfl,by
    refine tup_of (cons_of (d:=.str (ns k)) ?_ (cons_of (d:=vs.getD k .non) ?_ rfl)) (by show 2 ≤ sizeLine; omega)
    ·rw [o2_of (x:=.lst (nm.map .str)) (y:=.int ((st + (k:Int)) % 8)) rfl rfl,hns]
     exact (at_nm nm hp _ (by omega) (by omega)).1
    ·rw [o2_of (x:=.lst vs) (y:=.int (k:Int)) rfl rfl]
     show atI vs (k:Int) = _
     rw [atI_in (by omega) (by omega) .non,Int.toNat_natCast]⟩)
   rw [Int.toNat_natCast] at q
   exact q)) rfl)]
  rfl)
 by_cases h6:x % 8 < 6
 ·refine ⟨.table ps,mkF_rt rfl (seq_to s0 (seq_to (n0 _) (seq_to (n4 _) (seq_to s4 (seq_to s5 (seq_rt ?_)))))),pok,by show ∀ v ∈ ps.map (·.2),Vk v m; rw [snd]; exact hv,fun s hs=>fst s (by simpa [Pt.all,Pt.pnames,Pt.cls] using hs)⟩
  rw [if_t (by show some (decide (x % 8 < 6)) = _; rw [decide_eq_true h6])]
  exact seq_rt (ret_of (tup_of (cons_of rfl (cons_of rfl rfl)) (by show 2 ≤ sizeLine; omega)))
 ·obtain ⟨a1,a2⟩:=at_nm nm hp (x / 16 % 2) (by omega) (by omega)
  refine ⟨.rcd (nm.getD (x / 16 % 2).toNat "") ps,mkF_rt rfl (seq_to s0 (seq_to (n0 _) (seq_to (n4 _) (seq_to s4 (seq_to s5 (seq_to (δ':=[.sh (.int x),.sh (.lst vs),.sh (.lst (nm.map .str)),.sh (.int (x % 8)),.sh (.int st),.sh (.tup (ps.map pr))]) ?_ (seq_rt (ret_of ?_)))))))),⟨hp.names _ a2,pok⟩,by show ∀ v ∈ ps.map (·.2),Vk v m; rw [snd]; exact hv,fun s hs=>?_⟩
  ·rw [if_f (by show some (decide (x % 8 < 6)) = _; rw [decide_eq_false h6])]; rfl
  ·exact tup_of (cons_of rfl (cons_of (by
    rw [o2_of (x:=.lst (nm.map .str)) (y:=.int (x / 16 % 2)) rfl rfl]
    exact a1) (cons_of rfl rfl))) (by show 3 ≤ sizeLine; omega)
  ·rcases List.mem_append.mp hs with q | q
   ·exact fst s q
   ·have:=List.mem_singleton.mp q
    rw [this]; exact a2
noncomputable def WB:GS:=(seqD (setD (gN 5) (oA (consA (o2 (o2 (gv 0) (o2 (gv 4) (oA (consA (gv 0) nilA) lenD) modD) ixD) (o2 (gv 4) (o2 (gv 4) (oA (consA (gv 0) nilA) lenD) fdivD) mulA) addA) (consA (gv 4) nilA)) m__law_mix))
 (seqD (setD (gN 6) (o2 (lstG (consA (gc (.int 0)) (consA (gc (.int 1)) (consA (gc (.int 2)) (consA (gc (.int 2)) (consA (gc (.int 3)) (consA (gc (.int 2)) (consA (gc (.int 3)) (consA (gc (.int 1)) nilA))))))))) (o2 (o2 (gv 5) (gc (.int 32)) fdivD) (gc (.int 8)) modD) ixD))
 (seqD (ifD (ob (o2 (o2 (o2 (gv 5) (gc (.int 256)) fdivD) (gc (.int 16)) modD) (gc (.int 3)) eqD))
 (seqD (setD (gN 6) (o2 (lstG (consA (gc (.int 8)) (consA (gc (.int 12)) nilA))) (oA (consA (o2 (o2 (gv 5) (gc (.int 8)) modD) (gc (.int 4)) ltD) nilA) intOfD) ixD))
 nilD)
 nilD)
 (seqD (setD (gN 7) (oA (consA (o2 (o2 (gv 5) (gc (.int 8)) fdivD) (gc (.int 1)) addA) (consA (gv 6) (consA (gv 1) nilA))) m__law_values))
 (seqD (exprX (appX 3 (oA (consA (gv 5) (consA (gv 7) (consA (gv 2) nilA))) m__law_part)))
 nilD)))))
theorem WB_ok (cs:List Int) (hc:0 < cs.length ∧ cs.length ≤ 1000) (m:Int) (hm:0 < m ∧ m ≤ 1000) (nm:List Str) (hp:Pool nm) (k:Nat) (hk:k ≤ 1000) (acc:List D) (ha:acc.length ≤ 2000) (s5 s6 s7:Sl) :
  ∃ (p:Pt) (t5 t6 t7:Sl),Gd p m nm ∧ WB [.sh (.lst (cs.map .int)),.sh (.int m),.sh (.lst (nm.map .str)),.ow (.lst acc),.sh (.int (k:Int)),s5,s6,s7] = some (.nx [.sh (.lst (cs.map .int)),.sh (.int m),.sh (.lst (nm.map .str)),.ow (.lst (acc ++ [p.d])),.sh (.int (k:Int)),t5,t6,t7]):=by
 have z:(10000:Nat) ≤ sizeLine:=by decide
 obtain ⟨l,hl⟩:∃ l:Int,l = (cs.length:Int):=⟨_,rfl⟩
 have hi0:0 ≤ (k:Int) % l:=Int.emod_nonneg _ (by omega)
 have hi1:(k:Int) % l < l:=Int.emod_lt_of_pos _ (by omega)
 obtain ⟨c,hcx⟩:∃ c:Int,ixD (.lst (cs.map .int)) (.int ((k:Int) % l)) = some (.int c):=by
  have hlt:((k:Int) % l).toNat < cs.length:=by omega
  refine ⟨cs[((k:Int) % l).toNat],?_⟩
  show atI (cs.map D.int) _ = _
  rw [atI_in hi0 (by rw [List.length_map]; omega) .non]
  simp [List.getD_eq_getElem?_getD,hlt]
 have hdl:(k:Int) / l ≤ 1000 ∧ 0 ≤ (k:Int) / l:=by
  have h1:=Int.ediv_le_self l (show (0:Int) ≤ (k:Int) by omega)
  have h2:=Int.ediv_nonneg (show (0:Int) ≤ (k:Int) by omega) (show (0:Int) ≤ l by omega)
  omega
 obtain ⟨x,hx0,hx1,hx⟩:=mix_ok (c + (k:Int) * ((k:Int) / l)) (k:Int) ⟨by omega,by omega⟩
 obtain ⟨n,hn,hn12,hn8⟩:∃ n:Nat,(n:Int) = (if x / 256 % 16 = 3 then (if x % 8 < 4 then 12 else 8) else [0,1,2,2,3,2,3,1].getD (x / 32 % 8).toNat 0) ∧ n ≤ 12 ∧ (¬ x % 8 < 4 → n ≤ 8):=by
  split
  ·split
   ·exact ⟨12,rfl,by omega,fun h=>absurd (by assumption) h⟩
   ·exact ⟨8,rfl,by omega,fun _=>by omega⟩
  ·have q:x / 32 % 8 = 0 ∨ x / 32 % 8 = 1 ∨ x / 32 % 8 = 2 ∨ x / 32 % 8 = 3 ∨ x / 32 % 8 = 4 ∨ x / 32 % 8 = 5 ∨ x / 32 % 8 = 6 ∨ x / 32 % 8 = 7:=by omega
   rcases q with q | q | q | q | q | q | q | q <;> rw [q]
   ·exact ⟨0,rfl,by omega,fun _=>by omega⟩
   ·exact ⟨1,rfl,by omega,fun _=>by omega⟩
   ·exact ⟨2,rfl,by omega,fun _=>by omega⟩
   ·exact ⟨2,rfl,by omega,fun _=>by omega⟩
   ·exact ⟨3,rfl,by omega,fun _=>by omega⟩
   ·exact ⟨2,rfl,by omega,fun _=>by omega⟩
   ·exact ⟨3,rfl,by omega,fun _=>by omega⟩
   ·exact ⟨1,rfl,by omega,fun _=>by omega⟩
 obtain ⟨vs,hv1,hv2,hv3⟩:=values_ok (x / 8 + 1) n m (by omega) (by omega)
 obtain ⟨p,hp1,hp2⟩:=part_ok x m vs nm hp hv3 (by omega) (fun h=>by have:=hn8 h; omega)
 refine ⟨p,.sh (.int x),.sh (.int (n:Int)),.sh (.lst vs),hp2,?_⟩
 unfold WB
 have hlen:∀ (s5 s6 s7:Sl),oA (consA (gv 0) nilA) lenD [.sh (.lst (cs.map .int)),.sh (.int m),.sh (.lst (nm.map .str)),.ow (.lst acc),.sh (.int (k:Int)),s5,s6,s7] = some (.int l):=fun s5 s6 s7=>by
  rw [oA_of (ds:=[.lst (cs.map .int)]) rfl]
  show some (D.int (((cs.map D.int).length:Nat):Int)) = _
  rw [List.length_map,hl]
 refine seq_to (set_of (d:=.int x) ?_) ?_
 ·rw [oA_of (ds:=[.int (c + (k:Int) * ((k:Int) / l)),.int (k:Int)]) (cons_of (d:=.int (c + (k:Int) * ((k:Int) / l))) (by
   rw [o2_of (x:=.int c) (y:=.int ((k:Int) * ((k:Int) / l))) (by
    rw [o2_of (x:=.lst (cs.map .int)) (y:=.int ((k:Int) % l)) rfl (by rw [o2_of (x:=.int (k:Int)) (y:=.int l) rfl (hlen _ _ _)]; exact mod_p _ _ (by omega))]
    exact hcx) (by
    rw [o2_of (x:=.int (k:Int)) (y:=.int ((k:Int) / l)) rfl (by rw [o2_of (x:=.int (k:Int)) (y:=.int l) rfl (hlen _ _ _)]; exact fdiv_p _ _ ⟨by omega,by omega⟩)]
    exact mul_r _ _ (by omega))]
   rfl) rfl)]
  exact hx
 obtain ⟨n0,hn0⟩:∃ n0:Int,n0 = [0,1,2,2,3,2,3,1].getD (x / 32 % 8).toNat 0:=⟨_,rfl⟩
 refine seq_to (set_of (d:=.int n0) ?_) ?_
 ·rw [o2_of (x:=.lst [.int 0,.int 1,.int 2,.int 2,.int 3,.int 2,.int 3,.int 1]) (y:=.int (x / 32 % 8)) (lst_of rfl (by show 8 ≤ sizeLine; omega)) rfl]
  rw [hn0]
  have q:x / 32 % 8 = 0 ∨ x / 32 % 8 = 1 ∨ x / 32 % 8 = 2 ∨ x / 32 % 8 = 3 ∨ x / 32 % 8 = 4 ∨ x / 32 % 8 = 5 ∨ x / 32 % 8 = 6 ∨ x / 32 % 8 = 7:=by omega
  rcases q with q | q | q | q | q | q | q | q <;> rw [q] <;> rfl
 refine seq_to (δ':=[.sh (.lst (cs.map .int)),.sh (.int m),.sh (.lst (nm.map .str)),.ow (.lst acc),.sh (.int (k:Int)),.sh (.int x),.sh (.int (n:Int)),s7]) ?_ ?_
 ·change ifD _ _ _ [.sh (.lst (cs.map .int)),.sh (.int m),.sh (.lst (nm.map .str)),.ow (.lst acc),.sh (.int (k:Int)),.sh (.int x),.sh (.int n0),s7] = _
  rw [hn]
  by_cases h:x / 256 % 16 = 3
  ·rw [if_t (by show some (decide (x / 256 % 16 = 3)) = _; rw [decide_eq_true h]),if_pos h]
   refine seq_to (set_of (d:=.int (if x % 8 < 4 then 12 else 8)) ?_) rfl
   rw [o2_of (x:=.lst [.int 8,.int 12]) (y:=.int (if decide (x % 8 < 4) = true then 1 else 0)) (lst_of rfl (by show 2 ≤ sizeLine; omega)) rfl]
   by_cases q:x % 8 < 4
   ·rw [if_pos (decide_eq_true q),if_pos q]; rfl
   ·rw [if_neg (by simpa using q),if_neg q]; rfl
  ·rw [if_f (by show some (decide (x / 256 % 16 = 3)) = _; rw [decide_eq_false h]),if_neg h,hn0]; rfl
 refine seq_to (set_of (d:=.lst vs) (by
  rw [oA_of (ds:=[.int (x / 8 + 1),.int (n:Int),.int m]) rfl]; exact hv1)) ?_
 refine seq_to (app_ow (l:=acc) (d:=p.d) rfl (by
  rw [oA_of (ds:=[.int x,.lst vs,.lst (nm.map .str)]) rfl]; exact hp1) (by omega)) rfl
theorem web_ok (cs:List Int) (hc:0 < cs.length ∧ cs.length ≤ 1000) (m:Nat) (hm:0 < m ∧ m ≤ 1000) (nm:List Str) (hp:Pool nm) :
  ∃ ps:List Pt,m__law_web [.lst (cs.map .int),.int (m:Int),.lst (nm.map .str)] = some (.tup (ps.map Pt.d)) ∧ ps.length = m ∧ ∀ p ∈ ps,Gd p (m:Int) nm:=by
 have z:(10000:Nat) ≤ sizeLine:=by decide
 obtain ⟨δ',l1,l2⟩:=forD_inv (f:=gN 4) (G:=WB) (fun i δ=>∃ (ps:List Pt) (s4 s5 s6 s7:Sl),δ = [.sh (.lst (cs.map .int)),.sh (.int (m:Int)),.sh (.lst (nm.map .str)),.ow (.lst (ps.map Pt.d)),s4,s5,s6,s7] ∧ ps.length = i ∧ ∀ p ∈ ps,Gd p (m:Int) nm) (rngD 0 (m:Int)) 0
  [.sh (.lst (cs.map .int)),.sh (.int (m:Int)),.sh (.lst (nm.map .str)),.ow (.lst []),.un,.un,.un,.un] (by
   rintro j d δ hj ⟨ps,s4,s5,s6,s7,rfl,hl,hg⟩
   obtain ⟨hj',rfl⟩:=rng_get hj
   rw [Int.toNat_natCast] at hj'
   obtain ⟨p,t5,t6,t7,h1,h2⟩:=WB_ok cs hc (m:Int) (by omega) nm hp j (by omega) (ps.map Pt.d) (by rw [List.length_map]; omega) s5 s6 s7
   refine ⟨_,_,rfl,h2,ps ++ [p],_,t5,t6,t7,by rw [List.map_append]; rfl,by simp [hl],fun q hq=>?_⟩
   rcases List.mem_append.mp hq with a | a
   ·exact hg q a
   ·rw [List.mem_singleton.mp a]; exact h1) ⟨[],_,_,_,_,rfl,rfl,fun p hp=>by cases hp⟩
 obtain ⟨ps,s4,s5,s6,s7,rfl,hl,hg⟩:=l2
 rw [rng_len,Int.toNat_natCast,Nat.zero_add] at hl
 refine ⟨ps,mkF_rt rfl (seq_to (δ':=[.sh (.lst (cs.map .int)),.sh (.int (m:Int)),.sh (.lst (nm.map .str)),.ow (.lst []),.un,.un,.un,.un]) rfl (seq_to (for_of (items:=rngD 0 (m:Int)) (rng1_of (cons_of rfl rfl) (by omega) (by omega)) l1) (seq_rt (ret_of ?_)))),hl,hg⟩
 show oA (consA (gv 3) nilA) tupOfD (frz _) = _
 rw [oA_of (ds:=[.lst (ps.map Pt.d)]) rfl]
 rfl
theorem comp_snd2 (ps:List (Str × D)):compD (tup2 0 1) noT (gv 1) [.un,.un] (ps.map pr) = some (ps.map (·.2)):=by
 rw [compD_map (fun d=>match d with | .tup [_,v]=>v | _=>.non) (fun d hd=>by
  obtain ⟨p,hp,rfl⟩:=List.mem_map.mp hd
  exact ⟨_,rfl,rfl,rfl⟩),List.map_map]
 rfl
theorem vals_ok (p:Pt) (h:p.few):m__law_vals [p.d] = some (.lst p.vals):=by
 cases p with
 | text w=>kernel_rfl
 | row vs =>
  refine mkN_rf rfl (seq_to (δ':=[.sh (Pt.row vs).d]) (by rw [if_f (by kernel_rfl)]; rfl) (seq_rf (by rw [if_t (by kernel_rfl)]; rfl)))
 | table ps =>
  refine mkN_rf rfl (seq_to (δ':=[.sh (Pt.table ps).d]) (by rw [if_f (by kernel_rfl)]; rfl) (seq_to (δ':=[.sh (Pt.table ps).d]) (by rw [if_f (by kernel_rfl)]; rfl) (seq_rf (retF_of ?_))))
  exact comp_of (items:=ps.map pr) rfl (by have:(ps.map (·.2)).length ≤ sizeLine:=h; simpa using this) (comp_snd2 ps)
 | rcd c ps =>
  refine mkN_rf rfl (seq_to (δ':=[.sh (Pt.rcd c ps).d]) (by rw [if_f (by kernel_rfl)]; rfl) (seq_to (δ':=[.sh (Pt.rcd c ps).d]) (by rw [if_f (by kernel_rfl)]; rfl) (seq_rf (retF_of ?_))))
  exact comp_of (items:=ps.map pr) rfl (by have:(ps.map (·.2)).length ≤ sizeLine:=h; simpa using this) (comp_snd2 ps)
theorem cut_init (xs:List D) (x:D):cutD (xs ++ [x]) none (some (-1)) = xs:=by
 unfold cutD
 have i1:sIx (xs ++ [x]).length (xs ++ [x]).length (some (-1)) = xs.length:=by
  show (if (-1:Int) < 0 then ((-1:Int) + ((xs ++ [x]).length:Int)).toNat else min (-1:Int).toNat (xs ++ [x]).length) = _
  rw [if_pos (by decide),List.length_append]
  simp only [List.length_cons,List.length_nil]
  omega
 rw [i1]
 show ((xs ++ [x]).drop 0).take (xs.length - 0) = _
 simp
theorem atI_neg1 (xs:List D) (x:D):atI (xs ++ [x]) (-1) = some x:=by
 unfold atI ixN
 rw [if_neg (by decide),if_pos (by rw [List.length_append]; simp only [List.length_cons,List.length_nil]; omega)]
 rw [show ((-1:Int) + ((xs ++ [x]).length:Int)).toNat = xs.length by rw [List.length_append]; simp only [List.length_cons,List.length_nil]; omega]
 simp
theorem with_ok (p:Pt) (h:p.few) (vs:List D) (hl:vs.length = p.vals.length ∨ p.vals = [] ∧ vs = []):m__law_with [p.d,.lst vs] = some (Pn.put p vs).d:=by
 have z:(100:Nat) ≤ sizeLine:=by decide
 have zz:(sizeLine:Int) < 2 ^ 62:=by decide
 have key:∀ (xs:List D) (ps:List (Str × D)),ps.length = vs.length → ps.length ≤ sizeLine → xs.length ≤ 10 →
   o2 (slAG (gv 0) noneO (someO (unG negD (gc (.int 1))))) (tupG (consA (oA (consA (compG 1 [0,1] (rng1I (consA (oA (consA (gv 1) nilA) lenD) nilA)) (gN 0) noT (tupG (consA (o2 (o2 (o2 (gv 1) (unG negD (gc (.int 1))) ixD) (gv 0) ixD) (gc (.int 0)) ixD) (consA (o2 (gv 2) (gv 0) ixD) nilA)))) nilA) tupOfD) nilA)) addA [.sh (.tup (xs ++ [.tup (ps.map pr)])),.sh (.lst vs)] = some (.tup (xs ++ [.tup (((ps.map (·.1)).zip vs).map pr)])):=fun xs ps hp hz hx=>by
  have hc:oA (consA (compG 1 [0,1] (rng1I (consA (oA (consA (gv 1) nilA) lenD) nilA)) (gN 0) noT (tupG (consA (o2 (o2 (o2 (gv 1) (unG negD (gc (.int 1))) ixD) (gv 0) ixD) (gc (.int 0)) ixD) (consA (o2 (gv 2) (gv 0) ixD) nilA)))) nilA) tupOfD [.sh (.tup (xs ++ [.tup (ps.map pr)])),.sh (.lst vs)] = some (.tup (((ps.map (·.1)).zip vs).map pr)):=by
   rw [oA_of (ds:=[.lst (((ps.map (·.1)).zip vs).map pr)]) (cons_of (comp_of (items:=rngD 0 (vs.length:Int)) (rng1_of (cons_of rfl rfl) (by omega) (by omega)) (by rw [rng_len]; omega) (by
    have q:=comp_rng (gt:=noT) (ge:=(tupG (consA (o2 (o2 (o2 (gv 1) (unG negD (gc (.int 1))) ixD) (gv 0) ixD) (gc (.int 0)) ixD) (consA (o2 (gv 2) (gv 0) ixD) nilA)))) (δ:=[.un,.sh (.tup (xs ++ [.tup (ps.map pr)])),.sh (.lst vs)]) (n:=(vs.length:Int)) (fun j=>pr ((ps.map (·.1)).getD j "",vs.getD j .non)) (fun k hk=>⟨[.sh (.int (k:Int)),.sh (.tup (xs ++ [.tup (ps.map pr)])),.sh (.lst vs)],rfl,rfl,by
     have hkl:k < ps.length:=by omega
     refine tup_of (cons_of (d:=.str ((ps.map (·.1)).getD k "")) ?_ (cons_of (d:=vs.getD k .non) ?_ rfl)) (by show 2 ≤ sizeLine; omega)
     ·rw [o2_of (x:=pr ps[k]) (y:=.int 0) (by
       rw [o2_of (x:=.tup (ps.map pr)) (y:=.int (k:Int)) (by
        rw [o2_of (x:=.tup (xs ++ [.tup (ps.map pr)])) (y:=.int (-1)) rfl rfl]
        exact atI_neg1 _ _) rfl]
       show atI (ps.map pr) (k:Int) = _
       rw [atI_in (by omega) (by rw [List.length_map]; omega) .non,Int.toNat_natCast]
       simp [List.getD_eq_getElem?_getD,hkl]) rfl]
      simp [List.getD_eq_getElem?_getD,hkl]
      rfl
     ·rw [o2_of (x:=.lst vs) (y:=.int (k:Int)) rfl rfl]
      show atI vs (k:Int) = _
      rw [atI_in (by omega) (by omega) .non,Int.toNat_natCast]⟩)
    rw [Int.toNat_natCast] at q
    refine q.trans ?_
    congr 1
    refine List.ext_getElem (by simp; omega) fun i h1 h2=>?_
    have hi:i < vs.length:=by simpa using h1
    have hi2:i < ps.length:=by omega
    simp [List.getD_eq_getElem?_getD,hi,hi2])) rfl)]
   rfl
  rw [o2_of (x:=.tup xs) (y:=.tup [.tup (((ps.map (·.1)).zip vs).map pr)]) (by
   show slA (.tup (xs ++ [.tup (ps.map pr)])) none (some (-1)) = _
   simp only [slA]
   rw [cut_init]) (tup_of (cons_of hc rfl) (by show 1 ≤ sizeLine; omega))]
  simp only [addA]
  rw [if_pos (by simp only [List.length_cons,List.length_nil]; omega)]
 have hlen:∀ ps:List (Str × D),p.vals = ps.map (·.2) → ps.length = vs.length:=fun ps e=>by
  rcases hl with q | ⟨q1,q2⟩
  ·rw [q,e,List.length_map]
  ·rw [q2]; rw [q1] at e; have:=congrArg List.length e; simp at this; simpa using this.symm
 cases p with
 | text w=>kernel_rfl
 | row us=>kernel_rfl
 | table ps =>
  exact mkF_rt rfl (seq_to (δ':=[.sh (Pt.table ps).d,.sh (.lst vs)]) (by rw [if_f (by kernel_rfl)]; rfl) (seq_to (δ':=[.sh (Pt.table ps).d,.sh (.lst vs)]) (by rw [if_f (by kernel_rfl)]; rfl) (seq_rt (ret_of (key [.str "table"] ps (hlen ps rfl) (by have:(ps.map (·.2)).length ≤ sizeLine:=h; simpa using this) (by simp))))))
 | rcd c ps =>
  exact mkF_rt rfl (seq_to (δ':=[.sh (Pt.rcd c ps).d,.sh (.lst vs)]) (by rw [if_f (by kernel_rfl)]; rfl) (seq_to (δ':=[.sh (Pt.rcd c ps).d,.sh (.lst vs)]) (by rw [if_f (by kernel_rfl)]; rfl) (seq_rt (ret_of (key [.str "record",.str c] ps (hlen ps rfl) (by have:(ps.map (·.2)).length ≤ sizeLine:=h; simpa using this) (by simp))))))
end Gw
namespace K22
open PySem DL W
theorem sub_len:∀ {l m:List Nat},l.Nodup → (∀ a ∈ l,a ∈ m) → l.length ≤ m.length
 | [],m,_,_=>Nat.zero_le _
 | a :: l,m,h,hs=>by
  obtain ⟨h1,h2⟩:=List.nodup_cons.mp h
  obtain ⟨m1,m2,rfl⟩:=List.append_of_mem (hs a List.mem_cons_self)
  have:=sub_len (m:=m1 ++ m2) h2 fun b hb=>by
   have:=hs b (List.mem_cons_of_mem _ hb)
   rcases List.mem_append.mp this with q | q
   ·exact List.mem_append.mpr (.inl q)
   ·rcases List.mem_cons.mp q with rfl | q
    ·exact absurd hb h1
    ·exact List.mem_append.mpr (.inr q)
  simp only [List.length_append,List.length_cons] at this ⊢
  omega
noncomputable def G__law_vals:GS:=(seqD (ifD (ob (o2 (o2 (gv 0) (gc (.int 0)) ixD) (gc (.str "text")) eqD))
 (seqD (retF (lstG nilA))
 nilD)
 nilD)
 (seqD (ifD (ob (o2 (o2 (gv 0) (gc (.int 0)) ixD) (gc (.str "row")) eqD))
 (seqD (retF (oA (consA (o2 (gv 0) (gc (.int 1)) ixD) nilA) lstOfD))
 nilD)
 nilD)
 (seqD (retF (compG 2 [] (tupI (o2 (gv 0) (unG negD (gc (.int 1))) ixD)) (tup2 0 1) noT (gv 1)))
 nilD)))
noncomputable def N__law_vals:List Str:=["_law_part_here"]
noncomputable def m__law_vals:List D → Option D:=mkN 1 N__law_vals G__law_vals
noncomputable def G__law_with:GS:=(seqD (ifD (ob (o2 (o2 (gv 0) (gc (.int 0)) ixD) (gc (.str "text")) eqD))
 (seqD (retD (gv 0))
 nilD)
 nilD)
 (seqD (ifD (ob (o2 (o2 (gv 0) (gc (.int 0)) ixD) (gc (.str "row")) eqD))
 (seqD (retD (tupG (consA (gc (.str "row")) (consA (oA (consA (gv 1) nilA) tupOfD) nilA))))
 nilD)
 nilD)
 (seqD (retD (o2 (slAG (gv 0) noneO (someO (unG negD (gc (.int 1))))) (tupG (consA (oA (consA (compG 1 [0,1] (rng1I (consA (oA (consA (gv 1) nilA) lenD) nilA)) (gN 0) noT (tupG (consA (o2 (o2 (o2 (gv 1) (unG negD (gc (.int 1))) ixD) (gv 0) ixD) (gc (.int 0)) ixD) (consA (o2 (gv 2) (gv 0) ixD) nilA)))) nilA) tupOfD) nilA)) addA))
 nilD)))
noncomputable def N__law_with:List Str:=["_law_part_here", "_law_some"]
noncomputable def m__law_with:List D → Option D:=mkF 2 N__law_with G__law_with
noncomputable def G__law_led:GS:=(seqD (ownD 2 (lstG nilA))
 (seqD (forG (lstI (oA (consA (gv 0) nilA) m__law_vals)) (gN 3)
 (seqD (ifD (ob (isiG isTup (gv 3)))
 (seqD (setD (gN 3) (tupG (consA (gc (.str "at")) (consA (o2 (gv 1) (o2 (gv 3) (gc (.int 1)) ixD) ixD) nilA))))
 nilD)
 nilD)
 (seqD (exprX (appX 2 (gv 3)))
 nilD)))
 (seqD (retD (borA (oA (consA (gv 0) (consA (gv 2) nilA)) m__law_with)))
 nilD)))
noncomputable def N__law_led:List Str:=["_law_part_here", "_law_numbers", "_law_some", "_law_value_here"]
noncomputable def m__law_led:List D → Option D:=mkF 2 N__law_led G__law_led
noncomputable def nd (l:List Nat):List D:=l.map fun (i:Nat)=>D.int (i:Int)
noncomputable def tgs (vs:List D):List Nat:=vs.filterMap fun v=>match v with | .tup [_,.int j]=>some j.toNat | _=>none
noncomputable section
end
theorem nd_app (a b:List Nat):nd (a ++ b) = nd a ++ nd b:=by unfold nd; rw [List.map_append]
theorem nd_len (a:List Nat):(nd a).length = a.length:=by simp [nd]
theorem any_nd (o:List Nat) (x:Nat):((nd o).any fun y=>eqF y (.int (x:Int))) = decide (x ∈ o):=by
 unfold nd
 rw [List.any_map,Bool.eq_iff_iff,List.any_eq_true,decide_eq_true_eq]
 constructor
 ·rintro ⟨y,hy,e⟩
  have e:decide ((y:Int) = (x:Int)) = true:=e
  have e:=of_decide_eq_true e
  have:y = x:=by omega
  subst this; exact hy
 ·intro h
  exact ⟨x,h,show decide ((x:Int) = (x:Int)) = true from decide_eq_true rfl⟩
theorem all_flat (o:List Nat):((nd o).all fun d=>flat d) = true:=by
 unfold nd
 rw [List.all_map,List.all_eq_true]
 exact fun _ _=>rfl
theorem tgs_lt {n:Nat}:∀ {vs:List D},(∀ v ∈ vs,v = .non ∨ (∃ z,v = .int z) ∨ ∃ j:Nat,v = .tup [.str "at",.int (j:Int)] ∧ j < n) → ∀ j ∈ tgs vs,j < n:=by
 intro vs h j hj
 obtain ⟨v,hv,e⟩:=List.mem_filterMap.mp hj
 rcases h v hv with rfl | ⟨z,rfl⟩ | ⟨i,rfl,hi⟩
 ·cases e
 ·cases e
 ·simp only [Int.toNat_natCast,Option.some.injEq] at e
  omega
theorem and_tf {g1 g2:GB} {δ:Ds} {b1 b2:Bool} (h1:g1 δ = some b1) (h2:g2 δ = some b2):tAndG g1 g2 δ = some (b1 && b2):=by
 unfold tAndG
 rw [h1]
 cases b1
 ·rfl
 ·show g2 δ = _
  rw [h2]; rfl
theorem vals_ok (p:Pt) (h:p.few):m__law_vals [p.d] = some (.lst p.vals):=Gw.vals_ok p h
theorem lwith_ok (p:Pt) (h:p.few) (vs:List D) (hl:vs.length = p.vals.length):m__law_with [p.d,.lst vs] = some (Pn.put p vs).d:=Gw.with_ok p h vs (.inl hl)
noncomputable def Lv (n:Nat) (v:D):Prop:=v = .non ∨ (∃ z,v = .int z) ∨ ∃ j:Nat,v = .tup [.str "at",.int (j:Int)] ∧ j < n
structure Pw (n:Nat) (p:Pt):Prop where
 few:p.vals.length ≤ 12
 lv:∀ v ∈ p.vals,Lv n v
theorem Pw.f {n:Nat} {p:Pt} (h:Pw n p):p.few:=by
 have z:(12:Nat) ≤ sizeLine:=by decide
 exact Nat.le_trans h.few z
structure Web (ps:List Pt):Prop where
 len:0 < ps.length ∧ ps.length ≤ 60
 pw:∀ p ∈ ps,Pw ps.length p
noncomputable def wd (ps:List Pt):D:=.tup (ps.map Pt.d)
theorem Web.at {ps:List Pt} (h:Web ps) {i:Nat} (hi:i < ps.length):ixD (wd ps) (.int (i:Int)) = some ps[i].d ∧ (ps.map Pt.d).getD i .non = ps[i].d ∧ Pw ps.length ps[i]:=by
 refine ⟨?_,?_,h.pw _ (List.getElem_mem hi)⟩
 ·show atI (ps.map Pt.d) (i:Int) = _
  rw [atI_in (by omega) (by rw [List.length_map]; omega) .non,Int.toNat_natCast]
  simp [hi]
 ·simp [hi]
theorem tgs_len (vs:List D):(tgs vs).length ≤ vs.length:=List.length_filterMap_le _ _
theorem tgs_lk (j:Nat) (vs:List D):tgs (.tup [.str "at",.int (j:Int)] :: vs) = j :: tgs vs:=by unfold tgs; rw [List.filterMap_cons]; simp only [Int.toNat_natCast]
noncomputable def lkv (f:Nat → Nat):D → D
 | .tup [_,.int j]=>.tup [.str "at",.int (f j.toNat:Int)]
 | v=>v
noncomputable def rel (f:Nat → Nat) (p:Pt):Pt:=Pn.put p (p.vals.map (lkv f))
theorem in_tgs {vs:List D} {j:Nat} (h:D.tup [.str "at",.int (j:Int)] ∈ vs):j ∈ tgs vs:=List.mem_filterMap.mpr ⟨_,h,by simp only [Int.toNat_natCast]⟩
noncomputable def EB:GS:=(seqD (ifD (ob (isiG isTup (gv 3)))
 (seqD (setD (gN 3) (tupG (consA (gc (.str "at")) (consA (o2 (gv 1) (o2 (gv 3) (gc (.int 1)) ixD) ixD) nilA))))
 nilD)
 nilD)
 (seqD (exprX (appX 2 (gv 3)))
 nilD))
theorem led_ok {n:Nat} {p:Pt} (h:Pw n p) (f:Nat → Nat) (D':D) (hd:∀ j ∈ tgs p.vals,ixD D' (.int (j:Int)) = some (.int (f j:Int))):m__law_led [p.d,D'] = some (rel f p).d:=by
 have zs:(1000:Nat) ≤ sizeLine:=by decide
 obtain ⟨δ',l1,l2⟩:=forD_inv (f:=gN 3) (G:=EB) (fun i δ=>∃ s3:Sl,δ = [.sh p.d,.sh D',.ow (.lst ((p.vals.take i).map (lkv f))),s3]) p.vals 0 [.sh p.d,.sh D',.ow (.lst []),.un] (by
  rintro j v δ hj ⟨s3,rfl⟩
  have hv:=List.mem_of_getElem? hj
  have hjl:=(List.getElem?_eq_some_iff.mp hj).1
  have hf:=h.few
  rw [Nat.zero_add]
  have app:∀ w:D,exprX (appX 2 (gv 3)) [.sh p.d,.sh D',.ow (.lst ((p.vals.take j).map (lkv f))),.sh w] = some (.nx [.sh p.d,.sh D',.ow (.lst ((p.vals.take j).map (lkv f) ++ [w])),.sh w]):=fun w=>Gw.app_ow (l:=(p.vals.take j).map (lkv f)) (d:=w) rfl rfl (by rw [List.length_map,List.length_take]; omega)
  have tk:(p.vals.take (j + 1)).map (lkv f) = (p.vals.take j).map (lkv f) ++ [lkv f v]:=by rw [List.take_succ,hj,List.map_append]; rfl
  refine ⟨[.sh p.d,.sh D',.ow (.lst ((p.vals.take j).map (lkv f))),.sh v],[.sh p.d,.sh D',.ow (.lst ((p.vals.take j).map (lkv f) ++ [lkv f v])),.sh (lkv f v)],rfl,?_,.sh (lkv f v),by rw [tk]⟩
  refine seq_to (δ':=[.sh p.d,.sh D',.ow (.lst ((p.vals.take j).map (lkv f))),.sh (lkv f v)]) ?_ (seq_to (app _) rfl)
  rcases h.lv v hv with rfl | ⟨z,rfl⟩ | ⟨i,rfl,hi⟩
  ·rw [if_f (by rfl)]; rfl
  ·rw [if_f (by rfl)]; rfl
  ·rw [if_t (by rfl)]
   refine seq_to (set_of (d:=.tup [.str "at",.int (f i:Int)]) (tup_of (cons_of rfl (cons_of (d:=.int (f i:Int)) ?_ rfl)) (by show 2 ≤ sizeLine; decide))) rfl
   rw [o2_of (x:=D') (y:=.int (i:Int)) rfl rfl]
   exact hd i (in_tgs hv)) ⟨_,rfl⟩
 obtain ⟨s3,rfl⟩:=l2
 rw [Nat.zero_add,List.take_length] at l1
 refine mkF_rt rfl (seq_to (δ':=[.sh p.d,.sh D',.ow (.lst []),.un]) rfl (seq_to (for_of (items:=p.vals) (by
  show Option.bind (oA (consA (gv 0) nilA) m__law_vals [.sh p.d,.sh D',.ow (.lst []),.un]) asLst = _
  rw [oA_of (ds:=[p.d]) rfl,vals_ok p h.f]
  rfl) l1) (seq_rt (ret_of ?_))))
 show oA (consA (gv 0) (consA (gv 2) nilA)) m__law_with (frz _) = _
 rw [oA_of (ds:=[p.d,.lst (p.vals.map (lkv f))]) rfl]
 exact lwith_ok p h.f _ (by rw [List.length_map])
theorem put_vals (p:Pt) (vs:List D) (h:vs.length = p.vals.length):(Pn.put p vs).vals = vs:=by
 cases p with
 | text w=>exact (List.eq_nil_of_length_eq_zero h).symm
 | row us=>rfl
 | table ps =>
  show ((ps.map (·.1)).zip vs).map (·.2) = vs
  refine List.map_snd_zip ?_
  have h':vs.length = (ps.map (·.2)).length:=h
  simp only [List.length_map] at h' ⊢
  omega
 | rcd c ps =>
  show ((ps.map (·.1)).zip vs).map (·.2) = vs
  refine List.map_snd_zip ?_
  have h':vs.length = (ps.map (·.2)).length:=h
  simp only [List.length_map] at h' ⊢
  omega
theorem rel_pw {n m:Nat} {p:Pt} (h:Pw n p) (f:Nat → Nat) (hf:∀ j ∈ tgs p.vals,f j < m):Pw m (rel f p):=by
 have e:(rel f p).vals = p.vals.map (lkv f):=put_vals p _ (by rw [List.length_map])
 refine ⟨by rw [e,List.length_map]; exact h.few,fun v hv=>?_⟩
 rw [e] at hv
 obtain ⟨u,hu,rfl⟩:=List.mem_map.mp hv
 rcases h.lv u hu with rfl | ⟨z,rfl⟩ | ⟨i,rfl,hi⟩
 ·exact .inl rfl
 ·exact .inr (.inl ⟨z,rfl⟩)
 ·exact .inr (.inr ⟨f i,rfl,hf i (in_tgs hu)⟩)
section
variable {W:D} {k l:Sl} {U:List Nat}
end
end K22
set_option maxHeartbeats 0
namespace K22
open PySem DL W
end K22
set_option maxHeartbeats 0
namespace K22
open PySem DL W
end K22
set_option maxHeartbeats 0
namespace K22
open PySem DL W
section
variable {ps:List Pt} (h:Web ps) {x:Nat} (hx:x < ps.length)
include h hx
end
end K22
set_option maxHeartbeats 0
namespace K22
open PySem DL W
theorem pw_of {p:Pt} {m:Nat} {nm:List Str} (h:Gw.Gd p (m:Int) nm):Pw m p:=by
 refine ⟨?_,fun v hv=>?_⟩
 ·have ok:=h.ok
  cases p with
  | text w=>show 0 ≤ 12; decide
  | row vs=>exact ok.1
  | table ps=>show (ps.map (·.2)).length ≤ 12; rw [List.length_map]; exact ok.len
  | rcd c ps=>show (ps.map (·.2)).length ≤ 12; rw [List.length_map]; exact ok.2.len
 ·have k:=h.vk v hv
  rcases val_cases k.ok with rfl | ⟨i,rfl⟩ | ⟨i,rfl,hi⟩
  ·exact .inl rfl
  ·exact .inr (.inl ⟨i,rfl⟩)
  ·have:=k.lk i rfl
   exact .inr (.inr ⟨i.toNat,by rw [Int.toNat_of_nonneg hi],by omega⟩)
theorem lean_v {n:Nat} {v:D} (h:Lv n v) (k:Nat):lean v (k + 1) = true:=by
 rcases h with rfl | ⟨z,rfl⟩ | ⟨j,rfl,_⟩ <;> simp [lean,leans]
theorem leans_all {l:List D} {k:Nat} (h:∀ x ∈ l,lean x k = true):leans l k = true:=by
 induction l with
 | nil=>rfl
 | cons a l ih=>rw [leans,h a List.mem_cons_self,ih fun x hx=>h x (List.mem_cons_of_mem _ hx)]; rfl
theorem eqi (a b:Int):eqD (.int a) (.int b) = some (.bl (decide (a = b))):=rfl
end K22
namespace Bw
open PySem DL W
end Bw
namespace Bw
open PySem DL W StrLaws
end Bw
namespace Bw
open PySem DL W
theorem b_of {g:GE} {δ:Ds} {b:Bool} (h:g δ = some (.bl b)):ob g δ = some b:=by
 unfold ob
 rw [h]
 rfl
end Bw
namespace Ta
open PySem DL W
noncomputable def G_pair_names:GS:=(seqD (ifD (tOrG (ob (o2 (o2 (gv 0) (gc (.int 0)) ixD) (gc (.str "text")) eqD)) (ob (o2 (o2 (gv 0) (gc (.int 0)) ixD) (gc (.str "row")) eqD)))
 (seqD (retF (lstG nilA))
 nilD)
 nilD)
 (seqD (retF (compG 1 [] (tupI (o2 (gv 0) (unG negD (gc (.int 1))) ixD)) (gN 0) noT (o2 (gv 0) (gc (.int 0)) ixD)))
 nilD))
noncomputable def N_pair_names:List Str:=["part"]
noncomputable def m_pair_names:List D → Option D:=mkN 1 N_pair_names G_pair_names
noncomputable def G_head:GS:=(seqD (ifD (ob (o2 (o2 (gv 0) (gc (.int 0)) ixD) (gc (.str "text")) eqD))
 (seqD (retD (tupG (consA (gc (.str "text")) (consA (o2 (gv 0) (gc (.int 1)) ixD) nilA))))
 nilD)
 nilD)
 (seqD (ifD (ob (o2 (o2 (gv 0) (gc (.int 0)) ixD) (gc (.str "row")) eqD))
 (seqD (retD (tupG (consA (gc (.str "row")) (consA (oA (consA (o2 (gv 0) (gc (.int 1)) ixD) nilA) lenD) nilA))))
 nilD)
 nilD)
 (seqD (ifD (ob (o2 (o2 (gv 0) (gc (.int 0)) ixD) (gc (.str "table")) eqD))
 (seqD (retD (tupG (consA (gc (.str "table")) (consA (oA (consA (oA (consA (gv 0) nilA) m_pair_names) nilA) tupOfD) nilA))))
 nilD)
 nilD)
 (seqD (retD (tupG (consA (gc (.str "record")) (consA (o2 (gv 0) (gc (.int 1)) ixD) (consA (oA (consA (oA (consA (gv 0) nilA) m_pair_names) nilA) tupOfD) nilA)))))
 nilD))))
noncomputable def N_head:List Str:=["part"]
noncomputable def m_head:List D → Option D:=mkF 1 N_head G_head
noncomputable def G_values:GS:=(seqD (ifD (ob (o2 (o2 (gv 0) (gc (.int 0)) ixD) (gc (.str "text")) eqD))
 (seqD (retF (lstG nilA))
 nilD)
 nilD)
 (seqD (ifD (ob (o2 (o2 (gv 0) (gc (.int 0)) ixD) (gc (.str "row")) eqD))
 (seqD (retF (oA (consA (o2 (gv 0) (gc (.int 1)) ixD) nilA) lstOfD))
 nilD)
 nilD)
 (seqD (retF (compG 1 [] (tupI (o2 (gv 0) (unG negD (gc (.int 1))) ixD)) (gN 0) noT (o2 (gv 0) (gc (.int 1)) ixD)))
 nilD)))
noncomputable def N_values:List Str:=["part"]
noncomputable def m_values:List D → Option D:=mkN 1 N_values G_values
noncomputable def G_are_links:GS:=(seqD (retD (andG (isiG isTup (o2 (gv 0) (gc (.int 0)) ixD)) (isiG isTup (o2 (gv 0) (gc (.int 1)) ixD))))
 nilD)
noncomputable def N_are_links:List Str:=["both"]
noncomputable def m_are_links:List D → Option D:=mkF 1 N_are_links G_are_links
noncomputable def G_linked_pair:GS:=(seqD (retD (tupG (consA (o2 (o2 (gv 0) (gc (.int 0)) ixD) (gc (.int 1)) ixD) (consA (o2 (o2 (gv 0) (gc (.int 1)) ixD) (gc (.int 1)) ixD) nilA))))
 nilD)
noncomputable def N_linked_pair:List Str:=["both"]
noncomputable def m_linked_pair:List D → Option D:=mkF 1 N_linked_pair G_linked_pair
noncomputable def G_are_parts:GS:=(seqD (retD (andG (chainG (gc (.int 0)) (o2 (gv 2) (gc (.int 0)) ixD) (oA (consA (gv 0) nilA) lenD) leD ltD) (chainG (gc (.int 0)) (o2 (gv 2) (gc (.int 1)) ixD) (oA (consA (gv 1) nilA) lenD) leD ltD)))
 nilD)
noncomputable def N_are_parts:List Str:=["one", "other", "pair"]
noncomputable def m_are_parts:List D → Option D:=mkF 3 N_are_parts G_are_parts
noncomputable def G_is_upheld:GS:=(seqD (ifD (ob (o2 (oA (consA (o2 (gv 0) (o2 (gv 2) (gc (.int 0)) ixD) ixD) nilA) m_head) (oA (consA (o2 (gv 1) (o2 (gv 2) (gc (.int 1)) ixD) ixD) nilA) m_head) neDD))
 (seqD (retD (gc (.bl false)))
 nilD)
 nilD)
 (seqD (forG (zipI (consA (oA (consA (o2 (gv 0) (o2 (gv 2) (gc (.int 0)) ixD) ixD) nilA) m_values) (consA (oA (consA (o2 (gv 1) (o2 (gv 2) (gc (.int 1)) ixD) ixD) nilA) m_values) nilA))) (gN 4)
 (seqD (ifD (ob (oA (consA (gv 4) nilA) m_are_links))
 (seqD (ifD (ob (o2 (oA (consA (gv 4) nilA) m_linked_pair) (gv 3) (inDctD true)))
 (seqD (retD (gc (.bl false)))
 nilD)
 nilD)
 nilD)
 (seqD (ifD (ob (o2 (o2 (gv 4) (gc (.int 0)) ixD) (o2 (gv 4) (gc (.int 1)) ixD) neDD))
 (seqD (retD (gc (.bl false)))
 nilD)
 nilD)
 nilD))
 nilD))
 (seqD (retD (gc (.bl true)))
 nilD)))
noncomputable def N_is_upheld:List Str:=["one", "other", "pair", "listed", "both"]
noncomputable def m_is_upheld:List D → Option D:=mkF 4 N_is_upheld G_is_upheld
noncomputable def G_are_closed:GS:=(seqD (setD (gN 3) (oA (consA (compG 1 [] (lstI (gv 2)) (gN 0) noT (tupG (consA (gv 0) (consA (gc (.bl true)) nilA)))) nilA) dictPD))
 (seqD (retD (oA (consA (compG 1 [0,1,3] (lstI (gv 2)) (gN 0) noT (andG (oA (consA (gv 1) (consA (gv 2) (consA (gv 0) nilA))) m_are_parts) (oA (consA (gv 1) (consA (gv 2) (consA (gv 0) (consA (gv 3) nilA)))) m_is_upheld))) nilA) allD))
 nilD))
noncomputable def N_are_closed:List Str:=["one", "other", "pairs", "listed"]
noncomputable def m_are_closed:List D → Option D:=mkF 3 N_are_closed G_are_closed
noncomputable def G_stand_once:GS:=(seqD (setD (gN 1) (compG 1 [] (lstI (gv 0)) (gN 0) noT (o2 (gv 0) (gc (.int 0)) ixD)))
 (seqD (setD (gN 2) (compG 1 [] (lstI (gv 0)) (gN 0) noT (o2 (gv 0) (gc (.int 1)) ixD)))
 (seqD (retD (andG (o2 (oA (consA (gv 1) nilA) lenSetI) (oA (consA (gv 0) nilA) lenD) eqD) (o2 (oA (consA (gv 2) nilA) lenSetI) (oA (consA (gv 0) nilA) lenD) eqD)))
 nilD)))
noncomputable def N_stand_once:List Str:=["pairs", "mine", "yours"]
noncomputable def m_stand_once:List D → Option D:=mkF 1 N_stand_once G_stand_once
noncomputable def G_is_pairing:GS:=(seqD (ifD (tOrG (ob (o2 (tupG (consA (gc (.int 0)) (consA (gc (.int 0)) nilA))) (gv 2) (inXD true))) (tNotG (ob (oA (consA (gv 2) nilA) m_stand_once))))
 (seqD (retD (gc (.bl false)))
 nilD)
 nilD)
 (seqD (retD (oA (consA (gv 0) (consA (gv 1) (consA (gv 2) nilA))) m_are_closed))
 nilD))
noncomputable def N_is_pairing:List Str:=["one", "other", "pairs"]
noncomputable def m_is_pairing:List D → Option D:=mkF 3 N_is_pairing G_is_pairing
noncomputable def G__law_cell_at:GS:=(seqD (ifD (ob (o2 (gv 1) (oA (consA (gv 0) nilA) lenD) ltD))
 (seqD (retD (o2 (gv 0) (gv 1) ixD))
 nilD)
 nilD)
 (seqD (retD (gc (.int 0)))
 nilD))
noncomputable def N__law_cell_at:List Str:=["_law_script", "_law_k"]
noncomputable def m__law_cell_at:List D → Option D:=mkF 2 N__law_cell_at G__law_cell_at
noncomputable def G__law_pool:GS:=(seqD (setD (gN 2) (gc (.str "abcdefghijklmnopqrstuvwxyz0123456789")))
 (seqD (setD (gN 3) (o2 (gc (.int 1)) (o2 (gv 0) (gc (.int 8)) modD) addA))
 (seqD (setD (gN 0) (o2 (gv 0) (gc (.int 8)) fdivD))
 (seqD (ownD 4 (lstG nilA))
 (seqD (forG (rng1I (consA (gv 3) nilA)) (gN 5)
 (seqD (exprX (appX 4 (o2 (gv 0) (gc (.int 36)) modD)))
 (seqD (setD (gN 0) (o2 (gv 0) (gc (.int 36)) fdivD))
 nilD)))
 (seqD (setD (gN 6) (borE (joinG (gc (.str "")) (consA (compG 1 [2] (lstI (gv 4)) (gN 0) noT (o2 (gv 1) (gv 0) ixD)) nilA))))
 (seqD (ifD (ob (o2 (o2 (o2 (gv 1) (gc (.int 8)) fdivD) (gc (.int 3)) modD) (gc (.int 1)) eqD))
 (seqD (retF (compG 1 [6] (rng2I (consA (gc (.int 1)) (consA (gc (.int 9)) nilA))) (gN 0) noT (slAG (o2 (gc (.int 8)) (gv 1) mulI) noneO (someO (gv 0)))))
 nilD)
 nilD)
 (seqD (setD (gN 7) (o2 (gv 1) (gv 3) modD))
 (seqD (ownD 8 (lstG nilA))
 (seqD (forG (rng1I (consA (gc (.int 8)) nilA)) (gN 5)
 (seqD (setD (gN 9) (o2 (gv 2) (o2 (o2 (borE (o2 (gv 4) (gv 7) ixD)) (o2 (gc (.int 4)) (gv 5) mulA) addA) (gc (.int 36)) modD) ixD))
 (seqD (exprX (appX 8 (o2 (o2 (slAG (gv 6) noneO (someO (gv 7))) (gv 9) addA) (slAG (gv 6) (someO (o2 (gv 7) (gc (.int 1)) addA)) noneO) addA)))
 nilD)))
 (seqD (retO 8)
 nilD)))))))))))
noncomputable def N__law_pool:List Str:=["_law_cell", "_law_turn", "_law_signs", "_law_size", "_law_places_here", "_law_k", "_law_word", "_law_at", "_law_found", "_law_sign"]
noncomputable def m__law_pool:List D → Option D:=mkN 2 N__law_pool G__law_pool
noncomputable def G__law_mix:GS:=(seqD (retD (o2 (o2 (o2 (o2 (gv 0) (gc (.int 2147483647)) modD) (gc (.int 1)) addA) (o2 (gc (.int 48271)) (o2 (gc (.int 7)) (gv 1) mulA) addA) mulA) (gc (.int 2147483647)) modD))
 nilD)
noncomputable def N__law_mix:List Str:=["_law_cell", "_law_k"]
noncomputable def m__law_mix:List D → Option D:=mkF 2 N__law_mix G__law_mix
noncomputable def G__law_value:GS:=(seqD (setD (gN 2) (o2 (gv 0) (gc (.int 10)) modD))
 (seqD (ifD (ob (o2 (gv 2) (gc (.int 6)) ltD))
 (seqD (retD (tupG (consA (gc (.str "at")) (consA (o2 (o2 (gv 0) (gc (.int 10)) fdivD) (gv 1) modD) nilA))))
 nilD)
 nilD)
 (seqD (ifD (ob (o2 (gv 2) (gc (.int 6)) eqD))
 (seqD (retD (gc .non))
 nilD)
 nilD)
 (seqD (ifD (ob (o2 (gv 2) (gc (.int 9)) ltD))
 (seqD (retD (o2 (o2 (o2 (gv 0) (gc (.int 10)) fdivD) (gc (.int 3)) modD) (gc (.int 1)) subD))
 nilD)
 nilD)
 (seqD (retD (o2 (o2 (o2 (o2 (gv 0) (gc (.int 10)) fdivD) (gc (.int 7)) powD) (o2 (gc (.int 10)) (gc (.int 60)) powD) modD) (o2 (gc (.int 1)) (o2 (gc (.int 2)) (o2 (o2 (gv 0) (gc (.int 20)) fdivD) (gc (.int 2)) modD) mulA) subD) mulA))
 nilD)))))
noncomputable def N__law_value:List Str:=["_law_number", "_law_many", "_law_kind"]
noncomputable def m__law_value:List D → Option D:=mkF 2 N__law_value G__law_value
noncomputable def G__law_values:GS:=(seqD (ownD 3 (lstG nilA))
 (seqD (forG (rng1I (consA (gv 1) nilA)) (gN 4)
 (seqD (setD (gN 0) (o2 (o2 (gv 0) (gc (.int 48271)) mulA) (gc (.int 2147483647)) modD))
 (seqD (exprX (appX 3 (oA (consA (gv 0) (consA (gv 2) nilA)) m__law_value)))
 nilD)))
 (seqD (retO 3)
 nilD)))
noncomputable def N__law_values:List Str:=["_law_number", "_law_count", "_law_many", "_law_found", "_law_k"]
noncomputable def m__law_values:List D → Option D:=mkN 3 N__law_values G__law_values
noncomputable def G__law_part:GS:=(seqD (setD (gN 3) (o2 (gv 0) (gc (.int 8)) modD))
 (seqD (ifD (ob (o2 (gv 3) (gc (.int 0)) eqD))
 (seqD (retD (tupG (consA (gc (.str "text")) (consA (o2 (lstG (consA (gc (.str "")) (consA (gc (.str "a")) (consA (gc (.str " a")) (consA (o2 (o2 (gv 2) (gc (.int 0)) ixD) (gc (.str " 0")) addA) nilA))))) (o2 (o2 (gv 0) (gc (.int 16)) fdivD) (gc (.int 4)) modD) ixD) nilA))))
 nilD)
 nilD)
 (seqD (ifD (ob (o2 (gv 3) (gc (.int 4)) ltD))
 (seqD (retD (tupG (consA (gc (.str "row")) (consA (oA (consA (gv 1) nilA) tupOfD) nilA))))
 nilD)
 nilD)
 (seqD (setD (gN 4) (o2 (o2 (o2 (gv 0) (gc (.int 8)) fdivD) (gc (.int 2)) modD) (gc (.int 3)) mulA))
 (seqD (setD (gN 5) (oA (consA (compG 1 [1,2,4] (rng1I (consA (oA (consA (gv 1) nilA) lenD) nilA)) (gN 0) noT (tupG (consA (o2 (gv 2) (o2 (o2 (gv 3) (gv 0) addA) (gc (.int 8)) modD) ixD) (consA (o2 (gv 1) (gv 0) ixD) nilA)))) nilA) tupOfD))
 (seqD (ifD (ob (o2 (gv 3) (gc (.int 6)) ltD))
 (seqD (retD (tupG (consA (gc (.str "table")) (consA (gv 5) nilA))))
 nilD)
 nilD)
 (seqD (retD (tupG (consA (gc (.str "record")) (consA (o2 (gv 2) (o2 (o2 (gv 0) (gc (.int 16)) fdivD) (gc (.int 2)) modD) ixD) (consA (gv 5) nilA)))))
 nilD)))))))
noncomputable def N__law_part:List Str:=["_law_number", "_law_some", "_law_pool_here", "_law_kind", "_law_start", "_law_pairs"]
noncomputable def m__law_part:List D → Option D:=mkF 3 N__law_part G__law_part
noncomputable def G__law_web:GS:=(seqD (ownD 3 (lstG nilA))
 (seqD (forG (rng1I (consA (gv 1) nilA)) (gN 4)
 (seqD (setD (gN 5) (oA (consA (o2 (o2 (gv 0) (o2 (gv 4) (oA (consA (gv 0) nilA) lenD) modD) ixD) (o2 (gv 4) (o2 (gv 4) (oA (consA (gv 0) nilA) lenD) fdivD) mulA) addA) (consA (gv 4) nilA)) m__law_mix))
 (seqD (setD (gN 6) (o2 (lstG (consA (gc (.int 0)) (consA (gc (.int 1)) (consA (gc (.int 2)) (consA (gc (.int 2)) (consA (gc (.int 3)) (consA (gc (.int 2)) (consA (gc (.int 3)) (consA (gc (.int 1)) nilA))))))))) (o2 (o2 (gv 5) (gc (.int 32)) fdivD) (gc (.int 8)) modD) ixD))
 (seqD (ifD (ob (o2 (o2 (o2 (gv 5) (gc (.int 256)) fdivD) (gc (.int 16)) modD) (gc (.int 3)) eqD))
 (seqD (setD (gN 6) (o2 (lstG (consA (gc (.int 8)) (consA (gc (.int 12)) nilA))) (oA (consA (o2 (o2 (gv 5) (gc (.int 8)) modD) (gc (.int 4)) ltD) nilA) intOfD) ixD))
 nilD)
 nilD)
 (seqD (setD (gN 7) (oA (consA (o2 (o2 (gv 5) (gc (.int 8)) fdivD) (gc (.int 1)) addA) (consA (gv 6) (consA (gv 1) nilA))) m__law_values))
 (seqD (exprX (appX 3 (oA (consA (gv 5) (consA (gv 7) (consA (gv 2) nilA))) m__law_part)))
 nilD))))))
 (seqD (retD (borA (oA (consA (gv 3) nilA) tupOfD)))
 nilD)))
noncomputable def N__law_web:List Str:=["_law_cells", "_law_many", "_law_pool_here", "_law_parts", "_law_k", "_law_number", "_law_count", "_law_some"]
noncomputable def m__law_web:List D → Option D:=mkF 3 N__law_web G__law_web
noncomputable def G__law_vals:GS:=(seqD (ifD (ob (o2 (o2 (gv 0) (gc (.int 0)) ixD) (gc (.str "text")) eqD))
 (seqD (retF (lstG nilA))
 nilD)
 nilD)
 (seqD (ifD (ob (o2 (o2 (gv 0) (gc (.int 0)) ixD) (gc (.str "row")) eqD))
 (seqD (retF (oA (consA (o2 (gv 0) (gc (.int 1)) ixD) nilA) lstOfD))
 nilD)
 nilD)
 (seqD (retF (compG 2 [] (tupI (o2 (gv 0) (unG negD (gc (.int 1))) ixD)) (tup2 0 1) noT (gv 1)))
 nilD)))
noncomputable def N__law_vals:List Str:=["_law_part_here"]
noncomputable def m__law_vals:List D → Option D:=mkN 1 N__law_vals G__law_vals
noncomputable def G__law_head:GS:=(seqD (ifD (ob (o2 (o2 (gv 0) (gc (.int 0)) ixD) (gc (.str "row")) eqD))
 (seqD (retD (tupG (consA (gc (.str "row")) (consA (oA (consA (o2 (gv 0) (gc (.int 1)) ixD) nilA) lenD) nilA))))
 nilD)
 nilD)
 (seqD (ifD (ob (o2 (o2 (gv 0) (gc (.int 0)) ixD) (gc (.str "text")) eqD))
 (seqD (retD (gv 0))
 nilD)
 nilD)
 (seqD (retD (o2 (slAG (gv 0) noneO (someO (unG negD (gc (.int 1))))) (tupG (consA (oA (consA (compG 2 [] (tupI (o2 (gv 0) (unG negD (gc (.int 1))) ixD)) (tup2 0 1) noT (gv 0)) nilA) tupOfD) nilA)) addA))
 nilD)))
noncomputable def N__law_head:List Str:=["_law_part_here"]
noncomputable def m__law_head:List D → Option D:=mkF 1 N__law_head G__law_head
noncomputable def G__law_with:GS:=(seqD (ifD (ob (o2 (o2 (gv 0) (gc (.int 0)) ixD) (gc (.str "text")) eqD))
 (seqD (retD (gv 0))
 nilD)
 nilD)
 (seqD (ifD (ob (o2 (o2 (gv 0) (gc (.int 0)) ixD) (gc (.str "row")) eqD))
 (seqD (retD (tupG (consA (gc (.str "row")) (consA (oA (consA (gv 1) nilA) tupOfD) nilA))))
 nilD)
 nilD)
 (seqD (retD (o2 (slAG (gv 0) noneO (someO (unG negD (gc (.int 1))))) (tupG (consA (oA (consA (compG 1 [0,1] (rng1I (consA (oA (consA (gv 1) nilA) lenD) nilA)) (gN 0) noT (tupG (consA (o2 (o2 (o2 (gv 1) (unG negD (gc (.int 1))) ixD) (gv 0) ixD) (gc (.int 0)) ixD) (consA (o2 (gv 2) (gv 0) ixD) nilA)))) nilA) tupOfD) nilA)) addA))
 nilD)))
noncomputable def N__law_with:List Str:=["_law_part_here", "_law_some"]
noncomputable def m__law_with:List D → Option D:=mkF 2 N__law_with G__law_with
noncomputable def G__law_led:GS:=(seqD (ownD 2 (lstG nilA))
 (seqD (forG (lstI (oA (consA (gv 0) nilA) m__law_vals)) (gN 3)
 (seqD (ifD (ob (isiG isTup (gv 3)))
 (seqD (setD (gN 3) (tupG (consA (gc (.str "at")) (consA (o2 (gv 1) (o2 (gv 3) (gc (.int 1)) ixD) ixD) nilA))))
 nilD)
 nilD)
 (seqD (exprX (appX 2 (gv 3)))
 nilD)))
 (seqD (retD (borA (oA (consA (gv 0) (consA (gv 2) nilA)) m__law_with)))
 nilD)))
noncomputable def N__law_led:List Str:=["_law_part_here", "_law_numbers", "_law_some", "_law_value_here"]
noncomputable def m__law_led:List D → Option D:=mkF 2 N__law_led G__law_led
noncomputable def G__law_drawn_web:GS:=(seqD (setD (gN 2) (oA (consA (oA (consA (gv 0) (consA (gc (.int 0)) nilA)) m__law_cell_at) (consA (oA (consA (gv 0) (consA (gc (.int 1)) nilA)) m__law_cell_at) nilA)) m__law_pool))
 (seqD (setD (gN 3) (oA (consA (gv 0) (consA (gc (.int 2)) nilA)) m__law_cell_at))
 (seqD (setD (gN 4) (o2 (gc (.int 1)) (o2 (gv 3) (o2 (lstG (consA (gc (.int 12)) (consA (gc (.int 12)) (consA (gv 1) (consA (gc (.int 4)) nilA))))) (o2 (o2 (gv 3) (gc (.int 60)) fdivD) (gc (.int 4)) modD) ixD) modD) addA))
 (seqD (retD (oA (consA (o2 (slAG (gv 0) (someO (gc (.int 9))) (someO (gc (.int 60)))) (lstG (consA (oA (consA (gv 0) (consA (gc (.int 3)) nilA)) m__law_cell_at) nilA)) addA) (consA (gv 4) (consA (gv 2) nilA))) m__law_web))
 nilD))))
noncomputable def N__law_drawn_web:List Str:=["_law_script", "_law_most", "_law_pool_here", "_law_turn", "_law_many"]
noncomputable def m__law_drawn_web:List D → Option D:=mkF 2 N__law_drawn_web G__law_drawn_web
noncomputable def G__law_changed:GS:=(seqD (setD (gN 2) (o2 (gv 1) (oA (consA (gv 0) nilA) lenD) modD))
 (seqD (ownD 3 (oA (consA (o2 (gv 0) (gv 2) ixD) nilA) m__law_vals))
 (seqD (ifD (borB (ob (o2 (gv 3) (lstG nilA) eqDD)))
 (seqD (retD (gv 0))
 nilD)
 nilD)
 (seqD (setD (gN 4) (o2 (o2 (gv 1) (gc (.int 60)) fdivD) (borE (oA (consA (gv 3) nilA) lenD)) modD))
 (seqD (asgX (pureX (oA (consA (o2 (o2 (gv 1) (gc (.int 240)) fdivD) (gc (.int 1000000)) modD) (consA (oA (consA (gv 0) nilA) lenD) nilA)) m__law_value)) (setAt 3 (gv 4)))
 (seqD (retD (borA (o2 (o2 (slAG (gv 0) noneO (someO (gv 2))) (tupG (consA (oA (consA (o2 (gv 0) (gv 2) ixD) (consA (gv 3) nilA)) m__law_with) nilA)) addA) (slAG (gv 0) (someO (o2 (gv 2) (gc (.int 1)) addA)) noneO) addA)))
 nilD))))))
noncomputable def N__law_changed:List Str:=["_law_web_here", "_law_cell", "_law_k", "_law_some", "_law_at"]
noncomputable def m__law_changed:List D → Option D:=mkF 2 N__law_changed G__law_changed
noncomputable def G__law_order:GS:=(seqD (ownD 1 (lstG nilA))
 (seqD (ownD 2 (lstG (consA (gc (.int 0)) nilA)))
 (seqD (whileD (ob (o2 (borE (oA (consA (gv 2) nilA) lenD)) (gc (.int 0)) gtD))
 (seqD (asgX (popX 2) (gN 3))
 (seqD (ifD (borB (ob (o2 (gv 3) (gv 1) (inSeqD true))))
 (seqD (exprX (appX 1 (gv 3)))
 (seqD (forG (revI (consA (oA (consA (o2 (gv 0) (gv 3) ixD) nilA) m__law_vals) nilA)) (gN 4)
 (seqD (ifD (ob (isiG isTup (gv 4)))
 (seqD (exprX (appX 2 (o2 (gv 4) (gc (.int 1)) ixD)))
 nilD)
 nilD)
 nilD))
 nilD))
 nilD)
 nilD)) 100000)
 (seqD (retO 1)
 nilD))))
noncomputable def N__law_order:List Str:=["_law_web_here", "_law_found", "_law_waiting", "_law_k", "_law_value_here"]
noncomputable def m__law_order:List D → Option D:=mkN 1 N__law_order G__law_order
noncomputable def G__law_places:GS:=(seqD (ownD 2 (oA (consA (gc (.int 1)) (consA (gv 1) nilA)) lrng2D))
 (seqD (ownD 3 (lstG (consA (gc (.int 0)) nilA)))
 (seqD (whileD (ob (o2 (borE (oA (consA (gv 2) nilA) lenD)) (gc (.int 0)) gtD))
 (seqD (exprX (appMX 3 (popAtX 2 (o2 (gv 0) (borE (oA (consA (gv 2) nilA) lenD)) modD))))
 (seqD (setD (gN 0) (o2 (o2 (gv 0) (gc (.int 3)) fdivD) (o2 (gc (.int 12345)) (borE (oA (consA (gv 2) nilA) lenD)) mulA) addA))
 nilD)) 100000)
 (seqD (retO 3)
 nilD))))
noncomputable def N__law_places:List Str:=["_law_cell", "_law_many", "_law_left", "_law_found"]
noncomputable def m__law_places:List D → Option D:=mkN 2 N__law_places G__law_places
noncomputable def G__law_renumbered:GS:=(seqD (setD (gN 3) (oA (consA (gv 1) (consA (o2 (oA (consA (gv 0) nilA) lenD) (gv 2) addA) nilA)) m__law_places))
 (seqD (ownD 4 (o2 (lstG (consA (tupG (consA (gc (.str "text")) (consA (gc (.str "b")) nilA))) nilA)) (o2 (oA (consA (gv 0) nilA) lenD) (gv 2) addA) mulL))
 (seqD (forG (rng1I (consA (oA (consA (gv 0) nilA) lenD) nilA)) (gN 5)
 (seqD (asgX (pureX (oA (consA (o2 (gv 0) (gv 5) ixD) (consA (gv 3) nilA)) m__law_led)) (setAt 4 (o2 (gv 3) (gv 5) ixD)))
 nilD))
 (seqD (forG (rng1I (consA (gv 2) nilA)) (gN 5)
 (seqD (asgX (pureX (tupG (consA (gc (.str "row")) (consA (tupG (consA (tupG (consA (gc (.str "at")) (consA (o2 (o2 (gv 1) (o2 (gv 5) (gc (.int 2)) addA) fdivD) (borE (oA (consA (gv 4) nilA) lenD)) modD) nilA))) (consA (gc .non) (consA (tupG (consA (gc (.str "at")) (consA (gc (.int 0)) nilA))) nilA)))) nilA)))) (setAt 4 (o2 (gv 3) (o2 (oA (consA (gv 0) nilA) lenD) (gv 5) addA) ixD)))
 nilD))
 (seqD (retD (borA (tupG (consA (oA (consA (gv 4) nilA) tupOfD) (consA (slAG (gv 3) noneO (someO (oA (consA (gv 0) nilA) lenD))) nilA)))))
 nilD)))))
noncomputable def N__law_renumbered:List Str:=["_law_web_here", "_law_cell", "_law_more", "_law_places_here", "_law_parts", "_law_k"]
noncomputable def m__law_renumbered:List D → Option D:=mkF 3 N__law_renumbered G__law_renumbered
noncomputable def G__law_go_on:GS:=(seqD (ownD 3 (lstG nilA))
 (seqD (setD (gN 4) (oA (consA (o2 (gv 0) (o2 (gv 2) (gc (.int 0)) ixD) ixD) nilA) m__law_vals))
 (seqD (setD (gN 5) (oA (consA (o2 (gv 1) (o2 (gv 2) (gc (.int 1)) ixD) ixD) nilA) m__law_vals))
 (seqD (ifD (ob (o2 (oA (consA (o2 (gv 0) (o2 (gv 2) (gc (.int 0)) ixD) ixD) nilA) m__law_head) (oA (consA (o2 (gv 1) (o2 (gv 2) (gc (.int 1)) ixD) ixD) nilA) m__law_head) neDD))
 (seqD (retD (gc .non))
 nilD)
 nilD)
 (seqD (forG (rng1I (consA (oA (consA (gv 4) nilA) lenD) nilA)) (gN 6)
 (seqD (ifD (tAndG (ob (isiG isTup (o2 (gv 4) (gv 6) ixD))) (ob (isiG isTup (o2 (gv 5) (gv 6) ixD))))
 (seqD (exprX (appX 3 (tupG (consA (o2 (o2 (gv 4) (gv 6) ixD) (gc (.int 1)) ixD) (consA (o2 (o2 (gv 5) (gv 6) ixD) (gc (.int 1)) ixD) nilA)))))
 nilD)
 (seqD (ifD (ob (o2 (o2 (gv 4) (gv 6) ixD) (o2 (gv 5) (gv 6) ixD) neDD))
 (seqD (retD (gc .non))
 nilD)
 nilD)
 nilD))
 nilD))
 (seqD (retD (borA (gv 3)))
 nilD))))))
noncomputable def N__law_go_on:List Str:=["_law_one", "_law_other", "_law_pair", "_law_found", "_law_first", "_law_second", "_law_k"]
noncomputable def m__law_go_on:List D → Option D:=mkF 3 N__law_go_on G__law_go_on
noncomputable def G__law_due:GS:=(seqD (ownD 3 (gc (.dct (.inr []) [])))
 (seqD (ownD 4 (gc (.dct (.inl []) [])))
 (seqD (ownD 5 (gc (.dct (.inl []) [])))
 (seqD (forG (lstI (gv 2)) (tup2 6 7)
 (seqD (ifD (tOrG (borB (ob (o2 (gv 6) (gv 4) (inDctD false)))) (borB (ob (o2 (gv 7) (gv 5) (inDctD false)))))
 (seqD (retD (gc (.bl false)))
 nilD)
 nilD)
 (seqD (asgX (pureX (gc (.bl true))) (putAtT 3 (tupG (consA (gv 6) (consA (gv 7) nilA)))))
 (seqD (asgX (pureX (gc (.bl true))) (putAt 4 (gv 6)))
 (seqD (asgX (pureX (gc (.bl true))) (putAt 5 (gv 7)))
 nilD)))))
 (seqD (ifD (borB (ob (o2 (tupG (consA (gc (.int 0)) (consA (gc (.int 0)) nilA))) (gv 3) (inDctD true))))
 (seqD (retD (gc (.bl false)))
 nilD)
 nilD)
 (seqD (frzS 3 (forG (lstI (gv 2)) (gN 8)
 (seqD (setD (gN 9) (oA (consA (gv 0) (consA (gv 1) (consA (gv 8) nilA))) m__law_go_on))
 (seqD (ifD (tOrG (ob (o2 (gv 9) (gc .non) isND)) (ob (o2 (oA (consA (compG 1 [3] (lstI (gv 9)) (gN 0) (ob (o2 (gv 0) (gv 1) (inDctD true))) (gv 0)) nilA) lenD) (gc (.int 0)) gtD)))
 (seqD (retD (gc (.bl false)))
 nilD)
 nilD)
 nilD))))
 (seqD (retD (gc (.bl true)))
 nilD)))))))
noncomputable def N__law_due:List Str:=["_law_one", "_law_other", "_law_pairs", "_law_there", "_law_firsts", "_law_seconds", "_law_k", "_law_j", "_law_pair", "_law_more"]
noncomputable def m__law_due:List D → Option D:=mkF 3 N__law_due G__law_due
noncomputable def G__law_asked:GS:=(seqD (setD (gN 3) (oA (consA (gv 2) nilA) lstOfD))
 (seqD (setD (gN 4) (oA (consA (gv 0) (consA (gv 1) (consA (gv 3) nilA))) m_is_pairing))
 (seqD (retD (andG (isiG isBool (gv 4)) (andG (o2 (gv 4) (oA (consA (gv 0) (consA (gv 1) (consA (gv 2) nilA))) m__law_due) eqDD) (o2 (gv 3) (gv 2) eqDD))))
 nilD)))
noncomputable def N__law_asked:List Str:=["_law_one", "_law_other", "_law_pairs", "_law_handed", "_law_found"]
noncomputable def m__law_asked:List D → Option D:=mkF 3 N__law_asked G__law_asked
noncomputable def G__law_spoilt:GS:=(seqD (setD (gN 4) (o2 (o2 (gv 1) (gc (.int 9)) fdivD) (oA (consA (gv 0) nilA) lenD) modD))
 (seqD (setD (gN 5) (tupG (consA (o2 (o2 (gv 1) (gc (.int 540)) fdivD) (oA (consA (gv 2) nilA) lenD) modD) (consA (o2 (o2 (gv 1) (gc (.int 7)) fdivD) (oA (consA (gv 3) nilA) lenD) modD) nilA))))
 (seqD (ifD (ob (o2 (o2 (gv 1) (gc (.int 9)) modD) (gc (.int 0)) eqDD))
 (seqD (retD (o2 (slAG (gv 0) noneO (someO (gv 4))) (slAG (gv 0) (someO (o2 (gv 4) (gc (.int 1)) addA)) noneO) addA))
 nilD)
 nilD)
 (seqD (ifD (ob (o2 (o2 (gv 1) (gc (.int 9)) modD) (gc (.int 1)) eqDD))
 (seqD (retD (compG 1 [] (lstI (gv 0)) (gN 0) (ob (o2 (gv 0) (tupG (consA (gc (.int 0)) (consA (gc (.int 0)) nilA))) neDD)) (gv 0)))
 nilD)
 nilD)
 (seqD (ifD (ob (o2 (o2 (gv 1) (gc (.int 9)) modD) (gc (.int 2)) eqDD))
 (seqD (retD (o2 (gv 0) (lstG (consA (gv 5) nilA)) addA))
 nilD)
 nilD)
 (seqD (ifD (ob (o2 (o2 (gv 1) (gc (.int 9)) modD) (gc (.int 3)) eqDD))
 (seqD (retD (o2 (o2 (slAG (gv 0) noneO (someO (gv 4))) (lstG (consA (o2 (gv 0) (gv 4) ixD) nilA)) addA) (slAG (gv 0) (someO (gv 4)) noneO) addA))
 nilD)
 nilD)
 (seqD (ifD (ob (o2 (o2 (gv 1) (gc (.int 9)) modD) (gc (.int 4)) eqDD))
 (seqD (retD (o2 (o2 (slAG (gv 0) noneO (someO (gv 4))) (lstG (consA (tupG (consA (o2 (o2 (gv 0) (gv 4) ixD) (gc (.int 0)) ixD) (consA (o2 (gv 5) (gc (.int 1)) ixD) nilA))) nilA)) addA) (slAG (gv 0) (someO (o2 (gv 4) (gc (.int 1)) addA)) noneO) addA))
 nilD)
 nilD)
 (seqD (ifD (ob (o2 (o2 (gv 1) (gc (.int 9)) modD) (gc (.int 5)) eqDD))
 (seqD (retD (o2 (o2 (slAG (gv 0) noneO (someO (gv 4))) (lstG (consA (tupG (consA (o2 (gv 5) (gc (.int 0)) ixD) (consA (o2 (o2 (gv 0) (gv 4) ixD) (gc (.int 1)) ixD) nilA))) nilA)) addA) (slAG (gv 0) (someO (o2 (gv 4) (gc (.int 1)) addA)) noneO) addA))
 nilD)
 nilD)
 (seqD (ifD (ob (o2 (o2 (gv 1) (gc (.int 9)) modD) (gc (.int 6)) eqDD))
 (seqD (retD (compG 2 [2,3] (lstI (gv 0)) (tup2 0 1) (tAndG (ob (o2 (gv 1) (oA (consA (gv 2) nilA) lenD) ltD)) (ob (o2 (gv 0) (oA (consA (gv 3) nilA) lenD) ltD))) (tupG (consA (gv 1) (consA (gv 0) nilA)))))
 nilD)
 nilD)
 (seqD (ifD (ob (o2 (o2 (gv 1) (gc (.int 9)) modD) (gc (.int 7)) eqDD))
 (seqD (retD (lstG nilA))
 nilD)
 nilD)
 (seqD (retD (revG (gv 0)))
 nilD)))))))))))
noncomputable def N__law_spoilt:List Str:=["_law_pairs", "_law_number", "_law_one", "_law_other", "_law_at", "_law_fresh"]
noncomputable def m__law_spoilt:List D → Option D:=mkF 4 N__law_spoilt G__law_spoilt
noncomputable def G_law:GS:=(seqD (setD (gN 1) (oA (consA (gv 0) (consA (gc (.int 30)) nilA)) m__law_drawn_web))
 (seqD (setD (gN 2) (oA (consA (gv 0) (consA (gc (.int 4)) nilA)) m__law_cell_at))
 (seqD (asgX (pureX (oA (consA (gv 1) (consA (oA (consA (oA (consA (gv 0) (consA (gc (.int 5)) nilA)) m__law_cell_at) (consA (gc (.int 21)) nilA)) m__law_mix) (consA (o2 (gv 2) (gc (.int 6)) modD) nilA))) m__law_renumbered)) (tup2 3 4))
 (seqD (setD (gN 5) (oA (consA (oA (consA (gv 1) nilA) lenD) nilA) lrngD))
 (seqD (ifD (ob (o2 (o2 (o2 (gv 2) (gc (.int 18)) fdivD) (gc (.int 2)) modD) (gc (.int 1)) eqD))
 (seqD (setD (gN 5) (oA (consA (gv 1) nilA) m__law_order))
 nilD)
 nilD)
 (seqD (setD (gN 6) (compG 1 [4] (lstI (gv 5)) (gN 0) noT (tupG (consA (gv 0) (consA (o2 (gv 1) (gv 0) ixD) nilA)))))
 (seqD (ifD (ob (o2 (o2 (o2 (gv 2) (gc (.int 6)) fdivD) (gc (.int 3)) modD) (gc (.int 1)) eqD))
 (seqD (setD (gN 3) (oA (consA (gv 3) (consA (oA (consA (oA (consA (gv 0) (consA (gc (.int 6)) nilA)) m__law_cell_at) (consA (gc (.int 9)) nilA)) m__law_mix) nilA)) m__law_changed))
 nilD)
 nilD)
 (seqD (ifD (tOrG (tNotG (ob (oA (consA (gv 1) (consA (gv 3) (consA (gv 6) nilA))) m__law_asked))) (tNotG (ob (oA (consA (gv 1) (consA (gv 3) (consA (oA (consA (gv 6) nilA) sortTD) nilA))) m__law_asked))))
 (seqD (retD (gc (.bl false)))
 nilD)
 nilD)
 (seqD (forG (rng1I (consA (gc (.int 9)) nilA)) (gN 7)
 (seqD (setD (gN 8) (o2 (o2 (o2 (oA (consA (o2 (oA (consA (gv 0) (consA (gc (.int 7)) nilA)) m__law_cell_at) (o2 (gv 7) (gv 7) mulA) addA) (consA (o2 (gv 7) (gc (.int 50)) addA) nilA)) m__law_mix) (gc (.int 9)) fdivD) (gc (.int 9)) mulA) (gv 7) addA))
 (seqD (ifD (tNotG (ob (oA (consA (gv 1) (consA (gv 3) (consA (oA (consA (gv 6) (consA (gv 8) (consA (gv 1) (consA (gv 3) nilA)))) m__law_spoilt) nilA))) m__law_asked)))
 (seqD (retD (gc (.bl false)))
 nilD)
 nilD)
 nilD)))
 (seqD (retD (gc (.bl true)))
 nilD))))))))))
noncomputable def N_law:List Str:=["_law_script", "_law_web_here", "_law_turn", "_law_other", "_law_places_here", "_law_some", "_law_pairs", "_law_j", "_law_number"]
noncomputable def m_law:List D → Option D:=mkF 1 N_law G_law
end Ta
namespace Ta
open PySem DL W K22
open Classical in
theorem for_chk {f:D → Ds → Option Ds} {G:GS} (st:Sl → Ds) (hf:∀ d s,f d (st s) = some (st (.sh d))) (ok:D → Prop):∀ items:List D,(∀ d ∈ items,(ok d → G (st (.sh d)) = some (.nx (st (.sh d)))) ∧ (¬ ok d → G (st (.sh d)) = some (.rt (.bl false)))) →
  ∀ s,((∀ d ∈ items,ok d) → ∃ s',forD f G items (st s) = some (.nx (st s'))) ∧ (¬ (∀ d ∈ items,ok d) → forD f G items (st s) = some (.rt (.bl false)))
 | [],_,s=>⟨fun _=>⟨s,rfl⟩,fun h=>absurd (fun d hd=>by cases hd) h⟩
 | d :: items,h,s=>by
  have hd:=h d List.mem_cons_self
  obtain ⟨i1,i2⟩:=for_chk st hf ok items (fun e he=>h e (List.mem_cons_of_mem _ he)) (.sh d)
  have un:forD f G (d :: items) (st s) = (match G (st (.sh d)) with | some (.nx δ')=>forD f G items δ' | some (.ct δ')=>forD f G items δ' | some (.bk δ')=>some (.nx δ') | r=>r):=by
   conv=>lhs; unfold forD
   rw [hf d s]
   rfl
  rw [un]
  by_cases hk:ok d
  ·rw [hd.1 hk]
   refine ⟨fun z=>i1 fun e he=>z e (List.mem_cons_of_mem _ he),fun z=>i2 fun q=>z fun e he=>?_⟩
   rcases List.mem_cons.mp he with rfl | he
   ·exact hk
   ·exact q e he
  ·rw [hd.2 hk]
   exact ⟨fun z=>absurd (z d List.mem_cons_self) hk,fun _=>rfl⟩
noncomputable def pN (p:Nat × Nat):D:=.tup [.int (p.1:Int),.int (p.2:Int)]
noncomputable def k2 (p:Nat × Nat):List KeyD:=[.inl (p.1:Int),.inl (p.2:Int)]
theorem k2_inj {p q:Nat × Nat} (h:k2 p = k2 q):p = q:=by
 unfold k2 at h
 injection h with h1 h2
 injection h2 with h2 _
 injection h1 with h1
 injection h2 with h2
 exact Prod.ext (by omega) (by omega)
theorem has2 (ks:List (List KeyD)) (k:List KeyD):hasK ks k = true ↔ k ∈ ks:=by
 unfold hasK
 rw [List.any_eq_true]
 constructor
 ·rintro ⟨x,hx,e⟩
  rw [← of_decide_eq_true e]; exact hx
 ·intro h
  exact ⟨k,h,decide_eq_true rfl⟩
theorem putKs_mem (ks:List (List KeyD)) (k x:List KeyD):x ∈ putKs ks k ↔ x ∈ ks ∨ x = k:=by
 unfold putKs
 by_cases h:hasK ks k = true
 ·rw [if_pos h]
  have:=(has2 ks k).mp h
  exact ⟨.inl,fun z=>z.elim id fun e=>e ▸ this⟩
 ·rw [if_neg h,List.mem_append,List.mem_singleton]
theorem dictPF_ok (v:D):∀ (L:List (Nat × Nat)) (ks:List (List KeyD)) (vs:List D),∃ r,dictPF ks vs (L.map fun p=>.tup [pN p,v]) = some r ∧ ∀ x,x ∈ r.1 ↔ x ∈ ks ∨ ∃ p ∈ L,x = k2 p
 | [],ks,vs=>⟨(ks,vs),rfl,fun x=>⟨.inl,fun z=>z.elim id fun ⟨p,hp,_⟩=>by cases hp⟩⟩
 | p :: L,ks,vs=>by
  obtain ⟨r,h1,h2⟩:=dictPF_ok v L (putKs ks (k2 p)) (putDs ks vs (k2 p) v)
  refine ⟨r,?_,fun x=>?_⟩
  ·rw [← h1]; rfl
  ·rw [h2,putKs_mem]
   constructor
   ·rintro ((z | z) | ⟨q,hq,e⟩)
    ·exact .inl z
    ·exact .inr ⟨p,List.mem_cons_self,z⟩
    ·exact .inr ⟨q,List.mem_cons_of_mem _ hq,e⟩
   ·rintro (z | ⟨q,hq,e⟩)
    ·exact .inl (.inl z)
    ·rcases List.mem_cons.mp hq with rfl | hq
     ·exact .inl (.inr e)
     ·exact .inr ⟨q,hq,e⟩
noncomputable def Dc (L:List (Nat × Nat)) (d:D):Prop:=∃ ks vs,d = .dct (.inr ks) vs ∧ ∀ x,x ∈ ks ↔ ∃ p ∈ L,x = k2 p
theorem dc_in {L:List (Nat × Nat)} {d:D} (h:Dc L d) (p:Nat × Nat):inDctD true (pN p) d = some (.bl (decide (p ∉ L))):=by
 obtain ⟨ks,vs,rfl,hk⟩:=h
 show some (D.bl (xor true (hasK ks (k2 p)))) = _
 by_cases z:p ∈ L
 ·rw [(has2 ks _).mpr ((hk _).mpr ⟨p,z,rfl⟩),decide_eq_false (fun q=>q z)]; rfl
 ·have:hasK ks (k2 p) = false:=by
   cases e:hasK ks (k2 p) with
   | false=>rfl
   | true =>
    obtain ⟨q,hq,e2⟩:=(hk _).mp ((has2 ks _).mp e)
    exact absurd (k2_inj e2 ▸ hq) z
  rw [this,decide_eq_true z]; rfl
noncomputable def okv (L:List (Nat × Nat)):D → D → Prop
 | .tup [_,.int i],.tup [_,.int j]=>(i.toNat,j.toNat) ∈ L
 | v,w=>v = w
theorem pl_v {n:Nat} {v:D} (h:Lv n v):Pn.Pl v:=by
 refine ⟨lean_v h 49,?_⟩
 rcases h with rfl | ⟨z,rfl⟩ | ⟨j,rfl,_⟩ <;> simp [Pn.nb,Pn.nbs]
noncomputable def Tell (p:Prop) (o:Option D):Prop:=(p → o = some (.bl true)) ∧ (¬ p → o = some (.bl false))
theorem ne_v {n m:Nat} {v w:D} (hv:Lv n v) (hw:Lv m w):Tell (v ≠ w) (neDD v w) :=
 ⟨fun e=>Pn.ne_t (pl_v hv) (pl_v hw) e,fun e=>by
  have:=Classical.not_not.mp e
  subst this
  exact Pn.ne_f (pl_v hv).le⟩
theorem tell_ob {p:Prop} {g:GE} {δ:Ds} (h:Tell p (g δ)):(p → ob g δ = some true) ∧ (¬ p → ob g δ = some false) :=
 ⟨fun z=>by unfold ob; rw [h.1 z]; rfl,fun z=>by unfold ob; rw [h.2 z]; rfl⟩
theorem okv_eq {n m:Nat} {L:List (Nat × Nat)} {v w:D} (hv:Lv n v) (hw:Lv m w) (h:¬ (isTup v = true ∧ isTup w = true)):okv L v w ↔ v = w:=by
 rcases hv with rfl | ⟨z,rfl⟩ | ⟨j,rfl,_⟩ <;> rcases hw with rfl | ⟨z',rfl⟩ | ⟨j',rfl,_⟩ <;> first | exact Iff.rfl | exact absurd ⟨rfl,rfl⟩ h
noncomputable def UB:GS:=(seqD (ifD (ob (oA (consA (gv 4) nilA) m_are_links))
 (seqD (ifD (ob (o2 (oA (consA (gv 4) nilA) m_linked_pair) (gv 3) (inDctD true)))
 (seqD (retD (gc (.bl false)))
 nilD)
 nilD)
 nilD)
 (seqD (ifD (ob (o2 (o2 (gv 4) (gc (.int 0)) ixD) (o2 (gv 4) (gc (.int 1)) ixD) neDD))
 (seqD (retD (gc (.bl false)))
 nilD)
 nilD)
 nilD))
 nilD)
theorem links_b (v w:D):m_are_links [.tup [v,w]] = some (.bl (isTup v && isTup w)):=by
 refine mkF_rt rfl (seq_rt (ret_of ?_))
 unfold andG
 rw [show ob (isiG isTup (o2 (gv 0) (gc (.int 0)) ixD)) (dStart N_are_links [.tup [v,w]]) = some (isTup v) from rfl,Option.bind_some]
 cases isTup v with
 | false=>rfl
 | true=>rw [if_pos rfl]; rfl
theorem ub_ok {n m:Nat} {L:List (Nat × Nat)} {d:D} (hd:Dc L d) {v w:D} (hv:Lv n v) (hw:Lv m w) (a b c:Sl) :
  (okv L v w → UB [a,b,c,.sh d,.sh (.tup [v,w])] = some (.nx [a,b,c,.sh d,.sh (.tup [v,w])])) ∧ (¬ okv L v w → UB [a,b,c,.sh d,.sh (.tup [v,w])] = some (.rt (.bl false))):=by
 have hl:ob (oA (consA (gv 4) nilA) m_are_links) [a,b,c,.sh d,.sh (.tup [v,w])] = some (isTup v && isTup w):=by
  unfold ob
  rw [oA_of (ds:=[.tup [v,w]]) rfl,links_b]
  rfl
 by_cases hb:isTup v = true ∧ isTup w = true
 ·rw [hb.1,hb.2] at hl
  obtain ⟨i,rfl,_⟩:∃ j:Nat,v = .tup [.str "at",.int (j:Int)] ∧ j < n:=by
   rcases hv with rfl | ⟨z,rfl⟩ | h
   ·exact absurd hb.1 (by simp)
   ·exact absurd hb.1 (by simp)
   ·exact h
  obtain ⟨j,rfl,_⟩:∃ j:Nat,w = .tup [.str "at",.int (j:Int)] ∧ j < m:=by
   rcases hw with rfl | ⟨z,rfl⟩ | h
   ·exact absurd hb.2 (by simp)
   ·exact absurd hb.2 (by simp)
   ·exact h
  have e:okv L (.tup [.str "at",.int (i:Int)]) (.tup [.str "at",.int (j:Int)]) ↔ (i,j) ∈ L:=by
   unfold okv
   simp only [Int.toNat_natCast]
  have lp:m_linked_pair [.tup [.tup [.str "at",.int (i:Int)],.tup [.str "at",.int (j:Int)]]] = some (pN (i,j)) :=
   mkF_rt rfl (seq_rt (ret_of (tup_of (cons_of rfl (cons_of rfl rfl)) (by show 2 ≤ sizeLine; decide))))
  have ht:ob (o2 (oA (consA (gv 4) nilA) m_linked_pair) (gv 3) (inDctD true)) [a,b,c,.sh d,.sh (.tup [.tup [.str "at",.int (i:Int)],.tup [.str "at",.int (j:Int)]])] = some (decide ((i,j) ∉ L)):=by
   unfold ob
   rw [o2_of (x:=pN (i,j)) (y:=d) (by rw [oA_of (ds:=[.tup [.tup [.str "at",.int (i:Int)],.tup [.str "at",.int (j:Int)]]]) rfl]; exact lp) rfl,dc_in hd]
   rfl
  rw [e]
  refine ⟨fun z=>?_,fun z=>?_⟩
  ·rw [decide_eq_false (fun q=>q z)] at ht
   refine seq_to (δ':=[a,b,c,.sh d,.sh (.tup [.tup [.str "at",.int (i:Int)],.tup [.str "at",.int (j:Int)]])]) ?_ rfl
   rw [if_t hl]
   refine seq_to (δ':=[a,b,c,.sh d,.sh (.tup [.tup [.str "at",.int (i:Int)],.tup [.str "at",.int (j:Int)]])]) ?_ rfl
   rw [if_f ht]; rfl
  ·rw [decide_eq_true z] at ht
   refine seq_rt ?_
   rw [if_t hl]
   refine seq_rt ?_
   rw [if_t ht]; rfl
 ·have hl2:(isTup v && isTup w) = false:=by
   cases e1:isTup v with
   | false=>rfl
   | true =>
    cases e2:isTup w with
    | false=>rfl
    | true=>exact absurd ⟨e1,e2⟩ hb
  rw [hl2] at hl
  rw [okv_eq hv hw hb]
  obtain ⟨t1,t2⟩:=tell_ob (g:=o2 (o2 (gv 4) (gc (.int 0)) ixD) (o2 (gv 4) (gc (.int 1)) ixD) neDD) (δ:=[a,b,c,.sh d,.sh (.tup [v,w])]) (p:=v ≠ w) (by
   rw [o2_of (x:=v) (y:=w) rfl rfl]
   exact ne_v hv hw)
  refine ⟨fun z=>?_,fun z=>?_⟩
  ·refine seq_to (δ':=[a,b,c,.sh d,.sh (.tup [v,w])]) ?_ rfl
   rw [if_f hl]
   refine seq_to (δ':=[a,b,c,.sh d,.sh (.tup [v,w])]) ?_ rfl
   rw [if_f (t2 fun q=>q z)]; rfl
  ·refine seq_rt ?_
   rw [if_f hl]
   refine seq_rt ?_
   rw [if_t (t1 z)]; rfl
noncomputable def pa (ps:List Pt) (i:Nat):Pt:=ps.getD i (.row [])
noncomputable def up (ps qs:List Pt) (L:List (Nat × Nat)) (p:Nat × Nat):Prop:=Pn.hd (pa ps p.1) = Pn.hd (pa qs p.2) ∧ ∀ q ∈ (pa ps p.1).vals.zip (pa qs p.2).vals,okv L q.1 q.2
theorem pa_at {ps:List Pt} (h:Web ps) {i:Nat} (hi:i < ps.length):ixD (wd ps) (.int (i:Int)) = some (pa ps i).d ∧ Pw ps.length (pa ps i):=by
 obtain ⟨a,_,c⟩:=h.at hi
 have:pa ps i = ps[i]:=by unfold pa; simp [hi]
 rw [this]
 exact ⟨a,c⟩
theorem head_ok (p:Pt) (h:p.few):m_head [p.d] = some (Pn.hd p):=Pn.head_ok p h
theorem values_ok (p:Pt) (h:p.few):m_values [p.d] = some (.lst p.vals):=Pn.values_ok p h
theorem upheld_ok {ps qs:List Pt} (hp:Web ps) (hq:Web qs) {L:List (Nat × Nat)} {d:D} (hd:Dc L d) {p:Nat × Nat} (h1:p.1 < ps.length) (h2:p.2 < qs.length):Tell (up ps qs L p) (m_is_upheld [wd ps,wd qs,pN p,d]):=by
 obtain ⟨a1,a2⟩:=pa_at hp h1
 obtain ⟨b1,b2⟩:=pa_at hq h2
 unfold up
 generalize pa ps p.1 = P at a1 a2
 generalize pa qs p.2 = R at b1 b2
 have g1:∀ δ:Ds,o2 (gv 0) (o2 (gv 2) (gc (.int 0)) ixD) ixD (.sh (wd ps) :: .sh (wd qs) :: .sh (pN p) :: δ) = some P.d:=fun δ=>by
  rw [o2_of (x:=wd ps) (y:=.int (p.1:Int)) rfl rfl]; exact a1
 have g2:∀ δ:Ds,o2 (gv 1) (o2 (gv 2) (gc (.int 1)) ixD) ixD (.sh (wd ps) :: .sh (wd qs) :: .sh (pN p) :: δ) = some R.d:=fun δ=>by
  rw [o2_of (x:=wd qs) (y:=.int (p.2:Int)) rfl rfl]; exact b1
 obtain ⟨t1,t2⟩:=tell_ob (g:=o2 (oA (consA (o2 (gv 0) (o2 (gv 2) (gc (.int 0)) ixD) ixD) nilA) m_head) (oA (consA (o2 (gv 1) (o2 (gv 2) (gc (.int 1)) ixD) ixD) nilA) m_head) neDD) (δ:=[.sh (wd ps),.sh (wd qs),.sh (pN p),.sh d,.un]) (p:=Pn.hd P ≠ Pn.hd R) (by
  rw [o2_of (x:=Pn.hd P) (y:=Pn.hd R) (by rw [oA_of (ds:=[P.d]) (cons_of (g1 _) rfl)]; exact head_ok P a2.f) (by rw [oA_of (ds:=[R.d]) (cons_of (g2 _) rfl)]; exact head_ok R b2.f)]
  exact ⟨fun e=>Pn.ne_t (Pn.pl_hd P) (Pn.pl_hd R) e,fun e=>by rw [Classical.not_not.mp e]; exact Pn.ne_f (Pn.pl_hd R).le⟩)
 by_cases hh:Pn.hd P = Pn.hd R
 ·obtain ⟨f1,f2⟩:=for_chk (f:=gN 4) (G:=UB) (fun s=>[.sh (wd ps),.sh (wd qs),.sh (pN p),.sh d,s]) (fun _ _=>rfl) (fun x=>∃ v w,x = .tup [v,w] ∧ okv L v w) ((P.vals.zip R.vals).map fun q=>.tup [q.1,q.2]) (fun x hx=>by
   obtain ⟨q,hq',rfl⟩:=List.mem_map.mp hx
   obtain ⟨m1,m2⟩:=List.of_mem_zip hq'
   obtain ⟨u1,u2⟩:=ub_ok hd (a2.lv _ m1) (b2.lv _ m2) (.sh (wd ps)) (.sh (wd qs)) (.sh (pN p))
   refine ⟨fun ⟨v,w,e,o⟩=>?_,fun z=>u2 fun o=>z ⟨_,_,rfl,o⟩⟩
   injection e with e
   injection e with e1 e
   injection e with e2 _
   rw [← e1,← e2] at o
   exact u1 o) .un
  have hz:zipI (consA (oA (consA (o2 (gv 0) (o2 (gv 2) (gc (.int 0)) ixD) ixD) nilA) m_values) (consA (oA (consA (o2 (gv 1) (o2 (gv 2) (gc (.int 1)) ixD) ixD) nilA) m_values) nilA)) [.sh (wd ps),.sh (wd qs),.sh (pN p),.sh d,.un] = some ((P.vals.zip R.vals).map fun q=>.tup [q.1,q.2]):=by
   unfold zipI
   rw [cons_of (d:=.lst P.vals) (ds:=[.lst R.vals]) (by rw [oA_of (ds:=[P.d]) (cons_of (g1 _) rfl)]; exact values_ok P a2.f) (cons_of (by rw [oA_of (ds:=[R.d]) (cons_of (g2 _) rfl)]; exact values_ok R b2.f) rfl)]
   rfl
  have hn:∀ rest:GS,seqD (ifD (ob (o2 (oA (consA (o2 (gv 0) (o2 (gv 2) (gc (.int 0)) ixD) ixD) nilA) m_head) (oA (consA (o2 (gv 1) (o2 (gv 2) (gc (.int 1)) ixD) ixD) nilA) m_head) neDD)) (seqD (retD (gc (.bl false))) nilD) nilD) rest [.sh (wd ps),.sh (wd qs),.sh (pN p),.sh d,.un] = rest [.sh (wd ps),.sh (wd qs),.sh (pN p),.sh d,.un]:=fun rest=>seq_to (by rw [if_f (t2 fun z=>z hh)]; rfl) rfl
  refine ⟨fun hup=>?_,fun hup=>?_⟩
  ·obtain ⟨s',hs⟩:=f1 fun x hx=>by
    obtain ⟨q,hq',rfl⟩:=List.mem_map.mp hx
    exact ⟨_,_,rfl,hup.2 q hq'⟩
   refine mkF_rt rfl ?_
   refine (hn _).trans (seq_to (for_of hz hs) (seq_rt rfl))
  ·refine mkF_rt rfl ?_
   refine (hn _).trans (seq_rt (for_of hz (f2 fun z=>hup ⟨hh,fun q hq'=>?_⟩)))
   obtain ⟨v,w,e,o⟩:=z _ (List.mem_map.mpr ⟨q,hq',rfl⟩)
   injection e with e
   injection e with e1 e
   injection e with e2 _
   rw [e1,e2]
   exact o
 ·refine ⟨fun z=>absurd z.1 hh,fun _=>mkF_rt rfl (seq_rt ?_)⟩
  show ifD _ _ _ [.sh (wd ps),.sh (wd qs),.sh (pN p),.sh d,.un] = _
  rw [if_t (t1 hh)]
  rfl
structure GL (n m:Nat) (L:List (Nat × Nat)):Prop where
 inr:∀ p ∈ L,p.1 < n ∧ p.2 < m
 len:L.length ≤ 100
noncomputable def prg (ps qs:List Pt) (L:List (Nat × Nat)):Prop:=(0,0) ∈ L ∧ (L.map (·.1)).Nodup ∧ (L.map (·.2)).Nodup ∧ ∀ p ∈ L,up ps qs L p
theorem deq_pN (p q:Nat × Nat):deq (pN p) (pN q) = decide (p = q):=by
 unfold pN
 rw [deq,deqs,deqs,deqs,deq,deq]
 by_cases h:p = q
 ·subst h; simp
 ·rw [decide_eq_false h]
  cases e:(p.1:Int) == (q.1:Int) with
  | false=>rfl
  | true =>
   cases e2:(p.2:Int) == (q.2:Int) with
   | false=>rfl
   | true =>
    exfalso
    apply h
    rw [beq_iff_eq] at e e2
    exact Prod.ext (by omega) (by omega)
theorem lean_pN (p:Nat × Nat) (k:Nat):lean (pN p) (k + 1) = true:=by simp [pN,lean,leans]
theorem leans_L (L:List (Nat × Nat)) (k:Nat):leans (L.map pN) (k + 1) = true:=leans_all fun x hx=>by
 obtain ⟨p,_,rfl⟩:=List.mem_map.mp hx
 exact lean_pN p k
theorem root_in (L:List (Nat × Nat)):inXD true (pN (0,0)) (.lst (L.map pN)) = some (.bl (decide ((0,0) ∉ L))):=by
 unfold inXD
 simp only []
 rw [if_pos ⟨lean_pN _ 49,leans_L L 49⟩]
 have e:((L.map pN).any fun y=>deq y (pN (0,0))) = decide ((0,0) ∈ L):=by
  rw [Bool.eq_iff_iff,List.any_eq_true,decide_eq_true_eq]
  constructor
  ·rintro ⟨y,hy,h⟩
   obtain ⟨p,hp,rfl⟩:=List.mem_map.mp hy
   rw [deq_pN] at h
   rw [← of_decide_eq_true h]; exact hp
  ·intro h
   exact ⟨_,List.mem_map.mpr ⟨_,h,rfl⟩,by rw [deq_pN,decide_eq_true rfl]⟩
 rw [e]
 by_cases h:(0,0) ∈ L <;> simp [h]
theorem fold_len:∀ (is acc:List Int),(is.foldl PyProof.Rows.step_dedup acc).length ≤ acc.length + is.length
 | [],acc=>by simp
 | x :: is,acc=>by
  rw [List.foldl_cons]
  have:=fold_len is (PyProof.Rows.step_dedup acc x)
  have:(PyProof.Rows.step_dedup acc x).length ≤ acc.length + 1:=by
   unfold PyProof.Rows.step_dedup
   split
   ·omega
   ·simp
  rw [List.length_cons]
  omega
theorem fold_nd:∀ (is acc:List Int),acc.Nodup → ((is.foldl PyProof.Rows.step_dedup acc).length = acc.length + is.length ↔ (acc ++ is).Nodup)
 | [],acc,h=>by simp [h]
 | x :: is,acc,h=>by
  rw [List.foldl_cons]
  by_cases hx:x ∈ acc
  ·have e:PyProof.Rows.step_dedup acc x = acc:=by
    unfold PyProof.Rows.step_dedup
    rw [if_pos (by rw [List.any_eq_true]; exact ⟨x,hx,by simp⟩)]
   rw [e]
   have hle:=fold_len is acc
   refine ⟨fun z=>by rw [List.length_cons] at z; omega,fun z=>?_⟩
   obtain ⟨_,_,z3⟩:=List.nodup_append.mp z
   exact absurd rfl (z3 x hx x List.mem_cons_self)
  ·have e:PyProof.Rows.step_dedup acc x = acc ++ [x]:=by
    unfold PyProof.Rows.step_dedup
    rw [if_neg (by
     rw [List.any_eq_true]
     rintro ⟨y,hy,z⟩
     rw [beq_iff_eq] at z
     exact hx (z ▸ hy))]
   have hn:(acc ++ [x]).Nodup:=List.nodup_append.mpr ⟨h,by simp,fun a ha b hb e=>by rw [List.mem_singleton.mp hb] at e; exact hx (e ▸ ha)⟩
   have ih:=fold_nd is (acc ++ [x]) hn
   rw [List.length_append,List.length_singleton] at ih
   rw [e,List.length_cons,show acc.length + (is.length + 1) = acc.length + 1 + is.length by omega,ih,List.append_assoc]
   rfl
theorem set_len (is:List Int) (hl:is.length ≤ 4000):lenSetI [.lst (is.map .int)] = some (.int (is.foldl PyProof.Rows.step_dedup []).length):=by
 show (sumL (is.map D.int)).bind _ = _
 rw [sumL_ints,Option.bind_some,if_pos hl]
 unfold PyProof.Rows.firstMet
 have e:(List.range is.length).map (fun i=>is.getD i 0) = is:=by
  refine List.ext_getElem (by simp) fun i h1 h2=>?_
  simp [List.getD_eq_getElem?_getD,h2]
 rw [e]
theorem fst_comp (L:List (Nat × Nat)):compD (gN 0) noT (o2 (gv 0) (gc (.int 0)) ixD) [.un] (L.map pN) = some ((L.map fun p=>(p.1:Int)).map .int):=by
 rw [compD_map (fun d=>match d with | .tup [a,_]=>a | _=>.non) (fun d hd=>by
  obtain ⟨q,_,rfl⟩:=List.mem_map.mp hd
  exact ⟨[.sh (pN q)],rfl,rfl,rfl⟩),List.map_map,List.map_map]
 rfl
theorem snd_comp (L:List (Nat × Nat)):compD (gN 0) noT (o2 (gv 0) (gc (.int 1)) ixD) [.un] (L.map pN) = some ((L.map fun p=>(p.2:Int)).map .int):=by
 rw [compD_map (fun d=>match d with | .tup [_,b]=>b | _=>.non) (fun d hd=>by
  obtain ⟨q,_,rfl⟩:=List.mem_map.mp hd
  exact ⟨[.sh (pN q)],rfl,rfl,rfl⟩),List.map_map,List.map_map]
 rfl
theorem cast_nd (l:List Nat):(l.map fun (k:Nat)=>(k:Int)).Nodup ↔ l.Nodup:=by
 constructor
 ·intro h
  refine List.pairwise_iff_getElem.mpr fun i j hi hj hij e=>?_
  have:=List.pairwise_iff_getElem.mp h i j (by simpa using hi) (by simpa using hj) hij
  rw [List.getElem_map,List.getElem_map,e] at this
  exact this rfl
 ·intro h
  refine List.pairwise_iff_getElem.mpr fun i j hi hj hij e=>?_
  rw [List.length_map] at hi hj
  rw [List.getElem_map,List.getElem_map] at e
  exact List.pairwise_iff_getElem.mp h i j hi hj hij (by omega)
theorem once_ok {n m:Nat} {L:List (Nat × Nat)} (h:GL n m L):m_stand_once [.lst (L.map pN)] = some (.bl (decide ((L.map (·.1)).Nodup ∧ (L.map (·.2)).Nodup))):=by
 have zs:(1000:Nat) ≤ sizeLine:=by decide
 have hl:=h.len
 have cnt:∀ f:Nat × Nat → Nat,((L.map fun p=>(f p:Int)).foldl PyProof.Rows.step_dedup []).length = L.length ↔ (L.map f).Nodup:=fun f=>by
  have:=fold_nd (L.map fun p=>(f p:Int)) [] List.nodup_nil
  rw [List.length_nil,Nat.zero_add,List.length_map,List.nil_append] at this
  rw [this,← cast_nd,List.map_map]
  rfl
 refine mkF_rt rfl (seq_to (set_of (d:=.lst ((L.map fun p:Nat × Nat=>(p.1:Int)).map .int)) (comp_of (items:=L.map pN) rfl (by rw [List.length_map]; omega) (fst_comp L))) (seq_to (set_of (d:=.lst ((L.map fun p:Nat × Nat=>(p.2:Int)).map .int)) (comp_of (items:=L.map pN) rfl (by rw [List.length_map]; omega) (snd_comp L))) (seq_rt (ret_of ?_))))
 have t:∀ (i:Nat) (f:Nat × Nat → Nat) (δ:Ds),gv i δ = some (.lst ((L.map fun p=>(f p:Int)).map .int)) → gv 0 δ = some (.lst (L.map pN)) → o2 (oA (consA (gv i) nilA) lenSetI) (oA (consA (gv 0) nilA) lenD) eqD δ = some (.bl (decide ((L.map f).Nodup))):=fun i f δ h1 h2=>by
  rw [o2_of (x:=.int (((L.map fun p=>(f p:Int)).foldl PyProof.Rows.step_dedup []).length:Int)) (y:=.int (L.length:Int)) (by rw [oA_of (ds:=[.lst ((L.map fun p=>(f p:Int)).map .int)]) (cons_of h1 rfl)]; exact set_len _ (by rw [List.length_map]; omega)) (by rw [len_of h2,List.length_map]),eqi]
  congr 2
  rw [decide_eq_decide,← cnt f]
  omega
 unfold andG
 have t1:=t 1 (·.1) [.sh (.lst (L.map pN)),.sh (.lst ((L.map fun p=>(p.1:Int)).map .int)),.sh (.lst ((L.map fun p=>(p.2:Int)).map .int))] rfl rfl
 have t2:=t 2 (·.2) [.sh (.lst (L.map pN)),.sh (.lst ((L.map fun p=>(p.1:Int)).map .int)),.sh (.lst ((L.map fun p=>(p.2:Int)).map .int))] rfl rfl
 change Option.bind (ob (o2 (oA (consA (gv 1) nilA) lenSetI) (oA (consA (gv 0) nilA) lenD) eqD) [.sh (.lst (L.map pN)),.sh (.lst ((L.map fun p=>(p.1:Int)).map .int)),.sh (.lst ((L.map fun p=>(p.2:Int)).map .int))]) _ = _
 rw [Bw.b_of t1,Option.bind_some]
 by_cases h1:(L.map (·.1)).Nodup
 ·rw [decide_eq_true h1,if_pos rfl]
  refine t2.trans ?_
  congr 2
  rw [decide_eq_decide]
  exact ⟨fun z=>⟨h1,z⟩,fun z=>z.2⟩
 ·rw [decide_eq_false h1,if_neg (by simp),decide_eq_false (fun z=>h1 z.1)]
theorem bools_all:∀ bs:List Bool,bools (bs.map D.bl) = some bs
 | []=>rfl
 | b :: bs=>by show (bools (bs.map D.bl)).map _ = _; rw [bools_all bs]; rfl
theorem len_wd (ps:List Pt) (δ:Ds) {i:Nat} (h:gv i δ = some (wd ps)):oA (consA (gv i) nilA) lenD δ = some (.int (ps.length:Int)):=by
 rw [oA_of (ds:=[wd ps]) (cons_of h rfl)]
 show some (D.int ((ps.map Pt.d).length:Int)) = _
 rw [List.length_map]
theorem parts_ok {ps qs:List Pt} {p:Nat × Nat} (h1:p.1 < ps.length) (h2:p.2 < qs.length):m_are_parts [wd ps,wd qs,pN p] = some (.bl true):=by
 refine mkF_rt rfl (seq_rt (ret_of ?_))
 have c1:chainG (gc (.int 0)) (o2 (gv 2) (gc (.int 0)) ixD) (oA (consA (gv 0) nilA) lenD) leD ltD [.sh (wd ps),.sh (wd qs),.sh (pN p)] = some (.bl true):=by
  unfold chainG
  rw [len_wd ps _ rfl]
  show (if decide ((0:Int) ≤ (p.1:Int)) = true then some (D.bl (decide ((p.1:Int) < (ps.length:Int)))) else some (.bl false)) = _
  rw [decide_eq_true (by omega),if_pos rfl,decide_eq_true (by omega)]
 have c2:chainG (gc (.int 0)) (o2 (gv 2) (gc (.int 1)) ixD) (oA (consA (gv 1) nilA) lenD) leD ltD [.sh (wd ps),.sh (wd qs),.sh (pN p)] = some (.bl true):=by
  unfold chainG
  rw [len_wd qs _ rfl]
  show (if decide ((0:Int) ≤ (p.2:Int)) = true then some (D.bl (decide ((p.2:Int) < (qs.length:Int)))) else some (.bl false)) = _
  rw [decide_eq_true (by omega),if_pos rfl,decide_eq_true (by omega)]
 unfold andG
 change Option.bind (ob (chainG (gc (.int 0)) (o2 (gv 2) (gc (.int 0)) ixD) (oA (consA (gv 0) nilA) lenD) leD ltD) [.sh (wd ps),.sh (wd qs),.sh (pN p)]) _ = _
 rw [Bw.b_of c1,Option.bind_some,if_pos rfl]
 exact c2
open Classical in
theorem closed_ok {ps qs:List Pt} (hp:Web ps) (hq:Web qs) {L:List (Nat × Nat)} (h:GL ps.length qs.length L):Tell (∀ p ∈ L,up ps qs L p) (m_are_closed [wd ps,wd qs,.lst (L.map pN)]):=by
 have zs:(1000:Nat) ≤ sizeLine:=by decide
 have hl:=h.len
 obtain ⟨r,r1,r2⟩:=dictPF_ok (.bl true) L [] []
 have hd:Dc L (.dct (.inr r.1) r.2):=⟨r.1,r.2,rfl,fun x=>by rw [r2]; simp⟩
 have key:m_are_closed [wd ps,wd qs,.lst (L.map pN)] = some (.bl ((L.map fun p=>decide (up ps qs L p)).all id)):=by
  refine mkF_rt rfl (seq_to (set_of (d:=.dct (.inr r.1) r.2) ?_) (seq_rt (ret_of ?_)))
  ·rw [oA_of (ds:=[.lst (L.map fun p=>.tup [pN p,.bl true])]) (cons_of (comp_of (items:=L.map pN) rfl (by rw [List.length_map]; omega) (by
    rw [compD_map (fun d=>.tup [d,.bl true]) (fun d hd=>⟨[.sh d],rfl,rfl,tup_of (cons_of rfl (cons_of rfl rfl)) (by show 2 ≤ sizeLine; omega)⟩),List.map_map]
    rfl)) rfl)]
   show (if (L.map fun p=>D.tup [pN p,.bl true]).length ≤ sizeLine then (dictPF [] [] (L.map fun p=>D.tup [pN p,.bl true])).map (fun r=>D.dct (.inr r.1) r.2) else none) = _
   rw [if_pos (by rw [List.length_map]; omega),r1]
   rfl
  ·rw [oA_of (ds:=[.lst ((L.map fun p=>decide (up ps qs L p)).map .bl)]) (cons_of (comp_of (items:=L.map pN) rfl (by rw [List.length_map]; omega) (by
    have:∀ p ∈ L,andG (oA (consA (gv 1) (consA (gv 2) (consA (gv 0) nilA))) m_are_parts) (oA (consA (gv 1) (consA (gv 2) (consA (gv 0) (consA (gv 3) nilA)))) m_is_upheld) [.sh (pN p),.sh (wd ps),.sh (wd qs),.sh (.dct (.inr r.1) r.2)] = some (.bl (decide (up ps qs L p))):=fun p hp'=>by
     obtain ⟨i1,i2⟩:=h.inr p hp'
     unfold andG
     rw [Bw.b_of (b:=true) (by rw [oA_of (ds:=[wd ps,wd qs,pN p]) rfl]; exact parts_ok i1 i2),Option.bind_some,if_pos rfl,oA_of (ds:=[wd ps,wd qs,pN p,.dct (.inr r.1) r.2]) rfl]
     obtain ⟨u1,u2⟩:=upheld_ok hp hq hd i1 i2
     by_cases hu:up ps qs L p
     ·rw [decide_eq_true hu]; exact u1 hu
     ·rw [decide_eq_false hu]; exact u2 hu
    have go:∀ l:List (Nat × Nat),(∀ p ∈ l,p ∈ L) → compD (gN 0) noT (andG (oA (consA (gv 1) (consA (gv 2) (consA (gv 0) nilA))) m_are_parts) (oA (consA (gv 1) (consA (gv 2) (consA (gv 0) (consA (gv 3) nilA)))) m_is_upheld)) [.un,.sh (wd ps),.sh (wd qs),.sh (.dct (.inr r.1) r.2)] (l.map pN) = some ((l.map fun p=>decide (up ps qs L p)).map .bl):=by
     intro l
     induction l with
     | nil=>intro _; rfl
     | cons p l ih =>
      intro hl'
      rw [List.map_cons]
      unfold compD
      show (match andG _ _ [.sh (pN p),.sh (wd ps),.sh (wd qs),.sh (.dct (.inr r.1) r.2)] with | none=>none | some y=>(compD _ _ _ _ (l.map pN)).map fun r=>y :: r) = _
      rw [this p (hl' p List.mem_cons_self),ih fun q hq'=>hl' q (List.mem_cons_of_mem _ hq')]
      rfl
    exact go L fun p hp'=>hp')) rfl)]
   show (bools _).map _ = _
   rw [bools_all]
   rfl
 rw [key]
 have e:(L.map fun p=>decide (up ps qs L p)).all id = decide (∀ p ∈ L,up ps qs L p):=by
  rw [Bool.eq_iff_iff,List.all_map,List.all_eq_true,decide_eq_true_eq]
  exact ⟨fun z p hp'=>of_decide_eq_true (z p hp'),fun z p hp'=>decide_eq_true (z p hp')⟩
 rw [e]
 exact ⟨fun z=>by rw [decide_eq_true z],fun z=>by rw [decide_eq_false z]⟩
theorem pairing_ok {ps qs:List Pt} (hp:Web ps) (hq:Web qs) {L:List (Nat × Nat)} (h:GL ps.length qs.length L):Tell (prg ps qs L) (m_is_pairing [wd ps,wd qs,.lst (L.map pN)]):=by
 have zs:(2:Nat) ≤ sizeLine:=by decide
 have t1:ob (o2 (tupG (consA (gc (.int 0)) (consA (gc (.int 0)) nilA))) (gv 2) (inXD true)) [.sh (wd ps),.sh (wd qs),.sh (.lst (L.map pN))] = some (decide ((0,0) ∉ L)):=Bw.b_of (by
  rw [o2_of (x:=pN (0,0)) (y:=.lst (L.map pN)) (tup_of (cons_of rfl (cons_of rfl rfl)) zs) rfl]
  exact root_in L)
 have t2:ob (oA (consA (gv 2) nilA) m_stand_once) [.sh (wd ps),.sh (wd qs),.sh (.lst (L.map pN))] = some (decide ((L.map (·.1)).Nodup ∧ (L.map (·.2)).Nodup)):=Bw.b_of (by
  rw [oA_of (ds:=[.lst (L.map pN)]) rfl]
  exact once_ok h)
 have t3:tOrG (ob (o2 (tupG (consA (gc (.int 0)) (consA (gc (.int 0)) nilA))) (gv 2) (inXD true))) (tNotG (ob (oA (consA (gv 2) nilA) m_stand_once))) [.sh (wd ps),.sh (wd qs),.sh (.lst (L.map pN))] = some (decide (¬ ((0,0) ∈ L ∧ (L.map (·.1)).Nodup ∧ (L.map (·.2)).Nodup))):=by
  unfold tOrG tNotG
  rw [t1,t2]
  by_cases a:(0,0) ∈ L
  ·simp [a]
  ·simp [a]
 obtain ⟨c1,c2⟩:=closed_ok hp hq h
 by_cases hx:(0,0) ∈ L ∧ (L.map (·.1)).Nodup ∧ (L.map (·.2)).Nodup
 ·rw [decide_eq_false (fun z=>z hx)] at t3
  have go:∀ b,m_are_closed [wd ps,wd qs,.lst (L.map pN)] = some (.bl b) → m_is_pairing [wd ps,wd qs,.lst (L.map pN)] = some (.bl b):=fun b hb=>by
   refine mkF_rt rfl (seq_to (δ':=[.sh (wd ps),.sh (wd qs),.sh (.lst (L.map pN))]) ?_ (seq_rt (ret_of ?_)))
   ·show ifD _ _ _ [.sh (wd ps),.sh (wd qs),.sh (.lst (L.map pN))] = _
    rw [if_f t3]; rfl
   ·rw [oA_of (ds:=[wd ps,wd qs,.lst (L.map pN)]) rfl]
    exact hb
  exact ⟨fun z=>go true (c1 z.2.2.2),fun z=>go false (c2 fun q=>z ⟨hx.1,hx.2.1,hx.2.2,q⟩)⟩
 ·rw [decide_eq_true hx] at t3
  refine ⟨fun z=>absurd ⟨z.1,z.2.1,z.2.2.1⟩ hx,fun _=>mkF_rt rfl (seq_rt ?_)⟩
  show ifD _ _ _ [.sh (wd ps),.sh (wd qs),.sh (.lst (L.map pN))] = _
  rw [if_t t3]
  rfl
end Ta
namespace Bw
open PySem DL W
end Bw
namespace Km
open PySem DL W K22
noncomputable section
end
theorem has_iff (ks:List KeyD) (k:KeyD):hasK ks k = true ↔ k ∈ ks:=by
 unfold hasK
 rw [List.any_eq_true]
 constructor
 ·rintro ⟨x,hx,e⟩
  rw [← of_decide_eq_true e]; exact hx
 ·intro h
  exact ⟨k,h,decide_eq_true rfl⟩
theorem has_f {ks:List KeyD} {k:KeyD} (h:k ∉ ks):hasK ks k = false:=by
 cases e:hasK ks k with
 | false=>rfl
 | true=>exact absurd ((has_iff ks k).mp e) h
noncomputable def kb (B:List Nat):List KeyD:=B.map fun (k:Nat)=>(Sum.inl (k:Int):KeyD)
theorem kb_mem (B:List Nat) (j:Nat):(Sum.inl (j:Int):KeyD) ∈ kb B ↔ j ∈ B:=by
 unfold kb
 rw [List.mem_map]
 constructor
 ·rintro ⟨k,hk,e⟩
  have:(k:Int) = (j:Int):=by injection e
  have:k = j:=by omega
  rw [← this]; exact hk
 ·exact fun h=>⟨j,h,rfl⟩
theorem kb_len (B:List Nat):(kb B).length = B.length:=by unfold kb; rw [List.length_map]
end Km
namespace Ta
open PySem DL W K22
theorem for_chk2 {f:D → Ds → Option Ds} {G:GS} (P:Ds → Prop) (ok:D → Prop) (r:D):∀ items:List D,(∀ d ∈ items,∀ δ,P δ → ∃ δ1,f d δ = some δ1 ∧ (ok d → ∃ δ2,G δ1 = some (.nx δ2) ∧ P δ2) ∧ (¬ ok d → G δ1 = some (.rt r))) →
  ∀ δ,P δ → ((∀ d ∈ items,ok d) → ∃ δ',forD f G items δ = some (.nx δ') ∧ P δ') ∧ (¬ (∀ d ∈ items,ok d) → forD f G items δ = some (.rt r))
 | [],_,δ,hP=>⟨fun _=>⟨δ,rfl,hP⟩,fun h=>absurd (fun d hd=>by cases hd) h⟩
 | d :: items,h,δ,hP=>by
  obtain ⟨δ1,e1,g1,g2⟩:=h d List.mem_cons_self δ hP
  have un:forD f G (d :: items) δ = (match G δ1 with | some (.nx δ')=>forD f G items δ' | some (.ct δ')=>forD f G items δ' | some (.bk δ')=>some (.nx δ') | r=>r):=by
   conv=>lhs; unfold forD
   rw [e1]
   rfl
  rw [un]
  by_cases hk:ok d
  ·obtain ⟨δ2,e2,p2⟩:=g1 hk
   obtain ⟨i1,i2⟩:=for_chk2 P ok r items (fun e he=>h e (List.mem_cons_of_mem _ he)) δ2 p2
   rw [e2]
   refine ⟨fun z=>i1 fun e he=>z e (List.mem_cons_of_mem _ he),fun z=>i2 fun q=>z fun e he=>?_⟩
   rcases List.mem_cons.mp he with rfl | he
   ·exact hk
   ·exact q e he
  ·rw [g2 hk]
   exact ⟨fun z=>absurd (z d List.mem_cons_self) hk,fun _=>rfl⟩
theorem lhead_ok {n:Nat} {p:Pt} (h:Pw n p):m__law_head [p.d] = some (Pn.hd p):=by
 have zs:(1000:Nat) ≤ sizeLine:=by decide
 have hf:=h.few
 have nc:∀ ps:List (Str × D),compD (tup2 0 1) noT (gv 0) [.un,.un] (ps.map pr) = some ((ps.map (·.1)).map .str):=fun ps=>by
  rw [compD_map (fun d=>match d with | .tup [a,_]=>a | _=>.non) (fun d hd=>by
   obtain ⟨q,_,rfl⟩:=List.mem_map.mp hd
   exact ⟨[.sh (.str q.1),.sh q.2],rfl,rfl,rfl⟩),List.map_map,List.map_map]
  rfl
 cases p with
 | text w=>kernel_rfl
 | row vs =>
  have hf:vs.length ≤ 12:=hf
  refine mkF_rt rfl (seq_rt ?_)
  rw [if_t (by kernel_rfl)]
  exact seq_rt (ret_of (tup_of (cons_of rfl (cons_of rfl rfl)) (by show 2 ≤ sizeLine; omega)))
 | table ps =>
  have hf:(ps.map (·.2)).length ≤ 12:=hf
  rw [List.length_map] at hf
  refine mkF_rt rfl (seq_to (δ':=[.sh (Pt.table ps).d]) (by rw [if_f (by kernel_rfl)]; rfl) (seq_to (δ':=[.sh (Pt.table ps).d]) (by rw [if_f (by kernel_rfl)]; rfl) (seq_rt (ret_of ?_))))
  rw [o2_of (x:=.tup [.str "table"]) (y:=.tup [.tup ((ps.map (·.1)).map .str)]) rfl (tup_of (cons_of (by
   rw [oA_of (ds:=[.lst ((ps.map (·.1)).map .str)]) (cons_of (comp_of (items:=ps.map pr) rfl (by rw [List.length_map]; omega) (nc ps)) rfl)]
   rfl) rfl) (by show 1 ≤ sizeLine; omega))]
  rfl
 | rcd c ps =>
  have hf:(ps.map (·.2)).length ≤ 12:=hf
  rw [List.length_map] at hf
  refine mkF_rt rfl (seq_to (δ':=[.sh (Pt.rcd c ps).d]) (by rw [if_f (by kernel_rfl)]; rfl) (seq_to (δ':=[.sh (Pt.rcd c ps).d]) (by rw [if_f (by kernel_rfl)]; rfl) (seq_rt (ret_of ?_))))
  rw [o2_of (x:=.tup [.str "record",.str c]) (y:=.tup [.tup ((ps.map (·.1)).map .str)]) rfl (tup_of (cons_of (by
   rw [oA_of (ds:=[.lst ((ps.map (·.1)).map .str)]) (cons_of (comp_of (items:=ps.map pr) rfl (by rw [List.length_map]; omega) (nc ps)) rfl)]
   rfl) rfl) (by show 1 ≤ sizeLine; omega))]
  rfl
theorem vals_len {p q:Pt} (h:Pn.hd p = Pn.hd q):p.vals.length = q.vals.length:=by
 have inj:∀ {a b:List (Str × D)},D.tup ((a.map (·.1)).map .str) = D.tup ((b.map (·.1)).map .str) → (a.map (·.2)).length = (b.map (·.2)).length:=fun {a b} e=>by
  injection e with e
  have:=congrArg List.length e
  simpa using this
 cases p with
 | text w =>
  cases q with
  | text w'=>rfl
  | row vs=>injection h with h; injection h with h _; injection h with h; exact absurd h (by decide +kernel)
  | table ps=>injection h with h; injection h with h _; injection h with h; exact absurd h (by decide +kernel)
  | rcd c ps=>injection h with h; injection h with h _; injection h with h; exact absurd h (by decide +kernel)
 | row vs =>
  cases q with
  | text w'=>injection h with h; injection h with h _; injection h with h; exact absurd h (by decide +kernel)
  | row ws =>
   injection h with h
   injection h with _ h
   injection h with h _
   injection h with h
   show vs.length = ws.length
   omega
  | table ps=>injection h with h; injection h with h _; injection h with h; exact absurd h (by decide +kernel)
  | rcd c ps=>injection h with h; injection h with h _; injection h with h; exact absurd h (by decide +kernel)
 | table as =>
  cases q with
  | text w'=>injection h with h; injection h with h _; injection h with h; exact absurd h (by decide +kernel)
  | row vs=>injection h with h; injection h with h _; injection h with h; exact absurd h (by decide +kernel)
  | table ps =>
   injection h with h
   injection h with _ h
   injection h with h _
   exact inj h
  | rcd c ps=>injection h with h; injection h with h _; injection h with h; exact absurd h (by decide +kernel)
 | rcd c as =>
  cases q with
  | text w'=>injection h with h; injection h with h _; injection h with h; exact absurd h (by decide +kernel)
  | row vs=>injection h with h; injection h with h _; injection h with h; exact absurd h (by decide +kernel)
  | table ps=>injection h with h; injection h with h _; injection h with h; exact absurd h (by decide +kernel)
  | rcd c' ps =>
   injection h with h
   injection h with _ h
   injection h with _ h
   injection h with h _
   exact inj h
noncomputable def gl1:D × D → Option (Nat × Nat)
 | (.tup [_,.int i],.tup [_,.int j])=>some (i.toNat,j.toNat)
 | _=>none
noncomputable def gl (z:List (D × D)):List (Nat × Nat):=z.filterMap gl1
noncomputable def nl (q:D × D):Prop:=(isTup q.1 = true ∧ isTup q.2 = true) ∨ q.1 = q.2
noncomputable def GB:GS:=(seqD (ifD (tAndG (ob (isiG isTup (o2 (gv 4) (gv 6) ixD))) (ob (isiG isTup (o2 (gv 5) (gv 6) ixD))))
 (seqD (exprX (appX 3 (tupG (consA (o2 (o2 (gv 4) (gv 6) ixD) (gc (.int 1)) ixD) (consA (o2 (o2 (gv 5) (gv 6) ixD) (gc (.int 1)) ixD) nilA)))))
 nilD)
 (seqD (ifD (ob (o2 (o2 (gv 4) (gv 6) ixD) (o2 (gv 5) (gv 6) ixD) neDD))
 (seqD (retD (gc .non))
 nilD)
 nilD)
 nilD))
 nilD)
theorem gl_len (z:List (D × D)):(gl z).length ≤ z.length:=List.length_filterMap_le _ _
theorem gb_ok {n m:Nat} {vs ws:List D} (hv:∀ v ∈ vs,Lv n v) (hw:∀ w ∈ ws,Lv m w) (hl:vs.length = ws.length) (h12:vs.length ≤ 12) (a b c:Sl) (i:Nat) (hi:i < vs.length) :
  (nl (vs[i],ws[i]'(by omega)) → GB [a,b,c,.ow (.lst ((gl ((vs.zip ws).take i)).map pN)),.sh (.lst vs),.sh (.lst ws),.sh (.int (i:Int))] = some (.nx [a,b,c,.ow (.lst ((gl ((vs.zip ws).take (i + 1))).map pN)),.sh (.lst vs),.sh (.lst ws),.sh (.int (i:Int))])) ∧
  (¬ nl (vs[i],ws[i]'(by omega)) → GB [a,b,c,.ow (.lst ((gl ((vs.zip ws).take i)).map pN)),.sh (.lst vs),.sh (.lst ws),.sh (.int (i:Int))] = some (.rt .non)):=by
 have zs:(1000:Nat) ≤ sizeLine:=by decide
 have hiw:i < ws.length:=by omega
 have g4:∀ s:Sl,o2 (gv 4) (gv 6) ixD [a,b,c,s,.sh (.lst vs),.sh (.lst ws),.sh (.int (i:Int))] = some vs[i]:=fun s=>by
  rw [o2_of (x:=.lst vs) (y:=.int (i:Int)) rfl rfl]
  show atI vs (i:Int) = _
  rw [atI_in (by omega) (by omega) .non,Int.toNat_natCast]
  simp [List.getD_eq_getElem?_getD,hi]
 have g5:∀ s:Sl,o2 (gv 5) (gv 6) ixD [a,b,c,s,.sh (.lst vs),.sh (.lst ws),.sh (.int (i:Int))] = some ws[i]:=fun s=>by
  rw [o2_of (x:=.lst ws) (y:=.int (i:Int)) rfl rfl]
  show atI ws (i:Int) = _
  rw [atI_in (by omega) (by omega) .non,Int.toNat_natCast]
  simp [List.getD_eq_getElem?_getD,hiw]
 have tk:(vs.zip ws).take (i + 1) = (vs.zip ws).take i ++ [(vs[i],ws[i])]:=by
  rw [List.take_succ,List.getElem?_eq_getElem (by rw [List.length_zip]; omega),List.getElem_zip]
  rfl
 have hgl:gl ((vs.zip ws).take (i + 1)) = gl ((vs.zip ws).take i) ++ (gl1 (vs[i],ws[i])).toList:=by
  rw [tk]
  unfold gl
  rw [List.filterMap_append]
  congr 1
 have hlv:=hv _ (List.getElem_mem hi)
 have hlw:=hw _ (List.getElem_mem hiw)
 have hlen:(gl ((vs.zip ws).take i)).length ≤ 12:=Nat.le_trans (gl_len _) (by rw [List.length_take,List.length_zip]; omega)
 generalize gl ((vs.zip ws).take (i + 1)) = Z' at hgl ⊢
 generalize gl ((vs.zip ws).take i) = Z at hgl hlen ⊢
 generalize vs[i] = v at g4 hgl hlv ⊢
 generalize ws[i] = w at g5 hgl hlw ⊢
 have ht:tAndG (ob (isiG isTup (o2 (gv 4) (gv 6) ixD))) (ob (isiG isTup (o2 (gv 5) (gv 6) ixD))) [a,b,c,.ow (.lst (Z.map pN)),.sh (.lst vs),.sh (.lst ws),.sh (.int (i:Int))] = some (isTup v && isTup w):=by
  refine and_tf ?_ ?_
  ·unfold ob isiG; rw [g4]; rfl
  ·unfold ob isiG; rw [g5]; rfl
 by_cases hb:isTup v = true ∧ isTup w = true
 ·refine ⟨fun _=>?_,fun z=>absurd (.inl hb) z⟩
  rw [hb.1,hb.2] at ht
  obtain ⟨x,rfl,_⟩:∃ j:Nat,v = .tup [.str "at",.int (j:Int)] ∧ j < n:=by
   rcases hlv with rfl | ⟨z,rfl⟩ | h
   ·exact absurd hb.1 (by simp)
   ·exact absurd hb.1 (by simp)
   ·exact h
  obtain ⟨y,rfl,_⟩:∃ j:Nat,w = .tup [.str "at",.int (j:Int)] ∧ j < m:=by
   rcases hlw with rfl | ⟨z,rfl⟩ | h
   ·exact absurd hb.2 (by simp)
   ·exact absurd hb.2 (by simp)
   ·exact h
  have e:gl1 (D.tup [.str "at",.int (x:Int)],D.tup [.str "at",.int (y:Int)]) = some (x,y):=by
   unfold gl1
   simp only [Int.toNat_natCast]
  rw [e] at hgl
  rw [hgl]
  refine seq_to (δ':=[a,b,c,.ow (.lst ((Z ++ [(x,y)]).map pN)),.sh (.lst vs),.sh (.lst ws),.sh (.int (i:Int))]) ?_ rfl
  rw [if_t ht]
  refine seq_to ((Gw.app_ow (l:=Z.map pN) (d:=pN (x,y)) rfl ?_ (by rw [List.length_map]; omega)).trans ?_) rfl
  ·exact tup_of (cons_of (by rw [o2_of (x:=.tup [.str "at",.int (x:Int)]) (y:=.int 1) (g4 _) rfl]; rfl) (cons_of (by rw [o2_of (x:=.tup [.str "at",.int (y:Int)]) (y:=.int 1) (g5 _) rfl]; rfl) rfl)) (by show 2 ≤ sizeLine; omega)
  ·rw [List.map_append]; rfl
 ·have hl2:(isTup v && isTup w) = false:=by
   cases e1:isTup v with
   | false=>rfl
   | true =>
    cases e2:isTup w with
    | false=>rfl
    | true=>exact absurd ⟨e1,e2⟩ hb
  rw [hl2] at ht
  have en:gl1 (v,w) = none:=by
   rcases hlv with rfl | ⟨z,rfl⟩ | ⟨j,rfl,_⟩ <;> rcases hlw with rfl | ⟨z',rfl⟩ | ⟨j',rfl,_⟩ <;> first | rfl | exact absurd ⟨rfl,rfl⟩ hb
  rw [en] at hgl
  have hgl:Z' = Z:=by rw [hgl]; simp
  rw [hgl]
  have hnl:nl (v,w) ↔ v = w:=⟨fun z=>z.resolve_left hb,.inr⟩
  rw [hnl]
  obtain ⟨t1,t2⟩:=tell_ob (g:=o2 (o2 (gv 4) (gv 6) ixD) (o2 (gv 5) (gv 6) ixD) neDD) (δ:=[a,b,c,.ow (.lst (Z.map pN)),.sh (.lst vs),.sh (.lst ws),.sh (.int (i:Int))]) (p:=v ≠ w) (by
   rw [o2_of (x:=v) (y:=w) (g4 _) (g5 _)]
   exact ne_v hlv hlw)
  refine ⟨fun z=>?_,fun z=>?_⟩
  ·refine seq_to (δ':=[a,b,c,.ow (.lst (Z.map pN)),.sh (.lst vs),.sh (.lst ws),.sh (.int (i:Int))]) ?_ rfl
   rw [if_f ht]
   refine seq_to (δ':=[a,b,c,.ow (.lst (Z.map pN)),.sh (.lst vs),.sh (.lst ws),.sh (.int (i:Int))]) ?_ rfl
   rw [if_f (t2 fun q=>q z)]; rfl
  ·refine seq_rt ?_
   rw [if_f ht]
   refine seq_rt ?_
   rw [if_t (t1 z)]; rfl
theorem rng_nd (n:Nat):rngD 0 (n:Int) = (List.range' 0 n).map fun (k:Nat)=>D.int (k:Int):=by
 unfold rngD
 rw [List.range_eq_range',show ((n:Int) - 0).toNat = n by omega]
 refine List.map_congr_left fun k _=>?_
 congr 1
 omega
theorem for_rng {G:GS} {j:Nat} (n:Nat) (st:Nat → Sl → Ds) (hf:∀ i s d,gN j d (st i s) = some (st i (.sh d))) (ok:Nat → Prop) (r:D) (hG:∀ i,i < n → (ok i → G (st i (.sh (.int (i:Int)))) = some (.nx (st (i + 1) (.sh (.int (i:Int)))))) ∧ (¬ ok i → G (st i (.sh (.int (i:Int)))) = some (.rt r))) :
  ∀ (m i:Nat) (s:Sl),i + m = n → ((∀ k,i ≤ k → k < n → ok k) → ∃ s',forD (gN j) G ((List.range' i m).map fun (k:Nat)=>D.int (k:Int)) (st i s) = some (.nx (st n s'))) ∧ (¬ (∀ k,i ≤ k → k < n → ok k) → forD (gN j) G ((List.range' i m).map fun (k:Nat)=>D.int (k:Int)) (st i s) = some (.rt r))
 | 0,i,s,h=>by
  have:i = n:=by omega
  subst this
  exact ⟨fun _=>⟨s,rfl⟩,fun z=>absurd (fun k h1 h2=>by omega) z⟩
 | m + 1,i,s,h=>by
  obtain ⟨g1,g2⟩:=hG i (by omega)
  rw [List.range'_succ,List.map_cons]
  have un:forD (gN j) G (D.int (i:Int) :: (List.range' (i + 1) m).map fun (k:Nat)=>D.int (k:Int)) (st i s) = (match G (st i (.sh (.int (i:Int)))) with | some (.nx δ')=>forD (gN j) G ((List.range' (i + 1) m).map fun (k:Nat)=>D.int (k:Int)) δ' | some (.ct δ')=>forD (gN j) G ((List.range' (i + 1) m).map fun (k:Nat)=>D.int (k:Int)) δ' | some (.bk δ')=>some (.nx δ') | r=>r):=by
   conv=>lhs; unfold forD
   rw [hf]
   rfl
  rw [un]
  by_cases hk:ok i
  ·rw [g1 hk]
   obtain ⟨i1,i2⟩:=for_rng n st hf ok r hG m (i + 1) (.sh (.int (i:Int))) (by omega)
   refine ⟨fun z=>i1 fun k h1 h2=>z k (by omega) h2,fun z=>i2 fun q=>z fun k h1 h2=>?_⟩
   by_cases e:k = i
   ·subst e; exact hk
   ·exact q k (by omega) h2
  ·rw [g2 hk]
   exact ⟨fun z=>absurd (z i (Nat.le_refl _) (by omega)) hk,fun _=>rfl⟩
theorem lvals_ok {n:Nat} {p:Pt} (h:Pw n p):m__law_vals [p.d] = some (.lst p.vals):=Gw.vals_ok p h.f
theorem go_ok {ps qs:List Pt} (hp:Web ps) (hq:Web qs) {p:Nat × Nat} (h1:p.1 < ps.length) (h2:p.2 < qs.length) :
  (Pn.hd (pa ps p.1) = Pn.hd (pa qs p.2) ∧ (∀ q ∈ (pa ps p.1).vals.zip (pa qs p.2).vals,nl q) → m__law_go_on [wd ps,wd qs,pN p] = some (.lst ((gl ((pa ps p.1).vals.zip (pa qs p.2).vals)).map pN))) ∧
  (¬ (Pn.hd (pa ps p.1) = Pn.hd (pa qs p.2) ∧ (∀ q ∈ (pa ps p.1).vals.zip (pa qs p.2).vals,nl q)) → m__law_go_on [wd ps,wd qs,pN p] = some .non):=by
 obtain ⟨a1,a2⟩:=pa_at hp h1
 obtain ⟨b1,b2⟩:=pa_at hq h2
 generalize pa ps p.1 = P at a1 a2 ⊢
 generalize pa qs p.2 = R at b1 b2 ⊢
 have g1:∀ δ:Ds,o2 (gv 0) (o2 (gv 2) (gc (.int 0)) ixD) ixD (.sh (wd ps) :: .sh (wd qs) :: .sh (pN p) :: δ) = some P.d:=fun δ=>by
  rw [o2_of (x:=wd ps) (y:=.int (p.1:Int)) rfl rfl]; exact a1
 have g2:∀ δ:Ds,o2 (gv 1) (o2 (gv 2) (gc (.int 1)) ixD) ixD (.sh (wd ps) :: .sh (wd qs) :: .sh (pN p) :: δ) = some R.d:=fun δ=>by
  rw [o2_of (x:=wd qs) (y:=.int (p.2:Int)) rfl rfl]; exact b1
 obtain ⟨t1,t2⟩:=tell_ob (g:=o2 (oA (consA (o2 (gv 0) (o2 (gv 2) (gc (.int 0)) ixD) ixD) nilA) m__law_head) (oA (consA (o2 (gv 1) (o2 (gv 2) (gc (.int 1)) ixD) ixD) nilA) m__law_head) neDD) (δ:=[.sh (wd ps),.sh (wd qs),.sh (pN p),.ow (.lst []),.sh (.lst P.vals),.sh (.lst R.vals),.un]) (p:=Pn.hd P ≠ Pn.hd R) (by
  rw [o2_of (x:=Pn.hd P) (y:=Pn.hd R) (by rw [oA_of (ds:=[P.d]) (cons_of (g1 _) rfl)]; exact lhead_ok a2) (by rw [oA_of (ds:=[R.d]) (cons_of (g2 _) rfl)]; exact lhead_ok b2)]
  exact ⟨fun e=>Pn.ne_t (Pn.pl_hd P) (Pn.pl_hd R) e,fun e=>by rw [Classical.not_not.mp e]; exact Pn.ne_f (Pn.pl_hd R).le⟩)
 have s4:∀ s:Sl,setD (gN 4) (oA (consA (o2 (gv 0) (o2 (gv 2) (gc (.int 0)) ixD) ixD) nilA) m__law_vals) [.sh (wd ps),.sh (wd qs),.sh (pN p),.ow (.lst []),s,.un,.un] = some (.nx [.sh (wd ps),.sh (wd qs),.sh (pN p),.ow (.lst []),.sh (.lst P.vals),.un,.un]):=fun s=>set_of (by
  rw [oA_of (ds:=[P.d]) (cons_of (g1 _) rfl)]; exact lvals_ok a2)
 have s5:∀ s:Sl,setD (gN 5) (oA (consA (o2 (gv 1) (o2 (gv 2) (gc (.int 1)) ixD) ixD) nilA) m__law_vals) [.sh (wd ps),.sh (wd qs),.sh (pN p),.ow (.lst []),.sh (.lst P.vals),s,.un] = some (.nx [.sh (wd ps),.sh (wd qs),.sh (pN p),.ow (.lst []),.sh (.lst P.vals),.sh (.lst R.vals),.un]):=fun s=>set_of (by
  rw [oA_of (ds:=[R.d]) (cons_of (g2 _) rfl)]; exact lvals_ok b2)
 by_cases hh:Pn.hd P = Pn.hd R
 ·have hl:=vals_len hh
  have h12:=a2.few
  obtain ⟨f1,f2⟩:=for_rng (G:=GB) (j:=6) P.vals.length (fun i s=>[.sh (wd ps),.sh (wd qs),.sh (pN p),.ow (.lst ((gl ((P.vals.zip R.vals).take i)).map pN)),.sh (.lst P.vals),.sh (.lst R.vals),s]) (fun _ _ _=>rfl)
   (fun i=>∀ (h:i < P.vals.length) (h':i < R.vals.length),nl (P.vals[i],R.vals[i])) .non (fun i hi=>by
    obtain ⟨u1,u2⟩:=gb_ok a2.lv b2.lv hl h12 (.sh (wd ps)) (.sh (wd qs)) (.sh (pN p)) i hi
    exact ⟨fun z=>u1 (z hi (by omega)),fun z=>u2 fun q=>z fun _ _=>q⟩) P.vals.length 0 .un (Nat.zero_add _)
  rw [← rng_nd] at f1 f2
  have e0:gl ((P.vals.zip R.vals).take 0) = []:=rfl
  have en:(P.vals.zip R.vals).take P.vals.length = P.vals.zip R.vals:=List.take_of_length_le (by rw [List.length_zip]; omega)
  simp only [e0,en,List.map_nil] at f1 f2
  have hr:rng1I (consA (oA (consA (gv 4) nilA) lenD) nilA) [.sh (wd ps),.sh (wd qs),.sh (pN p),.ow (.lst []),.sh (.lst P.vals),.sh (.lst R.vals),.un] = some (rngD 0 (P.vals.length:Int)):=rng1_of (cons_of (len_of rfl) rfl) (by omega) (by omega)
  have conv:(∀ q ∈ P.vals.zip R.vals,nl q) ↔ ∀ k,0 ≤ k → k < P.vals.length → ∀ (h:k < P.vals.length) (h':k < R.vals.length),nl (P.vals[k],R.vals[k]):=by
   constructor
   ·intro z k _ _ h h'
    refine z _ ?_
    have:k < (P.vals.zip R.vals).length:=by rw [List.length_zip]; omega
    have e:=List.getElem_mem this
    rwa [List.getElem_zip] at e
   ·intro z q hq'
    obtain ⟨k,hk,e⟩:=List.mem_iff_getElem.mp hq'
    rw [List.length_zip] at hk
    rw [List.getElem_zip] at e
    rw [← e]
    exact z k (Nat.zero_le _) (by omega) (by omega) (by omega)
  refine ⟨fun z=>?_,fun z=>?_⟩
  ·obtain ⟨s',hs⟩:=f1 (conv.mp z.2)
   refine mkF_rt rfl (seq_to (δ':=[.sh (wd ps),.sh (wd qs),.sh (pN p),.ow (.lst []),.un,.un,.un]) rfl (seq_to (s4 _) (seq_to (s5 _) (seq_to (δ':=[.sh (wd ps),.sh (wd qs),.sh (pN p),.ow (.lst []),.sh (.lst P.vals),.sh (.lst R.vals),.un]) (by rw [if_f (t2 fun q=>q hh)]; rfl) (seq_to (for_of hr hs) (seq_rt rfl))))))
  ·refine mkF_rt rfl (seq_to (δ':=[.sh (wd ps),.sh (wd qs),.sh (pN p),.ow (.lst []),.un,.un,.un]) rfl (seq_to (s4 _) (seq_to (s5 _) (seq_to (δ':=[.sh (wd ps),.sh (wd qs),.sh (pN p),.ow (.lst []),.sh (.lst P.vals),.sh (.lst R.vals),.un]) (by rw [if_f (t2 fun q=>q hh)]; rfl) (seq_rt (for_of hr (f2 fun q=>z ⟨hh,conv.mpr q⟩)))))))
 ·refine ⟨fun z=>absurd z.1 hh,fun _=>?_⟩
  refine mkF_rt rfl (seq_to (δ':=[.sh (wd ps),.sh (wd qs),.sh (pN p),.ow (.lst []),.un,.un,.un]) rfl (seq_to (s4 _) (seq_to (s5 _) (seq_rt ?_))))
  rw [if_t (t1 hh)]
  rfl
theorem up_iff {n m:Nat} {P R:Pt} (hP:Pw n P) (hR:Pw m R) (L:List (Nat × Nat)):(∀ q ∈ P.vals.zip R.vals,okv L q.1 q.2) ↔ (∀ q ∈ P.vals.zip R.vals,nl q) ∧ ∀ x ∈ gl (P.vals.zip R.vals),x ∈ L:=by
 have lv:∀ q ∈ P.vals.zip R.vals,Lv n q.1 ∧ Lv m q.2:=fun q hq=>⟨hP.lv _ (List.of_mem_zip hq).1,hR.lv _ (List.of_mem_zip hq).2⟩
 have one:∀ v w,Lv n v → Lv m w → (isTup v = true ∧ isTup w = true → ∃ x,gl1 (v,w) = some x ∧ (okv L v w ↔ x ∈ L)):=fun v w hv hw hb=>by
  rcases hv with rfl | ⟨z,rfl⟩ | ⟨i,rfl,_⟩
  ·exact absurd hb.1 (by simp)
  ·exact absurd hb.1 (by simp)
  ·rcases hw with rfl | ⟨z,rfl⟩ | ⟨j,rfl,_⟩
   ·exact absurd hb.2 (by simp)
   ·exact absurd hb.2 (by simp)
   ·refine ⟨(i,j),?_,?_⟩
    ·unfold gl1; simp only [Int.toNat_natCast]
    ·unfold okv; simp only [Int.toNat_natCast]
 have non1:∀ v w,gl1 (v,w) ≠ none → isTup v = true ∧ isTup w = true:=fun v w h=>by
  unfold gl1 at h
  split at h
  ·rename_i e
   injection e with e1 e2
   subst e1; subst e2
   exact ⟨rfl,rfl⟩
  ·exact absurd rfl h
 constructor
 ·intro z
  refine ⟨fun q hq=>?_,fun x hx=>?_⟩
  ·by_cases hb:isTup q.1 = true ∧ isTup q.2 = true
   ·exact .inl hb
   ·exact .inr ((okv_eq (lv q hq).1 (lv q hq).2 hb).mp (z q hq))
  ·obtain ⟨q,hq,e⟩:=List.mem_filterMap.mp hx
   have hb:=non1 q.1 q.2 (by rw [show (q.1,q.2) = q from rfl,e]; exact fun z=>nomatch z)
   obtain ⟨y,e2,e3⟩:=one q.1 q.2 (lv q hq).1 (lv q hq).2 hb
   rw [show (q.1,q.2) = q from rfl,e] at e2
   cases e2
   exact e3.mp (z q hq)
 ·rintro ⟨z1,z2⟩ q hq
  by_cases hb:isTup q.1 = true ∧ isTup q.2 = true
  ·obtain ⟨y,e2,e3⟩:=one q.1 q.2 (lv q hq).1 (lv q hq).2 hb
   exact e3.mpr (z2 y (List.mem_filterMap.mpr ⟨q,hq,e2⟩))
  ·exact (okv_eq (lv q hq).1 (lv q hq).2 hb).mpr ((z1 q hq).resolve_left hb)
noncomputable def tr (A:List (Nat × Nat)):List D:=A.map fun _=>.bl true
noncomputable def dT (A:List (Nat × Nat)):D:=.dct (.inr (A.map k2)) (tr A)
noncomputable def dF (A:List (Nat × Nat)):D:=.dct (.inl (Km.kb (A.map (·.1)))) (tr A)
noncomputable def dS (A:List (Nat × Nat)):D:=.dct (.inl (Km.kb (A.map (·.2)))) (tr A)
noncomputable def s1 (X Y Z:D) (A:List (Nat × Nat)) (a b:Sl):Ds:=[.sh X,.sh Y,.sh Z,.ow (dT A),.ow (dF A),.ow (dS A),a,b,.un,.un]
noncomputable def D1:GS:=(seqD (ifD (tOrG (borB (ob (o2 (gv 6) (gv 4) (inDctD false)))) (borB (ob (o2 (gv 7) (gv 5) (inDctD false)))))
 (seqD (retD (gc (.bl false)))
 nilD)
 nilD)
 (seqD (asgX (pureX (gc (.bl true))) (putAtT 3 (tupG (consA (gv 6) (consA (gv 7) nilA)))))
 (seqD (asgX (pureX (gc (.bl true))) (putAt 4 (gv 6)))
 (seqD (asgX (pureX (gc (.bl true))) (putAt 5 (gv 7)))
 nilD))))
theorem in_key (ks:List Nat) (vs:List D) (k:Nat):inDctD false (.int (k:Int)) (.dct (.inl (Km.kb ks)) vs) = some (.bl (decide (k ∈ ks))):=by
 show some (D.bl (xor false (hasK (Km.kb ks) (.inl (k:Int))))) = _
 rw [Bool.false_xor]
 by_cases h:k ∈ ks
 ·rw [(Km.has_iff _ _).mpr ((Km.kb_mem ks k).mpr h),decide_eq_true h]
 ·rw [Km.has_f (fun z=>h ((Km.kb_mem ks k).mp z)),decide_eq_false h]
theorem put_k {ks:List Nat} {A:List (Nat × Nat)} {k:Nat} {p:Nat × Nat} (h:k ∉ ks):putKs (Km.kb ks) (.inl (k:Int)) = Km.kb (ks ++ [k]) ∧ putDs (Km.kb ks) (tr A) (.inl (k:Int)) (.bl true) = tr (A ++ [p]):=by
 unfold putKs putDs
 rw [Km.has_f (fun z=>h ((Km.kb_mem ks k).mp z)),if_neg (by simp),if_neg (by simp)]
 constructor
 ·unfold Km.kb; rw [List.map_append]; rfl
 ·unfold tr; rw [List.map_append]; rfl
theorem put_t {A:List (Nat × Nat)} {p:Nat × Nat} (h:p ∉ A):putKs (A.map k2) (k2 p) = (A ++ [p]).map k2 ∧ putDs (A.map k2) (tr A) (k2 p) (.bl true) = tr (A ++ [p]):=by
 have hf:hasK (A.map k2) (k2 p) = false:=by
  cases e:hasK (A.map k2) (k2 p) with
  | false=>rfl
  | true =>
   obtain ⟨q,hq,e2⟩:=List.mem_map.mp ((has2 _ _).mp e)
   exact absurd (k2_inj e2 ▸ hq) h
 unfold putKs putDs
 rw [hf,if_neg (by simp),if_neg (by simp)]
 constructor
 ·rw [List.map_append]; rfl
 ·unfold tr; rw [List.map_append]; rfl
theorem d1_ok (X Y Z:D) (A:List (Nat × Nat)) (p:Nat × Nat) (hA:A.length ≤ 1000) :
  (p.1 ∉ A.map (·.1) ∧ p.2 ∉ A.map (·.2) → D1 (s1 X Y Z A (.sh (.int (p.1:Int))) (.sh (.int (p.2:Int)))) = some (.nx (s1 X Y Z (A ++ [p]) (.sh (.int (p.1:Int))) (.sh (.int (p.2:Int)))))) ∧
  (¬ (p.1 ∉ A.map (·.1) ∧ p.2 ∉ A.map (·.2)) → D1 (s1 X Y Z A (.sh (.int (p.1:Int))) (.sh (.int (p.2:Int)))) = some (.rt (.bl false))):=by
 have zs:(9000:Nat) ≤ sizeLine:=by decide
 have ht:tOrG (borB (ob (o2 (gv 6) (gv 4) (inDctD false)))) (borB (ob (o2 (gv 7) (gv 5) (inDctD false)))) (s1 X Y Z A (.sh (.int (p.1:Int))) (.sh (.int (p.2:Int)))) = some (decide (p.1 ∈ A.map (·.1)) || decide (p.2 ∈ A.map (·.2))):=by
  have e1:borB (ob (o2 (gv 6) (gv 4) (inDctD false))) (s1 X Y Z A (.sh (.int (p.1:Int))) (.sh (.int (p.2:Int)))) = some (decide (p.1 ∈ A.map (·.1))):=by
   show ob (o2 (gv 6) (gv 4) (inDctD false)) [.sh X,.sh Y,.sh Z,.sh (dT A),.sh (dF A),.sh (dS A),.sh (.int (p.1:Int)),.sh (.int (p.2:Int)),.un,.un] = _
   exact Bw.b_of (by rw [o2_of (x:=.int (p.1:Int)) (y:=dF A) rfl rfl]; exact in_key _ _ _)
  have e2:borB (ob (o2 (gv 7) (gv 5) (inDctD false))) (s1 X Y Z A (.sh (.int (p.1:Int))) (.sh (.int (p.2:Int)))) = some (decide (p.2 ∈ A.map (·.2))):=by
   show ob (o2 (gv 7) (gv 5) (inDctD false)) [.sh X,.sh Y,.sh Z,.sh (dT A),.sh (dF A),.sh (dS A),.sh (.int (p.1:Int)),.sh (.int (p.2:Int)),.un,.un] = _
   exact Bw.b_of (by rw [o2_of (x:=.int (p.2:Int)) (y:=dS A) rfl rfl]; exact in_key _ _ _)
  unfold tOrG
  rw [e1,e2]
  by_cases h:p.1 ∈ A.map (·.1)
  ·rw [decide_eq_true h]; rfl
  ·rw [decide_eq_false h]; rfl
 refine ⟨fun ⟨h1,h2⟩=>?_,fun h=>?_⟩
 ·rw [decide_eq_false h1,decide_eq_false h2] at ht
  have hp:p ∉ A:=fun z=>h1 (List.mem_map.mpr ⟨p,z,rfl⟩)
  refine seq_to (δ':=s1 X Y Z A (.sh (.int (p.1:Int))) (.sh (.int (p.2:Int)))) (by rw [if_f ht]; rfl) ?_
  refine seq_to (δ':=[.sh X,.sh Y,.sh Z,.ow (dT (A ++ [p])),.ow (dF A),.ow (dS A),.sh (.int (p.1:Int)),.sh (.int (p.2:Int)),.un,.un]) ?_ (seq_to (δ':=[.sh X,.sh Y,.sh Z,.ow (dT (A ++ [p])),.ow (dF (A ++ [p])),.ow (dS A),.sh (.int (p.1:Int)),.sh (.int (p.2:Int)),.un,.un]) ?_ (seq_to (δ':=s1 X Y Z (A ++ [p]) (.sh (.int (p.1:Int))) (.sh (.int (p.2:Int)))) ?_ rfl))
  ·have e:tupG (consA (gv 6) (consA (gv 7) nilA)) (s1 X Y Z A (.sh (.int (p.1:Int))) (.sh (.int (p.2:Int)))) = some (pN p):=tup_of (cons_of rfl (cons_of rfl rfl)) (by show 2 ≤ sizeLine; omega)
   show Option.map Res.nx (putAtT 3 (tupG (consA (gv 6) (consA (gv 7) nilA))) (.bl true) (s1 X Y Z A (.sh (.int (p.1:Int))) (.sh (.int (p.2:Int))))) = _
   unfold putAtT
   rw [e]
   show Option.map Res.nx (if (A.map k2).length < sizeLine then some ([.sh X,.sh Y,.sh Z,.ow (.dct (.inr (putKs (A.map k2) (k2 p))) (putDs (A.map k2) (tr A) (k2 p) (.bl true))),.ow (dF A),.ow (dS A),.sh (.int (p.1:Int)),.sh (.int (p.2:Int)),.un,.un]:Ds) else none) = _
   rw [if_pos (by rw [List.length_map]; omega),(put_t hp).1,(put_t hp).2]
   rfl
  ·have q:=put_k (ks:=A.map (·.1)) (A:=A) (p:=p) h1
   show Option.map Res.nx (if (Km.kb (A.map (·.1))).length < sizeLine then some ([.sh X,.sh Y,.sh Z,.ow (dT (A ++ [p])),.ow (.dct (.inl (putKs (Km.kb (A.map (·.1))) (.inl (p.1:Int)))) (putDs (Km.kb (A.map (·.1))) (tr A) (.inl (p.1:Int)) (.bl true))),.ow (dS A),.sh (.int (p.1:Int)),.sh (.int (p.2:Int)),.un,.un]:Ds) else none) = _
   rw [if_pos (by rw [Km.kb_len,List.length_map]; omega),q.1,q.2]
   unfold dF
   rw [List.map_append]
   rfl
  ·have q:=put_k (ks:=A.map (·.2)) (A:=A) (p:=p) h2
   show Option.map Res.nx (if (Km.kb (A.map (·.2))).length < sizeLine then some ([.sh X,.sh Y,.sh Z,.ow (dT (A ++ [p])),.ow (dF (A ++ [p])),.ow (.dct (.inl (putKs (Km.kb (A.map (·.2))) (.inl (p.2:Int)))) (putDs (Km.kb (A.map (·.2))) (tr A) (.inl (p.2:Int)) (.bl true))),.sh (.int (p.1:Int)),.sh (.int (p.2:Int)),.un,.un]:Ds) else none) = _
   rw [if_pos (by rw [Km.kb_len,List.length_map]; omega),q.1,q.2]
   unfold s1 dS
   rw [List.map_append]
   rfl
 ·have hb:(decide (p.1 ∈ A.map (·.1)) || decide (p.2 ∈ A.map (·.2))) = true:=by
   rw [Bool.or_eq_true,decide_eq_true_eq,decide_eq_true_eq]
   by_cases z1:p.1 ∈ A.map (·.1)
   ·exact .inl z1
   ·by_cases z2:p.2 ∈ A.map (·.2)
    ·exact .inr z2
    ·exact absurd ⟨z1,z2⟩ h
  rw [hb] at ht
  refine seq_rt ?_
  rw [if_t ht]
  rfl
theorem nd_snoc {α:Type} {l:List α} {a:α}:(l ++ [a]).Nodup ↔ l.Nodup ∧ a ∉ l:=by
 rw [List.nodup_append]
 constructor
 ·rintro ⟨h1,_,h3⟩
  exact ⟨h1,fun z=>h3 a z a (List.mem_singleton.mpr rfl) rfl⟩
 ·rintro ⟨h1,h2⟩
  exact ⟨h1,by simp,fun x hx y hy e=>by rw [List.mem_singleton.mp hy] at e; exact h2 (e ▸ hx)⟩
theorem loop1 (X Y Z:D):∀ (L A:List (Nat × Nat)) (a b:Sl),A.length + L.length ≤ 1000 → (A.map (·.1)).Nodup → (A.map (·.2)).Nodup →
  (((A ++ L).map (·.1)).Nodup ∧ ((A ++ L).map (·.2)).Nodup → ∃ a' b',forD (tup2 6 7) D1 (L.map pN) (s1 X Y Z A a b) = some (.nx (s1 X Y Z (A ++ L) a' b'))) ∧
  (¬ (((A ++ L).map (·.1)).Nodup ∧ ((A ++ L).map (·.2)).Nodup) → forD (tup2 6 7) D1 (L.map pN) (s1 X Y Z A a b) = some (.rt (.bl false)))
 | [],A,a,b,_,h1,h2=>by
  rw [List.append_nil]
  exact ⟨fun _=>⟨a,b,rfl⟩,fun z=>absurd ⟨h1,h2⟩ z⟩
 | p :: L,A,a,b,hl,h1,h2=>by
  rw [List.length_cons] at hl
  obtain ⟨g1,g2⟩:=d1_ok X Y Z A p (by omega)
  rw [List.map_cons]
  have un:forD (tup2 6 7) D1 (pN p :: L.map pN) (s1 X Y Z A a b) = (match D1 (s1 X Y Z A (.sh (.int (p.1:Int))) (.sh (.int (p.2:Int)))) with | some (.nx δ')=>forD (tup2 6 7) D1 (L.map pN) δ' | some (.ct δ')=>forD (tup2 6 7) D1 (L.map pN) δ' | some (.bk δ')=>some (.nx δ') | r=>r):=by
   conv=>lhs; unfold forD
   rfl
  rw [un]
  by_cases hk:p.1 ∉ A.map (·.1) ∧ p.2 ∉ A.map (·.2)
  ·rw [g1 hk]
   have:=loop1 X Y Z L (A ++ [p]) (.sh (.int (p.1:Int))) (.sh (.int (p.2:Int))) (by rw [List.length_append,List.length_singleton]; omega) (by rw [List.map_append]; exact nd_snoc.mpr ⟨h1,hk.1⟩) (by rw [List.map_append]; exact nd_snoc.mpr ⟨h2,hk.2⟩)
   rw [List.append_assoc] at this
   exact this
  ·rw [g2 hk]
   refine ⟨fun z=>?_,fun _=>rfl⟩
   exfalso
   apply hk
   rw [List.map_append,List.map_append,List.map_cons,List.map_cons] at z
   obtain ⟨z1,z2⟩:=z
   rw [List.nodup_append] at z1 z2
   exact ⟨fun q=>z1.2.2 _ q _ List.mem_cons_self rfl,fun q=>z2.2.2 _ q _ List.mem_cons_self rfl⟩
theorem dc_T (A:List (Nat × Nat)):Dc A (dT A):=⟨_,_,rfl,fun x=>by
 rw [List.mem_map]
 exact ⟨fun ⟨p,hp,e⟩=>⟨p,hp,e.symm⟩,fun ⟨p,hp,e⟩=>⟨p,hp,e.symm⟩⟩⟩
noncomputable def D2:GS:=(seqD (setD (gN 9) (oA (consA (gv 0) (consA (gv 1) (consA (gv 8) nilA))) m__law_go_on))
 (seqD (ifD (tOrG (ob (o2 (gv 9) (gc .non) isND)) (ob (o2 (oA (consA (compG 1 [3] (lstI (gv 9)) (gN 0) (ob (o2 (gv 0) (gv 1) (inDctD true))) (gv 0)) nilA) lenD) (gc (.int 0)) gtD)))
 (seqD (retD (gc (.bl false)))
 nilD)
 nilD)
 nilD))
theorem flt_comp {L:List (Nat × Nat)} {d:D} (hd:Dc L d):∀ M:List (Nat × Nat),compD (gN 0) (ob (o2 (gv 0) (gv 1) (inDctD true))) (gv 0) [.un,.sh d] (M.map pN) = some ((M.filter fun p=>decide (p ∉ L)).map pN)
 | []=>rfl
 | p :: M=>by
  have ih:=flt_comp hd M
  rw [List.map_cons]
  unfold compD
  show (match ob (o2 (gv 0) (gv 1) (inDctD true)) [.sh (pN p),.sh d] with | none=>none | some false=>compD (gN 0) (ob (o2 (gv 0) (gv 1) (inDctD true))) (gv 0) [.un,.sh d] (M.map pN) | some true=>(compD (gN 0) (ob (o2 (gv 0) (gv 1) (inDctD true))) (gv 0) [.un,.sh d] (M.map pN)).map fun r=>pN p :: r) = _
  rw [Bw.b_of (g:=o2 (gv 0) (gv 1) (inDctD true)) (by rw [o2_of (x:=pN p) (y:=d) rfl rfl]; exact dc_in hd p),ih]
  by_cases h:p ∈ L
  ·rw [decide_eq_false (fun z=>z h),List.filter_cons_of_neg (by simpa using h)]
  ·rw [decide_eq_true h,List.filter_cons_of_pos (by simpa using h)]
   rfl
theorem d2_ok {ps qs:List Pt} (hp:Web ps) (hq:Web qs) {L:List (Nat × Nat)} {d:D} (hd:Dc L d) {p:Nat × Nat} (h1:p.1 < ps.length) (h2:p.2 < qs.length) (Z b4 b5 b6 b7 b9:Sl) :
  (up ps qs L p → ∃ s9,D2 [.sh (wd ps),.sh (wd qs),Z,.sh d,b4,b5,b6,b7,.sh (pN p),b9] = some (.nx [.sh (wd ps),.sh (wd qs),Z,.sh d,b4,b5,b6,b7,.sh (pN p),s9])) ∧
  (¬ up ps qs L p → D2 [.sh (wd ps),.sh (wd qs),Z,.sh d,b4,b5,b6,b7,.sh (pN p),b9] = some (.rt (.bl false))):=by
 have zs:(1000:Nat) ≤ sizeLine:=by decide
 obtain ⟨g1,g2⟩:=go_ok hp hq h1 h2
 have hiff:=up_iff (pa_at hp h1).2 (pa_at hq h2).2 L
 have h12:=(pa_at hp h1).2.few
 have s9:∀ x:D,m__law_go_on [wd ps,wd qs,pN p] = some x → setD (gN 9) (oA (consA (gv 0) (consA (gv 1) (consA (gv 8) nilA))) m__law_go_on) [.sh (wd ps),.sh (wd qs),Z,.sh d,b4,b5,b6,b7,.sh (pN p),b9] = some (.nx [.sh (wd ps),.sh (wd qs),Z,.sh d,b4,b5,b6,b7,.sh (pN p),.sh x]):=fun x hx=>set_of (by
  rw [oA_of (ds:=[wd ps,wd qs,pN p]) rfl]; exact hx)
 unfold up
 by_cases hg:Pn.hd (pa ps p.1) = Pn.hd (pa qs p.2) ∧ (∀ q ∈ (pa ps p.1).vals.zip (pa qs p.2).vals,nl q)
 ·have e:=g1 hg
  have hlen:(gl ((pa ps p.1).vals.zip (pa qs p.2).vals)).length ≤ 12:=Nat.le_trans (gl_len _) (by rw [List.length_zip]; omega)
  rw [hiff]
  generalize gl ((pa ps p.1).vals.zip (pa qs p.2).vals) = M at e hlen ⊢
  have ht:tOrG (ob (o2 (gv 9) (gc .non) isND)) (ob (o2 (oA (consA (compG 1 [3] (lstI (gv 9)) (gN 0) (ob (o2 (gv 0) (gv 1) (inDctD true))) (gv 0)) nilA) lenD) (gc (.int 0)) gtD)) [.sh (wd ps),.sh (wd qs),Z,.sh d,b4,b5,b6,b7,.sh (pN p),.sh (.lst (M.map pN))] = some (decide (0 < (M.filter fun p=>decide (p ∉ L)).length)):=by
   unfold tOrG
   rw [show ob (o2 (gv 9) (gc .non) isND) [.sh (wd ps),.sh (wd qs),Z,.sh d,b4,b5,b6,b7,.sh (pN p),.sh (.lst (M.map pN))] = some false from rfl,Option.bind_some,if_neg (by simp)]
   refine Bw.b_of ?_
   rw [o2_of (x:=.int ((M.filter fun p=>decide (p ∉ L)).length:Int)) (y:=.int 0) (by rw [len_of (comp_of (items:=M.map pN) rfl (by rw [List.length_map]; omega) (flt_comp hd M)),List.length_map]) rfl]
   show some (D.bl (decide ((0:Int) < ((M.filter fun p=>decide (p ∉ L)).length:Int)))) = _
   congr 2
   rw [decide_eq_decide]
   omega
  have hz:(∀ x ∈ M,x ∈ L) ↔ ¬ 0 < (M.filter fun p=>decide (p ∉ L)).length:=by
   rw [Nat.not_lt,Nat.le_zero,List.length_eq_zero_iff,List.filter_eq_nil_iff]
   simp
  refine ⟨fun z=>⟨.sh (.lst (M.map pN)),?_⟩,fun z=>?_⟩
  ·rw [decide_eq_false (hz.mp z.2.2)] at ht
   refine seq_to (s9 _ e) (seq_to (δ':=[.sh (wd ps),.sh (wd qs),Z,.sh d,b4,b5,b6,b7,.sh (pN p),.sh (.lst (M.map pN))]) ?_ rfl)
   rw [if_f ht]; rfl
  ·have:0 < (M.filter fun p=>decide (p ∉ L)).length:=by
    by_cases q:0 < (M.filter fun p=>decide (p ∉ L)).length
    ·exact q
    ·exact absurd ⟨hg.1,hg.2,hz.mpr q⟩ z
   rw [decide_eq_true this] at ht
   refine seq_to (s9 _ e) (seq_rt ?_)
   rw [if_t ht]; rfl
 ·have e:=g2 hg
  refine ⟨fun z=>absurd ⟨z.1,(hiff.mp z.2).1⟩ hg,fun _=>?_⟩
  refine seq_to (s9 _ e) (seq_rt ?_)
  rw [if_t (by rfl)]; rfl
theorem due_ok {ps qs:List Pt} (hp:Web ps) (hq:Web qs) {L:List (Nat × Nat)} (h:GL ps.length qs.length L):Tell (prg ps qs L) (m__law_due [wd ps,wd qs,.lst (L.map pN)]):=by
 have zs:(1000:Nat) ≤ sizeLine:=by decide
 have hl:=h.len
 obtain ⟨l1,l2⟩:=loop1 (wd ps) (wd qs) (.lst (L.map pN)) L [] .un .un (by simp only [List.length_nil]; omega) List.nodup_nil List.nodup_nil
 rw [List.nil_append] at l1 l2
 have st0:∀ rest:GS,seqD (ownD 3 (gc (.dct (.inr []) []))) (seqD (ownD 4 (gc (.dct (.inl []) []))) (seqD (ownD 5 (gc (.dct (.inl []) []))) rest)) (dStart N__law_due [wd ps,wd qs,.lst (L.map pN)]) = rest (s1 (wd ps) (wd qs) (.lst (L.map pN)) [] .un .un):=fun rest=>rfl
 by_cases hn:(L.map (·.1)).Nodup ∧ (L.map (·.2)).Nodup
 ·obtain ⟨a,b,e1⟩:=l1 hn
  have t0:∀ a b:Sl,borB (ob (o2 (tupG (consA (gc (.int 0)) (consA (gc (.int 0)) nilA))) (gv 3) (inDctD true))) (s1 (wd ps) (wd qs) (.lst (L.map pN)) L a b) = some (decide ((0,0) ∉ L)):=fun a b=>by
   show ob (o2 (tupG (consA (gc (.int 0)) (consA (gc (.int 0)) nilA))) (gv 3) (inDctD true)) [.sh (wd ps),.sh (wd qs),.sh (.lst (L.map pN)),.sh (dT L),.sh (dF L),.sh (dS L),frz1 a,frz1 b,.un,.un] = _
   refine Bw.b_of ?_
   rw [o2_of (x:=pN (0,0)) (y:=dT L) (tup_of (cons_of rfl (cons_of rfl rfl)) (by show 2 ≤ sizeLine; omega)) rfl]
   exact dc_in (dc_T L) (0,0)
  by_cases hr:(0,0) ∈ L
  ·obtain ⟨c1,c2⟩:=for_chk2 (f:=gN 8) (G:=D2) (fun δ=>∃ s8 s9:Sl,δ = [.sh (wd ps),.sh (wd qs),.sh (.lst (L.map pN)),.sh (dT L),.ow (dF L),.ow (dS L),a,b,s8,s9]) (fun x=>∃ p ∈ L,x = pN p ∧ up ps qs L p) (.bl false) (L.map pN) (fun x hx δ hδ=>by
    obtain ⟨s8,s9,rfl⟩:=hδ
    obtain ⟨p,hp',rfl⟩:=List.mem_map.mp hx
    obtain ⟨i1,i2⟩:=h.inr p hp'
    obtain ⟨u1,u2⟩:=d2_ok hp hq (dc_T L) i1 i2 (.sh (.lst (L.map pN))) (.ow (dF L)) (.ow (dS L)) a b s9
    refine ⟨_,rfl,fun ⟨q,_,e,o⟩=>?_,fun z=>u2 fun o=>z ⟨p,hp',rfl,o⟩⟩
    have:p = q:=k2_inj (by
     unfold pN at e
     injection e with e
     injection e with e1 e
     injection e with e2 _
     injection e1 with e1
     injection e2 with e2
     unfold k2
     rw [e1,e2])
    obtain ⟨t,ht⟩:=u1 (this ▸ o)
    exact ⟨_,ht,_,t,rfl⟩) [.sh (wd ps),.sh (wd qs),.sh (.lst (L.map pN)),.sh (dT L),.ow (dF L),.ow (dS L),a,b,.un,.un] ⟨.un,.un,rfl⟩
   have t0':=t0 a b
   rw [decide_eq_false (fun z=>z hr)] at t0'
   have nx0:∀ rest:GS,seqD (forG (lstI (gv 2)) (tup2 6 7) D1) (seqD (ifD (borB (ob (o2 (tupG (consA (gc (.int 0)) (consA (gc (.int 0)) nilA))) (gv 3) (inDctD true)))) (seqD (retD (gc (.bl false))) nilD) nilD) rest) (s1 (wd ps) (wd qs) (.lst (L.map pN)) [] .un .un) = rest (s1 (wd ps) (wd qs) (.lst (L.map pN)) L a b):=fun rest =>
    seq_to (for_of (items:=L.map pN) rfl e1) (seq_to (by rw [if_f t0']; rfl) rfl)
   refine ⟨fun z=>?_,fun z=>?_⟩
   ·obtain ⟨δ',f1,s8,s9,rfl⟩:=c1 fun x hx=>by
     obtain ⟨p,hp',rfl⟩:=List.mem_map.mp hx
     exact ⟨p,hp',rfl,z.2.2.2 p hp'⟩
    refine mkF_rt rfl ((st0 _).trans ((nx0 _).trans (seq_to (δ':=[.sh (wd ps),.sh (wd qs),.sh (.lst (L.map pN)),.sh (dT L),.ow (dF L),.ow (dS L),a,b,s8,s9]) ?_ (seq_rt rfl))))
    exact for_of (δ:=[.sh (wd ps),.sh (wd qs),.sh (.lst (L.map pN)),.sh (dT L),.ow (dF L),.ow (dS L),a,b,.un,.un]) (items:=L.map pN) rfl f1
   ·have f2:=c2 fun q=>z ⟨hr,hn.1,hn.2,fun p hp'=>by
     obtain ⟨p',_,e,o⟩:=q _ (List.mem_map.mpr ⟨p,hp',rfl⟩)
     have:p = p':=k2_inj (by
      unfold pN at e
      injection e with e
      injection e with e1 e
      injection e with e2 _
      injection e1 with e1
      injection e2 with e2
      unfold k2
      rw [e1,e2])
     exact this ▸ o⟩
    refine mkF_rt rfl ((st0 _).trans ((nx0 _).trans (seq_rt ?_)))
    exact for_of (δ:=[.sh (wd ps),.sh (wd qs),.sh (.lst (L.map pN)),.sh (dT L),.ow (dF L),.ow (dS L),a,b,.un,.un]) (items:=L.map pN) rfl f2
  ·refine ⟨fun z=>absurd z.1 hr,fun _=>mkF_rt rfl ((st0 _).trans (seq_to (for_of (items:=L.map pN) rfl e1) (seq_rt ?_)))⟩
   have t0':=t0 a b
   rw [decide_eq_true hr] at t0'
   rw [if_t t0']
   rfl
 ·exact ⟨fun z=>absurd ⟨z.2.1,z.2.2.1⟩ hn,fun _=>mkF_rt rfl ((st0 _).trans (seq_rt (for_of (items:=L.map pN) rfl (l2 hn))))⟩
theorem asked_ok {ps qs:List Pt} (hp:Web ps) (hq:Web qs) {L:List (Nat × Nat)} (h:GL ps.length qs.length L):m__law_asked [wd ps,wd qs,.lst (L.map pN)] = some (.bl true):=by
 have zs:(1000:Nat) ≤ sizeLine:=by decide
 obtain ⟨p1,p2⟩:=pairing_ok hp hq h
 obtain ⟨d1,d2⟩:=due_ok hp hq h
 obtain ⟨b,hb1,hb2⟩:∃ b,m_is_pairing [wd ps,wd qs,.lst (L.map pN)] = some (.bl b) ∧ m__law_due [wd ps,wd qs,.lst (L.map pN)] = some (.bl b):=by
  by_cases z:prg ps qs L
  ·exact ⟨true,p1 z,d1 z⟩
  ·exact ⟨false,p2 z,d2 z⟩
 refine mkF_rt rfl (seq_to (set_of (d:=.lst (L.map pN)) rfl) (seq_to (set_of (d:=.bl b) ?_) (seq_rt (ret_of ?_))))
 ·rw [oA_of (ds:=[wd ps,wd qs,.lst (L.map pN)]) rfl]
  exact hb1
 ·have e1:eqDD (.bl b) (.bl b) = some (.bl true):=Pn.eq_t (by simp [lean])
  have e2:eqDD (.lst (L.map pN)) (.lst (L.map pN)) = some (.bl true):=Pn.eq_t (by show leans (L.map pN) 49 = true; exact leans_L L 48)
  change andG (isiG isBool (gv 4)) (andG (o2 (gv 4) (oA (consA (gv 0) (consA (gv 1) (consA (gv 2) nilA))) m__law_due) eqDD) (o2 (gv 3) (gv 2) eqDD)) [.sh (wd ps),.sh (wd qs),.sh (.lst (L.map pN)),.sh (.lst (L.map pN)),.sh (.bl b)] = _
  unfold andG
  rw [show ob (isiG isBool (gv 4)) [.sh (wd ps),.sh (wd qs),.sh (.lst (L.map pN)),.sh (.lst (L.map pN)),.sh (.bl b)] = some true from rfl,Option.bind_some,if_pos rfl]
  rw [Bw.b_of (b:=true) (by rw [o2_of (x:=.bl b) (y:=.bl b) rfl (by rw [oA_of (ds:=[wd ps,wd qs,.lst (L.map pN)]) rfl]; exact hb2)]; exact e1),Option.bind_some,if_pos rfl,o2_of (x:=.lst (L.map pN)) (y:=.lst (L.map pN)) rfl rfl]
  exact e2
end Ta
set_option maxHeartbeats 0
namespace Ta
open PySem DL W K22
theorem cell_ok (ns:List Int) (k:Int) (h0:0 ≤ k):∃ z,m__law_cell_at [.lst (ns.map .int),.int k] = some (.int z):=Gw.cell_ok ns k h0
theorem pool_ok (c t:Int):∃ nm,m__law_pool [.int c,.int t] = some (.lst (nm.map .str)) ∧ Gw.Pool nm:=Gw.pool_ok c t
theorem mix_ok (c k:Int) (hk:0 ≤ k ∧ k ≤ 1000000):∃ x,0 ≤ x ∧ x < 2147483647 ∧ m__law_mix [.int c,.int k] = some (.int x):=Gw.mix_ok c k hk
theorem web_ok (cs:List Int) (hc:0 < cs.length ∧ cs.length ≤ 1000) (m:Nat) (hm:0 < m ∧ m ≤ 1000) (nm:List Str) (hp:Gw.Pool nm) :
  ∃ ps:List Pt,m__law_web [.lst (cs.map .int),.int (m:Int),.lst (nm.map .str)] = some (.tup (ps.map Pt.d)) ∧ ps.length = m ∧ ∀ p ∈ ps,Gw.Gd p (m:Int) nm:=Gw.web_ok cs hc m hm nm hp
theorem drawn_ok (ns:List Int) (hl:ns.length ≤ 63):∃ ps,m__law_drawn_web [.lst (ns.map .int),.int 30] = some (wd ps) ∧ Web ps ∧ ps.length ≤ 30:=by
 have z:(1000:Nat) ≤ sizeLine:=by decide
 obtain ⟨c0,h0⟩:=cell_ok ns 0 (by decide)
 obtain ⟨c1,h1⟩:=cell_ok ns 1 (by decide)
 obtain ⟨t,ht⟩:=cell_ok ns 2 (by decide)
 obtain ⟨c3,h3⟩:=cell_ok ns 3 (by decide)
 obtain ⟨nm,hnm,pool⟩:=pool_ok c0 c1
 obtain ⟨m,hm,hmm⟩:∃ m:Nat,(0 < m ∧ m ≤ 30) ∧ ∀ s4:Sl,o2 (gc (.int 1)) (o2 (gv 3) (o2 (lstG (consA (gc (.int 12)) (consA (gc (.int 12)) (consA (gv 1) (consA (gc (.int 4)) nilA))))) (o2 (o2 (gv 3) (gc (.int 60)) fdivD) (gc (.int 4)) modD) ixD) modD) addA [.sh (.lst (ns.map .int)),.sh (.int 30),.sh (.lst (nm.map .str)),.sh (.int t),s4] = some (.int (m:Int)):=by
  obtain ⟨q,hq,hqq⟩:∃ q:Int,(0 < q ∧ q ≤ 30) ∧ atI [D.int 12,D.int 12,D.int 30,D.int 4] (t / 60 % 4) = some (.int q):=by
   have h:t / 60 % 4 = 0 ∨ t / 60 % 4 = 1 ∨ t / 60 % 4 = 2 ∨ t / 60 % 4 = 3:=by omega
   rcases h with e | e | e | e <;> rw [e]
   ·exact ⟨12,by decide,rfl⟩
   ·exact ⟨12,by decide,rfl⟩
   ·exact ⟨30,by decide,rfl⟩
   ·exact ⟨4,by decide,rfl⟩
  have b1:0 ≤ t % q:=Int.emod_nonneg _ (by omega)
  have b2:t % q < q:=Int.emod_lt_of_pos _ (by omega)
  refine ⟨(1 + t % q).toNat,by omega,fun s4=>?_⟩
  have e:(((1 + t % q).toNat:Nat):Int) = 1 + t % q:=by omega
  rw [e]
  rw [o2_of (x:=.int 1) (y:=.int (t % q)) rfl (by
   rw [o2_of (x:=.int t) (y:=.int q) rfl (by
    rw [o2_of (x:=.lst [D.int 12,D.int 12,D.int 30,D.int 4]) (y:=.int (t / 60 % 4)) (lst_of rfl (by show (4:Nat) ≤ _; omega)) rfl]
    exact hqq)]
   exact Gw.mod_p _ _ hq.1)]
  rfl
 obtain ⟨cs,hcl,hcs⟩:∃ cs:List Int,(0 < cs.length ∧ cs.length ≤ 1000) ∧ o2 (slAG (gv 0) (someO (gc (.int 9))) (someO (gc (.int 60)))) (lstG (consA (oA (consA (gv 0) (consA (gc (.int 3)) nilA)) m__law_cell_at) nilA)) addA [.sh (.lst (ns.map .int)),.sh (.int 30),.sh (.lst (nm.map .str)),.sh (.int t),.sh (.int (m:Int))] = some (.lst (cs.map .int)):=by
  obtain ⟨us,hu,hue⟩:∃ us:List Int,us.length ≤ 63 ∧ cutD (ns.map D.int) (some 9) (some 60) = us.map .int:=by
   refine ⟨(ns.drop (sIx (ns.map D.int).length 0 (some 9))).take (sIx (ns.map D.int).length (ns.map D.int).length (some 60) - sIx (ns.map D.int).length 0 (some 9)),?_,?_⟩
   ·rw [List.length_take,List.length_drop]; omega
   ·unfold cutD
    rw [List.map_take,List.map_drop]
  refine ⟨us ++ [c3],by simp; omega,?_⟩
  rw [o2_of (x:=.lst (us.map .int)) (y:=.lst [.int c3]) (by rw [← hue]; rfl) (lst_of (cons_of (by rw [oA_of (ds:=[.lst (ns.map .int),.int 3]) rfl]; exact h3) rfl) (by show (1:Nat) ≤ _; omega))]
  simp only [addA]
  rw [if_pos (by rw [List.length_map]; show us.length + 1 ≤ _; omega),List.map_append]
  rfl
 obtain ⟨ps,hps,hpl,hg⟩:=web_ok cs hcl m ⟨hm.1,by omega⟩ nm pool
 refine ⟨ps,mkF_rt rfl (seq_to (set_of (d:=.lst (nm.map .str)) ?_) (seq_to (set_of (d:=.int t) ?_) (seq_to (set_of (hmm _)) (seq_rt (ret_of ?_))))),⟨by rw [hpl]; omega,fun p hp=>by rw [hpl]; exact pw_of (hg p hp)⟩,by rw [hpl]; exact hm.2⟩
 ·rw [oA_of (ds:=[.int c0,.int c1]) (cons_of (by rw [oA_of (ds:=[.lst (ns.map .int),.int 0]) rfl]; exact h0) (cons_of (by rw [oA_of (ds:=[.lst (ns.map .int),.int 1]) rfl]; exact h1) rfl))]
  exact hnm
 ·rw [oA_of (ds:=[.lst (ns.map .int),.int 2]) rfl]
  exact ht
 ·rw [oA_of (ds:=[.lst (cs.map .int),.int (m:Int),.lst (nm.map .str)]) (cons_of (by exact hcs) rfl)]
  exact hps
theorem ixN_in {n:Nat} {j:Nat} (h:j < n):ixN n (j:Int) = some j:=by
 unfold ixN
 rw [if_pos (by omega),if_pos (by omega),Int.toNat_natCast]
theorem at_nd (P:List Nat) {j:Nat} (h:j < P.length):ixD (.lst (nd P)) (.int (j:Int)) = some (.int ((P.getD j 0:Nat):Int)):=by
 show atI (nd P) (j:Int) = _
 rw [atI_in (by omega) (by rw [nd_len]; omega) .non,Int.toNat_natCast]
 unfold nd
 simp [h]
theorem getD_mem {P:List Nat} {j:Nat} (h:j < P.length):P.getD j 0 ∈ P:=by
 rw [show P.getD j 0 = P[j] from by simp [h]]
 exact List.getElem_mem h
theorem er_map {α β:Type} (f:α → β):∀ (l:List α) (i:Nat),(l.map f).eraseIdx i = (l.eraseIdx i).map f
 | [],i=>by simp
 | a :: l,0=>by simp
 | a :: l,i + 1=>by simp [er_map f l i]
noncomputable def LTt:DL.GB:=(ob (o2 (borE (oA (consA (gv 2) nilA) lenD)) (gc (.int 0)) gtD))
noncomputable def LB:GS:=(seqD (exprX (appMX 3 (popAtX 2 (o2 (gv 0) (borE (oA (consA (gv 2) nilA) lenD)) modD))))
 (seqD (setD (gN 0) (o2 (o2 (gv 0) (gc (.int 3)) fdivD) (o2 (gc (.int 12345)) (borE (oA (consA (gv 2) nilA) lenD)) mulA) addA))
 nilD))
noncomputable def ls (c:Int) (m:Sl) (L P:List Nat):Ds:=[.sh (.int c),m,.ow (.lst (nd L)),.ow (.lst (nd P))]
theorem ls_len (c:Int) (m:Sl) (L P:List Nat):borE (oA (consA (gv 2) nilA) lenD) (ls c m L P) = some (.int (L.length:Int)):=by
 show some (D.int ((nd L).length:Int)) = _
 rw [nd_len]
theorem lt_ok (c:Int) (m:Sl) (L P:List Nat):LTt (ls c m L P) = some (decide (0 < L.length)):=by
 unfold LTt ob
 rw [o2_of (x:=.int (L.length:Int)) (y:=.int 0) (ls_len c m L P) rfl]
 show some (decide ((0:Int) < (L.length:Int))) = _
 congr 1
 rw [decide_eq_decide]
 omega
theorem lb_ok (c:Int) (m:Sl) (L P:List Nat) (hL:0 < L.length) (hP:P.length ≤ 1000):∃ c' t,t < L.length ∧ LB (ls c m L P) = some (.nx (ls c' m (L.eraseIdx t) (P ++ [L.getD t 0]))):=by
 have zs:(2000:Nat) ≤ sizeLine:=by decide
 have b1:0 ≤ c % (L.length:Int):=Int.emod_nonneg _ (by omega)
 have b2:c % (L.length:Int) < L.length:=Int.emod_lt_of_pos _ (by omega)
 obtain ⟨t,ht⟩:∃ t:Nat,c % (L.length:Int) = (t:Int):=⟨(c % (L.length:Int)).toNat,by omega⟩
 have htl:t < L.length:=by omega
 have hix:o2 (gv 0) (borE (oA (consA (gv 2) nilA) lenD)) modD (ls c m L P) = some (.int (t:Int)):=by
  rw [o2_of (x:=.int c) (y:=.int (L.length:Int)) rfl (ls_len c m L P),Gw.mod_p _ _ (by omega),ht]
 have gx:(nd L)[t]? = some (.int ((L.getD t 0:Nat):Int)):=by unfold nd; simp [htl]
 have ex:(nd L).eraseIdx t = nd (L.eraseIdx t):=er_map _ _ _
 have hp:popAtX 2 (o2 (gv 0) (borE (oA (consA (gv 2) nilA) lenD)) modD) (ls c m L P) = some (.int ((L.getD t 0:Nat):Int),ls c m (L.eraseIdx t) P):=by
  unfold popAtX
  rw [hix]
  show (if 0 ≤ (t:Int) ∧ (t:Int) < (nd L).length then ((nd L)[(t:Int).toNat]?).map fun d=>(d,([.sh (.int c),m,Sl.ow (.lst ((nd L).eraseIdx (t:Int).toNat)),.ow (.lst (nd P))]:Ds)) else none) = _
  rw [if_pos ⟨by omega,by rw [nd_len]; omega⟩,Int.toNat_natCast,gx,ex]
  rfl
 refine ⟨c / 3 + 12345 * ((L.eraseIdx t).length:Int),t,htl,?_⟩
 refine seq_to (δ':=ls c m (L.eraseIdx t) (P ++ [L.getD t 0])) ?_ (seq_to (set_of (d:=.int (c / 3 + 12345 * ((L.eraseIdx t).length:Int))) ?_) rfl)
 ·unfold exprX appMX
  rw [show owL 3 (ls c m L P) = some (nd P) from rfl,Option.bind_some,hp,Option.bind_some]
  rw [show owL 3 (ls c m (L.eraseIdx t) P) = some (nd P) from rfl,Option.bind_some,if_pos (by rw [nd_len]; omega)]
  show some (Res.nx [.sh (.int c),m,.ow (.lst (nd (L.eraseIdx t))),.ow (.lst (nd P ++ [.int ((L.getD t 0:Nat):Int)]))]) = _
  rw [show nd P ++ [D.int ((L.getD t 0:Nat):Int)] = nd (P ++ [L.getD t 0]) from by rw [nd_app]; rfl]
  rfl
 ·rw [o2_of (x:=.int (c / 3)) (y:=.int (12345 * ((L.eraseIdx t).length:Int))) (by
   rw [o2_of (x:=.int c) (y:=.int 3) rfl rfl]
   exact Gw.fdiv_p _ _ (by decide)) (by
   rw [o2_of (x:=.int 12345) (y:=.int ((L.eraseIdx t).length:Int)) rfl (ls_len _ _ _ _)]
   exact Gw.mul_l _ _ (by decide))]
  rfl
theorem l_while (m:Sl) (n:Nat):∀ (f:Nat) (c:Int) (L P:List Nat),L.length < f → P.length + L.length ≤ 1000 → (∀ x ∈ L,x < n) → (∀ x ∈ P,x < n) → ∃ c' P',whileD LTt LB f (ls c m L P) = some (.nx (ls c' m [] P')) ∧ P'.length = P.length + L.length ∧ ∀ x ∈ P',x < n:=by
 intro f
 induction f with
 | zero=>intro c L P h; omega
 | succ f ih =>
  intro c L P h h1 hL hP
  unfold whileD
  rw [lt_ok]
  by_cases h0:0 < L.length
  ·rw [decide_eq_true h0]
   obtain ⟨c',t,ht,e⟩:=lb_ok c m L P h0 (by omega)
   have hel:(L.eraseIdx t).length = L.length - 1:=by rw [List.length_eraseIdx,if_pos ht]
   obtain ⟨c2,P',e2,e3,e4⟩:=ih c' (L.eraseIdx t) (P ++ [L.getD t 0]) (by omega) (by rw [List.length_append,List.length_singleton]; omega) (fun x hx=>hL x (List.mem_of_mem_eraseIdx hx)) (fun x hx=>by
    rcases List.mem_append.mp hx with hx | hx
    ·exact hP x hx
    ·rw [List.mem_singleton.mp hx]; exact hL _ (getD_mem ht))
   refine ⟨c2,P',?_,by rw [e3,List.length_append,List.length_singleton]; omega,e4⟩
   dsimp only
   rw [e]
   exact e2
  ·rw [decide_eq_false h0]
   have:L = []:=List.length_eq_zero_iff.mp (by omega)
   subst this
   exact ⟨c,P,rfl,rfl,hP⟩
theorem lr_of {i j:Int} (h1:0 ≤ i ∧ i ≤ 1000) (h2:0 ≤ j ∧ j ≤ 1000):lrng2D [.int i,.int j] = some (.lst (rngD i j)):=by
 have q:∀ B:Int,1000 < B → (-B ≤ i ∧ i < B) ∧ (-B ≤ j ∧ j < B) ∧ j - i ≤ 1000000:=fun B hB=>by omega
 show (if _ then _ else _) = _
 rw [if_pos (q _ (by decide))]
theorem places_ok (c:Int) (m:Nat) (hm:0 < m ∧ m ≤ 60):∃ P,m__law_places [.int c,.int (m:Int)] = some (.lst (nd P)) ∧ P.length = m ∧ ∀ x ∈ P,x < m:=by
 have e1:rngD 1 (m:Int) = nd ((List.range (m - 1)).map fun k=>k + 1):=by
  unfold rngD nd
  rw [show ((m:Int) - 1).toNat = m - 1 from by omega,List.map_map]
  exact List.map_congr_left fun k _=>by show D.int (1 + (k:Int)) = D.int (((k + 1:Nat):Nat):Int); congr 1; omega
 obtain ⟨c',P,e,e2,e3⟩:=l_while (.sh (.int (m:Int))) m 100000 c ((List.range (m - 1)).map fun k=>k + 1) [0] (by rw [List.length_map,List.length_range]; omega) (by simp; omega) (fun x hx=>by
  obtain ⟨k,hk,rfl⟩:=List.mem_map.mp hx
  have:=List.mem_range.mp hk
  omega) (fun x hx=>by rw [List.mem_singleton.mp hx]; exact hm.1)
 refine ⟨P,mkN_rf rfl (seq_to (δ':=[.sh (.int c),.sh (.int (m:Int)),.ow (.lst (nd ((List.range (m - 1)).map fun k=>k + 1))),.un]) ?_ (seq_to (δ':=ls c (.sh (.int (m:Int))) ((List.range (m - 1)).map fun k=>k + 1) [0]) ?_ (seq_to e (seq_rf rfl)))),by rw [e2,List.length_map,List.length_range,List.length_singleton]; omega,e3⟩
 ·unfold ownD
  rw [oA_of (ds:=[.int 1,.int (m:Int)]) rfl,lr_of (by decide) (by omega),e1]
  rfl
 ·rfl
end Ta
set_option maxHeartbeats 0
namespace Ta
open PySem DL W K22
noncomputable def R1:GS:=(seqD (asgX (pureX (oA (consA (o2 (gv 0) (gv 5) ixD) (consA (gv 3) nilA)) m__law_led)) (setAt 4 (o2 (gv 3) (gv 5) ixD)))
 nilD)
noncomputable def R2:GS:=(seqD (asgX (pureX (tupG (consA (gc (.str "row")) (consA (tupG (consA (tupG (consA (gc (.str "at")) (consA (o2 (o2 (gv 1) (o2 (gv 5) (gc (.int 2)) addA) fdivD) (borE (oA (consA (gv 4) nilA) lenD)) modD) nilA))) (consA (gc .non) (consA (tupG (consA (gc (.str "at")) (consA (gc (.int 0)) nilA))) nilA)))) nilA)))) (setAt 4 (o2 (gv 3) (o2 (oA (consA (gv 0) nilA) lenD) (gv 5) addA) ixD)))
 nilD)
noncomputable def rs (ps:List Pt) (x:Int) (mo:Nat) (P:List Nat) (qs:List Pt) (s:Sl):Ds:=[.sh (wd ps),.sh (.int x),.sh (.int (mo:Int)),.sh (.lst (nd P)),.ow (.lst (qs.map Pt.d)),s]
theorem lled_ok {n:Nat} {p:Pt} (h:Pw n p) (f:Nat → Nat) (D':D) (hd:∀ j ∈ tgs p.vals,ixD D' (.int (j:Int)) = some (.int (f j:Int))):m__law_led [p.d,D'] = some (rel f p).d:=K22.led_ok h f D' hd
theorem set_d (qs:List Pt) (j:Nat) (q:Pt):(qs.map Pt.d).set j q.d = (qs.set j q).map Pt.d:=by rw [List.map_set]
theorem set_in {i:Nat} {g:GE} {δ:Ds} {ds:List D} {j:Nat} {gx:GE} {v:D} (h1:owL i δ = some ds) (h2:g δ = some (.int (j:Int))) (h3:j < ds.length) (h4:gx δ = some v):asgX (pureX gx) (setAt i g) δ = some (.nx (δ.set i (.ow (.lst (ds.set j v))))):=by
 unfold asgX pureX
 rw [h4]
 unfold setAt
 rw [Option.map_some,Option.bind_some,h1,Option.bind_some,h2,Option.bind_some]
 simp only []
 rw [ixN_in h3]
 rfl
theorem r1_ok {ps:List Pt} (h:Web ps) (x:Int) (mo:Nat) {P:List Nat} {qs:List Pt} {N:Nat} (hP:ps.length ≤ P.length) (hPN:∀ y ∈ P,y < N) (hq:qs.length = N) (hw:∀ q ∈ qs,Pw N q) (i:Nat) (hi:i < ps.length) :
  ∃ qs',qs'.length = N ∧ (∀ q ∈ qs',Pw N q) ∧ R1 (rs ps x mo P qs (.sh (.int (i:Int)))) = some (.nx (rs ps x mo P qs' (.sh (.int (i:Int))))):=by
 obtain ⟨e1,_,pw⟩:=h.at hi
 have hPi:=hPN _ (getD_mem (show i < P.length by omega))
 have e2:m__law_led [ps[i].d,.lst (nd P)] = some (rel (fun j=>P.getD j 0) ps[i]).d:=lled_ok pw _ _ fun j hj=>at_nd P (by have:=tgs_lt pw.lv j hj; omega)
 refine ⟨qs.set (P.getD i 0) (rel (fun j=>P.getD j 0) ps[i]),by rw [List.length_set]; exact hq,fun q hq'=>?_,?_⟩
 ·rcases List.mem_or_eq_of_mem_set hq' with z | rfl
  ·exact hw q z
  ·exact rel_pw pw _ fun j hj=>hPN _ (getD_mem (by have:=tgs_lt pw.lv j hj; omega))
 ·refine seq_to ?_ rfl
  rw [set_in (ds:=qs.map Pt.d) (j:=P.getD i 0) (v:=(rel (fun j=>P.getD j 0) ps[i]).d) rfl (by
   rw [o2_of (x:=.lst (nd P)) (y:=.int (i:Int)) rfl rfl]
   exact at_nd P (by omega)) (by rw [List.length_map]; omega) (by
   rw [oA_of (ds:=[ps[i].d,.lst (nd P)]) (cons_of (d:=ps[i].d) (by
    rw [o2_of (x:=wd ps) (y:=.int (i:Int)) rfl rfl]
    exact e1) rfl)]
   exact e2),set_d]
  rfl
noncomputable def mrow (a:Nat):Pt:=.row [.tup [.str "at",.int (a:Int)],.non,.tup [.str "at",.int 0]]
theorem mrow_pw {N a:Nat} (h:a < N):Pw N (mrow a):=by
 refine ⟨by show 3 ≤ 12; decide,fun v hv=>?_⟩
 have hv:v ∈ [D.tup [.str "at",.int (a:Int)],.non,.tup [.str "at",.int 0]]:=hv
 simp only [List.mem_cons,List.not_mem_nil,or_false] at hv
 rcases hv with rfl | rfl | rfl
 ·exact .inr (.inr ⟨a,rfl,h⟩)
 ·exact .inl rfl
 ·exact .inr (.inr ⟨0,rfl,by omega⟩)
theorem r2_ok (ps:List Pt) (x:Int) (mo:Nat) {P:List Nat} {qs:List Pt} {N:Nat} (hP:P.length = ps.length + mo) (hPN:∀ y ∈ P,y < N) (hq:qs.length = N) (hN:0 < N) (hw:∀ q ∈ qs,Pw N q) (i:Nat) (hi:i < mo) (hmo:mo ≤ 100) :
  ∃ qs',qs'.length = N ∧ (∀ q ∈ qs',Pw N q) ∧ R2 (rs ps x mo P qs (.sh (.int (i:Int)))) = some (.nx (rs ps x mo P qs' (.sh (.int (i:Int))))):=by
 have hPi:=hPN _ (getD_mem (show ps.length + i < P.length by omega))
 have b1:0 ≤ x / ((i:Int) + 2) % (N:Int):=Int.emod_nonneg _ (by omega)
 have b2:x / ((i:Int) + 2) % (N:Int) < N:=Int.emod_lt_of_pos _ (by omega)
 obtain ⟨a,ha⟩:∃ a:Nat,x / ((i:Int) + 2) % (N:Int) = (a:Int):=⟨(x / ((i:Int) + 2) % (N:Int)).toNat,by omega⟩
 refine ⟨qs.set (P.getD (ps.length + i) 0) (mrow a),by rw [List.length_set]; exact hq,fun q hq'=>?_,?_⟩
 ·rcases List.mem_or_eq_of_mem_set hq' with z | rfl
  ·exact hw q z
  ·exact mrow_pw (by omega)
 ·have z2:3 ≤ sizeLine:=by decide
  refine seq_to ?_ rfl
  rw [set_in (ds:=qs.map Pt.d) (j:=P.getD (ps.length + i) 0) (v:=(mrow a).d) rfl (by
   rw [o2_of (x:=.lst (nd P)) (y:=.int ((ps.length + i:Nat):Int)) rfl (by
    rw [o2_of (x:=.int (ps.length:Int)) (y:=.int (i:Int)) (len_wd ps _ rfl) rfl]
    rfl)]
   exact at_nd P (by omega)) (by rw [List.length_map]; omega) (by
   refine tup_of (ds:=[.str "row",.tup [.tup [.str "at",.int (a:Int)],.non,.tup [.str "at",.int 0]]]) (cons_of rfl (cons_of (tup_of (cons_of (tup_of (cons_of rfl (cons_of (d:=.int (a:Int)) ?_ rfl)) ?_) (cons_of rfl (cons_of rfl rfl))) z2) rfl)) ?_
   ·rw [o2_of (x:=.int (x / ((i:Int) + 2))) (y:=.int (N:Int)) (by
     rw [o2_of (x:=.int x) (y:=.int ((i:Int) + 2)) rfl (by rw [o2_of (x:=.int (i:Int)) (y:=.int 2) rfl rfl]; rfl)]
     exact Gw.fdiv_p _ _ (by omega)) (by
     show some (D.int (((qs.map Pt.d).length:Nat):Int)) = _
     rw [List.length_map,hq]),Gw.mod_p _ _ (by omega),ha]
   ·exact Nat.le_trans (by show 2 ≤ 3; decide) z2
   ·exact Nat.le_trans (by show 2 ≤ 3; decide) z2),set_d]
  rfl
theorem r_loop {G:GS} {ps:List Pt} {x:Int} {mo:Nat} {P:List Nat} {N:Nat} (n:Nat) (hG:∀ i,i < n → ∀ qs:List Pt,qs.length = N → (∀ q ∈ qs,Pw N q) → ∃ qs':List Pt,qs'.length = N ∧ (∀ q ∈ qs',Pw N q) ∧ G (rs ps x mo P qs (.sh (.int (i:Int)))) = some (.nx (rs ps x mo P qs' (.sh (.int (i:Int))))))
  (qs:List Pt) (s:Sl) (hq:qs.length = N) (hw:∀ q ∈ qs,Pw N q):∃ qs' s',qs'.length = N ∧ (∀ q ∈ qs',Pw N q) ∧ forD (gN 5) G (rngD 0 (n:Int)) (rs ps x mo P qs s) = some (.nx (rs ps x mo P qs' s')):=by
 obtain ⟨δ',l1,qs',s',h1,h2,rfl⟩:=forD_inv (f:=gN 5) (G:=G) (fun _ δ=>∃ (qs':List Pt) (s':Sl),qs'.length = N ∧ (∀ q ∈ qs',Pw N q) ∧ δ = rs ps x mo P qs' s') (rngD 0 (n:Int)) 0 (rs ps x mo P qs s) (by
  rintro j d δ hj ⟨q1,s1,h1,h2,rfl⟩
  obtain ⟨hjl',rfl⟩:=rng_get hj
  obtain ⟨q2,k1,k2,k3⟩:=hG j (by omega) q1 h1 h2
  exact ⟨_,_,rfl,k3,q2,_,k1,k2,rfl⟩) ⟨qs,s,hq,hw,rfl⟩
 exact ⟨qs',s',h1,h2,l1⟩
theorem cut_take (xs:List D) (n:Nat):cutD xs none (some (n:Int)) = xs.take n:=by
 unfold cutD
 show (xs.drop 0).take (sIx xs.length xs.length (some (n:Int)) - 0) = _
 rw [List.drop_zero,Nat.sub_zero]
 unfold sIx
 simp only []
 rw [if_neg (by omega),Int.toNat_natCast]
 by_cases h:n ≤ xs.length
 ·rw [Nat.min_eq_left h]
 ·rw [Nat.min_eq_right (by omega),List.take_length,List.take_of_length_le (by omega)]
theorem cut_drop (xs:List D) (n:Nat):cutD xs (some (n:Int)) none = xs.drop n:=by
 unfold cutD
 show (xs.drop (sIx xs.length 0 (some (n:Int)))).take (xs.length - sIx xs.length 0 (some (n:Int))) = _
 unfold sIx
 simp only []
 rw [if_neg (by omega),Int.toNat_natCast]
 by_cases h:n ≤ xs.length
 ·rw [Nat.min_eq_left h,List.take_of_length_le (by rw [List.length_drop]; exact Nat.le_refl _)]
 ·rw [Nat.min_eq_right (by omega),List.drop_length,List.take_nil,List.drop_of_length_le (by omega)]
theorem sl_to {g gh:GE} {δ:Ds} {xs:List D} {n:Nat} (h1:g δ = some (.lst xs)) (h2:gh δ = some (.int (n:Int))):slAG g noneO (someO gh) δ = some (.lst (xs.take n)):=by
 unfold slAG someO
 rw [h1,h2,← cut_take]
 rfl
theorem sl_from {g gh:GE} {δ:Ds} {xs:List D} {n:Nat} (h1:g δ = some (.lst xs)) (h2:gh δ = some (.int (n:Int))):slAG g (someO gh) noneO δ = some (.lst (xs.drop n)):=by
 unfold slAG someO
 rw [h1,h2,← cut_drop]
 rfl
theorem st_to {g gh:GE} {δ:Ds} {xs:List D} {n:Nat} (h1:g δ = some (.tup xs)) (h2:gh δ = some (.int (n:Int))):slAG g noneO (someO gh) δ = some (.tup (xs.take n)):=by
 unfold slAG someO
 rw [h1,h2,← cut_take]
 rfl
theorem st_from {g gh:GE} {δ:Ds} {xs:List D} {n:Nat} (h1:g δ = some (.tup xs)) (h2:gh δ = some (.int (n:Int))):slAG g (someO gh) noneO δ = some (.tup (xs.drop n)):=by
 unfold slAG someO
 rw [h1,h2,← cut_drop]
 rfl
theorem mulL_of {B:Int} {E:Nat} {xs:List D} {k:Int} {o:Option D} (h1:xs ≠ []) (h2:0 ≤ k ∧ k ≤ 100) (h3:xs.length = 1) (hB:100 < B) (hE:100 ≤ E):(if xs ≠ [] ∧ 0 ≤ k ∧ k < B ∧ xs.length * k.toNat ≤ E then some (D.lst (List.replicate k.toNat xs).flatten) else o) = some (D.lst (List.replicate k.toNat xs).flatten):=by
 rw [if_pos ⟨h1,h2.1,by omega,by rw [h3]; omega⟩]
theorem fl_one {α:Type} (a:α):∀ n:Nat,(List.replicate n [a]).flatten = List.replicate n a
 | 0=>rfl
 | n + 1=>by rw [List.replicate_succ,List.flatten_cons,fl_one a n,List.replicate_succ]; rfl
theorem mulL_1 {xs:List D} {k:Int} (h1:xs ≠ []) (h2:0 ≤ k ∧ k ≤ 100) (h3:xs.length = 1):mulL (.lst xs) (.int k) = some (D.lst (List.replicate k.toNat xs).flatten):=mulL_of h1 h2 h3 (by decide) (by decide)
theorem renumbered_ok {ps:List Pt} (h:Web ps) (hl:ps.length ≤ 30) (x:Int) (mo:Nat) (hmo:mo ≤ 5) :
  ∃ qs P,m__law_renumbered [wd ps,.int x,.int (mo:Int)] = some (.tup [wd qs,.lst (nd P)]) ∧ Web qs ∧ qs.length = ps.length + mo ∧ P.length = ps.length ∧ ∀ y ∈ P,y < qs.length:=by
 have zs:(2000:Nat) ≤ sizeLine:=by decide
 have hp0:=h.len.1
 obtain ⟨P,e,hPl,hPN⟩:=places_ok x (ps.length + mo) ⟨by omega,by omega⟩
 have h0:∀ q ∈ List.replicate (ps.length + mo) (Pt.text "b"),Pw (ps.length + mo) q:=fun q hq=>by
  rw [List.eq_of_mem_replicate hq]
  exact ⟨by show 0 ≤ 12; decide,fun v hv=>absurd hv (by show v ∉ []; simp)⟩
 obtain ⟨q1,s1,a1,a2,a3⟩:=r_loop (G:=R1) (ps:=ps) (x:=x) (mo:=mo) (P:=P) ps.length (fun i hi qs k1 k2=>r1_ok h x mo (by omega) hPN k1 k2 i hi) (List.replicate (ps.length + mo) (Pt.text "b")) .un List.length_replicate h0
 obtain ⟨q2,s2,b1,b2,b3⟩:=r_loop (G:=R2) (ps:=ps) (x:=x) (mo:=mo) (P:=P) mo (fun i hi qs k1 k2=>r2_ok ps x mo hPl hPN k1 (by omega) k2 i hi (by omega)) q1 s1 a1 a2
 refine ⟨q2,P.take ps.length,mkF_rt rfl (seq_to (δ':=[.sh (wd ps),.sh (.int x),.sh (.int (mo:Int)),.sh (.lst (nd P)),.un,.un]) (set_of ?_) (seq_to (δ':=rs ps x mo P (List.replicate (ps.length + mo) (Pt.text "b")) .un) ?_ (seq_to (for_of (rng1_of (n:=(ps.length:Int)) (cons_of (len_wd ps _ rfl) rfl) (by omega) (by omega)) a3) (seq_to (for_of (rng1_of (n:=(mo:Int)) rfl (by omega) (by omega)) b3) (seq_rt (ret_of ?_)))))),⟨by omega,by rw [b1]; exact b2⟩,b1,by rw [List.length_take]; omega,fun y hy=>by rw [b1]; exact hPN y (List.mem_of_mem_take hy)⟩
 ·rw [oA_of (ds:=[.int x,.int ((ps.length + mo:Nat):Int)]) (cons_of rfl (cons_of (by
   rw [o2_of (x:=.int (ps.length:Int)) (y:=.int (mo:Int)) (len_wd ps _ rfl) rfl]
   rfl) rfl))]
  exact e
 ·unfold ownD
  rw [o2_of (x:=.lst [.tup [.str "text",.str "b"]]) (y:=.int ((ps.length + mo:Nat):Int)) (lst_of (cons_of (tup_of rfl (by show 2 ≤ sizeLine; omega)) rfl) (by show 1 ≤ sizeLine; omega)) (by
   rw [o2_of (x:=.int (ps.length:Int)) (y:=.int (mo:Int)) (len_wd ps _ rfl) rfl]
   rfl)]
  have em:mulL (.lst [.tup [.str "text",.str "b"]]) (.int ((ps.length + mo:Nat):Int)) = some (.lst ((List.replicate (ps.length + mo) (Pt.text "b")).map Pt.d)):=by
   rw [mulL_1 (by simp) (by omega) rfl,Int.toNat_natCast]
   rw [fl_one,List.map_replicate]
   rfl
  rw [em]
  rfl
 ·show tupG _ (frz _) = _
  refine tup_of (ds:=[wd q2,.lst (nd (P.take ps.length))]) (cons_of (d:=wd q2) ?_ (cons_of (d:=.lst (nd (P.take ps.length))) ?_ rfl)) (by show 2 ≤ sizeLine; omega)
  ·rfl
  ·rw [sl_to (xs:=nd P) (n:=ps.length) rfl (len_wd ps _ rfl)]
   unfold nd
   rw [List.map_take]
end Ta
set_option maxHeartbeats 0
namespace Ta
open PySem DL W K22
theorem lvalue_ok (x m:Int) (hx:0 ≤ x ∧ x < 2 ^ 40) (hm:0 < m):∃ v,m__law_value [.int x,.int m] = some v ∧ Gw.Vk v m:=Gw.value_ok x m hx hm
theorem llwith_ok (p:Pt) (h:p.few) (vs:List D) (hl:vs.length = p.vals.length):m__law_with [p.d,.lst vs] = some (Pn.put p vs).d:=Gw.with_ok p h vs (.inl hl)
theorem lv_of {v:D} {m:Nat} (k:Gw.Vk v (m:Int)):Lv m v:=by
 rcases val_cases k.ok with rfl | ⟨i,rfl⟩ | ⟨i,rfl,hi⟩
 ·exact .inl rfl
 ·exact .inr (.inl ⟨i,rfl⟩)
 ·have:=k.lk i rfl
  exact .inr (.inr ⟨i.toNat,by rw [Int.toNat_of_nonneg hi],by omega⟩)
theorem put_pw {n:Nat} {p:Pt} (h:Pw n p) {vs:List D} (hl:vs.length = p.vals.length) (hv:∀ v ∈ vs,Lv n v):Pw n (Pn.put p vs):=by
 have e:=put_vals p vs hl
 exact ⟨by rw [e,hl]; exact h.few,fun v hv'=>by rw [e] at hv'; exact hv v hv'⟩
theorem eq_nil {n:Nat} {vs:List D} (h:∀ v ∈ vs,Lv n v):eqDD (.lst vs) (.lst []) = some (.bl (decide (vs = []))):=by
 unfold eqDD
 have e:lean (.lst vs) 50 = true:=by
  rw [lean]
  exact leans_all fun x hx=>lean_v (h x hx) 48
 rw [if_pos ⟨e,by simp [lean,leans]⟩]
 cases vs with
 | nil=>simp [deq,deqs]
 | cons a vs=>simp [deq,deqs]
theorem add_t {xs ys:List D} (h:xs.length + ys.length ≤ sizeLine):addA (.tup xs) (.tup ys) = some (.tup (xs ++ ys)):=by
 simp only [addA]; rw [if_pos h]
theorem add_l {xs ys:List D} (h:xs.length + ys.length ≤ sizeLine):addA (.lst xs) (.lst ys) = some (.lst (xs ++ ys)):=by
 simp only [addA]; rw [if_pos h]
theorem changed_ok {qs:List Pt} (h:Web qs) (x:Int):∃ rs,m__law_changed [wd qs,.int x] = some (wd rs) ∧ Web rs ∧ rs.length = qs.length:=by
 have zs:(2000:Nat) ≤ sizeLine:=by decide
 have hq:=h.len
 have b1:0 ≤ x % (qs.length:Int):=Int.emod_nonneg _ (by omega)
 have b2:x % (qs.length:Int) < qs.length:=Int.emod_lt_of_pos _ (by omega)
 obtain ⟨k,hk⟩:∃ k:Nat,x % (qs.length:Int) = (k:Int):=⟨(x % (qs.length:Int)).toNat,by omega⟩
 have hkl:k < qs.length:=by omega
 obtain ⟨e1,_,pw⟩:=h.at hkl
 have gk:o2 (gv 1) (oA (consA (gv 0) nilA) lenD) modD [.sh (wd qs),.sh (.int x),.un,.un,.un] = some (.int (k:Int)):=by
  rw [o2_of (x:=.int x) (y:=.int (qs.length:Int)) rfl (len_wd qs _ rfl),Gw.mod_p _ _ (by omega),hk]
 have gp:∀ s2 s3:Sl,o2 (gv 0) (gv 2) ixD [.sh (wd qs),.sh (.int x),.sh (.int (k:Int)),s2,s3] = some qs[k].d:=fun s2 s3=>by
  rw [o2_of (x:=wd qs) (y:=.int (k:Int)) rfl rfl]; exact e1
 have gv3:oA (consA (o2 (gv 0) (gv 2) ixD) nilA) m__law_vals [.sh (wd qs),.sh (.int x),.sh (.int (k:Int)),.un,.un] = some (.lst qs[k].vals):=by
  rw [oA_of (ds:=[qs[k].d]) (cons_of (gp _ _) rfl)]
  exact lvals_ok pw
 have s1:setD (gN 2) (o2 (gv 1) (oA (consA (gv 0) nilA) lenD) modD) [.sh (wd qs),.sh (.int x),.un,.un,.un] = some (.nx [.sh (wd qs),.sh (.int x),.sh (.int (k:Int)),.un,.un]):=set_of gk
 have s2:ownD 3 (oA (consA (o2 (gv 0) (gv 2) ixD) nilA) m__law_vals) [.sh (wd qs),.sh (.int x),.sh (.int (k:Int)),.un,.un] = some (.nx [.sh (wd qs),.sh (.int x),.sh (.int (k:Int)),.ow (.lst qs[k].vals),.un]):=by
  unfold ownD
  rw [gv3]
  rfl
 have t:borB (ob (o2 (gv 3) (lstG nilA) eqDD)) [.sh (wd qs),.sh (.int x),.sh (.int (k:Int)),.ow (.lst qs[k].vals),.un] = some (decide (qs[k].vals = [])):=by
  show ob (o2 (gv 3) (lstG nilA) eqDD) [.sh (wd qs),.sh (.int x),.sh (.int (k:Int)),.sh (.lst qs[k].vals),.un] = _
  exact Bw.b_of (by rw [o2_of (x:=.lst qs[k].vals) (y:=.lst []) rfl (lst_of rfl (by show 0 ≤ sizeLine; omega))]; exact eq_nil pw.lv)
 by_cases hn:qs[k].vals = []
 ·refine ⟨qs,mkF_rt rfl (seq_to s1 (seq_to s2 (seq_rt ?_))),h,rfl⟩
  rw [if_t (t.trans (by rw [decide_eq_true hn]))]
  exact seq_rt (ret_of rfl)
 ·have hvl:0 < qs[k].vals.length:=List.length_pos_iff.mpr hn
  have c1:0 ≤ x / 60 % (qs[k].vals.length:Int):=Int.emod_nonneg _ (by omega)
  have c2:x / 60 % (qs[k].vals.length:Int) < qs[k].vals.length:=Int.emod_lt_of_pos _ (by omega)
  obtain ⟨j,hj⟩:∃ j:Nat,x / 60 % (qs[k].vals.length:Int) = (j:Int):=⟨(x / 60 % (qs[k].vals.length:Int)).toNat,by omega⟩
  obtain ⟨v,hv,vk⟩:=lvalue_ok (x / 240 % 1000000) (qs.length:Int) (by omega) (by omega)
  have hl:(qs[k].vals.set j v).length = qs[k].vals.length:=List.length_set
  have npw:Pw qs.length (Pn.put qs[k] (qs[k].vals.set j v)):=put_pw pw hl fun u hu=>by
   rcases List.mem_or_eq_of_mem_set hu with z | rfl
   ·exact pw.lv u z
   ·exact lv_of vk
  refine ⟨qs.set k (Pn.put qs[k] (qs[k].vals.set j v)),mkF_rt rfl (seq_to s1 (seq_to s2 (seq_to (δ':=[.sh (wd qs),.sh (.int x),.sh (.int (k:Int)),.ow (.lst qs[k].vals),.un]) ?_ (seq_to (δ':=[.sh (wd qs),.sh (.int x),.sh (.int (k:Int)),.ow (.lst qs[k].vals),.sh (.int (j:Int))]) (set_of ?_) (seq_to (δ':=[.sh (wd qs),.sh (.int x),.sh (.int (k:Int)),.ow (.lst (qs[k].vals.set j v)),.sh (.int (j:Int))]) ?_ (seq_rt (ret_of ?_))))))),⟨by rw [List.length_set]; exact hq,fun p hp=>?_⟩,List.length_set⟩
  ·rw [if_f (t.trans (by rw [decide_eq_false hn]))]; rfl
  ·rw [o2_of (x:=.int (x / 60)) (y:=.int (qs[k].vals.length:Int)) (by rw [o2_of (x:=.int x) (y:=.int 60) rfl rfl]; rfl) rfl,Gw.mod_p _ _ (by omega),hj]
  ·rw [set_in (ds:=qs[k].vals) (j:=j) (v:=v) rfl rfl (by omega) (by
    rw [oA_of (ds:=[.int (x / 240 % 1000000),.int (qs.length:Int)]) (cons_of (by
     rw [o2_of (x:=.int (x / 240)) (y:=.int 1000000) (by rw [o2_of (x:=.int x) (y:=.int 240) rfl rfl]; rfl) rfl]; rfl) (cons_of (len_wd qs _ rfl) rfl))]
    exact hv)]
   rfl
  ·show o2 _ _ _ [.sh (wd qs),.sh (.int x),.sh (.int (k:Int)),.sh (.lst (qs[k].vals.set j v)),.sh (.int (j:Int))] = _
   have g1:slAG (gv 0) noneO (someO (gv 2)) [.sh (wd qs),.sh (.int x),.sh (.int (k:Int)),.sh (.lst (qs[k].vals.set j v)),.sh (.int (j:Int))] = some (.tup ((qs.map Pt.d).take k)):=st_to rfl rfl
   have g2:tupG (consA (oA (consA (o2 (gv 0) (gv 2) ixD) (consA (gv 3) nilA)) m__law_with) nilA) [.sh (wd qs),.sh (.int x),.sh (.int (k:Int)),.sh (.lst (qs[k].vals.set j v)),.sh (.int (j:Int))] = some (.tup [(Pn.put qs[k] (qs[k].vals.set j v)).d]):=tup_of (cons_of (by
    rw [oA_of (ds:=[qs[k].d,.lst (qs[k].vals.set j v)]) (cons_of (gp _ _) rfl)]
    exact llwith_ok _ pw.f _ hl) rfl) (by show 1 ≤ sizeLine; omega)
   have g3:slAG (gv 0) (someO (o2 (gv 2) (gc (.int 1)) addA)) noneO [.sh (wd qs),.sh (.int x),.sh (.int (k:Int)),.sh (.lst (qs[k].vals.set j v)),.sh (.int (j:Int))] = some (.tup ((qs.map Pt.d).drop (k + 1))):=st_from rfl (by rw [o2_of (x:=.int (k:Int)) (y:=.int 1) rfl rfl]; rfl)
   have l1:((qs.map Pt.d).take k).length ≤ 60:=by rw [List.length_take,List.length_map]; omega
   have l2:((qs.map Pt.d).drop (k + 1)).length ≤ 60:=by rw [List.length_drop,List.length_map]; omega
   rw [o2_of (o2_of g1 g2 |>.trans (add_t (by rw [List.length_singleton]; omega))) g3,add_t (by rw [List.length_append,List.length_singleton]; omega)]
   have es:(qs.map Pt.d).take k ++ [(Pn.put qs[k] (qs[k].vals.set j v)).d] ++ (qs.map Pt.d).drop (k + 1) = (qs.set k (Pn.put qs[k] (qs[k].vals.set j v))).map Pt.d:=by
    rw [← set_d,List.set_eq_take_append_cons_drop (l:=qs.map Pt.d),if_pos (by rw [List.length_map]; exact hkl),List.append_assoc]
    rfl
   rw [es]
   rfl
  ·rw [List.length_set]
   rcases List.mem_or_eq_of_mem_set hp with z | rfl
   ·exact h.pw p z
   ·exact npw
noncomputable def OT:DL.GB:=(ob (o2 (borE (oA (consA (gv 2) nilA) lenD)) (gc (.int 0)) gtD))
noncomputable def OI:GS:=(seqD (ifD (ob (isiG isTup (gv 4)))
 (seqD (exprX (appX 2 (o2 (gv 4) (gc (.int 1)) ixD)))
 nilD)
 nilD)
 nilD)
noncomputable def OB:GS:=(seqD (asgX (popX 2) (gN 3))
 (seqD (ifD (borB (ob (o2 (gv 3) (gv 1) (inSeqD true))))
 (seqD (exprX (appX 1 (gv 3)))
 (seqD (forG (revI (consA (oA (consA (o2 (gv 0) (gv 3) ixD) nilA) m__law_vals) nilA)) (gN 4) OI)
 nilD))
 nilD)
 nilD))
noncomputable def os (W:D) (o T:List Nat) (s3 s4:Sl):Ds:=[.sh W,.ow (.lst (nd o)),.ow (.lst (nd T)),s3,s4]
theorem ot_ok (W:D) (o T:List Nat) (s3 s4:Sl):OT (os W o T s3 s4) = some (decide (0 < T.length)):=by
 have e:borE (oA (consA (gv 2) nilA) lenD) (os W o T s3 s4) = some (.int (T.length:Int)):=by
  show some (D.int ((nd T).length:Int)) = _
  rw [nd_len]
 unfold OT ob
 rw [o2_of (x:=.int (T.length:Int)) (y:=.int 0) e rfl]
 show some (decide ((0:Int) < (T.length:Int))) = _
 congr 1
 rw [decide_eq_decide]
 omega
theorem tgs_no {v:D} (vs:List D) (h:v = .non ∨ ∃ z,v = .int z):tgs (v :: vs) = tgs vs:=by
 unfold tgs
 rw [List.filterMap_cons]
 rcases h with rfl | ⟨z,rfl⟩ <;> rfl
theorem o_for {n:Nat} (W:D) (o:List Nat) (s3:Sl):∀ (us:List D) (T:List Nat) (s4:Sl),(∀ v ∈ us,Lv n v) → T.length + us.length ≤ 9000 → ∃ s',forD (gN 4) OI us (os W o T s3 s4) = some (.nx (os W o (T ++ tgs us) s3 s'))
 | [],T,s4,_,_=>⟨s4,by rw [show tgs [] = [] from rfl,List.append_nil]; rfl⟩
 | v :: us,T,s4,h,hl=>by
  have zs:(20000:Nat) ≤ sizeLine:=by decide
  rw [List.length_cons] at hl
  unfold forD
  have h':∀ v ∈ us,Lv n v:=fun w hw=>h w (List.mem_cons_of_mem _ hw)
  rcases h v List.mem_cons_self with e | ⟨z,e⟩ | ⟨j,e,hj⟩
  ·obtain ⟨s',k⟩:=o_for W o s3 us T (.sh v) h' (by omega)
   refine ⟨s',?_⟩
   rw [tgs_no us (.inl e),← k]
   subst e
   rfl
  ·obtain ⟨s',k⟩:=o_for W o s3 us T (.sh v) h' (by omega)
   refine ⟨s',?_⟩
   rw [tgs_no us (.inr ⟨z,e⟩),← k]
   subst e
   rfl
  ·obtain ⟨s',k⟩:=o_for W o s3 us (T ++ [j]) (.sh v) h' (by rw [List.length_append,List.length_singleton]; omega)
   refine ⟨s',?_⟩
   have eb:OI (os W o T s3 (.sh v)) = some (.nx (os W o (T ++ [j]) s3 (.sh v))):=by
    subst e
    refine seq_to ?_ rfl
    rw [if_t (by rfl)]
    refine seq_to ?_ rfl
    rw [Gw.app_ow (l:=nd T) (d:=.int (j:Int)) rfl rfl (by rw [nd_len]; omega),show nd T ++ [D.int (j:Int)] = nd (T ++ [j]) from by rw [nd_app]; rfl]
    rfl
   rw [show gN 4 v (os W o T s3 s4) = some (os W o T s3 (.sh v)) from rfl,Option.bind_some,eb]
   dsimp only
   rw [k]
   subst e
   rw [tgs_lk,List.append_assoc]
   rfl
theorem tgs_rev (vs:List D):tgs vs.reverse = (tgs vs).reverse:=by unfold tgs; rw [List.filterMap_reverse]
theorem o_while {ps:List Pt} (h:Web ps):∀ (M f:Nat) (o T:List Nat) (s3 s4:Sl),T.length + 13 * (ps.length - o.length) ≤ M → M < f → M ≤ 5000 → o.Nodup → (∀ x ∈ o,x < ps.length) → (∀ x ∈ T,x < ps.length) →
  ∃ F s3' s4',whileD OT OB f (os (wd ps) o T s3 s4) = some (.nx (os (wd ps) F [] s3' s4')) ∧ F.Nodup ∧ (∀ x ∈ F,x < ps.length) ∧ o.length ≤ F.length ∧ (T ≠ [] → 0 < F.length):=by
 have zs:(20000:Nat) ≤ sizeLine:=by decide
 intro M
 induction M with
 | zero =>
  intro f o T s3 s4 h1 h2 _ hn ho hT
  have:T = []:=List.length_eq_zero_iff.mp (by omega)
  subst this
  obtain ⟨g,rfl⟩:∃ g,f = g + 1:=⟨f - 1,by omega⟩
  refine ⟨o,s3,s4,?_,hn,ho,Nat.le_refl _,fun q=>absurd rfl q⟩
  unfold whileD
  rw [ot_ok]
  rfl
 | succ M ih =>
  intro f o T s3 s4 h1 h2 h3 hn ho hT
  obtain ⟨g,rfl⟩:∃ g,f = g + 1:=⟨f - 1,by omega⟩
  rcases List.eq_nil_or_concat T with rfl | ⟨T',x,rfl⟩
  ·refine ⟨o,s3,s4,?_,hn,ho,Nat.le_refl _,fun q=>absurd rfl q⟩
   unfold whileD
   rw [ot_ok]
   rfl
  ·rw [List.concat_eq_append] at h1 hT ⊢
   rw [List.length_append,List.length_singleton] at h1
   have hx:=hT x (List.mem_append_right _ (List.mem_singleton.mpr rfl))
   have hT':∀ y ∈ T',y < ps.length:=fun y hy=>hT y (List.mem_append_left _ hy)
   have hol:o.length ≤ ps.length:=by
    have:=sub_len hn (m:=List.range ps.length) fun y hy=>List.mem_range.mpr (ho y hy)
    rwa [List.length_range] at this
   have hpl:=h.len.2
   have pop:asgX (popX 2) (gN 3) (os (wd ps) o (T' ++ [x]) s3 s4) = some (.nx (os (wd ps) o T' (.sh (.int (x:Int))) s4)):=by
    unfold asgX popX
    rw [show owL 2 (os (wd ps) o (T' ++ [x]) s3 s4) = some (nd (T' ++ [x])) from rfl,Option.bind_some,nd_app,show nd [x] = [D.int (x:Int)] from rfl,List.getLast?_concat,List.dropLast_concat]
    rfl
   have tst:borB (ob (o2 (gv 3) (gv 1) (inSeqD true))) (os (wd ps) o T' (.sh (.int (x:Int))) s4) = some (decide (x ∉ o)):=by
    show ob (o2 (gv 3) (gv 1) (inSeqD true)) [.sh (wd ps),.sh (.lst (nd o)),.sh (.lst (nd T')),.sh (.int (x:Int)),frz1 s4] = _
    refine Bw.b_of ?_
    rw [o2_of (x:=.int (x:Int)) (y:=.lst (nd o)) rfl rfl]
    simp only [inSeqD]
    rw [if_pos ⟨rfl,all_flat o⟩,any_nd,Bool.true_xor]
    congr 2
    by_cases q:x ∈ o
    ·rw [decide_eq_true q,decide_eq_false (fun z=>z q)]; rfl
    ·rw [decide_eq_false q,decide_eq_true q]; rfl
   by_cases q:x ∈ o
   ·obtain ⟨F,s3',s4',e,e1,e2,e3,e4⟩:=ih g o T' (.sh (.int (x:Int))) s4 (by omega) (by omega) (by omega) hn ho hT'
    refine ⟨F,s3',s4',?_,e1,e2,e3,fun _=>Nat.lt_of_lt_of_le (List.length_pos_of_mem q) e3⟩
    have eb:OB (os (wd ps) o (T' ++ [x]) s3 s4) = some (.nx (os (wd ps) o T' (.sh (.int (x:Int))) s4)) :=
     seq_to pop (seq_to (δ':=os (wd ps) o T' (.sh (.int (x:Int))) s4) (by rw [if_f (tst.trans (by rw [decide_eq_false (fun z=>z q)]))]; rfl) rfl)
    unfold whileD
    rw [ot_ok,decide_eq_true (by simp)]
    dsimp only
    rw [eb]
    exact e
   ·have hol':o.length + 1 ≤ ps.length:=by
     have:=sub_len (nd_snoc.mpr ⟨hn,q⟩) (m:=List.range ps.length) fun y hy=>List.mem_range.mpr (by
      rcases List.mem_append.mp hy with z | z
      ·exact ho y z
      ·rw [List.mem_singleton.mp z]; exact hx)
     rwa [List.length_range,List.length_append,List.length_singleton] at this
    obtain ⟨e1,_,pw⟩:=h.at hx
    have hvl:=pw.few
    have htl:=tgs_len ps[x].vals
    obtain ⟨s',ef⟩:=o_for (n:=ps.length) (wd ps) (o ++ [x]) (.sh (.int (x:Int))) ps[x].vals.reverse T' s4 (fun v hv=>pw.lv v (List.mem_reverse.mp hv)) (by rw [List.length_reverse]; omega)
    rw [tgs_rev] at ef
    obtain ⟨F,s3',s4',e,k1,k2,k3,k4⟩:=ih g (o ++ [x]) (T' ++ (tgs ps[x].vals).reverse) (.sh (.int (x:Int))) s' (by rw [List.length_append,List.length_append,List.length_reverse,List.length_singleton]; omega) (by omega) (by omega) (nd_snoc.mpr ⟨hn,q⟩) (fun y hy=>by
      rcases List.mem_append.mp hy with z | z
      ·exact ho y z
      ·rw [List.mem_singleton.mp z]; exact hx) (fun y hy=>by
      rcases List.mem_append.mp hy with z | z
      ·exact hT' y z
      ·exact tgs_lt pw.lv y (List.mem_reverse.mp z))
    rw [List.length_append,List.length_singleton] at k3
    refine ⟨F,s3',s4',?_,k1,k2,by omega,fun _=>by omega⟩
    have p2:exprX (appX 1 (gv 3)) (os (wd ps) o T' (.sh (.int (x:Int))) s4) = some (.nx (os (wd ps) (o ++ [x]) T' (.sh (.int (x:Int))) s4)):=by
     rw [Gw.app_ow (l:=nd o) (d:=.int (x:Int)) rfl rfl (by rw [nd_len]; omega),show nd o ++ [D.int (x:Int)] = nd (o ++ [x]) from by rw [nd_app]; rfl]
     rfl
    have p3:revI (consA (oA (consA (o2 (gv 0) (gv 3) ixD) nilA) m__law_vals) nilA) (os (wd ps) (o ++ [x]) T' (.sh (.int (x:Int))) s4) = some ps[x].vals.reverse:=by
     unfold revI
     rw [cons_of (d:=.lst ps[x].vals) (ds:=[]) (by
      rw [oA_of (ds:=[ps[x].d]) (cons_of (by rw [o2_of (x:=wd ps) (y:=.int (x:Int)) rfl rfl]; exact e1) rfl)]
      exact lvals_ok pw) rfl]
     rfl
    have eb:OB (os (wd ps) o (T' ++ [x]) s3 s4) = some (.nx (os (wd ps) (o ++ [x]) (T' ++ (tgs ps[x].vals).reverse) (.sh (.int (x:Int))) s')) :=
     seq_to pop (seq_to (δ':=os (wd ps) (o ++ [x]) (T' ++ (tgs ps[x].vals).reverse) (.sh (.int (x:Int))) s') (by
      rw [if_t (tst.trans (by rw [decide_eq_true q]))]
      exact seq_to p2 (seq_to (for_of p3 ef) rfl)) rfl)
    unfold whileD
    rw [ot_ok,decide_eq_true (by simp)]
    dsimp only
    rw [eb]
    exact e
theorem order_ok {ps:List Pt} (h:Web ps):∃ F,m__law_order [wd ps] = some (.lst (nd F)) ∧ F.Nodup ∧ (∀ x ∈ F,x < ps.length) ∧ 0 < F.length:=by
 have hl:=h.len
 obtain ⟨F,s3,s4,e,e1,e2,_,e4⟩:=o_while h 1000 100000 [] [0] .un .un (by simp; omega) (by decide) (by decide) List.nodup_nil (by simp) (fun x hx=>by rw [List.mem_singleton.mp hx]; exact hl.1)
 exact ⟨F,mkN_rf rfl (seq_to (δ':=[.sh (wd ps),.ow (.lst []),.un,.un,.un]) rfl (seq_to (δ':=os (wd ps) [] [0] .un .un) rfl (seq_to e (seq_rf rfl)))),e1,e2,e4 (by simp)⟩
end Ta
set_option maxHeartbeats 0
namespace Ta
open PySem DL W K22
theorem eqdi (a b:Int):eqDD (.int a) (.int b) = some (.bl (decide (a = b))):=by
 unfold eqDD
 rw [if_pos ⟨by simp [lean],by simp [lean]⟩]
 by_cases h:a = b
 ·simp [deq,h]
 ·simp [deq,h]
noncomputable def T9 (c:Int):DL.GB:=(ob (o2 (o2 (gv 1) (gc (.int 9)) modD) (gc (.int c)) eqDD))
theorem t9 (c:Int) {x:Int} {δ:Ds} (h:gv 1 δ = some (.int x)):T9 c δ = some (decide (x % 9 = c)):=by
 refine Bw.b_of ?_
 rw [o2_of (x:=.int (x % 9)) (y:=.int c) (by rw [o2_of (x:=.int x) (y:=.int 9) h rfl]; rfl) rfl]
 exact eqdi _ _
theorem no9 {c x:Int} {δ:Ds} {R r:GS} {d:D} (h:gv 1 δ = some (.int x)) (hc:x % 9 ≠ c) (hr:r δ = some (.rt d)):seqD (ifD (T9 c) R nilD) r δ = some (.rt d) :=
 seq_to (by rw [if_f ((t9 c h).trans (by rw [decide_eq_false hc]))]; rfl) hr
theorem yes9 {c x:Int} {δ:Ds} {g:GE} {r:GS} {d:D} (h:gv 1 δ = some (.int x)) (hc:x % 9 = c) (hr:g δ = some d):seqD (ifD (T9 c) (seqD (retD g) nilD) nilD) r δ = some (.rt d) :=
 seq_rt (by rw [if_t ((t9 c h).trans (by rw [decide_eq_true hc]))]; exact seq_rt (ret_of hr))
theorem at_L (L:List (Nat × Nat)) {k:Nat} (h:k < L.length):ixD (.lst (L.map pN)) (.int (k:Int)) = some (pN L[k]):=by
 show atI (L.map pN) (k:Int) = _
 rw [atI_in (by omega) (by rw [List.length_map]; omega) .non,Int.toNat_natCast]
 simp [h]
theorem ne_comp:∀ L:List (Nat × Nat),compD (gN 0) (ob (o2 (gv 0) (tupG (consA (gc (.int 0)) (consA (gc (.int 0)) nilA))) neDD)) (gv 0) [.un] (L.map pN) = some ((L.filter fun p=>!decide (p = (0,0))).map pN)
 | []=>rfl
 | p :: L=>by
  have ih:=ne_comp L
  have ht:ob (o2 (gv 0) (tupG (consA (gc (.int 0)) (consA (gc (.int 0)) nilA))) neDD) [.sh (pN p)] = some (!decide (p = (0,0))):=by
   refine Bw.b_of ?_
   rw [o2_of (x:=pN p) (y:=pN (0,0)) rfl (tup_of rfl (by show 2 ≤ sizeLine; decide))]
   unfold neDD
   rw [if_pos ⟨lean_pN _ 49,lean_pN _ 49⟩,deq_pN]
  rw [List.map_cons]
  unfold compD
  rw [show gN 0 (pN p) [Sl.un] = some [.sh (pN p)] from rfl]
  dsimp only
  rw [ht,ih]
  by_cases h:p = (0,0)
  ·rw [decide_eq_true h,List.filter_cons_of_neg (by simp [h])]; rfl
  ·rw [decide_eq_false h,List.filter_cons_of_pos (by simp [h])]; rfl
theorem sw_comp {ps qs:List Pt}:∀ L:List (Nat × Nat),compD (tup2 0 1) (tAndG (ob (o2 (gv 1) (oA (consA (gv 2) nilA) lenD) ltD)) (ob (o2 (gv 0) (oA (consA (gv 3) nilA) lenD) ltD))) (tupG (consA (gv 1) (consA (gv 0) nilA))) [.un,.un,.sh (wd ps),.sh (wd qs)] (L.map pN) = some (((L.filter fun p=>decide (p.2 < ps.length) && decide (p.1 < qs.length)).map fun p=>(p.2,p.1)).map pN)
 | []=>rfl
 | p :: L=>by
  have ih:=sw_comp (ps:=ps) (qs:=qs) L
  have ht:tAndG (ob (o2 (gv 1) (oA (consA (gv 2) nilA) lenD) ltD)) (ob (o2 (gv 0) (oA (consA (gv 3) nilA) lenD) ltD)) [.sh (.int (p.1:Int)),.sh (.int (p.2:Int)),.sh (wd ps),.sh (wd qs)] = some (decide (p.2 < ps.length) && decide (p.1 < qs.length)):=by
   refine and_tf (Bw.b_of ?_) (Bw.b_of ?_)
   ·rw [o2_of (x:=.int (p.2:Int)) (y:=.int (ps.length:Int)) rfl (len_wd ps _ rfl)]
    show some (D.bl (decide ((p.2:Int) < (ps.length:Int)))) = _
    congr 2
    rw [decide_eq_decide]
    omega
   ·rw [o2_of (x:=.int (p.1:Int)) (y:=.int (qs.length:Int)) rfl (len_wd qs _ rfl)]
    show some (D.bl (decide ((p.1:Int) < (qs.length:Int)))) = _
    congr 2
    rw [decide_eq_decide]
    omega
  have hv:tupG (consA (gv 1) (consA (gv 0) nilA)) [.sh (.int (p.1:Int)),.sh (.int (p.2:Int)),.sh (wd ps),.sh (wd qs)] = some (pN (p.2,p.1)):=tup_of rfl (by show 2 ≤ sizeLine; decide)
  rw [List.map_cons]
  unfold compD
  rw [show tup2 0 1 (pN p) [Sl.un,.un,.sh (wd ps),.sh (wd qs)] = some [.sh (.int (p.1:Int)),.sh (.int (p.2:Int)),.sh (wd ps),.sh (wd qs)] from rfl]
  dsimp only
  rw [ht,ih]
  cases hb:decide (p.2 < ps.length) && decide (p.1 < qs.length) with
  | true =>
   rw [List.filter_cons_of_pos (by simpa using hb)]
   dsimp only
   rw [hv]
   rfl
  | false =>
   rw [List.filter_cons_of_neg (by rw [hb]; simp)]
theorem GL.sub {n m:Nat} {L L':List (Nat × Nat)} (h:GL n m L) (hs:∀ p ∈ L',p ∈ L) (hl:L'.length ≤ 100):GL n m L':=⟨fun p hp=>h.inr p (hs p hp),hl⟩
theorem spoilt_ok {ps qs:List Pt} (hp:Web ps) (hq:Web qs) {L:List (Nat × Nat)} (h:GL ps.length qs.length L) (h0:0 < L.length) (h9:L.length ≤ 60) (x:Int) :
  ∃ L',m__law_spoilt [.lst (L.map pN),.int x,wd ps,wd qs] = some (.lst (L'.map pN)) ∧ GL ps.length qs.length L':=by
 have zs:(2000:Nat) ≤ sizeLine:=by decide
 have hpl:=hp.len
 have hql:=hq.len
 have mo:∀ (y:Int) (n:Nat),0 < n → ∃ k:Nat,k < n ∧ y % (n:Int) = (k:Int):=fun y n hn=>by
  have b1:0 ≤ y % (n:Int):=Int.emod_nonneg _ (by omega)
  have b2:y % (n:Int) < n:=Int.emod_lt_of_pos _ (by omega)
  exact ⟨(y % (n:Int)).toNat,by omega,by omega⟩
 obtain ⟨k,hk,ek⟩:=mo (x / 9) L.length h0
 obtain ⟨a,ha,ea⟩:=mo (x / 540) ps.length hpl.1
 obtain ⟨b,hb,eb⟩:=mo (x / 7) qs.length hql.1
 obtain ⟨sp,hsp⟩:∃ sp:Ds,sp = [.sh (.lst (L.map pN)),.sh (.int x),.sh (wd ps),.sh (wd qs),.sh (.int (k:Int)),.sh (pN (a,b))]:=⟨_,rfl⟩
 have x1:gv 1 sp = some (.int x):=by rw [hsp]; rfl
 have fin:∀ {r:GS} {d:D},r sp = some (.rt d) → seqD (setD (gN 4) (o2 (o2 (gv 1) (gc (.int 9)) fdivD) (oA (consA (gv 0) nilA) lenD) modD))
   (seqD (setD (gN 5) (tupG (consA (o2 (o2 (gv 1) (gc (.int 540)) fdivD) (oA (consA (gv 2) nilA) lenD) modD) (consA (o2 (o2 (gv 1) (gc (.int 7)) fdivD) (oA (consA (gv 3) nilA) lenD) modD) nilA)))) r) [.sh (.lst (L.map pN)),.sh (.int x),.sh (wd ps),.sh (wd qs),.un,.un] = some (.rt d):=fun {r d} hr=>by
  refine seq_to (δ':=[.sh (.lst (L.map pN)),.sh (.int x),.sh (wd ps),.sh (wd qs),.sh (.int (k:Int)),.un]) (set_of ?_) (seq_to (δ':=sp) ?_ hr)
  ·rw [o2_of (x:=.int (x / 9)) (y:=.int (L.length:Int)) (by rw [o2_of (x:=.int x) (y:=.int 9) rfl rfl]; rfl) (by
    show some (D.int (((L.map pN).length:Nat):Int)) = _
    rw [List.length_map]),Gw.mod_p _ _ (by omega),ek]
  ·rw [hsp]
   refine set_of (d:=pN (a,b)) (tup_of (cons_of (d:=.int (a:Int)) ?_ (cons_of (d:=.int (b:Int)) ?_ rfl)) (by show 2 ≤ sizeLine; omega))
   ·rw [o2_of (x:=.int (x / 540)) (y:=.int (ps.length:Int)) (by rw [o2_of (x:=.int x) (y:=.int 540) rfl rfl]; rfl) (len_wd ps _ rfl),Gw.mod_p _ _ (by omega),ea]
   ·rw [o2_of (x:=.int (x / 7)) (y:=.int (qs.length:Int)) (by rw [o2_of (x:=.int x) (y:=.int 7) rfl rfl]; rfl) (len_wd qs _ rfl),Gw.mod_p _ _ (by omega),eb]
 have g0:gv 0 sp = some (.lst (L.map pN)):=by rw [hsp]; rfl
 have g4:gv 4 sp = some (.int (k:Int)):=by rw [hsp]; rfl
 have g41:o2 (gv 4) (gc (.int 1)) addA sp = some (.int ((k + 1:Nat):Int)):=by rw [o2_of (x:=.int (k:Int)) (y:=.int 1) g4 rfl]; rfl
 have g5:gv 5 sp = some (pN (a,b)):=by rw [hsp]; rfl
 have gt:slAG (gv 0) noneO (someO (gv 4)) sp = some (.lst ((L.take k).map pN)):=by rw [List.map_take]; exact sl_to g0 g4
 have gd1:slAG (gv 0) (someO (o2 (gv 4) (gc (.int 1)) addA)) noneO sp = some (.lst ((L.drop (k + 1)).map pN)):=by rw [List.map_drop]; exact sl_from g0 g41
 have gd:slAG (gv 0) (someO (gv 4)) noneO sp = some (.lst ((L.drop k).map pN)):=by rw [List.map_drop]; exact sl_from g0 g4
 have gL:o2 (gv 0) (gv 4) ixD sp = some (pN L[k]):=by rw [o2_of g0 g4]; exact at_L L hk
 have add:∀ (A B:List (Nat × Nat)) {g1 g2:GE},A.length + B.length ≤ 200 → g1 sp = some (.lst (A.map pN)) → g2 sp = some (.lst (B.map pN)) → o2 g1 g2 addA sp = some (.lst ((A ++ B).map pN)):=fun A B {g1 g2} hl h1 h2=>by
  rw [o2_of h1 h2,add_l (by rw [List.length_map,List.length_map]; omega),List.map_append]
 have lt:(L.take k).length ≤ 60:=by rw [List.length_take]; omega
 have ld:(L.drop k).length ≤ 60:=by rw [List.length_drop]; omega
 have ld1:(L.drop (k + 1)).length ≤ 60:=by rw [List.length_drop]; omega
 have lens:(L.take k).length + (L.drop k).length = L.length:=by rw [List.length_take,List.length_drop]; omega
 have lens1:(L.take k).length + (L.drop (k + 1)).length + 1 = L.length:=by rw [List.length_take,List.length_drop]; omega
 have mid:∀ (q:Nat × Nat) {g:GE},g sp = some (pN q) → lstG (consA g nilA) sp = some (.lst ([q].map pN)):=fun q {g} hg=>lst_of (cons_of hg rfl) (by show 1 ≤ sizeLine; omega)
 have inL:∀ q:Nat × Nat,q.1 < ps.length ∧ q.2 < qs.length → ∀ d,GL ps.length qs.length (L.take k ++ [q] ++ L.drop (k + d)):=fun q hq d=>⟨fun p hp=>by
  rcases List.mem_append.mp hp with z | z
  ·rcases List.mem_append.mp z with z | z
   ·exact h.inr p (List.mem_of_mem_take z)
   ·rw [List.mem_singleton.mp z]; exact hq
  ·exact h.inr p (List.mem_of_mem_drop z),by
   have:(L.drop (k + d)).length ≤ L.length - k:=by rw [List.length_drop]; omega
   rw [List.length_append,List.length_append,List.length_singleton]
   rw [List.length_take] at lt ⊢
   omega⟩
 have hLk:=h.inr _ (List.getElem_mem hk)
 have e9:x % 9 = 0 ∨ x % 9 = 1 ∨ x % 9 = 2 ∨ x % 9 = 3 ∨ x % 9 = 4 ∨ x % 9 = 5 ∨ x % 9 = 6 ∨ x % 9 = 7 ∨ x % 9 = 8:=by omega
 rcases e9 with e | e | e | e | e | e | e | e | e
 ·refine ⟨L.take k ++ L.drop (k + 1),mkF_rt rfl (fin (yes9 x1 e (add _ _ (by omega) gt gd1))),h.sub (fun p hp=>?_) (by rw [List.length_append]; omega)⟩
  rcases List.mem_append.mp hp with z | z
  ·exact List.mem_of_mem_take z
  ·exact List.mem_of_mem_drop z
 ·refine ⟨L.filter fun p=>!decide (p = (0,0)),mkF_rt rfl (fin (no9 x1 (by omega) (yes9 x1 e (comp_of (items:=L.map pN) (by show Option.bind (gv 0 sp) asLst = _; rw [g0]; rfl) (by rw [List.length_map]; omega) (by subst hsp; exact ne_comp L))))),h.sub (fun p hp=>(List.mem_filter.mp hp).1) ?_⟩
  have:=List.length_filter_le (fun p=>!decide (p = (0,0))) L
  omega
 ·exact ⟨L ++ [(a,b)],mkF_rt rfl (fin (no9 x1 (by omega) (no9 x1 (by omega) (yes9 x1 e (add _ _ (by rw [List.length_singleton]; omega) g0 (mid (a,b) g5)))))),⟨fun p hp=>by
   rcases List.mem_append.mp hp with z | z
   ·exact h.inr p z
   ·rw [List.mem_singleton.mp z]; exact ⟨ha,hb⟩,by rw [List.length_append,List.length_singleton]; omega⟩⟩
 ·exact ⟨L.take k ++ [L[k]] ++ L.drop k,mkF_rt rfl (fin (no9 x1 (by omega) (no9 x1 (by omega) (no9 x1 (by omega) (yes9 x1 e (add _ _ (by rw [List.length_append,List.length_singleton]; omega) (add _ _ (by rw [List.length_singleton]; omega) gt (mid L[k] gL)) gd)))))),inL L[k] hLk 0⟩
 ·exact ⟨L.take k ++ [(L[k].1,b)] ++ L.drop (k + 1),mkF_rt rfl (fin (no9 x1 (by omega) (no9 x1 (by omega) (no9 x1 (by omega) (no9 x1 (by omega) (yes9 x1 e (add _ _ (by rw [List.length_append,List.length_singleton]; omega) (add _ _ (by rw [List.length_singleton]; omega) gt (mid (L[k].1,b) (tup_of (cons_of (by rw [o2_of (x:=pN L[k]) (y:=.int 0) gL rfl]; rfl) (cons_of (by rw [o2_of (x:=pN (a,b)) (y:=.int 1) g5 rfl]; rfl) rfl)) (by show 2 ≤ sizeLine; omega)))) gd1))))))),inL (L[k].1,b) ⟨hLk.1,hb⟩ 1⟩
 ·exact ⟨L.take k ++ [(a,L[k].2)] ++ L.drop (k + 1),mkF_rt rfl (fin (no9 x1 (by omega) (no9 x1 (by omega) (no9 x1 (by omega) (no9 x1 (by omega) (no9 x1 (by omega) (yes9 x1 e (add _ _ (by rw [List.length_append,List.length_singleton]; omega) (add _ _ (by rw [List.length_singleton]; omega) gt (mid (a,L[k].2) (tup_of (cons_of (by rw [o2_of (x:=pN (a,b)) (y:=.int 0) g5 rfl]; rfl) (cons_of (by rw [o2_of (x:=pN L[k]) (y:=.int 1) gL rfl]; rfl) rfl)) (by show 2 ≤ sizeLine; omega)))) gd1)))))))),inL (a,L[k].2) ⟨ha,hLk.2⟩ 1⟩
 ·refine ⟨(L.filter fun p=>decide (p.2 < ps.length) && decide (p.1 < qs.length)).map fun p=>(p.2,p.1),mkF_rt rfl (fin (no9 x1 (by omega) (no9 x1 (by omega) (no9 x1 (by omega) (no9 x1 (by omega) (no9 x1 (by omega) (no9 x1 (by omega) (yes9 x1 e (comp_of (items:=L.map pN) (by show Option.bind (gv 0 sp) asLst = _; rw [g0]; rfl) (by rw [List.length_map]; omega) (by subst hsp; exact sw_comp L)))))))))),⟨fun p hp=>?_,?_⟩⟩
  ·obtain ⟨q,hq',rfl⟩:=List.mem_map.mp hp
   have:=(List.mem_filter.mp hq').2
   rw [Bool.and_eq_true,decide_eq_true_iff,decide_eq_true_iff] at this
   exact this
  ·rw [List.length_map]
   have:=List.length_filter_le (fun p:Nat × Nat=>decide (p.2 < ps.length) && decide (p.1 < qs.length)) L
   omega
 ·exact ⟨[],mkF_rt rfl (fin (no9 x1 (by omega) (no9 x1 (by omega) (no9 x1 (by omega) (no9 x1 (by omega) (no9 x1 (by omega) (no9 x1 (by omega) (no9 x1 (by omega) (yes9 x1 e (lst_of rfl (by show 0 ≤ sizeLine; omega))))))))))),⟨by simp,by simp⟩⟩
 ·refine ⟨L.reverse,mkF_rt rfl (fin (no9 x1 (by omega) (no9 x1 (by omega) (no9 x1 (by omega) (no9 x1 (by omega) (no9 x1 (by omega) (no9 x1 (by omega) (no9 x1 (by omega) (no9 x1 (by omega) (seq_rt (ret_of ?_))))))))))),h.sub (fun p hp=>List.mem_reverse.mp hp) (by rw [List.length_reverse]; omega)⟩
  unfold revG
  rw [g0,List.map_reverse]
  rfl
end Ta
set_option maxHeartbeats 0
namespace Ta
open PySem DL W K22 SoT
noncomputable def zz (p:Nat × Nat):Int × Int:=((p.1:Int),(p.2:Int))
noncomputable def nn2 (q:Int × Int):Nat × Nat:=(q.1.toNat,q.2.toNat)
theorem zz_inj {p q:Nat × Nat} (h:zz p = zz q):p = q:=by
 obtain ⟨a,b⟩:=p
 obtain ⟨c,d⟩:=q
 have h1:(a:Int) = (c:Int):=congrArg Prod.fst h
 have h2:(b:Int) = (d:Int):=congrArg Prod.snd h
 exact Prod.ext (by show a = c; omega) (by show b = d; omega)
theorem nd_map {α β:Type} {f:α → β} (hf:∀ a b,f a = f b → a = b):∀ {l:List α},l.Nodup → (l.map f).Nodup
 | [],_=>List.nodup_nil
 | a :: l,h=>by
  rw [List.nodup_cons] at h
  rw [List.map_cons,List.nodup_cons]
  refine ⟨fun z=>?_,nd_map hf h.2⟩
  obtain ⟨b,hb,e⟩:=List.mem_map.mp z
  exact h.1 (hf _ _ e ▸ hb)
theorem sorted_ok {n m:Nat} {L:List (Nat × Nat)} (h:GL n m L) (hn:L.Nodup) (h9:L.length ≤ 60):∃ L',sortTD [.lst (L.map pN)] = some (.lst (L'.map pN)) ∧ GL n m L':=by
 have e1:L.map pN = (L.map zz).map pD:=by rw [List.map_map]; rfl
 have pm:=srt_perm (L.map zz)
 have e2:(srt (L.map zz)).map pD = ((srt (L.map zz)).map nn2).map pN:=by
  rw [List.map_map]
  refine List.map_congr_left fun q hq=>?_
  obtain ⟨p,hp,rfl⟩:=List.mem_map.mp (pm.mem_iff.mp hq)
  rfl
 refine ⟨(srt (L.map zz)).map nn2,?_,⟨fun p hp=>?_,?_⟩⟩
 ·rw [e1,sort_of (nd_map (fun a b=>zz_inj) hn) (by rw [List.length_map]; omega),e2]
 ·obtain ⟨q,hq,rfl⟩:=List.mem_map.mp hp
  obtain ⟨p,hp',rfl⟩:=List.mem_map.mp (pm.mem_iff.mp hq)
  exact h.inr p hp'
 ·rw [List.length_map,pm.length_eq,List.length_map]; exact h.len
theorem lr0_of {n:Nat} (h:n ≤ 1000):lrngD [.int (n:Int)] = some (.lst (nd (List.range n))):=by
 have q:∀ B:Int,0 < B → -B ≤ (n:Int) ∧ (n:Int) ≤ 1000000:=fun B hB=>by omega
 unfold lrngD
 simp only []
 rw [if_pos (q _ (by decide)),Int.toNat_natCast]
 rfl
theorem pr_comp (P:List Nat):∀ S:List Nat,(∀ k ∈ S,k < P.length) → compD (gN 0) noT (tupG (consA (gv 0) (consA (o2 (gv 1) (gv 0) ixD) nilA))) [.un,.sh (.lst (nd P))] (nd S) = some ((S.map fun k=>(k,P.getD k 0)).map pN):=fun S hS=>by
 rw [compD_map (fun d=>match d with | .int k=>pN (k.toNat,P.getD k.toNat 0) | d=>d) (fun d hd=>by
  obtain ⟨k,hk,rfl⟩:=List.mem_map.mp hd
  refine ⟨[.sh (.int (k:Int)),.sh (.lst (nd P))],rfl,rfl,?_⟩
  refine tup_of (cons_of rfl (cons_of (d:=.int ((P.getD k 0:Nat):Int)) ?_ rfl)) (by show 2 ≤ sizeLine; decide)
  rw [o2_of (x:=.lst (nd P)) (y:=.int (k:Int)) rfl rfl]
  exact at_nd P (hS k hk))]
 congr 1
 unfold nd
 rw [List.map_map,List.map_map]
 exact List.map_congr_left fun k _=>rfl
noncomputable def FB:GS:=(seqD (setD (gN 8) (o2 (o2 (o2 (oA (consA (o2 (oA (consA (gv 0) (consA (gc (.int 7)) nilA)) m__law_cell_at) (o2 (gv 7) (gv 7) mulA) addA) (consA (o2 (gv 7) (gc (.int 50)) addA) nilA)) m__law_mix) (gc (.int 9)) fdivD) (gc (.int 9)) mulA) (gv 7) addA))
 (seqD (ifD (tNotG (ob (oA (consA (gv 1) (consA (gv 3) (consA (oA (consA (gv 6) (consA (gv 8) (consA (gv 1) (consA (gv 3) nilA)))) m__law_spoilt) nilA))) m__law_asked)))
 (seqD (retD (gc (.bl false)))
 nilD)
 nilD)
 nilD))
theorem nb {g:GE} {δ:Ds} (h:g δ = some (.bl true)):tNotG (ob g) δ = some false:=by unfold tNotG ob; rw [h]; rfl
theorem fb_ok (ns:List Int) {ps qs:List Pt} (hp:Web ps) (hq:Web qs) {L:List (Nat × Nat)} (h:GL ps.length qs.length L) (h0:0 < L.length) (h9:L.length ≤ 60) (s2 s4 s5 s8:Sl) (j:Nat) (hj:j < 9) :
  ∃ s8',FB [.sh (.lst (ns.map .int)),.sh (wd ps),s2,.sh (wd qs),s4,s5,.sh (.lst (L.map pN)),.sh (.int (j:Int)),s8] = some (.nx [.sh (.lst (ns.map .int)),.sh (wd ps),s2,.sh (wd qs),s4,s5,.sh (.lst (L.map pN)),.sh (.int (j:Int)),s8']):=by
 obtain ⟨c,hc⟩:=cell_ok ns 7 (by decide)
 obtain ⟨x,_,_,hx⟩:=mix_ok (c + (j:Int) * (j:Int)) ((j:Int) + 50) (by omega)
 obtain ⟨L',e,hL'⟩:=spoilt_ok hp hq h h0 h9 (x / 9 * 9 + (j:Int))
 refine ⟨.sh (.int (x / 9 * 9 + (j:Int))),seq_to (set_of (d:=.int (x / 9 * 9 + (j:Int))) ?_) (seq_to ?_ rfl)⟩
 ·rw [o2_of (x:=.int (x / 9 * 9)) (y:=.int (j:Int)) (by
   rw [o2_of (x:=.int (x / 9)) (y:=.int 9) (by
    rw [o2_of (x:=.int x) (y:=.int 9) (by
     rw [oA_of (ds:=[.int (c + (j:Int) * (j:Int)),.int ((j:Int) + 50)]) (cons_of (by
      rw [o2_of (x:=.int c) (y:=.int ((j:Int) * (j:Int))) (by rw [oA_of (ds:=[.lst (ns.map .int),.int 7]) rfl]; exact hc) (by
       rw [o2_of (x:=.int (j:Int)) (y:=.int (j:Int)) rfl rfl]
       exact Gw.mul_l _ _ (by omega))]
      rfl) (cons_of (by rw [o2_of (x:=.int (j:Int)) (y:=.int 50) rfl rfl]; rfl) rfl))]
     exact hx) rfl]
    rfl) rfl]
   exact Gw.mul_r _ _ (by decide)) rfl]
  rfl
 ·rw [if_f (nb ?_)]
  ·rfl
  ·rw [oA_of (ds:=[wd ps,wd qs,.lst (L'.map pN)]) (cons_of rfl (cons_of rfl (cons_of (by
    rw [oA_of (ds:=[.lst (L.map pN),.int (x / 9 * 9 + (j:Int)),wd ps,wd qs]) rfl]
    exact e) rfl)))]
   exact asked_ok hp hq hL'
theorem or_ff {g1 g2:DL.GB} {δ:Ds} (h1:g1 δ = some false) (h2:g2 δ = some false):tOrG g1 g2 δ = some false:=by unfold tOrG; rw [h1]; exact h2
theorem eqi1 (c:Int) {g:GE} {δ:Ds} {y:Int} (h:g δ = some (.int y)):ob (o2 g (gc (.int c)) eqD) δ = some (decide (y = c)):=Bw.b_of (by rw [o2_of (x:=.int y) (y:=.int c) h rfl]; rfl)
theorem law_true (ns:List Int) (hl:ns.length ≤ 63):m_law [.lst (ns.map .int)] = some (.bl true):=by
 have zs:(2000:Nat) ≤ sizeLine:=by decide
 obtain ⟨ps,hps,wps,l30⟩:=drawn_ok ns hl
 obtain ⟨t,ht⟩:=cell_ok ns 4 (by decide)
 obtain ⟨c5,h5⟩:=cell_ok ns 5 (by decide)
 obtain ⟨x5,_,_,hx5⟩:=mix_ok c5 21 (by decide)
 obtain ⟨mo,hmo,emo⟩:∃ mo:Nat,mo ≤ 5 ∧ t % 6 = (mo:Int):=⟨(t % 6).toNat,by omega,by omega⟩
 obtain ⟨q0,P,hr,wq0,lq0,lP,hP⟩:=renumbered_ok wps l30 x5 mo hmo
 obtain ⟨c6,h6⟩:=cell_ok ns 6 (by decide)
 obtain ⟨x6,_,_,hx6⟩:=mix_ok c6 9 (by decide)
 obtain ⟨q1,hq1,wq1,lq1⟩:=changed_ok wq0 x6
 obtain ⟨F,hF,nF,bF,pF⟩:=order_ok wps
 have hpl:=wps.len
 obtain ⟨S,nS,bS,pS,eS⟩:∃ S:List Nat,S.Nodup ∧ (∀ k ∈ S,k < ps.length) ∧ 0 < S.length ∧ ifD (ob (o2 (o2 (o2 (gv 2) (gc (.int 18)) fdivD) (gc (.int 2)) modD) (gc (.int 1)) eqD)) (seqD (setD (gN 5) (oA (consA (gv 1) nilA) m__law_order)) nilD) nilD [.sh (.lst (ns.map .int)),.sh (wd ps),.sh (.int t),.sh (wd q0),.sh (.lst (nd P)),.sh (.lst (nd (List.range ps.length))),.un,.un,.un] = some (.nx [.sh (.lst (ns.map .int)),.sh (wd ps),.sh (.int t),.sh (wd q0),.sh (.lst (nd P)),.sh (.lst (nd S)),.un,.un,.un]):=by
  have ht:ob (o2 (o2 (o2 (gv 2) (gc (.int 18)) fdivD) (gc (.int 2)) modD) (gc (.int 1)) eqD) [.sh (.lst (ns.map .int)),.sh (wd ps),.sh (.int t),.sh (wd q0),.sh (.lst (nd P)),.sh (.lst (nd (List.range ps.length))),.un,.un,.un] = some (decide (t / 18 % 2 = 1)):=eqi1 1 (by
   rw [o2_of (x:=.int (t / 18)) (y:=.int 2) (by rw [o2_of (x:=.int t) (y:=.int 18) rfl rfl]; rfl) rfl]; rfl)
  by_cases z:t / 18 % 2 = 1
  ·refine ⟨F,nF,bF,pF,?_⟩
   rw [if_t (ht.trans (by rw [decide_eq_true z]))]
   refine seq_to (set_of ?_) rfl
   rw [oA_of (ds:=[wd ps]) rfl]
   exact hF
  ·refine ⟨List.range ps.length,List.nodup_range,fun k hk=>List.mem_range.mp hk,by rw [List.length_range]; exact hpl.1,?_⟩
   rw [if_f (ht.trans (by rw [decide_eq_false z]))]
   rfl
 have lS:S.length ≤ 30:=by
  have:=sub_len nS (m:=List.range ps.length) fun y hy=>List.mem_range.mpr (bS y hy)
  rw [List.length_range] at this
  omega
 obtain ⟨L,eL⟩:∃ L:List (Nat × Nat),L = S.map fun k=>(k,P.getD k 0):=⟨_,rfl⟩
 have lL:L.length = S.length:=by rw [eL,List.length_map]
 have nL:L.Nodup:=by rw [eL]; exact nd_map (fun a b e=>congrArg Prod.fst e) nS
 have gL:GL ps.length q0.length L:=⟨fun p hp=>by
  rw [eL] at hp
  obtain ⟨k,hk,rfl⟩:=List.mem_map.mp hp
  exact ⟨bS k hk,hP _ (getD_mem (by have:=bS k hk; omega))⟩,by omega⟩
 obtain ⟨qs,wq,lq,eq⟩:∃ qs:List Pt,Web qs ∧ qs.length = q0.length ∧ ifD (ob (o2 (o2 (o2 (gv 2) (gc (.int 6)) fdivD) (gc (.int 3)) modD) (gc (.int 1)) eqD)) (seqD (setD (gN 3) (oA (consA (gv 3) (consA (oA (consA (oA (consA (gv 0) (consA (gc (.int 6)) nilA)) m__law_cell_at) (consA (gc (.int 9)) nilA)) m__law_mix) nilA)) m__law_changed)) nilD) nilD [.sh (.lst (ns.map .int)),.sh (wd ps),.sh (.int t),.sh (wd q0),.sh (.lst (nd P)),.sh (.lst (nd S)),.sh (.lst (L.map pN)),.un,.un] = some (.nx [.sh (.lst (ns.map .int)),.sh (wd ps),.sh (.int t),.sh (wd qs),.sh (.lst (nd P)),.sh (.lst (nd S)),.sh (.lst (L.map pN)),.un,.un]):=by
  have ht:ob (o2 (o2 (o2 (gv 2) (gc (.int 6)) fdivD) (gc (.int 3)) modD) (gc (.int 1)) eqD) [.sh (.lst (ns.map .int)),.sh (wd ps),.sh (.int t),.sh (wd q0),.sh (.lst (nd P)),.sh (.lst (nd S)),.sh (.lst (L.map pN)),.un,.un] = some (decide (t / 6 % 3 = 1)):=eqi1 1 (by
   rw [o2_of (x:=.int (t / 6)) (y:=.int 3) (by rw [o2_of (x:=.int t) (y:=.int 6) rfl rfl]; rfl) rfl]; rfl)
  by_cases z:t / 6 % 3 = 1
  ·refine ⟨q1,wq1,lq1,?_⟩
   rw [if_t (ht.trans (by rw [decide_eq_true z]))]
   refine seq_to (set_of (d:=wd q1) ?_) rfl
   rw [oA_of (ds:=[wd q0,.int x6]) (cons_of rfl (cons_of (by
    rw [oA_of (ds:=[.int c6,.int 9]) (cons_of (by rw [oA_of (ds:=[.lst (ns.map .int),.int 6]) rfl]; exact h6) rfl)]
    exact hx6) rfl))]
   exact hq1
  ·refine ⟨q0,wq0,rfl,?_⟩
   rw [if_f (ht.trans (by rw [decide_eq_false z]))]
   rfl
 rw [← lq] at gL
 obtain ⟨L2,eL2,gL2⟩:=sorted_ok gL nL (by omega)
 obtain ⟨δ',lo,s7,s8,rfl⟩:=forD_inv (f:=gN 7) (G:=FB) (fun _ δ=>∃ s7 s8:Sl,δ = [.sh (.lst (ns.map .int)),.sh (wd ps),.sh (.int t),.sh (wd qs),.sh (.lst (nd P)),.sh (.lst (nd S)),.sh (.lst (L.map pN)),s7,s8]) (rngD 0 9) 0 [.sh (.lst (ns.map .int)),.sh (wd ps),.sh (.int t),.sh (wd qs),.sh (.lst (nd P)),.sh (.lst (nd S)),.sh (.lst (L.map pN)),.un,.un] (by
  rintro j d δ hj ⟨s7,s8,rfl⟩
  obtain ⟨hj9,rfl⟩:=rng_get hj
  obtain ⟨s8',e⟩:=fb_ok ns wps wq gL (by omega) (by omega) (.sh (.int t)) (.sh (.lst (nd P))) (.sh (.lst (nd S))) s8 j (by omega)
  exact ⟨_,_,rfl,e,_,s8',rfl⟩) ⟨.un,.un,rfl⟩
 refine mkF_rt rfl (seq_to (set_of (d:=wd ps) ?_) (seq_to (set_of (d:=.int t) ?_) (seq_to (δ':=[.sh (.lst (ns.map .int)),.sh (wd ps),.sh (.int t),.sh (wd q0),.sh (.lst (nd P)),.un,.un,.un,.un]) ?_ (seq_to (set_of (d:=.lst (nd (List.range ps.length))) ?_) (seq_to eS (seq_to (set_of (d:=.lst (L.map pN)) ?_) (seq_to eq (seq_to (δ':=[.sh (.lst (ns.map .int)),.sh (wd ps),.sh (.int t),.sh (wd qs),.sh (.lst (nd P)),.sh (.lst (nd S)),.sh (.lst (L.map pN)),.un,.un]) ?_ (seq_to (for_of (rng1_of (n:=9) rfl (by decide) (by decide)) lo) (seq_rt (ret_of rfl)))))))))))
 ·rw [oA_of (ds:=[.lst (ns.map .int),.int 30]) rfl]
  exact hps
 ·rw [oA_of (ds:=[.lst (ns.map .int),.int 4]) rfl]
  exact ht
 ·unfold asgX pureX
  rw [oA_of (ds:=[wd ps,.int x5,.int (mo:Int)]) (cons_of rfl (cons_of (by
   rw [oA_of (ds:=[.int c5,.int 21]) (cons_of (by rw [oA_of (ds:=[.lst (ns.map .int),.int 5]) rfl]; exact h5) rfl)]
   exact hx5) (cons_of (by rw [o2_of (x:=.int t) (y:=.int 6) rfl rfl,Gw.mod_p _ _ (by decide),emo]) rfl))),hr]
  rfl
 ·rw [oA_of (ds:=[.int (ps.length:Int)]) (cons_of (len_wd ps _ rfl) rfl)]
  exact lr0_of (by omega)
 ·rw [eL]
  refine comp_of (items:=nd S) rfl (by rw [nd_len]; omega) ?_
  exact pr_comp P S fun k hk=>by have:=bS k hk; omega
 ·rw [if_f ?_]
  ·rfl
  ·refine or_ff (nb ?_) (nb ?_)
   ·rw [oA_of (ds:=[wd ps,wd qs,.lst (L.map pN)]) rfl]
    exact asked_ok wps wq gL
   ·rw [oA_of (ds:=[wd ps,wd qs,.lst (L2.map pN)]) (cons_of rfl (cons_of rfl (cons_of (by
     rw [oA_of (ds:=[.lst (L.map pN)]) rfl]
     exact eL2) rfl)))]
    exact asked_ok wps wq gL2
end Ta
namespace Ta
open PySem L2 DL W
noncomputable def top (i:Nat):Stmt:=PySem.Challenge.pw_graphpack_k18_what_is_a_pairing.main.body.getD i (.Pass ⟨0,0,0,0⟩)
theorem b_all:bootBuiltins "all" = some (.builtin "all"):=by decide +kernel
theorem b_bool:bootBuiltins "bool" = some (.type "bool"):=by decide +kernel
theorem b_dict:bootBuiltins "dict" = some (.type "dict"):=by decide +kernel
theorem b_int:bootBuiltins "int" = some (.type "int"):=by decide +kernel
theorem b_list:bootBuiltins "list" = some (.type "list"):=by decide +kernel
theorem b_sorted:bootBuiltins "sorted" = some (.builtin "sorted"):=by decide +kernel
theorem b_tuple:bootBuiltins "tuple" = some (.type "tuple"):=by decide +kernel
structure Txt (mg:Str → Option Value):Prop where
 b_all:mg "all" = none
 b_bool:mg "bool" = none
 b_dict:mg "dict" = none
 b_int:mg "int" = none
 b_isinstance:mg "isinstance" = none
 b_len:mg "len" = none
 b_list:mg "list" = none
 b_range:mg "range" = none
 b_reversed:mg "reversed" = none
 b_set:mg "set" = none
 b_sorted:mg "sorted" = none
 b_tuple:mg "tuple" = none
 b_zip:mg "zip" = none
section
variable {P:Program} {w:World} {K:W.Frag} {mg:Str → Option Value} {base:Heap}
theorem sc_pair_names:FnScope ["part"] ["part"] (defScope (top 1)):=⟨rfl,rfl,rfl,by decide +kernel,rfl,by decide +kernel,by decide +kernel⟩
set_option maxHeartbeats 0 in
theorem ok_pair_names {fa:Addr} {fd:FuncData} (F:Fun K "pair_names" "pair_names" (top 1) fa fd) (T:Txt mg)  : FnOk P w K mg base CX0 1 fa fd ["part"] (spN K m_pair_names) :=
 okN (k:=0) (G:=G_pair_names) F sc_pair_names (fun cdv A outer s H E hr=>(pssd_cons (psd_if (PWD.pt (pwd_or (ptd_cmp op_eq op2_eq (pd_ix' (pd_var 0) pd_int) pd_str) (pwd_or1 (ptd_cmp op_eq op2_eq (pd_ix' (pd_var 0) pd_int) pd_str))))
   (pssd_cons (psd_retF (pdf_lst pda_nil))
   pssd_nil)
   pssd_nil)
   (pssd_cons (psd_retF (pdf_cmpD (sc:=defScope (top 1)) (N:=["part"]) (N':=["pair"]) (n:=1) (caps:=[]) ⟨rfl,by decide +kernel,by decide +kernel,by decide +kernel,by decide +kernel,rfl,by decide +kernel⟩ (by decide) (pid_tup (pd_ix' (pd_var 0) (pd_neg pd_int))) (fun cl s H ex=>pgd_name 0 (by decide +kernel:(["pair"]:List Str).Nodup)) (fun cl s H ex=>pfd_nil) (fun cl s H ex=>(pd_ix' (pd_var 0) pd_int))))
   pssd_nil))) (fun ds d h=>mkN_ok h)
theorem sc_head:FnScope ["part"] ["part"] (defScope (top 2)):=⟨rfl,rfl,rfl,by decide +kernel,rfl,by decide +kernel,by decide +kernel⟩
set_option maxHeartbeats 0 in
theorem ok_head {fa:Addr} {fd:FuncData} (F:Fun K "head" "head" (top 2) fa fd) (T:Txt mg) (C_pair_names:FnN P w K mg base "pair_names" 1 ["part"] m_pair_names):FnOk P w K mg base CX0 2 fa fd ["part"] (spD K m_head) :=
 okD (k:=1) (G:=G_head) F sc_head (fun cdv A outer s H E hr=>(pssd_cons (psd_if (ptd_cmp op_eq op2_eq (pd_ix' (pd_var 0) pd_int) pd_str)
   (pssd_cons (psd_ret (pd_tup (pda_cons pd_str (pda_cons (pd_ix' (pd_var 0) pd_int) pda_nil))))
   pssd_nil)
   pssd_nil)
   (pssd_cons (psd_if (ptd_cmp op_eq op2_eq (pd_ix' (pd_var 0) pd_int) pd_str)
   (pssd_cons (psd_ret (pd_tup (pda_cons pd_str (pda_cons (pd_len T.b_len (pda_cons (pd_ix' (pd_var 0) pd_int) pda_nil)) pda_nil))))
   pssd_nil)
   pssd_nil)
   (pssd_cons (psd_if (ptd_cmp op_eq op2_eq (pd_ix' (pd_var 0) pd_int) pd_str)
   (pssd_cons (psd_ret (pd_tup (pda_cons pd_str (pda_cons (pd_callTy call_tuple_of fn_tup T.b_tuple b_tuple (pda_cons (pd_fnN C_pair_names hr (by decide) (pda_cons (pd_var 0) pda_nil)) pda_nil)) pda_nil))))
   pssd_nil)
   pssd_nil)
   (pssd_cons (psd_ret (pd_tup (pda_cons pd_str (pda_cons (pd_ix' (pd_var 0) pd_int) (pda_cons (pd_callTy call_tuple_of fn_tup T.b_tuple b_tuple (pda_cons (pd_fnN C_pair_names hr (by decide) (pda_cons (pd_var 0) pda_nil)) pda_nil)) pda_nil)))))
   pssd_nil))))) (fun ds d h=>mkF_ok h)
theorem sc_values:FnScope ["part"] ["part"] (defScope (top 3)):=⟨rfl,rfl,rfl,by decide +kernel,rfl,by decide +kernel,by decide +kernel⟩
set_option maxHeartbeats 0 in
theorem ok_values {fa:Addr} {fd:FuncData} (F:Fun K "values" "values" (top 3) fa fd) (T:Txt mg)  : FnOk P w K mg base CX0 1 fa fd ["part"] (spN K m_values) :=
 okN (k:=0) (G:=G_values) F sc_values (fun cdv A outer s H E hr=>(pssd_cons (psd_if (ptd_cmp op_eq op2_eq (pd_ix' (pd_var 0) pd_int) pd_str)
   (pssd_cons (psd_retF (pdf_lst pda_nil))
   pssd_nil)
   pssd_nil)
   (pssd_cons (psd_if (ptd_cmp op_eq op2_eq (pd_ix' (pd_var 0) pd_int) pd_str)
   (pssd_cons (psd_retF (pdf_list T.b_list b_list (pd_ix' (pd_var 0) pd_int)))
   pssd_nil)
   pssd_nil)
   (pssd_cons (psd_retF (pdf_cmpD (sc:=defScope (top 3)) (N:=["part"]) (N':=["pair"]) (n:=1) (caps:=[]) ⟨rfl,by decide +kernel,by decide +kernel,by decide +kernel,by decide +kernel,rfl,by decide +kernel⟩ (by decide) (pid_tup (pd_ix' (pd_var 0) (pd_neg pd_int))) (fun cl s H ex=>pgd_name 0 (by decide +kernel:(["pair"]:List Str).Nodup)) (fun cl s H ex=>pfd_nil) (fun cl s H ex=>(pd_ix' (pd_var 0) pd_int))))
   pssd_nil)))) (fun ds d h=>mkN_ok h)
theorem sc_are_links:FnScope ["both"] ["both"] (defScope (top 5)):=⟨rfl,rfl,rfl,by decide +kernel,rfl,by decide +kernel,by decide +kernel⟩
set_option maxHeartbeats 0 in
theorem ok_are_links {fa:Addr} {fd:FuncData} (F:Fun K "are_links" "are_links" (top 5) fa fd) (T:Txt mg)  : FnOk P w K mg base CX0 1 fa fd ["both"] (spD K m_are_links) :=
 okD (k:=0) (G:=G_are_links) F sc_are_links (fun cdv A outer s H E hr=>(pssd_cons (psd_ret (pd_and (pd_isi okT_tuple b_tuple T.b_isinstance T.b_tuple (pd_ix' (pd_var 0) pd_int)) (pd_one (pd_isi okT_tuple b_tuple T.b_isinstance T.b_tuple (pd_ix' (pd_var 0) pd_int)))))
   pssd_nil)) (fun ds d h=>mkF_ok h)
theorem sc_linked_pair:FnScope ["both"] ["both"] (defScope (top 6)):=⟨rfl,rfl,rfl,by decide +kernel,rfl,by decide +kernel,by decide +kernel⟩
set_option maxHeartbeats 0 in
theorem ok_linked_pair {fa:Addr} {fd:FuncData} (F:Fun K "linked_pair" "linked_pair" (top 6) fa fd) (T:Txt mg)  : FnOk P w K mg base CX0 1 fa fd ["both"] (spD K m_linked_pair) :=
 okD (k:=0) (G:=G_linked_pair) F sc_linked_pair (fun cdv A outer s H E hr=>(pssd_cons (psd_ret (pd_tup (pda_cons (pd_ix' (pd_ix' (pd_var 0) pd_int) pd_int) (pda_cons (pd_ix' (pd_ix' (pd_var 0) pd_int) pd_int) pda_nil))))
   pssd_nil)) (fun ds d h=>mkF_ok h)
theorem sc_are_closed:FnScope ["one", "other", "pairs", "listed"] ["one", "other", "pairs"] (defScope (top 7)):=⟨rfl,rfl,rfl,by decide +kernel,rfl,by decide +kernel,by decide +kernel⟩
set_option maxHeartbeats 0 in
theorem ok_are_closed {fa:Addr} {fd:FuncData} (F:Fun K "are_closed" "are_closed" (top 7) fa fd) (T:Txt mg) (C_are_parts:FnD P w K mg base "are_parts" 1 ["one", "other", "pair"] m_are_parts) (C_is_upheld:FnD P w K mg base "is_upheld" 3 ["one", "other", "pair", "listed"] m_is_upheld):FnOk P w K mg base CX0 4 fa fd ["one", "other", "pairs"] (spD K m_are_closed) :=
 okD (k:=3) (G:=G_are_closed) F sc_are_closed (fun cdv A outer s H E hr=>(pssd_cons (psd_asg (PDF.pd (pdf_dictP (Nat.lt_of_le_of_lt (Nat.add_le_add_left (by decide:2 ≤ 64) _) hr.units) rfl T.b_dict b_dict (pd_cmpD (sc:=defScope (top 7)) (N:=["one", "other", "pairs", "listed"]) (N':=["pair"]) (n:=1) (caps:=[]) ⟨rfl,by decide +kernel,by decide +kernel,by decide +kernel,by decide +kernel,rfl,by decide +kernel⟩ (by decide) (pid_list (pd_var 2)) (fun cl s H ex=>pgd_name 0 (by decide +kernel:(["pair"]:List Str).Nodup)) (fun cl s H ex=>pfd_nil) (fun cl s H ex=>(pd_tup (pda_cons (pd_var 0) (pda_cons pd_bl pda_nil))))))) (pgd_name 3 sc_are_closed.nd))
   (pssd_cons (psd_ret (pd_callB (call_all rfl) fn_all T.b_all b_all (pda_cons (pd_cmpD (sc:=defScope (top 7)) (N:=["one", "other", "pairs", "listed"]) (N':=["pair", "one", "other", "listed"]) (n:=1) (caps:=[0,1,3]) ⟨rfl,by decide +kernel,by decide +kernel,by decide +kernel,by decide +kernel,rfl,by decide +kernel⟩ (by decide) (pid_list (pd_var 2)) (fun cl s H ex=>pgd_name 0 (by decide +kernel:(["pair", "one", "other", "listed"]:List Str).Nodup)) (fun cl s H ex=>pfd_nil) (fun cl s H ex=>(pd_and (pd_fn C_are_parts hr (by decide) (pda_cons (pd_var 1) (pda_cons (pd_var 2) (pda_cons (pd_var 0) pda_nil)))) (pd_one (pd_fn C_is_upheld hr (by decide) (pda_cons (pd_var 1) (pda_cons (pd_var 2) (pda_cons (pd_var 0) (pda_cons (pd_var 3) pda_nil))))))))) pda_nil)))
   pssd_nil))) (fun ds d h=>mkF_ok h)
theorem sc_are_parts:FnScope ["one", "other", "pair"] ["one", "other", "pair"] (defScope (top 8)):=⟨rfl,rfl,rfl,by decide +kernel,rfl,by decide +kernel,by decide +kernel⟩
set_option maxHeartbeats 0 in
theorem ok_are_parts {fa:Addr} {fd:FuncData} (F:Fun K "are_parts" "are_parts" (top 8) fa fd) (T:Txt mg)  : FnOk P w K mg base CX0 1 fa fd ["one", "other", "pair"] (spD K m_are_parts) :=
 okD (k:=0) (G:=G_are_parts) F sc_are_parts (fun cdv A outer s H E hr=>(pssd_cons (psd_ret (pd_and (pd_chain op_le op2_le op_lt op2_lt pd_int (pd_ix' (pd_var 2) pd_int) (pd_len T.b_len (pda_cons (pd_var 0) pda_nil))) (pd_one (pd_chain op_le op2_le op_lt op2_lt pd_int (pd_ix' (pd_var 2) pd_int) (pd_len T.b_len (pda_cons (pd_var 1) pda_nil))))))
   pssd_nil)) (fun ds d h=>mkF_ok h)
theorem sc_is_upheld:FnScope ["one", "other", "pair", "listed", "both"] ["one", "other", "pair", "listed"] (defScope (top 9)):=⟨rfl,rfl,rfl,by decide +kernel,rfl,by decide +kernel,by decide +kernel⟩
set_option maxHeartbeats 0 in
theorem ok_is_upheld {fa:Addr} {fd:FuncData} (F:Fun K "is_upheld" "is_upheld" (top 9) fa fd) (T:Txt mg) (C_are_links:FnD P w K mg base "are_links" 1 ["both"] m_are_links) (C_head:FnD P w K mg base "head" 2 ["part"] m_head) (C_linked_pair:FnD P w K mg base "linked_pair" 1 ["both"] m_linked_pair) (C_values:FnN P w K mg base "values" 1 ["part"] m_values):FnOk P w K mg base CX0 3 fa fd ["one", "other", "pair", "listed"] (spD K m_is_upheld) :=
 okD (k:=2) (G:=G_is_upheld) F sc_is_upheld (fun cdv A outer s H E hr=>(pssd_cons (psd_if (ptd_cmp (op_neX hr.units) op2_neX (pd_fn C_head hr (by decide) (pda_cons (pd_ix' (pd_var 0) (pd_ix' (pd_var 2) pd_int)) pda_nil)) (pd_fn C_head hr (by decide) (pda_cons (pd_ix' (pd_var 1) (pd_ix' (pd_var 2) pd_int)) pda_nil)))
   (pssd_cons (psd_ret pd_bl)
   pssd_nil)
   pssd_nil)
   (pssd_cons (psd_for PassesOwn.never rfl (pid_zipN T.b_zip (pda_cons (pd_fnN C_values hr (by decide) (pda_cons (pd_ix' (pd_var 0) (pd_ix' (pd_var 2) pd_int)) pda_nil)) (pda_cons (pd_fnN C_values hr (by decide) (pda_cons (pd_ix' (pd_var 1) (pd_ix' (pd_var 2) pd_int)) pda_nil)) pda_nil))) (pgd_name 4 sc_is_upheld.nd)
   (pssd_cons (psd_if (ptd_val (pd_fn C_are_links hr (by decide) (pda_cons (pd_var 4) pda_nil)))
   (pssd_cons (psd_if (ptd_dnin (hu_of hr) (pd_fn C_linked_pair hr (by decide) (pda_cons (pd_var 4) pda_nil)) (pd_var 3))
   (pssd_cons (psd_ret pd_bl)
   pssd_nil)
   pssd_nil)
   pssd_nil)
   (pssd_cons (psd_if (ptd_cmp (op_neX hr.units) op2_neX (pd_ix' (pd_var 4) pd_int) (pd_ix' (pd_var 4) pd_int))
   (pssd_cons (psd_ret pd_bl)
   pssd_nil)
   pssd_nil)
   pssd_nil))
   pssd_nil))
   (pssd_cons (psd_ret pd_bl)
   pssd_nil)))) (fun ds d h=>mkF_ok h)
theorem sc_is_pairing:FnScope ["one", "other", "pairs"] ["one", "other", "pairs"] (defScope (top 11)):=⟨rfl,rfl,rfl,by decide +kernel,rfl,by decide +kernel,by decide +kernel⟩
set_option maxHeartbeats 0 in
theorem ok_is_pairing {fa:Addr} {fd:FuncData} (F:Fun K "is_pairing" "is_pairing" (top 11) fa fd) (T:Txt mg) (C_are_closed:FnD P w K mg base "are_closed" 4 ["one", "other", "pairs"] m_are_closed) (C_stand_once:FnD P w K mg base "stand_once" 1 ["pairs"] m_stand_once):FnOk P w K mg base CX0 5 fa fd ["one", "other", "pairs"] (spD K m_is_pairing) :=
 okD (k:=4) (G:=G_is_pairing) F sc_is_pairing (fun cdv A outer s H E hr=>(pssd_cons (psd_if (PWD.pt (pwd_or (ptd_cmp (op_ninX hr.units) (op2_inX true) (pd_tup (pda_cons pd_int (pda_cons pd_int pda_nil))) (pd_var 2)) (pwd_or1 (ptd_not (ptd_val (pd_fn C_stand_once hr (by decide) (pda_cons (pd_var 2) pda_nil)))))))
   (pssd_cons (psd_ret pd_bl)
   pssd_nil)
   pssd_nil)
   (pssd_cons (psd_ret (pd_fn C_are_closed hr (by decide) (pda_cons (pd_var 0) (pda_cons (pd_var 1) (pda_cons (pd_var 2) pda_nil)))))
   pssd_nil))) (fun ds d h=>mkF_ok h)
theorem sc_stand_once:FnScope ["pairs", "mine", "yours"] ["pairs"] (defScope (top 12)):=⟨rfl,rfl,rfl,by decide +kernel,rfl,by decide +kernel,by decide +kernel⟩
set_option maxHeartbeats 0 in
theorem ok_stand_once {fa:Addr} {fd:FuncData} (F:Fun K "stand_once" "stand_once" (top 12) fa fd) (T:Txt mg)  : FnOk P w K mg base CX0 1 fa fd ["pairs"] (spD K m_stand_once) :=
 okD (k:=0) (G:=G_stand_once) F sc_stand_once (fun cdv A outer s H E hr=>(pssd_cons (psd_cmpD 1 sc_stand_once.nd (sc:=defScope (top 12)) (N:=["pairs", "mine", "yours"]) (N':=["pair"]) (n:=1) (caps:=[]) ⟨rfl,by decide +kernel,by decide +kernel,by decide +kernel,by decide +kernel,rfl,by decide +kernel⟩ (by decide) (pid_list (pd_var 0)) (fun cl s H ex=>pgd_name 0 (by decide +kernel:(["pair"]:List Str).Nodup)) (fun cl s H ex=>pfd_nil) (fun cl s H ex=>(pd_ix' (pd_var 0) pd_int)))
   (pssd_cons (psd_cmpD 2 sc_stand_once.nd (sc:=defScope (top 12)) (N:=["pairs", "mine", "yours"]) (N':=["pair"]) (n:=1) (caps:=[]) ⟨rfl,by decide +kernel,by decide +kernel,by decide +kernel,by decide +kernel,rfl,by decide +kernel⟩ (by decide) (pid_list (pd_var 0)) (fun cl s H ex=>pgd_name 0 (by decide +kernel:(["pair"]:List Str).Nodup)) (fun cl s H ex=>pfd_nil) (fun cl s H ex=>(pd_ix' (pd_var 0) pd_int)))
   (pssd_cons (psd_ret (pd_and (pd_cmp op_eq op2_eq (pd_lenSetI T.b_len T.b_set (pd_var 1)) (pd_len T.b_len (pda_cons (pd_var 0) pda_nil))) (pd_one (pd_cmp op_eq op2_eq (pd_lenSetI T.b_len T.b_set (pd_var 2)) (pd_len T.b_len (pda_cons (pd_var 0) pda_nil))))))
   pssd_nil)))) (fun ds d h=>mkF_ok h)
theorem sc__law_cell_at:FnScope ["_law_script", "_law_k"] ["_law_script", "_law_k"] (defScope (top 14)):=⟨rfl,rfl,rfl,by decide +kernel,rfl,by decide +kernel,by decide +kernel⟩
set_option maxHeartbeats 0 in
theorem ok__law_cell_at {fa:Addr} {fd:FuncData} (F:Fun K "_law_cell_at" "_law_cell_at" (top 14) fa fd) (T:Txt mg)  : FnOk P w K mg base CX0 1 fa fd ["_law_script", "_law_k"] (spD K m__law_cell_at) :=
 okD (k:=0) (G:=G__law_cell_at) F sc__law_cell_at (fun cdv A outer s H E hr=>(pssd_cons (psd_if (ptd_cmp op_lt op2_lt (pd_var 1) (pd_len T.b_len (pda_cons (pd_var 0) pda_nil)))
   (pssd_cons (psd_ret (pd_ix' (pd_var 0) (pd_var 1)))
   pssd_nil)
   pssd_nil)
   (pssd_cons (psd_ret pd_int)
   pssd_nil))) (fun ds d h=>mkF_ok h)
theorem sc__law_pool:FnScope ["_law_cell", "_law_turn", "_law_signs", "_law_size", "_law_places_here", "_law_k", "_law_word", "_law_at", "_law_found", "_law_sign"] ["_law_cell", "_law_turn"] (defScope (top 15)):=⟨rfl,rfl,rfl,by decide +kernel,rfl,by decide +kernel,by decide +kernel⟩
set_option maxHeartbeats 0 in
theorem ok__law_pool {fa:Addr} {fd:FuncData} (F:Fun K "_law_pool" "_law_pool" (top 15) fa fd) (T:Txt mg)  : FnOk P w K mg base CX0 1 fa fd ["_law_cell", "_law_turn"] (spN K m__law_pool) :=
 okN (k:=0) (G:=G__law_pool) F sc__law_pool (fun cdv A outer s H E hr=>(pssd_cons (psd_asg pd_str (pgd_name 2 sc__law_pool.nd))
   (pssd_cons (psd_asg (pd_addA pd_int (pd_mod (pd_var 0) pd_int)) (pgd_name 3 sc__law_pool.nd))
   (pssd_cons (psd_asg (pd_fdiv (pd_var 0) pd_int) (pgd_name 0 sc__law_pool.nd))
   (pssd_cons (psd_own 4 (pdf_lst pda_nil) sc__law_pool.nd)
   (pssd_cons (psd_for PassesOwn.never rfl (pid_range1 T.b_range (pda_cons (pd_var 3) pda_nil)) (pgd_name 5 sc__law_pool.nd)
   (pssd_cons (psd_exprX (px_app 4 (pd_mod (pd_var 0) pd_int)))
   (pssd_cons (psd_asg (pd_fdiv (pd_var 0) pd_int) (pgd_name 0 sc__law_pool.nd))
   pssd_nil)))
   (pssd_cons (psd_asg (pd_bor (pd_join pd_str (pda_cons (pd_cmpD (sc:=defScope (top 15)) (N:=["_law_cell", "_law_turn", "_law_signs", "_law_size", "_law_places_here", "_law_k", "_law_word", "_law_at", "_law_found", "_law_sign"]) (N':=["_law_k", "_law_signs"]) (n:=1) (caps:=[2]) ⟨rfl,by decide +kernel,by decide +kernel,by decide +kernel,by decide +kernel,rfl,by decide +kernel⟩ (by decide) (pid_list (pd_var 4)) (fun cl s H ex=>pgd_name 0 (by decide +kernel:(["_law_k", "_law_signs"]:List Str).Nodup)) (fun cl s H ex=>pfd_nil) (fun cl s H ex=>(pd_ix' (pd_var 1) (pd_var 0)))) pda_nil))) (pgd_name 6 sc__law_pool.nd))
   (pssd_cons (psd_if (ptd_cmp op_eq op2_eq (pd_mod (pd_fdiv (pd_var 1) pd_int) pd_int) pd_int)
   (pssd_cons (psd_retF (pdf_cmpD (sc:=defScope (top 15)) (N:=["_law_cell", "_law_turn", "_law_signs", "_law_size", "_law_places_here", "_law_k", "_law_word", "_law_at", "_law_found", "_law_sign"]) (N':=["_law_k", "_law_word"]) (n:=1) (caps:=[6]) ⟨rfl,by decide +kernel,by decide +kernel,by decide +kernel,by decide +kernel,rfl,by decide +kernel⟩ (by decide) (pid_range2 T.b_range (pda_cons pd_int (pda_cons pd_int pda_nil))) (fun cl s H ex=>pgd_name 0 (by decide +kernel:(["_law_k", "_law_word"]:List Str).Nodup)) (fun cl s H ex=>pfd_nil) (fun cl s H ex=>(pd_sliceA (pd_mulI pd_int (pd_var 1)) pdo_none (pdo_some (pd_var 0))))))
   pssd_nil)
   pssd_nil)
   (pssd_cons (psd_asg (pd_mod (pd_var 1) (pd_var 3)) (pgd_name 7 sc__law_pool.nd))
   (pssd_cons (psd_own 8 (pdf_lst pda_nil) sc__law_pool.nd)
   (pssd_cons (psd_for PassesOwn.never rfl (pid_range1 T.b_range (pda_cons pd_int pda_nil)) (pgd_name 5 sc__law_pool.nd)
   (pssd_cons (psd_asg (pd_ix' (pd_var 2) (pd_mod (pd_addA (pd_bor (pd_ix' (pd_var 4) (pd_var 7))) (pd_mulA pd_int (pd_var 5))) pd_int)) (pgd_name 9 sc__law_pool.nd))
   (pssd_cons (psd_exprX (px_app 8 (pd_addA (pd_addA (pd_sliceA (pd_var 6) pdo_none (pdo_some (pd_var 7))) (pd_var 9)) (pd_sliceA (pd_var 6) (pdo_some (pd_addA (pd_var 7) pd_int)) pdo_none))))
   pssd_nil)))
   (pssd_cons (psd_retO 8)
   pssd_nil)))))))))))) (fun ds d h=>mkN_ok h)
theorem sc__law_mix:FnScope ["_law_cell", "_law_k"] ["_law_cell", "_law_k"] (defScope (top 16)):=⟨rfl,rfl,rfl,by decide +kernel,rfl,by decide +kernel,by decide +kernel⟩
set_option maxHeartbeats 0 in
theorem ok__law_mix {fa:Addr} {fd:FuncData} (F:Fun K "_law_mix" "_law_mix" (top 16) fa fd) (T:Txt mg)  : FnOk P w K mg base CX0 1 fa fd ["_law_cell", "_law_k"] (spD K m__law_mix) :=
 okD (k:=0) (G:=G__law_mix) F sc__law_mix (fun cdv A outer s H E hr=>(pssd_cons (psd_ret (pd_mod (pd_mulA (pd_addA (pd_mod (pd_var 0) pd_int) pd_int) (pd_addA pd_int (pd_mulA pd_int (pd_var 1)))) pd_int))
   pssd_nil)) (fun ds d h=>mkF_ok h)
theorem sc__law_value:FnScope ["_law_number", "_law_many", "_law_kind"] ["_law_number", "_law_many"] (defScope (top 17)):=⟨rfl,rfl,rfl,by decide +kernel,rfl,by decide +kernel,by decide +kernel⟩
set_option maxHeartbeats 0 in
theorem ok__law_value {fa:Addr} {fd:FuncData} (F:Fun K "_law_value" "_law_value" (top 17) fa fd) (T:Txt mg)  : FnOk P w K mg base CX0 1 fa fd ["_law_number", "_law_many"] (spD K m__law_value) :=
 okD (k:=0) (G:=G__law_value) F sc__law_value (fun cdv A outer s H E hr=>(pssd_cons (psd_asg (pd_mod (pd_var 0) pd_int) (pgd_name 2 sc__law_value.nd))
   (pssd_cons (psd_if (ptd_cmp op_lt op2_lt (pd_var 2) pd_int)
   (pssd_cons (psd_ret (pd_tup (pda_cons pd_str (pda_cons (pd_mod (pd_fdiv (pd_var 0) pd_int) (pd_var 1)) pda_nil))))
   pssd_nil)
   pssd_nil)
   (pssd_cons (psd_if (ptd_cmp op_eq op2_eq (pd_var 2) pd_int)
   (pssd_cons (psd_ret pd_non)
   pssd_nil)
   pssd_nil)
   (pssd_cons (psd_if (ptd_cmp op_lt op2_lt (pd_var 2) pd_int)
   (pssd_cons (psd_ret (pd_sub (pd_mod (pd_fdiv (pd_var 0) pd_int) pd_int) pd_int))
   pssd_nil)
   pssd_nil)
   (pssd_cons (psd_ret (pd_mulA (pd_mod (pd_pow (pd_fdiv (pd_var 0) pd_int) pd_int) (pd_pow pd_int pd_int)) (pd_sub pd_int (pd_mulA pd_int (pd_mod (pd_fdiv (pd_var 0) pd_int) pd_int)))))
   pssd_nil)))))) (fun ds d h=>mkF_ok h)
theorem sc__law_values:FnScope ["_law_number", "_law_count", "_law_many", "_law_found", "_law_k"] ["_law_number", "_law_count", "_law_many"] (defScope (top 18)):=⟨rfl,rfl,rfl,by decide +kernel,rfl,by decide +kernel,by decide +kernel⟩
set_option maxHeartbeats 0 in
theorem ok__law_values {fa:Addr} {fd:FuncData} (F:Fun K "_law_values" "_law_values" (top 18) fa fd) (T:Txt mg) (C__law_value:FnD P w K mg base "_law_value" 1 ["_law_number", "_law_many"] m__law_value):FnOk P w K mg base CX0 2 fa fd ["_law_number", "_law_count", "_law_many"] (spN K m__law_values) :=
 okN (k:=1) (G:=G__law_values) F sc__law_values (fun cdv A outer s H E hr=>(pssd_cons (psd_own 3 (pdf_lst pda_nil) sc__law_values.nd)
   (pssd_cons (psd_for PassesOwn.never rfl (pid_range1 T.b_range (pda_cons (pd_var 1) pda_nil)) (pgd_name 4 sc__law_values.nd)
   (pssd_cons (psd_asg (pd_mod (pd_mulA (pd_var 0) pd_int) pd_int) (pgd_name 0 sc__law_values.nd))
   (pssd_cons (psd_exprX (px_app 3 (pd_fn C__law_value hr (by decide) (pda_cons (pd_var 0) (pda_cons (pd_var 2) pda_nil)))))
   pssd_nil)))
   (pssd_cons (psd_retO 3)
   pssd_nil)))) (fun ds d h=>mkN_ok h)
theorem sc__law_part:FnScope ["_law_number", "_law_some", "_law_pool_here", "_law_kind", "_law_start", "_law_pairs"] ["_law_number", "_law_some", "_law_pool_here"] (defScope (top 19)):=⟨rfl,rfl,rfl,by decide +kernel,rfl,by decide +kernel,by decide +kernel⟩
set_option maxHeartbeats 0 in
theorem ok__law_part {fa:Addr} {fd:FuncData} (F:Fun K "_law_part" "_law_part" (top 19) fa fd) (T:Txt mg)  : FnOk P w K mg base CX0 1 fa fd ["_law_number", "_law_some", "_law_pool_here"] (spD K m__law_part) :=
 okD (k:=0) (G:=G__law_part) F sc__law_part (fun cdv A outer s H E hr=>(pssd_cons (psd_asg (pd_mod (pd_var 0) pd_int) (pgd_name 3 sc__law_part.nd))
   (pssd_cons (psd_if (ptd_cmp op_eq op2_eq (pd_var 3) pd_int)
   (pssd_cons (psd_ret (pd_tup (pda_cons pd_str (pda_cons (pd_ix' (pd_lst (pda_cons pd_str (pda_cons pd_str (pda_cons pd_str (pda_cons (pd_addA (pd_ix' (pd_var 2) pd_int) pd_str) pda_nil))))) (pd_mod (pd_fdiv (pd_var 0) pd_int) pd_int)) pda_nil))))
   pssd_nil)
   pssd_nil)
   (pssd_cons (psd_if (ptd_cmp op_lt op2_lt (pd_var 3) pd_int)
   (pssd_cons (psd_ret (pd_tup (pda_cons pd_str (pda_cons (pd_callTy call_tuple_of fn_tup T.b_tuple b_tuple (pda_cons (pd_var 1) pda_nil)) pda_nil))))
   pssd_nil)
   pssd_nil)
   (pssd_cons (psd_asg (pd_mulA (pd_mod (pd_fdiv (pd_var 0) pd_int) pd_int) pd_int) (pgd_name 4 sc__law_part.nd))
   (pssd_cons (psd_asg (pd_callTy call_tuple_of fn_tup T.b_tuple b_tuple (pda_cons (pd_cmpD (sc:=defScope (top 19)) (N:=["_law_number", "_law_some", "_law_pool_here", "_law_kind", "_law_start", "_law_pairs"]) (N':=["_law_k", "_law_some", "_law_pool_here", "_law_start"]) (n:=1) (caps:=[1,2,4]) ⟨rfl,by decide +kernel,by decide +kernel,by decide +kernel,by decide +kernel,rfl,by decide +kernel⟩ (by decide) (pid_range1 T.b_range (pda_cons (pd_len T.b_len (pda_cons (pd_var 1) pda_nil)) pda_nil)) (fun cl s H ex=>pgd_name 0 (by decide +kernel:(["_law_k", "_law_some", "_law_pool_here", "_law_start"]:List Str).Nodup)) (fun cl s H ex=>pfd_nil) (fun cl s H ex=>(pd_tup (pda_cons (pd_ix' (pd_var 2) (pd_mod (pd_addA (pd_var 3) (pd_var 0)) pd_int)) (pda_cons (pd_ix' (pd_var 1) (pd_var 0)) pda_nil))))) pda_nil)) (pgd_name 5 sc__law_part.nd))
   (pssd_cons (psd_if (ptd_cmp op_lt op2_lt (pd_var 3) pd_int)
   (pssd_cons (psd_ret (pd_tup (pda_cons pd_str (pda_cons (pd_var 5) pda_nil))))
   pssd_nil)
   pssd_nil)
   (pssd_cons (psd_ret (pd_tup (pda_cons pd_str (pda_cons (pd_ix' (pd_var 2) (pd_mod (pd_fdiv (pd_var 0) pd_int) pd_int)) (pda_cons (pd_var 5) pda_nil)))))
   pssd_nil)))))))) (fun ds d h=>mkF_ok h)
theorem sc__law_web:FnScope ["_law_cells", "_law_many", "_law_pool_here", "_law_parts", "_law_k", "_law_number", "_law_count", "_law_some"] ["_law_cells", "_law_many", "_law_pool_here"] (defScope (top 20)):=⟨rfl,rfl,rfl,by decide +kernel,rfl,by decide +kernel,by decide +kernel⟩
set_option maxHeartbeats 0 in
theorem ok__law_web {fa:Addr} {fd:FuncData} (F:Fun K "_law_web" "_law_web" (top 20) fa fd) (T:Txt mg) (C__law_mix:FnD P w K mg base "_law_mix" 1 ["_law_cell", "_law_k"] m__law_mix) (C__law_part:FnD P w K mg base "_law_part" 1 ["_law_number", "_law_some", "_law_pool_here"] m__law_part) (C__law_values:FnN P w K mg base "_law_values" 2 ["_law_number", "_law_count", "_law_many"] m__law_values):FnOk P w K mg base CX0 3 fa fd ["_law_cells", "_law_many", "_law_pool_here"] (spD K m__law_web) :=
 okD (k:=2) (G:=G__law_web) F sc__law_web (fun cdv A outer s H E hr=>(pssd_cons (psd_own 3 (pdf_lst pda_nil) sc__law_web.nd)
   (pssd_cons (psd_for PassesOwn.never rfl (pid_range1 T.b_range (pda_cons (pd_var 1) pda_nil)) (pgd_name 4 sc__law_web.nd)
   (pssd_cons (psd_asg (pd_fn C__law_mix hr (by decide) (pda_cons (pd_addA (pd_ix' (pd_var 0) (pd_mod (pd_var 4) (pd_len T.b_len (pda_cons (pd_var 0) pda_nil)))) (pd_mulA (pd_var 4) (pd_fdiv (pd_var 4) (pd_len T.b_len (pda_cons (pd_var 0) pda_nil))))) (pda_cons (pd_var 4) pda_nil))) (pgd_name 5 sc__law_web.nd))
   (pssd_cons (psd_asg (pd_ix' (pd_lst (pda_cons pd_int (pda_cons pd_int (pda_cons pd_int (pda_cons pd_int (pda_cons pd_int (pda_cons pd_int (pda_cons pd_int (pda_cons pd_int pda_nil))))))))) (pd_mod (pd_fdiv (pd_var 5) pd_int) pd_int)) (pgd_name 6 sc__law_web.nd))
   (pssd_cons (psd_if (ptd_cmp op_eq op2_eq (pd_mod (pd_fdiv (pd_var 5) pd_int) pd_int) pd_int)
   (pssd_cons (psd_asg (pd_ix' (pd_lst (pda_cons pd_int (pda_cons pd_int pda_nil))) (pd_callTy call_int1 fn_int T.b_int b_int (pda_cons (pd_cmp op_lt op2_lt (pd_mod (pd_var 5) pd_int) pd_int) pda_nil))) (pgd_name 6 sc__law_web.nd))
   pssd_nil)
   pssd_nil)
   (pssd_cons (psd_asg (pd_fnN C__law_values hr (by decide) (pda_cons (pd_addA (pd_fdiv (pd_var 5) pd_int) pd_int) (pda_cons (pd_var 6) (pda_cons (pd_var 1) pda_nil)))) (pgd_name 7 sc__law_web.nd))
   (pssd_cons (psd_exprX (px_app 3 (pd_fn C__law_part hr (by decide) (pda_cons (pd_var 5) (pda_cons (pd_var 7) (pda_cons (pd_var 2) pda_nil))))))
   pssd_nil))))))
   (pssd_cons (psd_retB (pd_callTy call_tuple_of fn_tup T.b_tuple b_tuple (pda_cons (pd_var 3) pda_nil)))
   pssd_nil)))) (fun ds d h=>mkF_ok h)
theorem sc__law_vals:FnScope ["_law_part_here"] ["_law_part_here"] (defScope (top 21)):=⟨rfl,rfl,rfl,by decide +kernel,rfl,by decide +kernel,by decide +kernel⟩
set_option maxHeartbeats 0 in
theorem ok__law_vals {fa:Addr} {fd:FuncData} (F:Fun K "_law_vals" "_law_vals" (top 21) fa fd) (T:Txt mg)  : FnOk P w K mg base CX0 1 fa fd ["_law_part_here"] (spN K m__law_vals) :=
 okN (k:=0) (G:=G__law_vals) F sc__law_vals (fun cdv A outer s H E hr=>(pssd_cons (psd_if (ptd_cmp op_eq op2_eq (pd_ix' (pd_var 0) pd_int) pd_str)
   (pssd_cons (psd_retF (pdf_lst pda_nil))
   pssd_nil)
   pssd_nil)
   (pssd_cons (psd_if (ptd_cmp op_eq op2_eq (pd_ix' (pd_var 0) pd_int) pd_str)
   (pssd_cons (psd_retF (pdf_list T.b_list b_list (pd_ix' (pd_var 0) pd_int)))
   pssd_nil)
   pssd_nil)
   (pssd_cons (psd_retF (pdf_cmpD (sc:=defScope (top 21)) (N:=["_law_part_here"]) (N':=["_law_name", "_law_value_here"]) (n:=2) (caps:=[]) ⟨rfl,by decide +kernel,by decide +kernel,by decide +kernel,by decide +kernel,rfl,by decide +kernel⟩ (by decide) (pid_tup (pd_ix' (pd_var 0) (pd_neg pd_int))) (fun cl s H ex=>pgd_tup2 0 1 (by decide +kernel:(["_law_name", "_law_value_here"]:List Str).Nodup) (by decide)) (fun cl s H ex=>pfd_nil) (fun cl s H ex=>(pd_var 1))))
   pssd_nil)))) (fun ds d h=>mkN_ok h)
theorem sc__law_head:FnScope ["_law_part_here"] ["_law_part_here"] (defScope (top 22)):=⟨rfl,rfl,rfl,by decide +kernel,rfl,by decide +kernel,by decide +kernel⟩
set_option maxHeartbeats 0 in
theorem ok__law_head {fa:Addr} {fd:FuncData} (F:Fun K "_law_head" "_law_head" (top 22) fa fd) (T:Txt mg)  : FnOk P w K mg base CX0 1 fa fd ["_law_part_here"] (spD K m__law_head) :=
 okD (k:=0) (G:=G__law_head) F sc__law_head (fun cdv A outer s H E hr=>(pssd_cons (psd_if (ptd_cmp op_eq op2_eq (pd_ix' (pd_var 0) pd_int) pd_str)
   (pssd_cons (psd_ret (pd_tup (pda_cons pd_str (pda_cons (pd_len T.b_len (pda_cons (pd_ix' (pd_var 0) pd_int) pda_nil)) pda_nil))))
   pssd_nil)
   pssd_nil)
   (pssd_cons (psd_if (ptd_cmp op_eq op2_eq (pd_ix' (pd_var 0) pd_int) pd_str)
   (pssd_cons (psd_ret (pd_var 0))
   pssd_nil)
   pssd_nil)
   (pssd_cons (psd_ret (pd_addA (pd_sliceA (pd_var 0) pdo_none (pdo_some (pd_neg pd_int))) (pd_tup (pda_cons (pd_callTy call_tuple_of fn_tup T.b_tuple b_tuple (pda_cons (pd_cmpD (sc:=defScope (top 22)) (N:=["_law_part_here"]) (N':=["_law_name", "_law_value_here"]) (n:=2) (caps:=[]) ⟨rfl,by decide +kernel,by decide +kernel,by decide +kernel,by decide +kernel,rfl,by decide +kernel⟩ (by decide) (pid_tup (pd_ix' (pd_var 0) (pd_neg pd_int))) (fun cl s H ex=>pgd_tup2 0 1 (by decide +kernel:(["_law_name", "_law_value_here"]:List Str).Nodup) (by decide)) (fun cl s H ex=>pfd_nil) (fun cl s H ex=>(pd_var 0))) pda_nil)) pda_nil))))
   pssd_nil)))) (fun ds d h=>mkF_ok h)
theorem sc__law_with:FnScope ["_law_part_here", "_law_some"] ["_law_part_here", "_law_some"] (defScope (top 23)):=⟨rfl,rfl,rfl,by decide +kernel,rfl,by decide +kernel,by decide +kernel⟩
set_option maxHeartbeats 0 in
theorem ok__law_with {fa:Addr} {fd:FuncData} (F:Fun K "_law_with" "_law_with" (top 23) fa fd) (T:Txt mg)  : FnOk P w K mg base CX0 1 fa fd ["_law_part_here", "_law_some"] (spD K m__law_with) :=
 okD (k:=0) (G:=G__law_with) F sc__law_with (fun cdv A outer s H E hr=>(pssd_cons (psd_if (ptd_cmp op_eq op2_eq (pd_ix' (pd_var 0) pd_int) pd_str)
   (pssd_cons (psd_ret (pd_var 0))
   pssd_nil)
   pssd_nil)
   (pssd_cons (psd_if (ptd_cmp op_eq op2_eq (pd_ix' (pd_var 0) pd_int) pd_str)
   (pssd_cons (psd_ret (pd_tup (pda_cons pd_str (pda_cons (pd_callTy call_tuple_of fn_tup T.b_tuple b_tuple (pda_cons (pd_var 1) pda_nil)) pda_nil))))
   pssd_nil)
   pssd_nil)
   (pssd_cons (psd_ret (pd_addA (pd_sliceA (pd_var 0) pdo_none (pdo_some (pd_neg pd_int))) (pd_tup (pda_cons (pd_callTy call_tuple_of fn_tup T.b_tuple b_tuple (pda_cons (pd_cmpD (sc:=defScope (top 23)) (N:=["_law_part_here", "_law_some"]) (N':=["_law_k", "_law_part_here", "_law_some"]) (n:=1) (caps:=[0,1]) ⟨rfl,by decide +kernel,by decide +kernel,by decide +kernel,by decide +kernel,rfl,by decide +kernel⟩ (by decide) (pid_range1 T.b_range (pda_cons (pd_len T.b_len (pda_cons (pd_var 1) pda_nil)) pda_nil)) (fun cl s H ex=>pgd_name 0 (by decide +kernel:(["_law_k", "_law_part_here", "_law_some"]:List Str).Nodup)) (fun cl s H ex=>pfd_nil) (fun cl s H ex=>(pd_tup (pda_cons (pd_ix' (pd_ix' (pd_ix' (pd_var 1) (pd_neg pd_int)) (pd_var 0)) pd_int) (pda_cons (pd_ix' (pd_var 2) (pd_var 0)) pda_nil))))) pda_nil)) pda_nil))))
   pssd_nil)))) (fun ds d h=>mkF_ok h)
theorem sc__law_led:FnScope ["_law_part_here", "_law_numbers", "_law_some", "_law_value_here"] ["_law_part_here", "_law_numbers"] (defScope (top 24)):=⟨rfl,rfl,rfl,by decide +kernel,rfl,by decide +kernel,by decide +kernel⟩
set_option maxHeartbeats 0 in
theorem ok__law_led {fa:Addr} {fd:FuncData} (F:Fun K "_law_led" "_law_led" (top 24) fa fd) (T:Txt mg) (C__law_vals:FnN P w K mg base "_law_vals" 1 ["_law_part_here"] m__law_vals) (C__law_with:FnD P w K mg base "_law_with" 1 ["_law_part_here", "_law_some"] m__law_with):FnOk P w K mg base CX0 2 fa fd ["_law_part_here", "_law_numbers"] (spD K m__law_led) :=
 okD (k:=1) (G:=G__law_led) F sc__law_led (fun cdv A outer s H E hr=>(pssd_cons (psd_own 2 (pdf_lst pda_nil) sc__law_led.nd)
   (pssd_cons (psd_for PassesOwn.never rfl (pid_list (pd_fnN C__law_vals hr (by decide) (pda_cons (pd_var 0) pda_nil))) (pgd_name 3 sc__law_led.nd)
   (pssd_cons (psd_if (ptd_val (pd_isi okT_tuple b_tuple T.b_isinstance T.b_tuple (pd_var 3)))
   (pssd_cons (psd_asg (pd_tup (pda_cons pd_str (pda_cons (pd_ix' (pd_var 1) (pd_ix' (pd_var 3) pd_int)) pda_nil))) (pgd_name 3 sc__law_led.nd))
   pssd_nil)
   pssd_nil)
   (pssd_cons (psd_exprX (px_app 2 (pd_var 3)))
   pssd_nil)))
   (pssd_cons (psd_retB (pd_fn C__law_with hr (by decide) (pda_cons (pd_var 0) (pda_cons (pd_var 2) pda_nil))))
   pssd_nil)))) (fun ds d h=>mkF_ok h)
theorem sc__law_drawn_web:FnScope ["_law_script", "_law_most", "_law_pool_here", "_law_turn", "_law_many"] ["_law_script", "_law_most"] (defScope (top 25)):=⟨rfl,rfl,rfl,by decide +kernel,rfl,by decide +kernel,by decide +kernel⟩
set_option maxHeartbeats 0 in
theorem ok__law_drawn_web {fa:Addr} {fd:FuncData} (F:Fun K "_law_drawn_web" "_law_drawn_web" (top 25) fa fd) (T:Txt mg) (C__law_cell_at:FnD P w K mg base "_law_cell_at" 1 ["_law_script", "_law_k"] m__law_cell_at) (C__law_pool:FnN P w K mg base "_law_pool" 1 ["_law_cell", "_law_turn"] m__law_pool) (C__law_web:FnD P w K mg base "_law_web" 3 ["_law_cells", "_law_many", "_law_pool_here"] m__law_web):FnOk P w K mg base CX0 4 fa fd ["_law_script", "_law_most"] (spD K m__law_drawn_web) :=
 okD (k:=3) (G:=G__law_drawn_web) F sc__law_drawn_web (fun cdv A outer s H E hr=>(pssd_cons (psd_asg (pd_fnN C__law_pool hr (by decide) (pda_cons (pd_fn C__law_cell_at hr (by decide) (pda_cons (pd_var 0) (pda_cons pd_int pda_nil))) (pda_cons (pd_fn C__law_cell_at hr (by decide) (pda_cons (pd_var 0) (pda_cons pd_int pda_nil))) pda_nil))) (pgd_name 2 sc__law_drawn_web.nd))
   (pssd_cons (psd_asg (pd_fn C__law_cell_at hr (by decide) (pda_cons (pd_var 0) (pda_cons pd_int pda_nil))) (pgd_name 3 sc__law_drawn_web.nd))
   (pssd_cons (psd_asg (pd_addA pd_int (pd_mod (pd_var 3) (pd_ix' (pd_lst (pda_cons pd_int (pda_cons pd_int (pda_cons (pd_var 1) (pda_cons pd_int pda_nil))))) (pd_mod (pd_fdiv (pd_var 3) pd_int) pd_int)))) (pgd_name 4 sc__law_drawn_web.nd))
   (pssd_cons (psd_ret (pd_fn C__law_web hr (by decide) (pda_cons (pd_addA (pd_sliceA (pd_var 0) (pdo_some pd_int) (pdo_some pd_int)) (pd_lst (pda_cons (pd_fn C__law_cell_at hr (by decide) (pda_cons (pd_var 0) (pda_cons pd_int pda_nil))) pda_nil))) (pda_cons (pd_var 4) (pda_cons (pd_var 2) pda_nil)))))
   pssd_nil))))) (fun ds d h=>mkF_ok h)
theorem sc__law_changed:FnScope ["_law_web_here", "_law_cell", "_law_k", "_law_some", "_law_at"] ["_law_web_here", "_law_cell"] (defScope (top 26)):=⟨rfl,rfl,rfl,by decide +kernel,rfl,by decide +kernel,by decide +kernel⟩
set_option maxHeartbeats 0 in
theorem ok__law_changed {fa:Addr} {fd:FuncData} (F:Fun K "_law_changed" "_law_changed" (top 26) fa fd) (T:Txt mg) (C__law_vals:FnN P w K mg base "_law_vals" 1 ["_law_part_here"] m__law_vals) (C__law_value:FnD P w K mg base "_law_value" 1 ["_law_number", "_law_many"] m__law_value) (C__law_with:FnD P w K mg base "_law_with" 1 ["_law_part_here", "_law_some"] m__law_with):FnOk P w K mg base CX0 2 fa fd ["_law_web_here", "_law_cell"] (spD K m__law_changed) :=
 okD (k:=1) (G:=G__law_changed) F sc__law_changed (fun cdv A outer s H E hr=>(pssd_cons (psd_asg (pd_mod (pd_var 1) (pd_len T.b_len (pda_cons (pd_var 0) pda_nil))) (pgd_name 2 sc__law_changed.nd))
   (pssd_cons (psd_own 3 (pdf_fn C__law_vals hr (by decide) (pda_cons (pd_ix' (pd_var 0) (pd_var 2)) pda_nil)) sc__law_changed.nd)
   (pssd_cons (psd_if (ptd_bor (ptd_cmp (op_eqX hr.units) op2_eqX (pd_var 3) (pd_lst pda_nil)))
   (pssd_cons (psd_ret (pd_var 0))
   pssd_nil)
   pssd_nil)
   (pssd_cons (psd_asg (pd_mod (pd_fdiv (pd_var 1) pd_int) (pd_bor (pd_len T.b_len (pda_cons (pd_var 3) pda_nil)))) (pgd_name 4 sc__law_changed.nd))
   (pssd_cons (psd_asgX (px_pure (pd_fn C__law_value hr (by decide) (pda_cons (pd_mod (pd_fdiv (pd_var 1) pd_int) pd_int) (pda_cons (pd_len T.b_len (pda_cons (pd_var 0) pda_nil)) pda_nil)))) (ptg_set 3 (pd_var 4)))
   (pssd_cons (psd_retB (pd_addA (pd_addA (pd_sliceA (pd_var 0) pdo_none (pdo_some (pd_var 2))) (pd_tup (pda_cons (pd_fn C__law_with hr (by decide) (pda_cons (pd_ix' (pd_var 0) (pd_var 2)) (pda_cons (pd_var 3) pda_nil))) pda_nil))) (pd_sliceA (pd_var 0) (pdo_some (pd_addA (pd_var 2) pd_int)) pdo_none)))
   pssd_nil))))))) (fun ds d h=>mkF_ok h)
theorem sc__law_order:FnScope ["_law_web_here", "_law_found", "_law_waiting", "_law_k", "_law_value_here"] ["_law_web_here"] (defScope (top 27)):=⟨rfl,rfl,rfl,by decide +kernel,rfl,by decide +kernel,by decide +kernel⟩
set_option maxHeartbeats 0 in
theorem ok__law_order {fa:Addr} {fd:FuncData} (F:Fun K "_law_order" "_law_order" (top 27) fa fd) (T:Txt mg) (C__law_vals:FnN P w K mg base "_law_vals" 1 ["_law_part_here"] m__law_vals):FnOk P w K mg base CX0 2 fa fd ["_law_web_here"] (spN K m__law_order) :=
 okN (k:=1) (G:=G__law_order) F sc__law_order (fun cdv A outer s H E hr=>(pssd_cons (psd_own 1 (pdf_lst pda_nil) sc__law_order.nd)
   (pssd_cons (psd_own 2 (pdf_lst (pda_cons pd_int pda_nil)) sc__law_order.nd)
   (pssd_cons (psd_while 100000 PassesOwn.never (ptd_cmp op_gt op2_gt (pd_bor (pd_len T.b_len (pda_cons (pd_var 2) pda_nil))) pd_int)
   (pssd_cons (psd_asgX (px_pop 2) (ptg_of (pgd_name 3 sc__law_order.nd)))
   (pssd_cons (psd_if (ptd_bor (ptd_cmp op_notIn_seq (op2_inSeq true) (pd_var 3) (pd_var 1)))
   (pssd_cons (psd_exprX (px_app 1 (pd_var 3)))
   (pssd_cons (psd_for PassesOwn.never rfl (pid_rev T.b_reversed (pda_cons (pd_fnN C__law_vals hr (by decide) (pda_cons (pd_ix' (pd_var 0) (pd_var 3)) pda_nil)) pda_nil)) (pgd_name 4 sc__law_order.nd)
   (pssd_cons (psd_if (ptd_val (pd_isi okT_tuple b_tuple T.b_isinstance T.b_tuple (pd_var 4)))
   (pssd_cons (psd_exprX (px_app 2 (pd_ix' (pd_var 4) pd_int)))
   pssd_nil)
   pssd_nil)
   pssd_nil))
   pssd_nil))
   pssd_nil)
   pssd_nil)))
   (pssd_cons (psd_retO 1)
   pssd_nil))))) (fun ds d h=>mkN_ok h)
theorem sc__law_places:FnScope ["_law_cell", "_law_many", "_law_left", "_law_found"] ["_law_cell", "_law_many"] (defScope (top 29)):=⟨rfl,rfl,rfl,by decide +kernel,rfl,by decide +kernel,by decide +kernel⟩
set_option maxHeartbeats 0 in
theorem ok__law_places {fa:Addr} {fd:FuncData} (F:Fun K "_law_places" "_law_places" (top 29) fa fd) (T:Txt mg)  : FnOk P w K mg base CX0 1 fa fd ["_law_cell", "_law_many"] (spN K m__law_places) :=
 okN (k:=0) (G:=G__law_places) F sc__law_places (fun cdv A outer s H E hr=>(pssd_cons (psd_own 2 (pdf_lrange2 T.b_list T.b_range (pda_cons pd_int (pda_cons (pd_var 1) pda_nil))) sc__law_places.nd)
   (pssd_cons (psd_own 3 (pdf_lst (pda_cons pd_int pda_nil)) sc__law_places.nd)
   (pssd_cons (psd_while 100000 PassesOwn.never (ptd_cmp op_gt op2_gt (pd_bor (pd_len T.b_len (pda_cons (pd_var 2) pda_nil))) pd_int)
   (pssd_cons (psd_exprX (px_appM 3 (px_popAt 2 (pd_mod (pd_var 0) (pd_bor (pd_len T.b_len (pda_cons (pd_var 2) pda_nil)))))))
   (pssd_cons (psd_asg (pd_addA (pd_fdiv (pd_var 0) pd_int) (pd_mulA pd_int (pd_bor (pd_len T.b_len (pda_cons (pd_var 2) pda_nil))))) (pgd_name 0 sc__law_places.nd))
   pssd_nil)))
   (pssd_cons (psd_retO 3)
   pssd_nil))))) (fun ds d h=>mkN_ok h)
theorem sc__law_renumbered:FnScope ["_law_web_here", "_law_cell", "_law_more", "_law_places_here", "_law_parts", "_law_k"] ["_law_web_here", "_law_cell", "_law_more"] (defScope (top 30)):=⟨rfl,rfl,rfl,by decide +kernel,rfl,by decide +kernel,by decide +kernel⟩
set_option maxHeartbeats 0 in
theorem ok__law_renumbered {fa:Addr} {fd:FuncData} (F:Fun K "_law_renumbered" "_law_renumbered" (top 30) fa fd) (T:Txt mg) (C__law_led:FnD P w K mg base "_law_led" 2 ["_law_part_here", "_law_numbers"] m__law_led) (C__law_places:FnN P w K mg base "_law_places" 1 ["_law_cell", "_law_many"] m__law_places):FnOk P w K mg base CX0 3 fa fd ["_law_web_here", "_law_cell", "_law_more"] (spD K m__law_renumbered) :=
 okD (k:=2) (G:=G__law_renumbered) F sc__law_renumbered (fun cdv A outer s H E hr=>(pssd_cons (psd_asg (pd_fnN C__law_places hr (by decide) (pda_cons (pd_var 1) (pda_cons (pd_addA (pd_len T.b_len (pda_cons (pd_var 0) pda_nil)) (pd_var 2)) pda_nil))) (pgd_name 3 sc__law_renumbered.nd))
   (pssd_cons (psd_own 4 (pdf_mulL (pd_lst (pda_cons (pd_tup (pda_cons pd_str (pda_cons pd_str pda_nil))) pda_nil)) (pd_addA (pd_len T.b_len (pda_cons (pd_var 0) pda_nil)) (pd_var 2))) sc__law_renumbered.nd)
   (pssd_cons (psd_for PassesOwn.never rfl (pid_range1 T.b_range (pda_cons (pd_len T.b_len (pda_cons (pd_var 0) pda_nil)) pda_nil)) (pgd_name 5 sc__law_renumbered.nd)
   (pssd_cons (psd_asgX (px_pure (pd_fn C__law_led hr (by decide) (pda_cons (pd_ix' (pd_var 0) (pd_var 5)) (pda_cons (pd_var 3) pda_nil)))) (ptg_set 4 (pd_ix' (pd_var 3) (pd_var 5))))
   pssd_nil))
   (pssd_cons (psd_for PassesOwn.never rfl (pid_range1 T.b_range (pda_cons (pd_var 2) pda_nil)) (pgd_name 5 sc__law_renumbered.nd)
   (pssd_cons (psd_asgX (px_pure (pd_tup (pda_cons pd_str (pda_cons (pd_tup (pda_cons (pd_tup (pda_cons pd_str (pda_cons (pd_mod (pd_fdiv (pd_var 1) (pd_addA (pd_var 5) pd_int)) (pd_bor (pd_len T.b_len (pda_cons (pd_var 4) pda_nil)))) pda_nil))) (pda_cons pd_non (pda_cons (pd_tup (pda_cons pd_str (pda_cons pd_int pda_nil))) pda_nil)))) pda_nil)))) (ptg_set 4 (pd_ix' (pd_var 3) (pd_addA (pd_len T.b_len (pda_cons (pd_var 0) pda_nil)) (pd_var 5)))))
   pssd_nil))
   (pssd_cons (psd_retB (pd_tup (pda_cons (pd_callTy call_tuple_of fn_tup T.b_tuple b_tuple (pda_cons (pd_var 4) pda_nil)) (pda_cons (pd_sliceA (pd_var 3) pdo_none (pdo_some (pd_len T.b_len (pda_cons (pd_var 0) pda_nil)))) pda_nil))))
   pssd_nil)))))) (fun ds d h=>mkF_ok h)
theorem sc__law_go_on:FnScope ["_law_one", "_law_other", "_law_pair", "_law_found", "_law_first", "_law_second", "_law_k"] ["_law_one", "_law_other", "_law_pair"] (defScope (top 31)):=⟨rfl,rfl,rfl,by decide +kernel,rfl,by decide +kernel,by decide +kernel⟩
set_option maxHeartbeats 0 in
theorem ok__law_go_on {fa:Addr} {fd:FuncData} (F:Fun K "_law_go_on" "_law_go_on" (top 31) fa fd) (T:Txt mg) (C__law_head:FnD P w K mg base "_law_head" 1 ["_law_part_here"] m__law_head) (C__law_vals:FnN P w K mg base "_law_vals" 1 ["_law_part_here"] m__law_vals):FnOk P w K mg base CX0 2 fa fd ["_law_one", "_law_other", "_law_pair"] (spD K m__law_go_on) :=
 okD (k:=1) (G:=G__law_go_on) F sc__law_go_on (fun cdv A outer s H E hr=>(pssd_cons (psd_own 3 (pdf_lst pda_nil) sc__law_go_on.nd)
   (pssd_cons (psd_asg (pd_fnN C__law_vals hr (by decide) (pda_cons (pd_ix' (pd_var 0) (pd_ix' (pd_var 2) pd_int)) pda_nil)) (pgd_name 4 sc__law_go_on.nd))
   (pssd_cons (psd_asg (pd_fnN C__law_vals hr (by decide) (pda_cons (pd_ix' (pd_var 1) (pd_ix' (pd_var 2) pd_int)) pda_nil)) (pgd_name 5 sc__law_go_on.nd))
   (pssd_cons (psd_if (ptd_cmp (op_neX hr.units) op2_neX (pd_fn C__law_head hr (by decide) (pda_cons (pd_ix' (pd_var 0) (pd_ix' (pd_var 2) pd_int)) pda_nil)) (pd_fn C__law_head hr (by decide) (pda_cons (pd_ix' (pd_var 1) (pd_ix' (pd_var 2) pd_int)) pda_nil)))
   (pssd_cons (psd_ret pd_non)
   pssd_nil)
   pssd_nil)
   (pssd_cons (psd_for PassesOwn.never rfl (pid_range1 T.b_range (pda_cons (pd_len T.b_len (pda_cons (pd_var 4) pda_nil)) pda_nil)) (pgd_name 6 sc__law_go_on.nd)
   (pssd_cons (psd_if (PWD.pt (pwd_and (ptd_val (pd_isi okT_tuple b_tuple T.b_isinstance T.b_tuple (pd_ix' (pd_var 4) (pd_var 6)))) (pwd_and1 (ptd_val (pd_isi okT_tuple b_tuple T.b_isinstance T.b_tuple (pd_ix' (pd_var 5) (pd_var 6)))))))
   (pssd_cons (psd_exprX (px_app 3 (pd_tup (pda_cons (pd_ix' (pd_ix' (pd_var 4) (pd_var 6)) pd_int) (pda_cons (pd_ix' (pd_ix' (pd_var 5) (pd_var 6)) pd_int) pda_nil)))))
   pssd_nil)
   (pssd_cons (psd_if (ptd_cmp (op_neX hr.units) op2_neX (pd_ix' (pd_var 4) (pd_var 6)) (pd_ix' (pd_var 5) (pd_var 6)))
   (pssd_cons (psd_ret pd_non)
   pssd_nil)
   pssd_nil)
   pssd_nil))
   pssd_nil))
   (pssd_cons (psd_retB (pd_var 3))
   pssd_nil))))))) (fun ds d h=>mkF_ok h)
theorem sc__law_due:FnScope ["_law_one", "_law_other", "_law_pairs", "_law_there", "_law_firsts", "_law_seconds", "_law_k", "_law_j", "_law_pair", "_law_more"] ["_law_one", "_law_other", "_law_pairs"] (defScope (top 32)):=⟨rfl,rfl,rfl,by decide +kernel,rfl,by decide +kernel,by decide +kernel⟩
set_option maxHeartbeats 0 in
theorem ok__law_due {fa:Addr} {fd:FuncData} (F:Fun K "_law_due" "_law_due" (top 32) fa fd) (T:Txt mg) (C__law_go_on:FnD P w K mg base "_law_go_on" 2 ["_law_one", "_law_other", "_law_pair"] m__law_go_on):FnOk P w K mg base CX0 3 fa fd ["_law_one", "_law_other", "_law_pairs"] (spD K m__law_due) :=
 okD (k:=2) (G:=G__law_due) F sc__law_due (fun cdv A outer s H E hr=>(pssd_cons (psd_own 3 pdf_dict0T sc__law_due.nd)
   (pssd_cons (psd_own 4 pdf_dict0 sc__law_due.nd)
   (pssd_cons (psd_own 5 pdf_dict0 sc__law_due.nd)
   (pssd_cons (psd_for PassesOwn.never rfl (pid_list (pd_var 2)) (pgd_tup2 6 7 sc__law_due.nd (by decide))
   (pssd_cons (psd_if (PWD.pt (pwd_or (ptd_bor (ptd_din (hu_of hr) (pd_var 6) (pd_var 4))) (pwd_or1 (ptd_bor (ptd_din (hu_of hr) (pd_var 7) (pd_var 5))))))
   (pssd_cons (psd_ret pd_bl)
   pssd_nil)
   pssd_nil)
   (pssd_cons (psd_asgX (px_pure pd_bl) (ptg_putT 3 (hu_of hr) (pd_tup (pda_cons (pd_var 6) (pda_cons (pd_var 7) pda_nil)))))
   (pssd_cons (psd_asgX (px_pure pd_bl) (ptg_put 4 (hu_of hr) (pd_var 6)))
   (pssd_cons (psd_asgX (px_pure pd_bl) (ptg_put 5 (hu_of hr) (pd_var 7)))
   pssd_nil)))))
   (pssd_cons (psd_if (ptd_bor (ptd_dnin (hu_of hr) (pd_tup (pda_cons pd_int (pda_cons pd_int pda_nil))) (pd_var 3)))
   (pssd_cons (psd_ret pd_bl)
   pssd_nil)
   pssd_nil)
   (pssd_cons (psd_frzS 3 (psd_for PassesOwn.never rfl (pid_list (pd_var 2)) (pgd_name 8 sc__law_due.nd)
   (pssd_cons (psd_asg (pd_fn C__law_go_on hr (by decide) (pda_cons (pd_var 0) (pda_cons (pd_var 1) (pda_cons (pd_var 8) pda_nil)))) (pgd_name 9 sc__law_due.nd))
   (pssd_cons (psd_if (PWD.pt (pwd_or (ptd_cmp op_isN op2_isN (pd_var 9) pd_non) (pwd_or1 (ptd_cmp op_gt op2_gt (pd_len T.b_len (pda_cons (pd_cmpD (sc:=defScope (top 32)) (N:=["_law_one", "_law_other", "_law_pairs", "_law_there", "_law_firsts", "_law_seconds", "_law_k", "_law_j", "_law_pair", "_law_more"]) (N':=["_law_fresh", "_law_there"]) (n:=1) (caps:=[3]) ⟨rfl,by decide +kernel,by decide +kernel,by decide +kernel,by decide +kernel,rfl,by decide +kernel⟩ (by decide) (pid_list (pd_var 9)) (fun cl s H ex=>pgd_name 0 (by decide +kernel:(["_law_fresh", "_law_there"]:List Str).Nodup)) (fun cl s H ex=>(pfd_one (ptd_dnin (hu_of hr) (pd_var 0) (pd_var 1)))) (fun cl s H ex=>(pd_var 0))) pda_nil)) pd_int))))
   (pssd_cons (psd_ret pd_bl)
   pssd_nil)
   pssd_nil)
   pssd_nil))))
   (pssd_cons (psd_ret pd_bl)
   pssd_nil)))))))) (fun ds d h=>mkF_ok h)
theorem sc__law_asked:FnScope ["_law_one", "_law_other", "_law_pairs", "_law_handed", "_law_found"] ["_law_one", "_law_other", "_law_pairs"] (defScope (top 33)):=⟨rfl,rfl,rfl,by decide +kernel,rfl,by decide +kernel,by decide +kernel⟩
set_option maxHeartbeats 0 in
theorem ok__law_asked {fa:Addr} {fd:FuncData} (F:Fun K "_law_asked" "_law_asked" (top 33) fa fd) (T:Txt mg) (C__law_due:FnD P w K mg base "_law_due" 3 ["_law_one", "_law_other", "_law_pairs"] m__law_due) (C_is_pairing:FnD P w K mg base "is_pairing" 5 ["one", "other", "pairs"] m_is_pairing):FnOk P w K mg base CX0 6 fa fd ["_law_one", "_law_other", "_law_pairs"] (spD K m__law_asked) :=
 okD (k:=5) (G:=G__law_asked) F sc__law_asked (fun cdv A outer s H E hr=>(pssd_cons (psd_asg (pd_callTy call_list_of fn_list T.b_list b_list (pda_cons (pd_var 2) pda_nil)) (pgd_name 3 sc__law_asked.nd))
   (pssd_cons (psd_asg (pd_fn C_is_pairing hr (by decide) (pda_cons (pd_var 0) (pda_cons (pd_var 1) (pda_cons (pd_var 3) pda_nil)))) (pgd_name 4 sc__law_asked.nd))
   (pssd_cons (psd_ret (pd_and (pd_isi okT_bool b_bool T.b_isinstance T.b_bool (pd_var 4)) (pd_and (pd_cmp (op_eqX hr.units) op2_eqX (pd_var 4) (pd_fn C__law_due hr (by decide) (pda_cons (pd_var 0) (pda_cons (pd_var 1) (pda_cons (pd_var 2) pda_nil))))) (pd_one (pd_cmp (op_eqX hr.units) op2_eqX (pd_var 3) (pd_var 2))))))
   pssd_nil)))) (fun ds d h=>mkF_ok h)
theorem sc__law_spoilt:FnScope ["_law_pairs", "_law_number", "_law_one", "_law_other", "_law_at", "_law_fresh"] ["_law_pairs", "_law_number", "_law_one", "_law_other"] (defScope (top 34)):=⟨rfl,rfl,rfl,by decide +kernel,rfl,by decide +kernel,by decide +kernel⟩
set_option maxHeartbeats 0 in
theorem ok__law_spoilt {fa:Addr} {fd:FuncData} (F:Fun K "_law_spoilt" "_law_spoilt" (top 34) fa fd) (T:Txt mg)  : FnOk P w K mg base CX0 1 fa fd ["_law_pairs", "_law_number", "_law_one", "_law_other"] (spD K m__law_spoilt) :=
 okD (k:=0) (G:=G__law_spoilt) F sc__law_spoilt (fun cdv A outer s H E hr=>(pssd_cons (psd_asg (pd_mod (pd_fdiv (pd_var 1) pd_int) (pd_len T.b_len (pda_cons (pd_var 0) pda_nil))) (pgd_name 4 sc__law_spoilt.nd))
   (pssd_cons (psd_asg (pd_tup (pda_cons (pd_mod (pd_fdiv (pd_var 1) pd_int) (pd_len T.b_len (pda_cons (pd_var 2) pda_nil))) (pda_cons (pd_mod (pd_fdiv (pd_var 1) pd_int) (pd_len T.b_len (pda_cons (pd_var 3) pda_nil))) pda_nil))) (pgd_name 5 sc__law_spoilt.nd))
   (pssd_cons (psd_if (ptd_cmp (op_eqX hr.units) op2_eqX (pd_mod (pd_var 1) pd_int) pd_int)
   (pssd_cons (psd_ret (pd_addA (pd_sliceA (pd_var 0) pdo_none (pdo_some (pd_var 4))) (pd_sliceA (pd_var 0) (pdo_some (pd_addA (pd_var 4) pd_int)) pdo_none)))
   pssd_nil)
   pssd_nil)
   (pssd_cons (psd_if (ptd_cmp (op_eqX hr.units) op2_eqX (pd_mod (pd_var 1) pd_int) pd_int)
   (pssd_cons (psd_ret (pd_cmpD (sc:=defScope (top 34)) (N:=["_law_pairs", "_law_number", "_law_one", "_law_other", "_law_at", "_law_fresh"]) (N':=["_law_pair"]) (n:=1) (caps:=[]) ⟨rfl,by decide +kernel,by decide +kernel,by decide +kernel,by decide +kernel,rfl,by decide +kernel⟩ (by decide) (pid_list (pd_var 0)) (fun cl s H ex=>pgd_name 0 (by decide +kernel:(["_law_pair"]:List Str).Nodup)) (fun cl s H ex=>(pfd_one (ptd_cmp (op_neX hr.units) op2_neX (pd_var 0) (pd_tup (pda_cons pd_int (pda_cons pd_int pda_nil)))))) (fun cl s H ex=>(pd_var 0))))
   pssd_nil)
   pssd_nil)
   (pssd_cons (psd_if (ptd_cmp (op_eqX hr.units) op2_eqX (pd_mod (pd_var 1) pd_int) pd_int)
   (pssd_cons (psd_ret (pd_addA (pd_var 0) (pd_lst (pda_cons (pd_var 5) pda_nil))))
   pssd_nil)
   pssd_nil)
   (pssd_cons (psd_if (ptd_cmp (op_eqX hr.units) op2_eqX (pd_mod (pd_var 1) pd_int) pd_int)
   (pssd_cons (psd_ret (pd_addA (pd_addA (pd_sliceA (pd_var 0) pdo_none (pdo_some (pd_var 4))) (pd_lst (pda_cons (pd_ix' (pd_var 0) (pd_var 4)) pda_nil))) (pd_sliceA (pd_var 0) (pdo_some (pd_var 4)) pdo_none)))
   pssd_nil)
   pssd_nil)
   (pssd_cons (psd_if (ptd_cmp (op_eqX hr.units) op2_eqX (pd_mod (pd_var 1) pd_int) pd_int)
   (pssd_cons (psd_ret (pd_addA (pd_addA (pd_sliceA (pd_var 0) pdo_none (pdo_some (pd_var 4))) (pd_lst (pda_cons (pd_tup (pda_cons (pd_ix' (pd_ix' (pd_var 0) (pd_var 4)) pd_int) (pda_cons (pd_ix' (pd_var 5) pd_int) pda_nil))) pda_nil))) (pd_sliceA (pd_var 0) (pdo_some (pd_addA (pd_var 4) pd_int)) pdo_none)))
   pssd_nil)
   pssd_nil)
   (pssd_cons (psd_if (ptd_cmp (op_eqX hr.units) op2_eqX (pd_mod (pd_var 1) pd_int) pd_int)
   (pssd_cons (psd_ret (pd_addA (pd_addA (pd_sliceA (pd_var 0) pdo_none (pdo_some (pd_var 4))) (pd_lst (pda_cons (pd_tup (pda_cons (pd_ix' (pd_var 5) pd_int) (pda_cons (pd_ix' (pd_ix' (pd_var 0) (pd_var 4)) pd_int) pda_nil))) pda_nil))) (pd_sliceA (pd_var 0) (pdo_some (pd_addA (pd_var 4) pd_int)) pdo_none)))
   pssd_nil)
   pssd_nil)
   (pssd_cons (psd_if (ptd_cmp (op_eqX hr.units) op2_eqX (pd_mod (pd_var 1) pd_int) pd_int)
   (pssd_cons (psd_ret (pd_cmpD (sc:=defScope (top 34)) (N:=["_law_pairs", "_law_number", "_law_one", "_law_other", "_law_at", "_law_fresh"]) (N':=["_law_j", "_law_k", "_law_one", "_law_other"]) (n:=2) (caps:=[2,3]) ⟨rfl,by decide +kernel,by decide +kernel,by decide +kernel,by decide +kernel,rfl,by decide +kernel⟩ (by decide) (pid_list (pd_var 0)) (fun cl s H ex=>pgd_tup2 0 1 (by decide +kernel:(["_law_j", "_law_k", "_law_one", "_law_other"]:List Str).Nodup) (by decide)) (fun cl s H ex=>(pfd_one (PWD.pt (pwd_and (ptd_cmp op_lt op2_lt (pd_var 1) (pd_len T.b_len (pda_cons (pd_var 2) pda_nil))) (pwd_and1 (ptd_cmp op_lt op2_lt (pd_var 0) (pd_len T.b_len (pda_cons (pd_var 3) pda_nil)))))))) (fun cl s H ex=>(pd_tup (pda_cons (pd_var 1) (pda_cons (pd_var 0) pda_nil))))))
   pssd_nil)
   pssd_nil)
   (pssd_cons (psd_if (ptd_cmp (op_eqX hr.units) op2_eqX (pd_mod (pd_var 1) pd_int) pd_int)
   (pssd_cons (psd_ret (pd_lst pda_nil))
   pssd_nil)
   pssd_nil)
   (pssd_cons (psd_ret (pd_rev (pd_var 0) (pdo_some (pd_neg pd_int))))
   pssd_nil)))))))))))) (fun ds d h=>mkF_ok h)
theorem sc_law:FnScope ["_law_script", "_law_web_here", "_law_turn", "_law_other", "_law_places_here", "_law_some", "_law_pairs", "_law_j", "_law_number"] ["_law_script"] (defScope (top 35)):=⟨rfl,rfl,rfl,by decide +kernel,rfl,by decide +kernel,by decide +kernel⟩
set_option maxHeartbeats 0 in
theorem ok_law {fa:Addr} {fd:FuncData} (F:Fun K "law" "law" (top 35) fa fd) (T:Txt mg) (C__law_asked:FnD P w K mg base "_law_asked" 6 ["_law_one", "_law_other", "_law_pairs"] m__law_asked) (C__law_cell_at:FnD P w K mg base "_law_cell_at" 1 ["_law_script", "_law_k"] m__law_cell_at) (C__law_changed:FnD P w K mg base "_law_changed" 2 ["_law_web_here", "_law_cell"] m__law_changed) (C__law_drawn_web:FnD P w K mg base "_law_drawn_web" 4 ["_law_script", "_law_most"] m__law_drawn_web) (C__law_mix:FnD P w K mg base "_law_mix" 1 ["_law_cell", "_law_k"] m__law_mix) (C__law_order:FnN P w K mg base "_law_order" 2 ["_law_web_here"] m__law_order) (C__law_renumbered:FnD P w K mg base "_law_renumbered" 3 ["_law_web_here", "_law_cell", "_law_more"] m__law_renumbered) (C__law_spoilt:FnD P w K mg base "_law_spoilt" 1 ["_law_pairs", "_law_number", "_law_one", "_law_other"] m__law_spoilt):FnOk P w K mg base CX0 7 fa fd ["_law_script"] (spD K m_law) :=
 okD (k:=6) (G:=G_law) F sc_law (fun cdv A outer s H E hr=>(pssd_cons (psd_asg (pd_fn C__law_drawn_web hr (by decide) (pda_cons (pd_var 0) (pda_cons pd_int pda_nil))) (pgd_name 1 sc_law.nd))
   (pssd_cons (psd_asg (pd_fn C__law_cell_at hr (by decide) (pda_cons (pd_var 0) (pda_cons pd_int pda_nil))) (pgd_name 2 sc_law.nd))
   (pssd_cons (psd_asgX (px_pure (pd_fn C__law_renumbered hr (by decide) (pda_cons (pd_var 1) (pda_cons (pd_fn C__law_mix hr (by decide) (pda_cons (pd_fn C__law_cell_at hr (by decide) (pda_cons (pd_var 0) (pda_cons pd_int pda_nil))) (pda_cons pd_int pda_nil))) (pda_cons (pd_mod (pd_var 2) pd_int) pda_nil))))) (ptg_of (pgd_tup2 3 4 sc_law.nd (by decide))))
   (pssd_cons (psd_asg (PDF.pd (pdf_lrange T.b_list T.b_range (pda_cons (pd_len T.b_len (pda_cons (pd_var 1) pda_nil)) pda_nil))) (pgd_name 5 sc_law.nd))
   (pssd_cons (psd_if (ptd_cmp op_eq op2_eq (pd_mod (pd_fdiv (pd_var 2) pd_int) pd_int) pd_int)
   (pssd_cons (psd_asg (pd_fnN C__law_order hr (by decide) (pda_cons (pd_var 1) pda_nil)) (pgd_name 5 sc_law.nd))
   pssd_nil)
   pssd_nil)
   (pssd_cons (psd_cmpD 6 sc_law.nd (sc:=defScope (top 35)) (N:=["_law_script", "_law_web_here", "_law_turn", "_law_other", "_law_places_here", "_law_some", "_law_pairs", "_law_j", "_law_number"]) (N':=["_law_k", "_law_places_here"]) (n:=1) (caps:=[4]) ⟨rfl,by decide +kernel,by decide +kernel,by decide +kernel,by decide +kernel,rfl,by decide +kernel⟩ (by decide) (pid_list (pd_var 5)) (fun cl s H ex=>pgd_name 0 (by decide +kernel:(["_law_k", "_law_places_here"]:List Str).Nodup)) (fun cl s H ex=>pfd_nil) (fun cl s H ex=>(pd_tup (pda_cons (pd_var 0) (pda_cons (pd_ix' (pd_var 1) (pd_var 0)) pda_nil)))))
   (pssd_cons (psd_if (ptd_cmp op_eq op2_eq (pd_mod (pd_fdiv (pd_var 2) pd_int) pd_int) pd_int)
   (pssd_cons (psd_asg (pd_fn C__law_changed hr (by decide) (pda_cons (pd_var 3) (pda_cons (pd_fn C__law_mix hr (by decide) (pda_cons (pd_fn C__law_cell_at hr (by decide) (pda_cons (pd_var 0) (pda_cons pd_int pda_nil))) (pda_cons pd_int pda_nil))) pda_nil))) (pgd_name 3 sc_law.nd))
   pssd_nil)
   pssd_nil)
   (pssd_cons (psd_if (PWD.pt (pwd_or (ptd_not (ptd_val (pd_fn C__law_asked hr (by decide) (pda_cons (pd_var 1) (pda_cons (pd_var 3) (pda_cons (pd_var 6) pda_nil)))))) (pwd_or1 (ptd_not (ptd_val (pd_fn C__law_asked hr (by decide) (pda_cons (pd_var 1) (pda_cons (pd_var 3) (pda_cons (PDF.pd (pdf_sortT T.b_sorted b_sorted (pd_var 6))) pda_nil)))))))))
   (pssd_cons (psd_ret pd_bl)
   pssd_nil)
   pssd_nil)
   (pssd_cons (psd_for PassesOwn.never rfl (pid_range1 T.b_range (pda_cons pd_int pda_nil)) (pgd_name 7 sc_law.nd)
   (pssd_cons (psd_asg (pd_addA (pd_mulA (pd_fdiv (pd_fn C__law_mix hr (by decide) (pda_cons (pd_addA (pd_fn C__law_cell_at hr (by decide) (pda_cons (pd_var 0) (pda_cons pd_int pda_nil))) (pd_mulA (pd_var 7) (pd_var 7))) (pda_cons (pd_addA (pd_var 7) pd_int) pda_nil))) pd_int) pd_int) (pd_var 7)) (pgd_name 8 sc_law.nd))
   (pssd_cons (psd_if (ptd_not (ptd_val (pd_fn C__law_asked hr (by decide) (pda_cons (pd_var 1) (pda_cons (pd_var 3) (pda_cons (pd_fn C__law_spoilt hr (by decide) (pda_cons (pd_var 6) (pda_cons (pd_var 8) (pda_cons (pd_var 1) (pda_cons (pd_var 3) pda_nil))))) pda_nil))))))
   (pssd_cons (psd_ret pd_bl)
   pssd_nil)
   pssd_nil)
   pssd_nil)))
   (pssd_cons (psd_ret pd_bl)
   pssd_nil))))))))))) (fun ds d h=>mkF_ok h)
end
theorem us1 {α:Type}:∀ {us:List α},us.length = 1 → ∃ a,us = [a]
 | [a],_=>⟨a,rfl⟩
theorem us2 {α:Type}:∀ {us:List α},us.length = 2 → ∃ a b,us = [a,b]
 | [a,b],_=>⟨a,b,rfl⟩
theorem us3 {α:Type}:∀ {us:List α},us.length = 3 → ∃ a b c,us = [a,b,c]
 | [a,b,c],_=>⟨a,b,c,rfl⟩
theorem us4 {α:Type}:∀ {us:List α},us.length = 4 → ∃ a b c d,us = [a,b,c,d]
 | [a,b,c,d],_=>⟨a,b,c,d,rfl⟩
set_option maxHeartbeats 0 in
theorem all_mk {l:W.OpenLaw} {w:World} {K:W.Frag} {h:Heap} {mg:Str → Option Value} {fa:Addr} (X:K.In h) (G:h.Ns mainGlobals mg) (hfa:mg "law" = some (.ref fa))
  {f0 f1 f2 f3 f4 f5 f6 f7 f8 f9 f10 f11 f12 f13 f14 f15 f16 f17 f18 f19 f20 f21 f22 f23 f24 f25 f26 f27 f28 f29 f30:Addr}
  {od0 an0 od1 an1 od2 an2 od3 an3 od4 an4 od5 an5 od6 an6 od7 an7 od8 an8 od9 an9 od10 an10 od11 an11 od12 an12 od13 an13 od14 an14 od15 an15 od16 an16 od17 an17 od18 an18 od19 an19 od20 an20 od21 an21 od22 an22 od23 an23 od24 an24 od25 an25 od26 an26 od27 an27 od28 an28 od29 an29 od30 an30:Option Addr} {sl0 sl1 sl2 sl3 sl4 sl5 sl6 sl7 sl8 sl9 sl10 sl11 sl12 sl13 sl14 sl15 sl16 sl17 sl18 sl19 sl20 sl21 sl22 sl23 sl24 sl25 sl26 sl27 sl28 sl29 sl30:Array (Option Value)} {oc0 kV0 dc0 pm0 cd0 ct0 oc1 kV1 dc1 pm1 cd1 ct1 oc2 kV2 dc2 pm2 cd2 ct2 oc3 kV3 dc3 pm3 cd3 ct3 oc4 kV4 dc4 pm4 cd4 ct4 oc5 kV5 dc5 pm5 cd5 ct5 oc6 kV6 dc6 pm6 cd6 ct6 oc7 kV7 dc7 pm7 cd7 ct7 oc8 kV8 dc8 pm8 cd8 ct8 oc9 kV9 dc9 pm9 cd9 ct9 oc10 kV10 dc10 pm10 cd10 ct10 oc11 kV11 dc11 pm11 cd11 ct11 oc12 kV12 dc12 pm12 cd12 ct12 oc13 kV13 dc13 pm13 cd13 ct13 oc14 kV14 dc14 pm14 cd14 ct14 oc15 kV15 dc15 pm15 cd15 ct15 oc16 kV16 dc16 pm16 cd16 ct16 oc17 kV17 dc17 pm17 cd17 ct17 oc18 kV18 dc18 pm18 cd18 ct18 oc19 kV19 dc19 pm19 cd19 ct19 oc20 kV20 dc20 pm20 cd20 ct20 oc21 kV21 dc21 pm21 cd21 ct21 oc22 kV22 dc22 pm22 cd22 ct22 oc23 kV23 dc23 pm23 cd23 ct23 oc24 kV24 dc24 pm24 cd24 ct24 oc25 kV25 dc25 pm25 cd25 ct25 oc26 kV26 dc26 pm26 cd26 ct26 oc27 kV27 dc27 pm27 cd27 ct27 oc28 kV28 dc28 pm28 cd28 ct28 oc29 kV29 dc29 pm29 cd29 ct29 oc30 kV30 dc30 pm30 cd30 ct30:Value}
  (a0:W.nsIn K mainGlobals "pair_names" = some (some (.ref f0))) (l0:K.lookup f0 = some ⟨oc0,od0,.func (W.fnOf "pair_names" "pair_names" (defArgs (top 1)) (defBody (top 1)) (defScope (top 1)) .none kV0 dc0 pm0 an0 cd0 ct0),sl0⟩) (c0:W.codeIn K cd0 "pair_names" = true) (k0:W.keepIn K (.ref f0) = true)
  (a1:W.nsIn K mainGlobals "head" = some (some (.ref f1))) (l1:K.lookup f1 = some ⟨oc1,od1,.func (W.fnOf "head" "head" (defArgs (top 2)) (defBody (top 2)) (defScope (top 2)) .none kV1 dc1 pm1 an1 cd1 ct1),sl1⟩) (c1:W.codeIn K cd1 "head" = true) (k1:W.keepIn K (.ref f1) = true)
  (a2:W.nsIn K mainGlobals "values" = some (some (.ref f2))) (l2:K.lookup f2 = some ⟨oc2,od2,.func (W.fnOf "values" "values" (defArgs (top 3)) (defBody (top 3)) (defScope (top 3)) .none kV2 dc2 pm2 an2 cd2 ct2),sl2⟩) (c2:W.codeIn K cd2 "values" = true) (k2:W.keepIn K (.ref f2) = true)
  (a3:W.nsIn K mainGlobals "are_links" = some (some (.ref f3))) (l3:K.lookup f3 = some ⟨oc3,od3,.func (W.fnOf "are_links" "are_links" (defArgs (top 5)) (defBody (top 5)) (defScope (top 5)) .none kV3 dc3 pm3 an3 cd3 ct3),sl3⟩) (c3:W.codeIn K cd3 "are_links" = true) (k3:W.keepIn K (.ref f3) = true)
  (a4:W.nsIn K mainGlobals "linked_pair" = some (some (.ref f4))) (l4:K.lookup f4 = some ⟨oc4,od4,.func (W.fnOf "linked_pair" "linked_pair" (defArgs (top 6)) (defBody (top 6)) (defScope (top 6)) .none kV4 dc4 pm4 an4 cd4 ct4),sl4⟩) (c4:W.codeIn K cd4 "linked_pair" = true) (k4:W.keepIn K (.ref f4) = true)
  (a5:W.nsIn K mainGlobals "are_closed" = some (some (.ref f5))) (l5:K.lookup f5 = some ⟨oc5,od5,.func (W.fnOf "are_closed" "are_closed" (defArgs (top 7)) (defBody (top 7)) (defScope (top 7)) .none kV5 dc5 pm5 an5 cd5 ct5),sl5⟩) (c5:W.codeIn K cd5 "are_closed" = true) (k5:W.keepIn K (.ref f5) = true)
  (a6:W.nsIn K mainGlobals "are_parts" = some (some (.ref f6))) (l6:K.lookup f6 = some ⟨oc6,od6,.func (W.fnOf "are_parts" "are_parts" (defArgs (top 8)) (defBody (top 8)) (defScope (top 8)) .none kV6 dc6 pm6 an6 cd6 ct6),sl6⟩) (c6:W.codeIn K cd6 "are_parts" = true) (k6:W.keepIn K (.ref f6) = true)
  (a7:W.nsIn K mainGlobals "is_upheld" = some (some (.ref f7))) (l7:K.lookup f7 = some ⟨oc7,od7,.func (W.fnOf "is_upheld" "is_upheld" (defArgs (top 9)) (defBody (top 9)) (defScope (top 9)) .none kV7 dc7 pm7 an7 cd7 ct7),sl7⟩) (c7:W.codeIn K cd7 "is_upheld" = true) (k7:W.keepIn K (.ref f7) = true)
  (a8:W.nsIn K mainGlobals "is_pairing" = some (some (.ref f8))) (l8:K.lookup f8 = some ⟨oc8,od8,.func (W.fnOf "is_pairing" "is_pairing" (defArgs (top 11)) (defBody (top 11)) (defScope (top 11)) .none kV8 dc8 pm8 an8 cd8 ct8),sl8⟩) (c8:W.codeIn K cd8 "is_pairing" = true) (k8:W.keepIn K (.ref f8) = true)
  (a9:W.nsIn K mainGlobals "stand_once" = some (some (.ref f9))) (l9:K.lookup f9 = some ⟨oc9,od9,.func (W.fnOf "stand_once" "stand_once" (defArgs (top 12)) (defBody (top 12)) (defScope (top 12)) .none kV9 dc9 pm9 an9 cd9 ct9),sl9⟩) (c9:W.codeIn K cd9 "stand_once" = true) (k9:W.keepIn K (.ref f9) = true)
  (a10:W.nsIn K mainGlobals "_law_cell_at" = some (some (.ref f10))) (l10:K.lookup f10 = some ⟨oc10,od10,.func (W.fnOf "_law_cell_at" "_law_cell_at" (defArgs (top 14)) (defBody (top 14)) (defScope (top 14)) .none kV10 dc10 pm10 an10 cd10 ct10),sl10⟩) (c10:W.codeIn K cd10 "_law_cell_at" = true) (k10:W.keepIn K (.ref f10) = true)
  (a11:W.nsIn K mainGlobals "_law_pool" = some (some (.ref f11))) (l11:K.lookup f11 = some ⟨oc11,od11,.func (W.fnOf "_law_pool" "_law_pool" (defArgs (top 15)) (defBody (top 15)) (defScope (top 15)) .none kV11 dc11 pm11 an11 cd11 ct11),sl11⟩) (c11:W.codeIn K cd11 "_law_pool" = true) (k11:W.keepIn K (.ref f11) = true)
  (a12:W.nsIn K mainGlobals "_law_mix" = some (some (.ref f12))) (l12:K.lookup f12 = some ⟨oc12,od12,.func (W.fnOf "_law_mix" "_law_mix" (defArgs (top 16)) (defBody (top 16)) (defScope (top 16)) .none kV12 dc12 pm12 an12 cd12 ct12),sl12⟩) (c12:W.codeIn K cd12 "_law_mix" = true) (k12:W.keepIn K (.ref f12) = true)
  (a13:W.nsIn K mainGlobals "_law_value" = some (some (.ref f13))) (l13:K.lookup f13 = some ⟨oc13,od13,.func (W.fnOf "_law_value" "_law_value" (defArgs (top 17)) (defBody (top 17)) (defScope (top 17)) .none kV13 dc13 pm13 an13 cd13 ct13),sl13⟩) (c13:W.codeIn K cd13 "_law_value" = true) (k13:W.keepIn K (.ref f13) = true)
  (a14:W.nsIn K mainGlobals "_law_values" = some (some (.ref f14))) (l14:K.lookup f14 = some ⟨oc14,od14,.func (W.fnOf "_law_values" "_law_values" (defArgs (top 18)) (defBody (top 18)) (defScope (top 18)) .none kV14 dc14 pm14 an14 cd14 ct14),sl14⟩) (c14:W.codeIn K cd14 "_law_values" = true) (k14:W.keepIn K (.ref f14) = true)
  (a15:W.nsIn K mainGlobals "_law_part" = some (some (.ref f15))) (l15:K.lookup f15 = some ⟨oc15,od15,.func (W.fnOf "_law_part" "_law_part" (defArgs (top 19)) (defBody (top 19)) (defScope (top 19)) .none kV15 dc15 pm15 an15 cd15 ct15),sl15⟩) (c15:W.codeIn K cd15 "_law_part" = true) (k15:W.keepIn K (.ref f15) = true)
  (a16:W.nsIn K mainGlobals "_law_web" = some (some (.ref f16))) (l16:K.lookup f16 = some ⟨oc16,od16,.func (W.fnOf "_law_web" "_law_web" (defArgs (top 20)) (defBody (top 20)) (defScope (top 20)) .none kV16 dc16 pm16 an16 cd16 ct16),sl16⟩) (c16:W.codeIn K cd16 "_law_web" = true) (k16:W.keepIn K (.ref f16) = true)
  (a17:W.nsIn K mainGlobals "_law_vals" = some (some (.ref f17))) (l17:K.lookup f17 = some ⟨oc17,od17,.func (W.fnOf "_law_vals" "_law_vals" (defArgs (top 21)) (defBody (top 21)) (defScope (top 21)) .none kV17 dc17 pm17 an17 cd17 ct17),sl17⟩) (c17:W.codeIn K cd17 "_law_vals" = true) (k17:W.keepIn K (.ref f17) = true)
  (a18:W.nsIn K mainGlobals "_law_head" = some (some (.ref f18))) (l18:K.lookup f18 = some ⟨oc18,od18,.func (W.fnOf "_law_head" "_law_head" (defArgs (top 22)) (defBody (top 22)) (defScope (top 22)) .none kV18 dc18 pm18 an18 cd18 ct18),sl18⟩) (c18:W.codeIn K cd18 "_law_head" = true) (k18:W.keepIn K (.ref f18) = true)
  (a19:W.nsIn K mainGlobals "_law_with" = some (some (.ref f19))) (l19:K.lookup f19 = some ⟨oc19,od19,.func (W.fnOf "_law_with" "_law_with" (defArgs (top 23)) (defBody (top 23)) (defScope (top 23)) .none kV19 dc19 pm19 an19 cd19 ct19),sl19⟩) (c19:W.codeIn K cd19 "_law_with" = true) (k19:W.keepIn K (.ref f19) = true)
  (a20:W.nsIn K mainGlobals "_law_led" = some (some (.ref f20))) (l20:K.lookup f20 = some ⟨oc20,od20,.func (W.fnOf "_law_led" "_law_led" (defArgs (top 24)) (defBody (top 24)) (defScope (top 24)) .none kV20 dc20 pm20 an20 cd20 ct20),sl20⟩) (c20:W.codeIn K cd20 "_law_led" = true) (k20:W.keepIn K (.ref f20) = true)
  (a21:W.nsIn K mainGlobals "_law_drawn_web" = some (some (.ref f21))) (l21:K.lookup f21 = some ⟨oc21,od21,.func (W.fnOf "_law_drawn_web" "_law_drawn_web" (defArgs (top 25)) (defBody (top 25)) (defScope (top 25)) .none kV21 dc21 pm21 an21 cd21 ct21),sl21⟩) (c21:W.codeIn K cd21 "_law_drawn_web" = true) (k21:W.keepIn K (.ref f21) = true)
  (a22:W.nsIn K mainGlobals "_law_changed" = some (some (.ref f22))) (l22:K.lookup f22 = some ⟨oc22,od22,.func (W.fnOf "_law_changed" "_law_changed" (defArgs (top 26)) (defBody (top 26)) (defScope (top 26)) .none kV22 dc22 pm22 an22 cd22 ct22),sl22⟩) (c22:W.codeIn K cd22 "_law_changed" = true) (k22:W.keepIn K (.ref f22) = true)
  (a23:W.nsIn K mainGlobals "_law_order" = some (some (.ref f23))) (l23:K.lookup f23 = some ⟨oc23,od23,.func (W.fnOf "_law_order" "_law_order" (defArgs (top 27)) (defBody (top 27)) (defScope (top 27)) .none kV23 dc23 pm23 an23 cd23 ct23),sl23⟩) (c23:W.codeIn K cd23 "_law_order" = true) (k23:W.keepIn K (.ref f23) = true)
  (a24:W.nsIn K mainGlobals "_law_places" = some (some (.ref f24))) (l24:K.lookup f24 = some ⟨oc24,od24,.func (W.fnOf "_law_places" "_law_places" (defArgs (top 29)) (defBody (top 29)) (defScope (top 29)) .none kV24 dc24 pm24 an24 cd24 ct24),sl24⟩) (c24:W.codeIn K cd24 "_law_places" = true) (k24:W.keepIn K (.ref f24) = true)
  (a25:W.nsIn K mainGlobals "_law_renumbered" = some (some (.ref f25))) (l25:K.lookup f25 = some ⟨oc25,od25,.func (W.fnOf "_law_renumbered" "_law_renumbered" (defArgs (top 30)) (defBody (top 30)) (defScope (top 30)) .none kV25 dc25 pm25 an25 cd25 ct25),sl25⟩) (c25:W.codeIn K cd25 "_law_renumbered" = true) (k25:W.keepIn K (.ref f25) = true)
  (a26:W.nsIn K mainGlobals "_law_go_on" = some (some (.ref f26))) (l26:K.lookup f26 = some ⟨oc26,od26,.func (W.fnOf "_law_go_on" "_law_go_on" (defArgs (top 31)) (defBody (top 31)) (defScope (top 31)) .none kV26 dc26 pm26 an26 cd26 ct26),sl26⟩) (c26:W.codeIn K cd26 "_law_go_on" = true) (k26:W.keepIn K (.ref f26) = true)
  (a27:W.nsIn K mainGlobals "_law_due" = some (some (.ref f27))) (l27:K.lookup f27 = some ⟨oc27,od27,.func (W.fnOf "_law_due" "_law_due" (defArgs (top 32)) (defBody (top 32)) (defScope (top 32)) .none kV27 dc27 pm27 an27 cd27 ct27),sl27⟩) (c27:W.codeIn K cd27 "_law_due" = true) (k27:W.keepIn K (.ref f27) = true)
  (a28:W.nsIn K mainGlobals "_law_asked" = some (some (.ref f28))) (l28:K.lookup f28 = some ⟨oc28,od28,.func (W.fnOf "_law_asked" "_law_asked" (defArgs (top 33)) (defBody (top 33)) (defScope (top 33)) .none kV28 dc28 pm28 an28 cd28 ct28),sl28⟩) (c28:W.codeIn K cd28 "_law_asked" = true) (k28:W.keepIn K (.ref f28) = true)
  (a29:W.nsIn K mainGlobals "_law_spoilt" = some (some (.ref f29))) (l29:K.lookup f29 = some ⟨oc29,od29,.func (W.fnOf "_law_spoilt" "_law_spoilt" (defArgs (top 34)) (defBody (top 34)) (defScope (top 34)) .none kV29 dc29 pm29 an29 cd29 ct29),sl29⟩) (c29:W.codeIn K cd29 "_law_spoilt" = true) (k29:W.keepIn K (.ref f29) = true)
  (a30:W.nsIn K mainGlobals "law" = some (some (.ref f30))) (l30:K.lookup f30 = some ⟨oc30,od30,.func (W.fnOf "law" "law" (defArgs (top 35)) (defBody (top 35)) (defScope (top 35)) .none kV30 dc30 pm30 an30 cd30 ct30),sl30⟩) (c30:W.codeIn K cd30 "law" = true) (k30:W.keepIn K (.ref f30) = true)
  (z_all:W.nsIn K mainGlobals "all" = some none)
  (z_bool:W.nsIn K mainGlobals "bool" = some none)
  (z_dict:W.nsIn K mainGlobals "dict" = some none)
  (z_int:W.nsIn K mainGlobals "int" = some none)
  (z_isinstance:W.nsIn K mainGlobals "isinstance" = some none)
  (z_len:W.nsIn K mainGlobals "len" = some none)
  (z_list:W.nsIn K mainGlobals "list" = some none)
  (z_range:W.nsIn K mainGlobals "range" = some none)
  (z_reversed:W.nsIn K mainGlobals "reversed" = some none)
  (z_set:W.nsIn K mainGlobals "set" = some none)
  (z_sorted:W.nsIn K mainGlobals "sorted" = some none)
  (z_tuple:W.nsIn K mainGlobals "tuple" = some none)
  (z_zip:W.nsIn K mainGlobals "zip" = some none)
  : ∃ fd:FuncData,(∀ (s:Shared) (v:Value),BindsTo s fd ⟨[v],[]⟩ [("_law_script",v)]) ∧ ∀ base:Heap,K.In base → base.Ns mainGlobals mg → FnOk l.prog w K mg base CX0 7 fa fd ["_law_script"] (spD K m_law):=by
 have e:=hfa.symm.trans (W.mg_of X G a30)
 cases e
 have T:Txt mg:=⟨W.mg_none_of X G z_all,W.mg_none_of X G z_bool,W.mg_none_of X G z_dict,W.mg_none_of X G z_int,W.mg_none_of X G z_isinstance,W.mg_none_of X G z_len,W.mg_none_of X G z_list,W.mg_none_of X G z_range,W.mg_none_of X G z_reversed,W.mg_none_of X G z_set,W.mg_none_of X G z_sorted,W.mg_none_of X G z_tuple,W.mg_none_of X G z_zip⟩
 have F0:=fun_mk (st:=top 1) l0 c0 k0
 have F1:=fun_mk (st:=top 2) l1 c1 k1
 have F2:=fun_mk (st:=top 3) l2 c2 k2
 have F3:=fun_mk (st:=top 5) l3 c3 k3
 have F4:=fun_mk (st:=top 6) l4 c4 k4
 have F5:=fun_mk (st:=top 7) l5 c5 k5
 have F6:=fun_mk (st:=top 8) l6 c6 k6
 have F7:=fun_mk (st:=top 9) l7 c7 k7
 have F8:=fun_mk (st:=top 11) l8 c8 k8
 have F9:=fun_mk (st:=top 12) l9 c9 k9
 have F10:=fun_mk (st:=top 14) l10 c10 k10
 have F11:=fun_mk (st:=top 15) l11 c11 k11
 have F12:=fun_mk (st:=top 16) l12 c12 k12
 have F13:=fun_mk (st:=top 17) l13 c13 k13
 have F14:=fun_mk (st:=top 18) l14 c14 k14
 have F15:=fun_mk (st:=top 19) l15 c15 k15
 have F16:=fun_mk (st:=top 20) l16 c16 k16
 have F17:=fun_mk (st:=top 21) l17 c17 k17
 have F18:=fun_mk (st:=top 22) l18 c18 k18
 have F19:=fun_mk (st:=top 23) l19 c19 k19
 have F20:=fun_mk (st:=top 24) l20 c20 k20
 have F21:=fun_mk (st:=top 25) l21 c21 k21
 have F22:=fun_mk (st:=top 26) l22 c22 k22
 have F23:=fun_mk (st:=top 27) l23 c23 k23
 have F24:=fun_mk (st:=top 29) l24 c24 k24
 have F25:=fun_mk (st:=top 30) l25 c25 k25
 have F26:=fun_mk (st:=top 31) l26 c26 k26
 have F27:=fun_mk (st:=top 32) l27 c27 k27
 have F28:=fun_mk (st:=top 33) l28 c28 k28
 have F29:=fun_mk (st:=top 34) l29 c29 k29
 have F30:=fun_mk (st:=top 35) l30 c30 k30
 refine ⟨W.fnOf "law" "law" (defArgs (top 35)) (defBody (top 35)) (defScope (top 35)) .none kV30 dc30 pm30 an30 cd30 ct30,fun s v=>.of_eq rfl,fun base _ _=>?_⟩
 have C_pair_names:FnN l.prog w K mg base "pair_names" 1 ["part"] m_pair_names:=⟨f0,_,ok_pair_names F0 T ,W.mg_of X G a0,k0,F0.binds (ps:=["part"]) fun _ _ _ _ _ _ us hl=>by obtain ⟨_,rfl⟩:=us1 hl; rfl⟩
 have C_values:FnN l.prog w K mg base "values" 1 ["part"] m_values:=⟨f2,_,ok_values F2 T ,W.mg_of X G a2,k2,F2.binds (ps:=["part"]) fun _ _ _ _ _ _ us hl=>by obtain ⟨_,rfl⟩:=us1 hl; rfl⟩
 have C_are_links:FnD l.prog w K mg base "are_links" 1 ["both"] m_are_links:=⟨f3,_,ok_are_links F3 T ,W.mg_of X G a3,k3,F3.binds (ps:=["both"]) fun _ _ _ _ _ _ us hl=>by obtain ⟨_,rfl⟩:=us1 hl; rfl⟩
 have C_linked_pair:FnD l.prog w K mg base "linked_pair" 1 ["both"] m_linked_pair:=⟨f4,_,ok_linked_pair F4 T ,W.mg_of X G a4,k4,F4.binds (ps:=["both"]) fun _ _ _ _ _ _ us hl=>by obtain ⟨_,rfl⟩:=us1 hl; rfl⟩
 have C_are_parts:FnD l.prog w K mg base "are_parts" 1 ["one", "other", "pair"] m_are_parts:=⟨f6,_,ok_are_parts F6 T ,W.mg_of X G a6,k6,F6.binds (ps:=["one", "other", "pair"]) fun _ _ _ _ _ _ us hl=>by obtain ⟨_,_,_,rfl⟩:=us3 hl; rfl⟩
 have C_stand_once:FnD l.prog w K mg base "stand_once" 1 ["pairs"] m_stand_once:=⟨f9,_,ok_stand_once F9 T ,W.mg_of X G a9,k9,F9.binds (ps:=["pairs"]) fun _ _ _ _ _ _ us hl=>by obtain ⟨_,rfl⟩:=us1 hl; rfl⟩
 have C__law_cell_at:FnD l.prog w K mg base "_law_cell_at" 1 ["_law_script", "_law_k"] m__law_cell_at:=⟨f10,_,ok__law_cell_at F10 T ,W.mg_of X G a10,k10,F10.binds (ps:=["_law_script", "_law_k"]) fun _ _ _ _ _ _ us hl=>by obtain ⟨_,_,rfl⟩:=us2 hl; rfl⟩
 have C__law_pool:FnN l.prog w K mg base "_law_pool" 1 ["_law_cell", "_law_turn"] m__law_pool:=⟨f11,_,ok__law_pool F11 T ,W.mg_of X G a11,k11,F11.binds (ps:=["_law_cell", "_law_turn"]) fun _ _ _ _ _ _ us hl=>by obtain ⟨_,_,rfl⟩:=us2 hl; rfl⟩
 have C__law_mix:FnD l.prog w K mg base "_law_mix" 1 ["_law_cell", "_law_k"] m__law_mix:=⟨f12,_,ok__law_mix F12 T ,W.mg_of X G a12,k12,F12.binds (ps:=["_law_cell", "_law_k"]) fun _ _ _ _ _ _ us hl=>by obtain ⟨_,_,rfl⟩:=us2 hl; rfl⟩
 have C__law_value:FnD l.prog w K mg base "_law_value" 1 ["_law_number", "_law_many"] m__law_value:=⟨f13,_,ok__law_value F13 T ,W.mg_of X G a13,k13,F13.binds (ps:=["_law_number", "_law_many"]) fun _ _ _ _ _ _ us hl=>by obtain ⟨_,_,rfl⟩:=us2 hl; rfl⟩
 have C__law_part:FnD l.prog w K mg base "_law_part" 1 ["_law_number", "_law_some", "_law_pool_here"] m__law_part:=⟨f15,_,ok__law_part F15 T ,W.mg_of X G a15,k15,F15.binds (ps:=["_law_number", "_law_some", "_law_pool_here"]) fun _ _ _ _ _ _ us hl=>by obtain ⟨_,_,_,rfl⟩:=us3 hl; rfl⟩
 have C__law_vals:FnN l.prog w K mg base "_law_vals" 1 ["_law_part_here"] m__law_vals:=⟨f17,_,ok__law_vals F17 T ,W.mg_of X G a17,k17,F17.binds (ps:=["_law_part_here"]) fun _ _ _ _ _ _ us hl=>by obtain ⟨_,rfl⟩:=us1 hl; rfl⟩
 have C__law_head:FnD l.prog w K mg base "_law_head" 1 ["_law_part_here"] m__law_head:=⟨f18,_,ok__law_head F18 T ,W.mg_of X G a18,k18,F18.binds (ps:=["_law_part_here"]) fun _ _ _ _ _ _ us hl=>by obtain ⟨_,rfl⟩:=us1 hl; rfl⟩
 have C__law_with:FnD l.prog w K mg base "_law_with" 1 ["_law_part_here", "_law_some"] m__law_with:=⟨f19,_,ok__law_with F19 T ,W.mg_of X G a19,k19,F19.binds (ps:=["_law_part_here", "_law_some"]) fun _ _ _ _ _ _ us hl=>by obtain ⟨_,_,rfl⟩:=us2 hl; rfl⟩
 have C__law_places:FnN l.prog w K mg base "_law_places" 1 ["_law_cell", "_law_many"] m__law_places:=⟨f24,_,ok__law_places F24 T ,W.mg_of X G a24,k24,F24.binds (ps:=["_law_cell", "_law_many"]) fun _ _ _ _ _ _ us hl=>by obtain ⟨_,_,rfl⟩:=us2 hl; rfl⟩
 have C__law_spoilt:FnD l.prog w K mg base "_law_spoilt" 1 ["_law_pairs", "_law_number", "_law_one", "_law_other"] m__law_spoilt:=⟨f29,_,ok__law_spoilt F29 T ,W.mg_of X G a29,k29,F29.binds (ps:=["_law_pairs", "_law_number", "_law_one", "_law_other"]) fun _ _ _ _ _ _ us hl=>by obtain ⟨_,_,_,_,rfl⟩:=us4 hl; rfl⟩
 have C_head:FnD l.prog w K mg base "head" 2 ["part"] m_head:=⟨f1,_,ok_head F1 T C_pair_names,W.mg_of X G a1,k1,F1.binds (ps:=["part"]) fun _ _ _ _ _ _ us hl=>by obtain ⟨_,rfl⟩:=us1 hl; rfl⟩
 have C__law_values:FnN l.prog w K mg base "_law_values" 2 ["_law_number", "_law_count", "_law_many"] m__law_values:=⟨f14,_,ok__law_values F14 T C__law_value,W.mg_of X G a14,k14,F14.binds (ps:=["_law_number", "_law_count", "_law_many"]) fun _ _ _ _ _ _ us hl=>by obtain ⟨_,_,_,rfl⟩:=us3 hl; rfl⟩
 have C__law_led:FnD l.prog w K mg base "_law_led" 2 ["_law_part_here", "_law_numbers"] m__law_led:=⟨f20,_,ok__law_led F20 T C__law_vals C__law_with,W.mg_of X G a20,k20,F20.binds (ps:=["_law_part_here", "_law_numbers"]) fun _ _ _ _ _ _ us hl=>by obtain ⟨_,_,rfl⟩:=us2 hl; rfl⟩
 have C__law_changed:FnD l.prog w K mg base "_law_changed" 2 ["_law_web_here", "_law_cell"] m__law_changed:=⟨f22,_,ok__law_changed F22 T C__law_vals C__law_value C__law_with,W.mg_of X G a22,k22,F22.binds (ps:=["_law_web_here", "_law_cell"]) fun _ _ _ _ _ _ us hl=>by obtain ⟨_,_,rfl⟩:=us2 hl; rfl⟩
 have C__law_order:FnN l.prog w K mg base "_law_order" 2 ["_law_web_here"] m__law_order:=⟨f23,_,ok__law_order F23 T C__law_vals,W.mg_of X G a23,k23,F23.binds (ps:=["_law_web_here"]) fun _ _ _ _ _ _ us hl=>by obtain ⟨_,rfl⟩:=us1 hl; rfl⟩
 have C__law_go_on:FnD l.prog w K mg base "_law_go_on" 2 ["_law_one", "_law_other", "_law_pair"] m__law_go_on:=⟨f26,_,ok__law_go_on F26 T C__law_head C__law_vals,W.mg_of X G a26,k26,F26.binds (ps:=["_law_one", "_law_other", "_law_pair"]) fun _ _ _ _ _ _ us hl=>by obtain ⟨_,_,_,rfl⟩:=us3 hl; rfl⟩
 have C_is_upheld:FnD l.prog w K mg base "is_upheld" 3 ["one", "other", "pair", "listed"] m_is_upheld:=⟨f7,_,ok_is_upheld F7 T C_are_links C_head C_linked_pair C_values,W.mg_of X G a7,k7,F7.binds (ps:=["one", "other", "pair", "listed"]) fun _ _ _ _ _ _ us hl=>by obtain ⟨_,_,_,_,rfl⟩:=us4 hl; rfl⟩
 have C__law_web:FnD l.prog w K mg base "_law_web" 3 ["_law_cells", "_law_many", "_law_pool_here"] m__law_web:=⟨f16,_,ok__law_web F16 T C__law_mix C__law_part C__law_values,W.mg_of X G a16,k16,F16.binds (ps:=["_law_cells", "_law_many", "_law_pool_here"]) fun _ _ _ _ _ _ us hl=>by obtain ⟨_,_,_,rfl⟩:=us3 hl; rfl⟩
 have C__law_renumbered:FnD l.prog w K mg base "_law_renumbered" 3 ["_law_web_here", "_law_cell", "_law_more"] m__law_renumbered:=⟨f25,_,ok__law_renumbered F25 T C__law_led C__law_places,W.mg_of X G a25,k25,F25.binds (ps:=["_law_web_here", "_law_cell", "_law_more"]) fun _ _ _ _ _ _ us hl=>by obtain ⟨_,_,_,rfl⟩:=us3 hl; rfl⟩
 have C__law_due:FnD l.prog w K mg base "_law_due" 3 ["_law_one", "_law_other", "_law_pairs"] m__law_due:=⟨f27,_,ok__law_due F27 T C__law_go_on,W.mg_of X G a27,k27,F27.binds (ps:=["_law_one", "_law_other", "_law_pairs"]) fun _ _ _ _ _ _ us hl=>by obtain ⟨_,_,_,rfl⟩:=us3 hl; rfl⟩
 have C_are_closed:FnD l.prog w K mg base "are_closed" 4 ["one", "other", "pairs"] m_are_closed:=⟨f5,_,ok_are_closed F5 T C_are_parts C_is_upheld,W.mg_of X G a5,k5,F5.binds (ps:=["one", "other", "pairs"]) fun _ _ _ _ _ _ us hl=>by obtain ⟨_,_,_,rfl⟩:=us3 hl; rfl⟩
 have C__law_drawn_web:FnD l.prog w K mg base "_law_drawn_web" 4 ["_law_script", "_law_most"] m__law_drawn_web:=⟨f21,_,ok__law_drawn_web F21 T C__law_cell_at C__law_pool C__law_web,W.mg_of X G a21,k21,F21.binds (ps:=["_law_script", "_law_most"]) fun _ _ _ _ _ _ us hl=>by obtain ⟨_,_,rfl⟩:=us2 hl; rfl⟩
 have C_is_pairing:FnD l.prog w K mg base "is_pairing" 5 ["one", "other", "pairs"] m_is_pairing:=⟨f8,_,ok_is_pairing F8 T C_are_closed C_stand_once,W.mg_of X G a8,k8,F8.binds (ps:=["one", "other", "pairs"]) fun _ _ _ _ _ _ us hl=>by obtain ⟨_,_,_,rfl⟩:=us3 hl; rfl⟩
 have C__law_asked:FnD l.prog w K mg base "_law_asked" 6 ["_law_one", "_law_other", "_law_pairs"] m__law_asked:=⟨f28,_,ok__law_asked F28 T C__law_due C_is_pairing,W.mg_of X G a28,k28,F28.binds (ps:=["_law_one", "_law_other", "_law_pairs"]) fun _ _ _ _ _ _ us hl=>by obtain ⟨_,_,_,rfl⟩:=us3 hl; rfl⟩
 exact ok_law F30 T C__law_asked C__law_cell_at C__law_changed C__law_drawn_web C__law_mix C__law_order C__law_renumbered C__law_spoilt
theorem rps_ints {K:W.Frag} {H:Hp} {B:BS}:∀ ns:List Int,Rps K H B (ns.map D.int) (ns.map V.int)
 | []=>by rw [List.map_nil,List.map_nil,rps_nil]
 | n :: ns=>by
  rw [List.map_cons,List.map_cons,rps_cons]
  exact ⟨_,_,rfl,by rw [rp_int],rps_ints ns⟩
theorem start_law {K:W.Frag} {H:Hp} {a:Addr} {ns:List Int} (hS:SqL K H a (ns.map V.int)) (hm:m_law [.lst (ns.map .int)] = some (.bl true)):spD K m_law [.ref a] H (fun v _=>v = .bl true) fun _ _ _=>False:=by
 refine ⟨fun _=>False,[.lst (ns.map .int)],.bl true,fun _ z=>z.elim,?_,hm,fun v H' _ r=>by rw [rp_bl] at r; exact r⟩
 rw [rps_cons]
 refine ⟨_,[],rfl,?_,by rw [rps_nil]⟩
 rw [rp_lst]
 refine ⟨a,ns.map V.int,rfl,?_,rps_ints ns⟩
 rcases hS with h | h
 ·exact .inl ⟨fun z=>z,h⟩
 ·exact .inr (.inr h)
end Ta
open PySem PySem.W PyProof.Rows
theorem PySem.W.Fast.tw10849735712558321924:True:=trivial
theorem PySem.W.Fast.tw14635931532821668777:True:=trivial
theorem PySem.W.Fast.tw1591629769976804607:True:=trivial
theorem PySem.W.Fast.tw2267225610369451698:True:=trivial
theorem PySem.W.Fast.tw3215863863010099516:True:=trivial
theorem PySem.W.Fast.tw4131591238832137938:True:=trivial
theorem PySem.W.Fast.tw16199267333706286916:True:=trivial
theorem PySem.W.Fast.tw14904486971160288818:True:=trivial
theorem PySem.W.Fast.tw10925211633073584965:True:=trivial
theorem PySem.W.Fast.tw12348521446056634674:True:=trivial
theorem PySem.W.Fast.tw18111712186419360146:True:=trivial
theorem PySem.W.Fast.tw5196017902856934723:True:=trivial
theorem PySem.W.Fast.tw10789104193154945719:True:=trivial
theorem PySem.W.Fast.tw5223752567560146214:True:=trivial
theorem PySem.W.Fast.tw7445957106639909436:True:=trivial
theorem PySem.W.Fast.tw10317934973984543176:True:=trivial
theorem PySem.W.Fast.tw7269574455640333041:True:=trivial
theorem PySem.W.Fast.tw7853663186499692956:True:=trivial
theorem PySem.W.Fast.tw17310627259635122833:True:=trivial
theorem PySem.W.Fast.tw8497030371484245177:True:=trivial
theorem PySem.W.Fast.tw11385926822121222931:True:=trivial
theorem PySem.W.Fast.tw13865239771380860126:True:=trivial
theorem PySem.W.Fast.tw5010695678861607569:True:=trivial
theorem PySem.W.Fast.tw14223206779162319795:True:=trivial
theorem PySem.W.Fast.tw17245253527103169214:True:=trivial
theorem PySem.W.Fast.tw16043870060006306452:True:=trivial
theorem PySem.W.Fast.tw5851707432197170157:True:=trivial
theorem PySem.W.Fast.tw2887865559560776411:True:=trivial
theorem PySem.W.Fast.tw13528918912078949349:True:=trivial
theorem PySem.W.Fast.tw2020548082394215904:True:=trivial
theorem PySem.W.Fast.tw15836106698156507731:True:=trivial
theorem PySem.W.Fast.tw9744565624902751461:True:=trivial
theorem PySem.W.Fast.tw24163907637177267:True:=trivial
theorem PySem.W.Fast.tw11810590767286548197:True:=trivial
theorem PySem.W.Fast.tw12349211107148090608:True:=trivial
theorem PySem.W.Fast.tw5529071390612232407:True:=trivial
theorem PySem.W.Fast.tw5538920903663554946:True:=trivial
theorem PySem.W.Fast.tw4164478206771880172:True:=trivial
theorem PySem.W.Fast.tw11581811699921049552:True:=trivial
theorem PySem.W.Fast.tw4995024304447515578:True:=trivial
set_option maxRecDepth 100000 in
set_option maxHeartbeats 0 in
theorem PySem.Challenge.cw_graphpack_k18_what_is_a_pairing_holds : PySem.Challenge.rw_graphpack_k18_what_is_a_pairing.Holds := by
 w_on; o_law; k_head; (case hw=>w_witness2)
 k_fill
 refine L2.walk_ofK (l:=PySem.Challenge.rw_graphpack_k18_what_is_a_pairing) (n:=63) (k:=7) (x := "_law_script") (CX:=L2.CX0) (sp:=fun K=>DL.spD K Ta.m_law) rfl (by decide) rfl ⟨rfl,by decide,by decide⟩ (fun w h Y=>W.kIn_of Y) ?F ?S ?C
 case F =>
  intro w mg fa h KX G hmg
  refine' Ta.all_mk KX G hmg ?a0 ?l0 ?c0 ?k0 ?a1 ?l1 ?c1 ?k1 ?a2 ?l2 ?c2 ?k2 ?a3 ?l3 ?c3 ?k3 ?a4 ?l4 ?c4 ?k4 ?a5 ?l5 ?c5 ?k5 ?a6 ?l6 ?c6 ?k6 ?a7 ?l7 ?c7 ?k7 ?a8 ?l8 ?c8 ?k8 ?a9 ?l9 ?c9 ?k9 ?a10 ?l10 ?c10 ?k10 ?a11 ?l11 ?c11 ?k11 ?a12 ?l12 ?c12 ?k12 ?a13 ?l13 ?c13 ?k13 ?a14 ?l14 ?c14 ?k14 ?a15 ?l15 ?c15 ?k15 ?a16 ?l16 ?c16 ?k16 ?a17 ?l17 ?c17 ?k17 ?a18 ?l18 ?c18 ?k18 ?a19 ?l19 ?c19 ?k19 ?a20 ?l20 ?c20 ?k20 ?a21 ?l21 ?c21 ?k21 ?a22 ?l22 ?c22 ?k22 ?a23 ?l23 ?c23 ?k23 ?a24 ?l24 ?c24 ?k24 ?a25 ?l25 ?c25 ?k25 ?a26 ?l26 ?c26 ?k26 ?a27 ?l27 ?c27 ?k27 ?a28 ?l28 ?c28 ?k28 ?a29 ?l29 ?c29 ?k29 ?a30 ?l30 ?c30 ?k30 ?z_all ?z_bool ?z_dict ?z_int ?z_isinstance ?z_len ?z_list ?z_range ?z_reversed ?z_set ?z_sorted ?z_tuple ?z_zip
  (case a0=>k_is)
  (case l0=>k_is)
  (case c0=>k_is)
  (case k0=>k_is)
  (case a1=>k_is)
  (case l1=>k_is)
  (case c1=>k_is)
  (case k1=>k_is)
  (case a2=>k_is)
  (case l2=>k_is)
  (case c2=>k_is)
  (case k2=>k_is)
  (case a3=>k_is)
  (case l3=>k_is)
  (case c3=>k_is)
  (case k3=>k_is)
  (case a4=>k_is)
  (case l4=>k_is)
  (case c4=>k_is)
  (case k4=>k_is)
  (case a5=>k_is)
  (case l5=>k_is)
  (case c5=>k_is)
  (case k5=>k_is)
  (case a6=>k_is)
  (case l6=>k_is)
  (case c6=>k_is)
  (case k6=>k_is)
  (case a7=>k_is)
  (case l7=>k_is)
  (case c7=>k_is)
  (case k7=>k_is)
  (case a8=>k_is)
  (case l8=>k_is)
  (case c8=>k_is)
  (case k8=>k_is)
  (case a9=>k_is)
  (case l9=>k_is)
  (case c9=>k_is)
  (case k9=>k_is)
  (case a10=>k_is)
  (case l10=>k_is)
  (case c10=>k_is)
  (case k10=>k_is)
  (case a11=>k_is)
  (case l11=>k_is)
  (case c11=>k_is)
  (case k11=>k_is)
  (case a12=>k_is)
  (case l12=>k_is)
  (case c12=>k_is)
  (case k12=>k_is)
  (case a13=>k_is)
  (case l13=>k_is)
  (case c13=>k_is)
  (case k13=>k_is)
  (case a14=>k_is)
  (case l14=>k_is)
  (case c14=>k_is)
  (case k14=>k_is)
  (case a15=>k_is)
  (case l15=>k_is)
  (case c15=>k_is)
  (case k15=>k_is)
  (case a16=>k_is)
  (case l16=>k_is)
  (case c16=>k_is)
  (case k16=>k_is)
  (case a17=>k_is)
  (case l17=>k_is)
  (case c17=>k_is)
  (case k17=>k_is)
  (case a18=>k_is)
  (case l18=>k_is)
  (case c18=>k_is)
  (case k18=>k_is)
  (case a19=>k_is)
  (case l19=>k_is)
  (case c19=>k_is)
  (case k19=>k_is)
  (case a20=>k_is)
  (case l20=>k_is)
  (case c20=>k_is)
  (case k20=>k_is)
  (case a21=>k_is)
  (case l21=>k_is)
  (case c21=>k_is)
  (case k21=>k_is)
  (case a22=>k_is)
  (case l22=>k_is)
  (case c22=>k_is)
  (case k22=>k_is)
  (case a23=>k_is)
  (case l23=>k_is)
  (case c23=>k_is)
  (case k23=>k_is)
  (case a24=>k_is)
  (case l24=>k_is)
  (case c24=>k_is)
  (case k24=>k_is)
  (case a25=>k_is)
  (case l25=>k_is)
  (case c25=>k_is)
  (case k25=>k_is)
  (case a26=>k_is)
  (case l26=>k_is)
  (case c26=>k_is)
  (case k26=>k_is)
  (case a27=>k_is)
  (case l27=>k_is)
  (case c27=>k_is)
  (case k27=>k_is)
  (case a28=>k_is)
  (case l28=>k_is)
  (case c28=>k_is)
  (case k28=>k_is)
  (case a29=>k_is)
  (case l29=>k_is)
  (case c29=>k_is)
  (case k29=>k_is)
  (case a30=>k_is)
  (case l30=>k_is)
  (case c30=>k_is)
  (case k30=>k_is)
  (case z_all=>k_is)
  (case z_bool=>k_is)
  (case z_dict=>k_is)
  (case z_int=>k_is)
  (case z_isinstance=>k_is)
  (case z_len=>k_is)
  (case z_list=>k_is)
  (case z_range=>k_is)
  (case z_reversed=>k_is)
  (case z_set=>k_is)
  (case z_sorted=>k_is)
  (case z_tuple=>k_is)
  (case z_zip=>k_is)
 case S=>exact fun K H a ns hl hO hS=>Ta.start_law hS (Ta.law_true ns hl)
 case C=>exact fun _ _ _ _ z=>z
#print axioms PySem.Challenge.cw_graphpack_k18_what_is_a_pairing_holds
