import PyProof.Rows.All
import Wide.All
import OpenK.AllK
import Wide.FinOn
import Lean
import PyProof.EqAt
import PyProof.EqKinds
import PyProof.TupleCall
import PyProof.NeKinds
import PyProof.Rows.SetFrom
import KE.KRevIter
import PyProof.ZipIter
import PyProof.TupleOfGen
import PyProof.Rows.ZipGen
import PyProof.EnumMake
import PyProof.EnumFor
import PyProof.ListRange
import PyProof.LayNew
import KE.KDictOf
import KE.KIntText
import KE.IntTextLaws
import PyProof.StrCalls2
import PyProof.Rows.StrNews2
import PyProof.StrLawsTight
import PyProof.ExcArgsOwn
import PyProof.ExcAttrAll.ValueError
import PyProof.IsInstanceT
import PyProof.RulesAs
import PyProof.Rows.Tup
import OpenK.KOwn
import PyProof.ExcInit
import OpenK.KCls
import OpenK.KMake
import PyProof.InstStoreFacts
import PyProof.ListMulRight
import PyProof.AttrMissHeap
import PyProof.RaisesMany
import PyProof.RulesTry
import PyProof.NsDelKeeps
import PyProof.Rows.FStr
import OpenK.KWalk
import PyProof.AutoListH
import PyProof.CallFns
import PyProof.Rows.SortStr
import KE.KDictSum
import PyProof.Draws
import PyProof.Rows.CallKwBuiltin
import PyProof.SumWalkG
import KE.KDictLaws
import PyProof.DictTruth
import PySem.Challenge.RW_graphpack_k45_marks
set_option Elab.async false
set_option linter.all false
set_option maxRecDepth 100000
namespace XC
open PySem
section
variable {prog : Program} {w : World} {A : Around} {E : Value → Shared → Prop} {h : Heap} {g : Array GenState} {d : Drawn} {t : Nat} {os : OsState} {a C : Addr} {o : Obj} {tl : List Value}
end
end XC
namespace XC
open PySem
section
variable {prog : Program} {w : World} {A : Around} {E : Value → Shared → Prop} {h : Heap} {g : Array GenState} {d : Drawn} {t : Nat} {os : OsState} {a C W : Addr} {o : Obj} {tl tw : List Value}
end
end XC
namespace XC
open PySem
section
variable {prog : Program} {w : World} {A : Around} {E : Value → Shared → Prop} {s : Shared} {a C W : Addr} {o : Obj} {tl tw : List Value}
end
end XC
namespace XC
open PySem PySem.W
end XC
namespace XC
open PySem
section
variable {prog : Program} {w : World} {A : Around} {E : Value → Shared → Prop} {h : Heap} {g : Array GenState} {d : Drawn} {t : Nat} {os : OsState} {C f : Addr} {tl : List Value}
end
end XC
namespace XC
open PySem
section
variable {prog : Program} {w : World} {A : Around} {E : Value → Shared → Prop} {h : Heap} {g : Array GenState} {d : Drawn} {t : Nat} {os : OsState} {C e : Addr} {tl : List Value} {od : Option Addr}
end
end XC
namespace XC
open PySem PySem.W Builtin Builtin.ObjectAttr
section
variable {prog : Program} {w : World} {A : Around} {E : Value → Shared → Prop} {s : Shared} {K : Frag} {x C r : Addr} {cd : ClassData} {R : Result → Shared → Prop}
end
end XC
namespace L2
open PySem PySem.Spec PyProof.Rows
noncomputable abbrev Key := Sum Int Str
noncomputable def keyIs : Key → Value → Bool
  | .inl k, v => Value.isInt k v
  | .inr x, v => Value.isStrOf x v
noncomputable def keyH (w : World) : Key → Int
  | .inl k => hashInt k
  | .inr x => hashStr w x
theorem keyIs_shape : ∀ {k : Key} {v : Value}, keyIs k v = true → (∃ i t, k = Sum.inl i ∧ v = Value.int i t) ∨ (∃ x t, k = Sum.inr x ∧ v = Value.str x t)
  | .inl i, v, h => by
    obtain ⟨t, e⟩ := Value.isInt_shape (k := i) (v := v) h
    exact .inl ⟨i, t, rfl, e⟩
  | .inr x, v, h => by
    obtain ⟨t, e⟩ := Value.isStrOf_shape (x := x) (v := v) h
    exact .inr ⟨x, t, rfl, e⟩
theorem keyIs_int (i : Int) (t : Tok) : keyIs (.inl i) (.int i t) = true := by simp [keyIs, Value.isInt]
theorem keyIs_str (x : Str) (t : Tok) : keyIs (.inr x) (.str x t) = true := by simp [keyIs, Value.isStrOf]
theorem key_ll (a b : Int) : decide ((Sum.inl a : Key) = Sum.inl b) = (a == b) := by
  by_cases e : a = b
  · subst e; simp
  · have h : ¬ (Sum.inl a : Key) = Sum.inl b := fun q => e (Sum.inl.inj q)
    rw [decide_eq_false h]
    exact (beq_eq_false_iff_ne.mpr e).symm
theorem key_rr (a b : Str) : decide ((Sum.inr a : Key) = Sum.inr b) = decide (a = b) := by
  by_cases e : a = b
  · subst e; simp
  · have h : ¬ (Sum.inr a : Key) = Sum.inr b := fun q => e (Sum.inr.inj q)
    rw [decide_eq_false h, decide_eq_false e]
theorem key_lr (a : Int) (b : Str) : decide ((Sum.inl a : Key) = Sum.inr b) = false := decide_eq_false (fun q => nomatch q)
theorem key_rl (a : Str) (b : Int) : decide ((Sum.inr a : Key) = Sum.inl b) = false := decide_eq_false (fun q => nomatch q)
noncomputable def mixKind (prog : Program) (w : World) : PySem.KeyKind prog w Key where
  is := keyIs
  hash := keyH w
  inj := fun v a b ha hb => by
    rcases keyIs_shape ha with ⟨i, t, rfl, rfl⟩ | ⟨x, t, rfl, rfl⟩
    · rcases keyIs_shape hb with ⟨j, u, rfl, e⟩ | ⟨y, u, rfl, e⟩
      · injection e with e1 _; rw [e1]
      · exact nomatch e
    · rcases keyIs_shape hb with ⟨j, u, rfl, e⟩ | ⟨y, u, rfl, e⟩
      · exact nomatch e
      · injection e with e1 _; rw [e1]
  byValue := fun k v h => by
    rcases keyIs_shape h with ⟨i, t, rfl, rfl⟩ | ⟨x, t, rfl, rfl⟩ <;> rfl
  pyHash := fun hv h => by
    rcases keyIs_shape hv with ⟨i, t, rfl, rfl⟩ | ⟨x, t, rfl, rfl⟩
    · exact wpAny_pyHash_int h
    · exact wpAny_pyHash_str h
  eqBool := fun hu hv h => by
    rcases keyIs_shape hu with ⟨i, t, rfl, rfl⟩ | ⟨x, t, rfl, rfl⟩
    · rcases keyIs_shape hv with ⟨j, u, rfl, rfl⟩ | ⟨y, u, rfl, rfl⟩
      · rw [key_ll] at h; exact wpAny_eqBool_int h
      · rw [key_lr] at h; exact SeqAt.EqAt.int_str i t y u _ _ _ _ h
    · rcases keyIs_shape hv with ⟨j, u, rfl, rfl⟩ | ⟨y, u, rfl, rfl⟩
      · rw [key_rl] at h; exact SeqAt.EqAt.str_int x t j u _ _ _ _ h
      · rw [key_rr] at h; exact wpAny_eqBool_str h
  «strs» := fun k x t v h => by
    rcases keyIs_shape h with ⟨i, u, rfl, e⟩ | ⟨y, u, rfl, e⟩
    · exact nomatch e
    · injection e with e1 _
      subst e1
      cases v <;> rfl
theorem mixKind_int (prog : Program) (w : World) (i : Int) (t : Tok) : (mixKind prog w).is (.inl i) (.int i t) = true := keyIs_int i t
theorem mixKind_str (prog : Program) (w : World) (x : Str) (t : Tok) : (mixKind prog w).is (.inr x) (.str x t) = true := keyIs_str x t
end L2
namespace L2
open PySem PySem.Spec PyProof.Rows
inductive V where
  | non | bl (b : Bool) | int (i : Int) | str (x : Str) | byt (b : Array UInt8) | flt (b : UInt64) | ref (a : Addr) | ty (n : String)
  deriving DecidableEq
noncomputable def RelV : V → Value → Prop
  | .non, u => u = Value.none
  | .bl b, u => u = Value.bool b
  | .int i, u => ∃ t, u = Value.int i t
  | .str x, u => ∃ t, u = Value.str x t
  | .byt b, u => ∃ t, u = Value.bytes b t
  | .flt b, u => ∃ t, u = Value.float b t
  | .ref a, u => u = Value.ref a
  | .ty n, u => u = Value.type n
noncomputable abbrev Vals : List V → List Value → Prop := Paired RelV
theorem Vals.length {xs : List V} {us : List Value} (r : Vals xs us) : xs.length = us.length := Paired.length r
theorem Vals.get : ∀ {xs : List V} {us : List Value} {i : Nat} {x : V}, Vals xs us → xs[i]? = some x → ∃ u, us[i]? = some u ∧ RelV x u
  | _, _, _, _, .nil, e => by simp at e
  | _, _, 0, _, .cons r _, e => by simp at e; subst e; exact ⟨_, rfl, r⟩
  | _, _, i + 1, x, .cons _ t, e => by
    obtain ⟨u, h1, h2⟩ := Vals.get (i := i) (x := x) t (by simpa using e)
    exact ⟨u, by simpa using h1, h2⟩
theorem Vals.append : ∀ {xs ys : List V} {us ws : List Value}, Vals xs us → Vals ys ws → Vals (xs ++ ys) (us ++ ws)
  | _, _, _, _, .nil, s => s
  | _, _, _, _, .cons r t, s => .cons r (Vals.append t s)
theorem Vals.take : ∀ {xs : List V} {us : List Value} (n : Nat), Vals xs us → Vals (xs.take n) (us.take n)
  | _, _, 0, _ => .nil
  | _, _, _ + 1, .nil => .nil
  | _, _, n + 1, .cons r t => .cons r (Vals.take n t)
theorem Vals.drop : ∀ {xs : List V} {us : List Value} (n : Nat), Vals xs us → Vals (xs.drop n) (us.drop n)
  | _, _, 0, r => r
  | _, _, _ + 1, .nil => .nil
  | _, _, n + 1, .cons _ t => Vals.drop n t
noncomputable def RelO : Option V → Option Value → Prop
  | some v, some u => RelV v u
  | none, none => True
  | _, _ => False
noncomputable def KV {κ : Type} : List (κ × V) → List (κ × Value) → Prop := Paired fun (p : κ × V) (q : κ × Value) => p.1 = q.1 ∧ RelV p.2 q.2
noncomputable def kV : Key → V
  | .inl i => .int i
  | .inr x => .str x
inductive HO where
  | lst (xs : List V)
  | tup (xs : List V)
  | dK (kvs : List (Key × V)) | dT (kvs : List (List Key × V))
  | set (S : Int → Bool) (n : Nat)
  | ins (C dx : Addr) (fs : List (Str × V))
  | own (x : Addr)
  | xd (fs : List (Str × V))
  | met (f x : Addr)
  | rng (lo hi : Int)
  | frz (o : Obj) (u : HO)
  | tbl (ps : Array Value)
  | ext (φ : Heap → Prop)
noncomputable abbrev Hp := Addr → Option HO
noncomputable def upd (H : Hp) (a : Addr) (o : HO) : Hp := fun b => if b = a then some o else H b
theorem upd_same {H : Hp} {a : Addr} {o : HO} : upd H a o a = some o := by unfold upd; rw [if_pos rfl]
theorem upd_ne {H : Hp} {a b : Addr} {o : HO} (h : b ≠ a) : upd H a o b = H b := by unfold upd; rw [if_neg h]
theorem ne_of {H : Hp} {a b : Addr} {o u : HO} (h : H a = some o) (h' : H b = some u) (d : o ≠ u) : a ≠ b := by
  intro e; subst e; rw [h] at h'; exact d (Option.some.inj h')
theorem ne_of_none {H : Hp} {a b : Addr} {o : HO} (h : H a = some o) (h' : H b = none) : a ≠ b := by
  intro e; subst e; rw [h] at h'; cases h'
noncomputable def IsTupN (h : Heap) (a : Addr) (items : Array Value) : Prop := ∃ o, h.get? a = some o ∧ o.cls = .type "tuple" ∧ ∃ n, o.data = .seq items n ∧ o.dict = none
theorem IsTupN.tup {h : Heap} {a : Addr} {items : Array Value} (x : IsTupN h a items) : IsTup h a items := let ⟨o, e, c, n, d, _⟩ := x; ⟨o, e, c, n, d⟩
theorem IsTupN.new (h : Heap) (items : Array Value) : IsTupN (h.push { cls := .type "tuple", data := .seq items }) h.objs.size items := ⟨_, Heap.get?_push_size _ rfl, rfl, _, rfl, rfl⟩
section
variable (P : Program) (w : World)
noncomputable def ObjOk (H : Hp) (h : Heap) (a : Addr) : HO → Prop
  | .lst xs => xs.length ≤ sizeLine ∧ ∃ (its : List Value) (n : Nat), Vals xs its ∧ h.get? a = some { cls := .type "list", data := .seq its.toArray n }
  | .tup xs => xs.length ≤ sizeLine ∧ ∃ its : List Value, Vals xs its ∧ IsTupN h a its.toArray
  | .dK kvs => kvs.length ≤ sizeLine ∧ (a == sysModules) = false ∧ ∃ vs, KV kvs vs ∧ h.DictOf (mixKind P w) a vs
  | .dT kvs => kvs.length ≤ sizeLine ∧ (a == sysModules) = false ∧ ∃ xs : List (List Key × Addr × Value),
      Paired (fun (p : List Key × V) (q : List Key × Addr × Value) => p.1 = q.1 ∧ H q.2.1 = some (.tup (p.1.map kV)) ∧ RelV p.2 q.2.2) kvs xs ∧
      ∃ o es ep, h.get? a = some o ∧ o.ExactDict ∧ o.data = .dict es ep ∧ es.toList = xs.map (entryOfKey (tupleKind (mixKind P w))) ∧ (xs.map (·.1)).Nodup
  | .set S n => h.SetOf (intKind P w) a S n
  | .ins C dx fs => H dx = some (.own a) ∧ fs.length ≤ 1000 ∧ dx ≠ a ∧ h.get? a = some (PySem.W.instObj C dx) ∧
      ∃ mA, h.Ns1 dx mA ∧ (∀ f, RelO (fs.lookup f) (mA f)) ∧ PySem.Within mA (fs.map (·.1))
  | .own _ => ∃ o, h.get? a = some o
  | .xd fs => ∃ mA, h.Ns1 a mA ∧ ∀ f, RelO (fs.lookup f) (mA f)
  | .rng lo hi => ∃ t u v, h.get? a = some { cls := .type "range", data := .fields #[.int lo t, .int hi u, .int 1 v] }
  | .frz o u => h.get? a = some o ∧ ObjOk H h a u
  | .tbl ps => h.get? a = some { cls := .none, data := .fields ps }
  | .met f x => h.get? a = some (PySem.W.methodObj (.ref f) (.ref x))
  | .ext φ => φ h ∧ (∃ o, h.get? a = some o) ∧ ∀ h1 h2 : Heap, φ h1 → (∀ o, h1.get? a = some o → h2.get? a = some o) → φ h2
noncomputable def HOk (H : Hp) (h : Heap) : Prop := ∀ a o, H a = some o → ObjOk P w H h a o
end
section
variable {P : Program} {w : World} {H H' : Hp} {h h' : Heap} {a : Addr} {o : HO}
theorem ObjOk.lt (x : ObjOk P w H h a o) : a < h.objs.size := by
  cases o with
  | lst xs => obtain ⟨_, _, _, _, e⟩ := x; exact Heap.lt_size e
  | tup xs => obtain ⟨_, _, _, p⟩ := x; exact p.tup.lt
  | dK kvs => obtain ⟨_, _, _, _, o, _, _, e, _⟩ := x; exact Heap.lt_size e
  | dT kvs => obtain ⟨_, _, _, _, o, _, _, e, _⟩ := x; exact Heap.lt_size e
  | set S n => obtain ⟨o, _, _, _, e, _⟩ := x; exact Heap.lt_size e
  | ins C dx fs => obtain ⟨_, _, _, e, _⟩ := x; exact Heap.lt_size e
  | own y => obtain ⟨_, e⟩ := x; exact Heap.lt_size e
  | xd fs => obtain ⟨_, ⟨_, _, _, e, _⟩, _⟩ := x; exact Heap.lt_size e
  | rng lo hi => obtain ⟨_, _, _, e⟩ := x; exact Heap.lt_size e
  | frz ob u => obtain ⟨e, _⟩ := x; exact Heap.lt_size e
  | tbl ps => exact Heap.lt_size (show h.get? a = some _ from x)
  | met f y => exact Heap.lt_size (show h.get? a = some _ from x)
  | ext φ => obtain ⟨_, ⟨_, e⟩, _⟩ := x; exact Heap.lt_size e
theorem Paired.mapP {α β : Type} {F G : α → β → Prop} : ∀ {l₁ : List α} {l₂ : List β}, Paired F l₁ l₂ → (∀ a b, F a b → G a b) → Paired G l₁ l₂
  | _, _, .nil, _ => .nil
  | _, _, .cons r t, f => .cons (f _ _ r) (Paired.mapP t f)
theorem ObjOk.stay (x : ObjOk P w H h a o) (k : ∀ b u, (b = a ∨ H b = some (.own a)) → h.get? b = some u → h'.get? b = some u)
    (ho : ∀ b, H b = some (.own a) → H' b = some (.own a)) (ht : ∀ b xs, H b = some (.tup xs) → H' b = some (.tup xs)) : ObjOk P w H' h' a o := by
  induction o with
  | lst xs => obtain ⟨z, its, n, r, e⟩ := x; exact ⟨z, its, n, r, k _ _ (.inl rfl) e⟩
  | tup xs => obtain ⟨z, its, r, ob, e, c⟩ := x; exact ⟨z, its, r, ob, k _ _ (.inl rfl) e, c⟩
  | dK kvs => obtain ⟨z, y, vs, r, ob, es, ep, e, c⟩ := x; exact ⟨z, y, vs, r, ob, es, ep, k _ _ (.inl rfl) e, c⟩
  | dT kvs =>
    obtain ⟨z, y, xs, r, ob, es, ep, e, c⟩ := x
    exact ⟨z, y, xs, Paired.mapP r fun p q z => ⟨z.1, ht _ _ z.2.1, z.2.2⟩, ob, es, ep, k _ _ (.inl rfl) e, c⟩
  | set S n => obtain ⟨ob, es, ep, t, e, c⟩ := x; exact ⟨ob, es, ep, t, k _ _ (.inl rfl) e, c⟩
  | ins C dx fs =>
    obtain ⟨d, z, ne, e, mA, ⟨od, es, ep, e2, c⟩, r⟩ := x
    exact ⟨ho _ d, z, ne, k _ _ (.inl rfl) e, mA, ⟨od, es, ep, k _ _ (.inr d) e2, c⟩, r⟩
  | own y => obtain ⟨ob, e⟩ := x; exact ⟨ob, k _ _ (.inl rfl) e⟩
  | xd fs => obtain ⟨mA, ⟨od, es, ep, e, c⟩, r⟩ := x; exact ⟨mA, ⟨od, es, ep, k _ _ (.inl rfl) e, c⟩, r⟩
  | rng lo hi => obtain ⟨t, u, v, e⟩ := x; exact ⟨t, u, v, k _ _ (.inl rfl) e⟩
  | frz ob u ih => obtain ⟨e, q⟩ := x; exact ⟨k _ _ (.inl rfl) e, ih q⟩
  | tbl ps =>
    have e : h.get? a = some { cls := .none, data := .fields ps } := x
    show h'.get? a = some { cls := .none, data := .fields ps }
    exact k a _ (.inl rfl) e
  | met f y =>
    have e : h.get? a = some (PySem.W.methodObj (.ref f) (.ref y)) := x
    show h'.get? a = some (PySem.W.methodObj (.ref f) (.ref y))
    exact k a _ (.inl rfl) e
  | ext φ => obtain ⟨p, ⟨o, e⟩, st⟩ := x; exact ⟨st _ _ p fun o q => k _ _ (.inl rfl) q, ⟨o, k _ _ (.inl rfl) e⟩, st⟩
theorem HOk.lt (x : HOk P w H h) (e : H a = some o) : a < h.objs.size := (x a o e).lt
theorem HOk.fresh (x : HOk P w H h) (e : h.objs.size ≤ a) : H a = none := by
  cases q : H a with
  | none => rfl
  | some u => exact absurd (Nat.lt_of_lt_of_le (x.lt q) e) (Nat.lt_irrefl _)
theorem HOk.kept (x : HOk P w H h) (k : ∀ b u, h.get? b = some u → h'.get? b = some u) : HOk P w H h' := fun a o e =>
  (x a o e).stay (fun b u _ q => k b u q) (fun _ q => q) fun _ _ q => q
theorem HOk.laid (x : HOk P w H h) (k : ∀ b u, h.get? b = some u → h'.get? b = some u) (hp : h.objs.size ≤ a) (new : ObjOk P w (upd H a o) h' a o) : HOk P w (upd H a o) h' := fun b u e => by
  have hn := x.fresh hp
  by_cases hb : b = a
  · subst hb; rw [upd_same] at e; cases e; exact new
  · rw [upd_ne hb] at e
    exact (x b u e).stay (fun c v _ q => k c v q) (fun c q => by rw [upd_ne (ne_of_none q hn)]; exact q) fun c xs q => by rw [upd_ne (ne_of_none q hn)]; exact q
end
noncomputable def Rd (H : Hp) (a : Addr) (u : HO) : Prop := H a = some u ∨ ∃ o, H a = some (.frz o u)
theorem Rd.ok {P : Program} {w : World} {H : Hp} {h : Heap} {a : Addr} {u : HO} (r : Rd H a u) (x : HOk P w H h) : ObjOk P w H h a u := by
  rcases r with r | ⟨o, r⟩
  · exact x a u r
  · obtain ⟨_, q⟩ := x a _ r
    exact q
noncomputable def Mut : Option HO → Prop
  | some (.lst _) => True
  | some (.dK _) => True
  | some (.dT _) => True
  | some (.set _ _) => True
  | some (.ins _ _ _) => True
  | some (.ext _) => True
  | _ => False
section
variable {P : Program} {w : World} {H : Hp} {h h' : Heap} {x e : Addr} {o' : HO}
theorem HOk.write (ok : HOk P w H h) (mu : Mut (H x)) (he : e = x ∨ H e = some (.own x)) (k : ∀ b u, b ≠ e → h.get? b = some u → h'.get? b = some u) (heo : ∃ u, h'.get? e = some u)
    (new : ObjOk P w (upd H x o') h' x o') : HOk P w (upd H x o') h' := fun b u q => by
  have nown : ∀ c y, H c = some (.own y) → c ≠ x := fun c y r z => by subst z; rw [r] at mu; exact mu
  have ntup : ∀ c xs, H c = some (.tup xs) → c ≠ x := fun c xs r z => by subst z; rw [r] at mu; exact mu
  by_cases hb : b = x
  · subst hb; rw [upd_same] at q; cases q; exact new
  · rw [upd_ne hb] at q
    by_cases hbe : b = e
    · have q' : H b = some (.own x) := by
        rcases he with z | z
        · exact absurd (hbe.trans z) hb
        · rw [hbe]; exact z
      rw [q] at q'; cases q'
      obtain ⟨v, hv⟩ := heo
      exact ⟨v, by rw [hbe]; exact hv⟩
    · refine (ok b u q).stay (fun c v hc r => k c v ?_ r) (fun c r => by rw [upd_ne (nown c b r)]; exact r) fun c xs r => by rw [upd_ne (ntup c xs r)]; exact r
      rcases hc with rfl | hc
      · exact hbe
      · rintro rfl
        rcases he with z | z
        · exact nown c b hc z
        · rw [hc] at z; cases z; exact hb rfl
end
structure Un (fs ex : List Addr) (H H' : Hp) (h h' : Heap) : Prop where
  keep : ∀ b o, h.get? b = some o → H b = none → b ∉ fs → b ∉ ex → h'.get? b = some o
  slot : ∀ b o, h.get? b = some o → H b = none → b ∈ fs → b ∉ ex → ∃ sl, h'.get? b = some { o with slots := sl }
  free : ∀ b o, h.get? b = some o → H b = none → b ∉ ex → H' b = none
  there : ∀ b o, h.get? b = some o → b ∉ ex → ∃ o', h'.get? b = some o'
  tups : ∀ b xs, H b = some (.tup xs) → H' b = some (.tup xs)
  frzs : ∀ b o u, H b = some (.frz o u) → H' b = some (.frz o u)
  tbls : ∀ b ps, H b = some (.tbl ps) → ∃ more, H' b = some (.tbl (ps ++ more))
section
variable {fs fs' ex ex' : List Addr} {H H1 H2 : Hp} {h h1 h2 h' : Heap} {a x e : Addr} {o : HO}
theorem Un.any (u : Un fs ex H H1 h h1) {b : Addr} {ob : Obj} (q : h.get? b = some ob) (n : H b = none) (hx : b ∉ ex) : ∃ sl, h1.get? b = some { ob with slots := sl } := by
  by_cases hb : b ∈ fs
  · exact u.slot b ob q n hb hx
  · exact ⟨ob.slots, u.keep b ob q n hb hx⟩
theorem Un.kept (k : ∀ b u, h.get? b = some u → h'.get? b = some u) : Un fs ex H H h h' :=
  ⟨fun b ob q _ _ _ => k b ob q, fun b ob q _ _ _ => ⟨ob.slots, k b ob q⟩, fun _ _ _ n _ => n, fun b ob q _ => ⟨ob, k b ob q⟩, fun _ _ q => q, fun _ _ _ q => q, fun _ ps q => ⟨#[], by rw [q]; simp⟩⟩
theorem Un.refl : Un fs ex H H h h := Un.kept fun _ _ q => q
theorem Un.laid (k : ∀ b u, h.get? b = some u → h'.get? b = some u) (hp : h.objs.size ≤ a) (hn : H a = none) : Un fs ex H (upd H a o) h h' where
  keep := fun b u q _ _ _ => k b u q
  slot := fun b u q _ _ _ => ⟨u.slots, k b u q⟩
  free := fun b u q n _ => by rw [upd_ne (Nat.ne_of_lt (Nat.lt_of_lt_of_le (Heap.lt_size q) hp))]; exact n
  there := fun b u q _ => ⟨u, k b u q⟩
  tups := fun b xs q => by rw [upd_ne (ne_of_none q hn)]; exact q
  frzs := fun b u xs q => by rw [upd_ne (ne_of_none q hn)]; exact q
  tbls := fun b ps q => ⟨#[], by rw [upd_ne (ne_of_none q hn), q]; simp⟩
theorem Un.write (mu : Mut (H x)) (he : e = x ∨ H e = some (.own x)) (k : ∀ b u, b ≠ e → h.get? b = some u → h'.get? b = some u) (heo : ∃ u, h'.get? e = some u) : Un fs ex H (upd H x o) h h' := by
  have hx : ∀ b, H b = none → b ≠ x := fun b n z => by subst z; rw [n] at mu; exact mu
  have hb : ∀ b, H b = none → b ≠ e := fun b n z => by
    subst z
    rcases he with r | r
    · exact hx b n r
    · rw [n] at r; cases r
  have hm : ∀ b u, H b = some u → ¬ Mut (some u) → b ≠ x := fun b u q nm z => by subst z; rw [q] at mu; exact nm mu
  refine ⟨fun b u q n _ _ => k b u (hb b n) q, fun b u q n _ _ => ⟨u.slots, k b u (hb b n) q⟩, fun b u q n _ => by rw [upd_ne (hx b n)]; exact n, fun b u q _ => ?_,
    fun b xs q => by rw [upd_ne (hm b _ q fun z => z)]; exact q, fun b u xs q => by rw [upd_ne (hm b _ q fun z => z)]; exact q, fun b ps q => ⟨#[], by rw [upd_ne (hm b _ q fun z => z), q]; simp⟩⟩
  by_cases hbe : b = e
  · subst hbe; exact heo
  · exact ⟨u, k b u hbe q⟩
end
noncomputable def trk (h : Heap) (H : Hp) : List Addr := (List.range h.objs.size).filter fun a => (H a).isSome
noncomputable def hidT (h : Heap) (H : Hp) : Heap := PySem.W.hideAll h (trk h H)
theorem hidT_size (h : Heap) (H : Hp) : (hidT h H).objs.size = h.objs.size := PySem.W.hideAll_size _ _
theorem hidT_get {h : Heap} {H : Hp} {b : Addr} {o : Obj} (e : h.get? b = some o) (n : H b = none) : (hidT h H).get? b = some o :=
  PySem.W.hideAll_get _ e fun hm => by
    have q : (H b).isSome = true := (List.mem_filter.mp hm).2
    rw [n] at q; simp at q
theorem of_hidT {h : Heap} {H : Hp} {b : Addr} {o : Obj} (e : (hidT h H).get? b = some o) : h.get? b = some o ∧ H b = none := by
  have e' : h.get? b = some o := PySem.W.of_hideAll (trk h H) e
  refine ⟨e', ?_⟩
  cases q : H b with
  | none => rfl
  | some x =>
    have hm : b ∈ trk h H := List.mem_filter.mpr ⟨List.mem_range.mpr (Heap.lt_size e'), by simp [q]⟩
    have z : (hidT h H).get? b = none := PySem.W.hideAll_none (trk h H) hm
    rw [z] at e; cases e
end L2
namespace L2
open PySem PySem.Spec PyProof.Rows
structure Mod (K : PySem.W.Frag) (mg : Str → Option Value) (base : Heap) : Prop where
  kin : K.In base
  glob : base.Ns mainGlobals mg
  blt : ∃ mb, base.Ns builtinsNs mb ∧ ∀ x : Str, x ≠ "__name__" → mb x = bootBuiltins x
  nolimit : base.NoLimit
/-- the context: a def's body (or a comprehension's block) running. base: fixed through the whole law; s₀, H₀: the entry; outer: the frames whose slots others may change (a def's callers); stack: all frames that run;
   ex: iterators that were made ahead of the entry and are walked here (a comprehension's); fn: the names whose cells were made at the entry (a def: all; a comprehension's block: its own); calm: not within an except suite; pn: pins that every state bears; xe: what is wanted of an exception that leaves the code -/
structure Cx where
  prog : Program
  w : World
  K : PySem.W.Frag
  mg : Str → Option Value
  base : Heap
  A : Around
  N : List Str
  s₀ : Shared
  H₀ : Hp
  env : Env
  outer : List Env
  stack : List Env
  ex : List Addr
  fn : Str → Bool
  calm : Bool
  pn : List (Addr × Obj)
  xe : Value → Shared → Prop
noncomputable def frs (l : List Env) : List Addr := l.filterMap (·.frame)
noncomputable abbrev Cx.fs (X : Cx) : List Addr := frs X.outer
noncomputable def Vis (sc : Scope) (x : Str) : Prop := sc.names.lookup x = some .local ∨ sc.names.lookup x = some .cell ∨ sc.names.lookup x = some .free
noncomputable def Loc (sc : Scope) (x : Str) : Prop := sc.names.lookup x = some .local ∨ sc.names.lookup x = some .cell
noncomputable def Look (env : Env) (h : Heap) (m : Str → Option Value) (x : Str) (u : Value) : Prop :=
  (env.kindOf x = some .local ∧ m x = some u) ∨ ((env.kindOf x = some .cell ∨ env.kindOf x = some .free) ∧ ∃ c, env.cells.lookup x = some c ∧ h.IsCell c (some u))
structure Cx.Ok (X : Cx) : Prop where
  mod : Mod X.K X.mg X.base
  kind : X.env.scope.kind = .function
  glob : X.env.globals = mainGlobals
  blt : X.env.builtins = builtinsNs
  above : X.s₀.heap.objs.size ≤ X.env.locals
  inj : ∀ x y c, X.env.cells.lookup x = some c → X.env.cells.lookup y = some c → x = y
  has : ∀ x, (X.env.kindOf x = some .cell ∨ X.env.kindOf x = some .free) → ∃ c, X.env.cells.lookup x = some c
  cab : ∀ x c, X.fn x = true → X.env.cells.lookup x = some c → X.s₀.heap.objs.size ≤ c
  hd : X.calm = true → X.A.handled = none
  frames : X.A.frames = some X.stack
  stk : X.stack = X.outer ∨ (X.stack = X.env :: X.outer ∧ X.env.frame = some X.env.locals)
  exf : ∀ b ∈ X.ex, b ≠ X.env.locals ∧ ∀ x c, X.env.cells.lookup x = some c → c ≠ b
  bs : ∀ b o, X.base.get? b = some o → X.s₀.heap.get? b = some o ∧ X.H₀ b = none
  bsz : X.base.objs.size ≤ X.s₀.heap.objs.size
  noex : ∀ b o, X.base.get? b = some o → b ∉ X.ex
  exfs : ∀ b ∈ X.ex, b ∉ X.fs
  funs : X.s₀.heap.FunFrames X.base X.outer
  frf : ∀ b ∈ X.fs, X.H₀ b = none
structure Inv (X : Cx) (pins : List (Addr × Obj)) (σ : List (Option V)) (H : Hp) (s : Shared) : Prop where
  ok : X.Ok
  os : s.os = X.s₀.os
  bare : AllBare s.gens
  base : Un X.fs X.ex X.H₀ H X.s₀.heap s.heap
  loc : ∃ m, s.heap.Ns X.env.locals m ∧ ∀ (i : Nat) (x : Str) (v : V), X.N[i]? = some x → σ[i]? = some (some v) → Vis X.env.scope x → ∃ u, RelV v u ∧ Look X.env s.heap m x u
  cell : ∀ x c, X.env.cells.lookup x = some c → ∃ v, s.heap.IsCell c v
  free : H X.env.locals = none
  freeC : ∀ x c, X.env.cells.lookup x = some c → H c = none
  pin : ∀ p ∈ X.pn ++ pins, s.heap.get? p.1 = some p.2 ∧ H p.1 = none ∧ p.1 ≠ X.env.locals ∧ p.1 ∉ X.fs ∧ ∀ v, p.2.data ≠ .cell v
  hok : HOk X.prog X.w H s.heap
  len : σ.length = X.N.length
section
variable {X : Cx} {pins : List (Addr × Obj)} {σ : List (Option V)} {H H' : Hp} {s : Shared} {h' : Heap}
theorem Cx.Ok.nofr (ok : X.Ok) {b : Addr} {o : Obj} (e : X.base.get? b = some o) : b ∉ X.fs := fun hb => by
  have := (ok.funs.mem hb).1
  rw [e] at this; cases this
theorem Inv.bs (I : Inv X pins σ H s) : ∀ b o, X.base.get? b = some o → s.heap.get? b = some o ∧ H b = none := fun b o e =>
  ⟨I.base.keep b o (I.ok.bs b o e).1 (I.ok.bs b o e).2 (I.ok.nofr e) (I.ok.noex b o e), I.base.free b o (I.ok.bs b o e).1 (I.ok.bs b o e).2 (I.ok.noex b o e)⟩
theorem Inv.bk (I : Inv X pins σ H s) : ∀ b o, X.base.get? b = some o → s.heap.get? b = some o := fun b o e => (I.bs b o e).1
theorem Inv.mod (I : Inv X pins σ H s) : Mod X.K X.mg X.base := I.ok.mod
theorem Inv.kIn (I : Inv X pins σ H s) : X.K.In s.heap := I.ok.mod.kin.keeps I.bk
theorem Inv.lt (I : Inv X pins σ H s) : X.env.locals < s.heap.objs.size := let ⟨_, hn, _⟩ := I.loc; hn.lt
theorem Inv.sz (I : Inv X pins σ H s) : X.s₀.heap.objs.size ≤ s.heap.objs.size := Nat.le_trans I.ok.above (Nat.le_of_lt I.lt)
theorem Inv.nofs (I : Inv X pins σ H s) {a : Addr} (h : s.heap.objs.size ≤ a) : a ∉ X.fs := fun hb => by
  obtain ⟨_, o, ho, _⟩ := I.ok.funs.mem hb
  exact absurd (Nat.lt_of_lt_of_le (Heap.lt_size ho) (Nat.le_trans I.sz h)) (Nat.lt_irrefl _)
theorem Inv.cne (I : Inv X pins σ H s) : ∀ x c, X.env.cells.lookup x = some c → c ≠ X.env.locals := fun x c e z => by
  obtain ⟨v, o, ho, hd⟩ := I.cell x c e
  obtain ⟨m, ⟨o', es, ep, ho', hd', _⟩, _⟩ := I.loc
  rw [z, ho'] at ho; cases ho; rw [hd'] at hd; cases hd
theorem Inv.funs (I : Inv X pins σ H s) : s.heap.FunFrames X.base X.outer := by
  have all : ∀ (l : List Env), (∀ b ∈ frs l, b ∈ X.fs) → X.s₀.heap.FunFrames X.base l → s.heap.FunFrames X.base l := by
    intro l
    induction l with
    | nil => intro _ _; trivial
    | cons env r ih =>
      intro hs hl
      obtain ⟨hk, ⟨L, o, hf, hn, ho, hd⟩, hr⟩ := hl
      have hL : L ∈ X.fs := hs L (by unfold frs; rw [List.filterMap_cons, hf]; exact List.mem_cons_self)
      obtain ⟨sl, e⟩ := I.base.slot L o ho (I.ok.frf L hL) hL fun z => I.ok.exfs L z hL
      exact ⟨hk, ⟨L, _, hf, hn, e, hd⟩, ih (fun b hb => hs b (by unfold frs; rw [List.filterMap_cons, hf]; exact List.mem_cons_of_mem _ hb)) hr⟩
  exact all X.outer (fun _ hb => hb) I.ok.funs
theorem Inv.stack (I : Inv X pins σ H s) : s.heap.FunFrames X.base X.stack := by
  rcases I.ok.stk with e | ⟨e, hf⟩
  · rw [e]; exact I.funs
  · rw [e]
    obtain ⟨m, hn, _⟩ := I.loc
    refine .cons (by rw [I.ok.kind]; decide) hf hn ?_ I.funs
    exact Heap.get?_none_of_le (Nat.le_trans I.ok.bsz I.ok.above)
theorem Inv.stkSub (I : Inv X pins σ H s) : ∀ b ∈ frs X.stack, b ∈ X.env.locals :: X.fs := fun b hb => by
  rcases I.ok.stk with e | ⟨e, hf⟩
  · rw [e] at hb; exact List.mem_cons_of_mem _ hb
  · rw [e] at hb
    unfold frs at hb
    rw [List.filterMap_cons, hf] at hb
    exact hb
theorem Inv.stkFree (I : Inv X pins σ H s) : ∀ b ∈ frs X.stack, H b = none := fun b hb => by
  rcases List.mem_cons.mp (I.stkSub b hb) with e | hb
  · rw [e]; exact I.free
  · obtain ⟨_, o, ho, _⟩ := I.ok.funs.mem hb
    exact I.base.free b o ho (I.ok.frf b hb) fun z => I.ok.exfs b z hb
theorem Inv.step {g' : Array GenState} {t' : Nat} {d' : Drawn} {ch : List Addr} (I : Inv X pins σ H s)
    (hch : ∀ b ∈ ch, (b ∈ X.ex ∨ X.s₀.heap.objs.size ≤ b) ∧ b ≠ X.env.locals ∧ (∀ x c, X.env.cells.lookup x = some c → c ≠ b) ∧ ∀ p ∈ X.pn ++ pins, p.1 ≠ b)
    (keep : ∀ b o, b ≠ X.env.locals → b ∉ X.fs → b ∉ ch → s.heap.get? b = some o → H b = none → h'.get? b = some o)
    (slot : ∀ b o, b ≠ X.env.locals → b ∈ X.fs → b ∉ ch → s.heap.get? b = some o → H b = none → ∃ sl, h'.get? b = some { o with slots := sl }) (free : ∀ b o, b ∉ ch → s.heap.get? b = some o → H b = none → H' b = none)
    (there : ∀ b o, b ∉ ch → s.heap.get? b = some o → ∃ o', h'.get? b = some o')
    (tups : ∀ b xs, H b = some (.tup xs) → H' b = some (.tup xs)) (frzs : ∀ b o u, H b = some (.frz o u) → H' b = some (.frz o u)) (tbls : ∀ b ps, H b = some (.tbl ps) → ∃ more, H' b = some (.tbl (ps ++ more)))
    (ns : ∀ m, s.heap.Ns X.env.locals m → h'.Ns X.env.locals m) (hok : HOk X.prog X.w H' h') (hg : AllBare g') :
    Inv X pins σ H' { s with heap := h', gens := g', drawn := d', toks := t' } := by
  have neL : ∀ b o, X.s₀.heap.get? b = some o → b ≠ X.env.locals := fun b o e => Nat.ne_of_lt (Nat.lt_of_lt_of_le (Heap.lt_size e) I.ok.above)
  have neC : ∀ b o, X.s₀.heap.get? b = some o → b ∉ X.ex → b ∉ ch := fun b o e hx hb => by
    rcases (hch b hb).1 with z | z
    · exact hx z
    · exact absurd (Nat.lt_of_lt_of_le (Heap.lt_size e) z) (Nat.lt_irrefl _)
  have cellK : ∀ x c, X.env.cells.lookup x = some c → ∀ v, s.heap.IsCell c v → h'.IsCell c v := fun x c e v ⟨o, ho, hd⟩ => by
    have nch : c ∉ ch := fun z => (hch c z).2.2.1 x c e rfl
    by_cases hc : c ∈ X.fs
    · obtain ⟨sl, q⟩ := slot c o (I.cne x c e) hc nch ho (I.freeC x c e)
      exact ⟨_, q, hd⟩
    · exact ⟨o, keep c o (I.cne x c e) hc nch ho (I.freeC x c e), hd⟩
  refine ⟨I.ok, I.os, hg, ⟨fun b o e n hb hx => ?_, fun b o e n hb hx => ?_, fun b o e n hx => ?_, fun b o e hx => ?_, fun b xs e => tups b xs (I.base.tups b xs e), fun b o xs e => frzs b o xs (I.base.frzs b o xs e), fun b ps e => ?_⟩, ?_, fun x c e => ?_, ?_, fun x c e => ?_, fun p hp => ?_, hok, I.len⟩
  · exact keep b o (neL b o e) hb (neC b o e hx) (I.base.keep b o e n hb hx) (I.base.free b o e n hx)
  · obtain ⟨sl, e1⟩ := I.base.slot b o e n hb hx
    obtain ⟨sl', e2⟩ := slot b _ (neL b o e) hb (neC b o e hx) e1 (I.base.free b o e n hx)
    exact ⟨sl', e2⟩
  · obtain ⟨o', e1⟩ := I.base.there b o e hx
    exact free b o' (neC b o e hx) e1 (I.base.free b o e n hx)
  · obtain ⟨o', e1⟩ := I.base.there b o e hx
    exact there b o' (neC b o e hx) e1
  · obtain ⟨m1, e1⟩ := I.base.tbls b ps e
    obtain ⟨m2, e2⟩ := tbls b _ e1
    exact ⟨m1 ++ m2, by rw [e2, Array.append_assoc]⟩
  · obtain ⟨m, hn, hl⟩ := I.loc
    refine ⟨m, ns m hn, fun i x v e1 e2 e3 => ?_⟩
    obtain ⟨u, r, l⟩ := hl i x v e1 e2 e3
    refine ⟨u, r, ?_⟩
    rcases l with l | ⟨k, c, e, z⟩
    · exact .inl l
    · exact .inr ⟨k, c, e, cellK x c e _ z⟩
  · obtain ⟨v, z⟩ := I.cell x c e
    exact ⟨v, cellK x c e v z⟩
  · obtain ⟨m, ⟨o, _, _, ho, _⟩, _⟩ := I.loc
    exact free _ o (fun z => (hch _ z).2.1 rfl) ho I.free
  · obtain ⟨v, o, ho, hd⟩ := I.cell x c e
    exact free c o (fun z => (hch c z).2.2.1 x c e rfl) ho (I.freeC x c e)
  · obtain ⟨e, n, ne, nf, d⟩ := I.pin p hp
    have nch : p.1 ∉ ch := fun z => (hch p.1 z).2.2.2 p hp rfl
    exact ⟨keep p.1 p.2 ne nf nch e n, free p.1 p.2 nch e n, ne, nf, d⟩
theorem Inv.un {t' : Nat} (I : Inv X pins σ H s) (u : Un X.fs [] H H' s.heap h') (hok : HOk X.prog X.w H' h') : Inv X pins σ H' { s with heap := h', toks := t' } := by
  obtain ⟨m, ⟨o, es, ep, ho, r⟩, _⟩ := id I.loc
  obtain ⟨sl, hL⟩ := u.any ho I.free (by simp)
  exact I.step (g' := s.gens) (d' := s.drawn) (ch := []) (fun _ z => nomatch z) (fun b o _ hb _ e n => u.keep b o e n hb (by simp)) (fun b o _ hb _ e n => u.slot b o e n hb (by simp)) (fun b o _ e n => u.free b o e n (by simp)) (fun b o _ e => u.there b o e (by simp)) u.tups u.frzs u.tbls (fun m' hm => by
    obtain ⟨o', es', ep', ho', r'⟩ := hm
    rw [ho] at ho'; cases ho'
    exact ⟨_, es', ep', hL, r'⟩) hok I.bare
theorem Inv.call {g' : Array GenState} {t' : Nat} {d' : Drawn} {ch : List Addr} (I : Inv X pins σ H s) (u : Un (frs X.stack) ch H H' s.heap h') (hok : HOk X.prog X.w H' h') (hg : AllBare g')
    (hch : ∀ b ∈ ch, (b ∈ X.ex ∨ X.s₀.heap.objs.size ≤ b) ∧ b ≠ X.env.locals ∧ (∀ x c, X.env.cells.lookup x = some c → c ≠ b) ∧ ∀ p ∈ X.pn ++ pins, p.1 ≠ b) :
    Inv X pins σ H' { s with heap := h', gens := g', drawn := d', toks := t' } := by
  obtain ⟨m, ⟨o, es, ep, ho, r⟩, _⟩ := id I.loc
  obtain ⟨sl, hL⟩ := u.any ho I.free fun z => (hch _ z).2.1 rfl
  exact I.step (ch := ch) hch (fun b o hL hb hc e n => u.keep b o e n (fun z => (List.mem_cons.mp (I.stkSub b z)).elim hL hb) hc) (fun b o _ _ hc e n => u.any e n hc) (fun b o hc e n => u.free b o e n hc) (fun b o hc e => u.there b o e hc) u.tups u.frzs u.tbls (fun m' hm => by
    obtain ⟨o', es', ep', ho', r'⟩ := hm
    rw [ho] at ho'; cases ho'
    exact ⟨_, es', ep', hL, r'⟩) hok hg
theorem Inv.turned {t' : Nat} {it : Addr} (I : Inv X pins σ H s) (k : ∀ b o, b ≠ it → s.heap.get? b = some o → h'.get? b = some o) (hn : H it = none) (hL : it ≠ X.env.locals)
    (h1 : it ∈ X.ex ∨ X.s₀.heap.objs.size ≤ it) (h2 : ∀ x c, X.env.cells.lookup x = some c → c ≠ it) (h3 : ∀ p ∈ X.pn ++ pins, p.1 ≠ it) : Inv X pins σ H { s with heap := h', toks := t' } := by
  have nit : ∀ b u, H b = some u → b ≠ it := fun b u e z => by rw [z, hn] at e; cases e
  refine I.step (g' := s.gens) (d' := s.drawn) (ch := [it]) (fun b hb => ?_) (fun b o _ _ hc e _ => k b o (fun z => hc (by simp [z])) e) (fun b o _ _ hc e _ => ⟨o.slots, k b o (fun z => hc (by simp [z])) e⟩) (fun _ _ _ _ n => n)
    (fun b o hc e => ⟨o, k b o (fun z => hc (by simp [z])) e⟩) (fun _ _ e => e) (fun _ _ _ e => e) (fun b ps e => ⟨#[], by rw [e]; simp⟩) (fun m hm => ?_) (fun b u e => ?_) I.bare
  · have e : b = it := by simpa using hb
    subst e
    exact ⟨h1, hL, h2, h3⟩
  · obtain ⟨o, es, ep, ho, r⟩ := hm
    exact ⟨o, es, ep, k _ o (Ne.symm hL) ho, r⟩
  · refine (I.hok b u e).stay (fun c v hc q => k c v ?_ q) (fun _ q => q) fun _ _ q => q
    rcases hc with z | z
    · rw [z]; exact nit b u e
    · exact nit c _ z
theorem Inv.tok (I : Inv X pins σ H s) (t : Nat) : Inv X pins σ H { s with toks := t } := I.un (h' := s.heap) (t' := t) Un.refl I.hok
theorem Inv.kept {t' : Nat} (I : Inv X pins σ H s) (k : ∀ b u, s.heap.get? b = some u → h'.get? b = some u) : Inv X pins σ H { s with heap := h', toks := t' } := I.un (Un.kept k) (I.hok.kept k)
theorem Inv.laid {a : Addr} {o : HO} {t' : Nat} (I : Inv X pins σ H s) (k : ∀ b u, s.heap.get? b = some u → h'.get? b = some u) (hp : s.heap.objs.size ≤ a) (new : ObjOk X.prog X.w (upd H a o) h' a o) :
    Inv X pins σ (upd H a o) { s with heap := h', toks := t' } := I.un (Un.laid k hp (I.hok.fresh hp)) (I.hok.laid k hp new)
theorem Inv.write {x e : Addr} {o : HO} {t' : Nat} (I : Inv X pins σ H s) (mu : Mut (H x)) (he : e = x ∨ H e = some (.own x)) (k : ∀ b u, b ≠ e → s.heap.get? b = some u → h'.get? b = some u) (heo : ∃ u, h'.get? e = some u)
    (new : ObjOk X.prog X.w (upd H x o) h' x o) : Inv X pins σ (upd H x o) { s with heap := h', toks := t' } := I.un (Un.write mu he k heo) (I.hok.write mu he k heo new)
theorem Inv.weak {σ' : List (Option V)} (I : Inv X pins σ H s) (hl : σ'.length = σ.length) (w : ∀ (i : Nat) v, σ'[i]? = some (some v) → σ[i]? = some (some v)) : Inv X pins σ' H s :=
  ⟨I.ok, I.os, I.bare, I.base, let ⟨m, hn, hl'⟩ := I.loc; ⟨m, hn, fun i x v e1 e2 e3 => hl' i x v e1 (w i v e2) e3⟩, I.cell, I.free, I.freeC, I.pin, I.hok, hl.trans I.len⟩
theorem Inv.pins_of {pins' : List (Addr × Obj)} (I : Inv X pins σ H s) (h : ∀ p ∈ pins', s.heap.get? p.1 = some p.2 ∧ H p.1 = none ∧ p.1 ≠ X.env.locals ∧ p.1 ∉ X.fs ∧ ∀ v, p.2.data ≠ .cell v) : Inv X pins' σ H s :=
  ⟨I.ok, I.os, I.bare, I.base, I.loc, I.cell, I.free, I.freeC, fun p hp => (List.mem_append.mp hp).elim (fun z => I.pin p (List.mem_append_left _ z)) (h p), I.hok, I.len⟩
theorem nodup_ix {N : List Str} (hN : N.Nodup) {i j : Nat} {x : Str} (a : N[i]? = some x) (b : N[j]? = some x) : i = j := by
  obtain ⟨h1, e1⟩ := List.getElem?_eq_some_iff.mp a
  obtain ⟨h2, e2⟩ := List.getElem?_eq_some_iff.mp b
  exact (List.getElem_inj hN).mp (e1.trans e2.symm)
theorem store_ok2 {M : Model} {A : Around} {E : Value → Shared → Prop} {i : Nat} {x : Str} {v : V} {u : Value} {Q : Unit → Shared → Prop} (I : Inv X pins σ H s) (hN : X.N.Nodup) (hi : X.N[i]? = some x) (hx : Loc X.env.scope x) (r : RelV v u)
    (h : ∀ s', Inv X pins (σ.set i (some v)) H s' → (∃ a, Heap.SameBut a s.heap s'.heap ∧ (a = X.env.locals ∨ X.env.cells.lookup x = some a)) → Q () s') (hf : X.fn x = true ∨ X.env.scope.names.lookup x = some .local := by first | exact .inl rfl | exact .inr rfl | assumption) : wpAny M A (storeName X.env x u) Q E s := by
  obtain ⟨m, hn, hl⟩ := id I.loc
  have hcls : (X.env.scope.kind == .class || (X.env.scope.kind == .module && X.env.locals != X.env.globals)) = false := by rw [I.ok.kind]; rfl
  have hiσ : i < σ.length := by rw [I.len]; exact (List.getElem?_eq_some_iff.mp hi).1
  have cne := I.cne
  have tracked : ∀ {a : Addr} {h' : Heap}, (∃ o, s.heap.get? a = some o ∧ H a = none) → Heap.SameBut a s.heap h' → HOk X.prog X.w H h' := fun {a h'} ha hs b ob e => by
    obtain ⟨_, _, hfree⟩ := ha
    refine (I.hok b ob e).stay (fun c w' hc q => (hs.2 c ?_).trans q) (fun _ q => q) fun _ _ q => q
    rintro rfl
    rcases hc with rfl | hc
    · rw [hfree] at e; cases e
    · rw [hfree] at hc; cases hc
  rcases hx with hk | hk
  · refine wpAny_storeName_local hk hn (fun h' hn' hs => ?_) hcls
    obtain ⟨oL, _, _, hoL, _⟩ := id hn
    refine h _ ⟨I.ok, I.os, I.bare, ⟨fun b o e n hb hx => ?_, fun b o e n hb hx => ?_, I.base.free, fun b o e hx => ?_, I.base.tups, I.base.frzs, I.base.tbls⟩, ⟨_, hn', fun j y v' e1 e2 e3 => ?_⟩, fun y c e => ?_, I.free, I.freeC, fun p hp => ?_, tracked ⟨oL, hoL, I.free⟩ hs, by simpa using I.len⟩ ⟨_, hs, .inl rfl⟩
    · exact (hs.2 b (Nat.ne_of_lt (Nat.lt_of_lt_of_le (Heap.lt_size e) I.ok.above))).trans (I.base.keep b o e n hb hx)
    · obtain ⟨sl, e1⟩ := I.base.slot b o e n hb hx
      exact ⟨sl, (hs.2 b (Nat.ne_of_lt (Nat.lt_of_lt_of_le (Heap.lt_size e) I.ok.above))).trans e1⟩
    · obtain ⟨o', e1⟩ := I.base.there b o e hx
      exact ⟨o', (hs.2 b (Nat.ne_of_lt (Nat.lt_of_lt_of_le (Heap.lt_size e) I.ok.above))).trans e1⟩
    · by_cases hj : j = i
      · subst hj
        rw [hi] at e1; cases e1
        rw [List.getElem?_set_self hiσ] at e2
        cases e2
        exact ⟨u, r, .inl ⟨hk, by simp⟩⟩
      · rw [List.getElem?_set_ne (Ne.symm hj)] at e2
        obtain ⟨u', r', q⟩ := hl j y v' e1 e2 e3
        refine ⟨u', r', ?_⟩
        rcases q with ⟨k, e⟩ | ⟨k, c, e, z⟩
        · refine .inl ⟨k, ?_⟩
          have : y ≠ x := fun e => hj (nodup_ix hN e1 (e ▸ hi))
          simp [this, e]
        · exact .inr ⟨k, c, e, z.sameBut hs (cne y c e)⟩
    · obtain ⟨w', z⟩ := I.cell y c e
      exact ⟨w', z.sameBut hs (cne y c e)⟩
    · obtain ⟨e, n, ne, nf, d⟩ := I.pin p hp
      exact ⟨(hs.2 p.1 ne).trans e, n, ne, nf, d⟩
  · have hfn : X.fn x = true := by
      rcases hf with z | z
      · exact z
      · rw [z] at hk; cases hk
    obtain ⟨c, hc⟩ := I.ok.has x (.inl hk)
    obtain ⟨w', z⟩ := I.cell x c hc
    refine wpAny_storeName_cell I.ok.kind hk hc z (fun h' hc' hs => ?_)
    obtain ⟨oc, hoc, hocd⟩ := id z
    refine h { s with heap := h' } ⟨I.ok, I.os, I.bare, ⟨fun b o e n hb hx => ?_, fun b o e n hb hx => ?_, I.base.free, fun b o e hx => ?_, I.base.tups, I.base.frzs, I.base.tbls⟩, ⟨m, hn.sameBut hs (Ne.symm (cne x c hc)), fun j y v' e1 e2 e3 => ?_⟩, fun y c' e => ?_, I.free, I.freeC, fun p hp => ?_, tracked ⟨oc, hoc, I.freeC x c hc⟩ hs, by simpa using I.len⟩ ⟨c, hs, .inr hc⟩
    · exact (hs.2 b (Nat.ne_of_lt (Nat.lt_of_lt_of_le (Heap.lt_size e) (I.ok.cab x c hfn hc)))).trans (I.base.keep b o e n hb hx)
    · obtain ⟨sl, e1⟩ := I.base.slot b o e n hb hx
      exact ⟨sl, (hs.2 b (Nat.ne_of_lt (Nat.lt_of_lt_of_le (Heap.lt_size e) (I.ok.cab x c hfn hc)))).trans e1⟩
    · obtain ⟨o', e1⟩ := I.base.there b o e hx
      exact ⟨o', (hs.2 b (Nat.ne_of_lt (Nat.lt_of_lt_of_le (Heap.lt_size e) (I.ok.cab x c hfn hc)))).trans e1⟩
    · by_cases hj : j = i
      · subst hj
        rw [hi] at e1; cases e1
        rw [List.getElem?_set_self hiσ] at e2
        cases e2
        exact ⟨u, r, .inr ⟨.inl hk, c, hc, hc'⟩⟩
      · rw [List.getElem?_set_ne (Ne.symm hj)] at e2
        obtain ⟨u', r', q⟩ := hl j y v' e1 e2 e3
        refine ⟨u', r', ?_⟩
        rcases q with q | ⟨k, c', e, z'⟩
        · exact .inl q
        · refine .inr ⟨k, c', e, z'.sameBut hs ?_⟩
          rintro rfl
          exact hj (nodup_ix hN e1 (I.ok.inj _ _ _ e hc ▸ hi))
    · by_cases hcc : c' = c
      · subst hcc; exact ⟨_, hc'⟩
      · obtain ⟨w2, z2⟩ := I.cell y c' e
        exact ⟨w2, z2.sameBut hs hcc⟩
    · obtain ⟨e, n, ne, nf, d⟩ := I.pin p hp
      refine ⟨(hs.2 p.1 ?_).trans e, n, ne, nf, d⟩
      intro q
      rw [q, hoc] at e
      have q' : oc = p.2 := Option.some.inj e
      exact d w' (by rw [← q']; exact hocd)
theorem store_ok {M : Model} {A : Around} {E : Value → Shared → Prop} {i : Nat} {x : Str} {v : V} {u : Value} {Q : Unit → Shared → Prop} (I : Inv X pins σ H s) (hN : X.N.Nodup) (hi : X.N[i]? = some x) (hx : Loc X.env.scope x) (r : RelV v u)
    (h : ∀ s', Inv X pins (σ.set i (some v)) H s' → Q () s') (hf : X.fn x = true ∨ X.env.scope.names.lookup x = some .local := by first | exact .inl rfl | exact .inr rfl | assumption) : wpAny M A (storeName X.env x u) Q E s :=
  store_ok2 I hN hi hx r (fun s' I' _ => h s' I') hf
theorem Inv.call' {s' : Shared} {ch : List Addr} (I : Inv X pins σ H s) (ho : s'.os = s.os) (u : Un (frs X.stack) ch H H' s.heap s'.heap) (hok : HOk X.prog X.w H' s'.heap) (hg : AllBare s'.gens)
    (hch : ∀ b ∈ ch, (b ∈ X.ex ∨ X.s₀.heap.objs.size ≤ b) ∧ b ≠ X.env.locals ∧ (∀ x c, X.env.cells.lookup x = some c → c ≠ b) ∧ ∀ p ∈ X.pn ++ pins, p.1 ≠ b) : Inv X pins σ H' s' := by
  obtain ⟨h', g', d', t', o'⟩ := s'
  have e : o' = s.os := ho
  subst e
  exact I.call (g' := g') (t' := t') (d' := d') u hok hg hch
end
noncomputable abbrev XK := Value → Option Addr → Hp → Prop
noncomputable abbrev St := List (Option V)
noncomputable abbrev VK := V → Hp → Prop
noncomputable abbrev TE := St → Hp → VK → Prop
noncomputable abbrev TT := St → Hp → (Bool → Hp → Prop) → Prop
noncomputable abbrev TA := St → Hp → (List V → Hp → Prop) → Prop
structure Ends where
  nx : St → Hp → Prop
  rt : VK
  bk : St → Hp → Prop := fun _ _ => False
  ct : St → Hp → Prop := fun _ _ => False
noncomputable abbrev TS := Ends → St → Hp → Prop
noncomputable def EP (X : Cx) (pins : List (Addr × Obj)) (σ : St) (Q : VK) (u : Value) (s' : Shared) : Prop := ∃ v H', Inv X pins σ H' s' ∧ RelV v u ∧ Q v H'
noncomputable def TP (X : Cx) (pins : List (Addr × Obj)) (σ : St) (Q : Bool → Hp → Prop) (b : Bool) (s' : Shared) : Prop := ∃ H', Inv X pins σ H' s' ∧ Q b H'
noncomputable def AP (X : Cx) (pins : List (Addr × Obj)) (σ : St) (Q : List V → Hp → Prop) (us : List Value) (s' : Shared) : Prop := ∃ vs H', Inv X pins σ H' s' ∧ Vals vs us ∧ Q vs H'
noncomputable def SP (X : Cx) (pins : List (Addr × Obj)) (D : Ends) (f : Flow) (s' : Shared) : Prop :=
  match f with
  | .next => ∃ σ' H', Inv X pins σ' H' s' ∧ D.nx σ' H'
  | .brk => ∃ σ' H', Inv X pins σ' H' s' ∧ D.bk σ' H'
  | .cont => ∃ σ' H', Inv X pins σ' H' s' ∧ D.ct σ' H'
  | .ret u => ∃ v σ' H', Inv X pins σ' H' s' ∧ RelV v u ∧ D.rt v H'
noncomputable def PE (X : Cx) (e : Expr) (t : TE) : Prop :=
  ∀ (pins : List (Addr × Obj)) (s : Shared) (σ : St) (H : Hp) (Q : VK), Inv X pins σ H s → t σ H Q → wpAny (model X.prog X.w) X.A (eval e X.env) (EP X pins σ Q) X.xe s
noncomputable def PT (X : Cx) (e : Expr) (t : TT) : Prop :=
  ∀ (pins : List (Addr × Obj)) (s : Shared) (σ : St) (H : Hp) (Q : Bool → Hp → Prop), Inv X pins σ H s → t σ H Q → wpAny (model X.prog X.w) X.A (isTrue e X.env (eval e X.env)) (TP X pins σ Q) X.xe s
noncomputable def PA (X : Cx) (es : List Expr) (t : TA) : Prop :=
  ∀ (pos : Pos) (pins : List (Addr × Obj)) (s : Shared) (σ : St) (H : Hp) (Q : List V → Hp → Prop), Inv X pins σ H s → t σ H Q → wpAny (model X.prog X.w) X.A (spliced (backTo pos (starEach es X.env))) (AP X pins σ Q) X.xe s
noncomputable def PS (X : Cx) (st : Stmt) (t : TS) : Prop :=
  ∀ (pins : List (Addr × Obj)) (s : Shared) (σ : St) (H : Hp) (D : Ends), Inv X pins σ H s → t D σ H → wpAny (model X.prog X.w) X.A (exec st X.env) (SP X pins D) X.xe s
noncomputable def PSs (X : Cx) (st : List Stmt) (t : TS) : Prop :=
  ∀ (pins : List (Addr × Obj)) (s : Shared) (σ : St) (H : Hp) (D : Ends), Inv X pins σ H s → t D σ H → wpAny (model X.prog X.w) X.A (execs st X.env) (SP X pins D) X.xe s
theorem thn {α : Type} {t : Sem α} {Q Q' : α → Shared → Prop} {M : Model} {A : Around} {E : Value → Shared → Prop} {s : Shared} (h : wpAny M A t Q E s) (hQ : ∀ a s, Q a s → Q' a s) : wpAny M A t Q' E s := wpAny_mono h hQ fun _ _ x => x
end L2
namespace L2
open PySem PySem.Spec PyProof.Rows
section
variable {X : Cx}
noncomputable def tVar (i : Nat) : TE := fun σ H Q => ∃ v, σ[i]? = some (some v) ∧ Q v H
noncomputable def tC (v : V) : TE := fun _ H Q => Q v H
theorem pe_var {i : Nat} {x : Str} {pos : Pos} (hN : X.N[i]? = some x) (hv : Vis X.env.scope x) (hd : (x == ("__debug__" : Str)) = false := by decide) (hcd : (x == ("__classdict__" : Str)) = false := by decide) : PE X (.Name x pos) (tVar i) := by
  intro pins s σ H Q I h
  obtain ⟨v, e, h⟩ := h
  obtain ⟨m, hn, hl⟩ := I.loc
  obtain ⟨u, r, l⟩ := hl i x v hN e hv
  have fin : EP X pins σ Q u s := ⟨v, H, I, r, h⟩
  rcases l with ⟨hk, hm⟩ | ⟨hk, c, hc, hcell⟩
  · exact wpAny_Name (wpAny_loadName_local I.ok.kind hk hn hm fin) hd
  · rcases hk with hk | hk
    · exact wpAny_Name (wpAny_loadName_cell I.ok.kind hk hc hcell fin) hd
    · exact wpAny_Name (wpAny_loadName_free I.ok.kind hk hc hcell fin hcd) hd
theorem pe_int {i j pos} : PE X (.Constant (.int i) j pos) (tC (.int i)) := fun _ _ _ H _ I h => wpAny_Constant_int ⟨.int i, H, I.tok _, ⟨_, rfl⟩, h⟩
theorem pe_bl {b j pos} : PE X (.Constant (.bool b) j pos) (tC (.bl b)) := fun _ _ _ H _ I h => Constant_bool ⟨.bl b, H, I, rfl, h⟩
theorem pe_non {j pos} : PE X (.Constant .none j pos) (tC .non) := fun _ _ _ H _ I h => Constant_none ⟨.non, H, I, rfl, h⟩
theorem pe_str {x j pos} : PE X (.Constant (.str x) j pos) (tC (.str x)) := fun _ _ _ H _ I h => Calls.Constant_str ⟨.str x, H, I.tok _, ⟨_, rfl⟩, h⟩
noncomputable def Gl (X : Cx) (x : Str) : Prop := X.env.kindOf x = some .globalImplicit
theorem ld_glob {E : Value → Shared → Prop} {pins : List (Addr × Obj)} {s : Shared} {σ : St} {H : Hp} {x : Str} {u : Value} {pos : Pos} {Q : Value → Shared → Prop} (I : Inv X pins σ H s) (hg : Gl X x) (hm : X.mg x = some u) (h : Q u s)
    (hd : (x == ("__debug__" : Str)) = false := by decide) : wpAny (model X.prog X.w) X.A (eval (.Name x pos) X.env) Q E s :=
  Calls.Name_function_global I.ok.kind hg (Calls.loadGlobal_global (by rw [I.ok.glob]; exact I.mod.glob.keeps I.bk) hm h) hd
theorem ld_blt {E : Value → Shared → Prop} {pins : List (Addr × Obj)} {s : Shared} {σ : St} {H : Hp} {x : Str} {u : Value} {pos : Pos} {Q : Value → Shared → Prop} (I : Inv X pins σ H s) (hg : Gl X x) (hm : X.mg x = none) (hv : bootBuiltins x = some u) (h : Q u s)
    (hn : x ≠ "__name__" := by decide) (hd : (x == ("__debug__" : Str)) = false := by decide) : wpAny (model X.prog X.w) X.A (eval (.Name x pos) X.env) Q E s := by
  obtain ⟨mb, h1, h2⟩ := I.mod.blt
  exact Calls.Name_function_global I.ok.kind hg (Calls.loadGlobal_builtin (by rw [I.ok.glob]; exact I.mod.glob.keeps I.bk) hm (by rw [I.ok.blt]; exact h1.keeps I.bk) ((h2 x hn).trans hv) h) hd
theorem pe_glob {x : Str} {v : V} {u : Value} {pos : Pos} (hg : Gl X x) (hm : X.mg x = some u) (r : RelV v u) (hd : (x == ("__debug__" : Str)) = false := by decide) : PE X (.Name x pos) (tC v) :=
  fun _ _ _ H _ I h => ld_glob I hg hm ⟨v, H, I, r, h⟩ hd
theorem pe_bltn {x : Str} {v : V} {u : Value} {pos : Pos} (hg : Gl X x) (hm : X.mg x = none) (hv : bootBuiltins x = some u) (r : RelV v u) (hn : x ≠ "__name__" := by decide) (hd : (x == ("__debug__" : Str)) = false := by decide) : PE X (.Name x pos) (tC v) :=
  fun _ _ _ H _ I h => ld_blt I hg hm hv ⟨v, H, I, r, h⟩ hn hd
variable {a b : Expr} {ta tb : TE} {pos : Pos}
noncomputable def PC (X : Cx) (op : CmpOp) (a b : Expr) (t : TE) : Prop :=
  ∀ (pins : List (Addr × Obj)) (s : Shared) (σ : St) (H : Hp) (Q : VK), Inv X pins σ H s → t σ H Q →
    wpAny (model X.prog X.w) X.A (eval a X.env) (fun v s₁ => wpAny (model X.prog X.w) X.A (eval b X.env) (fun u s₂ => wpAny (model X.prog X.w) X.A (compareOp op v u) (EP X pins σ Q) X.xe s₂) X.xe s₁) X.xe s
noncomputable def tB (t : TE) : TT := fun σ H Q => t σ H fun x H1 => ∃ c, x = .bl c ∧ Q c H1
theorem pe_cmp {op : CmpOp} {t : TE} (h : PC X op a b t) (h1 : behindInMarks op b = false := by first | exact nobehind _ (by decide) (by decide) | rfl) : PE X (.Compare a [op] [b] pos) t := fun pins s σ H Q I hw => wpAny_Compare1 (h pins s σ H Q I hw) h1
theorem pt_cmp {op : CmpOp} {t : TE} (h : PC X op a b t) (h1 : behindInMarks op b = false := by first | exact nobehind _ (by decide) (by decide) | rfl) : PT X (.Compare a [op] [b] pos) (tB t) := by
  intro pins s σ H Q I hw
  refine wpAny_isTrue_Compare1 (thn (h pins s σ H _ I hw) fun v s1 h1 => thn h1 fun u s2 h2 => thn h2 fun c s3 ⟨x, H1, I1, r1, q1⟩ => ?_) h1
  obtain ⟨d, rfl, q⟩ := q1
  cases r1
  exact wpAny_truthy_bool ⟨H1, I1, q⟩
theorem pt_val {e : Expr} {t : TE} (h : PE X e t) (he : ∀ whole, isTrue e X.env whole = (do let v ← whole; standAt e.pos; holding [v] (truthy v)) := by intro _; rfl) : PT X e (tB t) := by
  intro pins s σ H Q I hw
  refine isTrue_plain (thn (h pins s σ H _ I hw) fun v s1 ⟨x, H1, I1, r1, q1⟩ => ?_) (he _)
  obtain ⟨d, rfl, q⟩ := q1
  cases r1
  exact wpAny_truthy_bool ⟨H1, I1, q⟩
variable {tA tB' : TT} {rest : List Expr}
noncomputable def tNot (t : TT) : TT := fun σ H Q => t σ H fun c H1 => Q (!c) H1
theorem pt_not (ha : PT X a tA) : PT X (.UnaryOp .Not a pos) (tNot tA) := by
  intro pins s σ H Q I h
  exact isTrue_not (ha pins s σ H (fun c H1 => Q (!c) H1) I h)
noncomputable def tAndV (ta tb : TE) : TE := fun σ H Q => ta σ H fun x H1 => ∃ c, x = .bl c ∧ if c = true then tb σ H1 Q else Q (.bl false) H1
noncomputable def tNotV (ta : TE) : TE := fun σ H Q => ta σ H fun x H1 => ∃ c, x = .bl c ∧ Q (.bl (!c)) H1
theorem pe_one {op} {t : TE} (h : PE X a t) : PE X (.BoolOp op [a] pos) t := fun pins s σ H Q I hw => BoolOp_one (h pins s σ H Q I hw)
theorem pe_and (ha : PE X a ta) (hb : PE X (.BoolOp .And (b :: rest) pos) tb) : PE X (.BoolOp .And (a :: b :: rest) pos) (tAndV ta tb) := by
  intro pins s σ H Q I h
  refine BoolOp_and (thn (ha pins s σ H _ I h) fun v s1 ⟨x, H1, I1, r1, q1⟩ => ?_)
  obtain ⟨c, rfl, q1⟩ := q1
  cases r1
  refine wpAny_truthy_bool ?_
  cases c with
  | true => exact hb pins s1 σ H1 Q I1 q1
  | false => exact ⟨.bl false, H1, I1, rfl, q1⟩
theorem pe_not (ha : PE X a ta) : PE X (.UnaryOp .Not a pos) (tNotV ta) := by
  intro pins s σ H Q I h
  refine UnaryOp_ (thn (ha pins s σ H _ I h) fun v s1 ⟨x, H1, I1, r1, q1⟩ => ?_)
  obtain ⟨c, rfl, q1⟩ := q1
  cases r1
  exact not_of (wpAny_truthy_bool ⟨.bl (!c), H1, I1, rfl, q1⟩)
end
end L2
namespace L2
open PySem PySem.Spec PyProof.Rows
noncomputable def SqL (K : PySem.W.Frag) (H : Hp) (a : Addr) (xs : List V) : Prop :=
  Rd H a (.lst xs) ∨
    ∃ (o : Obj) (its : Array Value) (n : Nat), K.lookup a = some o ∧ o.cls = .type "list" ∧ o.dict = none ∧ o.data = .seq its n ∧ its.size ≤ sizeLine ∧ Vals xs its.toList
noncomputable def SqT (K : PySem.W.Frag) (H : Hp) (a : Addr) (xs : List V) : Prop :=
  Rd H a (.tup xs) ∨
    ∃ (o : Obj) (its : Array Value) (n : Nat), K.lookup a = some o ∧ o.cls = .type "tuple" ∧ o.data = .seq its n ∧ its.size ≤ sizeLine ∧ Vals xs its.toList
noncomputable def absV : Value → Option V
  | .none => some .non
  | .bool b => some (.bl b)
  | .int i _ => some (.int i)
  | .str x _ => some (.str x)
  | .bytes b _ => some (.byt b)
  | .float b _ => some (.flt b)
  | .ref a => some (.ref a)
  | .type n => some (.ty n)
  | _ => none
theorem RelV.abs {x : V} {u : Value} (r : RelV x u) : absV u = some x := by
  cases x with
  | non => cases r; rfl
  | bl _ => cases r; rfl
  | int _ => obtain ⟨t, rfl⟩ := r; rfl
  | str _ => obtain ⟨t, rfl⟩ := r; rfl
  | byt _ => obtain ⟨t, rfl⟩ := r; rfl
  | flt _ => obtain ⟨t, rfl⟩ := r; rfl
  | ref _ => cases r; rfl
  | ty _ => cases r; rfl
theorem RelV.inj {x y : V} {u : Value} (r : RelV x u) (q : RelV y u) : x = y := Option.some.inj (r.abs.symm.trans q.abs)
theorem Vals.inj : ∀ {xs ys : List V} {us : List Value}, Vals xs us → Vals ys us → xs = ys
  | _, _, _, .nil, .nil => rfl
  | _, _, _, .cons r t, .cons r' t' => by rw [r.inj r', Vals.inj t t']
section
variable {X : Cx} {pins : List (Addr × Obj)} {σ : St} {H : Hp} {s : Shared} {a : Addr} {xs ys : List V}
theorem Inv.list (I : Inv X pins σ H s) (h : SqL X.K H a xs) : ∃ its : List Value, Vals xs its ∧ PlainL s.heap a its.toArray ∧ xs.length ≤ sizeLine := by
  rcases h with h | ⟨o, its, n, hk, hc, hd, hs, hz, r⟩
  · obtain ⟨z, its, n, r, e⟩ := h.ok I.hok
    exact ⟨its, r, ⟨_, n, e, rfl, rfl, rfl⟩, z⟩
  · refine ⟨its.toList, r, ⟨o, n, I.kIn a o hk, hc, hd, by simpa using hs⟩, ?_⟩
    have e := r.length
    simp only [Array.length_toList] at e
    omega
theorem Inv.tuple (I : Inv X pins σ H s) (h : SqT X.K H a xs) : ∃ its : List Value, Vals xs its ∧ IsTup s.heap a its.toArray ∧ xs.length ≤ sizeLine := by
  rcases h with h | ⟨o, its, n, hk, hc, hs, hz, r⟩
  · obtain ⟨z, its, r, p⟩ := h.ok I.hok
    exact ⟨its, r, p.tup, z⟩
  · refine ⟨its.toList, r, ⟨o, I.kIn a o hk, hc, n, by simpa using hs⟩, ?_⟩
    have e := r.length
    simp only [Array.length_toList] at e
    omega
theorem Inv.list_inj (I : Inv X pins σ H s) (h : SqL X.K H a xs) (h' : SqL X.K H a ys) : xs = ys := by
  obtain ⟨its, r, ⟨o, n, e, _, _, d⟩, _⟩ := I.list h
  obtain ⟨its', r', ⟨o', n', e', _, _, d'⟩, _⟩ := I.list h'
  rw [e] at e'; cases e'
  rw [d] at d'
  injection d' with d1 _
  have : its = its' := by simpa using congrArg Array.toList d1
  subst this
  exact r.inj r'
theorem Inv.tuple_inj (I : Inv X pins σ H s) (h : SqT X.K H a xs) (h' : SqT X.K H a ys) : xs = ys := by
  obtain ⟨its, r, ⟨o, e, _, n, d⟩, _⟩ := I.tuple h
  obtain ⟨its', r', ⟨o', e', _, n', d'⟩, _⟩ := I.tuple h'
  rw [e] at e'; cases e'
  rw [d] at d'
  injection d' with d1 _
  have : its = its' := by simpa using congrArg Array.toList d1
  subst this
  exact r.inj r'
end
noncomputable abbrev Cx.wish (X : Cx) (E : Value → Shared → Prop) : Cx := { X with xe := E }
noncomputable abbrev Cx.nox (X : Cx) : Cx := X.wish fun _ _ => False
theorem Cx.Ok.wish {X : Cx} (ok : X.Ok) (E : Value → Shared → Prop) : (X.wish E).Ok :=
  ⟨ok.mod, ok.kind, ok.glob, ok.blt, ok.above, ok.inj, ok.has, ok.cab, ok.hd, ok.frames, ok.stk, ok.exf, ok.bs, ok.bsz, ok.noex, ok.exfs, ok.funs, ok.frf⟩
theorem Cx.Ok.unwish {X : Cx} {E : Value → Shared → Prop} (ok : (X.wish E).Ok) : X.Ok :=
  ⟨ok.mod, ok.kind, ok.glob, ok.blt, ok.above, ok.inj, ok.has, ok.cab, ok.hd, ok.frames, ok.stk, ok.exf, ok.bs, ok.bsz, ok.noex, ok.exfs, ok.funs, ok.frf⟩
section
variable {X : Cx} {pins : List (Addr × Obj)} {σ : St} {H : Hp} {s : Shared} {E : Value → Shared → Prop}
theorem Inv.wish (I : Inv X pins σ H s) (E : Value → Shared → Prop) : Inv (X.wish E) pins σ H s := ⟨I.ok.wish E, I.os, I.bare, I.base, I.loc, I.cell, I.free, I.freeC, I.pin, I.hok, I.len⟩
theorem Inv.unwish (I : Inv (X.wish E) pins σ H s) : Inv X pins σ H s := ⟨I.ok.unwish, I.os, I.bare, I.base, I.loc, I.cell, I.free, I.freeC, I.pin, I.hok, I.len⟩
theorem SP.unwish {D : Ends} {f : Flow} {s' : Shared} (h : SP (X.wish E) pins D f s') : SP X pins D f s' := by
  cases f with
  | next => obtain ⟨σ', H', I, q⟩ := h; exact ⟨σ', H', I.unwish, q⟩
  | brk => obtain ⟨σ', H', I, q⟩ := h; exact ⟨σ', H', I.unwish, q⟩
  | cont => obtain ⟨σ', H', I, q⟩ := h; exact ⟨σ', H', I.unwish, q⟩
  | ret u => obtain ⟨v, σ', H', I, r, q⟩ := h; exact ⟨v, σ', H', I.unwish, r, q⟩
theorem PSs.nox {st : List Stmt} {t : TS} (h : PSs X.nox st t) : PSs X st t := fun pins s σ H D I hw =>
  wpAny_mono (h pins s σ H D (I.wish _) hw) (fun _ _ q => q.unwish) fun _ _ z => False.elim z
end
section
variable {X : Cx} {st : Stmt} {rest : List Stmt} {t u : TS} {e : Expr} {te : TE} {pos : Pos}
noncomputable def tNext : TS := fun D σ H => D.nx σ H
noncomputable def tSeq (t u : TS) : TS := fun D σ H => t { D with nx := u D } σ H
theorem pss_nil : PSs X [] tNext := fun _ _ σ H _ I h => wpAny_execs_nil ⟨σ, H, I, h⟩
theorem pss_cons (h1 : PS X st t) (h2 : PSs X rest u) : PSs X (st :: rest) (tSeq t u) := by
  intro pins s σ H D I h
  refine wpAny_execs_cons (thn (h1 pins s σ H { D with nx := u D } I h) fun f s1 q => ?_)
  cases f with
  | next =>
    obtain ⟨σ', H', I', q⟩ := q
    exact h2 pins s1 σ' H' D I' q
  | ret v => exact q
  | brk => exact q
  | cont => exact q
theorem Inv.quiet {pins : List (Addr × Obj)} {σ : St} {H : Hp} {s : Shared} (I : Inv X pins σ H s) : interactive X.env = false := by simp [interactive, I.ok.kind]
noncomputable def tDrop (te : TE) : TS := fun D σ H => te σ H fun _ H1 => D.nx σ H1
theorem ps_expr (he : PE X e te) (hs : swapsWith e none pos.line X.env = pure false := by rfl) : PS X (.Expr e pos) (tDrop te) := by
  intro pins s σ H D I h
  exact wpAny_Expr_any (thn (he pins s σ H _ I h) fun v s1 ⟨x, H1, I1, r1, q1⟩ => ⟨σ, H1, I1, q1⟩) I.quiet hs
noncomputable def tRet (te : TE) : TS := fun D σ H => te σ H D.rt
theorem ps_ret (he : PE X e te) : PS X (.Return (some e) pos) (tRet te) := by
  intro pins s σ H D I h
  exact wpAny_Return_some (thn (he pins s σ H _ I h) fun v s1 ⟨x, H1, I1, r1, q1⟩ => ⟨x, σ, H1, I1, r1, q1⟩)
noncomputable def tIfS (c : TT) (t u : TS) : TS := fun D σ H => c σ H fun b H1 => if b = true then t D σ H1 else u D σ H1
theorem ps_if {c : Expr} {a b : List Stmt} {tc : TT} (hc : PT X c tc) (ha : PSs X a t) (hb : PSs X b u) : PS X (.If c a b pos) (tIfS tc t u) := by
  intro pins s σ H D I h
  refine wpAny_If (thn (hc pins s σ H _ I h) fun d s1 ⟨H1, I1, q1⟩ => ?_)
  cases d with
  | true => exact ha pins s1 σ H1 D I1 q1
  | false => exact hb pins s1 σ H1 D I1 q1
noncomputable def tNever : TS := fun _ _ _ => False
theorem pss_never {sts : List Stmt} : PSs X sts tNever := fun _ _ _ _ _ _ h => h.elim
end
noncomputable abbrev TG := V → St → Hp → (St → Hp → Prop) → Prop
noncomputable abbrev TGs := List V → St → Hp → (St → Hp → Prop) → Prop
noncomputable def PG (X : Cx) (target : Expr) (t : TG) : Prop :=
  ∀ (pins : List (Addr × Obj)) (s : Shared) (σ : St) (H : Hp) (v : V) (u : Value) (Q : St → Hp → Prop), Inv X pins σ H s → RelV v u → t v σ H Q →
    wpAny (model X.prog X.w) X.A (assign target X.env u) (fun _ s' => ∃ σ' H', Inv X pins σ' H' s' ∧ Q σ' H') X.xe s
noncomputable def PGs (X : Cx) (ts : List Expr) (t : TGs) : Prop :=
  ∀ (pins : List (Addr × Obj)) (s : Shared) (σ : St) (H : Hp) (vs : List V) (us : List Value) (Q : St → Hp → Prop), Inv X pins σ H s → Vals vs us → t vs σ H Q →
    wpAny (model X.prog X.w) X.A (assignInOrder ((assignEach ts X.env).map (·.2)) us) (fun _ s' => ∃ σ' H', Inv X pins σ' H' s' ∧ Q σ' H') X.xe s
noncomputable abbrev TSet := V → V → V → Hp → (Hp → Prop) → Prop
noncomputable def PSet (X : Cx) (t : TSet) : Prop :=
  ∀ (pins : List (Addr × Obj)) (s : Shared) (σ : St) (H : Hp) (o i v : V) (ov iv u : Value) (Q : Hp → Prop), Inv X pins σ H s → RelV o ov → RelV i iv → RelV v u → t o i v H Q →
    wpAny (model X.prog X.w) X.A (setItem ov iv u) (fun _ s' => ∃ H', Inv X pins σ H' s' ∧ Q H') X.xe s
section
variable {X : Cx} {pos : Pos}
noncomputable def gName (i : Nat) : TG := fun v σ H Q => Q (σ.set i (some v)) H
theorem pg_name {i : Nat} {x : Str} (hN : X.N.Nodup) (hi : X.N[i]? = some x) (hx : Loc X.env.scope x) (hf : X.fn x = true ∨ X.env.scope.names.lookup x = some .local := by first | exact .inl rfl | exact .inr rfl | assumption) : PG X (.Name x pos) (gName i) := by
  intro pins s σ H v u Q I r h
  exact wpAny_assign_Name (store_ok I hN hi hx r (fun s' I' => ⟨_, H, I', h⟩) hf)
noncomputable def gNil : TGs := fun vs σ H Q => vs = [] ∧ Q σ H
noncomputable def gCons (t : TG) (u : TGs) : TGs := fun vs σ H Q => ∃ v r, vs = v :: r ∧ t v σ H fun σ' H' => u r σ' H' Q
theorem pgs_nil : PGs X [] gNil := by
  intro pins s σ H vs us Q I r h
  obtain ⟨e, h⟩ := h
  subst e
  cases r
  exact assignInOrder_nil ⟨σ, H, I, h⟩
theorem pgs_cons {e : Expr} {es : List Expr} {t : TG} {u : TGs} (h1 : PG X e t) (h2 : PGs X es u)
    (hs : (assignEach (e :: es) X.env).map (·.2) = assign e X.env :: (assignEach es X.env).map (·.2) := by rfl) : PGs X (e :: es) (gCons t u) := by
  intro pins s σ H vs us Q I r h
  obtain ⟨v, vr, e1, h⟩ := h
  subst e1
  cases r with
  | cons r rr =>
    rw [hs]
    refine assignInOrder_cons (thn (h1 pins s σ H _ _ _ I r h) fun _ s1 ⟨σ1, H1, I1, q1⟩ => ?_)
    exact h2 pins s1 σ1 H1 _ _ Q I1 rr q1
noncomputable def gTup (K : PySem.W.Frag) (n : Nat) (t : TGs) : TG := fun v σ H Q => ∃ a xs, v = .ref a ∧ SqT K H a xs ∧ xs.length = n ∧ t xs σ H Q
theorem pg_tup {es : List Expr} {k : Nat} {t : TGs} {n : Nat} (hc : X.calm = true) (h : PGs X es t)
    (hn : (assignEach es X.env).length = n := by rfl) (hst : (assignEach es X.env).findIdx? (·.1) = none := by rfl) : PG X (.Tuple es k pos) (gTup X.K n t) := by
  intro pins s σ H v u Q I r hw
  obtain ⟨a, xs, e1, hq, hl, hw⟩ := hw
  subst e1
  cases r
  obtain ⟨its, rv, ht, hz⟩ := I.tuple hq
  refine assign_Tuple_tuple (I.ok.hd hc) ht (by simp [hn, ← hl, rv.length]) hst fun h' hx => ?_
  have I1 : Inv X pins σ H { s with heap := h' } := I.kept (t' := s.toks) fun b o e => hx b o (Nat.ne_of_lt (Heap.lt_size e)) e
  exact h pins _ σ H xs _ Q I1 (by simpa using rv) hw
noncomputable def gSub (to ti : TE) (t : TSet) : TG := fun v σ H Q => to σ H fun o H1 => ti σ H1 fun i H2 => t o i v H2 fun H3 => Q σ H3
theorem pg_sub {o i : Expr} {to ti : TE} {t : TSet} (ho : PE X o to) (hi : PE X i ti) (hs : PSet X t)
    (ha : ∀ v, assign (.Subscript o i pos) X.env v = (do
      let ov ← holding [v] (eval o X.env)
      let iv ← holding [v, ov] (eval i X.env)
      standAt pos
      holding [v, ov, iv] (setItem ov iv v)
      release [v, ov, iv] []) := by intro _; rfl) : PG X (.Subscript o i pos) (gSub to ti t) := by
  intro pins s σ H v u Q I r h
  rw [ha]
  refine wpAny_bind (wpAny_holding (thn (ho pins s σ H _ I h) fun ov s1 ⟨x, H1, I1, r1, q1⟩ => ?_))
  refine wpAny_bind (wpAny_holding (thn (hi pins s1 σ H1 _ I1 q1) fun iv s2 ⟨y, H2, I2, r2, q2⟩ => ?_))
  refine wpAny_bind (wpAny_standAt (wpAny_bind (wpAny_holding (thn (hs pins s2 σ H2 x y v ov iv u _ I2 r1 r2 r q2) fun _ s3 ⟨H3, I3, q3⟩ => ?_))))
  exact wpAny_release ⟨σ, H3, I3, q3⟩
noncomputable def tAsg (te : TE) (g : TG) : TS := fun D σ H => te σ H fun x H1 => g x σ H1 D.nx
theorem ps_asg {tg e : Expr} {te : TE} {g : TG} (he : PE X e te) (hg : PG X tg g) (hs : swapsWithSole [tg] e pos.line X.env = pure false := by rfl) (hw : swappedStores [tg] e X.env = pure none := by rfl)
    (h1 : (assignEach [tg] X.env).map (·.2) = [assign tg X.env] := by rfl) : PS X (.Assign [tg] e pos) (tAsg te g) := by
  intro pins s σ H D I h
  refine wpAny_Assign_stores (thn (he pins s σ H _ I h) fun v s1 ⟨x, H1, I1, r1, q1⟩ => ?_) hs hw
  rw [h1]
  exact thn (hg pins s1 σ H1 x v _ I1 r1 q1) fun _ s2 q => q
end
section
variable {X : Cx} {pos : Pos}
noncomputable def tWhile (c : TT) (tb : TS) : TS := fun D σ H => ∃ W : Nat → St → Hp → Prop, (∃ m, W m σ H) ∧ ∀ m σ H, W m σ H →
  c σ H fun b H1 => if b = true then ∃ N : St → Hp → Prop, (∀ σ' H', N σ' H' → ∃ m', m' < m ∧ W m' σ' H') ∧ tb { D with nx := N, ct := N, bk := D.nx } σ H1 else D.nx σ H1
theorem ps_while {c : Expr} {body : List Stmt} {tc : TT} {tb : TS} (hp : PassesOwn (model X.prog X.w) X.A X.env X.xe) (hc : PT X c tc) (hb : PSs X body tb) : PS X (.While c body [] pos) (tWhile tc tb) := by
  intro pins s σ H D I h
  obtain ⟨W, ⟨m0, w0⟩, turn⟩ := h
  refine wpAny_While (codeAny_whileLoop (fun n s' => ∃ σ' H', Inv X pins σ' H' s' ∧ W n σ' H') ?_ m0 ⟨σ, H, I, w0⟩)
  rintro n s1 ⟨σ1, H1, I1, w1⟩
  refine wpAny_passesOwn hp (thn (hc pins s1 σ1 H1 _ I1 (turn n σ1 H1 w1)) fun b s2 ⟨H2, I2, q2⟩ => ?_)
  cases b with
  | true =>
    obtain ⟨N, hN, q2⟩ := q2
    rw [if_pos rfl]
    refine wpAny_passesOwn hp (thn (hb pins s2 σ1 H2 _ I2 q2) fun f s3 q3 => ?_)
    cases f with
    | next =>
      obtain ⟨σ3, H3, I3, n3⟩ := q3
      obtain ⟨m', hm, w3⟩ := hN σ3 H3 n3
      exact ⟨m', hm, σ3, H3, I3, w3⟩
    | cont =>
      obtain ⟨σ3, H3, I3, n3⟩ := q3
      obtain ⟨m', hm, w3⟩ := hN σ3 H3 n3
      exact ⟨m', hm, σ3, H3, I3, w3⟩
    | brk => exact q3
    | ret v => exact q3
  | false =>
    rw [if_neg Bool.false_ne_true]
    exact wpAny_execs_nil ⟨σ1, H2, I2, q2⟩
end
structure It where
  go : Nat → Hp → Prop
  yld : Nat → Hp → V → Hp → Prop
  stop : Nat → Hp → Prop
noncomputable def FpOk (X : Cx) (pins : List (Addr × Obj)) (H : Hp) (b : Addr) : Prop :=
  H b = none ∧ b ≠ X.env.locals ∧ b ∉ X.fs ∧ (b ∈ X.ex ∨ X.s₀.heap.objs.size ≤ b) ∧ (∀ x c, X.env.cells.lookup x = some c → c ≠ b) ∧ ∀ p ∈ X.pn ++ pins, p.1 ≠ b
theorem Inv.fpOk {X : Cx} {pins : List (Addr × Obj)} {σ : St} {H H' : Hp} {s : Shared} {b : Addr} (I : Inv X pins σ H s) (hb : s.heap.objs.size ≤ b) (hn : H' b = none) : FpOk X pins H' b := by
  refine ⟨hn, Nat.ne_of_gt (Nat.lt_of_lt_of_le I.lt hb), I.nofs hb, .inr (Nat.le_trans I.sz hb), fun x c e z => ?_, fun p hp z => ?_⟩
  · obtain ⟨v, q⟩ := I.cell x c e
    exact absurd (Nat.lt_of_lt_of_le q.lt (by rw [z]; exact hb)) (Nat.lt_irrefl _)
  · exact absurd (Nat.lt_of_lt_of_le (Heap.lt_size (I.pin p hp).1) (by rw [z]; exact hb)) (Nat.lt_irrefl _)
structure Turn (P : Program) (w : World) (K : PySem.W.Frag) (tg : Expr) (J : It) (fp : List Addr) (it : Addr) (tn : Nat → Heap → Prop) : Prop where
  mem : it ∈ fp
  obj : ∀ i h, tn i h → ∀ b ∈ fp, ∃ o, h.get? b = some o ∧ ∀ v, o.data ≠ .cell v
  keep : ∀ i h h', tn i h → (∀ b ∈ fp, ∀ o, h.get? b = some o → h'.get? b = some o) → tn i h'
  item : ∀ (X : Cx), X.prog = P → X.w = w → X.K = K → X.calm = true → ∀ (i : Nat) (pins : List (Addr × Obj)) (s : Shared) (σ : St) (H : Hp) (E : Value → Shared → Prop), Inv X pins σ H s → (∀ b ∈ fp, FpOk X pins H b) → tn i s.heap → J.go i H →
    wpAny (model P w) X.A (pyNext (.ref it)) (fun r s1 => ∃ u, r = some u ∧
      wpAny (model P w) X.A (letOwnedTupleGo tg (.ref it) u) (fun _ s2 => ∃ x H', Inv X pins σ H' s2 ∧ RelV x u ∧ J.yld i H x H' ∧ tn (i + 1) s2.heap ∧ ∀ b ∈ fp, H' b = none) E s1) E s
  done : ∀ (X : Cx), X.prog = P → X.w = w → X.K = K → X.calm = true → ∀ (i : Nat) (pins : List (Addr × Obj)) (s : Shared) (σ : St) (H : Hp) (E : Value → Shared → Prop), Inv X pins σ H s → (∀ b ∈ fp, FpOk X pins H b) → tn i s.heap → J.stop i H →
    wpAny (model P w) X.A (pyNext (.ref it)) (fun r s1 => r = none ∧ Inv X pins σ H s1) E s
  self : ∀ (A : Around) (i : Nat) (s : Shared) (Q : Value → Shared → Prop) (E : Value → Shared → Prop), tn i s.heap → Q (.ref it) s → wpAny (model P w) A (pyIter (.ref it)) Q E s
noncomputable abbrev TI := St → Hp → (It → Hp → Prop) → Prop
noncomputable def PIE (X : Cx) (pins : List (Addr × Obj)) (σ : St) (tg : Expr) (R : It → Hp → Prop) (itv : Value) (s2 : Shared) : Prop :=
  ∃ (it : Addr) (fp : List Addr) (tn : Nat → Heap → Prop) (J : It) (H' : Hp), itv = .ref it ∧ Inv X pins σ H' s2 ∧ Turn X.prog X.w X.K tg J fp it tn ∧ tn 0 s2.heap ∧ (∀ b ∈ fp, FpOk X pins H' b) ∧ R J H'
noncomputable def PI (X : Cx) (tg iter : Expr) (wi : TI) : Prop :=
  ∀ (pins : List (Addr × Obj)) (s : Shared) (σ : St) (H : Hp) (R : It → Hp → Prop), Inv X pins σ H s → wi σ H R →
    wpAny (model X.prog X.w) X.A (eval iter X.env) (fun v s1 => wpAny (model X.prog X.w) X.A (pyIter v) (PIE X pins σ tg R) X.xe s1) X.xe s
theorem go_of {M : Model} {A : Around} {E : Value → Shared → Prop} {s : Shared} {tg : Expr} {it : Addr} {u : Value} {o : Obj} {n : String} {vs : Array Value} {Q : Unit → Shared → Prop} (ho : s.heap.get? it = some o) (hc : o.cls = .type n) (hd : o.data = .fields vs)
    (hn : ["enumerate", "zip", "dict_itemiterator", "dict_reverseitemiterator", "odict_iterator", "itertools.zip_longest", "itertools.pairwise"].contains n = false) (hQ : Q () s) : wpAny M A (letOwnedTupleGo tg (.ref it) u) Q E s := by
  unfold letOwnedTupleGo
  cases tg <;> first
    | exact wpAny_pure hQ
    | (cases u <;> first
        | exact wpAny_pure hQ
        | (refine wpAny_bind (wpAny_load ho ?_)
           rw [hc, hd]
           show wpAny M A (if (["enumerate", "zip", "dict_itemiterator", "dict_reverseitemiterator", "odict_iterator", "itertools.zip_longest", "itertools.pairwise"].contains n && vs[0]? == some (rawInt _)) = true then _ else _) Q E s
           rw [if_neg (by intro h; rw [hn, Bool.false_and] at h; cases h)]
           exact wpAny_pure hQ))
noncomputable def Itl (K : PySem.W.Frag) (a : Addr) : It :=
  ⟨fun i H => ∃ xs x, SqL K H a xs ∧ xs[i]? = some x, fun i H x H' => H' = H ∧ ∀ xs, SqL K H a xs → xs[i]? = some x, fun i H => ∃ xs, SqL K H a xs ∧ xs.length ≤ i⟩
noncomputable def Itt (K : PySem.W.Frag) (a : Addr) : It :=
  ⟨fun i H => ∃ xs x, SqT K H a xs ∧ xs[i]? = some x, fun i H x H' => H' = H ∧ ∀ xs, SqT K H a xs → xs[i]? = some x, fun i H => ∃ xs, SqT K H a xs ∧ xs.length ≤ i⟩
noncomputable def Itr (lo : Int) (n : Nat) : It := ⟨fun i _ => i < n, fun i H x H' => H' = H ∧ x = .int (lo + i), fun i _ => n ≤ i⟩
theorem turn_list {P : Program} {w : World} {K : PySem.W.Frag} {tg : Expr} (a it : Addr) : Turn P w K tg (Itl K a) [it] it (fun i h => h.IsListIter it a i) where
  mem := by simp
  obj := fun i h st b hb => by
    have e : b = it := by simpa using hb
    subst e
    obtain ⟨o, e, c, d⟩ := st
    exact ⟨o, e, fun v z => by rw [d] at z; cases z⟩
  keep := fun i h h' st k => st.at fun o e => k it (by simp) o e
  item := by
    intro X hP hw hK hc i pins s σ H E I hf st hg
    subst hP hw hK
    obtain ⟨xs, x, hq, hx⟩ := hg
    obtain ⟨its, rv, p, hz⟩ := I.list hq
    obtain ⟨u, hu, ru⟩ := rv.get hx
    obtain ⟨f0, f1, f2, f3, f4, f5⟩ := hf it (by simp)
    refine wpAny_pyNext_list_item st p.isList (x := u) (by simpa using hu) fun h' st' sb => ?_
    have I1 : Inv X pins σ H { s with heap := h' } := I.turned (t' := s.toks) (fun b o hb e => (sb.2 b hb).trans e) f0 f1 f3 f4 f5
    obtain ⟨o, e, c, d⟩ := id st'
    exact ⟨u, rfl, go_of (s := { s with heap := h' }) e c d (by decide) ⟨x, H, I1, ru, ⟨rfl, fun ys hy => by rw [I.list_inj hy hq]; exact hx⟩, st', fun b hb => (hf b hb).1⟩⟩
  done := by
    intro X hP hw hK hc i pins s σ H E I hf st hg
    subst hP hw hK
    obtain ⟨xs, hq, hx⟩ := hg
    obtain ⟨its, rv, p, hz⟩ := I.list hq
    obtain ⟨f0, f1, f2, f3, f4, f5⟩ := hf it (by simp)
    have hl := rv.length
    exact wpAny_pyNext_list_end (I.ok.hd hc) st p.isList (by simp; omega) fun h' eb => ⟨rfl, I.turned (t' := s.toks) (fun b o hb e => eb b o hb e) f0 f1 f3 f4 f5⟩
  self := fun _ _ _ _ _ st h => wpAny_pyIter_listiter st h
theorem turn_tuple {P : Program} {w : World} {K : PySem.W.Frag} {tg : Expr} (a it : Addr) : Turn P w K tg (Itt K a) [it] it (fun i h => h.IsTupleIter it a i) where
  mem := by simp
  obj := fun i h st b hb => by
    have e : b = it := by simpa using hb
    subst e
    obtain ⟨o, e, c, d⟩ := st
    exact ⟨o, e, fun v z => by rw [d] at z; cases z⟩
  keep := fun i h h' st k => st.at fun o e => k it (by simp) o e
  item := by
    intro X hP hw hK hc i pins s σ H E I hf st hg
    subst hP hw hK
    obtain ⟨xs, x, hq, hx⟩ := hg
    obtain ⟨its, rv, p, hz⟩ := I.tuple hq
    obtain ⟨u, hu, ru⟩ := rv.get hx
    obtain ⟨f0, f1, f2, f3, f4, f5⟩ := hf it (by simp)
    refine wpAny_pyNext_tuple_item st (show s.heap.IsTuple a its.toArray from p) (x := u) (by simpa using hu) fun h' st' sb => ?_
    have I1 : Inv X pins σ H { s with heap := h' } := I.turned (t' := s.toks) (fun b o hb e => (sb.2 b hb).trans e) f0 f1 f3 f4 f5
    obtain ⟨o, e, c, d⟩ := id st'
    exact ⟨u, rfl, go_of (s := { s with heap := h' }) e c d (by decide) ⟨x, H, I1, ru, ⟨rfl, fun ys hy => by rw [I.tuple_inj hy hq]; exact hx⟩, st', fun b hb => (hf b hb).1⟩⟩
  done := by
    intro X hP hw hK hc i pins s σ H E I hf st hg
    subst hP hw hK
    obtain ⟨xs, hq, hx⟩ := hg
    obtain ⟨its, rv, p, hz⟩ := I.tuple hq
    obtain ⟨f0, f1, f2, f3, f4, f5⟩ := hf it (by simp)
    have hl := rv.length
    exact wpAny_pyNext_tuple_end (I.ok.hd hc) st (show s.heap.IsTuple a its.toArray from p) (by simp; omega) fun h' eb => ⟨rfl, I.turned (t' := s.toks) (fun b o hb e => eb b o hb e) f0 f1 f3 f4 f5⟩
  self := fun _ _ _ _ _ st h => wpAny_pyIter_tupleiter st h
theorem turn_range {P : Program} {w : World} {K : PySem.W.Frag} {tg : Expr} (it : Addr) (lo : Int) (n : Nat) : Turn P w K tg (Itr lo n) [it] it (fun i h => IsRangeIter h it (lo + (i : Nat) * 1) ((n : Int) - (i : Nat)) 1) where
  mem := by simp
  obj := fun i h st b hb => by
    have e : b = it := by simpa using hb
    subst e
    exact ⟨_, st, fun v z => by
      have z' : Data.fields _ = Data.cell v := z
      cases z'⟩
  keep := fun i h h' st k => k it (by simp) _ st
  item := by
    intro X hP hw hK hc i pins s σ H E I hf st hg
    subst hP hw hK
    obtain ⟨f0, f1, f2, f3, f4, f5⟩ := hf it (by simp)
    have W := Walks.range (prog := X.prog) (w := X.w) (I.ok.hd hc) it lo 1 n
    refine W.item i s _ _ hg st fun v h' tk hv st' kk => ?_
    obtain ⟨t, rfl⟩ := hv
    have I1 : Inv X pins σ H { s with heap := h', toks := tk } := I.turned (fun b o hb e => kk b o (by simpa using hb) e) f0 f1 f3 f4 f5
    refine ⟨_, rfl, go_of (s := { s with heap := h', toks := tk }) (n := "range_iterator") st' rfl rfl (by decide) ⟨.int (lo + i), H, I1, ⟨t, ?_⟩, ⟨rfl, rfl⟩, st', fun b hb => (hf b hb).1⟩⟩
    rw [Int.mul_one]
  done := by
    intro X hP hw hK hc i pins s σ H E I hf st hg
    subst hP hw hK
    obtain ⟨f0, f1, f2, f3, f4, f5⟩ := hf it (by simp)
    exact wpAny_pyNext_range_end (I.ok.hd hc) st (by have : n ≤ i := hg; omega) fun h' eb => ⟨rfl, I.turned (t' := s.toks) (fun b o hb e => eb b o hb e) f0 f1 f3 f4 f5⟩
  self := fun _ _ _ _ _ st h => wpAny_pyIter_rangeiter st h
end L2
namespace L2
open PySem PySem.Spec PyProof.Rows
section
variable {X : Cx} {tg : Expr}
noncomputable def iList (K : PySem.W.Frag) (tl : TE) : TI := fun σ H R => tl σ H fun x H1 => ∃ a, x = .ref a ∧ (∃ xs, SqL K H1 a xs) ∧ R (Itl K a) H1
noncomputable def iTup (K : PySem.W.Frag) (tl : TE) : TI := fun σ H R => tl σ H fun x H1 => ∃ a, x = .ref a ∧ (∃ xs, SqT K H1 a xs) ∧ R (Itt K a) H1
theorem pi_list {l : Expr} {tl : TE} (hl : PE X l tl) : PI X tg l (iList X.K tl) := by
  intro pins s σ H R I h
  refine thn (hl pins s σ H _ I h) fun v s1 ⟨x, H1, I1, r1, q1⟩ => ?_
  obtain ⟨a, e, ⟨xs, hq⟩, q⟩ := q1
  subst e
  cases r1
  obtain ⟨its, rv, p, hz⟩ := I1.list hq
  refine wpAny_pyIter_list p.isList ?_
  refine ⟨s1.heap.objs.size, [s1.heap.objs.size], _, _, H1, rfl, I1.kept (t' := s1.toks) fun b o e => Heap.get?_push_of_some _ e, turn_list a _, ⟨_, Heap.get?_push_size _ rfl, rfl, rfl⟩, fun b hb => ?_, q⟩
  have e : b = s1.heap.objs.size := by simpa using hb
  subst e
  exact I1.fpOk (Nat.le_refl _) (I1.hok.fresh (Nat.le_refl _))
theorem pi_tup {l : Expr} {tl : TE} (hl : PE X l tl) : PI X tg l (iTup X.K tl) := by
  intro pins s σ H R I h
  refine thn (hl pins s σ H _ I h) fun v s1 ⟨x, H1, I1, r1, q1⟩ => ?_
  obtain ⟨a, e, ⟨xs, hq⟩, q⟩ := q1
  subst e
  cases r1
  obtain ⟨its, rv, p, hz⟩ := I1.tuple hq
  refine wpAny_pyIter_tuple (show s1.heap.IsTuple a its.toArray from p) ?_
  refine ⟨s1.heap.objs.size, [s1.heap.objs.size], _, _, H1, rfl, I1.kept (t' := s1.toks) fun b o e => Heap.get?_push_of_some _ e, turn_tuple a _, ⟨_, Heap.get?_push_size _ rfl, rfl, rfl⟩, fun b hb => ?_, q⟩
  have e : b = s1.heap.objs.size := by simpa using hb
  subst e
  exact I1.fpOk (Nat.le_refl _) (I1.hok.fresh (Nat.le_refl _))
theorem range_it {pins : List (Addr × Obj)} {σ : St} {H : Hp} {s : Shared} {R : It → Hp → Prop} {E : Value → Shared → Prop} {lo hi : Int} {t u v : Tok} {tk : Nat} (I : Inv X pins σ H s) (h1 : -(2 ^ 62) ≤ lo) (h2 : lo < 2 ^ 62) (h3 : -(2 ^ 62) ≤ hi) (h4 : hi < 2 ^ 62)
    (q : R (Itr lo (hi - lo).toNat) H) : wpAny (model X.prog X.w) X.A (pyIter (.ref s.heap.objs.size)) (PIE X pins σ tg R) E { s with heap := s.heap.push { cls := .type "range", data := .fields #[.int lo t, .int hi u, .int 1 v] }, toks := tk } := by
  refine wpAny_pyIter_range (IsRange.new ..) (small_one h1 h2 h3 h4) ?_
  have I1 : Inv X pins σ H { s with heap := s.heap.push { cls := .type "range", data := .fields #[.int lo t, .int hi u, .int 1 v] }, toks := tk } := I.kept fun b o e => Heap.get?_push_of_some _ e
  refine ⟨(s.heap.push { cls := .type "range", data := .fields #[.int lo t, .int hi u, .int 1 v] }).objs.size, [(s.heap.push { cls := .type "range", data := .fields #[.int lo t, .int hi u, .int 1 v] }).objs.size], _, _, H, rfl,
    I1.kept (t' := tk) fun b o e => Heap.get?_push_of_some _ e, turn_range _ lo (hi - lo).toNat, ?_, fun b hb => ?_, q⟩
  · have e1 : lo + ((0 : Nat) : Int) * 1 = lo := by simp
    have e2 : (((hi - lo).toNat : Nat) : Int) - ((0 : Nat) : Int) = Builtin.Range.rangeSize lo hi 1 := by rw [rangeSize_one]; split <;> omega
    show IsRangeIter _ _ (lo + ((0 : Nat) : Int) * 1) ((((hi - lo).toNat : Nat) : Int) - ((0 : Nat) : Int)) 1
    rw [e1, e2]
    exact Heap.get?_push_size _ rfl
  · have e : b = (s.heap.push { cls := .type "range", data := .fields #[.int lo t, .int hi u, .int 1 v] }).objs.size := by simpa using hb
    subst e
    exact I1.fpOk (Nat.le_refl _) (I1.hok.fresh (Nat.le_refl _))
noncomputable def iRng1 (ta : TA) : TI := fun σ H R => ta σ H fun vs H1 => ∃ j : Int, vs = [.int j] ∧ -(2 ^ 62) ≤ j ∧ j < 2 ^ 62 ∧ R (Itr 0 j.toNat) H1
noncomputable def iRng2 (ta : TA) : TI := fun σ H R => ta σ H fun vs H1 => ∃ i j : Int, vs = [.int i, .int j] ∧ (-(2 ^ 62) ≤ i ∧ i < 2 ^ 62 ∧ -(2 ^ 62) ≤ j ∧ j < 2 ^ 62) ∧ R (Itr i (j - i).toNat) H1
theorem pi_range1 {a : Expr} {ta : TA} {p pos : Pos} (hg : Gl X "range") (hm : X.mg "range" = none) (ha : PA X [a] ta) (hs : starEach [a] X.env = [(false, eval a X.env)] := by rfl) : PI X tg (.Call (.Name "range" p) [a] [] pos) (iRng1 ta) := by
  intro pins s σ H R I h
  refine Call_ (ld_blt I hg hm boot_range (PyProof.Rows.callWith_type1 (thn (ha pos pins s σ H _ I h) fun us s1 ⟨vs, H1, I1, r1, q1⟩ => ?_) hs rfl))
  obtain ⟨j, e, q1, q2, q⟩ := q1
  subst e
  cases r1 with
  | cons r rr =>
    cases rr
    obtain ⟨t, rfl⟩ := r
    exact call_range_1 (range_it I1 (by omega) (by omega) q1 q2 (by simpa using q))
theorem pi_range2 {a b : Expr} {ta : TA} {p pos : Pos} (hg : Gl X "range") (hm : X.mg "range" = none) (ha : PA X [a, b] ta) (hs : starEach [a, b] X.env = [(false, eval a X.env), (false, eval b X.env)] := by rfl) (hs2 : starEach [b] X.env = [(false, eval b X.env)] := by rfl) :
    PI X tg (.Call (.Name "range" p) [a, b] [] pos) (iRng2 ta) := by
  intro pins s σ H R I h
  refine Call_ (ld_blt I hg hm boot_range (PyProof.Rows.callWith_type1 (thn (ha pos pins s σ H _ I h) fun us s1 ⟨vs, H1, I1, r1, q1⟩ => ?_) (by rw [hs, hs2]) (by rw [hs2]; rfl)))
  obtain ⟨i, j, e, ⟨q1, q2, q3, q4⟩, q⟩ := q1
  subst e
  cases r1 with
  | cons r rr =>
    cases rr with
    | cons r' rr =>
      cases rr
      obtain ⟨t, rfl⟩ := r
      obtain ⟨t', rfl⟩ := r'
      exact call_range_2 (range_it I1 q1 q2 q3 q4 q)
noncomputable def tFor (wi : TI) (g : TG) (tb : TS) : TS := fun D σ H => wi σ H fun J H1 => ∃ W : Nat → Nat → St → Hp → Prop, (∃ m, W 0 m σ H1) ∧ ∀ i m σ H, W i m σ H →
  (J.stop i H ∧ D.nx σ H) ∨ (J.go i H ∧ ∃ N : St → Hp → Prop, (∀ σ' H', N σ' H' → ∃ m', m' < m ∧ W (i + 1) m' σ' H') ∧ ∀ x H', J.yld i H x H' → g x σ H' fun σ2 H2 => tb { D with nx := N, ct := N, bk := D.nx } σ2 H2)
noncomputable def pinsAt (fp : List Addr) (h : Heap) : List (Addr × Obj) := fp.filterMap fun b => (h.get? b).map fun o => (b, o)
theorem mem_pinsAt {fp : List Addr} {h : Heap} {b : Addr} {o : Obj} (hb : b ∈ fp) (e : h.get? b = some o) : (b, o) ∈ pinsAt fp h := List.mem_filterMap.mpr ⟨b, hb, by rw [e]; rfl⟩
theorem of_pinsAt {fp : List Addr} {h : Heap} {p : Addr × Obj} (hp : p ∈ pinsAt fp h) : p.1 ∈ fp ∧ h.get? p.1 = some p.2 := by
  obtain ⟨b, hb, e⟩ := List.mem_filterMap.mp hp
  cases q : h.get? b with
  | none => rw [q] at e; cases e
  | some o =>
    rw [q] at e
    have e' : (b, o) = p := Option.some.inj e
    subst e'
    exact ⟨hb, q⟩
theorem Inv.pinned {pins : List (Addr × Obj)} {σ : St} {H : Hp} {s : Shared} {fp : List Addr} (I : Inv X pins σ H s) (hf : ∀ b ∈ fp, FpOk X pins H b) (ho : ∀ b ∈ fp, ∃ o, s.heap.get? b = some o ∧ ∀ v, o.data ≠ .cell v) : Inv X (pins ++ pinsAt fp s.heap) σ H s :=
  I.pins_of fun p hp => (List.mem_append.mp hp).elim (fun z => I.pin p (List.mem_append_right _ z)) fun z => by
    obtain ⟨hb, e⟩ := of_pinsAt z
    obtain ⟨f0, f1, f2, _⟩ := hf p.1 hb
    obtain ⟨o, e', d⟩ := ho p.1 hb
    rw [e] at e'; cases e'
    exact ⟨e, f0, f1, f2, d⟩
theorem Inv.unpinned {pins pl : List (Addr × Obj)} {σ : St} {H : Hp} {s : Shared} (I : Inv X (pins ++ pl) σ H s) : Inv X pins σ H s := I.pins_of fun p hp => I.pin p (List.mem_append_right _ (List.mem_append_left _ hp))
theorem ps_for {iter : Expr} {body : List Stmt} {wi : TI} {g : TG} {tb : TS} {pos : Pos} (hp : PassesOwn (model X.prog X.w) X.A X.env X.xe) (hc : X.calm = true) (hi : PI X tg iter wi) (hg : PG X tg g) (hb : PSs X body tb)
    (hs : ∀ x, foldedSetIterable iter X.env x = pure x := by intro _; rfl) : PS X (.For tg iter body [] pos) (tFor wi g tb) := by
  intro pins s σ H D I h
  refine wpAny_For (thn (hi pins s σ H _ I h) fun v s1 h1 => thn h1 fun itv s2 h2 => ?_) hs
  obtain ⟨it, fp, tn, J, H2, e, I2, T, st2, f2, W, ⟨m0, w0⟩, turn⟩ := h2
  subst e
  -- what stays true of the iterator's objects through the loop
  have stat : ∀ {H' : Hp}, (∀ b ∈ fp, H' b = none) → ∀ b ∈ fp, FpOk X pins H' b := fun hn b hb => ⟨hn b hb, (f2 b hb).2⟩
  refine codeAny_forLoop_any (fun n s' => ∃ i σ' H', Inv X pins σ' H' s' ∧ tn i s'.heap ∧ (∀ b ∈ fp, H' b = none) ∧ W i n σ' H') ?_ m0 ⟨0, σ, H2, I2, st2, fun b hb => (f2 b hb).1, w0⟩
  rintro n s3 ⟨i, σ3, H3, I3, st3, fr3, w3⟩
  rcases turn i n σ3 H3 w3 with ⟨stop, qn⟩ | ⟨go, N, hN, step⟩
  · refine wpAny_passesOwn hp (thn (T.done X rfl rfl rfl hc i pins s3 σ3 H3 X.xe I3 (stat fr3) st3 stop) fun r s4 ⟨hr, I4⟩ => ?_)
    subst hr
    exact wpAny_execs_nil ⟨σ3, H3, I4, qn⟩
  · refine wpAny_passesOwn hp (thn (T.item X rfl rfl rfl hc i pins s3 σ3 H3 X.xe I3 (stat fr3) st3 go) fun r s4 ⟨u, hr, h4⟩ => ?_)
    subst hr
    refine wpAny_passesOwn hp (thn h4 fun _ s5 ⟨x, H5, I5, r5, y5, st5, fr5⟩ => ?_)
    have I5' := I5.pinned (stat fr5) (T.obj _ _ st5)
    refine wpAny_passesOwn hp (thn (hg _ s5 σ3 H5 x u _ I5' r5 (step x H5 y5)) fun _ s6 ⟨σ6, H6, I6, q6⟩ => ?_)
    refine wpAny_passesOwn hp (thn (hb _ s6 σ6 H6 _ I6 q6) fun f s7 q7 => ?_)
    have again : ∀ {σ7 : St} {H7 : Hp}, Inv X (pins ++ pinsAt fp s5.heap) σ7 H7 s7 → N σ7 H7 → ∃ m, m < n ∧ ∃ i σ' H', Inv X pins σ' H' s7 ∧ tn i s7.heap ∧ (∀ b ∈ fp, H' b = none) ∧ W i m σ' H' := fun {σ7 H7} I7 n7 => by
      obtain ⟨m', hm, w7⟩ := hN σ7 H7 n7
      refine ⟨m', hm, i + 1, σ7, H7, I7.unpinned, T.keep _ _ _ st5 fun b hb o e => (I7.pin (b, o) (List.mem_append_right _ (List.mem_append_right _ (mem_pinsAt hb e)))).1, fun b hb => ?_, w7⟩
      obtain ⟨o, e, d⟩ := T.obj _ _ st5 b hb
      exact (I7.pin (b, o) (List.mem_append_right _ (List.mem_append_right _ (mem_pinsAt hb e)))).2.1
    cases f with
    | next => obtain ⟨σ7, H7, I7, n7⟩ := q7; exact again I7 n7
    | cont => obtain ⟨σ7, H7, I7, n7⟩ := q7; exact again I7 n7
    | brk => obtain ⟨σ7, H7, I7, q7⟩ := q7; exact ⟨σ7, H7, I7.unpinned, q7⟩
    | ret v => obtain ⟨x7, σ7, H7, I7, r7, q7⟩ := q7; exact ⟨x7, σ7, H7, I7.unpinned, r7, q7⟩
end
end L2
namespace L2
open PySem PySem.Spec PyProof.Rows
noncomputable abbrev R2 := V → V → Hp → VK → Prop
noncomputable def OpR (X : Cx) (f : Value → Value → Sem Value) (r : R2) : Prop :=
  ∀ (pins : List (Addr × Obj)) (s : Shared) (σ : St) (H : Hp) (x y : V) (v u : Value) (Q : VK), Inv X pins σ H s → RelV x v → RelV y u → r x y H Q →
    wpAny (model X.prog X.w) X.A (f v u) (EP X pins σ Q) X.xe s
noncomputable def UnR (X : Cx) (f : Value → Sem Value) (r : V → Hp → VK → Prop) : Prop :=
  ∀ (pins : List (Addr × Obj)) (s : Shared) (σ : St) (H : Hp) (x : V) (v : Value) (Q : VK), Inv X pins σ H s → RelV x v → r x H Q →
    wpAny (model X.prog X.w) X.A (f v) (EP X pins σ Q) X.xe s
noncomputable def CallR (X : Cx) (f : Value) (r : List V → Hp → VK → Prop) : Prop :=
  ∀ (pins : List (Addr × Obj)) (s : Shared) (σ : St) (H : Hp) (xs : List V) (us : List Value) (Q : VK), Inv X pins σ H s → Vals xs us → r xs H Q →
    wpAny (model X.prog X.w) X.A (call f us) (EP X pins σ Q) X.xe s
noncomputable def tOp (r : R2) (ta tb : TE) : TE := fun σ H Q => ta σ H fun x H1 => tb σ H1 fun y H2 => r x y H2 Q
noncomputable def tUn (r : V → Hp → VK → Prop) (ta : TE) : TE := fun σ H Q => ta σ H fun x H1 => r x H1 Q
noncomputable def rI (C : Int → Int → Prop) (g : Int → Int → V) : R2 := fun x y H Q => ∃ i j, x = .int i ∧ y = .int j ∧ C i j ∧ Q (g i j) H
noncomputable def rI0 (g : Int → Int → V) : R2 := fun x y H Q => ∃ i j, x = .int i ∧ y = .int j ∧ Q (g i j) H
noncomputable def rU (g : Int → V) : V → Hp → VK → Prop := fun x H Q => ∃ i, x = .int i ∧ Q (g i) H
section
variable {X : Cx} {a b c : Expr} {ta tb tc : TE} {pos : Pos}
theorem binT (ha : PE X a ta) (hb : PE X b tb) {pins : List (Addr × Obj)} {s : Shared} {σ : St} {H : Hp} {R : V → V → Hp → Prop} (I : Inv X pins σ H s)
    (h : ta σ H fun x H1 => tb σ H1 fun y H2 => R x y H2) {Q : Value → Shared → Prop} {f : Value → Value → Sem Value}
    (hf : ∀ v u s2 x y H2, Inv X pins σ H2 s2 → RelV x v → RelV y u → R x y H2 → wpAny (model X.prog X.w) X.A (f v u) Q X.xe s2) :
    wpAny (model X.prog X.w) X.A (eval a X.env) (fun v s₁ => wpAny (model X.prog X.w) X.A (eval b X.env) (fun u s₂ => wpAny (model X.prog X.w) X.A (f v u) Q X.xe s₂) X.xe s₁) X.xe s := by
  refine thn (ha pins s σ H _ I h) fun v s1 ⟨x, H1, I1, r1, q1⟩ => ?_
  refine thn (hb pins s1 σ H1 _ I1 q1) fun u s2 ⟨y, H2, I2, r2, q2⟩ => ?_
  exact hf v u s2 x y H2 I2 r1 r2 q2
theorem pe_op {op : Operator} {r : R2} (ho : OpR X (binaryOp op) r) (ha : PE X a ta) (hb : PE X b tb) : PE X (.BinOp a op b pos) (tOp r ta tb) := by
  intro pins s σ H Q I h
  exact wpAny_BinOp (binT ha hb I h fun v u s2 x y H2 I2 rx ry q => ho pins s2 σ H2 x y v u Q I2 rx ry q)
theorem pe_un {op : UnaryOp} {r : V → Hp → VK → Prop} (ho : UnR X (unaryOp op) r) (ha : PE X a ta) : PE X (.UnaryOp op a pos) (tUn r ta) := by
  intro pins s σ H Q I h
  exact UnaryOp_ (thn (ha pins s σ H _ I h) fun v s1 ⟨x, H1, I1, r1, q1⟩ => ho pins s1 σ H1 x v Q I1 r1 q1)
theorem opI {f : Value → Value → Sem Value} {C : Int → Int → Prop} {g : Int → Int → Int}
    (rule : ∀ (i j : Int) (t u : Tok) (s : Shared) (Q : Value → Shared → Prop) (E : Value → Shared → Prop), C i j → Q (.int (g i j) s.toks) { s with toks := s.toks + 1 } → wpAny (model X.prog X.w) X.A (f (.int i t) (.int j u)) Q E s) :
    OpR X f (rI C fun i j => .int (g i j)) := by
  intro pins s σ H x y v u Q I rx ry h
  obtain ⟨i, j, rfl, rfl, hc, q⟩ := h
  obtain ⟨t, rfl⟩ := rx
  obtain ⟨t', rfl⟩ := ry
  exact rule i j t t' s _ _ hc ⟨.int (g i j), H, I.tok _, ⟨_, rfl⟩, q⟩
theorem opI0 {f : Value → Value → Sem Value} {g : Int → Int → Int}
    (rule : ∀ (i j : Int) (t u : Tok) (s : Shared) (Q : Value → Shared → Prop) (E : Value → Shared → Prop), Q (.int (g i j) s.toks) { s with toks := s.toks + 1 } → wpAny (model X.prog X.w) X.A (f (.int i t) (.int j u)) Q E s) :
    OpR X f (rI0 fun i j => .int (g i j)) := by
  intro pins s σ H x y v u Q I rx ry h
  obtain ⟨i, j, rfl, rfl, q⟩ := h
  obtain ⟨t, rfl⟩ := rx
  obtain ⟨t', rfl⟩ := ry
  exact rule i j t t' s _ _ ⟨.int (g i j), H, I.tok _, ⟨_, rfl⟩, q⟩
theorem opB0 {f : Value → Value → Sem Value} {g : Int → Int → Bool}
    (rule : ∀ (i j : Int) (t u : Tok) (s : Shared) (Q : Value → Shared → Prop) (E : Value → Shared → Prop), Q (.bool (g i j)) s → wpAny (model X.prog X.w) X.A (f (.int i t) (.int j u)) Q E s) :
    OpR X f (rI0 fun i j => .bl (g i j)) := by
  intro pins s σ H x y v u Q I rx ry h
  obtain ⟨i, j, rfl, rfl, q⟩ := h
  obtain ⟨t, rfl⟩ := rx
  obtain ⟨t', rfl⟩ := ry
  exact rule i j t t' s _ _ ⟨.bl (g i j), H, I, rfl, q⟩
noncomputable def CDiv (i j : Int) : Prop := 0 < j ∧ j < 1073741824
noncomputable def CPow (i j : Int) : Prop := 0 ≤ j ∧ j ≤ 1000000 ∧ i.natAbs < 2 ^ 64
noncomputable def CMul (i j : Int) : Prop := (-(2 ^ 64) < i ∧ i < 2 ^ 64) ∨ (-(2 ^ 64) < j ∧ j < 2 ^ 64)
theorem CMul.ok {i j : Int} (h : CMul i j) : IntMulOk i j := by
  rcases h with ⟨h1, h2⟩ | ⟨h1, h2⟩
  · exact .of_left (intBits_le_64 h1 h2)
  · exact .of_right (intBits_le_64 h1 h2)
theorem op_add : OpR X (binaryOp .Add) (rI0 fun i j => .int (i + j)) := opI0 fun _ _ _ _ _ _ _ q => add_int q
theorem op_sub : OpR X (binaryOp .Sub) (rI0 fun i j => .int (i - j)) := opI0 fun _ _ _ _ _ _ _ q => sub_int q
theorem op_mul : OpR X (binaryOp .Mult) (rI CMul fun i j => .int (i * j)) := opI fun _ _ _ _ _ _ _ hc q => mul_int q hc.ok
theorem op_fdiv : OpR X (binaryOp .FloorDiv) (rI CDiv fun i j => .int (i / j)) := opI fun i j _ _ _ _ _ hc q => by
  have h1 : (0 : Int) < j := hc.1
  have h2 : j < 1073741824 := hc.2
  exact floordiv_int (by omega) (by rw [Int.fdiv_eq_ediv_of_nonneg i (by omega)]; exact q) (.inl (PyProof.noPylong_small (by omega)))
theorem op_mod : OpR X (binaryOp .Mod) (rI (fun _ j => 0 < j) fun i j => .int (i % j)) := opI fun i j _ _ _ _ _ hc q => by
  have h1 : (0 : Int) < j := hc
  exact mod_int' (by omega) (by rw [Int.fmod_eq_emod_of_nonneg i (by omega)]; exact q)
theorem op_pow : OpR X (binaryOp .Pow) (rI CPow fun i j => .int (i ^ j.toNat)) := opI fun _ _ _ _ _ _ _ hc q => pow_int_small hc.1 hc.2.1 hc.2.2 q
theorem unI {f : Value → Sem Value} {g : Int → Int}
    (rule : ∀ (i : Int) (t : Tok) (s : Shared) (Q : Value → Shared → Prop) (E : Value → Shared → Prop), Q (.int (g i) s.toks) { s with toks := s.toks + 1 } → wpAny (model X.prog X.w) X.A (f (.int i t)) Q E s) :
    UnR X f (rU fun i => .int (g i)) := by
  intro pins s σ H x v Q I rx h
  obtain ⟨i, rfl, q⟩ := h
  obtain ⟨t, rfl⟩ := rx
  exact rule i t s _ _ ⟨.int (g i), H, I.tok _, ⟨_, rfl⟩, q⟩
theorem un_neg : UnR X (unaryOp .USub) (rU fun i => .int (-i)) := unI fun _ _ _ _ _ q => neg_int q
end
noncomputable def scal : V → V → Bool
  | .non, .non => true | .non, .int _ => true | .int _, .non => true | .non, .bl _ => true | .bl _, .non => true | .non, .str _ => true | .str _, .non => true
  | .int _, .int _ => true | .bl _, .bl _ => true | .str _, .str _ => true | .byt _, .byt _ => true
  | .int _, .str _ => true | .str _, .int _ => true | .bl _, .str _ => true | .str _, .bl _ => true
  | _, _ => false
noncomputable def rEq : R2 := fun x y H Q => scal x y = true ∧ Q (.bl (decide (x = y))) H
noncomputable def rNe : R2 := fun x y H Q => scal x y = true ∧ Q (.bl (!decide (x = y))) H
theorem dec_int {i j : Int} : decide (V.int i = V.int j) = (i == j) := by
  rw [Bool.eq_iff_iff]
  simp
theorem dec_bl {i j : Bool} : decide (V.bl i = V.bl j) = (i == j) := by
  rw [Bool.eq_iff_iff]
  simp
theorem dec_str {i j : Str} : decide (V.str i = V.str j) = (i == j) := by
  rw [Bool.eq_iff_iff]
  simp
theorem dec_byt {i j : Array UInt8} : decide (V.byt i = V.byt j) = (i.toList == j.toList) := by
  rw [Bool.eq_iff_iff]
  cases i
  cases j
  simp
section
variable {X : Cx} {a b c : Expr} {ta tb tc : TE} {pos : Pos}
theorem fin_bl {pins : List (Addr × Obj)} {σ : St} {H : Hp} {s : Shared} {Q : VK} {k k' : Bool} (I : Inv X pins σ H s) (q : Q (.bl k) H) (e : k = k') : EP X pins σ Q (.bool k') s := by
  subst e
  exact ⟨.bl k, H, I, rfl, q⟩
theorem op_eq : OpR X (compareOp .Eq) rEq := by
  intro pins s σ H x y v u Q I rx ry h
  obtain ⟨hs, q⟩ := h
  cases x with
  | non =>
    cases rx
    cases y with
    | non => cases ry; exact PySem.EqNone.eq_none_none (fin_bl I q (by simp))
    | bl j => cases ry; exact PySem.EqNone.eq_none_bool (fin_bl I q (by simp))
    | int j => obtain ⟨t', rfl⟩ := ry; exact PySem.EqNone.eq_none_int (fin_bl I q (by simp))
    | str j => obtain ⟨t', rfl⟩ := ry; exact PySem.EqNone.eq_none_str (fin_bl I q (by simp))
    | _ => exact absurd (show false = true from hs) Bool.false_ne_true
  | bl i =>
    cases rx
    cases y with
    | non => cases ry; exact PySem.EqNone.eq_bool_none (fin_bl I q (by simp))
    | bl j => cases ry; exact eq_bool (fin_bl I q dec_bl)
    | str j => obtain ⟨t', rfl⟩ := ry; exact PySem.EqMixed.eq_bool_str (fin_bl I q (by simp))
    | _ => exact absurd (show false = true from hs) Bool.false_ne_true
  | int i =>
    obtain ⟨t, rfl⟩ := rx
    cases y with
    | non => cases ry; exact PySem.EqNone.eq_int_none (fin_bl I q (by simp))
    | int j => obtain ⟨t', rfl⟩ := ry; exact eq_int (fin_bl I q dec_int)
    | str j => obtain ⟨t', rfl⟩ := ry; exact PySem.EqMixed.eq_int_str (fin_bl I q (by simp))
    | _ => exact absurd (show false = true from hs) Bool.false_ne_true
  | str i =>
    obtain ⟨t, rfl⟩ := rx
    cases y with
    | non => cases ry; exact PySem.EqNone.eq_str_none (fin_bl I q (by simp))
    | bl j => cases ry; exact PySem.EqMixed.eq_str_bool (fin_bl I q (by simp))
    | int j => obtain ⟨t', rfl⟩ := ry; exact PySem.EqMixed.eq_str_int (fin_bl I q (by simp))
    | str j => obtain ⟨t', rfl⟩ := ry; exact eq_str (fin_bl I q dec_str)
    | _ => exact absurd (show false = true from hs) Bool.false_ne_true
  | byt i =>
    obtain ⟨t, rfl⟩ := rx
    cases y with
    | byt j => obtain ⟨t', rfl⟩ := ry; exact PySem.W.eq_bytes (fin_bl I q dec_byt)
    | _ => exact absurd (show false = true from hs) Bool.false_ne_true
  | _ => cases y <;> exact absurd (show false = true from hs) Bool.false_ne_true
theorem op_ne : OpR X (compareOp .NotEq) rNe := by
  intro pins s σ H x y v u Q I rx ry h
  obtain ⟨hs, q⟩ := h
  cases x with
  | non =>
    cases rx
    cases y with
    | non => cases ry; exact PySem.EqNone.ne_none_none (fin_bl I q (by simp))
    | bl j => cases ry; exact PySem.EqNone.ne_none_bool (fin_bl I q (by simp))
    | int j => obtain ⟨t', rfl⟩ := ry; exact PySem.EqNone.ne_none_int (fin_bl I q (by simp))
    | str j => obtain ⟨t', rfl⟩ := ry; exact PySem.EqNone.ne_none_str (fin_bl I q (by simp))
    | _ => exact absurd (show false = true from hs) Bool.false_ne_true
  | bl i =>
    cases rx
    cases y with
    | non => cases ry; exact PySem.EqNone.ne_bool_none (fin_bl I q (by simp))
    | bl j => cases ry; exact ne_bool (fin_bl I q (congrArg not dec_bl))
    | str j => obtain ⟨t', rfl⟩ := ry; exact PySem.EqMixed.ne_bool_str (fin_bl I q (by simp))
    | _ => exact absurd (show false = true from hs) Bool.false_ne_true
  | int i =>
    obtain ⟨t, rfl⟩ := rx
    cases y with
    | non => cases ry; exact PySem.EqNone.ne_int_none (fin_bl I q (by simp))
    | int j => obtain ⟨t', rfl⟩ := ry; exact ne_int (fin_bl I q (congrArg not dec_int))
    | str j => obtain ⟨t', rfl⟩ := ry; exact PySem.EqMixed.ne_int_str (fin_bl I q (by simp))
    | _ => exact absurd (show false = true from hs) Bool.false_ne_true
  | str i =>
    obtain ⟨t, rfl⟩ := rx
    cases y with
    | non => cases ry; exact PySem.EqNone.ne_str_none (fin_bl I q (by simp))
    | bl j => cases ry; exact PySem.EqMixed.ne_str_bool (fin_bl I q (by simp))
    | int j => obtain ⟨t', rfl⟩ := ry; exact PySem.EqMixed.ne_str_int (fin_bl I q (by simp))
    | str j => obtain ⟨t', rfl⟩ := ry; exact ne_str (fin_bl I q (congrArg not dec_str))
    | _ => exact absurd (show false = true from hs) Bool.false_ne_true
  | byt i =>
    obtain ⟨t, rfl⟩ := rx
    cases y with
    | byt j => obtain ⟨t', rfl⟩ := ry; exact PySem.W.ne_bytes (fin_bl I q (congrArg not dec_byt))
    | _ => exact absurd (show false = true from hs) Bool.false_ne_true
  | _ => cases y <;> exact absurd (show false = true from hs) Bool.false_ne_true
theorem op_lt : OpR X (compareOp .Lt) (rI0 fun i j => .bl (decide (i < j))) := opB0 fun _ _ _ _ _ _ _ q => lt_int q
theorem op_gt : OpR X (compareOp .Gt) (rI0 fun i j => .bl (decide (j < i))) := opB0 fun _ _ _ _ _ _ _ q => gt_int q
theorem op_isN : OpR X (compareOp .Is) (fun x y H Q => y = .non ∧ Q (.bl (decide (x = .non))) H) := by
  intro pins s σ H x y v u Q I rx ry h
  obtain ⟨rfl, q⟩ := h
  cases ry
  refine is_none_gen (fin_bl I q ?_)
  cases x <;> first
    | (cases rx; rfl)
    | (obtain ⟨t, rfl⟩ := rx; rfl)
theorem OpR.or {f : Value → Value → Sem Value} {r r' : R2} (h : OpR X f r) (h' : OpR X f r') : OpR X f (fun x y H Q => r x y H Q ∨ r' x y H Q) := by
  intro pins s σ H x y v u Q I rx ry q
  rcases q with q | q
  · exact h pins s σ H x y v u Q I rx ry q
  · exact h' pins s σ H x y v u Q I rx ry q
theorem nomark (b : Expr) {op : CmpOp} (h : op ≠ .In := by decide) (h2 : op ≠ .NotIn := by decide) : behindInMarks op b = false := by
  have e1 : (op == CmpOp.In) = false := by cases op <;> first | rfl | exact absurd rfl h
  have e2 : (op == CmpOp.NotIn) = false := by cases op <;> first | rfl | exact absurd rfl h2
  cases b <;> simp [behindInMarks, e1, e2]
theorem pe_cmpR {op : CmpOp} {r : R2} (ho : OpR X (compareOp op) r) (ha : PE X a ta) (hb : PE X b tb) (hm : behindInMarks op b = false) : PE X (.Compare a [op] [b] pos) (tOp r ta tb) := by
  intro pins s σ H Q I h
  exact wpAny_Compare1 (binT ha hb I h fun v u s2 x y H2 I2 rx ry q => ho pins s2 σ H2 x y v u Q I2 rx ry q) hm
noncomputable def tTest (t : TE) : TT := fun σ H Q => t σ H fun x H' => ∃ k, x = .bl k ∧ Q k H'
theorem pt_cmpR {op : CmpOp} {r : R2} (ho : OpR X (compareOp op) r) (ha : PE X a ta) (hb : PE X b tb) (hm : behindInMarks op b = false) : PT X (.Compare a [op] [b] pos) (tTest (tOp r ta tb)) := by
  intro pins s σ H Q I h
  refine wpAny_isTrue_Compare1 (thn (ha pins s σ H _ I h) fun v s1 ⟨x, H1, I1, r1, q1⟩ => thn (hb pins s1 σ H1 _ I1 q1) fun u s2 ⟨y, H2, I2, r2, q2⟩ =>
    thn (ho pins s2 σ H2 x y v u _ I2 r1 r2 q2) fun c s3 ⟨z, H3, I3, r3, k, e, q3⟩ => ?_) hm
  subst e
  cases r3
  exact wpAny_truthy_bool ⟨H3, I3, q3⟩
theorem line63 : (sizeLine : Nat) < 2 ^ 63 := by rw [sizeLine_eq]; decide
theorem op_add_str : OpR X (binaryOp .Add) (fun x y H Q => ∃ i j, x = .str i ∧ y = .str j ∧ i.length + j.length ≤ sizeLine ∧ Q (.str (i ++ j)) H) := by
  intro pins s σ H x y v u Q I rx ry h
  obtain ⟨i, j, rfl, rfl, hz, q⟩ := h
  obtain ⟨t, rfl⟩ := rx
  obtain ⟨t', rfl⟩ := ry
  exact add_str (fun t' tk => ⟨.str (i ++ j), H, I.tok _, ⟨_, rfl⟩, q⟩) hz
theorem vals1 {x : V} {us : List Value} (r : Vals [x] us) : ∃ u, us = [u] ∧ RelV x u := by
  cases r with
  | cons r1 r2 => cases r2; exact ⟨_, rfl, r1⟩
theorem call_int1 : CallR X (.type "int") (fun xs H Q => (∃ i, xs = [.int i] ∧ Q (.int i) H) ∨ ∃ k, xs = [.bl k] ∧ Q (.int (if k then 1 else 0)) H) := by
  intro pins s σ H xs us Q I r h
  rcases h with ⟨i, rfl, q⟩ | ⟨k, rfl, q⟩
  · obtain ⟨u, rfl, t, rfl⟩ := vals1 r
    exact call_int_int ⟨.int i, H, I, ⟨_, rfl⟩, q⟩
  · obtain ⟨u, rfl, r1⟩ := vals1 r
    cases r1
    exact call_int_bool ⟨.int (if k then 1 else 0), H, I.tok _, ⟨_, rfl⟩, q⟩
theorem call_ord : CallR X (.builtin "ord") (fun xs H Q => ∃ x, xs = [.str x] ∧ x.length = 1 ∧ Q (.int (x.cps.getD 0 0 : Nat)) H) := by
  intro pins s σ H xs us Q I r h
  obtain ⟨x, rfl, hz, q⟩ := h
  obtain ⟨u, rfl, t, rfl⟩ := vals1 r
  exact ord_of_one hz ⟨.int _, H, I.tok _, ⟨_, rfl⟩, q⟩
end
end L2
namespace L2
open PySem PySem.Spec PyProof.Rows
section
variable {prog : Program} {w : World} {A : Around} {E : Value → Shared → Prop} {s : Shared} {K : PySem.W.Frag} {x dx C f : Addr} {mA : Str → Option Value} {name : Str} {v : Value}
end
theorem RelO.some_of {v : V} {o : Option Value} (r : RelO (some v) o) : ∃ u, o = some u ∧ RelV v u := by
  cases o with
  | none => exact (show False from r).elim
  | some u => exact ⟨u, rfl, r⟩
section
variable {P : Program} {w : World} {H H' : Hp} {h h' : Heap} {a C dx : Addr} {fs fs' : List (Str × V)}
end
section
variable {X : Cx} {pins : List (Addr × Obj)} {σ : St} {H : Hp} {s : Shared} {a C dx : Addr} {fs : List (Str × V)} {f : Str} {v : V} {A : Around} {E : Value → Shared → Prop}
end
section
variable {X : Cx} {o e value : Expr} {f : Str} {pos pos' tpos : Pos} {ta tv : TE}
end
section
variable {X : Cx} {pins : List (Addr × Obj)} {σ : St} {H : Hp} {s : Shared} {A : Around} {E : Value → Shared → Prop} {Q : Value → Shared → Prop} {c : Value} {b : Bool}
end
end L2
namespace L2
open PySem PySem.Spec PyProof.Rows
structure Room (k : Nat) (A : Around) : Prop where
  hd : A.handled = none
  dp : A.depth + 3 * k + 5 < recursionLimit
  un : A.units + 16 * k + 200 < cLine
theorem Room.mono {j k : Nat} {A : Around} (r : Room k A) (h : j ≤ k) : Room j A := ⟨r.hd, by have := r.dp; omega, by have := r.un; omega⟩
theorem Room.deeper {k : Nat} {A : Around} (r : Room (k + 1) A) (env : Env) : Room k (A.deeper env) :=
  ⟨r.hd, by have := r.dp; show A.depth + 1 + 3 * k + 5 < _; omega, by have := r.un; show A.units + 3 + 16 * k + 200 < _; omega⟩
theorem Room.depth {k : Nat} {A : Around} (r : Room k A) : A.depth < recursionLimit := by have := r.dp; omega
theorem Room.units {k : Nat} {A : Around} (r : Room k A) : A.units + 64 < cLine := by have := r.un; omega
noncomputable def tNil : TA := fun _ H Q => Q [] H
noncomputable def tCons (ta : TE) (tr : TA) : TA := fun σ H Q => ta σ H fun x H1 => tr σ H1 fun xs H2 => Q (x :: xs) H2
section
variable {X : Cx} {e : Expr} {es : List Expr} {te : TE} {t : TA} {pos : Pos}
theorem pa_nil : PA X [] tNil := fun _ _ _ _ H Q I h => Calls.spliced_nil ⟨[], H, I, .nil, h⟩
theorem pa_cons (ha : PE X e te) (hr : PA X es t) (hs : starEach (e :: es) X.env = (false, eval e X.env) :: starEach es X.env := by rfl) : PA X (e :: es) (tCons te t) := by
  intro pos pins s σ H Q I h
  rw [hs]
  show wpAny _ _ (spliced ((false, eval e X.env) :: backTo pos (starEach es X.env))) _ _ s
  refine Calls.spliced_cons (thn (ha pins s σ H _ I h) fun u s1 ⟨x, H1, I1, r1, q1⟩ => ?_)
  exact thn (hr pos pins s1 σ H1 _ I1 q1) fun us s2 ⟨xs, H2, I2, r2, q2⟩ => ⟨x :: xs, H2, I2, .cons r1 r2, q2⟩
noncomputable def tTup (t : TA) : TE := fun σ H Q => t σ H fun xs H1 => xs.length ≤ sizeLine ∧ ∀ p, H1 p = none → Q (.ref p) (upd H1 p (.tup xs))
noncomputable def tLst (t : TA) : TE := fun σ H Q => t σ H fun xs H1 => xs.length ≤ sizeLine ∧ ∀ p, H1 p = none → Q (.ref p) (upd H1 p (.lst xs))
theorem pe_tup {x1} (h : PA X es t) : PE X (.Tuple es x1 pos) (tTup t) := by
  intro pins s σ H Q I hq
  refine wpAny_Tuple_spliced (thn (h pos pins s σ H _ I hq) fun us s1 ⟨xs, H1, I1, r, z, q⟩ => ⟨by rw [← r.length]; exact z, ?_⟩)
  have hf : H1 s1.heap.objs.size = none := I1.hok.fresh (Nat.le_refl _)
  refine ⟨.ref s1.heap.objs.size, upd H1 s1.heap.objs.size (.tup xs), I1.laid (t' := s1.toks) (fun b u e => Heap.get?_push_of_some _ e) (Nat.le_refl _) ?_, rfl, q _ hf⟩
  exact ⟨z, us, r, ⟨_, Heap.get?_push_size _ rfl, rfl, _, rfl, rfl⟩⟩
theorem pe_lst (h : PA X es t) : PE X (.List es pos) (tLst t) := by
  intro pins s σ H Q I hq
  refine wpAny_List_spliced (thn (h pos pins s σ H _ I hq) fun us s1 ⟨xs, H1, I1, r, z, q⟩ => ⟨by rw [← r.length]; exact z, ?_⟩)
  have hf : H1 s1.heap.objs.size = none := I1.hok.fresh (Nat.le_refl _)
  refine ⟨.ref s1.heap.objs.size, upd H1 s1.heap.objs.size (.lst xs), I1.laid (t' := s1.toks) (fun b u e => Heap.get?_push_of_some _ e) (Nat.le_refl _) ?_, rfl, q _ hf⟩
  exact ⟨z, us, 0, r, Heap.get?_push_size _ rfl⟩
end
noncomputable abbrev Sp := List V → Hp → VK → XK → Prop
noncomputable abbrev CXT := List Env → Hp → Shared → XK → Value → Shared → Prop
structure Env0 (P : Program) (w : World) (K : PySem.W.Frag) (mg : Str → Option Value) (base : Heap) (A : Around) (outer : List Env) (s : Shared) (H : Hp) : Prop where
  frames : A.frames = some outer
  mod : Mod K mg base
  bs : ∀ b o, base.get? b = some o → s.heap.get? b = some o ∧ H b = none
  bsz : base.objs.size ≤ s.heap.objs.size
  funs : s.heap.FunFrames base outer
  frf : ∀ b ∈ frs outer, H b = none
  hok : HOk P w H s.heap
  bare : AllBare s.gens
noncomputable def CE (outer : List Env) (P : Program) (w : World) (H : Hp) (s : Shared) (Q : VK) (u : Value) (s' : Shared) : Prop :=
  ∃ v H', s'.os = s.os ∧ AllBare s'.gens ∧ Un (frs outer) [] H H' s.heap s'.heap ∧ HOk P w H' s'.heap ∧ RelV v u ∧ Q v H'
noncomputable def CR (CX : CXT) (outer : List Env) (P : Program) (w : World) (H : Hp) (s : Shared) (Q : VK) (E : XK) (r : Result) (s' : Shared) : Prop :=
  match r with
  | .ok (.ret u) => CE outer P w H s Q u s'
  | .ok _ => False
  | .error e => CX outer H s E e s'
structure FnOk (P : Program) (w : World) (K : PySem.W.Frag) (mg : Str → Option Value) (base : Heap) (CX : CXT) (k : Nat) (f : Addr) (fd : FuncData) (ps : List Str) (sp : Sp) : Prop where
  len : ∀ vs H Q E, sp vs H Q E → vs.length = ps.length
  run : ∀ (A : Around) (outer : List Env) (s : Shared) (H : Hp) (args : Args) (us : List Value) (vs : List V) (Q : VK) (E : XK), Room k A → Env0 P w K mg base A outer s H → BindsTo s fd args (ps.zip us) → Vals vs us → sp vs H Q E →
    codeAny (model P w) A (.call (.ref f) args) (CR CX outer P w H s Q E) s
section
variable {X : Cx} {pins : List (Addr × Obj)} {σ : St} {H : Hp} {s s' : Shared}
theorem Inv.env0 (I : Inv X pins σ H s) : Env0 X.prog X.w X.K X.mg X.base X.A X.stack s H :=
  ⟨I.ok.frames, I.ok.mod, I.bs, Nat.le_trans I.ok.bsz I.sz, I.stack, I.stkFree, I.hok, I.bare⟩
theorem Inv.after {Q : VK} {u : Value} (I : Inv X pins σ H s) (h : CE X.stack X.prog X.w H s Q u s') : EP X pins σ Q u s' := by
  obtain ⟨v, H', os, bare, un, hok, r, q⟩ := h
  obtain ⟨hh, g, d, t, os'⟩ := s'
  obtain rfl : os' = s.os := os
  exact ⟨v, H', I.call (h' := hh) (g' := g) (d' := d) (t' := t) (ch := []) un hok bare (fun b z => absurd z (by simp)), r, q⟩
end
noncomputable def tCall (sp : Sp) (dvs : List V) (E : XK) (t : TA) : TE := fun σ H Q => t σ H fun vs H1 => sp (vs ++ dvs) H1 Q E
noncomputable def Binds (K : PySem.W.Frag) (fd : FuncData) (ps : List Str) (ds : List Value) : Prop :=
  ∀ (s : Shared) (us : List Value), K.In s.heap → (us ++ ds).length = ps.length → BindsTo s fd ⟨us, []⟩ (ps.zip (us ++ ds))
theorem Binds.all {K : PySem.W.Frag} {fd : FuncData} {ps : List Str} (h : ∀ us : List Value, us.length = ps.length → bindArgs fd ⟨us, []⟩ = pure (ps.zip us)) : Binds K fd ps [] := fun s us _ hl => by
  rw [List.append_nil] at hl ⊢
  exact .of_eq (h us hl)
noncomputable def Passes (CX : CXT) (X : Cx) (E : XK) : Prop := ∀ (pins : List (Addr × Obj)) (σ : St) (H : Hp) (s : Shared) (e : Value) (s' : Shared), Inv X pins σ H s → CX X.stack H s E e s' → X.xe e s'
section
variable {X : Cx} {CX : CXT} {k : Nat} {f C : Addr} {fd : FuncData} {ps : List Str} {sp : Sp} {dvs : List V} {ds : List Value} {E : XK} {x m : Str} {p pos apos : Pos} {e o : Expr} {es : List Expr} {ta : TE} {t : TA}
theorem run_fn {pins : List (Addr × Obj)} {σ : St} {H : Hp} {s : Shared} {Q : VK} {us : List Value} {vs : List V} (F : FnOk X.prog X.w X.K X.mg X.base CX k f fd ps sp) (hr : Room k X.A) (hb : Binds X.K fd ps ds) (hd : Vals dvs ds) (hx : Passes CX X E)
    (I : Inv X pins σ H s) (r : Vals vs us) (h : sp (vs ++ dvs) H Q E) : wpAny (model X.prog X.w) X.A (call (.ref f) us) (EP X pins σ Q) X.xe s := by
  have r2 : Vals (vs ++ dvs) (us ++ ds) := r.append hd
  have hl : (us ++ ds).length = ps.length := by rw [← r2.length]; exact F.len _ _ _ _ h
  refine wpAny_call (codeAny_mono (F.run X.A X.stack s H ⟨us, []⟩ (us ++ ds) (vs ++ dvs) Q E hr I.env0 (hb s us I.kIn hl) r2 h) fun r s' hq => ?_)
  cases r with
  | error e => exact hx pins σ H s e s' I hq
  | ok fl =>
    cases fl with
    | ret u => exact I.after hq
    | next => exact False.elim hq
    | brk => exact False.elim hq
    | cont => exact False.elim hq
theorem pe_call (F : FnOk X.prog X.w X.K X.mg X.base CX k f fd ps sp) (hr : Room k X.A) (hg : Gl X x) (hm : X.mg x = some (.ref f)) (hk : PySem.W.keepIn X.K (.ref f) = true) (hb : Binds X.K fd ps ds) (hd : Vals dvs ds) (hx : Passes CX X E)
    (ha : PA X (e :: es) t) (hdb : (x == ("__debug__" : Str)) = false := by decide) (he : starEach (e :: es) X.env = (false, eval e X.env) :: starEach es X.env := by rfl) (hpl : (backTo pos (starEach es X.env)).any (·.1) = false := by rfl) :
    PE X (.Call (.Name x p) (e :: es) [] pos) (tCall sp dvs E t) := by
  intro pins s σ H Q I h
  refine wpAny_Call_Name_kw (ld_glob I hg hm ?_ hdb)
  refine PySem.W.callWith_K (h₀ := X.base) I.ok.mod.kin hk (thn (ha pos pins s σ H _ I h) fun us s1 ⟨vs, H1, I1, r, q⟩ => ⟨I1.kIn, ?_⟩) he hpl
  exact run_fn F hr hb hd hx I1 r q
end
section
variable {X : Cx} {CX : CXT} {k : Nat} {f C : Addr} {fd : FuncData} {ps ks : List Str} {sp : Sp} {E : XK} {x m : Str} {p pos apos kpos : Pos} {e o : Expr} {es : List Expr} {kws : List Keyword} {te ta : TE} {t tk : TA} {nm : Option Str}
variable {g : List Value → List Value → List Value} {gV : List V → List V → List V}
end
structure FnScope (N P : List Str) (sc : Scope) : Prop where
  kind : sc.kind = .function
  co : sc.isCoroutine = false
  gen : sc.isGenerator = false
  nd : N.Nodup
  pre : N.take P.length = P
  par : ∀ x ∈ P, sc.names.lookup x = some .local ∨ sc.names.lookup x = some .cell
  nofree : ∀ y ∈ sc.names, y.2 ≠ .free
theorem bindL_out {kindOf : Str → Option NameKind} {x : Str} : ∀ {binds : List (Str × Value)} {m : Str → Option Value}, (∀ v, (x, v) ∉ binds) → bindL kindOf binds m x = m x
  | [], _, _ => rfl
  | (n, v) :: r, m, h => by
    unfold bindL
    rw [bindL_out fun w hw => h w (List.mem_cons_of_mem _ hw)]
    split
    · have : x ≠ n := by rintro rfl; exact h v List.mem_cons_self
      simp [this]
    · rfl
theorem bindC_out {kindOf : Str → Option NameKind} {x : Str} : ∀ {binds : List (Str × Value)} {m : Str → Option Value}, (∀ v, (x, v) ∉ binds) → bindC kindOf binds m x = m x
  | [], _, _ => rfl
  | (n, v) :: r, m, h => by
    unfold bindC
    rw [bindC_out fun w hw => h w (List.mem_cons_of_mem _ hw)]
    split
    · rfl
    · have : x ≠ n := by rintro rfl; exact h v List.mem_cons_self
      simp [this]
theorem bindL_get {kindOf : Str → Option NameKind} {x : Str} {v : Value} : ∀ {P : List Str} {vs : List Value} {i : Nat} {m : Str → Option Value}, P.Nodup → P[i]? = some x → vs[i]? = some v → kindOf x = some .local →
    bindL kindOf (P.zip vs) m x = some v
  | [], _, _, _, _, h, _, _ => by simp at h
  | _ :: _, [], _, _, _, _, h, _ => by simp at h
  | p :: P, w :: vs, 0, m, nd, h1, h2, hk => by
    simp at h1 h2; subst h1; subst h2
    show bindL kindOf ((p, w) :: P.zip vs) m p = _
    unfold bindL
    rw [bindL_out fun v hv => (List.nodup_cons.mp nd).1 (List.of_mem_zip hv).1, if_pos hk]
    simp
  | p :: P, w :: vs, i + 1, m, nd, h1, h2, hk => by
    show bindL kindOf ((p, w) :: P.zip vs) m x = _
    unfold bindL
    exact bindL_get (i := i) (List.nodup_cons.mp nd).2 (by simpa using h1) (by simpa using h2) hk
theorem bindC_get {kindOf : Str → Option NameKind} {x : Str} {v : Value} : ∀ {P : List Str} {vs : List Value} {i : Nat} {m : Str → Option Value}, P.Nodup → P[i]? = some x → vs[i]? = some v → kindOf x ≠ some .local →
    bindC kindOf (P.zip vs) m x = some v
  | [], _, _, _, _, h, _, _ => by simp at h
  | _ :: _, [], _, _, _, _, h, _ => by simp at h
  | p :: P, w :: vs, 0, m, nd, h1, h2, hk => by
    simp at h1 h2; subst h1; subst h2
    show bindC kindOf ((p, w) :: P.zip vs) m p = _
    unfold bindC
    rw [bindC_out fun v hv => (List.nodup_cons.mp nd).1 (List.of_mem_zip hv).1, if_neg hk]
    simp
  | p :: P, w :: vs, i + 1, m, nd, h1, h2, hk => by
    show bindC kindOf ((p, w) :: P.zip vs) m x = _
    unfold bindC
    exact bindC_get (i := i) (List.nodup_cons.mp nd).2 (by simpa using h1) (by simpa using h2) hk
noncomputable def start (N : List Str) (vs : List V) : St := vs.map some ++ List.replicate (N.length - vs.length) none
noncomputable def cxOf (CX : CXT) (P : Program) (w : World) (K : PySem.W.Frag) (mg : Str → Option Value) (base : Heap) (N : List Str) (qual : Str) (scope : Scope) (f : Addr) (cd : Value) (A : Around) (outer : List Env) (s : Shared) (H : Hp) (E : XK) : Cx where
  prog := P
  w := w
  K := K
  mg := mg
  base := base
  A := A.deeper (envOfC qual scope s.heap.objs.size f cd)
  N := N
  s₀ := s
  H₀ := H
  env := envOfC qual scope s.heap.objs.size f cd
  outer := outer
  stack := envOfC qual scope s.heap.objs.size f cd :: outer
  ex := []
  calm := true
  fn := fun _ => true
  pn := []
  xe := fun e s' => wpAny (model P w) (A.deeper (envOfC qual scope s.heap.objs.size f cd)) (leaving (envOfC qual scope s.heap.objs.size f cd) e) (fun _ s'' => CX outer H s E e s'') (fun e' s'' => CX outer H s E e' s'') s'
theorem cell_has {sc : Scope} {n : Nat} {x : Str} (h : sc.names.lookup x = some .cell) : ∃ c, (cellsFrom n sc.names []).lookup x = some c := by
  have q := PySem.W.cellsFrom_some sc.names n [] (.inl h)
  exact Option.isSome_iff_exists.mp q
theorem inv_start {CX : CXT} {P : Program} {w : World} {K : PySem.W.Frag} {mg : Str → Option Value} {base : Heap} {N ps : List Str} {qual : Str} {scope : Scope} {f : Addr} {cd : Value} {A : Around} {outer : List Env} {s s1 : Shared} {H : Hp} {E : XK} {us : List Value} {vs : List V}
    (S : FnScope N ps scope) (hd : A.handled = none) (e0 : Env0 P w K mg base A outer s H) (hl : vs.length = ps.length) (r : Vals vs us)
    (x : InCallC s s.heap.objs.size (bindL (envOfC qual scope s.heap.objs.size f cd).kindOf (ps.zip us) fun _ => none) (cellsFrom (s.heap.objs.size + 1) scope.names []) (bindC (envOfC qual scope s.heap.objs.size f cd).kindOf (ps.zip us) fun _ => none) s1) :
    Inv (cxOf CX P w K mg base N qual scope f cd A outer s H E) [] (start N vs) H s1 := by
  have hpl : ps.length ≤ N.length := by have := congrArg List.length S.pre; rw [List.length_take] at this; omega
  obtain ⟨h1, tk, rfl, hk⟩ := x.done
  have noA : ∀ b : Addr, b ∉ (cxOf CX P w K mg base N qual scope f cd A outer s H E).ex := fun b z => absurd (show b ∈ ([] : List Addr) from z) (by simp)
  refine ⟨⟨e0.mod, S.kind, rfl, rfl, Nat.le_refl _, fun y z c h1 h2 => ?_, fun y hy => ?_, fun y c _ h => ?_, fun _ => hd, Around.frames_deeper e0.frames, .inr ⟨rfl, rfl⟩, fun b z => absurd z (noA b), e0.bs, e0.bsz, fun b _ _ => noA b, fun b z => absurd z (noA b), e0.funs, e0.frf⟩,
    rfl, e0.bare, Un.kept hk, ⟨_, x.toInCall.ns, fun i y v h1 h2 h3 => ?_⟩, fun y c h => ⟨_, x.cell y c h⟩, e0.hok.fresh (Nat.le_refl _), fun y c h => ?_, fun p hp => absurd (show p ∈ ([] : List (Addr × Obj)) from hp) (by simp), e0.hok.kept hk, ?_⟩
  · exact name_of_addr x.apart (PySem.mem_of_lookup h1) (PySem.mem_of_lookup h2)
  · have hy : scope.names.lookup y = some .cell ∨ scope.names.lookup y = some .free := hy
    rcases hy with hy | hy
    · exact cell_has hy
    · exact absurd rfl (S.nofree _ (PySem.mem_of_lookup hy))
  · exact Nat.le_of_lt (x.above y c (PySem.mem_of_lookup h))
  · have hi : i < vs.length := by
      unfold start at h2
      by_cases hi : i < vs.length
      · exact hi
      · rw [List.getElem?_append_right (by simpa using hi)] at h2
        rw [List.getElem?_replicate] at h2
        split at h2 <;> cases h2
    have ha : vs[i]? = some v := by
      unfold start at h2
      rw [List.getElem?_append_left (by simpa using hi), List.getElem?_map] at h2
      cases e : vs[i]? with
      | none => rw [e] at h2; cases h2
      | some a => rw [e] at h2; cases h2; rfl
    obtain ⟨u, hu, rv⟩ := r.get ha
    have hp : ps[i]? = some y := by
      rw [← S.pre, List.getElem?_take_of_lt (by omega)]; exact h1
    have ndP : ps.Nodup := by rw [← S.pre]; exact S.nd.sublist (List.take_sublist _ _)
    refine ⟨u, rv, ?_⟩
    rcases S.par y (List.mem_of_getElem? hp) with k | k
    · exact .inl ⟨k, bindL_get ndP hp hu k⟩
    · obtain ⟨c, e⟩ := cell_has (n := s.heap.objs.size + 1) k
      refine .inr ⟨.inl k, c, e, ?_⟩
      have q := x.cell y c e
      rw [bindC_get ndP hp hu (by show scope.names.lookup y ≠ _; rw [k]; decide)] at q
      exact q
  · exact e0.hok.fresh (Nat.le_of_lt (x.above y c (PySem.mem_of_lookup h)))
  · unfold start
    show _ = N.length
    rw [List.length_append, List.length_map, List.length_replicate]
    omega
theorem fn_of {CX : CXT} {P : Program} {w : World} {K : PySem.W.Frag} {mg : Str → Option Value} {base : Heap} {k : Nat} {f : Addr} {name qual : Str} {params : Arguments} {body : List Stmt} {scope : Scope} {dV kV doc pm cdv ct oc : Value} {an od : Option Addr}
    {osl : Array (Option Value)} {N ps : List Str} {sp : Sp} (lk : K.lookup f = some ⟨oc, od, .func (PySem.W.fnOf name qual params body scope dV kV doc pm an cdv ct), osl⟩) (hcd : PySem.W.codeIn K cdv qual = true) (S : FnScope N ps scope)
    (len : ∀ vs H Q E, sp vs H Q E → vs.length = ps.length)
    (hbody : ∀ (A : Around) (outer : List Env) (s : Shared) (H : Hp) (vs : List V) (Q : VK) (E : XK), Room k (A.deeper (envOfC qual scope s.heap.objs.size f cdv)) → sp vs H Q E →
      ∃ t, PSs (cxOf CX P w K mg base N qual scope f cdv A outer s H E) body t ∧ t { nx := fun _ H' => Q .non H', rt := Q } (start N vs) H) :
    FnOk P w K mg base CX (k + 1) f (PySem.W.fnOf name qual params body scope dV kV doc pm an cdv ct) ps sp := by
  refine ⟨len, fun A outer s H args us vs Q E hr e0 hb r hsp => ?_⟩
  have hl := len _ _ _ _ hsp
  have KX : K.In s.heap := e0.mod.kin.keeps fun b o e => (e0.bs b o e).1
  have lim : s.heap.NoLimit := e0.mod.nolimit.keeps fun b o e => (e0.bs b o e).1
  have hkind : ∀ y ∈ ps.zip us, scope.names.lookup y.1 = some .local ∨ (scope.names.lookup y.1 = some .cell ∧ ((cellsFrom (s.heap.objs.size + 1) scope.names []).lookup y.1).isSome = true) := fun ⟨n, v⟩ hy => by
    rcases S.par n (List.of_mem_zip hy).1 with q | q
    · exact .inl q
    · exact .inr ⟨q, PySem.W.cellsFrom_some _ _ _ (.inl q)⟩
  refine codeAny_call_function hr.depth (KX _ _ lk) rfl S.co S.gen rfl (PySem.W.codeRec_of KX hcd) (hb _ _ _ _ ?_)
  refine wpAny_newFunctionEnv_cells S.kind hkind fun env he s1 x => ?_
  subst he
  refine ⟨lim.keeps x.toInCall.keep, codeAny_func ?_⟩
  obtain ⟨t, ht, hq⟩ := hbody A outer s H vs Q E (hr.deeper _) hsp
  have I : Inv (cxOf CX P w K mg base N qual scope f cdv A outer s H E) [] (start N vs) H s1 := inv_start S hr.hd e0 hl r x
  refine wpAny_mono (ht [] s1 (start N vs) H _ I hq) (fun fl s' hs => ?_) fun e s' hs => hs
  have fin : ∀ {σ' : St} {H' : Hp} {v : V} {u : Value}, Inv (cxOf CX P w K mg base N qual scope f cdv A outer s H E) [] σ' H' s' → RelV v u → Q v H' → CE outer P w H s Q u s' :=
    fun {σ' H' v u} J rv q => ⟨v, H', J.os, J.bare, J.base, J.hok, rv, q⟩
  cases fl with
  | ret u =>
    obtain ⟨v, σ', H', J, rv, q⟩ := hs
    exact fin J rv q
  | next =>
    obtain ⟨σ', H', J, q⟩ := hs
    exact fin (v := V.non) (u := Value.none) J rfl q
  | brk =>
    obtain ⟨_, _, _, q⟩ := hs
    exact False.elim q
  | cont =>
    obtain ⟨_, _, _, q⟩ := hs
    exact False.elim q
end L2
namespace L2
open PySem PySem.Spec PyProof.Rows
section
variable {X : Cx} {x : Str} {p pos : Pos} {e : Expr} {es : List Expr} {t : TA} {id T : String} {r : List V → Hp → VK → Prop}
noncomputable def tCB (r : List V → Hp → VK → Prop) (t : TA) : TE := fun σ H Q => t σ H fun vs H1 => r vs H1 Q
theorem pe_callB (hc : CallR X (.builtin id) r) (hg : Gl X x) (hm : X.mg x = none) (hv : bootBuiltins x = some (.builtin id)) (ha : PA X (e :: es) t) (hn : x ≠ "__name__" := by decide) (hdb : (x == ("__debug__" : Str)) = false := by decide)
    (he : starEach (e :: es) X.env = (false, eval e X.env) :: starEach es X.env := by rfl) (hpl : (backTo pos (starEach es X.env)).any (·.1) = false := by rfl) : PE X (.Call (.Name x p) (e :: es) [] pos) (tCB r t) := by
  intro pins s σ H Q I h
  refine wpAny_Call_Name_kw (ld_blt I hg hm hv ?_ hn hdb)
  exact PyProof.Rows.callWith_builtin1 (thn (ha pos pins s σ H _ I h) fun us s1 ⟨vs, H1, I1, r1, q1⟩ => hc pins s1 σ H1 vs us Q I1 r1 q1) he hpl
theorem pe_callTy (hc : CallR X (.type T) r) (hg : Gl X x) (hm : X.mg x = none) (hv : bootBuiltins x = some (.type T)) (ha : PA X (e :: es) t) (hn : x ≠ "__name__" := by decide) (hdb : (x == ("__debug__" : Str)) = false := by decide)
    (he : starEach (e :: es) X.env = (false, eval e X.env) :: starEach es X.env := by rfl) (hpl : (backTo pos (starEach es X.env)).any (·.1) = false := by rfl) : PE X (.Call (.Name x p) (e :: es) [] pos) (tCB r t) := by
  intro pins s σ H Q I h
  refine wpAny_Call_Name_kw (ld_blt I hg hm hv ?_ hn hdb)
  exact PyProof.Rows.callWith_type1 (thn (ha pos pins s σ H _ I h) fun us s1 ⟨vs, H1, I1, r1, q1⟩ => hc pins s1 σ H1 vs us Q I1 r1 q1) he hpl
end
end L2
namespace HT
open PySem PyProof.Rows
section
open PySem.SeqAt
open PySem.AutoSeq1 (wpAny_loadPart')
open PySem.MeetsSeq PySem.MeetsSeq2 PySem.MeetsSeq3
end
section
variable {prog : Program} {w : World} {A : Around} {E : Value → Shared → Prop} {s : Shared}
theorem cat_tup {t b : Addr} {vs ws : List Value} {Q : Value → Shared → Prop} (ht : IsTup s.heap t vs.toArray) (hb : IsTup s.heap b ws.toArray) (hv : vs ≠ [])
    (h1 : ws = [] → Q (.ref t) s) (h2 : ws ≠ [] → Q (.ref s.heap.objs.size) { s with heap := s.heap.push { cls := .type "tuple", data := .seq (vs ++ ws).toArray } })
    (hsz : vs.length + ws.length ≤ sizeLine) : wpAny (model prog w) A (binaryOp .Add (.ref t) (.ref b)) Q E s := by
  obtain ⟨⟨cls, dd, data, sl⟩, ho, hc, n, hd⟩ := id ht
  obtain ⟨⟨cls2, dd2, data2, sl2⟩, ho2, hc2, n2, hd2⟩ := id hb
  simp only at hc hd hc2 hd2
  subst hc hd hc2 hd2
  have e : vs.toArray ++ ws.toArray = (vs ++ ws).toArray := by simp
  by_cases hw : ws = []
  · exact concat_meets ⟨_, ho, rfl⟩ ⟨_, ho2, rfl⟩ noFill_tuple_add seq_tuple_add PySem.F.slot_tuple_add PySem.F.entry_tuple_add (PySem.F.args_tuple_add_2 _ _)
      (tuple_addW1 t b vs.toArray ws.toArray n n2 dd dd2 sl sl2 (by simpa using hv) (by simp [hw])) ⟨ho, ho2, h1 hw⟩
  · refine concat_meets ⟨_, ho, rfl⟩ ⟨_, ho2, rfl⟩ noFill_tuple_add seq_tuple_add PySem.F.slot_tuple_add PySem.F.entry_tuple_add (PySem.F.args_tuple_add_2 _ _)
      (tuple_addW2 t b vs.toArray ws.toArray n n2 dd dd2 sl sl2 (by simpa using hv) (by simpa using hw) (by rw [List.size_toArray, List.size_toArray]; exact hsz)) ⟨ho, ho2, ?_⟩
    rw [e]
    exact h2 hw
noncomputable def sIx (n d : Nat) : Option Int → Nat
  | none => d
  | some v => if v < 0 then (v + (n : Int)).toNat else min v.toNat n
theorem sIx_le (n d : Nat) (hd : d ≤ n) (o : Option Int) : sIx n d o ≤ n := by
  cases o with
  | none => exact hd
  | some v =>
    show (if v < 0 then (v + (n : Int)).toNat else min v.toNat n) ≤ n
    by_cases hv : v < 0
    · rw [if_pos hv]; omega
    · rw [if_neg hv]; exact Nat.min_le_right _ _
theorem clip_eq (v : Int) (n d : Nat) : (if v < 0 then max (v + (n : Int)) 0 else min v (n : Int)) = ((sIx n d (some v) : Nat) : Int) := by
  show (if v < 0 then max (v + (n : Int)) 0 else min v (n : Int)) = (((if v < 0 then (v + (n : Int)).toNat else min v.toNat n) : Nat) : Int)
  by_cases hv : v < 0
  · simp only [if_pos hv]; omega
  · simp only [if_neg hv]; omega
theorem adjust_gen (lo hi : Option Int) (n : Nat) : Builtin.Slice.sliceAdjust lo hi 1 (n : Int) = (((sIx n 0 lo : Nat) : Int), ((sIx n n hi : Nat) : Int)) := by
  have h1 : ¬ ((1 : Int) < 0) := by omega
  unfold Builtin.Slice.sliceAdjust
  simp only [h1, if_false]
  refine Prod.ext ?_ ?_
  · cases lo with
    | none => rfl
    | some v => exact clip_eq v n 0
  · cases hi with
    | none => rfl
    | some v => exact clip_eq v n n
theorem places_gen (i j : Nat) : Builtin.Slice.slicePlaces (i : Int) (j : Int) 1 = j - i := by
  unfold Builtin.Slice.slicePlaces
  have h1 : (1 : Int) > 0 := by omega
  simp only [h1, if_true, Int.ediv_one]
  split <;> omega
theorem slicePart_ {v : Value} {o : Option Int} {Q : Option Int → Shared → Prop} (p : IsPart v o) (h : Q o s) : wpAny (model prog w) A (Builtin.Slice.slicePartIndex v) Q E s := by
  cases p with
  | none => exact slicePart_none h
  | int i t => exact slicePart_int h
theorem sliceApplied_gen {sl : Addr} {vl vu : Value} {lo hi : Option Int} {n : Nat} {Q : Int × Int × Nat → Shared → Prop} (hs : s.heap.IsSliceOf sl vl vu .none) (pl : IsPart vl lo) (pu : IsPart vu hi)
    (h : Q (((sIx n 0 lo : Nat) : Int), 1, sIx n n hi - sIx n 0 lo) s) : wpAny (model prog w) A (Builtin.Slice.sliceApplied (.ref sl) (pure (n : Int))) Q E s := by
  obtain ⟨os, hos, hcs, hds⟩ := id hs
  unfold Builtin.Slice.sliceApplied Builtin.Slice.sliceFields
  refine wpAny_bind (wpAny_bind (wpAny_field hos hds (x := vl) rfl (wpAny_bind (wpAny_field hos hds (x := vu) rfl (wpAny_bind (wpAny_field hos hds (x := .none) rfl (wpAny_pure ?_)))))))
  refine wpAny_bind (slicePart_none ?_)
  show wpAny _ _ (if ((1 : Int) == 0) = true then _ else _) _ _ s
  rw [if_neg (by decide)]
  refine wpAny_bind (slicePart_ pl (wpAny_bind (slicePart_ pu (wpAny_bind (wpAny_pure ?_)))))
  show wpAny _ _ (match Builtin.Slice.sliceAdjust lo hi 1 (n : Int) with | (lo, hi) => pure (lo, (1 : Int), Builtin.Slice.slicePlaces lo hi 1)) _ _ s
  rw [adjust_gen lo hi n]
  show wpAny _ _ (pure (((sIx n 0 lo : Nat) : Int), (1 : Int), Builtin.Slice.slicePlaces ((sIx n 0 lo : Nat) : Int) ((sIx n n hi : Nat) : Int) 1)) _ _ s
  rw [places_gen]
  exact wpAny_pure h
theorem pick_gen (xs : Array Value) (i k : Nat) : ((List.range k).filterMap fun (m : Nat) => xs[((i : Int) + (m : Int) * 1).toNat]?).toArray = ((xs.toList.drop i).take k).toArray := by
  have e : (fun (m : Nat) => xs[((i : Int) + (m : Int) * 1).toNat]?) = fun m => xs[i + m]? := by
    funext m
    have : ((i : Int) + (m : Int) * 1).toNat = i + m := by omega
    rw [this]
  rw [e]
  have := pick_run xs i k
  rw [List.filterMap_map] at this
  have e2 : ((fun x => xs[x]?) ∘ fun x => i + x) = fun m => xs[i + m]? := rfl
  rw [e2] at this
  rw [this]
theorem getItem_tuple_cut {t sl : Addr} {items : Array Value} {vl vu : Value} {lo hi : Option Int} {Q : Value → Shared → Prop} (ht : IsTup s.heap t items) (hs : s.heap.IsSliceOf sl vl vu .none) (pl : IsPart vl lo) (pu : IsPart vu hi)
    (hw : ¬ (sIx items.size 0 lo = 0 ∧ sIx items.size items.size hi = items.size))
    (h : Q (.ref s.heap.objs.size) { s with heap := s.heap.push { cls := .type "tuple", data := .seq ((items.toList.drop (sIx items.size 0 lo)).take (sIx items.size items.size hi - sIx items.size 0 lo)).toArray } })
    (hsz : items.size ≤ sizeLine) : wpAny (model prog w) A (getItem (.ref t) (.ref sl)) Q E s := by
  have htake : sizeOk (.seq ((items.toList.drop (sIx items.size 0 lo)).take (sIx items.size items.size hi - sIx items.size 0 lo)).toArray) := by
    show ((items.toList.drop (sIx items.size 0 lo)).take (sIx items.size items.size hi - sIx items.size 0 lo)).toArray.size ≤ sizeLine
    rw [List.size_toArray, List.length_take, List.length_drop, Array.length_toList]
    omega
  have hj : sIx items.size items.size hi ≤ items.size := sIx_le _ _ (Nat.le_refl _) hi
  obtain ⟨os, hos, hcs, hds⟩ := id hs
  have hTs : s.TypeIs (.ref sl) "slice" := ⟨os, hos, hcs⟩
  unfold getItem
  try with_reducible refine wpAny_holding ?_
  first | refine wpAny_bind (wpAny_pure ?_) | skip
  refine wpAny_bind (wpAny_sequenceKey ht.typeIs (by decide) ?_)
  refine wpAny_bind (wpAny_callSpecial?_slot (name := Str.ofString "__getitem__") ht.typeIs PyProof.Rows.slot_tuple_getitem
    (wpAny_call_entry PyProof.Rows.slot_tuple_getitem ht.typeIs entry_tuple_getitem ?_ (args_tuple_getitem _ _)))
  show wpAny _ _ (Builtin.Tuple.tupleItemsOf (.ref t) >>= _) _ _ s
  refine wpAny_bind (tupleItemsOf_ ht ?_)
  refine wpAny_bind (wpAny_typeOf hTs ?_)
  rw [if_pos (by decide)]
  refine wpAny_bind (sliceApplied_gen hs pl pu ?_)
  have hno : ¬ ((((sIx items.size 0 lo : Nat) : Int) == 0 && (1 : Int) == 1 && (sIx items.size items.size hi - sIx items.size 0 lo) == items.size) = true) := by
    intro q
    rw [Bool.and_eq_true, Bool.and_eq_true] at q
    have q1 : ((sIx items.size 0 lo : Nat) : Int) = 0 := eq_of_beq q.1.1
    have q2 : sIx items.size items.size hi - sIx items.size 0 lo = items.size := eq_of_beq q.2
    exact hw ⟨by omega, by omega⟩
  show wpAny _ _ (if (((sIx items.size 0 lo : Nat) : Int) == 0 && (1 : Int) == 1 && (sIx items.size items.size hi - sIx items.size 0 lo) == items.size) = true then _ else _) _ _ s
  rw [if_neg hno, pick_gen]
  first
    | exact wpAny_bind (m := Builtin.Tuple.tupleExact _) (wpAny_newObj_type (wpAny_pure ⟨_, rfl, wpAny_pure h⟩) htake)
    | exact wpAny_bind (m := Builtin.Tuple.tupleExact _) (wpAny_newObj_type (wpAny_bind (wpAny_pure (wpAny_pure ⟨_, rfl, wpAny_pure h⟩))) htake)
    | exact wpAny_bind (wpAny_bind (m := Builtin.Tuple.tupleExact _) (wpAny_newObj_type (wpAny_pure (wpAny_pure ⟨_, rfl, wpAny_pure h⟩)) htake))
    | exact wpAny_bind (wpAny_bind (m := Builtin.Tuple.tupleExact _) (wpAny_newObj_type (wpAny_pure ⟨_, rfl, wpAny_pure h⟩) htake))
end
end HT
namespace L2
open PySem PySem.Spec PyProof.Rows
noncomputable abbrev TO := St → Hp → (Option Int → Hp → Prop) → Prop
noncomputable def PO (X : Cx) (e : Option Expr) (t : TO) : Prop :=
  ∀ (pins : List (Addr × Obj)) (s : Shared) (σ : St) (H : Hp) (Q : Option Int → Hp → Prop), Inv X pins σ H s → t σ H Q →
    wpAny (model X.prog X.w) X.A (evalPart e X.env) (fun u s' => ∃ o H', Inv X pins σ H' s' ∧ IsPart u o ∧ Q o H') X.xe s
noncomputable def tNoPart : TO := fun _ H Q => Q none H
noncomputable def tPart (t : TE) : TO := fun σ H Q => t σ H fun x H1 => ∃ i, x = .int i ∧ Q (some i) H1
section
variable {X : Cx} {e : Expr} {te : TE} {lo hi : Option Expr} {tl th : TO} {pos p2 : Pos}
theorem po_none : PO X none tNoPart := by
  intro pins s σ H Q I h
  rw [evalPart_none]
  exact wpAny_pure ⟨none, H, I, .none, h⟩
theorem po_some (h : PE X e te) : PO X (some e) (tPart te) := by
  intro pins s σ H Q I hw
  rw [evalPart_some]
  refine thn (h pins s σ H _ I hw) fun u s1 ⟨x, H1, I1, r1, q1⟩ => ?_
  obtain ⟨i, rfl, q⟩ := q1
  obtain ⟨t, rfl⟩ := r1
  exact ⟨some i, H1, I1, .int i t, q⟩
noncomputable def SlR (X : Cx) (r : V → Option Int → Option Int → Hp → VK → Prop) : Prop :=
  ∀ (pins : List (Addr × Obj)) (s : Shared) (σ : St) (H : Hp) (x : V) (v vl vu : Value) (lo hi : Option Int) (sl : Addr) (Q : VK), Inv X pins σ H s → RelV x v → s.heap.IsSliceOf sl vl vu .none → IsPart vl lo → IsPart vu hi → r x lo hi H Q →
    ∃ T id, typeLookup (.type T) "__getitem__" = pure (some (.builtin id)) ∧ s.TypeIs v T ∧ wpAny (model X.prog X.w) X.A (getItem v (.ref sl)) (EP X pins σ Q) X.xe s
theorem SlR.or {r r' : V → Option Int → Option Int → Hp → VK → Prop} (h : SlR X r) (h' : SlR X r') : SlR X (fun x lo hi H Q => r x lo hi H Q ∨ r' x lo hi H Q) := by
  intro pins s σ H x v vl vu lo hi sl Q I rx hs pl pu q
  rcases q with q | q
  · exact h pins s σ H x v vl vu lo hi sl Q I rx hs pl pu q
  · exact h' pins s σ H x v vl vu lo hi sl Q I rx hs pl pu q
noncomputable def tSl (r : V → Option Int → Option Int → Hp → VK → Prop) (te : TE) (tl th : TO) : TE := fun σ H Q => te σ H fun x H1 => tl σ H1 fun l H2 => th σ H2 fun u H3 => r x l u H3 Q
theorem pe_slice {r : V → Option Int → Option Int → Hp → VK → Prop} (hr : SlR X r) (he : PE X e te) (hl : PO X lo tl) (hu : PO X hi th) : PE X (.Subscript e (.Slice lo hi none p2) pos) (tSl r te tl th) := by
  intro pins s σ H Q I h
  refine Subscript_ (thn (he pins s σ H _ I h) fun v s1 ⟨x, H1, I1, r1, q1⟩ => ?_)
  refine wpAny_Slice (thn (hl pins s1 σ H1 _ I1 q1) fun vl s2 ⟨l, H2, I2, pl, q2⟩ => thn (hu pins s2 σ H2 _ I2 q2) fun vu s3 ⟨u, H3, I3, pu, q3⟩ => ?_)
  rw [evalPart_none]
  refine wpAny_pure ?_
  have I4 : Inv X pins σ H3 { s3 with heap := s3.heap.push { cls := .type "slice", data := .fields #[vl, vu, .none] } } := I3.kept (t' := s3.toks) fun b ob q => Heap.get?_push_of_some _ q
  obtain ⟨T, id, hT, ht, hg⟩ := hr pins { s3 with heap := s3.heap.push { cls := .type "slice", data := .fields #[vl, vu, .none] } } σ H3 x v vl vu l u s3.heap.objs.size Q I4 r1 (Heap.IsSliceOf.new ..) pl pu q3
  show wpAny (model X.prog X.w) X.A (subscriptTail e (.Slice lo hi none p2) v (.ref s3.heap.objs.size)) (EP X pins σ Q) X.xe { s3 with heap := s3.heap.push { cls := .type "slice", data := .fields #[vl, vu, .none] } }
  exact tail_any (ops := [.ref s3.heap.objs.size, v]) ht hT hg (by with_unfolding_all rfl)
noncomputable def cutV (xs : List V) (lo hi : Option Int) : List V := (xs.drop (HT.sIx xs.length 0 lo)).take (HT.sIx xs.length xs.length hi - HT.sIx xs.length 0 lo)
theorem cutV_length (xs : List V) (lo hi : Option Int) : (cutV xs lo hi).length ≤ xs.length := by
  unfold cutV
  rw [List.length_take, List.length_drop]
  omega
noncomputable def rSlT (K : PySem.W.Frag) : V → Option Int → Option Int → Hp → VK → Prop := fun x lo hi H Q => ∃ a xs, x = .ref a ∧ SqT K H a xs ∧
  ¬ (HT.sIx xs.length 0 lo = 0 ∧ HT.sIx xs.length xs.length hi = xs.length) ∧ ∀ p, H p = none → Q (.ref p) (upd H p (.tup (cutV xs lo hi)))
theorem sl_tup : SlR X (rSlT X.K) := by
  intro pins s σ H x v vl vu lo hi sl Q I rx hs pl pu h
  obtain ⟨a, xs, rfl, hx, hw, q⟩ := h
  cases rx
  obtain ⟨its, r, ht, hz⟩ := I.tuple hx
  have hlen : its.toArray.size = xs.length := by rw [List.size_toArray]; exact r.length.symm
  refine ⟨"tuple", _, PyProof.Rows.slot_tuple_getitem.lookup, ht.typeIs, ?_⟩
  refine HT.getItem_tuple_cut ht hs pl pu (by rw [hlen]; exact hw) ?_ (by rw [hlen]; exact hz)
  rw [hlen]
  refine ⟨.ref s.heap.objs.size, _, I.laid (t' := s.toks) (o := .tup (cutV xs lo hi)) (fun b ob q => Heap.get?_push_of_some _ q) (Nat.le_refl _) ?_, rfl, q _ (I.hok.fresh (Nat.le_refl _))⟩
  exact ⟨Nat.le_trans (cutV_length xs lo hi) hz, _, (r.drop (HT.sIx xs.length 0 lo)).take (HT.sIx xs.length xs.length hi - HT.sIx xs.length 0 lo), IsTupN.new _ _⟩
noncomputable def rCatT (K : PySem.W.Frag) : R2 := fun x y H Q => ∃ a b xs ys, x = .ref a ∧ y = .ref b ∧ SqT K H a xs ∧ SqT K H b ys ∧ xs ≠ [] ∧ xs.length + ys.length ≤ sizeLine ∧
  (ys = [] → Q (.ref a) H) ∧ (ys ≠ [] → ∀ p, H p = none → Q (.ref p) (upd H p (.tup (xs ++ ys))))
theorem Vals.nil_iff {xs : List V} {us : List Value} (r : Vals xs us) : us = [] ↔ xs = [] := by
  cases r with
  | nil => simp
  | cons _ _ => simp
theorem op_catT : OpR X (binaryOp .Add) (rCatT X.K) := by
  intro pins s σ H x y v u Q I rx ry h
  obtain ⟨a, b, xs, ys, rfl, rfl, ha, hb, hx, hz, q1, q2⟩ := h
  cases rx
  cases ry
  obtain ⟨its, r1, p1, _⟩ := I.tuple ha
  obtain ⟨its2, r2, p2, _⟩ := I.tuple hb
  refine HT.cat_tup p1 p2 (fun z => hx (r1.nil_iff.mp z)) (fun z => ⟨.ref a, H, I, rfl, q1 (r2.nil_iff.mp z)⟩) (fun z => ?_) (by rw [← r1.length, ← r2.length]; exact hz)
  refine ⟨.ref s.heap.objs.size, _, I.laid (t' := s.toks) (o := .tup (xs ++ ys)) (fun b ob q => Heap.get?_push_of_some _ q) (Nat.le_refl _) ?_, rfl, q2 (fun w => z (r2.nil_iff.mpr w)) _ (I.hok.fresh (Nat.le_refl _))⟩
  exact ⟨by rw [List.length_append]; exact hz, _, r1.append r2, IsTupN.new _ _⟩
end
end L2
namespace L2
open PySem PySem.Spec PyProof.Rows
noncomputable def ixN (n : Nat) (i : Int) : Option Nat := if 0 ≤ i then (if i < n then some i.toNat else none) else if -(n : Int) ≤ i then some (i + n).toNat else none
noncomputable def atI {α : Type} (xs : List α) (i : Int) : Option α := (ixN xs.length i).bind fun j => xs[j]?
theorem ixN_seq {n : Nat} {i : Int} {j : Nat} (h : ixN n i = some j) : seqIndex? i n = some j ∧ j < n ∧ -(n : Int) ≤ i ∧ i < n := by
  unfold ixN at h
  by_cases h0 : 0 ≤ i
  · rw [if_pos h0] at h
    by_cases h1 : i < n
    · rw [if_pos h1] at h
      have e : i.toNat = j := Option.some.inj h
      exact ⟨by rw [seqIndex_of h0 h1, e], by omega, by omega, h1⟩
    · rw [if_neg h1] at h; cases h
  · rw [if_neg h0] at h
    by_cases h1 : -(n : Int) ≤ i
    · rw [if_pos h1] at h
      have e : (i + n).toNat = j := Option.some.inj h
      exact ⟨by rw [seqIndex_neg (by omega) h1, e], by omega, h1, by omega⟩
    · rw [if_neg h1] at h; cases h
theorem atI_get {α : Type} {xs : List α} {i : Int} {v : α} (h : atI xs i = some v) : ∃ j, seqIndex? i xs.length = some j ∧ xs[j]? = some v ∧ j < xs.length ∧ -(xs.length : Int) ≤ i ∧ i < xs.length := by
  unfold atI at h
  cases e : ixN xs.length i with
  | none => rw [e] at h; cases h
  | some j =>
    rw [e] at h
    obtain ⟨h1, h2, h3, h4⟩ := ixN_seq e
    exact ⟨j, h1, h, h2, h3, h4⟩
noncomputable def PlainIx (b : Expr) : Prop := ∀ o i, subscripted b false o i = operate [o, i] (getItem o i)
noncomputable def IxR (X : Cx) (r : R2) : Prop :=
  ∀ (value slice : Expr) (pins : List (Addr × Obj)) (s : Shared) (σ : St) (H : Hp) (x y : V) (v u : Value) (Q : VK), Inv X pins σ H s → RelV x v → RelV y u → r x y H Q →
    subscripted slice false v u = operate [v, u] (getItem v u) → wpAny (model X.prog X.w) X.A (subscriptTail value slice v u) (EP X pins σ Q) X.xe s
noncomputable def MtR (X : Cx) (id : String) (r : V → List V → Hp → VK → Prop) : Prop :=
  ∀ (pins : List (Addr × Obj)) (s : Shared) (σ : St) (H : Hp) (x : V) (xs : List V) (v : Value) (us : List Value) (Q : VK), Inv X pins σ H s → RelV x v → Vals xs us → r x xs H Q →
    wpAny (model X.prog X.w) X.A (call (.builtin id) (v :: us)) (EP X pins σ Q) X.xe s
section
variable {X : Cx} {a b : Expr} {ta tb : TE} {pos : Pos}
theorem IxR.or {r r' : R2} (h : IxR X r) (h' : IxR X r') : IxR X (fun x y H Q => r x y H Q ∨ r' x y H Q) := by
  intro value slice pins s σ H x y v u Q I rx ry q hs
  rcases q with q | q
  · exact h value slice pins s σ H x y v u Q I rx ry q hs
  · exact h' value slice pins s σ H x y v u Q I rx ry q hs
theorem pe_ix {r : R2} (hr : IxR X r) (ha : PE X a ta) (hb : PE X b tb) (hs : PlainIx b) : PE X (.Subscript a b pos) (tOp r ta tb) := by
  intro pins s σ H Q I h
  exact Subscript_ (binT ha hb I h fun v u s2 x y H2 I2 rx ry q => hr a b pins s2 σ H2 x y v u Q I2 rx ry q (hs _ _))
noncomputable def rIxL (K : PySem.W.Frag) : R2 := fun x y H Q => ∃ p xs i v, x = .ref p ∧ y = .int i ∧ SqL K H p xs ∧ atI xs i = some v ∧ Q v H
noncomputable def rIxT (K : PySem.W.Frag) : R2 := fun x y H Q => ∃ p xs i v, x = .ref p ∧ y = .int i ∧ SqT K H p xs ∧ atI xs i = some v ∧ Q v H
noncomputable def rIxS : R2 := fun x y H Q => ∃ z i c, x = .str z ∧ y = .int i ∧ z.length ≤ sizeLine ∧ atI z.cps.toList i = some c ∧ Q (.str ⟨#[c]⟩) H
theorem ix_list : IxR X (rIxL X.K) := by
  intro value slice pins s σ H x y v u Q I rx ry h hs
  obtain ⟨p, xs, i, z, rfl, rfl, hq, he, q⟩ := h
  cases rx
  obtain ⟨t, rfl⟩ := ry
  obtain ⟨its, r, pl, hz⟩ := I.list hq
  obtain ⟨j, h1, h2, h3, h4, h5⟩ := atI_get he
  obtain ⟨w, ew, rw'⟩ := r.get h2
  have hl := r.length
  have hn := line63
  have fin : EP X pins σ Q w s := ⟨z, H, I, rw', q⟩
  by_cases h0 : 0 ≤ i
  · have hj : i.toNat = j := by
      rw [seqIndex_of h0 h5] at h1
      exact Option.some.inj h1
    exact item_listR pl.isList h0 (by omega) (by rw [hj]; simpa using ew) fin hs
  · have hj : (i + (its.toArray.size : Int)).toNat = j := by
      rw [seqIndex_neg (by omega) h4] at h1
      rw [List.size_toArray, ← hl]
      exact Option.some.inj h1
    exact subscriptTail_builtinR (x := w) pl.isList.typeIs slot_list_getitem.lookup
      (wpAny_getItem_list_neg (Q := fun r s' => r = w ∧ EP X pins σ Q r s') pl.isList (by omega) (by rw [List.size_toArray] <;> omega) (by omega) (by rw [hj]; simpa using ew) ⟨rfl, fin⟩) hs
theorem ix_tup : IxR X (rIxT X.K) := by
  intro value slice pins s σ H x y v u Q I rx ry h hs
  obtain ⟨p, xs, i, z, rfl, rfl, hq, he, q⟩ := h
  cases rx
  obtain ⟨t, rfl⟩ := ry
  obtain ⟨its, r, pl, hz⟩ := I.tuple hq
  obtain ⟨j, h1, h2, h3, h4, h5⟩ := atI_get he
  obtain ⟨w, ew, rw'⟩ := r.get h2
  have hl := r.length
  have hn := line63
  have fin : EP X pins σ Q w s := ⟨z, H, I, rw', q⟩
  exact subscriptTail_builtinR (x := w) pl.typeIs slot_tuple_getitem.lookup
    (getItem_tuple (j := j) (Q := fun r s' => r = w ∧ EP X pins σ Q r s') pl (by omega) (by omega) (by rw [List.size_toArray, ← hl]; exact h1) (by simpa using ew) ⟨rfl, fin⟩) hs
theorem ix_str : IxR X rIxS := by
  intro value slice pins s σ H x y v u Q I rx ry h hs
  obtain ⟨z, i, c, rfl, rfl, hz, he, q⟩ := h
  obtain ⟨t, rfl⟩ := rx
  obtain ⟨t', rfl⟩ := ry
  obtain ⟨j, h1, h2, h3, h4, h5⟩ := atI_get he
  have hl : z.cps.toList.length = z.length := by simp [Str.length]
  rw [hl] at h1 h4 h5
  have hn := line63
  exact tail_any (typeIs_str s z t) slot_str_getitem.lookup (getItem_str (c := c) (by
    have e1 : decide (i < -(2 ^ 63 : Int)) = false := decide_eq_false (by omega)
    have e2 : decide (i ≥ 2 ^ 63) = false := decide_eq_false (by omega)
    rw [e1, e2, Bool.or_false]) (by rw [h1]; simpa using h2) ⟨.str ⟨#[c]⟩, H, I.tok _, ⟨_, rfl⟩, q⟩) hs
noncomputable def rIx (K : PySem.W.Frag) : R2 := fun x y H Q => rIxL K x y H Q ∨ rIxT K x y H Q ∨ rIxS x y H Q
theorem ix_seq : IxR X (rIx X.K) := ix_list.or (ix_tup.or ix_str)
theorem slice_bounds (lo hi : Option Int) (n : Nat) : (sliceBounds lo hi none n).1 = ((HT.sIx n 0 lo : Nat) : Int) ∧ (sliceBounds lo hi none n).2.1 = ((HT.sIx n n hi : Nat) : Int) ∧ (sliceBounds lo hi none n).2.2 = 1 := by
  refine ⟨?_, ?_, rfl⟩
  · cases lo with
    | none => simp [sliceBounds, HT.sIx]
    | some i =>
      simp only [sliceBounds, HT.sIx, Option.getD_none, show (1 : Int) > 0 by decide, if_true]
      by_cases h : i < 0
      · simp only [h, if_true] <;> omega
      · simp only [h, if_false] <;> omega
  · cases hi with
    | none => simp [sliceBounds, HT.sIx]
    | some i =>
      simp only [sliceBounds, HT.sIx, Option.getD_none, show (1 : Int) > 0 by decide, if_true]
      by_cases h : i < 0
      · simp only [h, if_true] <;> omega
      · simp only [h, if_false] <;> omega
theorem slicePick_cut (its : List Value) (lo hi : Option Int) : slicePick its.toArray lo hi none = ((its.drop (HT.sIx its.length 0 lo)).take (HT.sIx its.length its.length hi - HT.sIx its.length 0 lo)).toArray := by
  obtain ⟨h1, h2, h3⟩ := slice_bounds lo hi its.toArray.size
  unfold slicePick
  rw [h1, h2, h3]
  simp only [sliceRange_one, pick_run, List.size_toArray] <;> rfl
noncomputable def rSlL (K : PySem.W.Frag) : V → Option Int → Option Int → Hp → VK → Prop := fun x lo hi H Q => ∃ a xs, x = .ref a ∧ SqL K H a xs ∧ ∀ p, H p = none → Q (.ref p) (upd H p (.lst (cutV xs lo hi)))
theorem sl_list : SlR X (rSlL X.K) := by
  intro pins s σ H x v vl vu lo hi sl Q I rx hs pl pu h
  obtain ⟨a, xs, rfl, hx, q⟩ := h
  cases rx
  obtain ⟨its, r, ht, hz⟩ := I.list hx
  have hlen := r.length
  refine ⟨"list", _, slot_list_getitem.lookup, ht.isList.typeIs, ?_⟩
  refine wpAny_getItem_list_slice ht.isList hs pl pu .none (by simp) ?_ (by rw [List.size_toArray] <;> omega)
  rw [slicePick_cut, ← hlen]
  refine ⟨.ref s.heap.objs.size, _, I.laid (t' := s.toks) (o := .lst (cutV xs lo hi)) (fun b ob q => Heap.get?_push_of_some _ q) (Nat.le_refl _) ?_, rfl, q _ (I.hok.fresh (Nat.le_refl _))⟩
  exact ⟨Nat.le_trans (cutV_length xs lo hi) hz, _, 0, (r.drop (HT.sIx xs.length 0 lo)).take (HT.sIx xs.length xs.length hi - HT.sIx xs.length 0 lo), Heap.get?_push_size _ rfl⟩
noncomputable def flatV : V → Bool
  | .non => true
  | .bl _ => true
  | .int _ => true
  | .str _ => true
  | _ => false
noncomputable def eqV : V → V → Bool
  | .non, .non => true
  | .bl a, .bl b => a == b
  | .bl a, .int b => (if a then 1 else 0) == b
  | .int a, .bl b => a == (if b then 1 else 0)
  | .int a, .int b => a == b
  | .str a, .str b => a == b
  | _, _ => false
theorem eqAt_V {A : Around} {s : Shared} {y x : V} {u v : Value} (ry : RelV y u) (rx : RelV x v) (fy : flatV y = true) (fx : flatV x = true) : SeqAt.EqAt A s u v (eqV y x) := by
  cases y with
  | non =>
    cases ry
    cases x with
    | non => cases rx; exact SeqAt.EqAt.same _
    | bl b => cases rx; exact SeqAt.EqAt.none_bool b
    | int b => obtain ⟨t, rfl⟩ := rx; exact SeqAt.EqAt.none_int b t
    | str b => obtain ⟨t, rfl⟩ := rx; exact SeqAt.EqAt.none_str b t
    | _ => exact absurd (show false = true from fx) Bool.false_ne_true
  | bl a =>
    cases ry
    cases x with
    | non => cases rx; exact SeqAt.EqAt.bool_none a
    | bl b => cases rx; exact SeqAt.EqAt.bool_bool a b
    | int b => obtain ⟨t, rfl⟩ := rx; exact SeqAt.EqAt.bool_int a b t
    | str b => obtain ⟨t, rfl⟩ := rx; exact SeqAt.EqAt.bool_str a b t
    | _ => exact absurd (show false = true from fx) Bool.false_ne_true
  | int a =>
    obtain ⟨t', rfl⟩ := ry
    cases x with
    | non => cases rx; exact SeqAt.EqAt.int_none a t'
    | bl b => cases rx; exact SeqAt.EqAt.int_bool a t' b
    | int b => obtain ⟨t, rfl⟩ := rx; exact SeqAt.EqAt.int_int a t' b t
    | str b => obtain ⟨t, rfl⟩ := rx; exact SeqAt.EqAt.int_str a t' b t
    | _ => exact absurd (show false = true from fx) Bool.false_ne_true
  | str a =>
    obtain ⟨t', rfl⟩ := ry
    cases x with
    | non => cases rx; exact SeqAt.EqAt.str_none a t'
    | bl b => cases rx; exact SeqAt.EqAt.str_bool a t' b
    | int b => obtain ⟨t, rfl⟩ := rx; exact SeqAt.EqAt.str_int a t' b t
    | str b => obtain ⟨t, rfl⟩ := rx; exact SeqAt.EqAt.str_str a t' b t
    | _ => exact absurd (show false = true from fx) Bool.false_ne_true
  | _ => exact absurd (show false = true from fy) Bool.false_ne_true
noncomputable def eqU (x : V) (u : Value) : Bool := match u with
  | .none => eqV .non x
  | .bool b => eqV (.bl b) x
  | .int i _ => eqV (.int i) x
  | .str z _ => eqV (.str z) x
  | _ => false
theorem eqU_of {x y : V} {u : Value} (r : RelV y u) (f : flatV y = true) : eqU x u = eqV y x := by
  cases y with
  | non => cases r; rfl
  | bl b => cases r; rfl
  | int i => obtain ⟨t, rfl⟩ := r; rfl
  | str z => obtain ⟨t, rfl⟩ := r; rfl
  | _ => exact absurd (show false = true from f) Bool.false_ne_true
theorem any_eqU {x : V} : ∀ {xs : List V} {us : List Value}, Vals xs us → xs.all flatV = true → us.any (eqU x) = xs.any fun y => eqV y x
  | _, _, .nil, _ => rfl
  | y :: xs, u :: us, .cons r t, f => by
    rw [List.all_cons, Bool.and_eq_true] at f
    rw [List.any_cons, List.any_cons, eqU_of r f.1, any_eqU t f.2]
theorem mem_eqAt {A : Around} {s : Shared} {x : V} {v : Value} (rx : RelV x v) (fx : flatV x = true) : ∀ {xs : List V} {us : List Value}, Vals xs us → xs.all flatV = true → ∀ u ∈ us, SeqAt.EqAt A s u v (eqU x u)
  | _, _, .nil, _ => fun u hu => by cases hu
  | y :: xs, u :: us, .cons r t, f => fun u' hu => by
    rw [List.all_cons, Bool.and_eq_true] at f
    rcases List.mem_cons.mp hu with rfl | hu
    · rw [eqU_of r f.1]; exact eqAt_V r rx f.1 fx
    · exact mem_eqAt rx fx t f.2 u' hu
noncomputable def inV (x : V) (xs : List V) : Bool := xs.any fun y => eqV y x
noncomputable def rIn (K : PySem.W.Frag) (neg : Bool) : R2 := fun x y H Q => ∃ p xs, y = .ref p ∧ (SqL K H p xs ∨ SqT K H p xs) ∧ flatV x = true ∧ xs.all flatV = true ∧ Q (.bl (if neg then !inV x xs else inV x xs)) H
theorem op_notIn_seq : OpR X (compareOp .NotIn) (rIn X.K true) := by
  intro pins s σ H x y v u Q I rx ry h
  obtain ⟨p, xs, rfl, hq, fx, fs, q⟩ := h
  cases ry
  rcases hq with hq | hq
  · obtain ⟨its, r, pl, hz⟩ := I.list hq
    refine SeqAt.notIn_listAt (eqU x) pl.isList (fun w hw => mem_eqAt rx fx r fs w (by simpa using hw)) ⟨.bl _, H, I, rfl, ?_⟩
    rw [show its.toArray.any (eqU x) = its.any (eqU x) by simp, any_eqU r fs]
    exact q
  · obtain ⟨its, r, pl, hz⟩ := I.tuple hq
    refine SeqAt.notIn_tupleAt (eqU x) pl (fun w hw => mem_eqAt rx fx r fs w (by simpa using hw)) ⟨.bl _, H, I, rfl, ?_⟩
    rw [show its.toArray.any (eqU x) = its.any (eqU x) by simp, any_eqU r fs]
    exact q
theorem call_len_seq : CallR X (.builtin "len") (fun xs H Q => ∃ p ys, xs = [.ref p] ∧ (SqL X.K H p ys ∨ SqT X.K H p ys) ∧ Q (.int ys.length) H) := by
  intro pins s σ H xs us Q I r h
  obtain ⟨p, ys, rfl, hq, q⟩ := h
  obtain ⟨u, rfl, rx⟩ := vals1 r
  cases rx
  have hn := line63
  rcases hq with hq | hq
  · obtain ⟨its, r', pl, hz⟩ := I.list hq
    have hlen := r'.length
    exact Calls.call_len_list pl.isList (by simp only [List.size_toArray] <;> omega) ⟨.int ys.length, H, I.tok _, ⟨s.toks + 1, by rw [List.size_toArray, hlen]⟩, q⟩
  · obtain ⟨its, r', pl, hz⟩ := I.tuple hq
    have hlen := r'.length
    exact len_tuple pl (by simp only [List.size_toArray] <;> omega) ⟨.int ys.length, H, I.tok _, ⟨s.toks + 1, by rw [List.size_toArray, hlen]⟩, q⟩
theorem call_len_str : CallR X (.builtin "len") (fun xs H Q => ∃ z, xs = [.str z] ∧ z.length ≤ sizeLine ∧ Q (.int z.length) H) := by
  intro pins s σ H xs us Q I r h
  obtain ⟨z, rfl, hz, q⟩ := h
  obtain ⟨u, rfl, t, rfl⟩ := vals1 r
  have hn := line63
  exact len_str (by omega) ⟨.int z.length, H, I.tok _, ⟨_, rfl⟩, q⟩
theorem CallR.or {f : Value} {r r' : List V → Hp → VK → Prop} (h : CallR X f r) (h' : CallR X f r') : CallR X f (fun xs H Q => r xs H Q ∨ r' xs H Q) := by
  intro pins s σ H xs us Q I rs q
  rcases q with q | q
  · exact h pins s σ H xs us Q I rs q
  · exact h' pins s σ H xs us Q I rs q
theorem call_list_of : CallR X (.type "list") (fun xs H Q => ∃ p ys, xs = [.ref p] ∧ (SqL X.K H p ys ∨ SqT X.K H p ys) ∧ ∀ l, H l = none → Q (.ref l) (upd H l (.lst ys))) := by
  intro pins s σ H xs us Q I r h
  obtain ⟨p, ys, rfl, hq, q⟩ := h
  obtain ⟨u, rfl, rx⟩ := vals1 r
  cases rx
  have fin : ∀ (its : List Value), Vals ys its → ys.length ≤ sizeLine → ∀ (h' : Heap) (c' : Nat), (∀ b o', s.heap.get? b = some o' → h'.get? b = some o') →
      h'.get? s.heap.objs.size = some { cls := .type "list", dict := none, data := .seq its.toArray c', slots := #[] } → EP X pins σ Q (.ref s.heap.objs.size) { s with heap := h' } := fun its r' hz h' c' kp e =>
    ⟨.ref s.heap.objs.size, _, I.laid (t' := s.toks) kp (Nat.le_refl _) (show ObjOk X.prog X.w _ h' _ (.lst ys) from ⟨hz, its, c', r', e⟩), rfl, q _ (I.hok.fresh (Nat.le_refl _))⟩
  rcases hq with hq | hq
  · obtain ⟨its, r', pl, hz⟩ := I.list hq
    have hlen := r'.length
    obtain ⟨o, ho, hc, n, hd⟩ := pl.isList
    exact call_list_seq p (.inl rfl) ho hc hd (fun h' c' kp e => fin its r' hz h' c' kp e) (by simp only [List.size_toArray] <;> omega)
  · obtain ⟨its, r', pl, hz⟩ := I.tuple hq
    have hlen := r'.length
    obtain ⟨o, ho, hc, n, hd⟩ := pl
    exact call_list_seq p (.inr rfl) ho hc hd (fun h' c' kp e => fin its r' hz h' c' kp e) (by simp only [List.size_toArray] <;> omega)
theorem call_tuple_of : CallR X (.type "tuple") (fun xs H Q => ∃ p ys, xs = [.ref p] ∧ ((SqL X.K H p ys ∧ ∀ l, H l = none → Q (.ref l) (upd H l (.tup ys))) ∨ (SqT X.K H p ys ∧ Q (.ref p) H))) := by
  intro pins s σ H xs us Q I r h
  obtain ⟨p, ys, rfl, h⟩ := h
  obtain ⟨u, rfl, rx⟩ := vals1 r
  cases rx
  rcases h with ⟨hq, q⟩ | ⟨hq, q⟩
  · obtain ⟨its, r', pl, hz⟩ := I.list hq
    have hlen := r'.length
    refine call_tuple_list pl.isList (fun h' kp => ?_) (by simp only [List.size_toArray] <;> omega)
    have I1 : Inv X pins σ H { s with heap := h' } := I.kept (t' := s.toks) kp
    have I2 : Inv X pins σ (upd H h'.objs.size (.tup ys)) { s with heap := h'.push { cls := .type "tuple", data := .seq its.toArray } } :=
      I1.laid (t' := s.toks) (fun b o e => Heap.get?_push_of_some _ e) (Nat.le_refl _) (show ObjOk X.prog X.w _ _ _ (.tup ys) from ⟨hz, its, r', IsTupN.new _ _⟩)
    exact ⟨.ref h'.objs.size, _, I2, rfl, q _ (I1.hok.fresh (Nat.le_refl _))⟩
  · obtain ⟨its, r', pl, hz⟩ := I.tuple hq
    exact call_tuple_same pl ⟨.ref p, H, I, rfl, q⟩
noncomputable def tyV (K : PySem.W.Frag) (T : String) (x : V) (H : Hp) : Prop := match x with
  | .str _ => T = "str"
  | .int _ => T = "int"
  | .ref p => (T = "list" ∧ ∃ xs, SqL K H p xs) ∨ (T = "tuple" ∧ ∃ o, K.lookup p = some o ∧ o.cls = .type "tuple" ∧ o.dict = none) ∨
      (T = "dict" ∧ ((∃ kvs, H p = some (.dK kvs)) ∨ ∃ kvs, H p = some (.dT kvs))) ∨ (T = "set" ∧ ∃ S n, H p = some (.set S n))
  | _ => False
theorem tyV_is {pins : List (Addr × Obj)} {σ : St} {H : Hp} {s : Shared} {T : String} {x : V} {v : Value} (I : Inv X pins σ H s) (r : RelV x v) (ty : tyV X.K T x H) :
    s.TypeIs v T ∧ ∀ a, v = .ref a → ∃ ob, s.heap.get? a = some ob ∧ ob.dict = none := by
  cases x with
  | str z =>
    obtain ⟨t, rfl⟩ := r
    cases (show T = "str" from ty)
    exact ⟨typeIs_str s z t, fun _ e => nomatch e⟩
  | int i =>
    obtain ⟨t, rfl⟩ := r
    cases (show T = "int" from ty)
    exact ⟨typeIs_int s i t, fun _ e => nomatch e⟩
  | ref p =>
    cases r
    rcases ty with ⟨rfl, xs, hq⟩ | ⟨rfl, o, hk, hc, hd⟩ | ⟨rfl, hk⟩ | ⟨rfl, S, n, hk⟩
    · obtain ⟨its, _, pl, _⟩ := I.list hq
      refine ⟨pl.isList.typeIs, fun a e => ?_⟩
      cases e
      obtain ⟨o, n, e, c, hd, _⟩ := pl
      exact ⟨o, e, hd⟩
    · refine ⟨⟨o, I.kIn p o hk, hc⟩, fun a e => ?_⟩
      cases e
      exact ⟨o, I.kIn _ o hk, hd⟩
    · have z : ∃ o, s.heap.get? p = some o ∧ o.ExactDict := by
        rcases hk with ⟨kvs, hk⟩ | ⟨kvs, hk⟩
        · obtain ⟨_, _, _, _, o, _, _, e, ex, _⟩ := I.hok p _ hk
          exact ⟨o, e, ex⟩
        · obtain ⟨_, _, _, _, o, _, _, e, ex, _⟩ := I.hok p _ hk
          exact ⟨o, e, ex⟩
      obtain ⟨o, e, ex⟩ := z
      refine ⟨⟨o, e, ex.1⟩, fun a e2 => ?_⟩
      cases e2
      exact ⟨o, e, ex.2.1⟩
    · obtain ⟨o, _, _, _, e, ex, _⟩ := I.hok p _ hk
      refine ⟨⟨o, e, ex.1⟩, fun a e2 => ?_⟩
      cases e2
      exact ⟨o, e, ex.2.1⟩
  | _ => exact False.elim ty
noncomputable def tBM0 (K : PySem.W.Frag) (T : String) (r : V → List V → Hp → VK → Prop) (to : TE) : TE := fun σ H Q => to σ H fun x H1 => tyV K T x H1 ∧ r x [] H1 Q
noncomputable def tBM (K : PySem.W.Frag) (T : String) (r : V → List V → Hp → VK → Prop) (to : TE) (t : TA) : TE := fun σ H Q => to σ H fun x H1 => tyV K T x H1 ∧ t σ H1 fun xs H2 => r x xs H2 Q
variable {o e : Expr} {es : List Expr} {to : TE} {t : TA} {name : Str} {apos cpos : Pos} {T id : String} {r : V → List V → Hp → VK → Prop}
theorem pe_bm0 (pa : PlainAttrs T) (slot : Slot T name id) (hty : typeOf (.builtin id) = pure (.type "method_descriptor")) (hm : MtR X id r) (ho : PE X o to)
    (hbase : attributeBase o name X.env (eval o X.env) = eval o X.env := by rfl) (hline : (apos.endLine == cpos.line) = true := by rfl) : PE X (.Call (.Attribute o name apos) [] [] cpos) (tBM0 X.K T r to) := by
  intro pins s σ H Q I h
  refine wpAny_Call_method0_late hbase hline (thn (ho pins s σ H _ I h) fun v s1 ⟨x, H1, I1, r1, ty, q1⟩ => ?_)
  obtain ⟨h1, h2⟩ := tyV_is I1 r1 ty
  exact ⟨T, id, pa, slot, hty, h1, h2, Calls.callWith_builtin rfl (PySem.evalArgs_none (hm pins s1 σ H1 x [] v [] Q I1 r1 .nil q1))⟩
theorem pe_bm (pa : PlainAttrs T) (slot : Slot T name id) (hty : typeOf (.builtin id) = pure (.type "method_descriptor")) (hm : MtR X id r) (ho : PE X o to) (ha : PA X (e :: es) t)
    (hbase : attributeBase o name X.env (eval o X.env) = eval o X.env := by rfl)
    (hfew : ((backTo cpos (starEach (e :: es) X.env)).all (fun x => !x.1) && (backToKw cpos (keywordEach [] X.env)).all (fun x => x.1.isSome)
      && decide ((e :: es).length + ([] : List Keyword).length + (if ([] : List Keyword).isEmpty then 0 else 1) < 30)) = true := by rfl)
    (hline : (apos.endLine == cpos.line) = true := by rfl) (hs : starEach (e :: es) X.env = (false, eval e X.env) :: starEach es X.env := by rfl) (hplain : (backTo cpos (starEach es X.env)).any (·.1) = false := by rfl) :
    PE X (.Call (.Attribute o name apos) (e :: es) [] cpos) (tBM X.K T r to t) := by
  intro pins s σ H Q I h
  refine wpAny_Call_method_late hbase hfew hline rfl (thn (ho pins s σ H _ I h) fun v s1 ⟨x, H1, I1, r1, ty, q1⟩ => ?_)
  obtain ⟨h1, h2⟩ := tyV_is I1 r1 ty
  refine ⟨T, id, pa, slot, hty, h1, h2, ?_⟩
  have hA := ha cpos pins s1 σ H1 _ I1 q1
  rw [hs] at hA ⊢
  refine Calls.callWith_builtin (by show (false || (backTo cpos (starEach es X.env)).any (·.1)) = false; rw [hplain] <;> rfl) (Calls.evalArgs_plain ?_)
  exact thn hA fun us s2 ⟨vs, H2, I2, r2, q2⟩ => hm pins s2 σ H2 x vs v us Q I2 r1 r2 q2
/- xs.append(e), list.index on a module's tuple .. are MtR facts of 06m -/
end
end L2
namespace L2
open PySem PySem.Spec PyProof.Rows
noncomputable def MtM (X : Cx) (id : String) (r : V → List V → Hp → VK → Prop) : Prop :=
  ∀ (pins : List (Addr × Obj)) (s : Shared) (σ : St) (H : Hp) (x : V) (xs : List V) (v : Value) (us : List Value) (Q : VK), Inv X pins σ H s → RelV x v → Vals xs us → r x xs H Q →
    wpAny (model X.prog X.w) X.A (call (.builtin id) (v :: us)) (EP X pins σ Q) X.xe s
theorem Vals.one : ∀ {x : V} {us : List Value}, Vals [x] us → ∃ u, us = [u] ∧ RelV x u
  | _, _, .cons r .nil => ⟨_, rfl, r⟩
theorem Vals.two : ∀ {x y : V} {us : List Value}, Vals [x, y] us → ∃ u v, us = [u, v] ∧ RelV x u ∧ RelV y v
  | _, _, _, .cons r (.cons q .nil) => ⟨_, _, rfl, r, q⟩
theorem Vals.zero : ∀ {us : List Value}, Vals [] us → us = []
  | _, .nil => rfl
theorem Vals.dropLast {xs : List V} {us : List Value} (h : Vals xs us) : Vals xs.dropLast us.dropLast := by
  induction h with
  | nil => exact .nil
  | cons r t ih =>
    cases t with
    | nil => exact .nil
    | cons q t' => exact .cons r ih
theorem Vals.reverse {xs : List V} {us : List Value} (h : Vals xs us) : Vals xs.reverse us.reverse := by
  induction h with
  | nil => exact .nil
  | cons r t ih => rw [List.reverse_cons, List.reverse_cons]; exact Vals.append ih (.cons r .nil)
theorem Vals.rep {xs : List V} {us : List Value} (h : Vals xs us) : ∀ k : Nat, Vals (List.replicate k xs).flatten (List.replicate k us).flatten
  | 0 => .nil
  | k + 1 => by
    rw [List.replicate_succ, List.replicate_succ, List.flatten_cons, List.flatten_cons]
    exact Vals.append h (Vals.rep h k)
theorem erase_last {α : Type} (l : List α) : l.eraseIdx (l.length - 1) = l.dropLast := by
  induction l with
  | nil => rfl
  | cons a r ih =>
    cases r with
    | nil => rfl
    | cons b r =>
      have e : (a :: b :: r).length - 1 = ((b :: r).length - 1) + 1 := by
        have h1 : (a :: b :: r).length = r.length + 2 := rfl
        have h2 : (b :: r).length = r.length + 1 := rfl
        omega
      rw [e, List.eraseIdx_cons_succ, ih]
      all_goals rfl
theorem foldl_rep (its : List Value) : ∀ (k : Nat) (acc : List Value),
    List.foldl (fun x1 x2 => x1 ++ x2) acc.toArray (List.replicate k its.toArray) = (acc ++ (List.replicate k its).flatten).toArray
  | 0, acc => by simp
  | k + 1, acc => by
    have e : acc.toArray ++ its.toArray = (acc ++ its).toArray := by simp
    have e2 : (acc ++ its) ++ (List.replicate k its).flatten = acc ++ (List.replicate (k + 1) its).flatten := by
      rw [List.replicate_succ, List.flatten_cons, List.append_assoc]
    rw [← e2, ← foldl_rep its k (acc ++ its), ← e, List.replicate_succ, List.foldl_cons]
section
variable {X : Cx} {pins : List (Addr × Obj)} {σ : St} {H : Hp} {s : Shared} {l b : Addr} {xs ys zs : List V}
theorem Inv.lset {its its' : List Value} {n : Nat} {f : Array Value → Array Value} {t' : Nat} (I : Inv X pins σ H s) (hH : H l = some (.lst xs))
    (e : s.heap.get? l = some { cls := .type "list", data := .seq its.toArray n }) (hf : f its.toArray = its'.toArray) (hv : Vals ys its') (hz : ys.length ≤ sizeLine) :
    Inv X pins σ (upd H l (.lst ys)) { s with heap := s.heap.update l (Obj.mapSeq f), toks := t' } := by
  have q := PySem.IsL.update e f
  rw [hf] at q
  refine I.write (x := l) (e := l) (by rw [hH]; exact trivial) (.inl rfl) (fun b' u hb hu => (Heap.get?_update_other s.heap (Obj.mapSeq f) (Ne.symm hb)).trans hu) ⟨_, q⟩ ?_
  exact ⟨hz, its', _, hv, q⟩
theorem Inv.lnew {its : List Value} {t' : Nat} (I : Inv X pins σ H s) (hv : Vals ys its) (hz : ys.length ≤ sizeLine) :
    Inv X pins σ (upd H s.heap.objs.size (.lst ys)) { s with heap := s.heap.push { cls := .type "list", data := .seq its.toArray }, toks := t' } :=
  I.laid (fun _ _ q => Heap.get?_push_of_some _ q) (Nat.le_refl _) ⟨hz, its, 0, hv, Heap.get?_push_size _ rfl⟩
theorem Inv.fresh (I : Inv X pins σ H s) : H s.heap.objs.size = none := I.hok.fresh (Nat.le_refl _)
theorem Inv.lstM (I : Inv X pins σ H s) (hH : H l = some (.lst xs)) : xs.length ≤ sizeLine ∧ ∃ (its : List Value) (n : Nat), Vals xs its ∧ xs.length = its.length ∧ s.heap.get? l = some { cls := .type "list", data := .seq its.toArray n } := by
  obtain ⟨z, its, n, r, e⟩ := I.hok l _ hH
  exact ⟨z, its, n, r, r.length, e⟩
theorem notLongL {n : Nat} (h : n ≤ sizeLine) : Builtin.List.listTooLong n = false := by
  unfold Builtin.List.listTooLong
  exact decide_eq_false (by omega)
end
section
variable {X : Cx}
noncomputable def rAppend : V → List V → Hp → VK → Prop := fun x vs H Q => ∃ l xs y, x = .ref l ∧ vs = [y] ∧ H l = some (.lst xs) ∧ xs.length < sizeLine ∧ Q .non (upd H l (.lst (xs ++ [y])))
theorem mt_append : MtM X "list.append" rAppend := by
  intro pins s σ H x vs v us Q I rx rv h
  obtain ⟨l, xs, y, rfl, rfl, hH, hz, q⟩ := h
  cases rx
  obtain ⟨u, rfl, ru⟩ := rv.one
  obtain ⟨z, its, n, r, hl, e⟩ := I.lstM hH
  refine call_meets F.slot_list_append ⟨_, e, rfl⟩ F.entry_list_append (F.args_list_append_2 _ _) (PySem.list_append l its.toArray n u (by rw [List.size_toArray]; omega)) ⟨e, ?_⟩
  refine ⟨.non, _, I.lset (its' := its ++ [u]) hH e (by simp) (r.append (.cons ru .nil)) ?_, rfl, q⟩
  rw [List.length_append, List.length_singleton]
  omega
noncomputable def rPop : V → List V → Hp → VK → Prop := fun x vs H Q => ∃ l xs y, x = .ref l ∧ vs = [] ∧ H l = some (.lst xs) ∧ xs[xs.length - 1]? = some y ∧ Q y (upd H l (.lst xs.dropLast))
theorem mt_pop : MtM X "list.pop" rPop := by
  intro pins s σ H x vs v us Q I rx rv h
  obtain ⟨l, xs, y, rfl, rfl, hH, hy, q⟩ := h
  cases rx
  have hus := rv.zero
  subst hus
  obtain ⟨z, its, n, r, hl, e⟩ := I.lstM hH
  obtain ⟨u, hu, ru⟩ := r.get hy
  have hy' : its.toArray[its.toArray.size - 1]? = some u := by
    show its.toArray[its.length - 1]? = some u
    rw [← Array.getElem?_toList, ← hl]
    exact hu
  refine call_meets F.slot_list_pop ⟨_, e, rfl⟩ F.entry_list_pop (F.args_list_pop_1 _) (MeetsSeq.list_pop_last l its.toArray n u hy' (by rw [List.size_toArray]; omega)) ⟨e, ?_⟩
  refine ⟨y, _, I.lset (its' := its.dropLast) hH e ?_ r.dropLast ?_, ru, q⟩
  · show its.toArray.eraseIdxIfInBounds (its.toArray.size - 1) = its.dropLast.toArray
    rw [List.size_toArray, List.eraseIdxIfInBounds_toArray, erase_last]
  · rw [List.length_dropLast]
    omega
theorem len_rep {α : Type} (xs : List α) (k : Nat) : (List.replicate k xs).flatten.length = k * xs.length := by
  induction k with
  | zero => simp
  | succ k ih => rw [List.replicate_succ, List.flatten_cons, List.length_append, ih, Nat.succ_mul, Nat.add_comm]
end
section
variable {prog : Program} {w : World} {A : Around} {E : Value → Shared → Prop} {s : Shared}
end
section
variable {X : Cx}
end
end L2
namespace Att
open PySem PySem.W PySem.Calls PyProof.Rows
theorem ints_of_wellAll {P : Params} {h : Heap} : ∀ (ns : List Int) (vs : List Value), WellAll P h vs (ns.map WData.int) → IntsAre vs ns := by
  intro ns
  induction ns with
  | nil =>
    intro vs w
    rw [List.map_nil] at w
    cases w
    exact .nil
  | cons n ns ih =>
    intro vs w
    rw [List.map_cons] at w
    cases w with
    | cons a b =>
      cases a
      exact .cons _ _ (ih _ b)
theorem script_of {l : OpenLaw} {n : Nat} (hn : l.most = some n) {P : Params} {h : Heap} {args : List WData} {vals : List Value}
    (hpre : l.row.toRowW.claim.pre args = true) (hwl : WellAll P h vals args) :
    ∃ a vs ns, vals = [Value.ref a] ∧ args = [WData.list (ns.map WData.int)] ∧ h.get? a = some { cls := .type "list", data := .seq vs.toArray } ∧ IntsAre vs ns ∧ ns.length ≤ n := by
  have hsh : WShape.hasAll [] args [.list .int] = true := (pre_splitW hpre).1
  have hc : l.pre.holds [] { args := args } = true := (pre_splitW hpre).2
  obtain ⟨d, r, rfl, h1, h2⟩ := hasAllW_cons hsh
  obtain rfl := hasAllW_nil h2
  obtain ⟨xs, rfl, h3⟩ := hasW_list h1
  obtain ⟨ns, rfl⟩ := items_int h3
  have hlen : ns.length ≤ n := by
    unfold OpenLaw.pre at hc
    have h4 : (WTm.not (.lt (.lit (.int (n : Int))) (.len (.arg 0)))).holds [] { args := [.list (ns.map .int)] } = true := by
      have h4 := (holds_andW hc).1
      rw [hn] at h4
      exact h4
    have h5 := condW_of h4 (w_not (w_lt w_lit (w_len_list (w_arg rfl))))
    rw [List.length_map] at h5
    refine Nat.le_of_not_lt fun q => ?_
    have q' : (n : Int) < ((ns.length : Nat) : Int) := by omega
    first
      | (rw [decide_eq_true q'] at h5; exact absurd h5 (by decide))
      | (simp at h5; omega)
  cases hwl with
  | cons w1 w2 =>
    cases w2
    cases w1 with
    | list ho hall => exact ⟨_, _, ns, rfl, rfl, ho, ints_of_wellAll ns _ hall, hlen⟩
theorem post_true (l : OpenLaw) (args : List WData) : l.row.toRowW.claim.post args (.bool true) args = true :=
  postW_of (r := l.row.toRowW) (X := (true == true))
    (show WShape.has [] (.bool true) .bool = true by first | rfl | decide | simp [WShape.has, WShape.arms, WShape.armsAll])
    (show (WTm.eq .res (.lit (.bool true))).value [] { args := args, res := some (.bool true), after := args } = some (.bool (true == true)) from w_eq_bool (w_res rfl) w_lit) rfl
section
variable {prog : Program} {w : World} {A : Around} {E : Value → Shared → Prop} {s : Shared} {K : Frag}
end
end Att
namespace L2
open PySem PySem.Spec PyProof.Rows
theorem vals_ints : ∀ {vs : List Value} {ns : List Int}, IntsAre vs ns → Vals (ns.map V.int) vs
  | _, _, .nil => .nil
  | _, _, .cons n t h => .cons ⟨t, rfl⟩ (vals_ints h)
noncomputable def Only (H : Hp) : Prop := ∀ b, H b = none ∨ ∃ o xs, H b = some (.frz o (.lst xs))
theorem law_call {P : Program} {w : World} {K : PySem.W.Frag} {mg mb : Str → Option Value} {CX : CXT} {k : Nat} {fa a : Addr} {fd : FuncData} {x : Str} {sp : Sp} {s₁ : Shared} {vs : List Value} {ns : List Int}
    (KX : K.In s₁.heap) (hns : s₁.heap.Ns mainGlobals mg) (hb : s₁.heap.Ns builtinsNs mb) (hbb : ∀ x : Str, x ≠ "__name__" → mb x = bootBuiltins x) (hlim : s₁.heap.NoLimit) (hg : s₁.gens = #[])
    (ha : s₁.heap.get? a = some { cls := .type "list", data := .seq vs.toArray }) (hi : IntsAre vs ns) (hl : ns.length ≤ sizeLine) (hr : Room k callerA)
    (F : ∀ base : Heap, K.In base → base.Ns mainGlobals mg → FnOk P w K mg base CX k fa fd [x] sp) (hbind : ∀ (s : Shared) (u : Value), BindsTo s fd ⟨[u], []⟩ [(x, u)])
    (hsp : ∀ H : Hp, Only H → SqL K H a (ns.map V.int) → sp [.ref a] H (fun v _ => v = .bl true) fun _ _ _ => False)
    (hCX : ∀ H e s', CX [] H s₁ (fun _ _ _ => False) e s' → False) :
    codeAny (model P w) callerA (.call (.ref fa) ⟨[.ref a], []⟩) (fun r s' => r = .ok (.ret (.bool true)) ∧ OldK s₁.heap s'.heap ∧ s'.os = s₁.os ∧ AllBare s'.gens) s₁ := by
  have rv := vals_ints hi
  have lenV := hi.length
  -- from an abstract heap in which nothing but the script may be tracked
  have core : ∀ H : Hp, Only H → SqL K H a (ns.map V.int) → HOk P w H s₁.heap → (∀ b, H b ≠ none → b = a) → (H a ≠ none → K.lookup a = none) →
      codeAny (model P w) callerA (.call (.ref fa) ⟨[.ref a], []⟩) (fun r s' => r = .ok (.ret (.bool true)) ∧ OldK s₁.heap s'.heap ∧ s'.os = s₁.os ∧ AllBare s'.gens) s₁ := by
    intro H hO hS hok hA hK
    have base_of : ∀ {b : Addr} {o : Obj}, s₁.heap.get? b = some o → H b = none → (hidT s₁.heap H).get? b = some o := fun e n => hidT_get e n
    have noA : ∀ {b : Addr} {o : Obj} {es : Array DictEntry} {ep : Nat}, s₁.heap.get? b = some o → o.data = .dict es ep → H b = none := fun {b o es ep} e d => by
      cases q : H b with
      | none => rfl
      | some u =>
        have e' : b = a := hA b (by rw [q]; simp)
        subst e'
        rw [ha] at e; cases e
        have d' : Data.seq vs.toArray _ = Data.dict es ep := d
        cases d'
    have nsK : ∀ {b : Addr} {m : Str → Option Value}, s₁.heap.Ns b m → (hidT s₁.heap H).Ns b m := fun {b m} ⟨o, es, ep, e, d, r⟩ => ⟨o, es, ep, base_of e (noA e d), d, r⟩
    have hKb : K.In (hidT s₁.heap H) := fun b o e => base_of (KX b o e) (by
      cases q : H b with
      | none => rfl
      | some u =>
        have e' : b = a := hA b (by rw [q]; simp)
        subst e'
        rw [hK (by rw [q]; simp)] at e; cases e)
    have hM : Mod K mg (hidT s₁.heap H) := ⟨hKb, nsK hns, ⟨mb, nsK hb, hbb⟩, let ⟨mc, h1, h2⟩ := hlim; ⟨mc, nsK h1, h2⟩⟩
    have e0 : Env0 P w K mg (hidT s₁.heap H) callerA [] s₁ H := ⟨rfl, hM, fun b o e => of_hidT e, Nat.le_of_eq (hidT_size _ _), trivial, fun b hb => absurd (show b ∈ ([] : List Addr) from hb) (by simp), hok, .of_eq hg⟩
    refine codeAny_mono ((F _ hKb (nsK hns)).run callerA [] s₁ H ⟨[.ref a], []⟩ [.ref a] [.ref a] _ _ hr e0 (hbind s₁ (.ref a)) (.cons rfl .nil) (hsp H hO hS)) fun r s' h => ?_
    cases r with
    | error e => exact (hCX H e s' h).elim
    | ok fl =>
      cases fl with
      | next => exact False.elim h
      | brk => exact False.elim h
      | cont => exact False.elim h
      | ret u =>
        obtain ⟨v, H', os, bare, un, hok', r', q⟩ := h
        have q' : v = .bl true := q
        subst q'
        obtain rfl : u = Value.bool true := r'
        refine ⟨rfl, OldK.of_keep fun b o e => ?_, os, bare⟩
        cases q : H b with
        | none => exact un.keep b o e q (by intro z; exact absurd (show b ∈ ([] : List Addr) from z) (by simp)) (by simp)
        | some u =>
          rcases hO b with z | ⟨ob, xs, z⟩
          · rw [q] at z; cases z
          · have z2 := un.frzs b ob _ z
            obtain ⟨e1, _⟩ := hok b _ z
            obtain ⟨e2, _⟩ := hok' b _ z2
            rw [e] at e1; cases e1
            exact e2
  cases hk : K.lookup a with
  | some o =>
    -- the script is one of the module's own objects
    have e := KX a o hk
    rw [ha] at e
    cases e
    refine core (fun _ => none) (fun _ => .inl rfl) (.inr ⟨_, vs.toArray, _, hk, rfl, rfl, rfl, by rw [List.size_toArray, lenV]; exact hl, by simpa using rv⟩) (fun b u z => by have z' : (none : Option HO) = some u := z; cases z') (fun b z => absurd rfl z) fun z => absurd rfl z
  | none =>
    refine core (fun b => if b = a then some (.frz { cls := .type "list", data := .seq vs.toArray } (.lst (ns.map V.int))) else none) (fun b => ?_) (.inl (.inr ⟨{ cls := .type "list", data := .seq vs.toArray }, if_pos rfl⟩)) (fun b u z => ?_) (fun b z => ?_) fun _ => hk
    · by_cases hb : b = a
      · exact .inr ⟨_, _, if_pos hb⟩
      · exact .inl (if_neg hb)
    · by_cases hb : b = a
      · have z' := (if_pos hb).symm.trans z
        cases z'
        subst hb
        exact ⟨ha, by rw [List.length_map]; exact hl, vs, _, rv, ha⟩
      · have z' := (if_neg hb).symm.trans z
        cases z'
    · by_cases hb : b = a
      · exact hb
      · exact absurd (if_neg hb) z
end L2
namespace L2
open PySem PySem.Spec PyProof.Rows
end L2
/- THE LAST THEOREM (shape; LID, My.* are yours):
   My.Adr: a structure of the addresses that your layer names (classes, functions); My.Txt K t: a structure (Prop) of the equations over K;
   My.txt_mk : {K} {implicit addresses ..} (e1 : nsIn K mainGlobals "law" = some (some (.ref f))) (e2 : K.lookup f = some ⟨oc, od, .func (fnOf "law" "law" params body scope dV kV doc pm an cdv ct), sl⟩) (e3 : codeIn K cdv "law" = true) .. : ∃ t, My.Txt K t
set_option maxRecDepth 100000 in
set_option maxHeartbeats 0 in
theorem PySem.Challenge.cw_LID_holds : PySem.Challenge.rw_LID.Holds := by
  w_on; o_law; k_head; (case hw => w_witness2)
  k_fill
  refine L2.walk_of (l := PySem.Challenge.rw_LID) (n := 63) (k := 40) (x := "script") (CX := fun w => ..) (sp := fun _ => My.sp_law) rfl (by decide) rfl ⟨rfl, by decide, by decide⟩ (fun w h Y => PySem.W.kIn_of Y) ?F ?S ?C
  case F =>
    intro w mg fa h KX G hmg
    have T : ∃ t, My.Txt (L2.KOf KX) t := by
      dsimp only [L2.KOf]                          -- K must stand as «<heap const> w.params» for k_is
      refine' My.txt_mk ?e1 ?e2 ?e3 ..
      (case e1 => PySem.W.k_is)                    -- in the order: a name -> its address -> its object -> its parts
      (case e2 => PySem.W.k_is)
      ..
    obtain ⟨t, T⟩ := T
    have e0 := hmg.symm.trans (PySem.W.mg_of KX G T.law)
    cases e0                                       -- fa is the law's own address
    exact ⟨_, fun s u => .of_eq rfl, fun base kb nb => My.law_fn T kb nb⟩     -- if «.of_eq rfl» comes too early: refine' ⟨_, ?b, fun base kb nb => My.law_fn T kb nb⟩; exact fun s u => .of_eq rfl
  case S => exact fun w H a ns hl hO hS => ..
  case C => exact ..
(the tactic k_is has no namespace: write k_is) -/
namespace L2
open PySem PySem.Spec PyProof.Rows
noncomputable def defArgs (s : Stmt) : Arguments := match s with
  | .FunctionDef _ a _ _ _ _ _ _ _ _ => a
  | _ => { posonlyargs := [], args := [], vararg := none, kwonlyargs := [], kw_defaults := [], kwarg := none, defaults := [] }
noncomputable def defBody (s : Stmt) : List Stmt := match s with
  | .FunctionDef _ _ b _ _ _ _ _ _ _ => b
  | _ => []
noncomputable def defScope (s : Stmt) : Scope := match s with
  | .FunctionDef _ _ _ _ _ _ sc _ _ _ => sc
  | _ => { kind := .function, names := [], isGenerator := false, isCoroutine := false }
noncomputable abbrev CX0 : CXT := fun _ _ _ _ _ _ => False
noncomputable abbrev E0 : XK := fun _ _ _ => False
theorem pass0 {X : Cx} : Passes CX0 X E0 := fun _ _ _ _ _ _ _ h => h.elim
structure Fun (K : PySem.W.Frag) (x qual : Str) (st : Stmt) (f : Addr) (fd : FuncData) : Prop where
  ex : ∃ (oc : Value) (od : Option Addr) (kV doc pm : Value) (an : Option Addr) (cdv ct : Value) (osl : Array (Option Value)),
    fd = PySem.W.fnOf x qual (defArgs st) (defBody st) (defScope st) .none kV doc pm an cdv ct ∧ K.lookup f = some ⟨oc, od, .func fd, osl⟩ ∧ PySem.W.codeIn K cdv qual = true
  kp : PySem.W.keepIn K (.ref f) = true
section
variable {P : Program} {w : World} {K : PySem.W.Frag} {mg : Str → Option Value} {base : Heap}
theorem Fun.ok {x qual : Str} {st : Stmt} {f : Addr} {fd : FuncData} {N ps : List Str} {k : Nat} {sp : Sp} (F : Fun K x qual st f fd) (S : FnScope N ps (defScope st)) (len : ∀ vs H Q E, sp vs H Q E → vs.length = ps.length)
    (hbody : ∀ (cdv : Value) (A : Around) (outer : List Env) (s : Shared) (H : Hp) (vs : List V) (Q : VK) (E : XK), Room k (A.deeper (envOfC qual (defScope st) s.heap.objs.size f cdv)) → sp vs H Q E →
      ∃ t, PSs (cxOf CX0 P w K mg base N qual (defScope st) f cdv A outer s H E).nox (defBody st) t ∧ t { nx := fun _ H' => Q .non H', rt := Q } (start N vs) H) : FnOk P w K mg base CX0 (k + 1) f fd ps sp := by
  obtain ⟨oc, od, kV, doc, pm, an, cdv, ct, osl, rfl, lk, hcd⟩ := F.ex
  refine fn_of lk hcd S len fun A outer s H vs Q E hr hsp => ?_
  obtain ⟨t, h, q⟩ := hbody cdv A outer s H vs Q E hr hsp
  exact ⟨t, h.nox, q⟩
theorem Fun.binds {x qual : Str} {st : Stmt} {f : Addr} {fd : FuncData} {ps : List Str} (F : Fun K x qual st f fd)
    (h : ∀ (kV doc pm : Value) (an : Option Addr) (cdv ct : Value) (us : List Value), us.length = ps.length → bindArgs (PySem.W.fnOf x qual (defArgs st) (defBody st) (defScope st) .none kV doc pm an cdv ct) ⟨us, []⟩ = pure (ps.zip us)) : Binds K fd ps [] := by
  obtain ⟨oc, od, kV, doc, pm, an, cdv, ct, osl, rfl, lk, hcd⟩ := F.ex
  exact .all (h kV doc pm an cdv ct)
theorem fun_mk {x qual : Str} {st : Stmt} {f : Addr} {oc : Value} {od an : Option Addr} {osl : Array (Option Value)} {kV doc pm cdv ct : Value} (l : K.lookup f = some ⟨oc, od, .func (PySem.W.fnOf x qual (defArgs st) (defBody st) (defScope st) .none kV doc pm an cdv ct), osl⟩)
    (c : PySem.W.codeIn K cdv qual = true) (k : PySem.W.keepIn K (.ref f) = true) : Fun K x qual st f (PySem.W.fnOf x qual (defArgs st) (defBody st) (defScope st) .none kV doc pm an cdv ct) := ⟨⟨oc, od, kV, doc, pm, an, cdv, ct, osl, rfl, l, c⟩, k⟩
end
theorem hu_of {A : Around} {k : Nat} (hr : Room k A) : A.units + 1 < cLine := Nat.lt_of_le_of_lt (Nat.add_le_add_left (by decide : 1 ≤ 64) _) hr.units
section
variable {X : Cx}
end
noncomputable def Same (H H' : Hp) : Prop := ∀ b o, H b = some o → H' b = some o
theorem Same.refl (H : Hp) : Same H H := fun _ _ h => h
theorem Same.trans {H H1 H2 : Hp} (a : Same H H1) (b : Same H1 H2) : Same H H2 := fun c o h => b c o (a c o h)
theorem Same.free {H H' : Hp} (e : Same H H') {l : Addr} (h : H' l = Option.none) : H l = Option.none := by
  cases q : H l with
  | none => rfl
  | some o =>
    rw [e l o q] at h
    cases h
end L2
namespace L2
open PySem PySem.Spec PyProof.Rows
noncomputable def Its (x : Str) : It := ⟨fun i _ => i < x.cps.size, fun i H v H' => H' = H ∧ ∃ c, x.cps[i]? = some c ∧ v = .str ⟨#[c]⟩, fun i _ => x.cps.size ≤ i⟩
theorem turn_str {P : Program} {w : World} {K : PySem.W.Frag} {tg : Expr} (it : Addr) (T : String) (hT : T = "str_ascii_iterator" ∨ T = "str_iterator") (x : Str) (t : Tok) :
    Turn P w K tg (Its x) [it] it (fun i h => h.IsStrIter it T x t i) where
  mem := by simp
  obj := fun i h st b hb => by
    have e : b = it := by simpa using hb
    subst e
    obtain ⟨o, e, c, d⟩ := st
    exact ⟨o, e, fun v z => by rw [d] at z; cases z⟩
  keep := fun i h h' st k => by
    obtain ⟨o, e, r⟩ := st
    exact ⟨o, k it (by simp) o e, r⟩
  item := by
    intro X hP hw hK hc i pins s σ H E I hf st hg
    subst hP hw hK
    have hlt : i < x.cps.size := hg
    have hx : x.cps[i]? = some x.cps[i] := by simp [hlt]
    obtain ⟨f0, f1, f2, f3, f4, f5⟩ := hf it (by simp)
    have fin : ∀ h', h'.IsStrIter it T x t (i + 1) → Heap.SameBut it s.heap h' →
        ∃ u, (some (Value.str ⟨#[x.cps[i]]⟩ s.toks)) = some u ∧ wpAny (model X.prog X.w) X.A (letOwnedTupleGo tg (.ref it) u) (fun _ s2 => ∃ x_1 H', Inv X pins σ H' s2 ∧ RelV x_1 u ∧ (Its x).yld i H x_1 H' ∧ s2.heap.IsStrIter it T x t (i + 1) ∧ ∀ b ∈ [it], H' b = none) E { s with heap := h', toks := s.toks + 1 } := by
      intro h' st' sb
      have I1 : Inv X pins σ H { s with heap := h', toks := s.toks + 1 } := I.turned (fun b o hb e => (sb.2 b hb).trans e) f0 f1 f3 f4 f5
      obtain ⟨o, e, c, d⟩ := id st'
      refine ⟨_, rfl, go_of (s := { s with heap := h', toks := s.toks + 1 }) (n := T) e c d (by rcases hT with rfl | rfl <;> decide) ⟨.str ⟨#[x.cps[i]]⟩, H, I1, ⟨_, rfl⟩, ⟨rfl, _, hx, rfl⟩, st', fun b hb => (hf b hb).1⟩⟩
    rcases hT with rfl | rfl
    · exact wpAny_pyNext_ascii_item st hx fun h' st' sb => fin h' st' sb
    · exact wpAny_pyNext_wide_item st hx fun h' st' sb => fin h' st' sb
  done := by
    intro X hP hw hK hc i pins s σ H E I hf st hg
    subst hP hw hK
    have hge : x.cps.size ≤ i := hg
    have hx : x.cps[i]? = none := by simp [hge]
    obtain ⟨f0, f1, f2, f3, f4, f5⟩ := hf it (by simp)
    rcases hT with rfl | rfl
    · exact wpAny_pyNext_ascii_end (I.ok.hd hc) st hx fun h' eb => ⟨rfl, I.turned (t' := s.toks) (fun b o hb e => eb b o hb e) f0 f1 f3 f4 f5⟩
    · exact wpAny_pyNext_wide_end (I.ok.hd hc) st hx fun h' eb => ⟨rfl, I.turned (t' := s.toks) (fun b o hb e => eb b o hb e) f0 f1 f3 f4 f5⟩
  self := fun _ _ _ _ _ st h => by
    rcases hT with rfl | rfl
    · exact wpAny_pyIter_striter_ascii st h
    · exact wpAny_pyIter_striter_wide st h
noncomputable def iStr (te : TE) : TI := fun σ H R => te σ H fun v H1 => ∃ x, v = .str x ∧ R (Its x) H1
theorem pi_str {X : Cx} {tg e : Expr} {te : TE} (he : PE X e te) : PI X tg e (iStr te) := by
  intro pins s σ H R I h
  refine thn (he pins s σ H _ I h) fun v s1 ⟨y, H1, I1, r1, q1⟩ => ?_
  obtain ⟨x, rfl, q⟩ := q1
  obtain ⟨t, rfl⟩ := r1
  have fp : ∀ (o : Obj), ∀ b ∈ [s1.heap.objs.size], FpOk X pins H1 b := fun o b hb => by
    have e : b = s1.heap.objs.size := by simpa using hb
    subst e
    exact I1.fpOk (Nat.le_refl _) (I1.hok.fresh (Nat.le_refl _))
  cases ha : x.cps.all (· < 128) with
  | true =>
    exact wpAny_pyIter_ascii ha ⟨s1.heap.objs.size, [s1.heap.objs.size], _, _, H1, rfl, I1.kept (t' := s1.toks) fun b o e => Heap.get?_push_of_some _ e, turn_str _ "str_ascii_iterator" (.inl rfl) x t, ⟨_, Heap.get?_push_size _ rfl, rfl, rfl⟩, fp default, q⟩
  | false =>
    exact wpAny_pyIter_wide ha ⟨s1.heap.objs.size, [s1.heap.objs.size], _, _, H1, rfl, I1.kept (t' := s1.toks) fun b o e => Heap.get?_push_of_some _ e, turn_str _ "str_iterator" (.inr rfl) x t, ⟨_, Heap.get?_push_size _ rfl, rfl, rfl⟩, fp default, q⟩
noncomputable def cxComp (X : Cx) (scope : Scope) (cl : List (Str × Addr)) (N' : List Str) (s : Shared) (H : Hp) (ex : List Addr) : Cx :=
  { X with N := N', s₀ := s, H₀ := H, env := compEnvC scope cl s.heap.objs.size X.env, outer := X.stack, ex := ex, fn := fun _ => false, pn := [], xe := fun _ _ => False }
structure CompOk (sc scope : Scope) (N N' : List Str) (n : Nat) (caps : List Nat) : Prop where
  kind : scope.kind = .function
  nocell : ∀ y ∈ scope.names, y.2 ≠ .cell
  loc : ∀ y ∈ scope.names, y.2 = .local → scope.names.lookup y.1 = some .local
  free : ∀ y ∈ scope.names, y.2 = .free → sc.names.lookup y.1 = some .cell ∨ sc.names.lookup y.1 = some .free
  nd : N'.Nodup
  len : N'.length = n + caps.length
  cap : ∀ k ∈ List.range caps.length, N'[n + k]? = (caps[k]?).bind (N[·]?) ∧ (N'[n + k]?).all (fun y => scope.names.lookup y == some .free) = true
noncomputable def sComp (n : Nat) (caps : List Nat) (σ : St) : St := List.replicate n none ++ caps.map fun j => (σ[j]?).join
theorem sComp_len (n : Nat) (caps : List Nat) (σ : St) : (sComp n caps σ).length = n + caps.length := by simp [sComp]
theorem closure_some {env : Env} : ∀ (names : List (Str × NameKind)), (∀ x ∈ names, x.2 = .free → ∃ c, env.cells.lookup x.1 = some c) → ∀ acc : List (Str × Addr),
    ∃ cl : List (Str × Addr), (forIn names acc (fun (x : Str × NameKind) (cs : List (Str × Addr)) => if (x.2 == .free) = true then do let a ← cellOf env x.1; pure (ForInStep.yield ((x.1, a) :: cs)) else pure (ForInStep.yield cs)) : Sem (List (Str × Addr))) = pure cl ∧
      (∀ y c, cl.lookup y = some c → env.cells.lookup y = some c ∨ acc.lookup y = some c) ∧ (∀ x ∈ names, x.2 = .free → ∃ c, cl.lookup x.1 = some c) ∧ (∀ y c, acc.lookup y = some c → ∃ c', cl.lookup y = some c')
  | [], _, acc => ⟨acc, rfl, fun _ _ h => .inr h, (fun _ h => nomatch h), fun _ c h => ⟨c, h⟩⟩
  | (n, k) :: r, h, acc => by
    cases hk : (k == NameKind.free) with
    | true =>
      have hk' : k = .free := by simpa using hk
      obtain ⟨c, hc⟩ := h (n, k) List.mem_cons_self hk'
      obtain ⟨cl, e, h1, h2, h3⟩ := closure_some r (fun x hx => h x (List.mem_cons_of_mem _ hx)) ((n, c) :: acc)
      refine ⟨cl, ?_, fun y d hy => ?_, fun x hx hf => ?_, fun y d hy => ?_⟩
      · rw [List.forIn_cons]
        simp only [hk, if_true, cellOf, hc, pure_bind]
        exact e
      · rcases h1 y d hy with z | z
        · exact .inl z
        · rw [List.lookup_cons] at z
          cases q : (y == n) with
          | true =>
            rw [q] at z
            cases z
            have : y = n := by simpa using q
            subst this
            exact .inl hc
          | false =>
            rw [q] at z
            exact .inr z
      · rcases List.mem_cons.mp hx with rfl | hx
        · exact h3 n c (by simp [List.lookup_cons])
        · exact h2 x hx hf
      · by_cases q : y = n
        · subst q
          exact h3 y c (by simp [List.lookup_cons])
        · refine h3 y d ?_
          have : (y == n) = false := by simpa using q
          rw [List.lookup_cons, this]
          exact hy
    | false =>
      obtain ⟨cl, e, h1, h2, h3⟩ := closure_some r (fun x hx => h x (List.mem_cons_of_mem _ hx)) acc
      refine ⟨cl, ?_, h1, fun x hx hf => ?_, h3⟩
      · rw [List.forIn_cons]
        simp only [hk, Bool.false_eq_true, if_false, pure_bind]
        exact e
      · rcases List.mem_cons.mp hx with rfl | hx
        · have : k = .free := hf
          rw [this] at hk
          exact absurd hk (by decide)
        · exact h2 x hx hf
theorem closureFor_some {env : Env} {scope : Scope} (h : ∀ x ∈ scope.names, x.2 = .free → ∃ c, env.cells.lookup x.1 = some c) :
    ∃ cl : List (Str × Addr), closureFor scope env = pure cl ∧ (∀ y c, cl.lookup y = some c → env.cells.lookup y = some c) ∧ ∀ x ∈ scope.names, x.2 = .free → ∃ c, cl.lookup x.1 = some c := by
  obtain ⟨cl, e, h1, h2, _⟩ := closure_some scope.names h []
  refine ⟨cl, ?_, fun y c hy => (h1 y c hy).elim id (fun z => nomatch z), h2⟩
  simp only [closureFor]
  rw [← bind_pure (forIn _ _ _)] at e
  first
    | exact e
    | (refine Eq.trans ?_ e; rfl)
theorem lookup_relabel {env : Env} : ∀ (names : List (Str × NameKind)) (x : Str),
    (names.map fun (n, k) => if (k == NameKind.free && env.scope.kind == .function && env.kindOf n == some .cell) then (n, NameKind.cell) else (n, k)).lookup x =
      (names.lookup x).map fun k => if (k == NameKind.free && env.scope.kind == .function && env.kindOf x == some .cell) = true then NameKind.cell else k
  | [], _ => rfl
  | (n, k) :: r, x => by
    have ih := @lookup_relabel env r x
    have l1 : List.lookup x (((n, k) :: r).map fun (n, k) => if (k == NameKind.free && env.scope.kind == .function && env.kindOf n == some .cell) then (n, NameKind.cell) else (n, k)) =
        List.lookup x ((if (k == NameKind.free && env.scope.kind == .function && env.kindOf n == some .cell) = true then (n, NameKind.cell) else (n, k)) :: r.map fun (n, k) => if (k == NameKind.free && env.scope.kind == .function && env.kindOf n == some .cell) then (n, NameKind.cell) else (n, k)) := rfl
    rw [l1, List.lookup_cons (as := r)]
    by_cases hc : (k == NameKind.free && env.scope.kind == .function && env.kindOf n == some .cell) = true
    · rw [if_pos hc, List.lookup_cons]
      cases hx : x == n with
      | true =>
        have e : x = n := by simpa using hx
        subst e
        show some NameKind.cell = some (if (k == NameKind.free && env.scope.kind == .function && env.kindOf x == some .cell) = true then NameKind.cell else k)
        rw [if_pos hc]
      | false => exact ih
    · rw [if_neg hc, List.lookup_cons]
      cases hx : x == n with
      | true =>
        have e : x = n := by simpa using hx
        subst e
        show some k = some (if (k == NameKind.free && env.scope.kind == .function && env.kindOf x == some .cell) = true then NameKind.cell else k)
        rw [if_neg hc]
      | false => exact ih
end L2
namespace L2
open PySem PySem.Spec PyProof.Rows
section
variable {prog : Program} {w : World} {A : Around} {R : Result → Shared → Prop} {s : Shared}
theorem compLoop_any {elt target iter : Expr} {ifs : List Expr} {scope : Scope} {pos : Pos} {it acc : Value} {env : Env} (I : Nat → Shared → Prop)
    (turn : ∀ n s, I n s → wpAny (model prog w) A (pyNext it) (fun r s₁ => match r with
      | none => R (.ok .next) s₁
      | some v => wpAny (model prog w) A (letOwnedTupleGo target it v) (fun _ s₁' => wpAny (model prog w) A (assign target env v) (fun _ s₂ =>
          wpAny (model prog w) A (forIn ifs true fun c r => if r = true then do let ok ← isTrue c env (eval c env); pure (ForInStep.yield ok) else pure (ForInStep.yield r)) (fun ok s₃ =>
            if ok = true then wpAny (model prog w) A (eval elt env) (fun x s₄ =>
              wpAny (model prog w) A (call (.builtin "list.append") [acc, x]) (fun _ s₅ => ∃ m, m < n ∧ I m s₅) (fun _ _ => False) s₄) (fun _ _ => False) s₃
            else ∃ m, m < n ∧ I m s₃) (fun _ _ => False) s₂) (fun _ _ => False) s₁') (fun _ _ => False) s₁) (fun _ _ => False) s)
    (n : Nat) (h : I n s) :
    codeAny (model prog w) A (.compLoop (.ListComp elt [⟨target, iter, ifs, 0⟩] scope pos) 0 it acc env) R s := by
  refine codeAny_loop rfl I (fun n s hI => ?_) n h
  show wpAny _ A ((compTurn (.ListComp elt [⟨target, iter, ifs, 0⟩] scope pos) 0 it acc env).onRaise (fun x => do noteFrame x env; theTreesLotGoes x)) _ _ s
  refine wpAny_noted ?_
  rw [compTurn_list]
  refine wpAny_bind (wpAny_standAt (wpAny_bind (wpAny_mono (turn n s hI) (fun r s₁ h₁ => ?_) fun _ _ h' => h'.elim)))
  cases r with
  | none => exact wpAny_pure h₁
  | some v =>
    refine wpAny_bind (wpAny_mono h₁ (fun _ s₁' h₁' => ?_) fun _ _ h' => h'.elim)
    refine wpAny_bind (wpAny_mono h₁' (fun _ s₂ h₂ => wpAny_bind (wpAny_mono h₂ (fun ok s₃ h₃ => ?_) fun _ _ h' => h'.elim)) fun _ _ h' => h'.elim)
    cases ok with
    | false => exact wpAny_pure ⟨rfl, h₃⟩
    | true =>
      exact wpAny_bind (wpAny_bind (wpAny_mono h₃ (fun x s₄ h₄ => wpAny_bind (wpAny_mono h₄ (fun _ s₅ h₅ => wpAny_pure (wpAny_pure ⟨rfl, h₅⟩)) fun _ _ h' => h'.elim)) fun _ _ h' => h'.elim))
end
noncomputable def PF (X : Cx) (ifs : List Expr) (t : TT) : Prop :=
  ∀ (pins : List (Addr × Obj)) (s : Shared) (σ : St) (H : Hp) (Q : Bool → Hp → Prop), Inv X pins σ H s → t σ H Q →
    wpAny (model X.prog X.w) X.A (forIn ifs true fun c r => if r = true then do let ok ← isTrue c X.env (eval c X.env); pure (ForInStep.yield ok) else pure (ForInStep.yield r)) (TP X pins σ Q) X.xe s
theorem pf_nil {X : Cx} : PF X [] fun _ H Q => Q true H := fun _ _ _ H _ I h => wpAny_tests_nil ⟨H, I, h⟩
theorem pf_one {X : Cx} {c : Expr} {t : TT} (h : PT X c t) : PF X [c] t := fun pins s σ H Q I q => wpAny_tests_one (h pins s σ H Q I q)
noncomputable def Wk (σ σ' : St) : Prop := σ'.length = σ.length ∧ ∀ (j : Nat) (v : V), σ[j]? = some (some v) → σ'[j]? = some (some v)
noncomputable def tComp (n : Nat) (caps : List Nat) (wi : TI) (g : TG) (tt : TT) (te : TE) : TE := fun σ H Q => wi σ H fun J H1 => ∀ D, H1 D = none →
  ∃ W : Nat → Nat → List V → Hp → Prop, (∃ m, W 0 m [] (upd H1 D (.lst []))) ∧ ∀ i m ys H2, W i m ys H2 →
    (J.stop i H2 ∧ Q (.ref D) H2) ∨ (J.go i H2 ∧ ∀ x H3, J.yld i H2 x H3 → g x (sComp n caps σ) H3 fun σ4 H4 => Wk (sComp n caps σ) σ4 ∧ tt σ4 H4 fun b H5 =>
      if b = true then te σ4 H5 fun y H6 => H6 D = some (.lst ys) ∧ ys.length < sizeLine ∧ ∃ m', m' < m ∧ W (i + 1) m' (ys ++ [y]) (upd H6 D (.lst (ys ++ [y]))) else ∃ m', m' < m ∧ W (i + 1) m' ys H5)
section
variable {X : Cx} {sc : Scope} {elt iter tg : Expr} {ifs : List Expr} {scope : Scope} {pos : Pos} {N' : List Str} {n : Nat} {caps : List Nat} {wi : TI} {g : TG} {tt : TT} {te : TE}
noncomputable def Aside (X : Cx) (pins : List (Addr × Obj)) (H : Hp) (C : Addr) : Prop :=
  H C = none ∧ C ≠ X.env.locals ∧ X.s₀.heap.objs.size ≤ C ∧ (∀ x c, X.env.cells.lookup x = some c → c ≠ C) ∧ ∀ p ∈ X.pn ++ pins, p.1 ≠ C
theorem comp_core {pins : List (Addr × Obj)} {σ : St} {H2 : Hp} {s2 : Shared} {it : Addr} {fp : List Addr} {tn : Nat → Heap → Prop} {J : It} {cl : List (Str × Addr)} {Q : VK} {RR : Value → Addr → Result → Shared → Prop} {E : Value → Shared → Prop}
    (hc : X.calm = true) (hsc : X.env.scope = sc) (ok : CompOk sc scope X.N N' n caps)
    (hcl1 : ∀ y c, cl.lookup y = some c → X.env.cells.lookup y = some c) (hcl2 : ∀ x ∈ scope.names, x.2 = .free → ∃ c, cl.lookup x.1 = some c)
    (hg : ∀ s H ex, PG (cxComp X scope cl N' s H ex) tg g) (ht : ∀ s H ex, PF (cxComp X scope cl N' s H ex) ifs tt) (he : ∀ s H ex, PE (cxComp X scope cl N' s H ex) elt te)
    (I2 : Inv X pins σ H2 s2) (T : Turn X.prog X.w X.K tg J fp it tn) (st2 : tn 0 s2.heap) (f2 : ∀ b ∈ fp, FpOk X pins H2 b)
    (q : ∀ D, H2 D = none → ∃ W : Nat → Nat → List V → Hp → Prop, (∃ m, W 0 m [] (upd H2 D (.lst []))) ∧ ∀ i m ys H2, W i m ys H2 →
      (J.stop i H2 ∧ Q (.ref D) H2) ∨ (J.go i H2 ∧ ∀ x H3, J.yld i H2 x H3 → g x (sComp n caps σ) H3 fun σ4 H4 => Wk (sComp n caps σ) σ4 ∧ tt σ4 H4 fun b H5 =>
        if b = true then te σ4 H5 fun y H6 => H6 D = some (.lst ys) ∧ ys.length < sizeLine ∧ ∃ m', m' < m ∧ W (i + 1) m' (ys ++ [y]) (upd H6 D (.lst (ys ++ [y]))) else ∃ m', m' < m ∧ W (i + 1) m' ys H5))
    (hend : ∀ (D C : Addr) (H' : Hp) (s' : Shared) (m : Str → Option Value), Inv X pins σ H' s' → Aside X pins H' C → s'.heap.Ns C m → Q (.ref D) H' → RR (.ref D) C (.ok .next) s') :
    wpAny (model X.prog X.w) X.A (newList []) (fun acc s₃ => wpAny (model X.prog X.w) X.A (newFunctionEnv scope X.env.globals cl [] X.env.qual none .none (some X.env)) (fun cenv s₄ =>
      codeAny (model X.prog X.w) X.A (.compStart (.ListComp elt [⟨tg, iter, ifs, 0⟩] scope pos) 0 (.ref it) acc { cenv with scope := relabel scope X.env }) (RR acc cenv.locals) s₄) E s₃) E s2 := by
  refine wpAny_newObj_type (wpAny_newFunctionEnv ok.nocell (by intro y hy; simp at hy) (fun h₁ hns₁ hsb₁ => ?_) ok.kind)
  dsimp only at hns₁ hsb₁ ⊢
  -- the list, its address
  obtain ⟨D, hD⟩ : ∃ D, D = s2.heap.objs.size := ⟨_, rfl⟩
  have I3 : Inv X pins σ (upd H2 s2.heap.objs.size (.lst [])) { s2 with heap := s2.heap.push { cls := .type "list", data := .seq ([] : List Value).toArray } } := I2.lnew (its := []) (t' := s2.toks) .nil (Nat.zero_le _)
  have hfD : H2 s2.heap.objs.size = none := I2.fresh
  obtain ⟨W, ⟨m0, w0⟩, turn⟩ := q s2.heap.objs.size hfD
  generalize hs3 : ({ s2 with heap := s2.heap.push { cls := .type "list", data := .seq ([] : List Value).toArray } } : Shared) = s3 at *
  have hs3h : s2.heap.push { cls := .type "list", data := .seq ([] : List Value).toArray } = s3.heap := by rw [← hs3]
  have hs3t : s2.toks = s3.toks := by rw [← hs3]
  rw [hs3h] at hns₁ hsb₁ ⊢
  generalize hH3 : upd H2 s2.heap.objs.size (HO.lst []) = H3 at *
  rw [← hD] at turn hH3 hfD ⊢
  have old : ∀ b o, s3.heap.get? b = some o → h₁.get? b = some o := fun b o e => hsb₁.extBut b o (Nat.ne_of_lt (Heap.lt_size e)) (Heap.get?_push_of_some _ e)
  have old2 : ∀ b o, s2.heap.get? b = some o → s3.heap.get? b = some o := fun b o e => by rw [← hs3h]; exact Heap.get?_push_of_some _ e
  have fpl : ∀ b ∈ fp, b < s3.heap.objs.size := fun b hb => by
    obtain ⟨o, e, _⟩ := T.obj _ _ st2 b hb
    exact Heap.lt_size (old2 b o e)
  have fpD : ∀ b ∈ fp, b ≠ D := fun b hb z => by
    obtain ⟨o, e, _⟩ := T.obj _ _ st2 b hb
    rw [z, hD] at e
    exact absurd (Heap.lt_size e) (Nat.lt_irrefl _)
  -- the block's context
  obtain ⟨X', hX'⟩ : ∃ X', X' = cxComp X scope cl N' s3 H3 fp := ⟨_, rfl⟩
  have okX : X'.Ok := by
    subst hX'
    refine ⟨I3.ok.mod, ok.kind, I3.ok.glob, I3.ok.blt, Nat.le_refl _, fun x y c h1 h2 => I3.ok.inj x y c (hcl1 x c h1) (hcl1 y c h2), fun x hx => ?_, fun x c h _ => absurd h (by simp [cxComp]), I3.ok.hd, I3.ok.frames, .inl rfl,
      fun b hb => ⟨Nat.ne_of_lt (fpl b hb), fun x c e => (f2 b hb).2.2.2.2.1 x c (hcl1 x c e)⟩, fun b o e => I3.bs b o e, Nat.le_trans I3.ok.bsz I3.sz, fun b o e hb => ?_, fun b hb hf => ?_, I3.stack, I3.stkFree⟩
    · have hx' : ((relabel scope X.env).names.lookup x = some .cell) ∨ ((relabel scope X.env).names.lookup x = some .free) := hx
      have q2 := lookup_relabel (env := X.env) scope.names x
      have q3 : (relabel scope X.env).names.lookup x = (scope.names.lookup x).map fun k => if (k == NameKind.free && X.env.scope.kind == .function && X.env.kindOf x == some .cell) = true then NameKind.cell else k := q2
      cases e : scope.names.lookup x with
      | none =>
        rw [q3, e] at hx'
        rcases hx' with z | z <;> cases z
      | some k =>
        have hk : k = .free := by
          rw [q3, e] at hx'
          have nc := ok.nocell (x, k) (PySem.mem_of_lookup e)
          cases k <;> first
            | rfl
            | exact absurd rfl nc
            | (rcases hx' with z | z <;> simp at z)
        subst hk
        exact hcl2 (x, .free) (PySem.mem_of_lookup e) rfl
    · rcases (f2 b hb).2.2.2.1 with z | z
      · exact I3.ok.noex b o e z
      · exact absurd (Nat.lt_of_lt_of_le (Heap.lt_size (I3.ok.bs b o e).1) z) (Nat.lt_irrefl _)
    · rcases List.mem_cons.mp (I3.stkSub b hf) with z | z
      · exact (f2 b hb).2.1 z
      · exact (f2 b hb).2.2.1 z
  have I4 : Inv X' [] (sComp n caps σ) H3 { s3 with heap := h₁, toks := s2.toks + ([] : List (Str × Value)).length } := by
    refine ⟨okX, ?_, ?_, ?_, ?_, fun x c e => ?_, ?_, fun x c e => ?_, fun p hp => ?_, (by subst hX'; exact I3.hok.kept old), ?_⟩
    · subst hX'; rfl
    · exact I3.bare
    · subst hX'; exact Un.kept old
    · subst hX'
      refine ⟨_, hns₁, fun i x v e1 e2 e3 => ?_⟩
      have hi : n ≤ i := by
        by_cases hi : i < n
        · unfold sComp at e2
          rw [List.getElem?_append_left (by simpa using hi), List.getElem?_replicate, if_pos hi] at e2
          cases e2
        · omega
      obtain ⟨k, rfl⟩ : ∃ k, i = n + k := ⟨i - n, by omega⟩
      have hk : k < caps.length := by
        have := (List.getElem?_eq_some_iff.mp e1).1
        have e5 : (cxComp X scope cl N' s3 H3 fp).N.length = n + caps.length := ok.len
        omega
      obtain ⟨c1, c2⟩ := ok.cap k (List.mem_range.mpr hk)
      have e1' : N'[n + k]? = some x := e1
      unfold sComp at e2
      rw [List.getElem?_append_right (by simp), List.length_replicate, Nat.add_sub_cancel_left, List.getElem?_map] at e2
      obtain ⟨j, hj⟩ : ∃ j, caps[k]? = some j := ⟨caps[k], by simp [hk]⟩
      rw [hj] at e2 c1
      have hj2 : X.N[j]? = some x := by rw [← e1', c1]; rfl
      have e2' : (σ[j]?).join = some v := Option.some.inj e2
      have e2'' : σ[j]? = some (some v) := by
        cases q : σ[j]? with
        | none => rw [q] at e2'; cases e2'
        | some o => rw [q] at e2'; rw [show o = some v from e2']
      rw [e1'] at c2
      have hfree : scope.names.lookup x = some .free := by simpa using c2
      have hvis := ok.free (x, .free) (PySem.mem_of_lookup hfree) rfl
      obtain ⟨m, hn, hl⟩ := I3.loc
      obtain ⟨u, ru, l⟩ := hl j x v hj2 e2'' (by
        rcases hvis with z | z
        · exact .inr (.inl (by rw [hsc]; exact z))
        · exact .inr (.inr (by rw [hsc]; exact z)))
      refine ⟨u, ru, .inr ⟨?_, ?_⟩⟩
      · have q3 : (relabel scope X.env).names.lookup x = (scope.names.lookup x).map fun k => if (k == NameKind.free && X.env.scope.kind == .function && X.env.kindOf x == some .cell) = true then NameKind.cell else k := lookup_relabel scope.names x
        rw [hfree] at q3
        show (relabel scope X.env).names.lookup x = _ ∨ (relabel scope X.env).names.lookup x = _
        rw [q3]
        by_cases hcc : (NameKind.free == NameKind.free && X.env.scope.kind == .function && X.env.kindOf x == some .cell) = true
        · left; simp only [Option.map_some, if_pos hcc]
        · right; simp only [Option.map_some, if_neg hcc]
      · obtain ⟨c', hc'⟩ := hcl2 (x, .free) (PySem.mem_of_lookup hfree) rfl
        rcases l with ⟨hkk, _⟩ | ⟨_, c, hc2, hcell⟩
        · have hkk' : X.env.scope.names.lookup x = some .local := hkk
          rw [hsc] at hkk'
          rcases hvis with z | z <;> (rw [hkk'] at z; cases z)
        · have := hcl1 x c' hc'
          rw [hc2] at this
          cases this
          obtain ⟨o, ho, hd⟩ := hcell
          exact ⟨_, hc', o, old _ o ho, hd⟩
    · have e' : cl.lookup x = some c := by subst hX'; exact e
      obtain ⟨v, o, ho, hd⟩ := I3.cell x c (hcl1 x c e')
      exact ⟨v, o, old _ o ho, hd⟩
    · subst hX'; exact I3.hok.fresh (Nat.le_refl _)
    · have e' : cl.lookup x = some c := by subst hX'; exact e
      exact I3.freeC x c (hcl1 x c e')
    · subst hX'; exact absurd hp (by simp [cxComp])
    · subst hX'
      show _ = N'.length
      rw [sComp_len, ok.len]
  have hX'c : X'.calm = true := by subst hX'; exact hc
  have hfpX : ∀ {H' : Hp}, (∀ b ∈ fp, H' b = none) → ∀ b ∈ fp, FpOk X' [] H' b := fun {H'} hn b hb => by
    subst hX'
    refine ⟨hn b hb, Nat.ne_of_lt (fpl b hb), fun hf => ?_, .inl hb, fun x c e => (f2 b hb).2.2.2.2.1 x c (hcl1 x c e), fun p hp => absurd hp (by simp [cxComp])⟩
    rcases List.mem_cons.mp (I3.stkSub b hf) with z | z
    · exact (f2 b hb).2.1 z
    · exact (f2 b hb).2.2.1 z
  have fr3 : ∀ b ∈ fp, H3 b = none := fun b hb => by rw [← hH3, upd_ne (fpD b hb)]; exact (f2 b hb).1
  have st4 : tn 0 h₁ := T.keep _ _ _ st2 fun b hb o e => old b o (old2 b o e)
  have loop : ∀ s4 : Shared, s4 = { s3 with heap := h₁, toks := s2.toks + ([] : List (Str × Value)).length } →
      codeAny (model X.prog X.w) X.A (.compLoop (.ListComp elt [⟨tg, iter, ifs, 0⟩] scope pos) 0 (.ref it) (.ref D) X'.env) (RR (.ref D) s3.heap.objs.size) s4 := by
    rintro s4 rfl
    refine compLoop_any (fun k s' => ∃ i ys H', Inv X' [] (sComp n caps σ) H' s' ∧ tn i s'.heap ∧ (∀ b ∈ fp, H' b = none) ∧ W i k ys H') ?_ m0 ⟨0, [], H3, I4, st4, fr3, w0⟩
    rintro k s5 ⟨i, ys, H5, I5, st5, fr5, w5⟩
    have eP : X'.prog = X.prog := by subst hX'; rfl
    have ew : X'.w = X.w := by subst hX'; rfl
    have eK : X'.K = X.K := by subst hX'; rfl
    have eA : X'.A = X.A := by subst hX'; rfl
    rcases turn i k ys H5 w5 with ⟨stop, qe⟩ | ⟨go, step⟩
    · have T' := T.done X' eP ew eK hX'c i [] s5 (sComp n caps σ) H5 (fun _ _ => False) I5 (hfpX fr5) st5 stop
      rw [eA] at T'
      refine thn T' fun r s6 ⟨hr, I6⟩ => ?_
      subst hr
      -- the block's end: back to the body
      have un6 : Un (frs X.stack) fp H3 H5 s3.heap s6.heap := by have := I6.base; subst hX'; exact this
      have hos : s6.os = s3.os := by have := I6.os; subst hX'; exact this
      have hok6 : HOk X.prog X.w H5 s6.heap := by have := I6.hok; subst hX'; exact this
      have IX : Inv X pins σ H5 s6 := I3.call' hos un6 hok6 I6.bare fun b hb => ⟨(f2 b hb).2.2.2.1, (f2 b hb).2.1, (f2 b hb).2.2.2.2.1, (f2 b hb).2.2.2.2.2⟩
      obtain ⟨m6, hn6, _⟩ := I6.loc
      have hn6' : s6.heap.Ns s3.heap.objs.size m6 := by subst hX'; exact hn6
      refine hend D s3.heap.objs.size H5 s6 m6 IX ⟨by have := I6.free; subst hX'; exact this, Nat.ne_of_gt I3.lt, I3.sz, fun x c e z => ?_, fun p hp z => ?_⟩ hn6' qe
      · obtain ⟨v, qc⟩ := I3.cell x c e
        exact absurd (Nat.lt_of_lt_of_le qc.lt (Nat.le_of_eq z.symm)) (Nat.lt_irrefl _)
      · exact absurd (Nat.lt_of_lt_of_le (Heap.lt_size (I3.pin p hp).1) (Nat.le_of_eq z.symm)) (Nat.lt_irrefl _)
    · have T' := T.item X' eP ew eK hX'c i [] s5 (sComp n caps σ) H5 (fun _ _ => False) I5 (hfpX fr5) st5 go
      rw [eA] at T'
      refine thn T' fun r s6 ⟨u, hr, h6⟩ => ?_
      subst hr
      refine thn h6 fun _ s7 ⟨x, H7, I7, r7, y7, st7, fr7⟩ => ?_
      have I7' := I7.pinned (hfpX fr7) (T.obj _ _ st7)
      have hg' := hg s3 H3 fp
      have ht' := ht s3 H3 fp
      have he' := he s3 H3 fp
      rw [← hX'] at hg' ht' he'
      have g1 := hg' _ s7 (sComp n caps σ) H7 x u _ I7' r7 (step x H7 y7)
      rw [eP, ew, eA] at g1
      have exe : X'.xe = fun _ _ => False := by subst hX'; rfl
      rw [exe] at g1
      refine thn g1 fun _ s8 ⟨σ8, H8, I8, wk8, q8⟩ => ?_
      have t1 := ht' _ s8 σ8 H8 _ I8 q8
      rw [eP, ew, eA, exe] at t1
      refine thn t1 fun b s9 ⟨H9, I9, q9⟩ => ?_
      have back : ∀ {σa : St} {Ha : Hp} {sa : Shared} {ysa : List V} {ma : Nat}, Inv X' ([] ++ pinsAt fp s7.heap) σa Ha sa → σa.length = (sComp n caps σ).length → (∀ (j : Nat) v, (sComp n caps σ)[j]? = some (some v) → σa[j]? = some (some v)) → W (i + 1) ma ysa Ha →
          ∃ i ys H', Inv X' [] (sComp n caps σ) H' sa ∧ tn i sa.heap ∧ (∀ b ∈ fp, H' b = none) ∧ W i ma ys H' := fun {σa Ha sa ysa ma} Ia hl hw wa => by
        refine ⟨i + 1, ysa, Ha, (Ia.weak hl.symm hw).unpinned, T.keep _ _ _ st7 fun b hb o e => (Ia.pin (b, o) (List.mem_append_right _ (List.mem_append_right _ (mem_pinsAt hb e)))).1, fun b hb => ?_, wa⟩
        obtain ⟨o, e, d⟩ := T.obj _ _ st7 b hb
        exact (Ia.pin (b, o) (List.mem_append_right _ (List.mem_append_right _ (mem_pinsAt hb e)))).2.1
      cases b with
      | false =>
        rw [if_neg Bool.false_ne_true]
        rw [if_neg Bool.false_ne_true] at q9
        obtain ⟨m', hm, w9⟩ := q9
        exact ⟨m', hm, back I9 wk8.1 wk8.2 w9⟩
      | true =>
        rw [if_pos rfl]
        rw [if_pos rfl] at q9
        have e1 := he' _ s9 σ8 H9 _ I9 q9
        rw [eP, ew, eA, exe] at e1
        refine thn e1 fun v s10 ⟨y, H10, I10, r10, hD10, hlen, m', hm, w10⟩ => ?_
        have a1 := mt_append (X := X') _ s10 σ8 H10 (.ref D) [y] (.ref D) [v] (fun _ H' => W (i + 1) m' (ys ++ [y]) H') I10 rfl (.cons r10 .nil) ⟨D, ys, y, rfl, rfl, hD10, hlen, w10⟩
        rw [eP, ew, eA, exe] at a1
        refine thn a1 fun _ s11 ⟨_, H11, I11, _, w11⟩ => ?_
        exact ⟨m', hm, back I11 wk8.1 wk8.2 w11⟩
  subst hX'
  exact codeAny_compStart_list (loop _ (by rw [← hs3])) (T.self X.A 0 _ _ _ st4 (loop _ (by rw [← hs3])))
theorem pe_comp (hc : X.calm = true) (hsc : X.env.scope = sc) (ok : CompOk sc scope X.N N' n caps) (hi : PI X tg iter wi)
    (hg : ∀ cl s H ex, PG (cxComp X scope cl N' s H ex) tg g) (ht : ∀ cl s H ex, PF (cxComp X scope cl N' s H ex) ifs tt) (he : ∀ cl s H ex, PE (cxComp X scope cl N' s H ex) elt te)
    (hs : ∀ x, foldedSetIterable iter X.env x = pure x := by intro _; rfl) :
    PE X (.ListComp elt [⟨tg, iter, ifs, 0⟩] scope pos) (tComp n caps wi g tt te) := by
  intro pins s σ H Q I h
  obtain ⟨cl, hclos, hcl1, hcl2⟩ := closureFor_some (env := X.env) (scope := scope) fun x hx hf => I.ok.has x.1 (by
    rcases ok.free x hx hf with z | z
    · exact .inl (by show X.env.scope.names.lookup x.1 = _; rw [hsc]; exact z)
    · exact .inr (by show X.env.scope.names.lookup x.1 = _; rw [hsc]; exact z))
  rw [eval_ListComp]
  refine wpAny_comprehension_free (use := none) rfl hs hclos ok.kind ok.loc (thn (hi pins s σ H _ I h) fun v s1 h1 => thn h1 fun itv s2 h2 => ?_)
  obtain ⟨it, fp, tn, J, H2, rfl, I2, T, st2, f2, q2⟩ := h2
  refine comp_core (Q := Q) (RR := fun acc C => compPost (model X.prog X.w) X.A X.xe none (EP X pins σ Q) acc C) hc hsc ok hcl1 hcl2 (hg cl) (ht cl) (he cl) I2 T st2 f2 q2 ?_
  intro D C H' s' m IX as hn qe
  refine ⟨m, hn, fun h' sb => ⟨.ref D, H', IX.turned (t' := s'.toks) (fun b o hb e => (sb.2 b hb).trans e) as.1 as.2.1 (.inr as.2.2.1) as.2.2.2.1 as.2.2.2.2, rfl, qe⟩⟩
theorem ps_setComp {i : Nat} {y : Str} {py spos : Pos} (hN : X.N.Nodup) (hiN : X.N[i]? = some y) (hy : Loc X.env.scope y) (hc : X.calm = true) (hsc : X.env.scope = sc) (ok : CompOk sc scope X.N N' n caps) (hi : PI X tg iter wi)
    (hg : ∀ cl s H ex, PG (cxComp X scope cl N' s H ex) tg g) (ht : ∀ cl s H ex, PF (cxComp X scope cl N' s H ex) ifs tt) (he : ∀ cl s H ex, PE (cxComp X scope cl N' s H ex) elt te)
    (hsw : swapsWith (.ListComp elt [⟨tg, iter, ifs, 0⟩] scope pos) (some (.Name y py)) spos.line X.env = pure true := by rfl)
    (hs : ∀ x, foldedSetIterable iter X.env x = pure x := by intro _; rfl)
    (hf : X.fn y = true ∨ X.env.scope.names.lookup y = some .local := by first | exact .inl rfl | exact .inr rfl | assumption) :
    PS X (.Assign [.Name y py] (.ListComp elt [⟨tg, iter, ifs, 0⟩] scope pos) spos) (fun D σ H => tComp n caps wi g tt te σ H fun v H' => D.nx (σ.set i (some v)) H') := by
  intro pins s σ H D I h
  obtain ⟨cl, hclos, hcl1, hcl2⟩ := closureFor_some (env := X.env) (scope := scope) fun x hx hf => I.ok.has x.1 (by
    rcases ok.free x hx hf with z | z
    · exact .inl (by show X.env.scope.names.lookup x.1 = _; rw [hsc]; exact z)
    · exact .inr (by show X.env.scope.names.lookup x.1 = _; rw [hsc]; exact z))
  rw [exec_Assign_Name_used _ _ _ _ hsw]
  refine wpAny_bind (wpAny_standAt (wpAny_bind ?_))
  show wpAny _ X.A (do let _ ← comprehension (.ListComp elt [⟨tg, iter, ifs, 0⟩] scope pos) scope X.env _ (newList []) false (eval iter X.env) (some (assign (.Name y py) X.env))) _ _ s
  refine wpAny_bind (wpAny_mono (wpAny_comprehension_free (use := some (assign (.Name y py) X.env)) (Q := fun _ s' => SP X pins D .next s') rfl hs hclos ok.kind ok.loc
    (thn (hi pins s σ H _ I h) fun v s1 h1 => thn h1 fun itv s2 h2 => ?_)) (fun _ s' hq => wpAny_pure (wpAny_pure hq)) fun _ _ e => e)
  obtain ⟨it, fp, tn, J, H2, rfl, I2, T, st2, f2, q2⟩ := h2
  refine comp_core (Q := fun v H' => D.nx (σ.set i (some v)) H') (RR := fun acc C => compPost (model X.prog X.w) X.A X.xe (some (assign (.Name y py) X.env)) (fun _ s' => SP X pins D .next s') acc C) hc hsc ok hcl1 hcl2 (hg cl) (ht cl) (he cl) I2 T st2 f2 q2 ?_
  intro Da C H' s' m IX as hn qe
  show wpAny _ X.A (assign (.Name y py) X.env (.ref Da)) _ _ _
  refine wpAny_assign_Name (store_ok2 IX hN hiN hy (v := .ref Da) rfl (fun s'' I'' ⟨a, sb, ha⟩ => ?_) hf)
  have hCa : C ≠ a := by
    rcases ha with z | z
    · rw [z]; exact as.2.1
    · exact Ne.symm (as.2.2.2.1 y a z)
  refine ⟨m, hn.sameBut sb hCa, fun h' sb' => ⟨_, H', I''.turned (t' := s''.toks) (fun b o hb e => (sb'.2 b hb).trans e) as.1 as.2.1 (.inr as.2.2.1) as.2.2.2.1 as.2.2.2.2, qe⟩⟩
end
end L2
namespace DL
open PySem PySem.Spec PyProof.Rows
inductive D where
  | non | bl (b : Bool) | int (i : Int) | str (x : Str) | tup (ds : List D) | lst (ds : List D) | dct (ks : Sum (List (Sum Int Str)) (List (List (Sum Int Str)))) (ds : List D)
  deriving Inhabited
@[simp] noncomputable def unl : D → D
  | .tup [_, d] => d
  | d => d
@[simp] noncomputable def isL : D → Bool
  | .tup _ => true
  | _ => false
inductive Sl where
  | un | sh (d : D) | ow (d : D)
  | ex (c : Str) (n : Option Int)
noncomputable abbrev Ds := List Sl
inductive Res where
  | nx (δ : Ds) | rt (d : D) | bk (δ : Ds) | ct (δ : Ds) | rf (d : D)
noncomputable abbrev GE := Ds → Option D
noncomputable abbrev GB := Ds → Option Bool
noncomputable abbrev GA := Ds → Option (List D)
noncomputable abbrev GS := Ds → Option Res
@[simp] noncomputable def asB : D → Option Bool
  | .bl b => some b
  | _ => none
@[simp] noncomputable def asI : D → Option Int
  | .int i => some i
  | _ => none
@[simp] noncomputable def gv (i : Nat) : GE := fun δ => match δ[i]? with
  | some (.sh d) => some d
  | _ => none
@[simp] noncomputable def gc (d : D) : GE := fun _ => some d
@[simp] noncomputable def o2 (ga gb : GE) (f : D → D → Option D) : GE := fun δ => (ga δ).bind fun x => (gb δ).bind fun y => f x y
@[simp] noncomputable def ob (g : GE) : GB := fun δ => (g δ).bind asB
@[simp] noncomputable def tNotG (g : GB) : GB := fun δ => (g δ).map (!·)
@[simp] noncomputable def andG (ga gb : GE) : GE := fun δ => (ob ga δ).bind fun t => if t = true then gb δ else some (.bl false)
@[simp] noncomputable def notG (ga : GE) : GE := fun δ => (ob ga δ).map fun t => .bl (!t)
@[simp] noncomputable def nilA : GA := fun _ => some []
@[simp] noncomputable def consA (g : GE) (gA : GA) : GA := fun δ => (g δ).bind fun d => (gA δ).map fun ds => d :: ds
@[simp] noncomputable def tupG (gA : GA) : GE := fun δ => (gA δ).bind fun ds => if ds.length ≤ sizeLine then some (.tup ds) else none
@[simp] noncomputable def lstG (gA : GA) : GE := fun δ => (gA δ).bind fun ds => if ds.length ≤ sizeLine then some (.lst ds) else none
@[simp] noncomputable def oA (gA : GA) (f : List D → Option D) : GE := fun δ => (gA δ).bind f
@[simp] noncomputable def isiG (f : D → Bool) (g : GE) : GE := fun δ => (g δ).map fun d => .bl (f d)
@[simp] noncomputable def negD (d : D) : Option D := match d with
  | .int i => some (.int (-i))
  | _ => none
@[simp] noncomputable def unG (f : D → Option D) (g : GE) : GE := fun δ => (g δ).bind f
@[simp] noncomputable def seqD (G1 G2 : GS) : GS := fun δ => match G1 δ with
  | some (.nx δ') => G2 δ'
  | r => r
@[simp] noncomputable def nilD : GS := fun δ => some (.nx δ)
@[simp] noncomputable def retD (g : GE) : GS := fun δ => (g δ).map .rt
@[simp] noncomputable def gN (i : Nat) : D → Ds → Option Ds := fun d δ => some (δ.set i (.sh d))
@[simp] noncomputable def setD (f : D → Ds → Option Ds) (g : GE) : GS := fun δ => (g δ).bind fun d => (f d δ).map .nx
@[simp] noncomputable def ifD (gt : GB) (Ga Gb : GS) : GS := fun δ => (gt δ).bind fun t => if t = true then Ga δ else Gb δ
noncomputable def forD (f : D → Ds → Option Ds) (G : GS) : List D → Ds → Option Res
  | [], δ => some (.nx δ)
  | d :: ds, δ => match (f d δ).bind G with
    | some (.nx δ') => forD f G ds δ'
    | some (.ct δ') => forD f G ds δ'
    | some (.bk δ') => some (.nx δ')
    | r => r
@[simp] noncomputable def forG (gi : GA) (f : D → Ds → Option Ds) (G : GS) : GS := fun δ => (gi δ).bind fun items => forD f G items δ
@[simp] noncomputable def asLst : D → Option (List D)
  | .lst ds => some ds
  | _ => none
@[simp] noncomputable def asTup : D → Option (List D)
  | .tup ds => some ds
  | _ => none
noncomputable def signs (x : Str) : List D := x.cps.toList.map fun c => .str ⟨#[c]⟩
@[simp] noncomputable def asSigns : D → Option (List D)
  | .str x => some (signs x)
  | _ => none
@[simp] noncomputable def lstI (g : GE) : GA := fun δ => (g δ).bind asLst
@[simp] noncomputable def tupI (g : GE) : GA := fun δ => (g δ).bind asTup
@[simp] noncomputable def strI (g : GE) : GA := fun δ => (g δ).bind asSigns
noncomputable def rngD (lo hi : Int) : List D := (List.range (hi - lo).toNat).map fun k => .int (lo + (k : Nat))
@[simp] noncomputable def rng1D (ds : List D) : Option (List D) := match ds with
  | [.int j] => if -(2 ^ 62) ≤ j ∧ j < 2 ^ 62 then some (rngD 0 j) else none
  | _ => none
@[simp] noncomputable def rng2D (ds : List D) : Option (List D) := match ds with
  | [.int i, .int j] => if (-(2 ^ 62) ≤ i ∧ i < 2 ^ 62) ∧ -(2 ^ 62) ≤ j ∧ j < 2 ^ 62 then some (rngD i j) else none
  | _ => none
@[simp] noncomputable def rng1I (gA : GA) : GA := fun δ => (gA δ).bind rng1D
@[simp] noncomputable def rng2I (gA : GA) : GA := fun δ => (gA δ).bind rng2D
@[simp] noncomputable def noT : GB := fun _ => some true
@[simp] noncomputable def capSl : Option Sl → Sl
  | some (.sh d) => .sh d
  | _ => .un
@[simp] noncomputable def dComp (n : Nat) (caps : List Nat) (δ : Ds) : Ds := List.replicate n .un ++ caps.map fun j => capSl δ[j]?
noncomputable def compD (f : D → Ds → Option Ds) (gt : GB) (ge : GE) (δ : Ds) : List D → Option (List D)
  | [] => some []
  | d :: ds => match f d δ with
    | none => none
    | some δ' => match gt δ' with
      | none => none
      | some false => compD f gt ge δ ds
      | some true => match ge δ' with
        | none => none
        | some y => (compD f gt ge δ ds).map fun r => y :: r
@[simp] noncomputable def compG (n : Nat) (caps : List Nat) (gi : GA) (f : D → Ds → Option Ds) (gt : GB) (ge : GE) : GE :=
  fun δ => (gi δ).bind fun items => if items.length ≤ sizeLine then (compD f gt ge (dComp n caps δ) items).map .lst else none
@[simp] noncomputable def dStart (N : List Str) (ds : List D) : Ds := ds.map .sh ++ List.replicate (N.length - ds.length) .un
@[simp] noncomputable def isInt : D → Bool
  | .int _ => true | .bl _ => true | _ => false
@[simp] noncomputable def isStr : D → Bool
  | .str _ => true | _ => false
@[simp] noncomputable def isBool : D → Bool
  | .bl _ => true | _ => false
@[simp] noncomputable def isTup : D → Bool
  | .tup _ => true | _ => false
@[simp] noncomputable def ii (f : Int → Int → Option D) : D → D → Option D
  | .int i, .int j => f i j
  | _, _ => none
@[simp] noncomputable def subD : D → D → Option D := ii fun i j => some (.int (i - j))
@[simp] noncomputable def fdivD : D → D → Option D := ii fun i j => if 0 < j ∧ j < 1073741824 then some (.int (i / j)) else none
@[simp] noncomputable def modD : D → D → Option D := ii fun i j => if 0 < j then some (.int (i % j)) else none
@[simp] noncomputable def powD : D → D → Option D := ii fun i j => if 0 ≤ j ∧ j ≤ 1000000 ∧ i.natAbs < 2 ^ 64 then some (.int (i ^ j.toNat)) else none
@[simp] noncomputable def ltD : D → D → Option D := ii fun i j => some (.bl (decide (i < j)))
@[simp] noncomputable def gtD : D → D → Option D := ii fun i j => some (.bl (decide (j < i)))
@[simp] noncomputable def eqS : D → D → Option Bool
  | .non, .non => some true
  | .non, .int _ => some false | .int _, .non => some false | .non, .bl _ => some false | .bl _, .non => some false | .non, .str _ => some false | .str _, .non => some false
  | .int i, .int j => some (decide (i = j))
  | .bl i, .bl j => some (decide (i = j))
  | .str i, .str j => some (decide (i = j))
  | .int _, .str _ => some false | .str _, .int _ => some false | .bl _, .str _ => some false | .str _, .bl _ => some false
  | _, _ => none
@[simp] noncomputable def eqD (x y : D) : Option D := (eqS x y).map .bl
@[simp] noncomputable def neD (x y : D) : Option D := (eqS x y).map fun b => .bl (!b)
@[simp] noncomputable def isNon : D → Bool
  | .non => true | _ => false
@[simp] noncomputable def isND (x y : D) : Option D := match y with
  | .non => some (.bl (isNon x))
  | _ => none
noncomputable def ixN (n : Nat) (i : Int) : Option Nat := if 0 ≤ i then (if i < n then some i.toNat else none) else if -(n : Int) ≤ i then some (i + n).toNat else none
noncomputable def atI {α : Type} (xs : List α) (i : Int) : Option α := (ixN xs.length i).bind fun j => xs[j]?
@[simp] noncomputable def ixD : D → D → Option D
  | .lst xs, .int i => atI xs i
  | .tup xs, .int i => atI xs i
  | .str z, .int i => if z.length ≤ sizeLine then (atI z.cps.toList i).map fun c => .str ⟨#[c]⟩ else none
  | _, _ => none
noncomputable def sIx (n d : Nat) : Option Int → Nat
  | none => d
  | some v => if v < 0 then (v + (n : Int)).toNat else min v.toNat n
noncomputable def cutD (xs : List D) (lo hi : Option Int) : List D := (xs.drop (sIx xs.length 0 lo)).take (sIx xs.length xs.length hi - sIx xs.length 0 lo)
noncomputable abbrev GO := Ds → Option (Option Int)
@[simp] noncomputable def noneO : GO := fun _ => some none
@[simp] noncomputable def someO (g : GE) : GO := fun δ => (g δ).bind fun d => (asI d).map some
@[simp] noncomputable def lenD : List D → Option D
  | [.str z] => if z.length ≤ sizeLine then some (.int z.length) else none
  | [.lst xs] => some (.int xs.length)
  | [.tup xs] => some (.int xs.length)
  | _ => none
noncomputable def strL : List D → Option (List Str)
  | [] => some []
  | .str b :: ds => (strL ds).map fun r => b :: r
  | _ => none
@[simp] noncomputable def joinD (d : D) (ds : List D) : Option D := match d, ds with
  | .str sep, [.lst xs] => (strL xs).bind fun ys => if (ys.map (·.length)).sum + ys.length * sep.length ≤ 16777216 then some (.str (Txt.join sep ys)) else none
  | _, _ => none
@[simp] noncomputable def joinG (g : GE) (gA : GA) : GE := fun δ => (g δ).bind fun d => (gA δ).bind fun ds => joinD d ds
@[simp] noncomputable def tupOfD : List D → Option D
  | [.lst ds] => some (.tup ds)
  | [.tup ds] => some (.tup ds)
  | _ => none
theorem compD_filter {f : D → Ds → Option Ds} {gt : GB} {ge : GE} {δ : Ds} (p : D → Bool) (h : D → D) : ∀ {items : List D}, (∀ d ∈ items, ∃ δ', f d δ = some δ' ∧ gt δ' = some (p d) ∧ (p d = true → ge δ' = some (h d))) →
    compD f gt ge δ items = some ((items.filter p).map h)
  | [], _ => rfl
  | d :: ds, H => by
    obtain ⟨δ', e1, e2, e3⟩ := H d List.mem_cons_self
    have ih := compD_filter p h fun d hd => H d (List.mem_cons_of_mem _ hd)
    unfold compD
    rw [e1]
    dsimp only
    rw [e2]
    cases hp : p d with
    | false =>
      dsimp only
      rw [List.filter_cons_of_neg (by simp [hp])]
      exact ih
    | true =>
      dsimp only
      rw [e3 hp, ih, List.filter_cons_of_pos hp]
      rfl
theorem compD_map {f : D → Ds → Option Ds} {gt : GB} {ge : GE} {δ : Ds} (h : D → D) {items : List D} (H : ∀ d ∈ items, ∃ δ', f d δ = some δ' ∧ gt δ' = some true ∧ ge δ' = some (h d)) : compD f gt ge δ items = some (items.map h) := by
  have := compD_filter (f := f) (gt := gt) (ge := ge) (δ := δ) (fun _ => true) h (items := items) fun d hd => by
    obtain ⟨δ', a, b, c⟩ := H d hd
    exact ⟨δ', a, b, fun _ => c⟩
  rw [List.filter_eq_self.mpr (by simp)] at this
  exact this
theorem strs_map {α : Type} (h : α → Str) : ∀ l : List α, strL (l.map fun a => .str (h a)) = some (l.map h)
  | [] => rfl
  | a :: l => by
    show (strL (l.map fun a => .str (h a))).map (fun r => h a :: r) = _
    rw [strs_map h l]
    rfl
theorem forD_inv {f : D → Ds → Option Ds} {G : GS} (P : Nat → Ds → Prop) : ∀ (items : List D) (i : Nat) (δ : Ds), (∀ j d δ, items[j]? = some d → P (i + j) δ → ∃ δ1 δ2, f d δ = some δ1 ∧ G δ1 = some (.nx δ2) ∧ P (i + j + 1) δ2) → P i δ →
    ∃ δ', forD f G items δ = some (.nx δ') ∧ P (i + items.length) δ'
  | [], i, δ, _, h => ⟨δ, rfl, h⟩
  | d :: ds, i, δ, H, h => by
    obtain ⟨δ1, δ2, e1, e2, h2⟩ := H 0 d δ rfl h
    obtain ⟨δ', e3, h3⟩ := forD_inv P ds (i + 1) δ2 (fun j d δ hj hp => by
      have q : i + (j + 1) = i + 1 + j := by omega
      obtain ⟨a, b, c, d', e⟩ := H (j + 1) d δ (by simpa using hj) (by rw [q]; exact hp)
      exact ⟨a, b, c, d', by rw [q] at e; exact e⟩) h2
    have q : i + (d :: ds).length = i + 1 + ds.length := by rw [List.length_cons]; omega
    refine ⟨δ', ?_, by rw [q]; exact h3⟩
    unfold forD
    rw [e1]
    simp only [Option.bind_some, e2]
    exact e3
theorem seq_nx {G1 G2 : GS} {δ δ' : Ds} (h : G1 δ = some (.nx δ')) : seqD G1 G2 δ = G2 δ' := by unfold seqD; rw [h]
theorem seq_rt {G1 G2 : GS} {δ : Ds} {d : D} (h : G1 δ = some (.rt d)) : seqD G1 G2 δ = some (.rt d) := by unfold seqD; rw [h]
theorem ret_of {g : GE} {δ : Ds} {d : D} (h : g δ = some d) : retD g δ = some (.rt d) := by unfold retD; rw [h]; rfl
theorem set_of {g : GE} {i : Nat} {δ : Ds} {d : D} (h : g δ = some d) : setD (gN i) g δ = some (.nx (δ.set i (.sh d))) := by unfold setD; rw [h]; rfl
theorem if_t {g : GB} {Ga Gb : GS} {δ : Ds} (h : g δ = some true) : ifD g Ga Gb δ = Ga δ := by unfold ifD; rw [h]; rfl
theorem if_f {g : GB} {Ga Gb : GS} {δ : Ds} (h : g δ = some false) : ifD g Ga Gb δ = Gb δ := by unfold ifD; rw [h]; rfl
theorem comp_of {n : Nat} {caps : List Nat} {gi : GA} {f : D → Ds → Option Ds} {gt : GB} {ge : GE} {δ : Ds} {items out : List D} (h1 : gi δ = some items) (h2 : items.length ≤ sizeLine) (h3 : compD f gt ge (dComp n caps δ) items = some out) : compG n caps gi f gt ge δ = some (.lst out) := by
  unfold compG
  rw [h1]
  show (if items.length ≤ sizeLine then (compD f gt ge (dComp n caps δ) items).map D.lst else none) = _
  rw [if_pos h2, h3]
  rfl
theorem for_of {gi : GA} {f : D → Ds → Option Ds} {G : GS} {δ : Ds} {items : List D} {r : Option Res} (h1 : gi δ = some items) (h2 : forD f G items δ = r) : forG gi f G δ = r := by
  unfold forG
  rw [h1]
  exact h2
theorem cons_of {g : GE} {gA : GA} {δ : Ds} {d : D} {ds : List D} (h1 : g δ = some d) (h2 : gA δ = some ds) : consA g gA δ = some (d :: ds) := by unfold consA; rw [h1, h2]; rfl
theorem oA_of {gA : GA} {δ : Ds} {ds : List D} {f : List D → Option D} (h : gA δ = some ds) : oA gA f δ = f ds := by unfold oA; rw [h]; rfl
theorem o2_of {ga gb : GE} {δ : Ds} {x y : D} {f : D → D → Option D} (h1 : ga δ = some x) (h2 : gb δ = some y) : o2 ga gb f δ = f x y := by unfold o2; rw [h1, h2]; rfl
theorem join_of {g : GE} {gA : GA} {δ : Ds} {x : D} {ds : List D} (h1 : g δ = some x) (h2 : gA δ = some ds) : joinG g gA δ = joinD x ds := by unfold joinG; rw [h1, h2]; rfl
theorem atI_in {α : Type} {xs : List α} {i : Int} (h0 : 0 ≤ i) (h1 : i < xs.length) (d : α) : atI xs i = some (xs.getD i.toNat d) := by
  unfold atI ixN
  rw [if_pos h0, if_pos h1]
  show xs[i.toNat]? = _
  have : i.toNat < xs.length := by omega
  simp [List.getD_eq_getElem?_getD, this]
end DL
namespace DL
open PySem PySem.Spec PyProof.Rows L2
noncomputable abbrev BS := Addr → Prop
noncomputable abbrev St := L2.St
noncomputable abbrev noH : Hp := fun _ => none
noncomputable def SqT' (K : PySem.W.Frag) (H : Hp) (B : BS) (a : Addr) (xs : List V) : Prop := ¬ B a ∧ H a = some (.tup xs)
noncomputable def SqL' (K : PySem.W.Frag) (H : Hp) (B : BS) (a : Addr) (xs : List V) : Prop := (¬ B a ∧ Rd H a (.lst xs)) ∨ SqL K noH a xs
section
variable {K : PySem.W.Frag} {H H' : Hp} {B B' : BS} {a : Addr} {xs : List V}
theorem rd_no {a : Addr} {u : HO} (h : Rd noH a u) : False := by
  rcases h with h | ⟨o, h⟩ <;> cases h
theorem SqT'.to (h : SqT' K H B a xs) : SqT K H a xs := .inl (.inl h.2)
theorem SqL'.to (h : SqL' K H B a xs) : SqL K H a xs := by
  rcases h with h | h | h
  · exact .inl h.2
  · exact (rd_no h).elim
  · exact .inr h
noncomputable def Gr (H H' : Hp) (B B' : BS) : Prop := ∀ b o, ¬ B b → H b = some o → ¬ B' b ∧ H' b = some o
theorem SqT'.mono (g : Gr H H' B B') (h : SqT' K H B a xs) : SqT' K H' B' a xs := g _ _ h.1 h.2
theorem SqL'.mono (g : Gr H H' B B') (h : SqL' K H B a xs) : SqL' K H' B' a xs := by
  rcases h with ⟨n, h | ⟨o, h⟩⟩ | h
  · exact .inl ⟨(g _ _ n h).1, .inl (g _ _ n h).2⟩
  · exact .inl ⟨(g _ _ n h).1, .inr ⟨o, (g _ _ n h).2⟩⟩
  · exact .inr h
theorem Gr.same (s : Same H H') : Gr H H' B B := fun b o n h => ⟨n, s b o h⟩
theorem Gr.less (h : ∀ a, B' a → B a) : Gr H H B B' := fun b o n e => ⟨fun z => n (h b z), e⟩
end
noncomputable abbrev KS := Sum (List Key) (List (List Key))
noncomputable def dOb : KS → List V → HO
  | .inl ks, xs => .dK (ks.zip xs)
  | .inr ks, xs => .dT (ks.zip xs)
noncomputable def dLn : KS → Nat
  | .inl ks => ks.length
  | .inr ks => ks.length
mutual
noncomputable def Rp (K : PySem.W.Frag) (H : Hp) (B : BS) : D → V → Prop
  | .non, v => v = .non
  | .bl b, v => v = .bl b
  | .int i, v => v = .int i
  | .str x, v => v = .str x
  | .tup ds, v => ∃ a xs, v = .ref a ∧ SqT' K H B a xs ∧ Rps K H B ds xs
  | .lst ds, v => ∃ a xs, v = .ref a ∧ SqL' K H B a xs ∧ Rps K H B ds xs
  | .dct ks ds, v => ∃ a xs, v = .ref a ∧ ¬ B a ∧ H a = some (dOb ks xs) ∧ dLn ks = xs.length ∧ Rps K H B ds xs
noncomputable def Rps (K : PySem.W.Frag) (H : Hp) (B : BS) : List D → List V → Prop
  | [], xs => xs = []
  | d :: ds, xs => ∃ x r, xs = x :: r ∧ Rp K H B d x ∧ Rps K H B ds r
end
mutual
theorem Rp.mono {K : PySem.W.Frag} {H H' : Hp} {B B' : BS} (g : Gr H H' B B') : ∀ {d : D} {v : V}, Rp K H B d v → Rp K H' B' d v
  | .non, _, h => by unfold Rp at h ⊢; exact h
  | .bl _, _, h => by unfold Rp at h ⊢; exact h
  | .int _, _, h => by unfold Rp at h ⊢; exact h
  | .str _, _, h => by unfold Rp at h ⊢; exact h
  | .tup ds, _, h => by
    unfold Rp at h ⊢
    obtain ⟨a, xs, e, q, r⟩ := h
    exact ⟨a, xs, e, q.mono g, Rps.mono g r⟩
  | .lst ds, _, h => by
    unfold Rp at h ⊢
    obtain ⟨a, xs, e, q, r⟩ := h
    exact ⟨a, xs, e, q.mono g, Rps.mono g r⟩
  | .dct ks ds, _, h => by
    unfold Rp at h ⊢
    obtain ⟨a, xs, e, n, q, l, r⟩ := h
    exact ⟨a, xs, e, (g _ _ n q).1, (g _ _ n q).2, l, Rps.mono g r⟩
theorem Rps.mono {K : PySem.W.Frag} {H H' : Hp} {B B' : BS} (g : Gr H H' B B') : ∀ {ds : List D} {xs : List V}, Rps K H B ds xs → Rps K H' B' ds xs
  | [], _, h => by unfold Rps at h ⊢; exact h
  | d :: ds, _, h => by
    unfold Rps at h ⊢
    obtain ⟨x, r, e, h1, h2⟩ := h
    exact ⟨x, r, e, Rp.mono g h1, Rps.mono g h2⟩
end
section
variable {K : PySem.W.Frag} {H H' : Hp} {B B' : BS} {v : V}
theorem rp_non : Rp K H B .non v = (v = .non) := by unfold Rp; rfl
theorem rp_bl {b : Bool} : Rp K H B (.bl b) v = (v = .bl b) := by unfold Rp; rfl
theorem rp_int {i : Int} : Rp K H B (.int i) v = (v = .int i) := by unfold Rp; rfl
theorem rp_str {x : Str} : Rp K H B (.str x) v = (v = .str x) := by unfold Rp; rfl
theorem rp_tup {ds : List D} : Rp K H B (.tup ds) v = ∃ a xs, v = .ref a ∧ SqT' K H B a xs ∧ Rps K H B ds xs := by conv => lhs; unfold Rp
theorem rp_lst {ds : List D} : Rp K H B (.lst ds) v = ∃ a xs, v = .ref a ∧ SqL' K H B a xs ∧ Rps K H B ds xs := by conv => lhs; unfold Rp
theorem rp_dctG {ks : KS} {ds : List D} : Rp K H B (.dct ks ds) v = ∃ a xs, v = .ref a ∧ ¬ B a ∧ H a = some (dOb ks xs) ∧ dLn ks = xs.length ∧ Rps K H B ds xs := by conv => lhs; unfold Rp
theorem rp_dct {ks : List Key} {ds : List D} : Rp K H B (.dct (.inl ks) ds) v = ∃ a xs, v = .ref a ∧ ¬ B a ∧ H a = some (.dK (ks.zip xs)) ∧ ks.length = xs.length ∧ Rps K H B ds xs := rp_dctG
theorem rp_dctT {ks : List (List Key)} {ds : List D} : Rp K H B (.dct (.inr ks) ds) v = ∃ a xs, v = .ref a ∧ ¬ B a ∧ H a = some (.dT (ks.zip xs)) ∧ ks.length = xs.length ∧ Rps K H B ds xs := rp_dctG
theorem rps_nil {xs : List V} : Rps K H B [] xs = (xs = []) := by unfold Rps; rfl
theorem rps_cons {d : D} {ds : List D} {xs : List V} : Rps K H B (d :: ds) xs = ∃ x r, xs = x :: r ∧ Rp K H B d x ∧ Rps K H B ds r := by conv => lhs; unfold Rps
theorem Rps.length : ∀ {ds : List D} {xs : List V}, Rps K H B ds xs → xs.length = ds.length
  | [], _, h => by rw [rps_nil] at h; subst h; rfl
  | d :: ds, _, h => by
    rw [rps_cons] at h
    obtain ⟨x, r, rfl, _, h2⟩ := h
    simp [Rps.length h2]
theorem Rps.get : ∀ {ds : List D} {xs : List V} {i : Nat} {d : D}, Rps K H B ds xs → ds[i]? = some d → ∃ x, xs[i]? = some x ∧ Rp K H B d x
  | [], _, _, _, _, e => by simp at e
  | d :: ds, _, 0, d', h, e => by
    rw [rps_cons] at h
    obtain ⟨x, r, rfl, h1, _⟩ := h
    simp at e; subst e
    exact ⟨x, rfl, h1⟩
  | d :: ds, _, i + 1, d', h, e => by
    rw [rps_cons] at h
    obtain ⟨x, r, rfl, _, h2⟩ := h
    obtain ⟨y, e1, e2⟩ := Rps.get (i := i) h2 (by simpa using e)
    exact ⟨y, by simpa using e1, e2⟩
theorem Rps.snoc : ∀ {ds : List D} {xs : List V} {d : D} {x : V}, Rps K H B ds xs → Rp K H B d x → Rps K H B (ds ++ [d]) (xs ++ [x])
  | [], _, _, _, h, r => by
    rw [rps_nil] at h; subst h
    rw [List.nil_append, List.nil_append, rps_cons]
    exact ⟨_, [], rfl, r, by rw [rps_nil]⟩
  | d :: ds, _, _, _, h, r => by
    rw [rps_cons] at h
    obtain ⟨y, t, rfl, h1, h2⟩ := h
    rw [List.cons_append, List.cons_append, rps_cons]
    exact ⟨y, _, rfl, h1, Rps.snoc h2 r⟩
theorem Rps.append : ∀ {ds es : List D} {xs ys : List V}, Rps K H B ds xs → Rps K H B es ys → Rps K H B (ds ++ es) (xs ++ ys)
  | [], _, _, _, h, r => by rw [rps_nil] at h; subst h; exact r
  | d :: ds, _, _, _, h, r => by
    rw [rps_cons] at h
    obtain ⟨y, t, rfl, h1, h2⟩ := h
    rw [List.cons_append, List.cons_append, rps_cons]
    exact ⟨y, _, rfl, h1, Rps.append h2 r⟩
theorem Rps.drop : ∀ {ds : List D} {xs : List V} (n : Nat), Rps K H B ds xs → Rps K H B (ds.drop n) (xs.drop n)
  | _, _, 0, h => h
  | [], _, n + 1, h => by rw [rps_nil] at h; subst h; simpa [rps_nil]
  | d :: ds, _, n + 1, h => by
    rw [rps_cons] at h
    obtain ⟨y, t, rfl, h1, h2⟩ := h
    simpa using Rps.drop n h2
theorem Rps.take : ∀ {ds : List D} {xs : List V} (n : Nat), Rps K H B ds xs → Rps K H B (ds.take n) (xs.take n)
  | _, _, 0, h => by simp [rps_nil]
  | [], _, n + 1, h => by rw [rps_nil] at h; subst h; simp [rps_nil]
  | d :: ds, _, n + 1, h => by
    rw [rps_cons] at h
    obtain ⟨y, t, rfl, h1, h2⟩ := h
    rw [List.take_succ_cons, List.take_succ_cons, rps_cons]
    exact ⟨y, _, rfl, h1, Rps.take n h2⟩
theorem Rps.same {ds : List D} {xs : List V} (s : Same H H') (h : Rps K H B ds xs) : Rps K H' B ds xs := Rps.mono (Gr.same s) h
theorem Rp.same {d : D} {v : V} (s : Same H H') (h : Rp K H B d v) : Rp K H' B d v := Rp.mono (Gr.same s) h
end
noncomputable def RpO (K : PySem.W.Frag) (H : Hp) (B : BS) (d : D) (a : Addr) : Prop := match d with
  | .lst ds => ∃ xs, H a = some (.lst xs) ∧ Rps K H B ds xs
  | .dct ks ds => ∃ xs, H a = some (dOb ks xs) ∧ dLn ks = xs.length ∧ Rps K H B ds xs
  | _ => False
theorem RpO.same {K : PySem.W.Frag} {H H' : Hp} {B : BS} {d : D} {a : Addr} (s : Same H H') (h : RpO K H B d a) : RpO K H' B d a := by
  cases d <;> try exact h.elim
  · obtain ⟨xs, e, r⟩ := h; exact ⟨xs, s _ _ e, r.same s⟩
  · obtain ⟨xs, e, l, r⟩ := h; exact ⟨xs, s _ _ e, l, r.same s⟩
theorem RpO.rp {K : PySem.W.Frag} {H : Hp} {B B' : BS} {d : D} {a : Addr} (l : ∀ a, B' a → B a) (n : ¬ B' a) (h : RpO K H B d a) : Rp K H B' d (.ref a) := by
  cases d <;> try exact h.elim
  · obtain ⟨xs, e, r⟩ := h
    rw [rp_lst]
    exact ⟨a, xs, rfl, .inl ⟨n, .inl e⟩, r.mono (Gr.less l)⟩
  · obtain ⟨xs, e, q, r⟩ := h
    rw [rp_dctG]
    exact ⟨a, xs, rfl, n, e, q, r.mono (Gr.less l)⟩
theorem RpO.live {K : PySem.W.Frag} {H : Hp} {B : BS} {d : D} {a : Addr} (h : RpO K H B d a) : H a ≠ none := by
  cases d <;> try exact h.elim
  · obtain ⟨xs, e, r⟩ := h; rw [e]; exact fun z => nomatch z
  · obtain ⟨xs, e, q, r⟩ := h; rw [e]; exact fun z => nomatch z
noncomputable def RpL (K : PySem.W.Frag) (H : Hp) (B : BS) (d : D) (a : Addr) : Prop := match d with
  | .tup es => ∃ ds, es = [.int (a : Int), .lst ds] ∧ ∃ xs, H a = some (.lst xs) ∧ Rps K H B ds xs
  | d => RpO K H B d a
theorem RpO.toL {K : PySem.W.Frag} {H : Hp} {B : BS} {d : D} {a : Addr} (h : RpO K H B d a) : RpL K H B d a := by
  cases d with
  | tup es => exact (show False from h).elim
  | _ => exact h
theorem RpL.toO {K : PySem.W.Frag} {H : Hp} {B : BS} {d : D} {a : Addr} (n : isL d = false) (h : RpL K H B d a) : RpO K H B d a := by
  cases d with
  | tup es => cases n
  | _ => exact h
theorem RpL.same {K : PySem.W.Frag} {H H' : Hp} {B : BS} {d : D} {a : Addr} (s : Same H H') (h : RpL K H B d a) : RpL K H' B d a := by
  cases d with
  | tup es => obtain ⟨ds, q, xs, e, r⟩ := h; exact ⟨ds, q, xs, s _ _ e, r.same s⟩
  | _ => exact (RpO.same s (RpL.toO rfl h)).toL
theorem RpL.rp {K : PySem.W.Frag} {H : Hp} {B B' : BS} {d : D} {a : Addr} (l : ∀ a, B' a → B a) (n : ¬ B' a) (h : RpL K H B d a) : Rp K H B' (unl d) (.ref a) := by
  cases d with
  | tup es => obtain ⟨ds, rfl, xs, e, r⟩ := h; exact RpO.rp (d := .lst ds) l n ⟨xs, e, r⟩
  | _ => exact RpO.rp l n (RpL.toO rfl h)
theorem RpL.live {K : PySem.W.Frag} {H : Hp} {B : BS} {d : D} {a : Addr} (h : RpL K H B d a) : H a ≠ none := by
  cases d with
  | tup es => obtain ⟨ds, q, xs, e, r⟩ := h; rw [e]; exact fun z => nomatch z
  | _ => exact RpO.live (RpL.toO rfl h)
noncomputable def XcAt (a C : Addr) (od : Option Addr) : Heap → Prop := fun h => ∃ oe, h.get? a = some oe ∧ oe.cls = .ref C ∧ (∀ dx, od = some dx → oe.dict = some dx) ∧ ∃ vs, oe.data = .fields vs
noncomputable def XdAt (H : Hp) (B : BS) (od : Option Addr) : Option Int → Prop
  | none => True
  | some n => ∃ dx, od = some dx ∧ ¬ B dx ∧ H dx = some (.xd [("at", .int n)])
noncomputable def XcR (K : PySem.W.Frag) (H : Hp) (B : BS) (c : Str) (n : Option Int) (a : Addr) : Prop := ∃ C od, ¬ B a ∧ H a = some (.ext (XcAt a C od)) ∧ PySem.W.nsIn K mainGlobals c = some (some (.ref C)) ∧ XdAt H B od n
theorem XcR.mono {K : PySem.W.Frag} {H H' : Hp} {B B' : BS} {c : Str} {n : Option Int} {a : Addr} (g : Gr H H' B B') (h : XcR K H B c n a) : XcR K H' B' c n a := by
  obtain ⟨C, od, h1, h2, h3, h4⟩ := h
  refine ⟨C, od, (g _ _ h1 h2).1, (g _ _ h1 h2).2, h3, ?_⟩
  cases n with
  | none => trivial
  | some n => obtain ⟨dx, e, q1, q2⟩ := h4; exact ⟨dx, e, (g _ _ q1 q2).1, (g _ _ q1 q2).2⟩
noncomputable def SlR (K : PySem.W.Frag) (H : Hp) (B : BS) (o : Option V) : Sl → Prop
  | .un => True
  | .sh d => ∃ v, o = some v ∧ Rp K H B d v
  | .ow d => ∃ a, o = some (.ref a) ∧ B a ∧ RpL K H B d a
  | .ex c n => ∃ a, o = some (.ref a) ∧ XcR K H B c n a
theorem Pd.get {α β : Type} {F : α → β → Prop} : ∀ {l : List α} {m : List β} {i : Nat} {b : β}, Paired F l m → m[i]? = some b → ∃ a, l[i]? = some a ∧ F a b
  | _, _, _, _, .nil, e => by simp at e
  | _, _, 0, _, .cons r _, e => by simp at e; subst e; exact ⟨_, rfl, r⟩
  | _, _, i + 1, b, .cons _ t, e => by
    obtain ⟨u, h1, h2⟩ := Pd.get (i := i) (b := b) t (by simpa using e)
    exact ⟨u, by simpa using h1, h2⟩
theorem Pd.imp {α β : Type} {F G : α → β → Prop} (h : ∀ a b, F a b → G a b) : ∀ {l : List α} {m : List β}, Paired F l m → Paired G l m
  | _, _, .nil => .nil
  | _, _, .cons r t => .cons (h _ _ r) (Pd.imp h t)
theorem Pd.set {α β : Type} {F : α → β → Prop} {a : α} {b : β} (r : F a b) : ∀ {l : List α} {m : List β} (i : Nat), Paired F l m → Paired F (l.set i a) (m.set i b)
  | _, _, _, .nil => .nil
  | _, _, 0, .cons _ t => .cons r t
  | _, _, i + 1, .cons q t => .cons q (Pd.set r i t)
theorem Pd.app {α β : Type} {F : α → β → Prop} : ∀ {l l' : List α} {m m' : List β}, Paired F l m → Paired F l' m' → Paired F (l ++ l') (m ++ m')
  | _, _, _, _, .nil, s => s
  | _, _, _, _, .cons r t, s => .cons r (Pd.app t s)
structure Env (K : PySem.W.Frag) (H : Hp) (B : BS) (σ : St) (δ : Ds) : Prop where
  all : Paired (SlR K H B) σ δ
  bad : ∀ a, B a → H a ≠ none
  own : ∀ (i j : Nat) (a : Addr) (ds es : D), δ[i]? = some (.ow ds) → δ[j]? = some (.ow es) → σ[i]? = some (some (.ref a)) → σ[j]? = some (some (.ref a)) → i = j
section
variable {K : PySem.W.Frag} {H H' : Hp} {B : BS} {σ σ' : St} {δ δ' : Ds}
theorem SlR.same {o : Option V} {s : Sl} (q : Same H H') (h : SlR K H B o s) : SlR K H' B o s := by
  cases s with
  | un => trivial
  | sh d => obtain ⟨v, e, r⟩ := h; exact ⟨v, e, r.same q⟩
  | ow d => obtain ⟨a, e, b, r⟩ := h; exact ⟨a, e, b, r.same q⟩
  | ex c n => obtain ⟨a, e, r⟩ := h; exact ⟨a, e, r.mono (Gr.same q)⟩
theorem Env.same (q : Same H H') (e : Env K H B σ δ) : Env K H' B σ δ :=
  ⟨Pd.imp (fun _ _ h => h.same q) e.all, (fun a b z => by
    cases h : H a with
    | none => exact e.bad a b h
    | some o => rw [q a o h] at z; cases z), e.own⟩
theorem Env.free (e : Env K H B σ δ) {p : Addr} (h : H p = none) : ¬ B p := fun z => e.bad p z h
theorem Env.get (e : Env K H B σ δ) {i : Nat} {d : D} (h : δ[i]? = some (.sh d)) : ∃ v, σ[i]? = some (some v) ∧ Rp K H B d v := by
  obtain ⟨o, h1, v, rfl, r⟩ := Pd.get e.all h
  exact ⟨v, h1, r⟩
theorem Env.set (e : Env K H B σ δ) (i : Nat) {d : D} {v : V} (r : Rp K H B d v) : Env K H B (σ.set i (some v)) (δ.set i (.sh d)) := by
  refine ⟨Pd.set ⟨v, rfl, r⟩ i e.all, e.bad, fun j k a ds es h1 h2 h3 h4 => ?_⟩
  have hj : j ≠ i := by
    rintro rfl
    by_cases hl : j < δ.length
    · rw [List.getElem?_set_self hl] at h1; cases h1
    · rw [List.getElem?_eq_none (by simpa using hl)] at h1; cases h1
  have hk : k ≠ i := by
    rintro rfl
    by_cases hl : k < δ.length
    · rw [List.getElem?_set_self hl] at h2; cases h2
    · rw [List.getElem?_eq_none (by simpa using hl)] at h2; cases h2
  rw [List.getElem?_set_ne (Ne.symm hj)] at h1 h3
  rw [List.getElem?_set_ne (Ne.symm hk)] at h2 h4
  exact e.own j k a ds es h1 h2 h3 h4
end
theorem same_upd {H : Hp} {p : Addr} {o : HO} (h : H p = none) : Same H (upd H p o) := fun b u e => by rw [upd_ne (ne_of_none e h)]; exact e
noncomputable def tD (K : PySem.W.Frag) (B : BS) (δ : Ds) (g : Ds → Option D) : TE := fun σ H Q => ∃ d, Env K H B σ δ ∧ g δ = some d ∧ ∀ v H', Same H H' → Rp K H' B d v → Q v H'
structure PD (X : Cx) (e : Expr) (g : Ds → Option D) : Prop where
  mk :: go : ∀ B δ, PE X e (tD X.K B δ g)
instance {X : Cx} {e : Expr} {g : Ds → Option D} : CoeFun (PD X e g) (fun _ => ∀ B δ, PE X e (tD X.K B δ g)) := ⟨PD.go⟩
noncomputable def tDT (K : PySem.W.Frag) (B : BS) (δ : Ds) (g : Ds → Option Bool) : TT := fun σ H Q => ∃ b, Env K H B σ δ ∧ g δ = some b ∧ ∀ H', Same H H' → Q b H'
structure PTD (X : Cx) (e : Expr) (g : Ds → Option Bool) : Prop where
  mk :: go : ∀ B δ, PT X e (tDT X.K B δ g)
instance {X : Cx} {e : Expr} {g : Ds → Option Bool} : CoeFun (PTD X e g) (fun _ => ∀ B δ, PT X e (tDT X.K B δ g)) := ⟨PTD.go⟩
noncomputable def tDA (K : PySem.W.Frag) (B : BS) (δ : Ds) (g : Ds → Option (List D)) : TA := fun σ H Q => ∃ ds, Env K H B σ δ ∧ g δ = some ds ∧ ∀ vs H', Same H H' → Rps K H' B ds vs → Q vs H'
structure PDA (X : Cx) (es : List Expr) (g : Ds → Option (List D)) : Prop where
  mk :: go : ∀ B δ, PA X es (tDA X.K B δ g)
instance {X : Cx} {es : List Expr} {g : Ds → Option (List D)} : CoeFun (PDA X es g) (fun _ => ∀ B δ, PA X es (tDA X.K B δ g)) := ⟨PDA.go⟩
theorem asB_eq {d : D} {b : Bool} (h : asB d = some b) : d = .bl b := by
  cases d <;> simp [asB] at h
  subst h; rfl
noncomputable def Op2 (K : PySem.W.Frag) (r : R2) (f : D → D → Option D) : Prop := ∀ (H : Hp) (B : BS) (x y : V) (dx dy d : D) (Q : VK), (∀ a, B a → H a ≠ none) → Rp K H B dx x → Rp K H B dy y → f dx dy = some d → (∀ v H', Same H H' → Rp K H' B d v → Q v H') → r x y H Q
noncomputable def FnR (K : PySem.W.Frag) (r : List V → Hp → VK → Prop) (f : List D → Option D) : Prop := ∀ (H : Hp) (B : BS) (xs : List V) (ds : List D) (d : D) (Q : VK), (∀ a, B a → H a ≠ none) → Rps K H B ds xs → f ds = some d → (∀ v H', Same H H' → Rp K H' B d v → Q v H') → r xs H Q
section
variable {X : Cx} {e a b c : Expr} {es : List Expr} {pos : Pos} {g ga gb : Ds → Option D} {gA : Ds → Option (List D)} {gt gu : Ds → Option Bool} {rest : List Expr}
theorem _root_.L2.PE.imp {t t' : TE} (h : PE X e t) (q : ∀ σ H Q, t' σ H Q → t σ H Q) : PE X e t' := fun pins s σ H Q I z => h pins s σ H Q I (q σ H Q z)
theorem _root_.L2.PT.imp {t t' : TT} (h : PT X e t) (q : ∀ σ H Q, t' σ H Q → t σ H Q) : PT X e t' := fun pins s σ H Q I z => h pins s σ H Q I (q σ H Q z)
theorem _root_.L2.PA.imp {t t' : TA} (h : PA X es t) (q : ∀ σ H Q, t' σ H Q → t σ H Q) : PA X es t' := fun p pins s σ H Q I z => h p pins s σ H Q I (q σ H Q z)
theorem gv_eq {i : Nat} {δ : Ds} {d : D} (h : gv i δ = some d) : δ[i]? = some (.sh d) := by
  unfold gv at h
  split at h
  · cases h; assumption
  · cases h
theorem pd_var (i : Nat) {x : Str} (hN : X.N[i]? = some x := by rfl) (hv : Vis X.env.scope x := by first | exact Or.inl rfl | exact Or.inr (Or.inl rfl) | exact Or.inr (Or.inr rfl)) (hd : (x == ("__debug__" : Str)) = false := by decide)
    (hcd : (x == ("__classdict__" : Str)) = false := by decide) : PD X (.Name x pos) (gv i) := .mk fun B δ => (pe_var (i := i) hN hv hd hcd).imp fun σ H Q ⟨d, en, h, k⟩ => by
  obtain ⟨v, e, r⟩ := en.get (gv_eq h)
  exact ⟨v, e, k v H (Same.refl H) r⟩
theorem pd_int {i : Int} {j : Nat} : PD X (.Constant (.int i) j pos) (gc (.int i)) := .mk fun B δ => pe_int.imp fun σ H Q ⟨d, en, h, k⟩ => by cases h; exact k _ H (Same.refl H) (by rw [rp_int])
theorem pd_bl {i : Bool} {j : Nat} : PD X (.Constant (.bool i) j pos) (gc (.bl i)) := .mk fun B δ => pe_bl.imp fun σ H Q ⟨d, en, h, k⟩ => by cases h; exact k _ H (Same.refl H) (by rw [rp_bl])
theorem pd_non {j : Nat} : PD X (.Constant .none j pos) (gc .non) := .mk fun B δ => pe_non.imp fun σ H Q ⟨d, en, h, k⟩ => by cases h; exact k _ H (Same.refl H) (by rw [rp_non])
theorem pd_str {x : Str} {j : Nat} : PD X (.Constant (.str x) j pos) (gc (.str x)) := .mk fun B δ => pe_str.imp fun σ H Q ⟨d, en, h, k⟩ => by cases h; exact k _ H (Same.refl H) (by rw [rp_str])
theorem pd_gint {x : Str} {i : Int} (hm : ∃ t, X.mg x = some (.int i t)) (hg : Gl X x := by rfl) (hd : (x == ("__debug__" : Str)) = false := by decide) : PD X (.Name x pos) (gc (.int i)) := .mk fun B δ => by
  obtain ⟨t, hm⟩ := hm
  exact (pe_glob (v := .int i) hg hm ⟨t, rfl⟩ hd).imp fun σ H Q ⟨d, en, h, k⟩ => by cases h; exact k _ H (Same.refl H) (by rw [rp_int])
theorem o2_red {K : PySem.W.Frag} {r : R2} {f : D → D → Option D} (hf : Op2 K r f) {B : BS} {δ : Ds} {σ : St} {H : Hp} {Q : VK} (h : tD K B δ (o2 ga gb f) σ H Q) : tOp r (tD K B δ ga) (tD K B δ gb) σ H Q := by
  obtain ⟨d, en, h, k⟩ := h
  unfold o2 at h
  cases e1 : ga δ with
  | none => rw [e1] at h; cases h
  | some x =>
    cases e2 : gb δ with
    | none => rw [e1, e2] at h; cases h
    | some y =>
      rw [e1, e2] at h
      refine ⟨x, en, e1, fun v1 H1 s1 r1 => ⟨y, en.same s1, e2, fun v2 H2 s2 r2 => ?_⟩⟩
      exact hf H2 B v1 v2 x y d Q ((en.same s1).same s2).bad (r1.same s2) r2 h fun v H' s r => k v H' ((s1.trans s2).trans s) r
theorem pd_op {op : Operator} {r : R2} {f : D → D → Option D} (ho : OpR X (binaryOp op) r) (hf : Op2 X.K r f) (ha : PD X a ga) (hb : PD X b gb) : PD X (.BinOp a op b pos) (o2 ga gb f) := .mk fun B δ => (pe_op ho (ha B δ) (hb B δ)).imp fun σ H Q h => o2_red hf h
theorem pd_cmp {op : CmpOp} {r : R2} {f : D → D → Option D} (ho : OpR X (compareOp op) r) (hf : Op2 X.K r f) (ha : PD X a ga) (hb : PD X b gb) (hm : behindInMarks op b = false := by first | exact nomark _ | with_unfolding_all rfl) : PD X (.Compare a [op] [b] pos) (o2 ga gb f) :=
  .mk fun B δ => (pe_cmpR ho (ha B δ) (hb B δ) hm).imp fun σ H Q h => o2_red hf h
theorem pd_ix {r : R2} {f : D → D → Option D} (ho : IxR X r) (hf : Op2 X.K r f) (ha : PD X a ga) (hb : PD X b gb) (hs : PlainIx b := by exact fun _ _ => rfl) : PD X (.Subscript a b pos) (o2 ga gb f) :=
  .mk fun B δ => (pe_ix ho (ha B δ) (hb B δ) hs).imp fun σ H Q h => o2_red hf h
theorem ptd_cmp {op : CmpOp} {r : R2} {f : D → D → Option D} (ho : OpR X (compareOp op) r) (hf : Op2 X.K r f) (ha : PD X a ga) (hb : PD X b gb) (hm : behindInMarks op b = false := by first | exact nomark _ | with_unfolding_all rfl) : PTD X (.Compare a [op] [b] pos) (ob (o2 ga gb f)) :=
  .mk fun B δ => (pt_cmpR ho (ha B δ) (hb B δ) hm).imp fun σ H Q ⟨t, en, h, k⟩ => by
    unfold ob at h
    cases e : o2 ga gb f δ with
    | none => rw [e] at h; cases h
    | some d =>
      rw [e] at h
      cases asB_eq h
      exact o2_red hf ⟨_, en, e, fun v H' s r => ⟨t, by rw [rp_bl] at r; exact r, k H' s⟩⟩
theorem ptd_val (h : PD X e g) (he : ∀ whole, isTrue e X.env whole = (do let v ← whole; standAt e.pos; holding [v] (truthy v)) := by intro _; rfl) : PTD X e (ob g) :=
  .mk fun B δ => (pt_val (h B δ) he).imp fun σ H Q ⟨t, en, h, k⟩ => by
    unfold ob at h
    cases e : g δ with
    | none => rw [e] at h; cases h
    | some d =>
      rw [e] at h
      cases asB_eq h
      exact ⟨_, en, e, fun v H' s r => ⟨t, by rw [rp_bl] at r; exact r, k H' s⟩⟩
theorem ptd_not (h : PTD X a gt) : PTD X (.UnaryOp .Not a pos) (tNotG gt) :=
  .mk fun B δ => (pt_not (h B δ)).imp fun σ H Q ⟨t, en, h, k⟩ => by
    unfold tNotG at h
    cases e : gt δ with
    | none => rw [e] at h; cases h
    | some b =>
      rw [e] at h
      cases h
      exact ⟨b, en, e, fun H' s => k H' s⟩
theorem pd_one {op} (h : PD X a g) : PD X (.BoolOp op [a] pos) g := .mk fun B δ => pe_one (h B δ)
theorem pd_and (ha : PD X a ga) (hb : PD X (.BoolOp .And (b :: rest) pos) gb) : PD X (.BoolOp .And (a :: b :: rest) pos) (andG ga gb) :=
  .mk fun B δ => (pe_and (ha B δ) (hb B δ)).imp fun σ H Q ⟨d, en, h, k⟩ => by
    unfold andG ob at h
    cases e : ga δ with
    | none => rw [e] at h; cases h
    | some x =>
      rw [e] at h
      refine ⟨x, en, e, fun v H' s r => ?_⟩
      cases x with
      | bl c =>
        rw [rp_bl] at r
        refine ⟨c, r, ?_⟩
        cases c with
        | true => exact ⟨d, en.same s, h, fun v H'' s' => k v H'' (s.trans s')⟩
        | false =>
          simp [asB] at h
          rw [if_neg Bool.false_ne_true]
          exact k _ H' s (by rw [← h, rp_bl])
      | _ => simp [asB] at h
theorem pd_not (ha : PD X a ga) : PD X (.UnaryOp .Not a pos) (notG ga) :=
  .mk fun B δ => (pe_not (ha B δ)).imp fun σ H Q ⟨d, en, h, k⟩ => by
    unfold notG ob at h
    cases e : ga δ with
    | none => rw [e] at h; cases h
    | some x =>
      rw [e] at h
      refine ⟨x, en, e, fun v H' s r => ?_⟩
      cases x with
      | bl c =>
        rw [rp_bl] at r
        simp [asB] at h
        exact ⟨c, r, k _ H' s (by rw [← h, rp_bl])⟩
      | _ => simp [asB] at h
theorem pda_nil : PDA X [] nilA := .mk fun B δ => pa_nil.imp fun σ H Q ⟨ds, en, h, k⟩ => by cases h; exact k [] H (Same.refl H) (by rw [rps_nil])
theorem pda_cons (ha : PD X e g) (hr : PDA X es gA) (hs : starEach (e :: es) X.env = (false, eval e X.env) :: starEach es X.env := by rfl) : PDA X (e :: es) (consA g gA) :=
  .mk fun B δ => (pa_cons (ha B δ) (hr B δ) hs).imp fun σ H Q ⟨ds, en, h, k⟩ => by
    unfold consA at h
    cases e1 : g δ with
    | none => rw [e1] at h; cases h
    | some d =>
      cases e2 : gA δ with
      | none => rw [e1, e2] at h; cases h
      | some es' =>
        rw [e1, e2] at h
        cases h
        refine ⟨d, en, e1, fun v H1 s1 r1 => ⟨es', en.same s1, e2, fun vs H2 s2 r2 => k _ H2 (s1.trans s2) ?_⟩⟩
        rw [rps_cons]
        exact ⟨v, vs, rfl, r1.same s2, r2⟩
theorem pd_tup {x1} (h : PDA X es gA) : PD X (.Tuple es x1 pos) (tupG gA) :=
  .mk fun B δ => (pe_tup (h B δ)).imp fun σ H Q ⟨d, en, h, k⟩ => by
    unfold tupG at h
    cases e1 : gA δ with
    | none => rw [e1] at h; cases h
    | some ds =>
      rw [e1] at h
      by_cases hl : ds.length ≤ sizeLine
      · simp only [Option.bind_some, if_pos hl] at h
        cases h
        refine ⟨ds, en, e1, fun vs H1 s1 r1 => ⟨by rw [r1.length]; exact hl, fun p hp => k _ _ (s1.trans (same_upd hp)) ?_⟩⟩
        rw [rp_tup]
        exact ⟨p, vs, rfl, ⟨(en.same s1).free hp, upd_same⟩, r1.same (same_upd hp)⟩
      · simp only [Option.bind_some, if_neg hl] at h
        cases h
theorem pd_lst (h : PDA X es gA) : PD X (.List es pos) (lstG gA) :=
  .mk fun B δ => (pe_lst (h B δ)).imp fun σ H Q ⟨d, en, h, k⟩ => by
    unfold lstG at h
    cases e1 : gA δ with
    | none => rw [e1] at h; cases h
    | some ds =>
      rw [e1] at h
      by_cases hl : ds.length ≤ sizeLine
      · simp only [Option.bind_some, if_pos hl] at h
        cases h
        refine ⟨ds, en, e1, fun vs H1 s1 r1 => ⟨by rw [r1.length]; exact hl, fun p hp => k _ _ (s1.trans (same_upd hp)) ?_⟩⟩
        rw [rp_lst]
        exact ⟨p, vs, rfl, .inl ⟨(en.same s1).free hp, .inl upd_same⟩, r1.same (same_upd hp)⟩
      · simp only [Option.bind_some, if_neg hl] at h
        cases h
theorem oA_red {K : PySem.W.Frag} {r : List V → Hp → VK → Prop} {f : List D → Option D} (hf : FnR K r f) {B : BS} {δ : Ds} {σ : St} {H : Hp} {Q : VK} (h : tD K B δ (oA gA f) σ H Q) : tCB r (tDA K B δ gA) σ H Q := by
  obtain ⟨d, en, h, k⟩ := h
  unfold oA at h
  cases e1 : gA δ with
  | none => rw [e1] at h; cases h
  | some ds =>
    rw [e1] at h
    exact ⟨ds, en, e1, fun vs H1 s1 r1 => hf H1 B vs ds d Q (en.same s1).bad r1 h fun v H' s r => k v H' (s1.trans s) r⟩
theorem pd_callB {id : String} {x : Str} {p : Pos} {r : List V → Hp → VK → Prop} {f : List D → Option D} (hc : CallR X (.builtin id) r) (hf : FnR X.K r f) (hm : X.mg x = none) (hv : bootBuiltins x = some (.builtin id)) (ha : PDA X (e :: es) gA) (hg : Gl X x := by rfl)
    (hn : x ≠ "__name__" := by decide) (hdb : (x == ("__debug__" : Str)) = false := by decide) (he : starEach (e :: es) X.env = (false, eval e X.env) :: starEach es X.env := by rfl) (hpl : (backTo pos (starEach es X.env)).any (·.1) = false := by rfl) :
    PD X (.Call (.Name x p) (e :: es) [] pos) (oA gA f) := .mk fun B δ => (pe_callB hc hg hm hv (ha B δ) hn hdb he hpl).imp fun σ H Q h => oA_red hf h
theorem pd_callTy {T : String} {x : Str} {p : Pos} {r : List V → Hp → VK → Prop} {f : List D → Option D} (hc : CallR X (.type T) r) (hf : FnR X.K r f) (hm : X.mg x = none) (hv : bootBuiltins x = some (.type T)) (ha : PDA X (e :: es) gA) (hg : Gl X x := by rfl)
    (hn : x ≠ "__name__" := by decide) (hdb : (x == ("__debug__" : Str)) = false := by decide) (he : starEach (e :: es) X.env = (false, eval e X.env) :: starEach es X.env := by rfl) (hpl : (backTo pos (starEach es X.env)).any (·.1) = false := by rfl) :
    PD X (.Call (.Name x p) (e :: es) [] pos) (oA gA f) := .mk fun B δ => (pe_callTy hc hg hm hv (ha B δ) hn hdb he hpl).imp fun σ H Q h => oA_red hf h
noncomputable def spD (K : PySem.W.Frag) (f : List D → Option D) : Sp := fun vs H Q _ => ∃ (B : BS) (ds : List D) (d : D), (∀ a, B a → H a ≠ none) ∧ Rps K H B ds vs ∧ f ds = some d ∧ ∀ v H', Same H H' → Rp K H' B d v → Q v H'
theorem pd_call {k : Nat} {fa : Addr} {fd : FuncData} {ps : List Str} {x : Str} {p : Pos} {f : List D → Option D} (F : FnOk X.prog X.w X.K X.mg X.base CX0 k fa fd ps (spD X.K f)) (hr : Room k X.A) (hm : X.mg x = some (.ref fa)) (hk : PySem.W.keepIn X.K (.ref fa) = true) (hb : Binds X.K fd ps [])
    (ha : PDA X (e :: es) gA) (hg : Gl X x := by rfl) (hdb : (x == ("__debug__" : Str)) = false := by decide) (he : starEach (e :: es) X.env = (false, eval e X.env) :: starEach es X.env := by rfl) (hpl : (backTo pos (starEach es X.env)).any (·.1) = false := by rfl) :
    PD X (.Call (.Name x p) (e :: es) [] pos) (oA gA f) := .mk fun B δ => (pe_call (E := E0) F hr hg hm hk hb .nil pass0 (ha B δ) hdb he hpl).imp fun σ H Q h => by
  obtain ⟨d, en, h, k⟩ := h
  unfold oA at h
  cases e1 : gA δ with
  | none => rw [e1] at h; cases h
  | some ds =>
    rw [e1] at h
    refine ⟨ds, en, e1, fun vs H1 s1 r1 => ?_⟩
    show spD X.K f (vs ++ []) H1 Q E0
    rw [List.append_nil]
    exact ⟨B, ds, d, (en.same s1).bad, r1, h, fun v H' s r => k v H' (s1.trans s) r⟩
end
end DL
namespace DL
open PySem PySem.Spec PyProof.Rows L2
structure EnvS (K : PySem.W.Frag) (H₀ : Hp) (B₀ : BS) (H : Hp) (σ : St) (δ : Ds) : Prop where
  same : Same H₀ H
  ex : ∃ B : BS, (∀ a, B₀ a → B a) ∧ (∀ a, B a → B₀ a ∨ H₀ a = none) ∧ Env K H B σ δ
  fr : ∀ (i : Nat) (ds : D) (a : Addr), δ[i]? = some (.ow ds) → σ[i]? = some (some (.ref a)) → H₀ a = none
  b0 : ∀ a, B₀ a → H₀ a ≠ none
noncomputable def ResK (K : PySem.W.Frag) (H₀ : Hp) (B₀ : BS) (D : Ends) : Res → Prop
  | .nx δ => ∀ σ H, EnvS K H₀ B₀ H σ δ → D.nx σ H
  | .rt d => ∀ v H, Same H₀ H → Rp K H B₀ d v → D.rt v H
  | .bk δ => ∀ σ H, EnvS K H₀ B₀ H σ δ → D.bk σ H
  | .ct δ => ∀ σ H, EnvS K H₀ B₀ H σ δ → D.ct σ H
  | .rf d => ∀ p H, H₀ p = none → Same H₀ H → RpL K H (fun a => B₀ a ∨ a = p) d p → D.rt (.ref p) H
noncomputable def tDS (K : PySem.W.Frag) (H₀ : Hp) (B₀ : BS) (δ : Ds) (G : Ds → Option Res) : TS := fun D σ H => ∃ r, EnvS K H₀ B₀ H σ δ ∧ G δ = some r ∧ ResK K H₀ B₀ D r
structure PSD (X : Cx) (st : Stmt) (G : Ds → Option Res) : Prop where
  mk :: go : ∀ H₀ B₀ δ, PS X st (tDS X.K H₀ B₀ δ G)
instance {X : Cx} {st : Stmt} {G : Ds → Option Res} : CoeFun (PSD X st G) (fun _ => ∀ H₀ B₀ δ, PS X st (tDS X.K H₀ B₀ δ G)) := ⟨PSD.go⟩
structure PSsD (X : Cx) (st : List Stmt) (G : Ds → Option Res) : Prop where
  mk :: go : ∀ H₀ B₀ δ, PSs X st (tDS X.K H₀ B₀ δ G)
instance {X : Cx} {st : List Stmt} {G : Ds → Option Res} : CoeFun (PSsD X st G) (fun _ => ∀ H₀ B₀ δ, PSs X st (tDS X.K H₀ B₀ δ G)) := ⟨PSsD.go⟩
section
variable {K : PySem.W.Frag} {H₀ H H' : Hp} {B₀ : BS} {σ : St} {δ : Ds}
theorem EnvS.grow (e : EnvS K H₀ B₀ H σ δ) (s : Same H H') : EnvS K H₀ B₀ H' σ δ := ⟨e.same.trans s, let ⟨B, b1, b2, en⟩ := e.ex; ⟨B, b1, b2, en.same s⟩, e.fr, e.b0⟩
end
structure Wr (idx : List Nat) (σ σ' : St) (δ δ' : Ds) : Prop where
  len : σ'.length = σ.length
  oth : ∀ j, j ∉ idx → σ'[j]? = σ[j]? ∧ δ'[j]? = δ[j]?
  own : ∀ j ∈ idx, ∀ ds, δ'[j]? ≠ some (.ow ds)
noncomputable def tDG (K : PySem.W.Frag) (idx : List Nat) (f : D → Ds → Option Ds) (B : BS) (d : D) (δ : Ds) : TG := fun v σ H Q => ∃ δ', Rp K H B d v ∧ Env K H B σ δ ∧ f d δ = some δ' ∧ ∀ σ', Wr idx σ σ' δ δ' → Env K H B σ' δ' → Q σ' H
structure PGD (X : Cx) (tg : Expr) (idx : List Nat) (f : D → Ds → Option Ds) : Prop where
  mk :: go : ∀ B d δ, PG X tg (tDG X.K idx f B d δ)
instance {X : Cx} {tg : Expr} {idx : List Nat} {f : D → Ds → Option Ds} : CoeFun (PGD X tg idx f) (fun _ => ∀ B d δ, PG X tg (tDG X.K idx f B d δ)) := ⟨PGD.go⟩
theorem _root_.L2.PG.imp {X : Cx} {tg : Expr} {t t' : TG} (h : PG X tg t) (q : ∀ v σ H Q, t' v σ H Q → t v σ H Q) : PG X tg t' := fun pins s σ H v u Q I r z => h pins s σ H v u Q I r (q v σ H Q z)
theorem wr_set {σ : St} {δ : Ds} {i : Nat} {v : V} {d : D} : Wr [i] σ (σ.set i (some v)) δ (δ.set i (.sh d)) := by
  refine ⟨by simp, fun j hj => ?_, fun j hj ds h => ?_⟩
  · have : j ≠ i := by simpa using hj
    rw [List.getElem?_set_ne (Ne.symm this), List.getElem?_set_ne (Ne.symm this)]
    exact ⟨rfl, rfl⟩
  · have : j = i := by simpa using hj
    subst this
    by_cases hl : j < δ.length
    · rw [List.getElem?_set_self hl] at h; cases h
    · rw [List.getElem?_eq_none (by simpa using hl)] at h; cases h
theorem pgd_name (i : Nat) {X : Cx} {x : Str} {pos : Pos} (hN : X.N.Nodup) (hi : X.N[i]? = some x := by rfl) (hx : Loc X.env.scope x := by first | exact Or.inl rfl | exact Or.inr rfl)
    (hf : X.fn x = true ∨ X.env.scope.names.lookup x = some .local := by first | exact .inl rfl | exact .inr rfl | assumption) : PGD X (.Name x pos) [i] (gN i) := .mk fun B d δ => (pg_name (i := i) hN hi hx hf).imp fun v σ H Q ⟨δ', r, en, e, k⟩ => by
  cases e
  exact k _ wr_set (en.set i r)
section
variable {X : Cx} {e tg : Expr} {st : Stmt} {rest : List Stmt} {pos : Pos} {g : Ds → Option D} {G G1 G2 Ga Gb : Ds → Option Res} {gt : Ds → Option Bool} {c : Expr} {as bs body : List Stmt}
theorem pssd_nil : PSsD X [] nilD := .mk fun H₀ B₀ δ pins s σ H D I ⟨r, en, e, k⟩ => by
  cases e
  exact pss_nil pins s σ H D I (k σ H en)
theorem pssd_cons (h1 : PSD X st G1) (h2 : PSsD X rest G2) : PSsD X (st :: rest) (seqD G1 G2) := .mk fun H₀ B₀ δ pins s σ H D I ⟨r, en, e, k⟩ => by
  unfold seqD at e
  cases e1 : G1 δ with
  | none => rw [e1] at e; cases e
  | some r1 =>
    rw [e1] at e
    cases r1 with
    | nx δ' => exact pss_cons (h1 H₀ B₀ δ) (h2 H₀ B₀ δ') pins s σ H D I ⟨_, en, e1, fun σ' H' en' => ⟨r, en', e, k⟩⟩
    | rt d => cases e; exact pss_cons (h1 H₀ B₀ δ) pss_never pins s σ H D I ⟨_, en, e1, k⟩
    | bk δ' => cases e; exact pss_cons (h1 H₀ B₀ δ) pss_never pins s σ H D I ⟨_, en, e1, k⟩
    | ct δ' => cases e; exact pss_cons (h1 H₀ B₀ δ) pss_never pins s σ H D I ⟨_, en, e1, k⟩
    | rf d => cases e; exact pss_cons (h1 H₀ B₀ δ) pss_never pins s σ H D I ⟨_, en, e1, k⟩
theorem psd_ret (h : PD X e g) : PSD X (.Return (some e) pos) (retD g) := .mk fun H₀ B₀ δ pins s σ H D I ⟨r, en, e1, k⟩ => by
  unfold retD at e1
  obtain ⟨B, b1, b2, env⟩ := en.ex
  cases e2 : g δ with
  | none => rw [e2] at e1; cases e1
  | some d =>
    rw [e2] at e1
    cases e1
    exact ps_ret (h B δ) pins s σ H D I ⟨d, env, e2, fun v H' s' r => k v H' (en.same.trans s') (r.mono (Gr.less b1))⟩
theorem EnvS.wr {K : PySem.W.Frag} {H₀ H H' : Hp} {B₀ B : BS} {σ σ' : St} {δ δ' : Ds} {idx : List Nat} (e : EnvS K H₀ B₀ H σ δ) (b1 : ∀ a, B₀ a → B a) (b2 : ∀ a, B a → B₀ a ∨ H₀ a = none) (s : Same H H') (w : Wr idx σ σ' δ δ') (en : Env K H' B σ' δ') : EnvS K H₀ B₀ H' σ' δ' := by
  refine ⟨e.same.trans s, ⟨B, b1, b2, en⟩, fun i ds a h1 h2 => ?_, e.b0⟩
  by_cases hi : i ∈ idx
  · exact absurd h1 (w.own i hi ds)
  · rw [(w.oth i hi).2] at h1
    rw [(w.oth i hi).1] at h2
    exact e.fr i ds a h1 h2
theorem psd_asg {idx : List Nat} {f : D → Ds → Option Ds} (h : PD X e g) (hg : PGD X tg idx f) (hs : swapsWithSole [tg] e pos.line X.env = pure false := by rfl) (hw : swappedStores [tg] e X.env = pure none := by rfl)
    (h1 : (assignEach [tg] X.env).map (·.2) = [assign tg X.env] := by rfl) : PSD X (.Assign [tg] e pos) (setD f g) := .mk fun H₀ B₀ δ pins s σ H D I ⟨r, en, e1, k⟩ => by
  unfold setD at e1
  obtain ⟨B, b1, b2, env⟩ := en.ex
  cases e2 : g δ with
  | none => rw [e2] at e1; cases e1
  | some d =>
    rw [e2] at e1
    simp only [Option.bind_some] at e1
    cases e3 : f d δ with
    | none => rw [e3] at e1; cases e1
    | some δ' =>
      rw [e3] at e1
      cases e1
      exact ps_asg (h B δ) (hg B d δ) hs hw h1 pins s σ H D I ⟨d, env, e2, fun v H' s' r => ⟨δ', r, env.same s', e3, fun σ' w en' => k σ' H' (en.wr b1 b2 s' w en')⟩⟩
theorem psd_if (hc : PTD X c gt) (ha : PSsD X as Ga) (hb : PSsD X bs Gb) : PSD X (.If c as bs pos) (ifD gt Ga Gb) := .mk fun H₀ B₀ δ pins s σ H D I ⟨r, en, e1, k⟩ => by
  unfold ifD at e1
  obtain ⟨B, b1, b2, env⟩ := en.ex
  cases e2 : gt δ with
  | none => rw [e2] at e1; cases e1
  | some t =>
    rw [e2] at e1
    refine ps_if (hc B δ) (ha H₀ B₀ δ) (hb H₀ B₀ δ) pins s σ H D I ⟨t, env, e2, fun H' s' => ?_⟩
    cases t with
    | true => exact ⟨r, en.grow s', e1, k⟩
    | false => exact ⟨r, en.grow s', e1, k⟩
structure ItD (K : PySem.W.Frag) (B : BS) (J : It) (items : List D) (H₁ : Hp) : Prop where
  go : ∀ i H, Gr H₁ H B B → i < items.length → J.go i H
  yld : ∀ i H x H', Gr H₁ H B B → J.yld i H x H' → i < items.length → Same H H' ∧ ∃ d, items[i]? = some d ∧ ∀ B' : BS, Gr H₁ H' B B' → (∀ a, B' a → H a ≠ none) → Rp K H' B' d x
  stop : ∀ i H, Gr H₁ H B B → items.length ≤ i → J.stop i H
noncomputable def tDI (K : PySem.W.Frag) (B : BS) (δ : Ds) (g : Ds → Option (List D)) : TI := fun σ H R => ∃ items, Env K H B σ δ ∧ g δ = some items ∧ ∀ J H', Same H H' → ItD K B J items H' → R J H'
structure PID (X : Cx) (tg e : Expr) (g : Ds → Option (List D)) : Prop where
  mk :: go : ∀ B δ, PI X tg e (tDI X.K B δ g)
instance {X : Cx} {tg e : Expr} {g : Ds → Option (List D)} : CoeFun (PID X tg e g) (fun _ => ∀ B δ, PI X tg e (tDI X.K B δ g)) := ⟨PID.go⟩
theorem _root_.L2.PI.imp {t t' : TI} (h : PI X tg e t) (q : ∀ σ H R, t' σ H R → t σ H R) : PI X tg e t' := fun pins s σ H R I z => h pins s σ H R I (q σ H R z)
theorem pid_list (h : PD X e g) : PID X tg e (lstI g) := .mk fun B δ => L2.PI.imp (pi_list (h B δ)) fun σ H R ⟨items, en, e1, k⟩ => by
  unfold lstI at e1
  cases e2 : g δ with
  | none => rw [e2] at e1; cases e1
  | some d =>
    rw [e2] at e1
    cases d <;> simp [asLst] at e1
    subst e1
    refine ⟨_, en, e2, fun v H' s' r => ?_⟩
    rw [rp_lst] at r
    obtain ⟨a, xs, rfl, q, rs⟩ := r
    refine ⟨a, rfl, ⟨xs, q.to⟩, k _ H' s' ⟨fun i H2 g2 hi => ?_, fun i H2 x H3 g2 y hi => ?_, fun i H2 g2 hi => ?_⟩⟩
    · have : i < xs.length := by rw [rs.length]; exact hi
      exact ⟨xs, xs[i], (q.mono g2).to, by simp [this]⟩
    · obtain ⟨e3, y⟩ := y
      obtain ⟨x', e4, r'⟩ := rs.get (i := i) (d := _) (List.getElem?_eq_getElem hi)
      have := y xs (q.mono g2).to
      rw [e4] at this
      cases this
      subst e3
      exact ⟨Same.refl _, _, List.getElem?_eq_getElem hi, fun B' gB _ => r'.mono gB⟩
    · exact ⟨xs, (q.mono g2).to, by rw [rs.length]; exact hi⟩
theorem pid_tup (h : PD X e g) : PID X tg e (tupI g) := .mk fun B δ => L2.PI.imp (pi_tup (h B δ)) fun σ H R ⟨items, en, e1, k⟩ => by
  unfold tupI at e1
  cases e2 : g δ with
  | none => rw [e2] at e1; cases e1
  | some d =>
    rw [e2] at e1
    cases d <;> simp [asTup] at e1
    subst e1
    refine ⟨_, en, e2, fun v H' s' r => ?_⟩
    rw [rp_tup] at r
    obtain ⟨a, xs, rfl, q, rs⟩ := r
    refine ⟨a, rfl, ⟨xs, q.to⟩, k _ H' s' ⟨fun i H2 g2 hi => ?_, fun i H2 x H3 g2 y hi => ?_, fun i H2 g2 hi => ?_⟩⟩
    · have : i < xs.length := by rw [rs.length]; exact hi
      exact ⟨xs, xs[i], (q.mono g2).to, by simp [this]⟩
    · obtain ⟨e3, y⟩ := y
      obtain ⟨x', e4, r'⟩ := rs.get (i := i) (d := _) (List.getElem?_eq_getElem hi)
      have := y xs (q.mono g2).to
      rw [e4] at this
      cases this
      subst e3
      exact ⟨Same.refl _, _, List.getElem?_eq_getElem hi, fun B' gB _ => r'.mono gB⟩
    · exact ⟨xs, (q.mono g2).to, by rw [rs.length]; exact hi⟩
theorem signs_len (x : Str) : (signs x).length = x.cps.size := by simp [signs]
theorem pid_str (h : PD X e g) : PID X tg e (strI g) := .mk fun B δ => L2.PI.imp (pi_str (h B δ)) fun σ H R ⟨items, en, e1, k⟩ => by
  unfold strI at e1
  cases e2 : g δ with
  | none => rw [e2] at e1; cases e1
  | some d =>
    rw [e2] at e1
    cases d <;> simp [asSigns] at e1
    subst e1
    refine ⟨_, en, e2, fun v H' s' r => ?_⟩
    rw [rp_str] at r
    refine ⟨_, r, k _ H' s' ⟨fun i H2 g2 hi => ?_, fun i H2 x H3 g2 y hi => ?_, fun i H2 g2 hi => ?_⟩⟩
    · rw [signs_len] at hi; exact hi
    · obtain ⟨e3, c, hc, rfl⟩ := y
      subst e3
      refine ⟨Same.refl _, .str ⟨#[c]⟩, ?_, fun B' gB _ => by rw [rp_str]⟩
      unfold signs
      rw [List.getElem?_map, Array.getElem?_toList, hc]
      rfl
    · rw [signs_len] at hi; exact hi
theorem rngD_len (lo hi : Int) : (rngD lo hi).length = (hi - lo).toNat := by simp [rngD]
theorem itd_rng {K : PySem.W.Frag} {B : BS} {H : Hp} (lo hi : Int) : ItD K B (Itr lo (hi - lo).toNat) (rngD lo hi) H := by
  refine ⟨fun i H2 g2 hi => ?_, fun i H2 x H3 g2 y hi => ?_, fun i H2 g2 hi => ?_⟩
  · rw [rngD_len] at hi; exact hi
  · obtain ⟨e3, rfl⟩ := y
    rw [rngD_len] at hi
    subst e3
    exact ⟨Same.refl _, .int (lo + i), by simp [rngD, hi], fun B' gB _ => by rw [rp_int]⟩
  · rw [rngD_len] at hi; exact hi
theorem pid_range1 {a : Expr} {gA : Ds → Option (List D)} {p : Pos} (hm : X.mg "range" = none) (ha : PDA X [a] gA) (hg : Gl X "range" := by rfl) (hs : starEach [a] X.env = [(false, eval a X.env)] := by rfl) : PID X tg (.Call (.Name "range" p) [a] [] pos) (rng1I gA) :=
  .mk fun B δ => L2.PI.imp (pi_range1 hg hm (ha B δ) hs) fun σ H R ⟨items, en, e1, k⟩ => by
  unfold rng1I at e1
  cases e2 : gA δ with
  | none => rw [e2] at e1; cases e1
  | some ds =>
    rw [e2] at e1
    simp only [Option.bind_some] at e1
    unfold rng1D at e1
    split at e1
    · split at e1
      · rename_i j hj
        cases e1
        refine ⟨_, en, e2, fun vs H' s' r => ?_⟩
        rw [rps_cons] at r
        obtain ⟨x, t, rfl, r1, r2⟩ := r
        rw [rps_nil] at r2
        subst r2
        rw [rp_int] at r1
        subst r1
        refine ⟨j, rfl, hj.1, hj.2, k _ H' s' ?_⟩
        have := itd_rng (K := X.K) (B := B) (H := H') 0 j
        rw [Int.sub_zero] at this
        exact this
      · cases e1
    · cases e1
theorem pid_range2 {a b : Expr} {gA : Ds → Option (List D)} {p : Pos} (hm : X.mg "range" = none) (ha : PDA X [a, b] gA) (hg : Gl X "range" := by rfl) (hs : starEach [a, b] X.env = [(false, eval a X.env), (false, eval b X.env)] := by rfl) (hs2 : starEach [b] X.env = [(false, eval b X.env)] := by rfl) :
    PID X tg (.Call (.Name "range" p) [a, b] [] pos) (rng2I gA) := .mk fun B δ => L2.PI.imp (pi_range2 hg hm (ha B δ) hs hs2) fun σ H R ⟨items, en, e1, k⟩ => by
  unfold rng2I at e1
  cases e2 : gA δ with
  | none => rw [e2] at e1; cases e1
  | some ds =>
    rw [e2] at e1
    simp only [Option.bind_some] at e1
    unfold rng2D at e1
    split at e1
    · split at e1
      · rename_i i j hj
        cases e1
        refine ⟨_, en, e2, fun vs H' s' r => ?_⟩
        rw [rps_cons] at r
        obtain ⟨x, t, rfl, r1, r2⟩ := r
        rw [rps_cons] at r2
        obtain ⟨y, t', rfl, r2, r3⟩ := r2
        rw [rps_nil] at r3
        subst r3
        rw [rp_int] at r1 r2
        subst r1 r2
        exact ⟨i, j, rfl, ⟨hj.1.1, hj.1.2, hj.2.1, hj.2.2⟩, k _ H' s' (itd_rng i j)⟩
      · cases e1
    · cases e1
theorem EnvS.lower {K : PySem.W.Frag} {H₀ H₁ H : Hp} {B₀ : BS} {σ : St} {δ : Ds} (e : EnvS K H₁ B₀ H σ δ) (s : Same H₀ H₁) (b0 : ∀ a, B₀ a → H₀ a ≠ none) : EnvS K H₀ B₀ H σ δ := by
  obtain ⟨B, b1, b2, en⟩ := e.ex
  exact ⟨s.trans e.same, ⟨B, b1, fun a z => (b2 a z).imp id fun q => s.free q, en⟩, fun i ds a h1 h2 => s.free (e.fr i ds a h1 h2), b0⟩
open Classical in
theorem psd_for {iter : Expr} {gi : Ds → Option (List D)} {idx : List Nat} {f : D → Ds → Option Ds} (hp : PassesOwn (model X.prog X.w) X.A X.env X.xe) (hc : X.calm = true) (hi : PID X tg iter gi) (hg : PGD X tg idx f) (hb : PSsD X body G)
    (hs : ∀ x, foldedSetIterable iter X.env x = pure x := by intro _; rfl) : PSD X (.For tg iter body [] pos) (forG gi f G) := .mk fun H₀ B₀ δ pins s σ H D I ⟨r, en, e1, k⟩ => by
  unfold forG at e1
  obtain ⟨B, b1, b2, env⟩ := en.ex
  cases e2 : gi δ with
  | none => rw [e2] at e1; cases e1
  | some items =>
    rw [e2] at e1
    simp only [Option.bind_some] at e1
    have hg' : PG X tg (fun v σ H Q => ∃ B d δ, tDG X.K idx f B d δ v σ H Q) := fun pins s σ H v u Q I r ⟨B, d, δ, h⟩ => hg B d δ pins s σ H v u Q I r h
    have hb' : PSs X body (fun D σ H => ∃ H₀ B₀ δ, tDS X.K H₀ B₀ δ G D σ H) := fun pins s σ H D I ⟨H₀, B₀, δ, h⟩ => hb H₀ B₀ δ pins s σ H D I h
    refine ps_for hp hc (hi B δ) hg' hb' hs pins s σ H D I ⟨items, env, e2, fun J H1 s1 it => ?_⟩
    -- the heap at the loop's start, without the lists that the body owns
    obtain ⟨Hh, hHh⟩ : ∃ Hh : Hp, Hh = fun b => if B b ∧ ¬ B₀ b then none else H1 b := ⟨_, rfl⟩
    have hoff : ∀ b, ¬ B b → Hh b = H1 b := fun b n => by rw [hHh]; exact if_neg fun z => n z.1
    have hown : ∀ b, B b → ¬ B₀ b → Hh b = none := fun b n n' => by rw [hHh]; exact if_pos ⟨n, n'⟩
    have hin : ∀ b, B₀ b → Hh b = H1 b := fun b n => by rw [hHh]; exact if_neg fun z => z.2 n
    have hle : Same Hh H1 := fun b o h => by
      by_cases z : B b ∧ ¬ B₀ b
      · rw [hown b z.1 z.2] at h; cases h
      · rw [hHh] at h
        have h' : (if B b ∧ ¬ B₀ b then none else H1 b) = some o := h
        rw [if_neg z] at h'
        exact h'
    have hS : Same H₀ Hh := fun b o h => by
      have h1 := s1 b o (en.same b o h)
      by_cases z : B b
      · rcases b2 b z with q | q
        · rw [hin b q]; exact h1
        · rw [h] at q; cases q
      · rw [hoff b z]; exact h1
    have env1 := env.same s1
    have start : EnvS X.K Hh B₀ H1 σ δ := by
      refine ⟨hle, ⟨B, b1, fun a z => ?_, env1⟩, fun i ds a h1 h2 => ?_, fun a z => ?_⟩
      · by_cases q : B₀ a
        · exact .inl q
        · exact .inr (hown a z q)
      · have hn := en.fr i ds a h1 h2
        have nb : ¬ B₀ a := fun z => en.b0 a z hn
        obtain ⟨o, e3, a', e4, hB, _⟩ := Pd.get env1.all h1
        rw [h2] at e3
        cases e3
        cases e4
        exact hown a hB nb
      · rw [hin a z]
        exact env1.bad a (b1 a z)
    refine ⟨fun i m σ H => m = items.length - i ∧ i ≤ items.length ∧ ∃ δi, EnvS X.K Hh B₀ H σ δi ∧ forD f G (items.drop i) δi = some r, ⟨_, rfl, Nat.zero_le _, δ, start, e1⟩, ?_⟩
    rintro i m σi Hi ⟨rfl, hil, δi, eni, ei⟩
    have gr : Gr H1 Hi B B := fun b o n h => ⟨n, eni.same b o (by rw [hoff b n]; exact h)⟩
    by_cases hlt : i < items.length
    · refine .inr ⟨it.go i Hi gr hlt, fun σ' H' => ∃ δn, EnvS X.K Hh B₀ H' σ' δn ∧ forD f G (items.drop (i + 1)) δn = some r, fun σ' H' ⟨δn, en', e'⟩ => ⟨items.length - (i + 1), by omega, rfl, hlt, δn, en', e'⟩, fun x H' y => ?_⟩
      obtain ⟨sm, d, hd, rd⟩ := it.yld i Hi x H' gr y hlt
      obtain ⟨B', c1, c2, env0⟩ := eni.ex
      have rd' : Rp X.K H' B' d x := rd B' (fun b o n h => by
        have h' : Hh b = some o := by rw [hoff b n]; exact h
        refine ⟨fun z => ?_, sm b o (eni.same b o h')⟩
        rcases c2 b z with q | q
        · exact n (b1 b q)
        · rw [h'] at q; cases q) env0.bad
      have env' := env0.same sm
      replace eni := eni.grow sm
      have hdrop : items.drop i = d :: items.drop (i + 1) := by
        rw [List.drop_eq_getElem_cons hlt]
        congr 1
        rw [List.getElem?_eq_getElem hlt] at hd
        exact Option.some.inj hd
      rw [hdrop] at ei
      unfold forD at ei
      cases e3 : f d δi with
      | none => rw [e3] at ei; cases ei
      | some δ2 =>
        rw [e3] at ei
        simp only [Option.bind_some] at ei
        refine ⟨B', d, δi, δ2, rd', env', e3, fun σ' w en' => ?_⟩
        have enb : EnvS X.K Hh B₀ H' σ' δ2 := eni.wr c1 c2 (Same.refl _) w en'
        cases e4 : G δ2 with
        | none => rw [e4] at ei; cases ei
        | some rb =>
          rw [e4] at ei
          refine ⟨Hh, B₀, δ2, rb, enb, e4, ?_⟩
          cases rb with
          | nx δn => exact fun σ' H' en' => ⟨δn, en', ei⟩
          | ct δn => exact fun σ' H' en' => ⟨δn, en', ei⟩
          | bk δn =>
            cases ei
            exact fun σ' H' en' => k σ' H' (en'.lower hS en.b0)
          | rt d' =>
            cases ei
            exact fun v H' s' r' => k v H' (hS.trans s') r'
          | rf d' =>
            cases ei
            exact fun p H' hp s' r' => k p H' (hS.free hp) (hS.trans s') r'
    · have e : i = items.length := by omega
      subst e
      refine .inl ⟨it.stop _ Hi gr (Nat.le_refl _), ?_⟩
      rw [List.drop_length] at ei
      cases ei
      exact k σi Hi (eni.lower hS en.b0)
structure PFD (X : Cx) (ifs : List Expr) (g : Ds → Option Bool) : Prop where
  mk :: go : ∀ B δ, PF X ifs (tDT X.K B δ g)
instance {X : Cx} {ifs : List Expr} {g : Ds → Option Bool} : CoeFun (PFD X ifs g) (fun _ => ∀ B δ, PF X ifs (tDT X.K B δ g)) := ⟨PFD.go⟩
theorem pfd_nil : PFD X [] noT := .mk fun B δ pins s σ H Q I ⟨b, en, e, k⟩ => by
  cases e
  exact pf_nil pins s σ H Q I (k H (Same.refl H))
theorem pfd_one (h : PTD X c gt) : PFD X [c] gt := .mk fun B δ => pf_one (h B δ)
theorem sComp_lt {n : Nat} {caps : List Nat} {σ : St} {j : Nat} (h : j < n) : (sComp n caps σ)[j]? = some none := by
  unfold sComp
  rw [List.getElem?_append_left (by simpa using h), List.getElem?_replicate, if_pos h]
theorem rep_un {K : PySem.W.Frag} {H : Hp} {B : BS} : ∀ n : Nat, Paired (SlR K H B) (List.replicate n (none : Option V)) (List.replicate n Sl.un)
  | 0 => .nil
  | n + 1 => .cons trivial (rep_un n)
theorem caps_rel {K : PySem.W.Frag} {H : Hp} {B : BS} {σ : St} {δ : Ds} (en : Env K H B σ δ) : ∀ caps : List Nat, Paired (SlR K H B) (caps.map fun j => (σ[j]?).join) (caps.map fun j => capSl δ[j]?)
  | [] => .nil
  | j :: caps => by
    refine .cons ?_ (caps_rel en caps)
    show SlR K H B (σ[j]?).join (capSl δ[j]?)
    cases h : δ[j]? with
    | none => trivial
    | some sl =>
      cases sl with
      | un => trivial
      | ow ds => trivial
      | ex c n => trivial
      | sh d =>
        obtain ⟨v, e, r⟩ := en.get h
        rw [e]
        exact ⟨v, rfl, r⟩
theorem capSl_ow {o : Option Sl} {ds : D} (h : capSl o = .ow ds) : False := by
  cases o with
  | none => cases h
  | some s => cases s <;> cases h
theorem dComp_ow {n : Nat} {caps : List Nat} {δ : Ds} {i : Nat} {ds : D} (h : (dComp n caps δ)[i]? = some (.ow ds)) : False := by
  unfold dComp at h
  by_cases hi : i < n
  · rw [List.getElem?_append_left (by simpa using hi), List.getElem?_replicate, if_pos hi] at h
    cases h
  · rw [List.getElem?_append_right (by simpa using hi), List.getElem?_map] at h
    cases q : caps[i - (List.replicate n Sl.un).length]? with
    | none => rw [q] at h; cases h
    | some j =>
      rw [q] at h
      exact capSl_ow (Option.some.inj h)
theorem Env.comp {K : PySem.W.Frag} {H : Hp} {B : BS} {σ : St} {δ : Ds} (en : Env K H B σ δ) (n : Nat) (caps : List Nat) : Env K H B (sComp n caps σ) (dComp n caps δ) :=
  ⟨Pd.app (rep_un n) (caps_rel en caps), en.bad, fun i j a ds es h1 _ _ _ => (dComp_ow h1).elim⟩
theorem SlR.gr {K : PySem.W.Frag} {H H' : Hp} {B B' : BS} {o : Option V} {s : Sl} (g : Gr H H' B B') (no : ∀ ds, s ≠ .ow ds) (h : SlR K H B o s) : SlR K H' B' o s := by
  cases s with
  | un => trivial
  | sh d => obtain ⟨v, e, r⟩ := h; exact ⟨v, e, r.mono g⟩
  | ow ds => exact absurd rfl (no ds)
  | ex c n => obtain ⟨a, e, r⟩ := h; exact ⟨a, e, r.mono g⟩
theorem Pd.impG {K : PySem.W.Frag} {H H' : Hp} {B B' : BS} (g : Gr H H' B B') : ∀ {σ : St} {δ : Ds}, (∀ (i : Nat) (ds : D), δ[i]? ≠ some (.ow ds)) → Paired (SlR K H B) σ δ → Paired (SlR K H' B') σ δ
  | _, _, _, .nil => .nil
  | _, _, no, .cons r t => .cons (r.gr g fun ds z => no 0 ds (by rw [← z]; rfl)) (Pd.impG g (fun i ds z => no (i + 1) ds (by simpa using z)) t)
noncomputable def tDF (K : PySem.W.Frag) (B : BS) (δ : Ds) (g : Ds → Option D) : TE := fun σ H Q => ∃ d, Env K H B σ δ ∧ g δ = some d ∧ ∀ p H', H p = none → Same H H' → RpO K H' (fun a => B a ∨ a = p) d p → Q (.ref p) H'
structure PDF (X : Cx) (e : Expr) (g : Ds → Option D) : Prop where
  mk :: go : ∀ B δ, PE X e (tDF X.K B δ g)
instance {X : Cx} {e : Expr} {g : Ds → Option D} : CoeFun (PDF X e g) (fun _ => ∀ B δ, PE X e (tDF X.K B δ g)) := ⟨PDF.go⟩
theorem tD.toF {K : PySem.W.Frag} {B : BS} {δ : Ds} {g : Ds → Option D} {σ : St} {H : Hp} {Q : VK} (h : tD K B δ g σ H Q) : tDF K B δ g σ H Q := by
  obtain ⟨d, en, e, k⟩ := h
  exact ⟨d, en, e, fun p H' hp s r => k _ H' s (r.rp (fun a z => .inl z) (en.free hp))⟩
theorem PDF.pd {X : Cx} {e : Expr} {g : Ds → Option D} (h : PDF X e g) : PD X e g := .mk fun B δ => (h B δ).imp fun σ H Q z => z.toF
theorem comp_read {K : PySem.W.Frag} {B : BS} {δ : Ds} {σ : St} {H : Hp} {Q : VK} {n : Nat} {caps : List Nat} {gi : Ds → Option (List D)} {idx : List Nat} {f : D → Ds → Option Ds} {gt : Ds → Option Bool} {ge : Ds → Option D} (hidx : ∀ j ∈ idx, j < n)
    (h : tDF K B δ (compG n caps gi f gt ge) σ H Q) :
    tComp n caps (tDI K B δ gi) (fun v σ H Q => ∃ B d δ, tDG K idx f B d δ v σ H Q) (fun σ H Q => ∃ B δ, tDT K B δ gt σ H Q) (fun σ H Q => ∃ B δ, tD K B δ ge σ H Q) σ H Q := by
  obtain ⟨d, en, h, k⟩ := h
  unfold compG at h
  cases e1 : gi δ with
  | none => rw [e1] at h; cases h
  | some items =>
    rw [e1] at h
    simp only [Option.bind_some] at h
    by_cases hsz : items.length ≤ sizeLine
    · rw [if_pos hsz] at h
      cases e2 : compD f gt ge (dComp n caps δ) items with
      | none => rw [e2] at h; cases h
      | some out =>
        rw [e2] at h
        cases h
        refine ⟨items, en, e1, fun J H1 s1 it => fun L hL => ?_⟩
        have en1 := en.same s1
        have nBL : ¬ B L := en1.free hL
        obtain ⟨Bp, hBp⟩ : ∃ Bp : BS, Bp = fun a => B a ∨ a = L := ⟨_, rfl⟩
        have bpL : Bp L := by rw [hBp]; exact .inr rfl
        have bpB : ∀ a, B a → Bp a := fun a z => by rw [hBp]; exact .inl z
        have bpI : ∀ a, Bp a → B a ∨ a = L := fun a z => by rw [hBp] at z; exact z
        have gr : ∀ {H2 : Hp}, Same H1 H2 → Gr H1 H2 B Bp := fun {H2} s2 b o nb hb => ⟨(fun z => by
          rcases bpI b z with q | q
          · exact nb q
          · subst q; rw [hL] at hb; cases hb), s2 b o hb⟩
        refine ⟨fun i m ys H2 => m = items.length - i ∧ i ≤ items.length ∧ H2 L = some (.lst ys) ∧ Same H1 H2 ∧ ys.length ≤ i ∧ ∃ pre rest, out = pre ++ rest ∧ Rps K H2 Bp pre ys ∧ compD f gt ge (dComp n caps δ) (items.drop i) = some rest,
          ⟨_, rfl, Nat.zero_le _, upd_same, same_upd hL, Nat.le_refl _, [], out, rfl, by rw [rps_nil], e2⟩, ?_⟩
        rintro i m ys H2 ⟨rfl, hil, hD, s2, hyl, pre, rest, ho, rp, ec⟩
        have en2 : Env K H2 Bp (sComp n caps σ) (dComp n caps δ) := by
          refine ⟨Pd.impG (gr s2) (fun i ds z => dComp_ow z) (en1.comp n caps).all, fun a z => ?_, fun i j a ds es h1 _ _ _ => (dComp_ow h1).elim⟩
          rcases bpI a z with q | q
          · exact (en1.same s2).bad a q
          · subst q; rw [hD]; exact fun z => nomatch z
        by_cases hlt : i < items.length
        · refine .inr ⟨it.go i H2 (Gr.same s2) hlt, fun x H3 y => ?_⟩
          obtain ⟨sm, dx, hdx, rx⟩ := it.yld i H2 x H3 (Gr.same s2) y hlt
          have rx' : Rp K H3 Bp dx x := rx Bp (gr (s2.trans sm)) en2.bad
          replace en2 := en2.same sm
          replace s2 := s2.trans sm
          replace hD := sm _ _ hD
          replace rp := rp.same sm
          have hdrop : items.drop i = dx :: items.drop (i + 1) := by
            rw [List.drop_eq_getElem_cons hlt]
            congr 1
            rw [List.getElem?_eq_getElem hlt] at hdx
            exact Option.some.inj hdx
          rw [hdrop] at ec
          unfold compD at ec
          cases e3 : f dx (dComp n caps δ) with
          | none => rw [e3] at ec; cases ec
          | some δ' =>
            rw [e3] at ec
            dsimp only at ec
            refine ⟨Bp, dx, dComp n caps δ, δ', rx', en2, e3, fun σ4 w en4 => ⟨⟨w.len, fun j v z => ?_⟩, ?_⟩⟩
            · by_cases hj : j ∈ idx
              · rw [sComp_lt (hidx j hj)] at z; cases z
              · rw [(w.oth j hj).1]; exact z
            · cases e4 : gt δ' with
              | none => rw [e4] at ec; cases ec
              | some t =>
                rw [e4] at ec
                refine ⟨Bp, δ', t, en4, e4, fun H5 s5 => ?_⟩
                cases t with
                | false =>
                  rw [if_neg Bool.false_ne_true]
                  exact ⟨items.length - (i + 1), by omega, rfl, hlt, s5 _ _ hD, s2.trans s5, by omega, pre, rest, ho, rp.same s5, ec⟩
                | true =>
                  rw [if_pos rfl]
                  dsimp only at ec
                  cases e5 : ge δ' with
                  | none => rw [e5] at ec; cases ec
                  | some yd =>
                    rw [e5] at ec
                    dsimp only at ec
                    cases e6 : compD f gt ge (dComp n caps δ) (items.drop (i + 1)) with
                    | none => rw [e6] at ec; cases ec
                    | some rest' =>
                      rw [e6] at ec
                      cases ec
                      refine ⟨Bp, δ', yd, en4.same s5, e5, fun v H6 s6 r6 => ?_⟩
                      have hD6 : H6 L = some (.lst ys) := s6 _ _ (s5 _ _ hD)
                      have g6 : Gr H6 (upd H6 L (.lst (ys ++ [v]))) Bp Bp := fun b o nb hb => ⟨nb, by
                        rw [upd_ne (fun z => nb (by rw [z]; exact bpL))]; exact hb⟩
                      refine ⟨hD6, by omega, items.length - (i + 1), by omega, rfl, hlt, upd_same, fun b o hb => ?_, by simp; omega, pre ++ [yd], rest', by rw [ho]; simp, ?_, e6⟩
                      · have nbL : b ≠ L := fun z => by rw [z, hL] at hb; cases hb
                        rw [upd_ne nbL]
                        exact s6 _ _ (s5 _ _ (s2 _ _ hb))
                      · exact (Rps.snoc ((rp.same s5).same s6) r6).mono g6
        · have e : i = items.length := by omega
          subst e
          refine .inl ⟨it.stop _ H2 (Gr.same s2) (Nat.le_refl _), ?_⟩
          rw [List.drop_length] at ec
          have ec' : ([] : List D) = rest := Option.some.inj ec
          subst ec'
          rw [List.append_nil] at ho
          subst ho
          refine k L H2 (s1.free hL) (s1.trans s2) ⟨ys, hD, ?_⟩
          rw [hBp] at rp
          exact rp
    · rw [if_neg hsz] at h; cases h
theorem pdf_comp {sc scope : Scope} {elt iter : Expr} {ifs : List Expr} {N' : List Str} {n : Nat} {caps : List Nat} {gi : Ds → Option (List D)} {idx : List Nat} {f : D → Ds → Option Ds} {ge : Ds → Option D}
    (hc : X.calm = true) (hsc : X.env.scope = sc) (ok : CompOk sc scope X.N N' n caps) (hidx : ∀ j ∈ idx, j < n) (hi : PID X tg iter gi)
    (hg : ∀ cl s H ex, PGD (cxComp X scope cl N' s H ex) tg idx f) (ht : ∀ cl s H ex, PFD (cxComp X scope cl N' s H ex) ifs gt) (he : ∀ cl s H ex, PD (cxComp X scope cl N' s H ex) elt ge)
    (hs : ∀ x, foldedSetIterable iter X.env x = pure x := by intro _; rfl) :
    PDF X (.ListComp elt [⟨tg, iter, ifs, 0⟩] scope pos) (compG n caps gi f gt ge) := .mk fun B δ =>
  (pe_comp hc hsc ok (hi B δ) (g := fun v σ H Q => ∃ B d δ, tDG X.K idx f B d δ v σ H Q) (tt := fun σ H Q => ∃ B δ, tDT X.K B δ gt σ H Q) (te := fun σ H Q => ∃ B δ, tD X.K B δ ge σ H Q)
    (fun cl s H ex pins s' σ H v u Q I r ⟨B, d, δ, h⟩ => hg cl s _ ex B d δ pins s' σ H v u Q I r h)
    (fun cl s H ex pins s' σ H Q I ⟨B, δ, h⟩ => ht cl s _ ex B δ pins s' σ H Q I h)
    (fun cl s H ex pins s' σ H Q I ⟨B, δ, h⟩ => he cl s _ ex B δ pins s' σ H Q I h) hs).imp fun σ H Q h => comp_read hidx h
theorem pd_comp {sc scope : Scope} {elt iter : Expr} {ifs : List Expr} {N' : List Str} {n : Nat} {caps : List Nat} {gi : Ds → Option (List D)} {idx : List Nat} {f : D → Ds → Option Ds} {ge : Ds → Option D}
    (hc : X.calm = true) (hsc : X.env.scope = sc) (ok : CompOk sc scope X.N N' n caps) (hidx : ∀ j ∈ idx, j < n) (hi : PID X tg iter gi)
    (hg : ∀ cl s H ex, PGD (cxComp X scope cl N' s H ex) tg idx f) (ht : ∀ cl s H ex, PFD (cxComp X scope cl N' s H ex) ifs gt) (he : ∀ cl s H ex, PD (cxComp X scope cl N' s H ex) elt ge)
    (hs : ∀ x, foldedSetIterable iter X.env x = pure x := by intro _; rfl) :
    PD X (.ListComp elt [⟨tg, iter, ifs, 0⟩] scope pos) (compG n caps gi f gt ge) := (pdf_comp hc hsc ok hidx hi hg ht he hs).pd
theorem psd_setComp (i : Nat) {y : Str} {py spos : Pos} {sc scope : Scope} {elt iter : Expr} {ifs : List Expr} {N' : List Str} {n : Nat} {caps : List Nat} {gi : Ds → Option (List D)} {idx : List Nat} {f : D → Ds → Option Ds} {ge : Ds → Option D}
    (hN : X.N.Nodup) (hc : X.calm = true) (hsc : X.env.scope = sc) (ok : CompOk sc scope X.N N' n caps) (hidx : ∀ j ∈ idx, j < n) (hi : PID X tg iter gi)
    (hg : ∀ cl s H ex, PGD (cxComp X scope cl N' s H ex) tg idx f) (ht : ∀ cl s H ex, PFD (cxComp X scope cl N' s H ex) ifs gt) (he : ∀ cl s H ex, PD (cxComp X scope cl N' s H ex) elt ge)
    (hiN : X.N[i]? = some y := by rfl) (hy : Loc X.env.scope y := by first | exact Or.inl rfl | exact Or.inr rfl)
    (hsw : swapsWith (.ListComp elt [⟨tg, iter, ifs, 0⟩] scope pos) (some (.Name y py)) spos.line X.env = pure true := by rfl)
    (hs : ∀ x, foldedSetIterable iter X.env x = pure x := by intro _; rfl)
    (hf : X.fn y = true ∨ X.env.scope.names.lookup y = some .local := by first | exact .inl rfl | exact .inr rfl | assumption) :
    PSD X (.Assign [.Name y py] (.ListComp elt [⟨tg, iter, ifs, 0⟩] scope pos) spos) (setD (gN i) (compG n caps gi f gt ge)) := .mk fun H₀ B₀ δ pins s σ H D I ⟨r, en, e1, k⟩ => by
  unfold setD at e1
  obtain ⟨B, b1, b2, env⟩ := en.ex
  cases e2 : compG n caps gi f gt ge δ with
  | none => rw [e2] at e1; cases e1
  | some d =>
    rw [e2] at e1
    cases e1
    refine ps_setComp (i := i) hN hiN hy hc hsc ok (hi B δ) (g := fun v σ H Q => ∃ B d δ, tDG X.K idx f B d δ v σ H Q) (tt := fun σ H Q => ∃ B δ, tDT X.K B δ gt σ H Q) (te := fun σ H Q => ∃ B δ, tD X.K B δ ge σ H Q)
      (fun cl s H ex pins s' σ H v u Q I r ⟨B, d, δ, h⟩ => hg cl s _ ex B d δ pins s' σ H v u Q I r h)
      (fun cl s H ex pins s' σ H Q I ⟨B, δ, h⟩ => ht cl s _ ex B δ pins s' σ H Q I h)
      (fun cl s H ex pins s' σ H Q I ⟨B, δ, h⟩ => he cl s _ ex B δ pins s' σ H Q I h) hsw hs hf pins s σ H D I (comp_read hidx (tD.toF ⟨d, env, e2, fun v H' s' r' => k _ H' (en.wr b1 b2 s' wr_set ((env.same s').set i r'))⟩))
end
theorem start_rel {K : PySem.W.Frag} {H : Hp} {B : BS} {N : List Str} : ∀ {ds : List D} {vs : List V}, Rps K H B ds vs → Paired (SlR K H B) (vs.map some) (ds.map Sl.sh)
  | [], _, h => by rw [rps_nil] at h; subst h; exact .nil
  | d :: ds, _, h => by
    rw [rps_cons] at h
    obtain ⟨x, r, rfl, h1, h2⟩ := h
    exact .cons ⟨x, rfl, h1⟩ (start_rel (N := N) h2)
theorem dStart_ow {N : List Str} {ds : List D} {i : Nat} {es : D} (h : (dStart N ds)[i]? = some (.ow es)) : False := by
  unfold dStart at h
  by_cases hi : i < ds.length
  · rw [List.getElem?_append_left (by simpa using hi), List.getElem?_map] at h
    cases q : ds[i]? with
    | none => rw [q] at h; cases h
    | some d => rw [q] at h; cases h
  · rw [List.getElem?_append_right (by simpa using hi), List.getElem?_replicate] at h
    split at h <;> cases h
section
variable {P : Program} {w : World} {K : PySem.W.Frag} {mg : Str → Option Value} {base : Heap}
theorem okD {x qual : Str} {st : Stmt} {fa : Addr} {fd : FuncData} {N ps : List Str} {k : Nat} {f : List D → Option D} {G : Ds → Option Res} (F : Fun K x qual st fa fd) (S : FnScope N ps (defScope st))
    (body : ∀ (cdv : Value) (A : Around) (outer : List PySem.Env) (s : Shared) (H : Hp) (E : XK), Room k (A.deeper (envOfC qual (defScope st) s.heap.objs.size fa cdv)) → PSsD (cxOf CX0 P w K mg base N qual (defScope st) fa cdv A outer s H E).nox (defBody st) G)
    (hf : ∀ ds d, f ds = some d → ds.length = ps.length ∧ (G (dStart N ds) = some (.rt d) ∨ (d = .non ∧ ∃ δ, G (dStart N ds) = some (.nx δ)) ∨ G (dStart N ds) = some (.rf d) ∧ isL d = false)) :
    FnOk P w K mg base CX0 (k + 1) fa fd ps (spD K f) := by
  refine F.ok S (fun vs H Q E ⟨B, ds, d, _, r, h, _⟩ => ?_) (fun cdv A outer s H vs Q E hr ⟨B, ds, d, hb, r, h, q⟩ => ?_)
  · rw [r.length]; exact (hf ds d h).1
  · refine ⟨_, body cdv A outer s H E hr H B (dStart N ds), ?_⟩
    have en : EnvS K H B H (L2.start N vs) (dStart N ds) := by
      refine ⟨Same.refl H, ⟨B, fun _ z => z, fun _ z => .inl z, ⟨?_, hb, fun i j a ds' es h1 _ _ _ => (dStart_ow h1).elim⟩⟩, fun i ds' a h1 _ => (dStart_ow h1).elim, hb⟩
      unfold L2.start dStart
      rw [r.length]
      exact Pd.app (start_rel (N := N) r) (rep_un _)
    rcases (hf ds d h).2 with e | ⟨rfl, δ, e⟩ | ⟨e, hn⟩
    · exact ⟨_, en, e, fun v H' s' r' => q v H' s' r'⟩
    · exact ⟨_, en, e, fun σ' H' en' => q .non H' en'.same (by rw [rp_non])⟩
    · exact ⟨_, en, e, fun p H' hp s' r' => q _ H' s' ((r'.toO hn).rp (fun a z => .inl z) (fun z => hb p z hp))⟩
noncomputable def spN (K : PySem.W.Frag) (f : List D → Option D) : Sp := fun vs H Q _ => ∃ (B : BS) (ds : List D) (d : D), (∀ a, B a → H a ≠ none) ∧ Rps K H B ds vs ∧ f ds = some d ∧ ∀ p H', H p = none → Same H H' → RpO K H' (fun a => B a ∨ a = p) d p → Q (.ref p) H'
theorem okN {x qual : Str} {st : Stmt} {fa : Addr} {fd : FuncData} {N ps : List Str} {k : Nat} {f : List D → Option D} {G : Ds → Option Res} (F : Fun K x qual st fa fd) (S : FnScope N ps (defScope st))
    (body : ∀ (cdv : Value) (A : Around) (outer : List PySem.Env) (s : Shared) (H : Hp) (E : XK), Room k (A.deeper (envOfC qual (defScope st) s.heap.objs.size fa cdv)) → PSsD (cxOf CX0 P w K mg base N qual (defScope st) fa cdv A outer s H E).nox (defBody st) G)
    (hf : ∀ ds d, f ds = some d → ds.length = ps.length ∧ G (dStart N ds) = some (.rf d) ∧ isL d = false) :
    FnOk P w K mg base CX0 (k + 1) fa fd ps (spN K f) := by
  refine F.ok S (fun vs H Q E ⟨B, ds, d, _, r, h, _⟩ => ?_) (fun cdv A outer s H vs Q E hr ⟨B, ds, d, hb, r, h, q⟩ => ?_)
  · rw [r.length]; exact (hf ds d h).1
  · refine ⟨_, body cdv A outer s H E hr H B (dStart N ds), ?_⟩
    have en : EnvS K H B H (L2.start N vs) (dStart N ds) := by
      refine ⟨Same.refl H, ⟨B, fun _ z => z, fun _ z => .inl z, ⟨?_, hb, fun i j a ds' es h1 _ _ _ => (dStart_ow h1).elim⟩⟩, fun i ds' a h1 _ => (dStart_ow h1).elim, hb⟩
      unfold L2.start dStart
      rw [r.length]
      exact Pd.app (start_rel (N := N) r) (rep_un _)
    exact ⟨_, en, (hf ds d h).2.1, fun p H' hp s' r' => q p H' hp s' (r'.toO (hf ds d h).2.2)⟩
end
end DL
namespace L2
open PySem PySem.Spec PyProof.Rows
section
variable {X : Cx}
theorem strs_are : ∀ {ys : List Str} {us : List Value}, Vals (ys.map V.str) us → StrsAre us ys
  | [], _, r => by rw [List.map_nil] at r; cases r; exact .nil
  | y :: ys, _, r => by
    rw [List.map_cons] at r
    cases r with
    | cons r1 r2 =>
      obtain ⟨t, e⟩ := r1
      subst e
      exact .cons y t (strs_are r2)
theorem mt_join : MtR X "str.join" (fun x xs H Q => ∃ (sep : Str) (p : Addr) (ys : List Str), x = .str sep ∧ xs = [.ref p] ∧ SqL X.K H p (ys.map V.str) ∧ (ys.map (·.length)).sum + ys.length * sep.length ≤ 16777216 ∧ Q (.str (Txt.join sep ys)) H) := by
  intro pins s σ H x xs v us Q I rx rs h
  obtain ⟨sep, p, ys, rfl, rfl, hq, hz, q⟩ := h
  obtain ⟨t, rfl⟩ := rx
  obtain ⟨u, rfl, ru⟩ := rs.one
  cases ru
  obtain ⟨its, rv, pl, _⟩ := I.list hq
  exact join_list pl.isList (by simpa using strs_are rv) hz fun t' k => ⟨.str _, H, I.tok k, ⟨t', rfl⟩, q⟩
theorem part_of {u : Value} {o : Option Int} (p : IsPart u o) : ∃ l : Option (Int × Tok), u = partValue l ∧ l.map (·.1) = o := by
  cases p with
  | none => exact ⟨none, rfl, rfl⟩
  | int i t => exact ⟨some (i, t), rfl, rfl⟩
theorem sl_str : SlR X (fun x lo hi H Q => ∃ z, x = .str z ∧ z.length ≤ sizeLine ∧ Q (.str (Txt.slice z lo hi)) H) := by
  intro pins s σ H x v vl vu lo hi sl Q I rx hs pl pu h
  obtain ⟨z, rfl, hz, q⟩ := h
  obtain ⟨t, rfl⟩ := rx
  obtain ⟨l, rfl, rfl⟩ := part_of pl
  obtain ⟨u, rfl, rfl⟩ := part_of pu
  refine ⟨"str", _, F.slot_str_getitem.lookup, typeIs_str _ _ _, wpAny_getItem_str_slice (l := l) (u := u) (st := none) ?_ rfl (post_val_or_str ⟨Nat.le_trans (Txt.slice_le z _ _) hz, fun t' k => ⟨.str _, H, I.tok k, ⟨t', rfl⟩, q⟩⟩)⟩
  obtain ⟨o, h1, h2, h3⟩ := hs
  exact ⟨o, h1, h2, h3⟩
end
end L2
namespace DL
open PySem PySem.Spec PyProof.Rows L2
noncomputable def tyD : D → String
  | .non => "NoneType" | .bl _ => "bool" | .int _ => "int" | .str _ => "str" | .tup _ => "tuple" | .lst _ => "list" | .dct _ _ => "dict"
noncomputable def okT (T : String) (f : D → Bool) : Prop := ∀ (K : PySem.W.Frag) (d : D), PySem.W.kitOne K (.type (tyD d)) (.type T) = some (f d)
theorem okT_int : okT "int" isInt := fun K d => by cases d <;> kernel_rfl
theorem okT_str : okT "str" isStr := fun K d => by cases d <;> kernel_rfl
theorem okT_bool : okT "bool" isBool := fun K d => by cases d <;> kernel_rfl
theorem okT_tuple : okT "tuple" isTup := fun K d => by cases d <;> kernel_rfl
section
variable {X : Cx}
theorem call_isi {T : String} {f : D → Bool} (hT : okT T f) : CallR X (.builtin "isinstance") (fun xs H Q => ∃ B d x, xs = [x, .ty T] ∧ Rp X.K H B d x ∧ Q (.bl (f d)) H) := by
  intro pins s σ H xs us Q I rs h
  obtain ⟨B, d, x, rfl, r, q⟩ := h
  obtain ⟨u, c, rfl, ru, rc⟩ := rs.two
  obtain rfl : c = Value.type T := rc
  have fin : ∀ tk, EP X pins σ Q (.bool (f d)) { s with toks := tk } := fun tk => ⟨.bl _, H, I.tok tk, rfl, q⟩
  have e := hT X.K d
  cases d with
  | non => rw [rp_non] at r; subst r; cases (show u = Value.none from ru); exact PySem.W.kia_one PySem.W.kitx_none I.kIn True.intro e (fun z => nomatch z) fin
  | bl y => rw [rp_bl] at r; subst r; cases (show u = Value.bool y from ru); exact PySem.W.kia_one PySem.W.kitx_bool I.kIn True.intro e (fun z => nomatch z) fin
  | int i => rw [rp_int] at r; subst r; obtain ⟨t, rfl⟩ := (show ∃ t, u = Value.int i t from ru); exact PySem.W.kia_one PySem.W.kitx_int I.kIn True.intro e (fun z => nomatch z) fin
  | str y => rw [rp_str] at r; subst r; obtain ⟨t, rfl⟩ := (show ∃ t, u = Value.str y t from ru); exact PySem.W.kia_one PySem.W.kitx_str I.kIn True.intro e (fun z => nomatch z) fin
  | tup ds =>
    rw [rp_tup] at r
    obtain ⟨a, xs, rfl, hq, _⟩ := r
    cases (show u = Value.ref a from ru)
    obtain ⟨its, _, p, _⟩ := I.tuple hq.to
    obtain ⟨o, h1, h2, _⟩ := p
    exact PySem.W.kia_one PySem.W.kitx_tuple I.kIn ⟨o, h1, h2⟩ e (fun z => nomatch z) fin
  | lst ds =>
    rw [rp_lst] at r
    obtain ⟨a, xs, rfl, hq, _⟩ := r
    cases (show u = Value.ref a from ru)
    obtain ⟨its, _, p, _⟩ := I.list hq.to
    obtain ⟨o, n, h1, h2, _⟩ := p
    exact PySem.W.kia_one PySem.W.kitx_list I.kIn ⟨o, h1, h2⟩ e (fun z => nomatch z) fin
  | dct ks ds =>
    rw [rp_dctG] at r
    obtain ⟨a, xs, rfl, _, hq, _⟩ := r
    cases (show u = Value.ref a from ru)
    cases ks with
    | inl ks =>
      obtain ⟨_, _, vs, _, p⟩ := (show ObjOk X.prog X.w H s.heap a (.dK (ks.zip xs)) from I.hok a _ hq)
      obtain ⟨o, es, ep, h1, h2, _⟩ := p
      exact PySem.W.kia_one PySem.W.kitx_dict I.kIn ⟨o, h1, h2.1⟩ e (fun z => nomatch z) fin
    | inr ks =>
      obtain ⟨_, _, vs, _, o, es, ep, h1, h2, _⟩ := (show ObjOk X.prog X.w H s.heap a (.dT (ks.zip xs)) from I.hok a _ hq)
      exact PySem.W.kia_one PySem.W.kitx_dict I.kIn ⟨o, h1, h2.1⟩ e (fun z => nomatch z) fin
theorem pd_isi {T : String} {f : D → Bool} {Tn : Str} {e : Expr} {g : Ds → Option D} {p p2 pos : Pos} (hT : okT T f) (hb : bootBuiltins Tn = some (.type T)) (hm : X.mg "isinstance" = none) (hmT : X.mg Tn = none) (h : PD X e g) (hg : Gl X "isinstance" := by rfl) (hgT : Gl X Tn := by rfl)
    (hn : Tn ≠ "__name__" := by decide) (hd : (Tn == ("__debug__" : Str)) = false := by decide)
    (he : starEach [e, .Name Tn p2] X.env = (false, eval e X.env) :: starEach [.Name Tn p2] X.env := by rfl) (he2 : starEach [.Name Tn p2] X.env = (false, eval (.Name Tn p2) X.env) :: starEach [] X.env := by rfl)
    (hpl : (backTo pos (starEach [.Name Tn p2] X.env)).any (·.1) = false := by rfl) :
    PD X (.Call (.Name "isinstance" p) [e, .Name Tn p2] [] pos) (isiG f g) :=
  .mk fun B δ => (pe_callB (call_isi hT) hg hm PyProof.Rows.boot_isinstance (pa_cons (h B δ) (pa_cons (pe_bltn (v := .ty T) hgT hmT hb rfl hn hd) pa_nil he2) he) (by decide) (by decide) he hpl).imp fun σ H Q ⟨d, en, h, k⟩ => by
    unfold isiG at h
    cases e1 : g δ with
    | none => rw [e1] at h; cases h
    | some x =>
      rw [e1] at h
      cases h
      exact ⟨x, en, e1, fun v H1 s1 r1 => ⟨B, x, v, rfl, r1, k _ H1 s1 (by rw [rp_bl])⟩⟩
theorem op2_ii {K : PySem.W.Frag} {C : Int → Int → Prop} [∀ i j, Decidable (C i j)] {g : Int → Int → V} {g' : Int → Int → D} (hg : ∀ i j H B, Rp K H B (g' i j) (g i j)) : Op2 K (rI C g) (ii fun i j => if C i j then some (g' i j) else none) := by
  intro H B x y dx dy d Q hb rx ry h k
  cases dx <;> cases dy <;> simp only [ii] at h <;> try cases h
  rename_i i j
  split at h
  · cases h
    rw [rp_int] at rx ry
    subst rx ry
    exact ⟨i, j, rfl, rfl, by assumption, k _ H (Same.refl H) (hg i j H B)⟩
  · cases h
theorem op2_i0 {K : PySem.W.Frag} {g : Int → Int → V} {g' : Int → Int → D} (hg : ∀ i j H B, Rp K H B (g' i j) (g i j)) : Op2 K (rI0 g) (ii fun i j => some (g' i j)) := by
  intro H B x y dx dy d Q hb rx ry h k
  cases dx <;> cases dy <;> simp only [ii] at h <;> try cases h
  rename_i i j
  rw [rp_int] at rx ry
  subst rx ry
  exact ⟨i, j, rfl, rfl, k _ H (Same.refl H) (hg i j H B)⟩
instance decDiv (i j : Int) : Decidable (CDiv i j) := inferInstanceAs (Decidable (0 < j ∧ j < 1073741824))
instance decPow (i j : Int) : Decidable (CPow i j) := inferInstanceAs (Decidable (0 ≤ j ∧ j ≤ 1000000 ∧ i.natAbs < 2 ^ 64))
variable {e a b : Expr} {pos : Pos} {g ga gb : Ds → Option D}
theorem pd_sub (ha : PD X a ga) (hb : PD X b gb) : PD X (.BinOp a .Sub b pos) (o2 ga gb subD) := pd_op op_sub (op2_i0 (g' := fun i j => .int (i - j)) fun _ _ _ _ => by rw [rp_int]) ha hb
theorem pd_fdiv (ha : PD X a ga) (hb : PD X b gb) : PD X (.BinOp a .FloorDiv b pos) (o2 ga gb fdivD) := pd_op op_fdiv (op2_ii (C := CDiv) (g' := fun i j => .int (i / j)) fun _ _ _ _ => by rw [rp_int]) ha hb
theorem pd_mod (ha : PD X a ga) (hb : PD X b gb) : PD X (.BinOp a .Mod b pos) (o2 ga gb modD) := pd_op op_mod (op2_ii (C := fun _ j => 0 < j) (g' := fun i j => .int (i % j)) fun _ _ _ _ => by rw [rp_int]) ha hb
theorem pd_pow (ha : PD X a ga) (hb : PD X b gb) : PD X (.BinOp a .Pow b pos) (o2 ga gb powD) := pd_op op_pow (op2_ii (C := CPow) (g' := fun i j => .int (i ^ j.toNat)) fun _ _ _ _ => by rw [rp_int]) ha hb
end
end DL
namespace L2
open PySem PySem.Spec PyProof.Rows
section
variable {X : Cx}
noncomputable def rCatL (K : PySem.W.Frag) : R2 := fun x y H Q => ∃ l b xs zs, x = .ref l ∧ y = .ref b ∧ SqL K H l xs ∧ SqL K H b zs ∧ xs.length + zs.length ≤ sizeLine ∧ ∀ p, H p = none → Q (.ref p) (upd H p (.lst (xs ++ zs)))
theorem op_catL : OpR X (binaryOp .Add) (rCatL X.K) := by
  intro pins s σ H x y v u Q I rx ry h
  obtain ⟨l, b, xs, zs, rfl, rfl, hH, hB, hz, q⟩ := h
  cases rx
  cases ry
  obtain ⟨its, r, p1, z1⟩ := I.list hH
  obtain ⟨its2, r2, p2, z2⟩ := I.list hB
  obtain ⟨⟨cls, dd, data, sl⟩, ho, hc, n, hd⟩ := p1.isList
  obtain ⟨⟨cls2, dd2, data2, sl2⟩, ho2, hc2, n2, hd2⟩ := p2.isList
  simp only at hc hd hc2 hd2
  subst hc hd hc2 hd2
  have e : its.toArray ++ its2.toArray = (its ++ its2).toArray := by simp
  have hsz : its.toArray.size + its2.toArray.size ≤ sizeLine := by
    rw [List.size_toArray, List.size_toArray, ← r.length, ← r2.length]; exact hz
  refine concat_meets ⟨_, ho, rfl⟩ ⟨_, ho2, rfl⟩ noFill_list_add seq_list_add PySem.F.slot_list_add PySem.F.entry_list_add (PySem.F.args_list_add_2 _ _) (list_addW l b its.toArray its2.toArray n n2 dd dd2 sl sl2 hsz) ⟨ho, ho2, ?_⟩
  rw [e]
  exact ⟨.ref _, _, I.lnew (t' := s.toks) (r.append r2) (by rw [List.length_append]; exact hz), rfl, q _ I.fresh⟩
end
end L2
namespace DL
open PySem PySem.Spec PyProof.Rows L2
section
variable {X : Cx} {K : PySem.W.Frag} {e a b : Expr} {es : List Expr} {pos p : Pos} {g ga gb : Ds → Option D} {gA : Ds → Option (List D)}
theorem fresh_not {H : Hp} {B : BS} (hb : ∀ a, B a → H a ≠ none) {p : Addr} (h : H p = none) : ¬ B p := fun z => hb p z h
theorem rp_newL {H : Hp} {B : BS} {p : Addr} {ds : List D} {xs : List V} (hb : ∀ a, B a → H a ≠ none) (h : H p = none) (r : Rps K H B ds xs) : Rp K (upd H p (.lst xs)) B (.lst ds) (.ref p) := by
  rw [rp_lst]
  exact ⟨p, xs, rfl, .inl ⟨fresh_not hb h, .inl upd_same⟩, r.same (same_upd h)⟩
theorem rp_newT {H : Hp} {B : BS} {p : Addr} {ds : List D} {xs : List V} (hb : ∀ a, B a → H a ≠ none) (h : H p = none) (r : Rps K H B ds xs) : Rp K (upd H p (.tup xs)) B (.tup ds) (.ref p) := by
  rw [rp_tup]
  exact ⟨p, xs, rfl, ⟨fresh_not hb h, upd_same⟩, r.same (same_upd h)⟩
theorem op2_lt : Op2 K (rI0 fun i j => .bl (decide (i < j))) ltD := op2_i0 (g' := fun i j => .bl (decide (i < j))) fun _ _ _ _ => by rw [rp_bl]
theorem op2_gt : Op2 K (rI0 fun i j => .bl (decide (j < i))) gtD := op2_i0 (g' := fun i j => .bl (decide (j < i))) fun _ _ _ _ => by rw [rp_bl]
theorem eqS_ok {H : Hp} {B : BS} {x y : V} {dx dy : D} {b : Bool} (rx : Rp K H B dx x) (ry : Rp K H B dy y) (h : eqS dx dy = some b) : scal x y = true ∧ decide (x = y) = b := by
  cases dx <;> cases dy <;> simp only [eqS] at h <;> try cases h
  all_goals
    simp only [rp_non, rp_bl, rp_int, rp_str] at rx ry
    subst rx ry
    refine ⟨rfl, ?_⟩
    simp
theorem op2_eq : Op2 K rEq eqD := by
  intro H B x y dx dy d Q hb rx ry h k
  unfold eqD at h
  cases e : eqS dx dy with
  | none => rw [e] at h; cases h
  | some b =>
    rw [e] at h
    cases h
    obtain ⟨h1, h2⟩ := eqS_ok rx ry e
    exact ⟨h1, by rw [h2]; exact k _ H (Same.refl H) (by rw [rp_bl])⟩
theorem op2_ne : Op2 K rNe neD := by
  intro H B x y dx dy d Q hb rx ry h k
  unfold neD at h
  cases e : eqS dx dy with
  | none => rw [e] at h; cases h
  | some b =>
    rw [e] at h
    cases h
    obtain ⟨h1, h2⟩ := eqS_ok rx ry e
    exact ⟨h1, by rw [h2]; exact k _ H (Same.refl H) (by rw [rp_bl])⟩
theorem op2_isN : Op2 K (fun x y H Q => y = .non ∧ Q (.bl (decide (x = .non))) H) isND := by
  intro H B x y dx dy d Q hb rx ry h k
  have hy : dy = .non := by cases dy <;> first | rfl | cases h
  subst hy
  cases h
  rw [rp_non] at ry
  refine ⟨ry, k _ H (Same.refl H) ?_⟩
  rw [rp_bl]
  cases dx <;> simp only [rp_non, rp_bl, rp_int, rp_str, rp_tup, rp_lst, rp_dctG] at rx
  all_goals first
    | (subst rx; rfl)
    | (obtain ⟨a, xs, rfl, _⟩ := rx; rfl)
theorem atI_eq {α : Type} (xs : List α) (i : Int) : L2.atI xs i = DL.atI xs i := rfl
theorem sIx_eq (n d : Nat) (o : Option Int) : HT.sIx n d o = sIx n d o := by cases o <;> rfl
theorem atI_rel {H : Hp} {B : BS} {ds : List D} {xs : List V} {i : Int} {d : D} (r : Rps K H B ds xs) (h : DL.atI ds i = some d) : ∃ v, L2.atI xs i = some v ∧ Rp K H B d v := by
  rw [atI_eq]
  unfold DL.atI at h ⊢
  rw [r.length]
  cases e : DL.ixN ds.length i with
  | none => rw [e] at h; cases h
  | some j =>
    rw [e] at h
    exact r.get h
theorem op2_ix : Op2 K (rIx K) ixD := by
  intro H B x y dx dy d Q hb rx ry h k
  cases dx <;> cases dy <;> simp only [ixD] at h <;> try cases h
  · split at h
    · rename_i hz
      rw [rp_str] at rx
      rw [rp_int] at ry
      subst rx ry
      obtain ⟨c, hc, rfl⟩ := Option.map_eq_some_iff.mp h
      exact .inr (.inr ⟨_, _, c, rfl, rfl, hz, hc, k _ H (Same.refl H) (by rw [rp_str])⟩)
    · cases h
  · rw [rp_tup] at rx
    rw [rp_int] at ry
    subst ry
    obtain ⟨a, xs, rfl, q, r⟩ := rx
    obtain ⟨v, hv, rv⟩ := atI_rel r h
    exact .inr (.inl ⟨a, xs, _, v, rfl, rfl, q.to, hv, k _ H (Same.refl H) rv⟩)
  · rw [rp_lst] at rx
    rw [rp_int] at ry
    subst ry
    obtain ⟨a, xs, rfl, q, r⟩ := rx
    obtain ⟨v, hv, rv⟩ := atI_rel r h
    exact .inl ⟨a, xs, _, v, rfl, rfl, q.to, hv, k _ H (Same.refl H) rv⟩
theorem pd_ix' (ha : PD X a ga) (hb : PD X b gb) (hs : PlainIx b := by exact fun _ _ => rfl) : PD X (.Subscript a b pos) (o2 ga gb ixD) := pd_ix ix_seq op2_ix ha hb hs
structure PDO (X : Cx) (e : Option Expr) (g : Ds → Option (Option Int)) : Prop where
  mk :: go : ∀ B δ, PO X e (fun σ H Q => ∃ o, Env X.K H B σ δ ∧ g δ = some o ∧ ∀ H', Same H H' → Q o H')
instance {X : Cx} {e : Option Expr} {g : Ds → Option (Option Int)} : CoeFun (PDO X e g) (fun _ => ∀ B δ, PO X e (fun σ H Q => ∃ o, Env X.K H B σ δ ∧ g δ = some o ∧ ∀ H', Same H H' → Q o H')) := ⟨PDO.go⟩
theorem pdo_none : PDO X none noneO := .mk fun B δ pins s σ H Q I ⟨o, en, h, k⟩ => by
  cases h
  exact po_none pins s σ H Q I (k H (Same.refl H))
theorem pdo_some (h : PD X e g) : PDO X (some e) (someO g) := .mk fun B δ pins s σ H Q I ⟨o, en, hq, k⟩ => by
  unfold someO at hq
  cases e1 : g δ with
  | none => rw [e1] at hq; cases hq
  | some d =>
    rw [e1] at hq
    cases d <;> simp [asI] at hq
    subst hq
    exact po_some (h B δ) pins s σ H Q I ⟨_, en, e1, fun v H' s' r => ⟨_, by rw [rp_int] at r; exact r, k H' s'⟩⟩
theorem cut_rel {H : Hp} {B : BS} {ds : List D} {xs : List V} (r : Rps K H B ds xs) (lo hi : Option Int) : Rps K H B (cutD ds lo hi) (cutV xs lo hi) := by
  unfold cutD cutV
  rw [r.length, sIx_eq, sIx_eq]
  exact (r.drop _).take _
theorem rps_one {H : Hp} {B : BS} {d : D} {xs : List V} (h : Rps K H B [d] xs) : ∃ v, xs = [v] ∧ Rp K H B d v := by
  rw [rps_cons] at h
  obtain ⟨x, r, rfl, h1, h2⟩ := h
  rw [rps_nil] at h2
  subst h2
  exact ⟨x, rfl, h1⟩
theorem fn_len : FnR K (fun xs H Q => (∃ z, xs = [.str z] ∧ z.length ≤ sizeLine ∧ Q (.int z.length) H) ∨ ∃ p ys, xs = [.ref p] ∧ (SqL K H p ys ∨ SqT K H p ys) ∧ Q (.int ys.length) H) lenD := by
  intro H B xs ds d Q hb r h k
  unfold lenD at h
  split at h
  · split at h
    · cases h
      obtain ⟨v, rfl, r1⟩ := rps_one r
      rw [rp_str] at r1
      subst r1
      exact .inl ⟨_, rfl, by assumption, k _ H (Same.refl H) (by rw [rp_int])⟩
    · cases h
  · cases h
    obtain ⟨v, rfl, r1⟩ := rps_one r
    rw [rp_lst] at r1
    obtain ⟨a, ys, rfl, q, rr⟩ := r1
    exact .inr ⟨a, ys, rfl, .inl q.to, k _ H (Same.refl H) (by rw [rp_int, rr.length])⟩
  · cases h
    obtain ⟨v, rfl, r1⟩ := rps_one r
    rw [rp_tup] at r1
    obtain ⟨a, ys, rfl, q, rr⟩ := r1
    exact .inr ⟨a, ys, rfl, .inr q.to, k _ H (Same.refl H) (by rw [rp_int, rr.length])⟩
  · cases h
theorem pd_len (hm : X.mg "len" = none) (ha : PDA X [e] gA) (hg : Gl X "len" := by rfl) (he : starEach [e] X.env = (false, eval e X.env) :: starEach [] X.env := by rfl) (hpl : (backTo pos (starEach [] X.env)).any (·.1) = false := by rfl) :
    PD X (.Call (.Name "len" p) [e] [] pos) (oA gA lenD) := pd_callB (call_len_str.or call_len_seq) fn_len hm PySem.boot_len ha hg (by decide) (by decide) he hpl
theorem strL_rel {H : Hp} {B : BS} : ∀ {ds : List D} {xs : List V} {bs : List Str}, Rps K H B ds xs → strL ds = some bs → xs = bs.map V.str
  | [], _, _, r, h => by
    cases h
    rw [rps_nil] at r
    exact r
  | d :: ds, _, bs, r, h => by
    rw [rps_cons] at r
    obtain ⟨x, t, rfl, r1, r2⟩ := r
    cases d <;> simp only [strL] at h <;> try cases h
    obtain ⟨t', e, rfl⟩ := Option.map_eq_some_iff.mp h
    rw [rp_str] at r1
    rw [r1, strL_rel r2 e]
    rfl
theorem pd_join {o : Expr} {apos cpos : Pos} (ho : PD X o g) (ha : PDA X [e] gA) (hbase : attributeBase o "join" X.env (eval o X.env) = eval o X.env := by rfl)
    (hfew : ((backTo cpos (starEach [e] X.env)).all (fun x => !x.1) && (backToKw cpos (keywordEach [] X.env)).all (fun x => x.1.isSome)
      && decide ([e].length + ([] : List Keyword).length + (if ([] : List Keyword).isEmpty then 0 else 1) < 30)) = true := by rfl)
    (hline : (apos.endLine == cpos.line) = true := by rfl) (hs : starEach [e] X.env = (false, eval e X.env) :: starEach [] X.env := by rfl) (hplain : (backTo cpos (starEach [] X.env)).any (·.1) = false := by rfl) :
    PD X (.Call (.Attribute o "join" apos) [e] [] cpos) (joinG g gA) := .mk fun B δ =>
  (pe_bm F.plainAttrs_str F.slot_str_join F.type_str_join mt_join (ho B δ) (ha B δ) hbase hfew hline hs hplain).imp fun σ H Q ⟨d, en, h, k⟩ => by
    unfold joinG at h
    cases e1 : g δ with
    | none => rw [e1] at h; cases h
    | some x =>
      cases e2 : gA δ with
      | none => rw [e1, e2] at h; cases h
      | some ds =>
        rw [e1, e2] at h
        simp only [Option.bind_some] at h
        unfold joinD at h
        split at h
        · cases e3 : strL _ with
          | none => rw [e3] at h; cases h
          | some ys =>
            rw [e3] at h
            simp only [Option.bind_some] at h
            split at h
            · cases h
              refine ⟨_, en, e1, fun v H1 s1 r1 => ?_⟩
              rw [rp_str] at r1
              subst r1
              refine ⟨rfl, _, en.same s1, e2, fun vs H2 s2 r2 => ?_⟩
              obtain ⟨w, rfl, r3⟩ := rps_one r2
              rw [rp_lst] at r3
              obtain ⟨a, zs, rfl, q, rr⟩ := r3
              have := strL_rel rr e3
              subst this
              exact ⟨_, a, ys, rfl, rfl, q.to, by assumption, k _ H2 (s1.trans s2) (by rw [rp_str])⟩
            · cases h
        · cases h
theorem fn_tup : FnR K (fun xs H Q => ∃ p ys, xs = [.ref p] ∧ ((SqL K H p ys ∧ ∀ l, H l = none → Q (.ref l) (upd H l (.tup ys))) ∨ (SqT K H p ys ∧ Q (.ref p) H))) tupOfD := by
  intro H B xs ds d Q hb r h k
  unfold tupOfD at h
  split at h
  · cases h
    obtain ⟨v, rfl, r1⟩ := rps_one r
    rw [rp_lst] at r1
    obtain ⟨a, ys, rfl, q, rr⟩ := r1
    exact ⟨a, ys, rfl, .inl ⟨q.to, fun l hl => k _ _ (same_upd hl) (rp_newT hb hl rr)⟩⟩
  · cases h
    obtain ⟨v, rfl, r1⟩ := rps_one r
    have r1' := r1
    rw [rp_tup] at r1
    obtain ⟨a, ys, rfl, q, rr⟩ := r1
    exact ⟨a, ys, rfl, .inr ⟨q.to, k _ H (Same.refl H) r1'⟩⟩
  · cases h
end
end DL
namespace DL
open PySem PySem.Spec PyProof.Rows L2
section
variable {X : Cx} {K : PySem.W.Frag} {e a b : Expr} {es : List Expr} {pos p : Pos} {g ga gb : Ds → Option D} {gA : Ds → Option (List D)}
theorem pd_neg (h : PD X a ga) : PD X (.UnaryOp .USub a pos) (unG negD ga) := .mk fun B δ => (pe_un un_neg (h B δ)).imp fun σ H Q ⟨d, en, h, k⟩ => by
  unfold unG at h
  cases e1 : ga δ with
  | none => rw [e1] at h; cases h
  | some x =>
    rw [e1] at h
    cases x <;> simp [negD] at h
    subst h
    exact ⟨_, en, e1, fun v H' s r => ⟨_, by rw [rp_int] at r; exact r, k _ H' s (by rw [rp_int])⟩⟩
noncomputable def FnD (P : Program) (w : World) (K : PySem.W.Frag) (mg : Str → Option Value) (base : Heap) (x : Str) (k : Nat) (ps : List Str) (f : List D → Option D) : Prop :=
  ∃ (fa : Addr) (fd : FuncData), FnOk P w K mg base CX0 k fa fd ps (spD K f) ∧ mg x = some (.ref fa) ∧ PySem.W.keepIn K (.ref fa) = true ∧ Binds K fd ps []
theorem pd_fn {k m : Nat} {ps : List Str} {x : Str} {f : List D → Option D} (C : FnD X.prog X.w X.K X.mg X.base x k ps f) (hr : Room m X.A) (hk : k ≤ m) (ha : PDA X (e :: es) gA) (hg : Gl X x := by rfl) (hdb : (x == ("__debug__" : Str)) = false := by decide)
    (he : starEach (e :: es) X.env = (false, eval e X.env) :: starEach es X.env := by rfl) (hpl : (backTo pos (starEach es X.env)).any (·.1) = false := by rfl) : PD X (.Call (.Name x p) (e :: es) [] pos) (oA gA f) := by
  obtain ⟨fa, fd, F, hm, kp, hb⟩ := C
  exact pd_call F (hr.mono hk) hm kp hb ha hg hdb he hpl
theorem pd_cmpD {sc scope : Scope} {elt iter tg : Expr} {ifs : List Expr} {N N' : List Str} {n : Nat} {caps : List Nat} {gi : Ds → Option (List D)} {idx : List Nat} {f : D → Ds → Option Ds} {gt : Ds → Option Bool} {ge : Ds → Option D}
    (ok : CompOk sc scope N N' n caps) (hidx : ∀ j ∈ idx, j < n) (hi : PID X tg iter gi)
    (hg : ∀ cl s H ex, PGD (cxComp X scope cl N' s H ex) tg idx f) (ht : ∀ cl s H ex, PFD (cxComp X scope cl N' s H ex) ifs gt) (he : ∀ cl s H ex, PD (cxComp X scope cl N' s H ex) elt ge)
    (hc : X.calm = true := by rfl) (hsc : X.env.scope = sc := by rfl) (hN : X.N = N := by rfl) (hs : ∀ x, foldedSetIterable iter X.env x = pure x := by intro _; rfl) :
    PD X (.ListComp elt [⟨tg, iter, ifs, 0⟩] scope pos) (compG n caps gi f gt ge) := pd_comp hc hsc (hN ▸ ok) hidx hi hg ht he hs
theorem psd_cmpD (i : Nat) {y : Str} {py spos : Pos} {sc scope : Scope} {elt iter tg : Expr} {ifs : List Expr} {N N' : List Str} {n : Nat} {caps : List Nat} {gi : Ds → Option (List D)} {idx : List Nat} {f : D → Ds → Option Ds} {gt : Ds → Option Bool} {ge : Ds → Option D}
    (hnd : N.Nodup) (ok : CompOk sc scope N N' n caps) (hidx : ∀ j ∈ idx, j < n) (hi : PID X tg iter gi)
    (hg : ∀ cl s H ex, PGD (cxComp X scope cl N' s H ex) tg idx f) (ht : ∀ cl s H ex, PFD (cxComp X scope cl N' s H ex) ifs gt) (he : ∀ cl s H ex, PD (cxComp X scope cl N' s H ex) elt ge)
    (hc : X.calm = true := by rfl) (hsc : X.env.scope = sc := by rfl) (hN : X.N = N := by rfl)
    (hiN : X.N[i]? = some y := by rfl) (hy : Loc X.env.scope y := by first | exact Or.inl rfl | exact Or.inr rfl)
    (hsw : swapsWith (.ListComp elt [⟨tg, iter, ifs, 0⟩] scope pos) (some (.Name y py)) spos.line X.env = pure true := by rfl)
    (hs : ∀ x, foldedSetIterable iter X.env x = pure x := by intro _; rfl)
    (hf : X.fn y = true ∨ X.env.scope.names.lookup y = some .local := by first | exact .inl rfl | exact .inr rfl | assumption) :
    PSD X (.Assign [.Name y py] (.ListComp elt [⟨tg, iter, ifs, 0⟩] scope pos) spos) (setD (gN i) (compG n caps gi f gt ge)) := psd_setComp i (hN ▸ hnd) hc hsc (hN ▸ ok) hidx hi hg ht he hiN hy hsw hs hf
end
end DL
namespace DL
open PySem PySem.Spec PyProof.Rows
@[simp] noncomputable def frz1 : Sl → Sl
  | .ow d => .sh (unl d)
  | s => s
@[simp] noncomputable def frz (δ : Ds) : Ds := δ.map frz1
@[simp] noncomputable def flat : D → Bool
  | .non => true | .bl _ => true | .int _ => true | .str _ => true | _ => false
@[simp] noncomputable def borE (g : GE) : GE := fun δ => (g (frz δ)).bind fun d => if flat d = true then some d else none
@[simp] noncomputable def borB (g : GB) : GB := fun δ => g (frz δ)
@[simp] noncomputable def borA (g : GE) : GE := fun δ => g (frz δ)
@[simp] noncomputable def frzAt (i : Nat) (δ : Ds) : Ds := match δ[i]? with
  | some s => δ.set i (frz1 s)
  | none => δ
@[simp] noncomputable def frzS (i : Nat) (G : GS) : GS := fun δ => G (frzAt i δ)
@[simp] noncomputable def ownD (i : Nat) (g : GE) : GS := fun δ => (g δ).map fun d => .nx (δ.set i (.ow d))
noncomputable abbrev GX := Ds → Option (D × Ds)
@[simp] noncomputable def pureX (g : GE) : GX := fun δ => (g δ).map fun d => (d, δ)
@[simp] noncomputable def asgX (gx : GX) (ft : D → Ds → Option Ds) : GS := fun δ => (gx δ).bind fun r => (ft r.1 r.2).map .nx
@[simp] noncomputable def exprX (gx : GX) : GS := fun δ => (gx δ).map fun r => .nx r.2
@[simp] noncomputable def owL (i : Nat) (δ : Ds) : Option (List D) := match δ[i]? with
  | some (.ow (.lst ds)) => some ds
  | _ => none
@[simp] noncomputable def appX (i : Nat) (g : GE) : GX := fun δ => (owL i δ).bind fun ds => (g δ).bind fun d => if ds.length < sizeLine then some (.non, δ.set i (.ow (.lst (ds ++ [d])))) else none
@[simp] noncomputable def extX (i : Nat) (g : GE) : GX := fun δ => (owL i δ).bind fun ds => (g δ).bind fun d => match d with
  | .lst es => if ds.length + es.length ≤ sizeLine then some (.non, δ.set i (.ow (.lst (ds ++ es)))) else none
  | _ => none
@[simp] noncomputable def popX (i : Nat) : GX := fun δ => (owL i δ).bind fun ds => (ds.getLast?).map fun d => (d, δ.set i (.ow (.lst ds.dropLast)))
noncomputable abbrev KeyD := Sum Int Str
@[simp] noncomputable def asKey : D → Option KeyD
  | .int i => some (.inl i)
  | .str x => some (.inr x)
  | _ => none
noncomputable def asKeys : List D → Option (List KeyD)
  | [] => some []
  | d :: ds => (asKey d).bind fun k => (asKeys ds).map (k :: ·)
@[simp] noncomputable def asKeyT : D → Option (List KeyD)
  | .tup ds => asKeys ds
  | _ => none
noncomputable def getK {κ : Type} [DecidableEq κ] : List κ → List D → κ → Option D
  | k :: ks, d :: ds, q => if k = q then some d else getK ks ds q
  | _, _, _ => none
noncomputable def hasK {κ : Type} [DecidableEq κ] (ks : List κ) (k : κ) : Bool := ks.any fun q => decide (q = k)
noncomputable def putKs {κ : Type} [DecidableEq κ] (ks : List κ) (k : κ) : List κ := if hasK ks k = true then ks else ks ++ [k]
noncomputable def putDs {κ : Type} [DecidableEq κ] (ks : List κ) (ds : List D) (q : κ) (v : D) : List D := if hasK ks q = true then (ks.zip ds).map (fun p => if p.1 = q then v else p.2) else ds ++ [v]
@[simp] noncomputable def owDc (i : Nat) (δ : Ds) : Option (List KeyD × List D) := match δ[i]? with
  | some (.ow (.dct (.inl ks) ds)) => some (ks, ds)
  | _ => none
@[simp] noncomputable def putAt (i : Nat) (g : GE) : D → Ds → Option Ds := fun v δ => (owDc i δ).bind fun r => (g δ).bind fun d => (asKey d).bind fun k =>
  if r.1.length < sizeLine then some (δ.set i (.ow (.dct (.inl (putKs r.1 k)) (putDs r.1 r.2 k v)))) else none
@[simp] noncomputable def dgetD : D → D → Option D
  | .dct ks ds, d => match ks with
    | .inl ks => (asKey d).bind fun k => getK ks ds k
    | .inr ks => (asKeyT d).bind fun k => getK ks ds k
  | _, _ => none
@[simp] noncomputable def inDctD (neg : Bool) : D → D → Option D
  | d, .dct ks ds => match ks with
    | .inl ks => (asKey d).map fun k => .bl (xor neg (hasK ks k))
    | .inr ks => (asKeyT d).map fun k => .bl (xor neg (hasK ks k))
  | _, _ => none
noncomputable def whileD (gt : GB) (G : GS) : Nat → Ds → Option Res
  | 0, _ => none
  | n + 1, δ => match gt δ with
    | some false => some (.nx δ)
    | some true => match G δ with
      | some (.nx δ') => whileD gt G n δ'
      | some (.ct δ') => whileD gt G n δ'
      | some (.bk δ') => some (.nx δ')
      | r => r
    | none => none
@[simp] noncomputable def tup2 (i j : Nat) : D → Ds → Option Ds
  | .tup [a, b], δ => some ((δ.set i (.sh a)).set j (.sh b))
  | _, _ => none
@[simp] noncomputable def eqF : D → D → Bool
  | .non, .non => true
  | .bl a, .bl b => a == b
  | .bl a, .int b => (if a then 1 else 0) == b
  | .int a, .bl b => a == (if b then 1 else 0)
  | .int a, .int b => a == b
  | .str a, .str b => a == b
  | _, _ => false
@[simp] noncomputable def inSeqD (neg : Bool) : D → D → Option D
  | x, .lst ys => if flat x = true ∧ ys.all flat = true then some (.bl (xor neg (ys.any fun y => eqF y x))) else none
  | x, .tup ys => if flat x = true ∧ ys.all flat = true then some (.bl (xor neg (ys.any fun y => eqF y x))) else none
  | _, _ => none
@[simp] noncomputable def intOfD : List D → Option D
  | [.int i] => some (.int i)
  | [.bl k] => some (.int (if k then 1 else 0))
  | _ => none
@[simp] noncomputable def lstOfD : List D → Option D
  | [.lst ds] => some (.lst ds)
  | [.tup ds] => some (.lst ds)
  | _ => none
noncomputable def mkF (n : Nat) (N : List Str) (G : GS) (ds : List D) : Option D := if ds.length = n then (match G (dStart N ds) with
  | some (.rt d) => some d
  | some (.rf d) => if isL d = true then none else some d
  | some (.nx _) => some .non
  | _ => none) else none
theorem mkF_ok {n : Nat} {N : List Str} {G : GS} {ds : List D} {d : D} (h : mkF n N G ds = some d) : ds.length = n ∧ (G (dStart N ds) = some (.rt d) ∨ (d = .non ∧ ∃ δ, G (dStart N ds) = some (.nx δ)) ∨ G (dStart N ds) = some (.rf d) ∧ isL d = false) := by
  unfold mkF at h
  split at h
  · rename_i hl
    refine ⟨hl, ?_⟩
    split at h
    · rename_i e; cases h; exact .inl e
    · rename_i e
      split at h
      · cases h
      · rename_i hn
        cases h
        exact .inr (.inr ⟨e, Bool.eq_false_iff.mpr hn⟩)
    · rename_i e; cases h; exact .inr (.inl ⟨rfl, _, e⟩)
    · cases h
  · cases h
noncomputable def mkN (n : Nat) (N : List Str) (G : GS) (ds : List D) : Option D := if ds.length = n then (match G (dStart N ds) with
  | some (.rf d) => if isL d = true then none else some d
  | _ => none) else none
theorem mkN_ok {n : Nat} {N : List Str} {G : GS} {ds : List D} {d : D} (h : mkN n N G ds = some d) : ds.length = n ∧ G (dStart N ds) = some (.rf d) ∧ isL d = false := by
  unfold mkN at h
  split at h
  · rename_i hl
    refine ⟨hl, ?_⟩
    split at h
    · rename_i e
      split at h
      · cases h
      · rename_i hn
        cases h
        exact ⟨e, Bool.eq_false_iff.mpr hn⟩
    · cases h
  · cases h
theorem mkN_rf {n : Nat} {N : List Str} {G : GS} {ds : List D} {d : D} (hl : ds.length = n) (h : G (dStart N ds) = some (.rf d)) (hn : isL d = false := by rfl) : mkN n N G ds = some d := by
  unfold mkN
  rw [if_pos hl, h]
  simp only []
  rw [hn]
  rfl
@[simp] noncomputable def retF (g : GE) : GS := fun δ => (g δ).map .rf
@[simp] noncomputable def retO (i : Nat) : GS := fun δ => match δ[i]? with
  | some (.ow d) => some (.rf d)
  | _ => none
theorem seq_rf {G1 G2 : GS} {δ : Ds} {d : D} (h : G1 δ = some (.rf d)) : seqD G1 G2 δ = some (.rf d) := by unfold seqD; rw [h]
theorem retF_of {g : GE} {δ : Ds} {d : D} (h : g δ = some d) : retF g δ = some (.rf d) := by unfold retF; rw [h]; rfl
theorem mkF_rt {n : Nat} {N : List Str} {G : GS} {ds : List D} {d : D} (hl : ds.length = n) (h : G (dStart N ds) = some (.rt d)) : mkF n N G ds = some d := by
  unfold mkF
  rw [if_pos hl, h]
theorem seq_to {G1 G2 : GS} {δ δ' : Ds} {r : Option Res} (h : G1 δ = some (.nx δ')) (k : G2 δ' = r) : seqD G1 G2 δ = r := (seq_nx h).trans k
@[simp] noncomputable def addA : D → D → Option D
  | .int i, .int j => some (.int (i + j))
  | .str x, .str y => if x.length + y.length ≤ sizeLine then some (.str (x ++ y)) else none
  | .lst xs, .lst ys => if xs.length + ys.length ≤ sizeLine then some (.lst (xs ++ ys)) else none
  | .tup xs, .tup ys => if xs.length + ys.length ≤ sizeLine then some (.tup (xs ++ ys)) else none
  | _, _ => none
noncomputable def repD (x : Str) (n : Int) : Str := ⟨(List.replicate n.toNat x.cps).foldl (· ++ ·) #[]⟩
@[simp] noncomputable def mulA : D → D → Option D
  | .int i, .int j => if (-(2 ^ 64) < i ∧ i < 2 ^ 64) ∨ (-(2 ^ 64) < j ∧ j < 2 ^ 64) then some (.int (i * j)) else none
  | .str x, .int n => if -(2 ^ 62) ≤ n ∧ n < 2 ^ 62 ∧ x.length * n.toNat ≤ sizeLine then some (.str (repD x n)) else none
  | .tup xs, .int k => if xs ≠ [] ∧ 2 ≤ k ∧ k < 2 ^ 62 ∧ xs.length * k.toNat ≤ sizeLine then some (.tup (List.replicate k.toNat xs).flatten) else none
  | _, _ => none
@[simp] noncomputable def slA (d : D) (lo hi : Option Int) : Option D := match d with
  | .str z => if z.length ≤ sizeLine then some (.str (Txt.slice z lo hi)) else none
  | .lst xs => some (.lst (cutD xs lo hi))
  | .tup xs => some (.tup (cutD xs lo hi))
  | _ => none
@[simp] noncomputable def slAG (g : GE) (gl gh : GO) : GE := fun δ => (g δ).bind fun d => (gl δ).bind fun l => (gh δ).bind fun h => slA d l h
end DL
set_option maxHeartbeats 0
namespace L2
open PySem PySem.Spec PyProof.Rows
section
variable {κ : Type} [DecidableEq κ]
noncomputable def valV (kvs : List (κ × V)) (k : κ) : Option V := (kvs.find? fun kv => decide (kv.1 = k)).map (·.2)
noncomputable def putK (kvs : List (κ × V)) (k : κ) (v : V) : List (κ × V) :=
  if (kvs.any fun kv => decide (kv.1 = k)) = true then kvs.map (fun kv => if kv.1 = k then (kv.1, v) else kv) else kvs ++ [(k, v)]
theorem valV_pos {p : κ × V} {r : List (κ × V)} {k : κ} (e : p.1 = k) : valV (p :: r) k = some p.2 := by simp [valV, List.find?_cons, e]
theorem valV_neg {p : κ × V} {r : List (κ × V)} {k : κ} (e : ¬ p.1 = k) : valV (p :: r) k = valV r k := by simp [valV, List.find?_cons, e]
theorem valV_any (k : κ) : ∀ kvs : List (κ × V), (kvs.any fun kv => decide (kv.1 = k)) = (valV kvs k).isSome
  | [] => rfl
  | p :: r => by
    rw [List.any_cons]
    by_cases e : p.1 = k
    · simp only [valV_pos e, decide_eq_true e, Bool.true_or, Option.isSome_some]
    · rw [valV_neg e, decide_eq_false e, Bool.false_or]; exact valV_any k r
theorem length_putK (kvs : List (κ × V)) (k : κ) (v : V) : (putK kvs k v).length ≤ kvs.length + 1 := by
  unfold putK
  split
  · rw [List.length_map]; omega
  · rw [List.length_append, List.length_cons, List.length_nil]; omega
theorem RelO.isSome_eq {o : Option V} {u : Option Value} (r : RelO o u) : o.isSome = u.isSome := by
  cases o with
  | none => cases u with
    | none => rfl
    | some _ => exact (show False from r).elim
  | some _ => cases u with
    | none => exact (show False from r).elim
    | some _ => rfl
theorem KV.val {kvs : List (κ × V)} {vs : List (κ × Value)} (r : KV kvs vs) (k : κ) : RelO (valV kvs k) (valueAt vs k) := by
  unfold KV at r
  induction r with
  | nil => exact True.intro
  | @cons p q ps qs h t ih =>
    obtain ⟨h1, h2⟩ := h
    by_cases e : p.1 = k
    · have e' : q.1 = k := h1.symm.trans e
      have b : valueAt (q :: qs) k = some q.2 := by simp [valueAt, List.find?_cons, e']
      rw [valV_pos e, b]; exact h2
    · have e' : ¬ q.1 = k := fun z => e (h1.trans z)
      have b : valueAt (q :: qs) k = valueAt qs k := by simp [valueAt, List.find?_cons, e']
      rw [valV_neg e, b]; exact ih
theorem KV.any {kvs : List (κ × V)} {vs : List (κ × Value)} (r : KV kvs vs) (k : κ) : (kvs.any fun kv => decide (kv.1 = k)) = vs.any fun kv => decide (kv.1 = k) := by
  unfold KV at r
  induction r with
  | nil => rfl
  | cons h t ih => rw [List.any_cons, List.any_cons, ih, h.1]
theorem KV.repl {kvs : List (κ × V)} {vs : List (κ × Value)} (r : KV kvs vs) (k : κ) {y : V} {u : Value} (ry : RelV y u) :
    KV (kvs.map fun kv => if kv.1 = k then (kv.1, y) else kv) (vs.map fun kv => if kv.1 = k then (kv.1, u) else kv) := by
  unfold KV at r ⊢
  induction r with
  | nil => exact .nil
  | @cons p q ps qs h t ih =>
    rw [List.map_cons, List.map_cons]
    refine .cons ?_ ih
    obtain ⟨h1, h2⟩ := h
    by_cases e : p.1 = k
    · rw [if_pos e, if_pos (h1.symm.trans e)]; exact ⟨h1, ry⟩
    · rw [if_neg e, if_neg (fun z => e (h1.trans z))]; exact ⟨h1, h2⟩
theorem KV.put {kvs : List (κ × V)} {vs : List (κ × Value)} (r : KV kvs vs) (k : κ) {y : V} {u : Value} (ry : RelV y u) : KV (putK kvs k y) (stored vs k u) := by
  unfold putK stored
  rw [r.any k]
  by_cases e : (vs.any fun kv => decide (kv.1 = k)) = true
  · rw [if_pos e, if_pos e]; exact r.repl k ry
  · rw [if_neg e, if_neg e]; exact Paired.snoc r ⟨rfl, ry⟩
theorem KV.length {kvs : List (κ × V)} {vs : List (κ × Value)} (r : KV kvs vs) : kvs.length = vs.length := Paired.length r
end
theorem kV_is {P : Program} {w : World} {k : Key} {u : Value} (r : RelV (kV k) u) : (mixKind P w).is k u = true := by
  cases k with
  | inl i => obtain ⟨t, e⟩ := (show ∃ t, u = Value.int i t from r); subst e; exact mixKind_int P w i t
  | inr x => obtain ⟨t, e⟩ := (show ∃ t, u = Value.str x t from r); subst e; exact mixKind_str P w x t
theorem items_are {P : Program} {w : World} : ∀ {ks : List Key} {us : List Value}, Vals (ks.map kV) us → ItemsAre (mixKind P w) ks us
  | [], _, r => by rw [List.map_nil] at r; cases r; exact .nil
  | k :: ks, _, r => by
    rw [List.map_cons] at r
    cases r with
    | cons h t => exact .cons (kV_is h) (items_are t)
noncomputable abbrev KT (H : Hp) : List (List Key × V) → List (List Key × Addr × Value) → Prop := Paired fun p q => p.1 = q.1 ∧ H q.2.1 = some (.tup (p.1.map kV)) ∧ RelV p.2 q.2.2
theorem KT.val {H : Hp} {kvs : List (List Key × V)} {xs : List (List Key × Addr × Value)} (r : KT H kvs xs) (k : List Key) : RelO (valV kvs k) ((atKey xs k).map (·.2)) := by
  induction r with
  | nil => exact True.intro
  | @cons p q ps qs h t ih =>
    obtain ⟨h1, _, h2⟩ := h
    by_cases e : p.1 = k
    · have e' : q.1 = k := h1.symm.trans e
      have b : atKey (q :: qs) k = some q.2 := by simp [atKey, List.find?_cons, e']
      rw [valV_pos e, b]; exact h2
    · have e' : ¬ q.1 = k := fun z => e (h1.trans z)
      have b : atKey (q :: qs) k = atKey qs k := by simp [atKey, List.find?_cons, e']
      rw [valV_neg e, b]; exact ih
theorem KT.repl {H : Hp} {kvs : List (List Key × V)} {xs : List (List Key × Addr × Value)} (r : KT H kvs xs) (k : List Key) {y : V} {u : Value} (ry : RelV y u) :
    KT H (kvs.map fun kv => if kv.1 = k then (kv.1, y) else kv) (xs.map (putAt k u)) := by
  induction r with
  | nil => exact .nil
  | @cons p q ps qs h t ih =>
    rw [List.map_cons, List.map_cons]
    refine .cons ?_ ih
    obtain ⟨h1, h2, h3⟩ := h
    unfold putAt
    by_cases e : p.1 = k
    · rw [if_pos e, if_pos (h1.symm.trans e)]; exact ⟨h1, h2, ry⟩
    · rw [if_neg e, if_neg (fun z => e (h1.trans z))]; exact ⟨h1, h2, h3⟩
theorem KT.put {H : Hp} {kvs : List (List Key × V)} {xs : List (List Key × Addr × Value)} (r : KT H kvs xs) (k : List Key) {b : Addr} {y : V} {u : Value} (hb : H b = some (.tup (k.map kV))) (ry : RelV y u) :
    KT H (putK kvs k y) (storedH xs k b u) := by
  have e : (kvs.any fun kv => decide (kv.1 = k)) = (atKey xs k).isSome := by
    rw [valV_any, (r.val k).isSome_eq, Option.isSome_map]
  unfold putK storedH
  rw [e]
  by_cases q : (atKey xs k).isSome = true
  · rw [if_pos q, if_pos q]; exact r.repl k ry
  · rw [if_neg q, if_neg q]; exact Paired.snoc r ⟨rfl, hb, ry⟩
theorem KT.keeps {H H' : Hp} {kvs : List (List Key × V)} {xs : List (List Key × Addr × Value)} (r : KT H kvs xs) (ht : ∀ b ys, H b = some (.tup ys) → H' b = some (.tup ys)) : KT H' kvs xs :=
  Paired.mapP r fun _ _ z => ⟨z.1, ht _ _ z.2.1, z.2.2⟩
section
variable {P : Program} {w : World} {H : Hp} {h : Heap} {a : Addr}
theorem rd_of {u : HO} (ok : HOk P w H h) (e : Rd H a u) : ObjOk P w H h a u := e.ok ok
theorem dk_rd {kvs : List (Key × V)} (ok : HOk P w H h) (e : Rd H a (.dK kvs)) : kvs.length ≤ sizeLine ∧ (a == sysModules) = false ∧ ∃ vs, KV kvs vs ∧ h.DictOf (mixKind P w) a vs :=
  show ObjOk P w H h a (.dK kvs) from rd_of ok e
theorem dk_of {kvs : List (Key × V)} (ok : HOk P w H h) (e : H a = some (.dK kvs)) : kvs.length ≤ sizeLine ∧ (a == sysModules) = false ∧ ∃ vs, KV kvs vs ∧ h.DictOf (mixKind P w) a vs := dk_rd ok (.inl e)
theorem key_of {ks : List Key} (ok : HOk P w H h) (e : H a = some (.tup (ks.map kV))) : (tupleKind (mixKind P w)).is h ks a := by
  obtain ⟨_, its, r, o, h1, h2, n, h3, _⟩ := (show ObjOk P w H h a (.tup (ks.map kV)) from ok a _ e)
  exact ⟨o, its.toArray, n, h1, h2, h3, by simpa using items_are r⟩
theorem dt_rd {kvs : List (List Key × V)} (ok : HOk P w H h) (e : Rd H a (.dT kvs)) : kvs.length ≤ sizeLine ∧ (a == sysModules) = false ∧
    ∃ xs, KT H kvs xs ∧ h.DictOfH (tupleKind (mixKind P w)) a xs := by
  obtain ⟨z, y, xs, r, o, es, ep, h1, h2, h3, h4, h5⟩ := (show ObjOk P w H h a (.dT kvs) from rd_of ok e)
  refine ⟨z, y, xs, r, o, es, ep, h1, h2, h3, h4, fun x hx => ?_, h5⟩
  have all : ∀ {l : List (List Key × V)} {m : List (List Key × Addr × Value)}, KT H l m → ∀ x ∈ m, (tupleKind (mixKind P w)).is h x.1 x.2.1 := by
    intro l m q
    induction q with
    | nil => intro x hx; exact nomatch hx
    | @cons p q ps qs hq t ih =>
      intro x hx
      rcases List.mem_cons.mp hx with e | hx
      · subst e
        exact key_of ok (by rw [← hq.1]; exact hq.2.1)
      · exact ih x hx
  exact all r x hx
theorem dt_of {kvs : List (List Key × V)} (ok : HOk P w H h) (e : H a = some (.dT kvs)) : kvs.length ≤ sizeLine ∧ (a == sysModules) = false ∧
    ∃ xs, KT H kvs xs ∧ h.DictOfH (tupleKind (mixKind P w)) a xs := dt_rd ok (.inl e)
end
noncomputable def DGet (H : Hp) (a : Addr) (y : V) (r : Option V) : Prop :=
  (∃ kvs k, Rd H a (.dK kvs) ∧ y = kV k ∧ r = valV kvs k) ∨ ∃ kvs k b, Rd H a (.dT kvs) ∧ y = .ref b ∧ H b = some (.tup (k.map kV)) ∧ r = valV kvs k
noncomputable def DPut (H : Hp) (a : Addr) (y v : V) (H' : Hp) : Prop :=
  (∃ kvs k, H a = some (.dK kvs) ∧ y = kV k ∧ kvs.length < sizeLine ∧ H' = upd H a (.dK (putK kvs k v))) ∨
  ∃ kvs k b, H a = some (.dT kvs) ∧ y = .ref b ∧ H b = some (.tup (k.map kV)) ∧ kvs.length < sizeLine ∧ H' = upd H a (.dT (putK kvs k v))
theorem DGet.k {H : Hp} {a : Addr} {kvs : List (Key × V)} {k : Key} (e : H a = some (.dK kvs)) : DGet H a (kV k) (valV kvs k) := .inl ⟨kvs, k, .inl e, rfl, rfl⟩
theorem DGet.t {H : Hp} {a b : Addr} {kvs : List (List Key × V)} {k : List Key} (e : H a = some (.dT kvs)) (eb : H b = some (.tup (k.map kV))) : DGet H a (.ref b) (valV kvs k) := .inr ⟨kvs, k, b, .inl e, rfl, eb, rfl⟩
theorem DPut.k {H : Hp} {a : Addr} {kvs : List (Key × V)} {k : Key} {v : V} (e : H a = some (.dK kvs)) (hl : kvs.length < sizeLine) : DPut H a (kV k) v (upd H a (.dK (putK kvs k v))) := .inl ⟨kvs, k, e, rfl, hl, rfl⟩
section
variable {X : Cx} {pins : List (Addr × Obj)} {σ : St} {H : Hp} {s : Shared} {a : Addr} {y v : V} {u r : Value} {o : Option V} {A : Around} {E : Value → Shared → Prop}
theorem Inv.big (I : Inv X pins σ H s) : sysModules < s.heap.objs.size := by
  have h : mainGlobals < s.heap.objs.size := (I.mod.glob.keeps I.bk).lt
  exact Nat.lt_trans (by decide) h
theorem d_getItem {Q : Value → Shared → Prop} (hu : A.units + 1 < cLine) (I : Inv X pins σ H s) (g : DGet H a y (some v)) (ry : RelV y u) (h : ∀ w' s', Inv X pins σ H s' → RelV v w' → Q w' s') :
    wpAny (model X.prog X.w) A (getItem (.ref a) u) Q E s := by
  rcases g with ⟨kvs, k, e, ey, l⟩ | ⟨kvs, k, b, e, ey, eb, l⟩
  · subst ey
    obtain ⟨z, hd, vs, rel, dd⟩ := dk_rd I.hok e
    obtain ⟨w', hw, rw'⟩ := RelO.some_of (v := v) (o := valueAt vs k) (by rw [l]; exact rel.val k)
    exact wpAny_getItem_of (kV_is ry) dd.mapOf hw (h w' _ (I.tok _) rw')
  · subst ey
    cases (show u = Value.ref b from ry)
    obtain ⟨z, hd, xs, rel, dd⟩ := dt_rd I.hok e
    obtain ⟨w', hw, rw'⟩ := RelO.some_of (v := v) (o := (atKey xs k).map (·.2)) (by rw [l]; exact rel.val k)
    obtain ⟨p, hp, hp2⟩ := Option.map_eq_some_iff.mp hw
    refine wpAny_getItem_heap (tupleKind_room_in1 hu) (key_of I.hok eb) dd hp ?_
    rw [hp2]
    exact h w' _ (I.tok _) rw'
theorem d_in {Q : Value → Shared → Prop} (hu : A.units + 1 < cLine) (I : Inv X pins σ H s) (g : DGet H a y o) (ry : RelV y u) (h : ∀ s', Inv X pins σ H s' → Q (.bool o.isSome) s') :
    wpAny (model X.prog X.w) A (compareOp .In u (.ref a)) Q E s := by
  rcases g with ⟨kvs, k, e, ey, l⟩ | ⟨kvs, k, b, e, ey, eb, l⟩
  · subst ey
    obtain ⟨z, hd, vs, rel, dd⟩ := dk_rd I.hok e
    refine wpAny_in_of (kV_is ry) hd dd.mapOf ?_
    rw [← (rel.val k).isSome_eq, ← l]
    exact h _ (I.tok _)
  · subst ey
    cases (show u = Value.ref b from ry)
    obtain ⟨z, hd, xs, rel, dd⟩ := dt_rd I.hok e
    refine wpAny_in_heap (tupleKind_room_in1 hu) (key_of I.hok eb) hd dd ?_
    have q := (rel.val k).isSome_eq
    rw [Option.isSome_map] at q
    rw [← q, ← l]
    exact h _ (I.tok _)
theorem d_notIn {Q : Value → Shared → Prop} (hu : A.units + 1 < cLine) (I : Inv X pins σ H s) (g : DGet H a y o) (ry : RelV y u) (h : ∀ s', Inv X pins σ H s' → Q (.bool (!o.isSome)) s') :
    wpAny (model X.prog X.w) A (compareOp .NotIn u (.ref a)) Q E s := by
  rcases g with ⟨kvs, k, e, ey, l⟩ | ⟨kvs, k, b, e, ey, eb, l⟩
  · subst ey
    obtain ⟨z, hd, vs, rel, dd⟩ := dk_rd I.hok e
    refine wpAny_notIn_of (kV_is ry) hd dd.mapOf ?_
    rw [← (rel.val k).isSome_eq, ← l]
    exact h _ (I.tok _)
  · subst ey
    cases (show u = Value.ref b from ry)
    obtain ⟨z, hd, xs, rel, dd⟩ := dt_rd I.hok e
    refine wpAny_notIn_heap (tupleKind_room_in1 hu) (key_of I.hok eb) hd dd ?_
    have q := (rel.val k).isSome_eq
    rw [Option.isSome_map] at q
    rw [← q, ← l]
    exact h _ (I.tok _)
theorem d_write {h' : Heap} {t' : Nat} {ob : HO} (I : Inv X pins σ H s) (mu : Mut (H a)) (hs : Heap.SameBut a s.heap h') (he : ∃ q, h'.get? a = some q) (new : ObjOk X.prog X.w (upd H a ob) h' a ob) :
    Inv X pins σ (upd H a ob) { s with heap := h', toks := t' } :=
  I.write (x := a) (e := a) mu (.inl rfl) (fun b q hb z => (hs.2 b hb).trans z) he new
theorem dk_new {P : Program} {w : World} {H' : Hp} {h' : Heap} {kvs : List (Key × V)} {vs : List (Key × Value)} (z : kvs.length ≤ sizeLine) (hd : (a == sysModules) = false) (rel : KV kvs vs) (dd : h'.DictOf (mixKind P w) a vs) :
    ObjOk P w H' h' a (.dK kvs) := ⟨z, hd, vs, rel, dd⟩
theorem d_setItem {H' : Hp} {Q : Unit → Shared → Prop} (hu : A.units + 1 < cLine) (I : Inv X pins σ H s) (g : DPut H a y v H') (ry : RelV y u) (rv : RelV v r) (h : ∀ s', Inv X pins σ H' s' → Q () s') :
    wpAny (model X.prog X.w) A (setItem (.ref a) u r) Q E s := by
  rcases g with ⟨kvs, k, e, ey, l, eH⟩ | ⟨kvs, k, b, e, ey, eb, l, eH⟩
  · subst ey eH
    obtain ⟨z, hd, vs, rel, dd⟩ := dk_of I.hok e
    have hz : vs.length ≤ sizeLine := by rw [← rel.length]; exact z
    have hl : (putK kvs k v).length ≤ sizeLine := by have := length_putK kvs k v; omega
    refine wpAny_setItem_pairs (hsz := hz) (kV_is ry) dd fun h' dd' hs => h _ ?_
    have he : ∃ q, h'.get? a = some q := let ⟨q, _, _, hq, _⟩ := dd'; ⟨q, hq⟩
    exact d_write I (by rw [e]; exact True.intro) hs he (dk_new hl hd (rel.put k rv) dd')
  · subst ey eH
    cases (show u = Value.ref b from ry)
    obtain ⟨z, hd, xs, rel, dd⟩ := dt_of I.hok e
    have hz : xs.length ≤ sizeLine := by rw [← Paired.length rel]; exact z
    have hl : (putK kvs k v).length ≤ sizeLine := by have := length_putK kvs k v; omega
    refine wpAny_setItem_heap (hsz := hz) (tupleKind_room_in1 hu) (key_of I.hok eb) dd fun h' dd' hs => h _ ?_
    obtain ⟨q, es, ep, hq, h2, h3, h4, _, h5⟩ := dd'
    refine d_write I (by rw [e]; exact True.intro) hs ⟨q, hq⟩ ⟨hl, hd, _, (rel.put k eb rv).keeps fun c ys ec => ?_, q, es, ep, hq, h2, h3, h4, h5⟩
    rw [upd_ne (ne_of ec e (fun z => nomatch z))]
    exact ec
end
section
variable {X : Cx} {pins : List (Addr × Obj)} {σ : St} {H : Hp} {s : Shared} {a : Addr} {kvs : List (Key × V)} {k : Key} {u : Value} {A : Around} {E : Value → Shared → Prop}
end
noncomputable def NoSl (i : Expr) : Prop := ∀ ov iv, subscripted i false ov iv = operate [ov, iv] (getItem ov iv)
theorem subD_of {prog : Program} {w : World} {A : Around} {E : Value → Shared → Prop} {s : Shared} {env : Env} {value slice : Expr} {pos : Pos} {T id : String} {Q : Value → Shared → Prop}
    (hl : typeLookup (.type T) "__getitem__" = pure (some (.builtin id))) (hs : NoSl slice)
    (h : wpAny (model prog w) A (eval value env) (fun o s₁ => wpAny (model prog w) A (eval slice env) (fun i s₂ => s₂.TypeIs o T ∧ wpAny (model prog w) A (getItem o i) Q E s₂) E s₁) E s) :
    wpAny (model prog w) A (eval (.Subscript value slice pos) env) Q E s := by
  refine Subscript_ (wpAny_mono h (fun o s₁ h₁ => wpAny_mono h₁ (fun i s₂ h₂ => ?_) fun _ _ x => x) fun _ _ x => x)
  obtain ⟨hT, h₂⟩ := h₂
  unfold subscriptTail
  refine wpAny_bind ?_
  rw [getitemInPython_of_ne hT.not_modules]
  refine wpAny_bind (wpAny_specialOf hT hl ?_)
  have fin : wpAny (model prog w) A (subscripted slice false o i) (fun r s₃ => wpAny (model prog w) A (letTemporaryGo value o r >>= fun _ => pure r) Q E s₃) E s₂ := by
    rw [hs o i]
    exact wpAny_operating (wpAny_mono h₂ (fun r s₃ h₃ => wpAny_bind (wpAny_letTemporaryGo (wpAny_pure h₃))) fun _ _ x => x)
  first
    | exact wpAny_pure (wpAny_bind fin)
    | exact wpAny_bind (wpAny_pure (wpAny_bind fin))
    | exact wpAny_bind fin
theorem dict_typeIs {X : Cx} {pins : List (Addr × Obj)} {σ : St} {H : Hp} {s : Shared} {a : Addr} {y : V} {o : Option V} (I : Inv X pins σ H s) (g : DGet H a y o) : s.TypeIs (.ref a) "dict" := by
  rcases g with ⟨kvs, k, e, _, _⟩ | ⟨kvs, k, b, e, _, _, _⟩
  · obtain ⟨_, _, vs, _, dd⟩ := dk_rd I.hok e
    exact dd.typeIs
  · obtain ⟨_, _, xs, _, dd⟩ := dt_rd I.hok e
    exact dd.typeIs
noncomputable def tDGet (td ty : TE) : TE := fun σ H Q => td σ H fun x H1 => ty σ H1 fun y H2 => ∃ a v, x = .ref a ∧ DGet H2 a y (some v) ∧ Q v H2
noncomputable def tDIn (ty td : TE) : TE := fun σ H Q => ty σ H fun y H1 => td σ H1 fun x H2 => ∃ a o, x = .ref a ∧ DGet H2 a y o ∧ Q (.bl o.isSome) H2
noncomputable def tDNotIn (ty td : TE) : TE := fun σ H Q => ty σ H fun y H1 => td σ H1 fun x H2 => ∃ a o, x = .ref a ∧ DGet H2 a y o ∧ Q (.bl (!o.isSome)) H2
section
variable {X : Cx} {o i e value : Expr} {pos pos' tpos : Pos} {td ty tv : TE}
theorem pe_dget (hu : X.A.units + 1 < cLine) (ho : PE X o td) (hi : PE X i ty) (hs : NoSl i) : PE X (.Subscript o i pos) (tDGet td ty) := by
  intro pins s σ H Q I h
  refine subD_of PySem.F.slot_dict_getitem.lookup hs (thn (ho pins s σ H _ I h) fun u s1 ⟨x, H1, I1, rx, q1⟩ => thn (hi pins s1 σ H1 _ I1 q1) fun iv s2 ⟨y, H2, I2, ry, a, v, ex, g, q2⟩ => ?_)
  subst ex
  obtain rfl : u = Value.ref a := rx
  exact ⟨dict_typeIs I2 g, d_getItem hu I2 g ry fun w' s3 I3 rw' => ⟨v, H2, I3, rw', q2⟩⟩
theorem pc_din (hu : X.A.units + 1 < cLine) (hi : PE X i ty) (ho : PE X o td) : PC X .In i o (tDIn ty td) := by
  intro pins s σ H Q I h
  refine thn (hi pins s σ H _ I h) fun iv s1 ⟨y, H1, I1, ry, q1⟩ => thn (ho pins s1 σ H1 _ I1 q1) fun u s2 ⟨x, H2, I2, rx, a, ov, ex, g, q2⟩ => ?_
  subst ex
  obtain rfl : u = Value.ref a := rx
  exact d_in hu I2 g ry fun s3 I3 => ⟨.bl ov.isSome, H2, I3, rfl, q2⟩
theorem pc_dnotin (hu : X.A.units + 1 < cLine) (hi : PE X i ty) (ho : PE X o td) : PC X .NotIn i o (tDNotIn ty td) := by
  intro pins s σ H Q I h
  refine thn (hi pins s σ H _ I h) fun iv s1 ⟨y, H1, I1, ry, q1⟩ => thn (ho pins s1 σ H1 _ I1 q1) fun u s2 ⟨x, H2, I2, rx, a, ov, ex, g, q2⟩ => ?_
  subst ex
  obtain rfl : u = Value.ref a := rx
  exact d_notIn hu I2 g ry fun s3 I3 => ⟨.bl (!ov.isSome), H2, I3, rfl, q2⟩
end
theorem dk_empty {P : Program} {w : World} {H : Hp} (h : Heap) (hb : sysModules < h.objs.size) : ObjOk P w H (h.push { cls := .type "dict", data := .dict #[] }) h.objs.size (.dK []) :=
  ⟨Nat.zero_le _, beq_eq_false_iff_ne.mpr (Ne.symm (Nat.ne_of_lt hb)), [], .nil, Heap.DictOf.new h⟩
noncomputable def tDNewK : TE := fun _ H Q => ∀ p, H p = none → Q (.ref p) (upd H p (.dK []))
section
variable {X : Cx} {pos : Pos}
theorem pe_dnewK : PE X (.Dict [] [] pos) tDNewK := fun pins s σ H Q I h =>
  wpAny_Dict_empty ⟨.ref s.heap.objs.size, _, I.laid (a := s.heap.objs.size) (o := .dK []) (t' := s.toks) (fun _ _ q => Heap.get?_push_of_some _ q) (Nat.le_refl _) (dk_empty s.heap I.big), rfl, h _ (I.hok.fresh (Nat.le_refl _))⟩
end
structure M2 (X : Cx) (o : Expr) (m : Str) (apos : Pos) (e f : Expr) (cpos : Pos) : Prop where
  base : attributeBase o m X.env (eval o X.env) = eval o X.env
  few : ((backTo cpos (starEach [e, f] X.env)).all (fun x => !x.1) && (backToKw cpos (keywordEach [] X.env)).all (fun x => x.1.isSome)
    && decide (([e, f] : List Expr).length + ([] : List Keyword).length + (if ([] : List Keyword).isEmpty then 0 else 1) < 30)) = true
  line : (apos.endLine == cpos.line) = true
  trees : backTo cpos (starEach [e, f] X.env) = [(false, eval e X.env), (false, eval f X.env)]
noncomputable def IsD (H : Hp) (a : Addr) : Prop := (∃ kvs, Rd H a (.dK kvs)) ∨ ∃ kvs, Rd H a (.dT kvs)
theorem isD_at {X : Cx} {pins : List (Addr × Obj)} {σ : St} {H : Hp} {s : Shared} {a : Addr} (I : Inv X pins σ H s) (d : IsD H a) :
    s.TypeIs (.ref a) "dict" ∧ (∀ b, Value.ref a = .ref b → ∃ ob, s.heap.get? b = some ob ∧ ob.dict = none) ∧ (a == sysModules) = false := by
  rcases d with ⟨kvs, e⟩ | ⟨kvs, e⟩
  · obtain ⟨_, hd, vs, _, dd⟩ := dk_rd I.hok e
    refine ⟨dd.typeIs, fun b q => ?_, hd⟩
    cases q
    obtain ⟨ob, _, _, h1, h2, _⟩ := dd
    exact ⟨ob, h1, h2.2.1⟩
  · obtain ⟨_, hd, xs, _, dd⟩ := dt_rd I.hok e
    refine ⟨dd.typeIs, fun b q => ?_, hd⟩
    cases q
    obtain ⟨ob, _, _, h1, h2, _⟩ := dd
    exact ⟨ob, h1, h2.2.1⟩
section
variable {X : Cx} {pins : List (Addr × Obj)} {σ : St} {H : Hp} {s : Shared} {a : Addr} {y d : V} {u r : Value} {o : Option V} {A : Around} {E : Value → Shared → Prop}
end
section
variable {X : Cx} {o e f : Expr} {apos cpos : Pos} {td ty tx : TE}
end
section
variable {X : Cx} {pins : List (Addr × Obj)} {σ : St} {H : Hp} {s : Shared} {a : Addr} {kvs : List (Key × V)} {A : Around} {E : Value → Shared → Prop}
end
section
variable {X : Cx} {pins : List (Addr × Obj)} {σ : St} {H : Hp} {s : Shared} {a : Addr} {y : V} {u : Value} {A : Around} {E : Value → Shared → Prop}
end
end L2
namespace DL
open PySem PySem.Spec PyProof.Rows L2
section
variable {K : PySem.W.Frag} {H H' : Hp} {B B' : BS} {σ σ' : St} {δ δ' : Ds}
theorem Gr.fresh {p : Addr} {o : HO} (h : H p = none) : Gr H (upd H p o) B (fun a => B a ∨ a = p) := fun b u n e => by
  have hb : b ≠ p := ne_of_none e h
  exact ⟨fun z => z.elim n hb, by rw [upd_ne hb]; exact e⟩
theorem Gr.own {a : Addr} {o : HO} (h : B a) : Gr H (upd H a o) B B := fun b u n e => ⟨n, by rw [upd_ne (fun z => n (by rw [z]; exact h))]; exact e⟩
theorem RpO.mono {d : D} {a : Addr} (s : ∀ o, H a = some o → H' a = some o) (g : Gr H H' B B') (h : RpO K H B d a) : RpO K H' B' d a := by
  cases d <;> try exact h.elim
  · obtain ⟨xs, e, r⟩ := h; exact ⟨xs, s _ e, r.mono g⟩
  · obtain ⟨xs, e, l, r⟩ := h; exact ⟨xs, s _ e, l, r.mono g⟩
theorem RpL.mono {d : D} {a : Addr} (s : ∀ o, H a = some o → H' a = some o) (g : Gr H H' B B') (h : RpL K H B d a) : RpL K H' B' d a := by
  cases d with
  | tup es => obtain ⟨ds, q, xs, e, r⟩ := h; exact ⟨ds, q, xs, s _ e, r.mono g⟩
  | _ => exact (RpO.mono s g (RpL.toO rfl h)).toL
theorem Pd.impI {α β : Type} {F G : α → β → Prop} : ∀ {l : List α} {m : List β}, (∀ (i : Nat) a b, l[i]? = some a → m[i]? = some b → F a b → G a b) → Paired F l m → Paired G l m
  | _, _, _, .nil => .nil
  | _, _, h, .cons r t => .cons (h 0 _ _ rfl rfl r) (Pd.impI (fun i a b e1 e2 => h (i + 1) a b (by simpa using e1) (by simpa using e2)) t)
theorem set_self {α : Type} : ∀ {l : List α} {i : Nat} {a : α}, l[i]? = some a → l.set i a = l
  | [], _, _, h => by simp at h
  | x :: l, 0, a, h => by simp at h; subst h; rfl
  | x :: l, i + 1, a, h => by rw [List.set_cons_succ, set_self (by simpa using h)]
theorem Pd.setR {α β : Type} {F : α → β → Prop} {a : α} {b : β} {i : Nat} (r : F a b) {l : List α} {m : List β} (e : l[i]? = some a) (h : Paired F l m) : Paired F l (m.set i b) := by
  have := Pd.set r i h
  rwa [set_self e] at this
theorem get_set {α : Type} {l : List α} {i j : Nat} {a b : α} (h : (l.set i a)[j]? = some b) : (i = j ∧ a = b ∧ j < l.length) ∨ (i ≠ j ∧ l[j]? = some b) := by
  by_cases e : i = j
  · subst e
    by_cases hl : i < l.length
    · rw [List.getElem?_set_self hl] at h
      exact .inl ⟨rfl, Option.some.inj h, hl⟩
    · rw [List.getElem?_eq_none (by simpa using hl)] at h; cases h
  · rw [List.getElem?_set_ne e] at h
    exact .inr ⟨e, h⟩
theorem Env.at (e : Env K H B σ δ) {i : Nat} {d : D} (h : δ[i]? = some (.ow d)) : ∃ a, σ[i]? = some (some (.ref a)) ∧ B a ∧ RpL K H B d a := by
  obtain ⟨o, h1, a, rfl, hb, r⟩ := Pd.get e.all h
  exact ⟨a, h1, hb, r⟩
theorem Env.mut (e : Env K H B σ δ) {i : Nat} {d0 d : D} {a : Addr} {o : HO} (hi : δ[i]? = some (.ow d0)) (hs : σ[i]? = some (some (.ref a))) (r : RpL K (upd H a o) B d a) : Env K (upd H a o) B σ (δ.set i (.ow d)) := by
  obtain ⟨a', h1, hb, _⟩ := e.at hi
  rw [hs] at h1
  cases h1
  refine ⟨?_, fun b z => ?_, fun j k b ds es h1 h2 h3 h4 => ?_⟩
  · -- slot by slot
    have h0 : Paired (fun (o' : Option V) (s : Sl) => SlR K (upd H a o) B o' s ∨ (∃ d, s = .ow d ∧ o' = some (.ref a))) σ δ := Pd.imp (fun o' s h => by
      cases s with
      | un => exact .inl trivial
      | ex c n => obtain ⟨v, e, r⟩ := h; exact .inl ⟨v, e, r.mono (Gr.own hb)⟩
      | sh d => obtain ⟨v, e, r⟩ := h; exact .inl ⟨v, e, r.mono (Gr.own hb)⟩
      | ow d =>
        obtain ⟨b, e, hb', r⟩ := h
        by_cases z : b = a
        · subst z; exact .inr ⟨d, rfl, e⟩
        · exact .inl ⟨b, e, hb', r.mono (fun o h => by rw [upd_ne z]; exact h) (Gr.own hb)⟩) e.all
    have h1 := Pd.setR (i := i) (b := Sl.ow d) (.inl ⟨a, rfl, hb, r⟩) hs h0
    refine Pd.impI (fun j o' s e1 e2 h => ?_) h1
    rcases h with h | ⟨d', rfl, rfl⟩
    · exact h
    · rcases get_set e2 with ⟨rfl, e3, _⟩ | ⟨hne, e3⟩
      · cases e3; exact ⟨a, rfl, hb, r⟩
      · exact absurd (e.own i j a d0 d' hi e3 hs e1) hne
  · by_cases z' : b = a
    · subst z'; rw [upd_same]; exact fun z => nomatch z
    · rw [upd_ne z']; exact e.bad b z
  · have q1 : ∃ d, δ[j]? = some (.ow d) := by
      rcases get_set h1 with ⟨rfl, _, _⟩ | ⟨_, h⟩
      · exact ⟨_, hi⟩
      · exact ⟨_, h⟩
    have q2 : ∃ d, δ[k]? = some (.ow d) := by
      rcases get_set h2 with ⟨rfl, _, _⟩ | ⟨_, h⟩
      · exact ⟨_, hi⟩
      · exact ⟨_, h⟩
    obtain ⟨d1, q1⟩ := q1
    obtain ⟨d2, q2⟩ := q2
    exact e.own j k b d1 d2 q1 q2 h3 h4
theorem EnvS.mut {H₀ : Hp} {B₀ : BS} (en : EnvS K H₀ B₀ H σ δ) (s : Same H H') (b1 : ∀ a, B₀ a → B a) (b2 : ∀ a, B a → B₀ a ∨ H₀ a = none) {i : Nat} {d0 d : D} {a : Addr} {o : HO} (hi : δ[i]? = some (.ow d0)) (hs : σ[i]? = some (some (.ref a)))
    (env : Env K (upd H' a o) B σ (δ.set i (.ow d))) : EnvS K H₀ B₀ (upd H' a o) σ (δ.set i (.ow d)) := by
  have h0 := en.fr i d0 a hi hs
  refine ⟨fun b u h => ?_, ⟨B, b1, b2, env⟩, fun j ds b h1 h2 => ?_, en.b0⟩
  · have : b ≠ a := fun z => by rw [z, h0] at h; cases h
    rw [upd_ne this]
    exact s _ _ (en.same b u h)
  · rcases get_set h1 with ⟨rfl, _, _⟩ | ⟨_, h⟩
    · rw [hs] at h2; cases h2; exact h0
    · exact en.fr j ds b h h2
theorem EnvS.take {H₀ : Hp} {B₀ : BS} (en : EnvS K H₀ B₀ H σ δ) (b1 : ∀ a, B₀ a → B a) (b2 : ∀ a, B a → B₀ a ∨ H₀ a = none) (e : Env K H B σ δ) (i : Nat) {d : D} {p : Addr} (hp : H p = none) (s : Same H H')
    (r : RpO K H' (fun a => B a ∨ a = p) d p) : EnvS K H₀ B₀ H' (σ.set i (some (.ref p))) (δ.set i (.ow d)) := by
  have g : Gr H H' B (fun a => B a ∨ a = p) := fun b u n h => ⟨fun z => z.elim n (ne_of_none h hp), s _ _ h⟩
  have h0p : H₀ p = none := en.same.free hp
  have live : ∀ {j : Nat} {d' : D} {b : Addr}, δ[j]? = some (.ow d') → σ[j]? = some (some (.ref b)) → b ≠ p := fun {j d' b} h1 h2 => by
    obtain ⟨a, q1, q2, q3⟩ := e.at h1
    rw [h2] at q1; cases q1
    exact fun z => e.bad _ q2 (by rw [z]; exact hp)
  refine ⟨en.same.trans s, ⟨fun a => B a ∨ a = p, fun a z => .inl (b1 a z), fun a z => ?_, ?_, fun a z => ?_, fun j k a ds es h1 h2 h3 h4 => ?_⟩, fun j ds a h1 h2 => ?_, en.b0⟩
  · rcases z with z | rfl
    · exact b2 a z
    · exact .inr h0p
  · refine Pd.set ⟨p, rfl, .inr rfl, r.toL⟩ i (Pd.imp (fun o sl h => ?_) e.all)
    cases sl with
    | un => trivial
    | ex c n => obtain ⟨v, e, r⟩ := h; exact ⟨v, e, r.mono g⟩
    | sh d => obtain ⟨v, e, r⟩ := h; exact ⟨v, e, r.mono g⟩
    | ow d => obtain ⟨b, e, hb', r⟩ := h; exact ⟨b, e, .inl hb', r.mono (fun o h => s _ _ h) g⟩
  · rcases z with z | rfl
    · intro q
      cases h : H a with
      | none => exact e.bad a z h
      | some u => rw [s _ _ h] at q; cases q
    · exact r.live
  · rcases get_set h1 with ⟨rfl, _, _⟩ | ⟨n1, h1⟩
    · rcases get_set h2 with ⟨rfl, _, _⟩ | ⟨n2, h2⟩
      · rfl
      · rcases get_set h3 with ⟨_, e3, _⟩ | ⟨n3, _⟩
        · cases e3
          rw [List.getElem?_set_ne n2] at h4
          exact absurd rfl (live h2 h4)
        · exact absurd rfl n3
    · rcases get_set h2 with ⟨rfl, _, _⟩ | ⟨n2, h2⟩
      · rcases get_set h4 with ⟨_, e4, _⟩ | ⟨n4, _⟩
        · cases e4
          rw [List.getElem?_set_ne n1] at h3
          exact absurd rfl (live h1 h3)
        · exact absurd rfl n4
      · rw [List.getElem?_set_ne n1] at h3
        rw [List.getElem?_set_ne n2] at h4
        exact e.own j k a ds es h1 h2 h3 h4
  · rcases get_set h1 with ⟨rfl, _, _⟩ | ⟨n1, h1⟩
    · rcases get_set h2 with ⟨_, e3, _⟩ | ⟨n3, _⟩
      · cases e3; exact h0p
      · exact absurd rfl n3
    · rw [List.getElem?_set_ne n1] at h2
      exact en.fr j ds a h1 h2
theorem Env.frz (e : Env K H B σ δ) : ∃ B' : BS, (∀ a, B' a → B a) ∧ (∀ a, B a → B' a ∨ ∃ (i : Nat) (d : D), δ[i]? = some (.ow d) ∧ σ[i]? = some (some (.ref a))) ∧ Env K H B' σ (DL.frz δ) := by
  refine ⟨fun a => B a ∧ ¬ ∃ (i : Nat) (d : D), δ[i]? = some (.ow d) ∧ σ[i]? = some (some (.ref a)), fun a z => z.1, fun a z => ?_, ?_, fun a z => e.bad a z.1, fun i j a ds es h1 _ _ _ => ?_⟩
  · by_cases q : ∃ (i : Nat) (d : D), δ[i]? = some (.ow d) ∧ σ[i]? = some (some (.ref a))
    · exact .inr q
    · exact .inl ⟨z, q⟩
  · have : Paired (fun o s => SlR K H (fun a => B a ∧ ¬ ∃ (i : Nat) (d : D), δ[i]? = some (.ow d) ∧ σ[i]? = some (some (.ref a))) o (frz1 s)) σ δ := Pd.impI (fun i o s e1 e2 h => by
      cases s with
      | un => trivial
      | ex c n => obtain ⟨v, e, r⟩ := h; exact ⟨v, e, r.mono (Gr.less fun a z => z.1)⟩
      | sh d => obtain ⟨v, e, r⟩ := h; exact ⟨v, e, r.mono (Gr.less fun a z => z.1)⟩
      | ow d =>
        obtain ⟨a, rfl, hb, r⟩ := h
        exact ⟨_, rfl, r.rp (fun a z => z.1) fun z => z.2 ⟨i, d, e2, e1⟩⟩) e.all
    have mp : ∀ {l : St} {m : Ds} {F : Option V → Sl → Prop}, Paired (fun o s => F o (frz1 s)) l m → Paired F l (m.map frz1) := by
      intro l m F h
      induction h with
      | nil => exact .nil
      | cons r t ih => exact .cons r ih
    exact mp this
  · unfold DL.frz at h1
    rw [List.getElem?_map] at h1
    cases q : δ[i]? with
    | none => rw [q] at h1; cases h1
    | some s => rw [q] at h1; cases s <;> cases h1
theorem EnvS.frz {H₀ : Hp} {B₀ : BS} (en : EnvS K H₀ B₀ H σ δ) : EnvS K H₀ B₀ H σ (DL.frz δ) := by
  obtain ⟨B, b1, b2, env⟩ := en.ex
  obtain ⟨B', c1, c2, env'⟩ := env.frz
  refine ⟨en.same, ⟨B', fun a z => ?_, fun a z => b2 a (c1 a z), env'⟩, fun i ds a h1 _ => ?_, en.b0⟩
  · rcases c2 a (b1 a z) with q | ⟨i, d, q1, q2⟩
    · exact q
    · exact absurd (en.fr i d a q1 q2) (en.b0 a z)
  · unfold DL.frz at h1
    rw [List.getElem?_map] at h1
    cases q : δ[i]? with
    | none => rw [q] at h1; cases h1
    | some s => rw [q] at h1; cases s <;> cases h1
theorem Env.frzAt (e : Env K H B σ δ) (i : Nat) : ∃ B' : BS, (∀ a, B' a → B a) ∧ (∀ a, B a → B' a ∨ ∃ (d : D), δ[i]? = some (.ow d) ∧ σ[i]? = some (some (.ref a))) ∧ Env K H B' σ (DL.frzAt i δ) := by
  unfold DL.frzAt
  cases h : δ[i]? with
  | none => exact ⟨B, fun _ z => z, fun _ z => .inl z, e⟩
  | some s =>
    cases s with
    | un => dsimp only [frz1]; rw [set_self h]; exact ⟨B, fun _ z => z, fun _ z => .inl z, e⟩
    | ex c n => dsimp only [frz1]; rw [set_self h]; exact ⟨B, fun _ z => z, fun _ z => .inl z, e⟩
    | sh d => dsimp only [frz1]; rw [set_self h]; exact ⟨B, fun _ z => z, fun _ z => .inl z, e⟩
    | ow d =>
      obtain ⟨a, h1, hb, r⟩ := e.at h
      refine ⟨fun b => B b ∧ b ≠ a, fun b z => z.1, fun b z => ?_, ?_, fun b z => e.bad b z.1, fun j k b ds es h1' h2' h3 h4 => ?_⟩
      · by_cases q : b = a
        · subst q; exact .inr ⟨d, rfl, h1⟩
        · exact .inl ⟨z, q⟩
      · have h0 : Paired (fun (o' : Option V) (s : Sl) => SlR K H (fun b => B b ∧ b ≠ a) o' s ∨ (∃ d, s = .ow d ∧ o' = some (.ref a))) σ δ := Pd.imp (fun o' s h => by
          cases s with
          | un => exact .inl trivial
          | ex c n => obtain ⟨v, e, r⟩ := h; exact .inl ⟨v, e, r.mono (Gr.less fun a z => z.1)⟩
          | sh d => obtain ⟨v, e, r⟩ := h; exact .inl ⟨v, e, r.mono (Gr.less fun a z => z.1)⟩
          | ow d =>
            obtain ⟨b, e, hb', r⟩ := h
            by_cases z : b = a
            · subst z; exact .inr ⟨d, rfl, e⟩
            · exact .inl ⟨b, e, ⟨hb', z⟩, r.mono (fun o h => h) (Gr.less fun a z => z.1)⟩) e.all
        have h2 := Pd.setR (i := i) (b := Sl.sh (unl d)) (.inl ⟨.ref a, rfl, r.rp (fun b z => z.1) fun z => z.2 rfl⟩) h1 h0
        refine Pd.impI (fun j o' s e1 e2 hh => ?_) h2
        rcases hh with hh | ⟨d', rfl, rfl⟩
        · exact hh
        · rcases get_set e2 with ⟨rfl, e3, _⟩ | ⟨hne, e3⟩
          · cases e3
          · exact absurd (e.own i j a d d' h e3 h1 e1) hne
      · rcases get_set h1' with ⟨_, q, _⟩ | ⟨_, q1⟩
        · cases q
        · rcases get_set h2' with ⟨_, q, _⟩ | ⟨_, q2⟩
          · cases q
          · exact e.own j k b ds es q1 q2 h3 h4
theorem EnvS.frzAt {H₀ : Hp} {B₀ : BS} (en : EnvS K H₀ B₀ H σ δ) (i : Nat) : EnvS K H₀ B₀ H σ (DL.frzAt i δ) := by
  obtain ⟨B, b1, b2, env⟩ := en.ex
  obtain ⟨B', c1, c2, env'⟩ := env.frzAt i
  refine ⟨en.same, ⟨B', fun a z => ?_, fun a z => b2 a (c1 a z), env'⟩, fun j ds a h1 h2 => ?_, en.b0⟩
  · rcases c2 a (b1 a z) with q | ⟨d, q1, q2⟩
    · exact q
    · exact absurd (en.fr i d a q1 q2) (en.b0 a z)
  · unfold DL.frzAt at h1
    cases q : δ[i]? with
    | none => rw [q] at h1; exact en.fr j ds a h1 h2
    | some s =>
      rw [q] at h1
      rcases get_set h1 with ⟨rfl, q', _⟩ | ⟨_, q1⟩
      · cases s <;> cases q'
      · exact en.fr j ds a q1 h2
theorem flat_rp {d : D} {v : V} (h : flat d = true) (r : Rp K H B d v) : Rp K H' B' d v := by
  cases d <;> simp [flat] at h
  · rw [rp_non] at r ⊢; exact r
  · rw [rp_bl] at r ⊢; exact r
  · rw [rp_int] at r ⊢; exact r
  · rw [rp_str] at r ⊢; exact r
end
section
variable {X : Cx} {e tg : Expr} {st : Stmt} {pos : Pos} {g : GE} {gt : GB} {G : GS}
theorem pd_bor (h : PD X e g) : PD X e (borE g) := .mk fun B δ pins s σ H Q I ⟨d, en, hq, k⟩ => by
  obtain ⟨B', c1, c2, en'⟩ := en.frz
  unfold borE at hq
  cases e1 : g (frz δ) with
  | none => rw [e1] at hq; cases hq
  | some x =>
    rw [e1] at hq
    by_cases hf : flat x = true
    · simp only [Option.bind_some, if_pos hf] at hq
      cases hq
      exact h B' (frz δ) pins s σ H Q I ⟨_, en', e1, fun v H' s' r => k v H' s' (flat_rp hf r)⟩
    · simp only [Option.bind_some, if_neg hf] at hq
      cases hq
theorem ptd_bor (h : PTD X e gt) : PTD X e (borB gt) := .mk fun B δ pins s σ H Q I ⟨d, en, hq, k⟩ => by
  obtain ⟨B', c1, c2, en'⟩ := en.frz
  exact h B' (frz δ) pins s σ H Q I ⟨d, en', hq, k⟩
theorem psd_frzS (i : Nat) (h : PSD X st G) : PSD X st (frzS i G) := .mk fun H₀ B₀ δ pins s σ H D I ⟨r, en, hq, k⟩ => h H₀ B₀ _ pins s σ H D I ⟨r, en.frzAt i, hq, k⟩
theorem psd_retB (h : PD X e g) : PSD X (.Return (some e) pos) (retD (borA g)) := .mk fun H₀ B₀ δ pins s σ H D I ⟨r, en, hq, k⟩ =>
  psd_ret h H₀ B₀ (frz δ) pins s σ H D I ⟨r, en.frz, hq, k⟩
theorem pdf_lst {es : List Expr} {gA : GA} (h : PDA X es gA) : PDF X (.List es pos) (lstG gA) :=
  .mk fun B δ => (pe_lst (h B δ)).imp fun σ H Q ⟨d, en, h, k⟩ => by
    unfold lstG at h
    cases e1 : gA δ with
    | none => rw [e1] at h; cases h
    | some ds =>
      rw [e1] at h
      by_cases hl : ds.length ≤ sizeLine
      · simp only [Option.bind_some, if_pos hl] at h
        cases h
        refine ⟨ds, en, e1, fun vs H1 s1 r1 => ⟨by rw [r1.length]; exact hl, fun p hp => k _ _ (s1.free hp) (s1.trans (same_upd hp)) ⟨vs, upd_same, r1.mono (Gr.fresh hp)⟩⟩⟩
      · simp only [Option.bind_some, if_neg hl] at h
        cases h
theorem pdf_dict0 : PDF X (.Dict [] [] pos) (gc (.dct (.inl []) [])) := .mk fun B δ => pe_dnewK.imp fun σ H Q ⟨d, en, h, k⟩ => by
  cases h
  exact fun p hp => k p _ hp (same_upd hp) ⟨[], upd_same, rfl, by rw [rps_nil]⟩
theorem psd_own (i : Nat) {x : Str} {px : Pos} (h : PDF X e g) (hN : X.N.Nodup) (hi : X.N[i]? = some x := by rfl) (hx : Loc X.env.scope x := by first | exact Or.inl rfl | exact Or.inr rfl)
    (hs : swapsWithSole [.Name x px] e pos.line X.env = pure false := by rfl) (hw : swappedStores [.Name x px] e X.env = pure none := by rfl)
    (h1 : (assignEach [.Name x px] X.env).map (·.2) = [assign (.Name x px) X.env] := by rfl)
    (hf : X.fn x = true ∨ X.env.scope.names.lookup x = some .local := by first | exact .inl rfl | exact .inr rfl | assumption) : PSD X (.Assign [.Name x px] e pos) (ownD i g) := .mk fun H₀ B₀ δ pins s σ H D I ⟨r, en, e1, k⟩ => by
  unfold ownD at e1
  obtain ⟨B, b1, b2, env⟩ := en.ex
  cases e2 : g δ with
  | none => rw [e2] at e1; cases e1
  | some d =>
    rw [e2] at e1
    cases e1
    exact ps_asg (h B δ) (pg_name (i := i) hN hi hx hf) hs hw h1 pins s σ H D I ⟨d, env, e2, fun p H' hp s' r => k _ H' (en.take b1 b2 env i hp s' r)⟩
end
end DL
namespace L2
open PySem PySem.Spec PyProof.Rows
open PySem.AutoSeq1 (wpAny_loadPart')
theorem extend_any (p : Addr) (xs : Array Value) (k : Nat) (q : Addr) (ys : Array Value) (m : Nat) (dq : Option Addr) (sq : Array (Option Value)) (h0 : ¬ (!xs.isEmpty && Builtin.List.listTooLong (xs.size + ys.size)) = true) (h1 : xs.size ≤ sizeLine) (h2 : xs.size + ys.size ≤ sizeLine + 1) :
    Meets (Builtin.«list.extend» ⟨[.ref p, .ref q], []⟩) (fun _ R s => s.heap.get? p = some { cls := .type "list", dict := none, data := .seq xs k, slots := #[] } ∧ s.heap.get? q = some { cls := .type "list", dict := dq, data := .seq ys m, slots := sq } ∧ R (.ok (.ret Value.none)) { s with heap := s.heap.update p (Obj.mapSeq fun z => z ++ ys) }) :=
  .of_wp fun prog w A R s h => by
    obtain ⟨hp, g, d, tk, os⟩ := s
    obtain ⟨hl, hb, h⟩ := h
    have f1 := AutoSeq1.idx_int
    have f2 := AutoSeq1.sub_tuple_tuple
    have f3 := AutoSeq1.sub_list_list
    have f4 := AutoSeq1.sub_tuple_list
    have f5 := AutoSeq1.sub_list_tuple
    have hz' : (xs ++ ys).size ≤ sizeLine + 1 := by rw [Array.size_append]; exact h2
    wp_walk using (wpAny_updateSeq hl rfl (hz := h1) (_hz' := hz')), wpAny_loadPart' hl, wpAny_loadPart' hb
    exact ⟨_, rfl, h⟩
section
variable {X : Cx}
noncomputable def rExtendL (K : PySem.W.Frag) : V → List V → Hp → VK → Prop := fun x vs H Q => ∃ l b xs zs, x = .ref l ∧ vs = [.ref b] ∧ H l = some (.lst xs) ∧ SqL K H b zs ∧ xs.length + zs.length ≤ sizeLine ∧ Q .non (upd H l (.lst (xs ++ zs)))
theorem mt_extendL : MtM X "list.extend" (rExtendL X.K) := by
  intro pins s σ H x vs v us Q I rx rv h
  obtain ⟨l, b, xs, zs, rfl, rfl, hH, hB, hz, q⟩ := h
  cases rx
  obtain ⟨u, rfl, ru⟩ := rv.one
  cases ru
  obtain ⟨z, its, n, r, hl, e⟩ := I.lstM hH
  obtain ⟨its2, r2, p2, z2⟩ := I.list hB
  obtain ⟨⟨cls2, dd2, data2, sl2⟩, ho2, hc2, n2, hd2⟩ := p2.isList
  simp only at hc2 hd2
  subst hc2 hd2
  have hl2 := r2.length
  have hsz : its.toArray.size + its2.toArray.size ≤ sizeLine := by rw [List.size_toArray, List.size_toArray]; omega
  have hlong : ¬ (!its.toArray.isEmpty && Builtin.List.listTooLong (its.toArray.size + its2.toArray.size)) = true := by
    rw [notLongL hsz, Bool.and_false]
    exact Bool.false_ne_true
  refine call_meets F.slot_list_extend ⟨_, e, rfl⟩ F.entry_list_extend (F.args_list_extend_2 _ _)
    (extend_any l its.toArray n b its2.toArray n2 dd2 sl2 hlong (by rw [List.size_toArray]; omega) (by omega)) ⟨e, ho2, ?_⟩
  refine ⟨.non, _, I.lset (its' := its ++ its2) hH e (by simp) (r.append r2) ?_, rfl, q⟩
  rw [List.length_append]
  omega
noncomputable def rDPutS : V → V → V → Hp → (Hp → Prop) → Prop := fun o i v H Q => ∃ a H', o = .ref a ∧ DPut H a i v H' ∧ Q H'
theorem set_dict (hu : X.A.units + 1 < cLine) : PSet X rDPutS := by
  intro pins s σ H o i v ov iv u Q I ro ri rv h
  obtain ⟨a, H', rfl, g, q⟩ := h
  cases ro
  exact d_setItem hu I g ri rv fun s3 I3 => ⟨H', I3, q⟩
end
end L2
namespace DL
open PySem PySem.Spec PyProof.Rows L2
section
variable {K : PySem.W.Frag} {H H' : Hp} {B B' : BS} {σ σ' : St} {δ δ' : Ds}
theorem Rps.dropLast {ds : List D} {xs : List V} (h : Rps K H B ds xs) : Rps K H B ds.dropLast xs.dropLast := by
  rw [List.dropLast_eq_take, List.dropLast_eq_take, h.length]
  exact h.take _
structure EnvV (K : PySem.W.Frag) (H₀ : Hp) (B₀ : BS) (H : Hp) (σ : St) (δ : Ds) (d : D) (v : V) : Prop where
  same : Same H₀ H
  ex : ∃ B : BS, (∀ a, B₀ a → B a) ∧ (∀ a, B a → B₀ a ∨ H₀ a = none) ∧ Env K H B σ δ ∧ Rp K H B d v
  fr : ∀ (i : Nat) (ds : D) (a : Addr), δ[i]? = some (.ow ds) → σ[i]? = some (some (.ref a)) → H₀ a = none
  b0 : ∀ a, B₀ a → H₀ a ≠ none
theorem EnvV.s {H₀ : Hp} {B₀ : BS} {d : D} {v : V} (h : EnvV K H₀ B₀ H σ δ d v) : EnvS K H₀ B₀ H σ δ := ⟨h.same, let ⟨B, b1, b2, e, _⟩ := h.ex; ⟨B, b1, b2, e⟩, h.fr, h.b0⟩
theorem EnvV.mk' {H₀ : Hp} {B₀ : BS} {d : D} {v : V} (h : EnvS K H₀ B₀ H σ δ) (b1 : ∀ a, B₀ a → B a) (b2 : ∀ a, B a → B₀ a ∨ H₀ a = none) (e : Env K H B σ δ) (r : Rp K H B d v) : EnvV K H₀ B₀ H σ δ d v := ⟨h.same, ⟨B, b1, b2, e, r⟩, h.fr, h.b0⟩
end
noncomputable def tX (K : PySem.W.Frag) (H₀ : Hp) (B₀ : BS) (δ : Ds) (gx : GX) : TE := fun σ H Q => ∃ r, EnvS K H₀ B₀ H σ δ ∧ gx δ = some r ∧ ∀ v H', EnvV K H₀ B₀ H' σ r.2 r.1 v → Q v H'
structure PX (X : Cx) (e : Expr) (gx : GX) : Prop where
  mk :: go : ∀ H₀ B₀ δ, PE X e (tX X.K H₀ B₀ δ gx)
instance {X : Cx} {e : Expr} {gx : GX} : CoeFun (PX X e gx) (fun _ => ∀ H₀ B₀ δ, PE X e (tX X.K H₀ B₀ δ gx)) := ⟨PX.go⟩
noncomputable def tTG (K : PySem.W.Frag) (H₀ : Hp) (B₀ : BS) (ft : D → Ds → Option Ds) (d : D) (δ : Ds) : TG := fun v σ H Q => ∃ δ', EnvV K H₀ B₀ H σ δ d v ∧ ft d δ = some δ' ∧ ∀ σ' H', EnvS K H₀ B₀ H' σ' δ' → Q σ' H'
structure PTG (X : Cx) (tg : Expr) (ft : D → Ds → Option Ds) : Prop where
  mk :: go : ∀ H₀ B₀ d δ, PG X tg (tTG X.K H₀ B₀ ft d δ)
instance {X : Cx} {tg : Expr} {ft : D → Ds → Option Ds} : CoeFun (PTG X tg ft) (fun _ => ∀ H₀ B₀ d δ, PG X tg (tTG X.K H₀ B₀ ft d δ)) := ⟨PTG.go⟩
section
variable {X : Cx} {e tg : Expr} {st : Stmt} {pos apos cpos px : Pos} {g : GE} {gt : GB} {G : GS} {x : Str}
theorem px_pure (h : PD X e g) : PX X e (pureX g) := .mk fun H₀ B₀ δ pins s σ H Q I ⟨r, en, e1, k⟩ => by
  unfold pureX at e1
  obtain ⟨B, b1, b2, env⟩ := en.ex
  cases e2 : g δ with
  | none => rw [e2] at e1; cases e1
  | some d =>
    rw [e2] at e1
    cases e1
    exact h B δ pins s σ H Q I ⟨d, env, e2, fun v H' s' r => k v H' (EnvV.mk' (en.grow s') b1 b2 (env.same s') r)⟩
theorem owL_eq {i : Nat} {δ : Ds} {ds : List D} (h : owL i δ = some ds) : δ[i]? = some (.ow (.lst ds)) := by
  unfold owL at h
  split at h
  · cases h; assumption
  · cases h
theorem owDc_eq {i : Nat} {δ : Ds} {r : List KeyD × List D} (h : owDc i δ = some r) : δ[i]? = some (.ow (.dct (.inl r.1) r.2)) := by
  unfold owDc at h
  split at h
  · cases h; assumption
  · cases h
theorem px_app (i : Nat) (h : PD X e g) (hN : X.N[i]? = some x := by rfl) (hv : Vis X.env.scope x := by first | exact Or.inl rfl | exact Or.inr (Or.inl rfl) | exact Or.inr (Or.inr rfl)) (hd : (x == ("__debug__" : Str)) = false := by decide) (hcd : (x == ("__classdict__" : Str)) = false := by decide)
    (hbase : attributeBase (.Name x px) "append" X.env (eval (.Name x px) X.env) = eval (.Name x px) X.env := by rfl)
    (hfew : ((backTo cpos (starEach [e] X.env)).all (fun x => !x.1) && (backToKw cpos (keywordEach [] X.env)).all (fun x => x.1.isSome)
      && decide (([e] : List Expr).length + ([] : List Keyword).length + (if ([] : List Keyword).isEmpty then 0 else 1) < 30)) = true := by rfl)
    (hline : (apos.endLine == cpos.line) = true := by rfl) (hs : starEach [e] X.env = (false, eval e X.env) :: starEach [] X.env := by rfl) (hplain : (backTo cpos (starEach [] X.env)).any (·.1) = false := by rfl) :
    PX X (.Call (.Attribute (.Name x px) "append" apos) [e] [] cpos) (appX i g) := .mk fun H₀ B₀ δ pins s σ H Q I ⟨r, en, e1, k⟩ => by
  unfold appX at e1
  obtain ⟨B, b1, b2, env⟩ := en.ex
  cases e2 : owL i δ with
  | none => rw [e2] at e1; cases e1
  | some ds =>
    cases e3 : g δ with
    | none => rw [e2, e3] at e1; cases e1
    | some d =>
      rw [e2, e3] at e1
      simp only [Option.bind_some] at e1
      split at e1
      · rename_i hz
        cases e1
        have hi := owL_eq e2
        obtain ⟨a, hs', hb, xs, hx, rx⟩ := env.at hi
        refine pe_bm PySem.F.plainAttrs_list PySem.F.slot_list_append PySem.F.type_list_append mt_append (pe_var (i := i) hN hv hd hcd) (pa_cons (h B δ) pa_nil hs) hbase hfew hline hs hplain pins s σ H Q I
          ⟨_, hs', .inl ⟨rfl, xs, .inl (.inl hx)⟩, d, env, e3, fun v H1 s1 r1 => ⟨a, xs, v, rfl, rfl, s1 _ _ hx, by rw [rx.length]; exact hz, ?_⟩⟩
        have env2 : Env X.K (upd H1 a (.lst (xs ++ [v]))) B σ (δ.set i (.ow (.lst (ds ++ [d])))) := (env.same s1).mut hi hs' ⟨_, upd_same, (Rps.snoc (rx.same s1) r1).mono (Gr.own hb)⟩
        exact k _ _ (EnvV.mk' (en.mut s1 b1 b2 hi hs' env2) b1 b2 env2 (by rw [rp_non]))
      · cases e1
theorem px_ext (i : Nat) (h : PD X e g) (hN : X.N[i]? = some x := by rfl) (hv : Vis X.env.scope x := by first | exact Or.inl rfl | exact Or.inr (Or.inl rfl) | exact Or.inr (Or.inr rfl)) (hd : (x == ("__debug__" : Str)) = false := by decide) (hcd : (x == ("__classdict__" : Str)) = false := by decide)
    (hbase : attributeBase (.Name x px) "extend" X.env (eval (.Name x px) X.env) = eval (.Name x px) X.env := by rfl)
    (hfew : ((backTo cpos (starEach [e] X.env)).all (fun x => !x.1) && (backToKw cpos (keywordEach [] X.env)).all (fun x => x.1.isSome)
      && decide (([e] : List Expr).length + ([] : List Keyword).length + (if ([] : List Keyword).isEmpty then 0 else 1) < 30)) = true := by rfl)
    (hline : (apos.endLine == cpos.line) = true := by rfl) (hs : starEach [e] X.env = (false, eval e X.env) :: starEach [] X.env := by rfl) (hplain : (backTo cpos (starEach [] X.env)).any (·.1) = false := by rfl) :
    PX X (.Call (.Attribute (.Name x px) "extend" apos) [e] [] cpos) (extX i g) := .mk fun H₀ B₀ δ pins s σ H Q I ⟨r, en, e1, k⟩ => by
  unfold extX at e1
  obtain ⟨B, b1, b2, env⟩ := en.ex
  cases e2 : owL i δ with
  | none => rw [e2] at e1; cases e1
  | some ds =>
    cases e3 : g δ with
    | none => rw [e2, e3] at e1; cases e1
    | some d =>
      rw [e2, e3] at e1
      simp only [Option.bind_some] at e1
      cases d <;> try cases e1
      rename_i es
      dsimp only at e1
      split at e1
      · rename_i hz
        cases e1
        have hi := owL_eq e2
        obtain ⟨a, hs', hb, xs, hx, rx⟩ := env.at hi
        refine pe_bm PySem.F.plainAttrs_list PySem.F.slot_list_extend PySem.F.type_list_extend mt_extendL (pe_var (i := i) hN hv hd hcd) (pa_cons (h B δ) pa_nil hs) hbase hfew hline hs hplain pins s σ H Q I
          ⟨_, hs', .inl ⟨rfl, xs, .inl (.inl hx)⟩, _, env, e3, fun v H1 s1 r1 => ?_⟩
        rw [rp_lst] at r1
        obtain ⟨b, zs, rfl, hq, rz⟩ := r1
        refine ⟨a, b, xs, zs, rfl, rfl, s1 _ _ hx, hq.to, by rw [rx.length, rz.length]; exact hz, ?_⟩
        have env2 : Env X.K (upd H1 a (.lst (xs ++ zs))) B σ (δ.set i (.ow (.lst (ds ++ es)))) := (env.same s1).mut hi hs' ⟨_, upd_same, (Rps.append (rx.same s1) rz).mono (Gr.own hb)⟩
        exact k _ _ (EnvV.mk' (en.mut s1 b1 b2 hi hs' env2) b1 b2 env2 (by rw [rp_non]))
      · cases e1
theorem px_pop (i : Nat) (hN : X.N[i]? = some x := by rfl) (hv : Vis X.env.scope x := by first | exact Or.inl rfl | exact Or.inr (Or.inl rfl) | exact Or.inr (Or.inr rfl)) (hd : (x == ("__debug__" : Str)) = false := by decide) (hcd : (x == ("__classdict__" : Str)) = false := by decide)
    (hbase : attributeBase (.Name x px) "pop" X.env (eval (.Name x px) X.env) = eval (.Name x px) X.env := by rfl) (hline : (apos.endLine == cpos.line) = true := by rfl) :
    PX X (.Call (.Attribute (.Name x px) "pop" apos) [] [] cpos) (popX i) := .mk fun H₀ B₀ δ pins s σ H Q I ⟨r, en, e1, k⟩ => by
  unfold popX at e1
  obtain ⟨B, b1, b2, env⟩ := en.ex
  cases e2 : owL i δ with
  | none => rw [e2] at e1; cases e1
  | some ds =>
    rw [e2] at e1
    simp only [Option.bind_some] at e1
    cases e3 : ds.getLast? with
    | none => rw [e3] at e1; cases e1
    | some d =>
      rw [e3] at e1
      cases e1
      have hi := owL_eq e2
      obtain ⟨a, hs', hb, xs, hx, rx⟩ := env.at hi
      rw [List.getLast?_eq_getElem?] at e3
      obtain ⟨y, hy, ry⟩ := rx.get e3
      refine pe_bm0 PySem.F.plainAttrs_list PySem.F.slot_list_pop PySem.F.type_list_pop mt_pop (pe_var (i := i) hN hv hd hcd) hbase hline pins s σ H Q I
        ⟨_, hs', .inl ⟨rfl, xs, .inl (.inl hx)⟩, a, xs, y, rfl, rfl, hx, by rw [rx.length]; exact hy, ?_⟩
      have env2 : Env X.K (upd H a (.lst xs.dropLast)) B σ (δ.set i (.ow (.lst ds.dropLast))) := env.mut hi hs' ⟨_, upd_same, rx.dropLast.mono (Gr.own hb)⟩
      exact k _ _ (EnvV.mk' (en.mut (Same.refl _) b1 b2 hi hs' env2) b1 b2 env2 (ry.mono (Gr.own hb)))
theorem ptg_of {idx : List Nat} {f : D → Ds → Option Ds} (h : PGD X tg idx f) : PTG X tg f := .mk fun H₀ B₀ d δ pins s σ H v u Q I r ⟨δ', en, e1, k⟩ => by
  obtain ⟨B, b1, b2, env, rv⟩ := en.ex
  exact h B d δ pins s σ H v u Q I r ⟨δ', rv, env, e1, fun σ' w en' => k σ' H (en.s.wr b1 b2 (Same.refl _) w en')⟩
theorem psd_asgX {gx : GX} {ft : D → Ds → Option Ds} (h : PX X e gx) (hg : PTG X tg ft) (hs : swapsWithSole [tg] e pos.line X.env = pure false := by rfl) (hw : swappedStores [tg] e X.env = pure none := by rfl)
    (h1 : (assignEach [tg] X.env).map (·.2) = [assign tg X.env] := by rfl) : PSD X (.Assign [tg] e pos) (asgX gx ft) := .mk fun H₀ B₀ δ pins s σ H D I ⟨r, en, e1, k⟩ => by
  unfold asgX at e1
  cases e2 : gx δ with
  | none => rw [e2] at e1; cases e1
  | some q =>
    rw [e2] at e1
    simp only [Option.bind_some] at e1
    cases e3 : ft q.1 q.2 with
    | none => rw [e3] at e1; cases e1
    | some δ' =>
      rw [e3] at e1
      cases e1
      exact ps_asg (h H₀ B₀ δ) (hg H₀ B₀ q.1 q.2) hs hw h1 pins s σ H D I ⟨q, en, e2, fun v H' en' => ⟨δ', en', e3, fun σ' H'' en'' => k σ' H'' en''⟩⟩
theorem psd_exprX {gx : GX} (h : PX X e gx) (hs : swapsWith e none pos.line X.env = pure false := by rfl) : PSD X (.Expr e pos) (exprX gx) := .mk fun H₀ B₀ δ pins s σ H D I ⟨r, en, e1, k⟩ => by
  unfold exprX at e1
  cases e2 : gx δ with
  | none => rw [e2] at e1; cases e1
  | some q =>
    rw [e2] at e1
    cases e1
    exact ps_expr (h H₀ B₀ δ) hs pins s σ H D I ⟨q, en, e2, fun v H' en' => k σ H' en'.s⟩
theorem psd_while (n : Nat) {c : Expr} {body : List Stmt} (hp : PassesOwn (model X.prog X.w) X.A X.env X.xe) (hc : PTD X c gt) (hb : PSsD X body G) : PSD X (.While c body [] pos) (whileD gt G n) := .mk fun H₀ B₀ δ pins s σ H D I ⟨r, en, e1, k⟩ => by
  have hc' : PT X c (fun σ H Q => ∃ B δ, tDT X.K B δ gt σ H Q) := fun pins s σ H Q I ⟨B, δ, h⟩ => hc B δ pins s σ H Q I h
  have hb' : PSs X body (fun D σ H => ∃ δ, tDS X.K H₀ B₀ δ G D σ H) := fun pins s σ H D I ⟨δ, h⟩ => hb H₀ B₀ δ pins s σ H D I h
  refine ps_while hp hc' hb' pins s σ H D I ⟨fun m σ H => ∃ δ', EnvS X.K H₀ B₀ H σ δ' ∧ whileD gt G m δ' = some r, ⟨n, δ, en, e1⟩, ?_⟩
  rintro m σ1 H1 ⟨δ1, en1, e2⟩
  cases m with
  | zero => cases e2
  | succ m =>
    unfold whileD at e2
    obtain ⟨B, b1, b2, env⟩ := en1.ex
    cases e3 : gt δ1 with
    | none => rw [e3] at e2; cases e2
    | some t =>
      rw [e3] at e2
      refine ⟨B, δ1, t, env, e3, fun H2 s2 => ?_⟩
      cases t with
      | false =>
        rw [if_neg Bool.false_ne_true]
        cases e2
        exact k σ1 H2 (en1.grow s2)
      | true =>
        rw [if_pos rfl]
        dsimp only at e2
        refine ⟨fun σ' H' => ∃ δ', EnvS X.K H₀ B₀ H' σ' δ' ∧ whileD gt G m δ' = some r, fun σ' H' z => ⟨m, Nat.lt_succ_self m, z⟩, δ1, ?_⟩
        cases e4 : G δ1 with
        | none => rw [e4] at e2; cases e2
        | some rb =>
          rw [e4] at e2
          refine ⟨rb, en1.grow s2, e4, ?_⟩
          cases rb with
          | nx δn => exact fun σ' H' en' => ⟨δn, en', e2⟩
          | ct δn => exact fun σ' H' en' => ⟨δn, en', e2⟩
          | bk δn => cases e2; exact fun σ' H' en' => k σ' H' en'
          | rt d' => cases e2; exact fun v H' s' r' => k v H' s' r'
          | rf d' => cases e2; exact fun p H' hp s' r' => k p H' hp s' r'
theorem pgd_tup2 (i j : Nat) {y : Str} {p2 p3 : Pos} {kk} (hN : X.N.Nodup) (hij : i ≠ j) (hc : X.calm = true := by rfl) (hi : X.N[i]? = some x := by rfl) (hj : X.N[j]? = some y := by rfl)
    (hx : Loc X.env.scope x := by first | exact Or.inl rfl | exact Or.inr rfl) (hy : Loc X.env.scope y := by first | exact Or.inl rfl | exact Or.inr rfl)
    (hf : X.fn x = true ∨ X.env.scope.names.lookup x = some .local := by first | exact .inl rfl | exact .inr rfl | assumption) (hf2 : X.fn y = true ∨ X.env.scope.names.lookup y = some .local := by first | exact .inl rfl | exact .inr rfl | assumption)
    (hs1 : (assignEach [.Name x p2, .Name y p3] X.env).map (·.2) = assign (.Name x p2) X.env :: (assignEach [.Name y p3] X.env).map (·.2) := by rfl) (hs2 : (assignEach [.Name y p3] X.env).map (·.2) = assign (.Name y p3) X.env :: (assignEach [] X.env).map (·.2) := by rfl)
    (hn : (assignEach [.Name x p2, .Name y p3] X.env).length = 2 := by rfl) (hst : (assignEach [.Name x p2, .Name y p3] X.env).findIdx? (·.1) = none := by rfl) :
    PGD X (.Tuple [.Name x p2, .Name y p3] kk pos) [i, j] (tup2 i j) := .mk fun B d δ => (pg_tup hc (pgs_cons (pg_name (i := i) hN hi hx hf) (pgs_cons (pg_name (i := j) hN hj hy hf2) pgs_nil hs2) hs1) hn hst).imp fun v σ H Q ⟨δ', r, en, e1, k⟩ => by
  unfold tup2 at e1
  split at e1
  · rename_i da db
    cases e1
    rw [rp_tup] at r
    obtain ⟨p, xs, rfl, hq, rs⟩ := r
    rw [rps_cons] at rs
    obtain ⟨va, t1, rfl, ra, rs⟩ := rs
    rw [rps_cons] at rs
    obtain ⟨vb, t2, rfl, rb, rs⟩ := rs
    rw [rps_nil] at rs
    subst rs
    refine ⟨p, _, rfl, hq.to, rfl, va, [vb], rfl, vb, [], rfl, rfl, k _ ?_ ((en.set i ra).set j rb)⟩
    refine ⟨by simp, fun q hq => ?_, fun q hq ds h => ?_⟩
    · have h1 : q ≠ i := fun z => hq (by rw [z]; exact List.mem_cons_self)
      have h2 : q ≠ j := fun z => hq (by rw [z]; exact List.mem_cons_of_mem _ List.mem_cons_self)
      rw [List.getElem?_set_ne (Ne.symm h2), List.getElem?_set_ne (Ne.symm h1), List.getElem?_set_ne (Ne.symm h2), List.getElem?_set_ne (Ne.symm h1)]
      exact ⟨rfl, rfl⟩
    · rcases get_set h with ⟨rfl, e3, _⟩ | ⟨n1, e3⟩
      · cases e3
      · rcases get_set e3 with ⟨rfl, e4, _⟩ | ⟨n2, e4⟩
        · cases e4
        · simp at hq
          rcases hq with z | z
          · exact n2 z.symm
          · exact n1 z.symm
  · cases e1
end
end DL
namespace HT
open PySem PyProof.Rows
section
variable {prog : Program} {w : World} {A : Around} {E : Value → Shared → Prop} {s : Shared}
theorem getItem_tuple_whole {t sl : Addr} {items : Array Value} {vl vu : Value} {lo hi : Option Int} {Q : Value → Shared → Prop} (ht : IsTup s.heap t items) (hs : s.heap.IsSliceOf sl vl vu .none) (pl : IsPart vl lo) (pu : IsPart vu hi)
    (hw : sIx items.size 0 lo = 0 ∧ sIx items.size items.size hi = items.size) (h : Q (.ref t) s) : wpAny (model prog w) A (getItem (.ref t) (.ref sl)) Q E s := by
  obtain ⟨os, hos, hcs, hds⟩ := id hs
  have hTs : s.TypeIs (.ref sl) "slice" := ⟨os, hos, hcs⟩
  unfold getItem
  try with_reducible refine wpAny_holding ?_
  first | refine wpAny_bind (wpAny_pure ?_) | skip
  refine wpAny_bind (wpAny_sequenceKey ht.typeIs (by decide) ?_)
  refine wpAny_bind (wpAny_callSpecial?_slot (name := Str.ofString "__getitem__") ht.typeIs PyProof.Rows.slot_tuple_getitem
    (wpAny_call_entry PyProof.Rows.slot_tuple_getitem ht.typeIs entry_tuple_getitem ?_ (args_tuple_getitem _ _)))
  show wpAny _ _ (Builtin.Tuple.tupleItemsOf (.ref t) >>= _) _ _ s
  refine wpAny_bind (tupleItemsOf_ ht ?_)
  refine wpAny_bind (wpAny_typeOf hTs ?_)
  rw [if_pos (by decide)]
  refine wpAny_bind (sliceApplied_gen hs pl pu ?_)
  have hyes : (((sIx items.size 0 lo : Nat) : Int) == 0 && (1 : Int) == 1 && (sIx items.size items.size hi - sIx items.size 0 lo) == items.size) = true := by
    rw [hw.1, hw.2]
    simp
  show wpAny _ _ (if (((sIx items.size 0 lo : Nat) : Int) == 0 && (1 : Int) == 1 && (sIx items.size items.size hi - sIx items.size 0 lo) == items.size) = true then _ else _) _ _ s
  rw [if_pos hyes]
  unfold Builtin.Tuple.tupleIsExact
  refine wpAny_bind (wpAny_bind (wpAny_typeOf ht.typeIs (wpAny_pure ?_)))
  rw [if_pos (by decide)]
  exact wpAny_bind (wpAny_rule (wpAny_pure ⟨_, rfl, wpAny_pure h⟩))
end
end HT
namespace L2
open PySem PySem.Spec PyProof.Rows
section
variable {X : Cx}
noncomputable def rSlTW (K : PySem.W.Frag) : V → Option Int → Option Int → Hp → VK → Prop := fun x lo hi H Q => ∃ a xs, x = .ref a ∧ SqT K H a xs ∧ (HT.sIx xs.length 0 lo = 0 ∧ HT.sIx xs.length xs.length hi = xs.length) ∧ Q (.ref a) H
theorem sl_tupW : SlR X (rSlTW X.K) := by
  intro pins s σ H x v vl vu lo hi sl Q I rx hs pl pu h
  obtain ⟨a, xs, rfl, hx, hw, q⟩ := h
  cases rx
  obtain ⟨its, r, ht, hz⟩ := I.tuple hx
  have hlen : its.toArray.size = xs.length := by rw [List.size_toArray]; exact r.length.symm
  exact ⟨"tuple", _, PyProof.Rows.slot_tuple_getitem.lookup, ht.typeIs, HT.getItem_tuple_whole ht hs pl pu (by rw [hlen]; exact hw) ⟨.ref a, H, I, rfl, q⟩⟩
noncomputable def rCatT0 (K : PySem.W.Frag) : R2 := fun x y H Q => ∃ a b ys, x = .ref a ∧ y = .ref b ∧ SqT K H a [] ∧ SqT K H b ys ∧ Q (.ref b) H
theorem op_catT0 : OpR X (binaryOp .Add) (rCatT0 X.K) := by
  intro pins s σ H x y v u Q I rx ry h
  obtain ⟨a, b, ys, rfl, rfl, ha, hb, q⟩ := h
  cases rx
  cases ry
  obtain ⟨its, r1, p1, _⟩ := I.tuple ha
  obtain ⟨its2, r2, p2, _⟩ := I.tuple hb
  have e : its = [] := r1.zero
  subst e
  obtain ⟨⟨cls, dd, data, sl⟩, ho, hc, n, hd⟩ := id p1
  obtain ⟨⟨cls2, dd2, data2, sl2⟩, ho2, hc2, n2, hd2⟩ := id p2
  simp only at hc hd hc2 hd2
  subst hc hd hc2 hd2
  exact concat_meets ⟨_, ho, rfl⟩ ⟨_, ho2, rfl⟩ noFill_tuple_add seq_tuple_add PySem.F.slot_tuple_add PySem.F.entry_tuple_add (PySem.F.args_tuple_add_2 _ _)
    (tuple_addW0 a b _ its2.toArray n n2 dd dd2 sl sl2 rfl) ⟨ho, ho2, ⟨.ref b, H, I, rfl, q⟩⟩
noncomputable def repS (x : Str) (n : Int) : Str := ⟨(List.replicate n.toNat x.cps).foldl (· ++ ·) #[]⟩
noncomputable def rMulS : R2 := fun x y H Q => ∃ z n, x = .str z ∧ y = .int n ∧ -(2 ^ 62) ≤ n ∧ n < 2 ^ 62 ∧ z.length * n.toNat ≤ sizeLine ∧ Q (.str (repS z n)) H
theorem op_mulS : OpR X (binaryOp .Mult) rMulS := by
  intro pins s σ H x y v u Q I rx ry h
  obtain ⟨z, n, rfl, rfl, h1, h2, hz, q⟩ := h
  obtain ⟨t, rfl⟩ := rx
  obtain ⟨t', rfl⟩ := ry
  have fin : ∀ t'' k, EP X pins σ Q (.str (repS z n) t'') { s with toks := k } := fun t'' k => ⟨.str _, H, I.tok k, ⟨t'', rfl⟩, q⟩
  have hsl : (sizeLine : Nat) < 2 ^ 40 := by decide
  have hdiv : ¬ n < 1 → ¬ ((z.length : Int) > (2 ^ 63 - 1) / n) := by
    intro hn
    have hn' : 0 < n := by omega
    have : (z.length : Int) * n ≤ 2 ^ 63 - 1 := by
      have e : n = (n.toNat : Int) := by omega
      rw [e]
      have : ((z.length * n.toNat : Nat) : Int) ≤ 2 ^ 40 := by exact_mod_cast (by omega : z.length * n.toNat ≤ 2 ^ 40)
      rw [Int.natCast_mul] at this
      omega
    exact Int.not_lt.mpr ((Int.le_ediv_iff_mul_le hn').mpr this)
  refine PySem.P.mul_str (by rw [decide_eq_false (by omega), decide_eq_false (by omega)]; rfl) (fun hn _ => hdiv hn) (fun _ _ => ?_) ?_
  · show decide (z.length * n.toNat > sizeLine) = false
    exact decide_eq_false (by omega)
  · by_cases hn : n < 1
    · rw [if_pos hn]
      have e : repS z n = Str.empty := by
        unfold repS
        rw [show n.toNat = 0 by omega]
        rfl
      refine ⟨by decide, ?_⟩
      rw [← e]
      exact fin _ _
    · rw [if_neg hn]
      by_cases h3 : (n == 1 || z.length == 0) = true
      · rw [if_pos h3]
        have e : repS z n = z := by
          rw [Bool.or_eq_true] at h3
          rcases h3 with h3 | h3
          · have : n = 1 := eq_of_beq h3
            subst this
            unfold repS
            show (⟨#[] ++ z.cps⟩ : Str) = z
            rw [Array.empty_append]
          · have h3 : z.length = 0 := eq_of_beq h3
            have hz0 : z.cps = #[] := Array.eq_empty_of_size_eq_zero h3
            have : ∀ k : Nat, (List.replicate k (#[] : Array Nat)).foldl (· ++ ·) #[] = #[] := by
              intro k
              induction k with
              | zero => rfl
              | succ k ih => rw [List.replicate_succ, List.foldl_cons]; exact ih
            unfold repS
            rw [hz0, this]
            cases z
            simp at hz0
            rw [hz0]
        have := fin t s.toks
        rw [e] at this
        exact this
      · rw [if_neg h3]
        have hl2 : ∀ (k : Nat) (acc : Array Nat), ((List.replicate k z.cps).foldl (· ++ ·) acc).size = acc.size + k * z.cps.size := by
          intro k
          induction k with
          | zero => intro acc; simp
          | succ k ih => intro acc; rw [List.replicate_succ, List.foldl_cons, ih, Array.size_append, Nat.succ_mul]; omega
        refine ⟨?_, fin _ _⟩
        show ((List.replicate n.toNat z.cps).foldl (· ++ ·) #[]).size ≤ _
        rw [hl2]
        have : z.length = z.cps.size := rfl
        rw [this, Nat.mul_comm] at hz
        simpa using hz
theorem noFill_tup_mul : fillsNumberSlot (.type "tuple") "mul" = pure false :=
  PySem.fillsNumberSlot_seq (id := "tuple.__mul__") (r := some (.builtin "tuple.__rmul__")) PySem.F.slot_tuple_mul.lookup (by decide +kernel) PySem.F.slot_tuple_rmul.lookup (by decide +kernel)
theorem repeat_tup : seqRepeat? (.type "tuple") = pure (some (.builtin "tuple.__mul__")) := by
  unfold seqRepeat?
  rw [PySem.seqSlot_of (T := "tuple") (name := "__mul__") (id := "tuple.__mul__") PySem.F.slot_tuple_mul.lookup (by decide +kernel), PySem.seqSlot_of (T := "tuple") (name := "__rmul__") (id := "tuple.__rmul__") PySem.F.slot_tuple_rmul.lookup (by decide +kernel)]
  rfl
theorem rmul_int_tup (a : Int) (t : Tok) (l : Addr) (items : Array Value) (n : Nat) (dd : Option Addr) (sl : Array (Option Value)) :
    Meets (Builtin.«int.__rmul__» ⟨[.int a t, .ref l], []⟩) (fun _ R s => s.heap.get? l = some { cls := .type "tuple", dict := dd, data := .seq items n, slots := sl } ∧ R (.ok (.ret Value.notImplemented)) s) :=
  .of_wp fun prog w A R s h => by
    obtain ⟨hp, g, d, tk, os⟩ := s
    obtain ⟨hl, h⟩ := h
    wp_walk
    exact ⟨_, rfl, h⟩
theorem tup_mulW (l : Addr) (items : Array Value) (n : Nat) (dd : Option Addr) (sl : Array (Option Value)) (k : Int) (t : Tok) (h2 : 2 ≤ k) (h3 : k < 2 ^ 62) (he : items.isEmpty = false) (hsz : items.size * k.toNat ≤ sizeLine) :
    Meets (Builtin.«tuple.__mul__» ⟨[.ref l, .int k t], []⟩) (fun _ R s => s.heap.get? l = some { cls := .type "tuple", dict := dd, data := .seq items n, slots := sl } ∧ R (.ok (.ret (Value.ref s.heap.objs.size))) { s with heap := s.heap.push { cls := .type "tuple", data := .seq ((List.replicate k.toNat items).foldl (· ++ ·) #[]) } }) :=
  .of_wp fun prog w A R s h => by
    obtain ⟨hp, g, d, tk, os⟩ := s
    obtain ⟨hl, h⟩ := h
    have f1 := AutoSeq1.idx_int
    have c1 : ¬ ((decide (k < -(2 ^ 63 : Int)) || decide (k ≥ 2 ^ 63)) = true) := by
      rw [decide_eq_false (by omega), decide_eq_false (by omega)]; exact Bool.false_ne_true
    have c2 : ¬ ((items.isEmpty || k == 1) = true) := by
      rw [he, beq_eq_false_iff_ne.mpr (by omega)]; exact Bool.false_ne_true
    have c3 : ¬ ((decide (k ≤ 0) || items.isEmpty) = true) := by
      rw [he, decide_eq_false (by omega)]; exact Bool.false_ne_true
    have hk : ((items.size : Int) * k) = ((items.size * k.toNat : Nat) : Int) := by
      rw [Int.natCast_mul]; congr 1; omega
    have hb : (sizeLine : Nat) < 2 ^ 40 := by decide
    have c4 : ¬ ((items.size : Int) * k > (2 ^ 63 - 1) / 8) := by
      rw [hk]; omega
    have c5 : ¬ (Builtin.Tuple.tupleTooMany ((items.size : Int) * k) = true) := by
      rw [hk]
      unfold Builtin.Tuple.tupleTooMany
      simp only [decide_eq_true_eq]
      omega
    have hsz2 : ∀ (m : Nat) (acc : Array Value), ((List.replicate m items).foldl (· ++ ·) acc).size = acc.size + m * items.size := by
      intro m
      induction m with
      | zero => intro acc; simp
      | succ m ih => intro acc; rw [List.replicate_succ, List.foldl_cons, ih, Array.size_append, Nat.succ_mul]; omega
    have htake : sizeOk (.seq ((List.replicate k.toNat items).foldl (· ++ ·) #[])) := by
      show ((List.replicate k.toNat items).foldl (· ++ ·) #[]).size ≤ sizeLine
      rw [hsz2, Nat.mul_comm]
      simpa using hsz
    wp_walk
    rw [if_neg c1]
    show wpAny _ _ (Builtin.Tuple.tupleItemsOf (.ref l) >>= _) _ _ _
    refine wpAny_bind (tupleItemsOf_ ⟨_, hl, rfl, n, rfl⟩ ?_)
    dsimp only
    rw [if_neg c2, if_neg c3]
    rw [if_neg c4, if_neg c5]
    exact wpAny_bind (m := Builtin.Tuple.tupleExact _) (wpAny_newObj_type (wpAny_pure ⟨_, rfl, h⟩) htake)
noncomputable def rMulT (K : PySem.W.Frag) : R2 := fun x y H Q => ∃ a xs k, x = .ref a ∧ y = .int k ∧ SqT K H a xs ∧ xs ≠ [] ∧ 2 ≤ k ∧ k < 2 ^ 62 ∧ xs.length * k.toNat ≤ sizeLine ∧ ∀ p, H p = none → Q (.ref p) (upd H p (.tup (List.replicate k.toNat xs).flatten))
theorem op_mulT : OpR X (binaryOp .Mult) (rMulT X.K) := by
  intro pins s σ H x y v u Q I rx ry h
  obtain ⟨a, xs, k, rfl, rfl, ha, hx, h2, h3, hz, q⟩ := h
  cases rx
  obtain ⟨t, rfl⟩ := ry
  obtain ⟨its, r1, p1, _⟩ := I.tuple ha
  obtain ⟨⟨cls, dd, data, sl⟩, ho, hc, n, hd⟩ := id p1
  simp only at hc hd
  subst hc hd
  have hl := r1.length
  have he : its.toArray.isEmpty = false := by
    cases its with
    | nil => exact absurd (r1.nil_iff.mp rfl) hx
    | cons a b => rfl
  have hlen : its.toArray.size * k.toNat ≤ sizeLine := by rw [List.size_toArray, ← hl]; exact hz
  have hnew : (List.replicate k.toNat its.toArray).foldl (· ++ ·) #[] = (List.replicate k.toNat its).flatten.toArray := by
    have := foldl_rep its k.toNat []
    rw [List.nil_append] at this
    exact this
  refine wpAny_binaryOp_repeat_ref (T := "tuple") (U := "int") (by decide) ⟨_, ho, rfl⟩ (fun s' => typeIs_int s' k t) noFill_tup_mul F.fills_int_mul F.slot_int_rmul repeat_tup F.slot_int_index.lookup
    (call_meets F.slot_int_rmul (typeIs_int s k t) F.entry_int_rmul (F.args_int_rmul_2 _ _) (rmul_int_tup k t a its.toArray n dd sl)
      ⟨ho, rfl, ⟨_, ho, rfl⟩, call_meets F.slot_tuple_mul ⟨_, ho, rfl⟩ F.entry_tuple_mul (F.args_tuple_mul_2 _ _) (tup_mulW a its.toArray n dd sl k t h2 h3 he hlen) ⟨ho, ?_⟩⟩)
  rw [hnew]
  refine ⟨.ref s.heap.objs.size, _, I.laid (t' := s.toks) (o := .tup (List.replicate k.toNat xs).flatten) (fun b ob q => Heap.get?_push_of_some _ q) (Nat.le_refl _) ?_, rfl, q _ (I.hok.fresh (Nat.le_refl _))⟩
  exact ⟨by rw [len_rep, Nat.mul_comm]; exact hz, _, r1.rep k.toNat, IsTupN.new _ _⟩
end
end L2
namespace DL
open PySem PySem.Spec PyProof.Rows L2
section
variable {X : Cx} {pins : List (Addr × Obj)} {σ : St} {H : Hp} {s : Shared}
end
end DL
namespace DL
open PySem PySem.Spec PyProof.Rows L2
section
variable {X : Cx} {pins : List (Addr × Obj)} {σ : St} {H : Hp} {s : Shared}
end
section
variable {X : Cx} {K : PySem.W.Frag} {e a b : Expr} {es : List Expr} {pos p : Pos} {g ga gb : Ds → Option D} {gA : Ds → Option (List D)}
theorem op2_addA : Op2 K (fun x y H Q => rI0 (fun i j => .int (i + j)) x y H Q ∨ (∃ i j, x = .str i ∧ y = .str j ∧ i.length + j.length ≤ sizeLine ∧ Q (.str (i ++ j)) H) ∨ rCatL K x y H Q ∨ rCatT K x y H Q ∨ rCatT0 K x y H Q) addA := by
  intro H B x y dx dy d Q hb rx ry h k
  cases dx <;> cases dy <;> simp only [addA] at h <;> try cases h
  · rw [rp_int] at rx ry
    subst rx ry
    exact .inl ⟨_, _, rfl, rfl, k _ H (Same.refl H) (by rw [rp_int])⟩
  · split at h
    · cases h
      rw [rp_str] at rx ry
      subst rx ry
      exact .inr (.inl ⟨_, _, rfl, rfl, by assumption, k _ H (Same.refl H) (by rw [rp_str])⟩)
    · cases h
  · split at h
    · rename_i hz
      cases h
      have ry0 := ry
      have rx0 := rx
      rw [rp_tup] at rx ry
      obtain ⟨a, xs, rfl, q1, r1⟩ := rx
      obtain ⟨b, ys, rfl, q2, r2⟩ := ry
      by_cases he : xs = []
      · subst he
        have e : ‹List D› = ‹List D› := rfl
        have hn := r1.length
        simp at hn
        have hn' := List.length_eq_zero_iff.mp hn.symm
        subst hn'
        exact .inr (.inr (.inr (.inr ⟨a, b, ys, rfl, rfl, q1.to, q2.to, k _ H (Same.refl H) (by rw [List.nil_append]; exact ry0)⟩)))
      · refine .inr (.inr (.inr (.inl ⟨a, b, xs, ys, rfl, rfl, q1.to, q2.to, he, by rw [r1.length, r2.length]; exact hz, fun z => ?_, fun z p hp => k _ _ (same_upd hp) (rp_newT hb hp (r1.append r2))⟩)))
        subst z
        have hn := r2.length
        simp at hn
        have hn' := List.length_eq_zero_iff.mp hn.symm
        subst hn'
        exact k _ H (Same.refl H) (by rw [List.append_nil]; exact rx0)
    · cases h
  · split at h
    · rename_i hz
      cases h
      rw [rp_lst] at rx ry
      obtain ⟨a, xs, rfl, q1, r1⟩ := rx
      obtain ⟨b, ys, rfl, q2, r2⟩ := ry
      exact .inr (.inr (.inl ⟨a, b, xs, ys, rfl, rfl, q1.to, q2.to, by rw [r1.length, r2.length]; exact hz, fun p hp => k _ _ (same_upd hp) (rp_newL hb hp (r1.append r2))⟩))
    · cases h
theorem pd_addA (ha : PD X a ga) (hb : PD X b gb) : PD X (.BinOp a .Add b pos) (o2 ga gb addA) := pd_op (op_add.or (op_add_str.or (op_catL.or (op_catT.or op_catT0)))) op2_addA ha hb
theorem rps_rep {H : Hp} {B : BS} {ds : List D} {xs : List V} (h : Rps K H B ds xs) : ∀ k : Nat, Rps K H B (List.replicate k ds).flatten (List.replicate k xs).flatten
  | 0 => by simp [rps_nil]
  | k + 1 => by
    rw [List.replicate_succ, List.replicate_succ, List.flatten_cons, List.flatten_cons]
    exact h.append (rps_rep h k)
theorem op2_mulA : Op2 K (fun x y H Q => rI CMul (fun i j => .int (i * j)) x y H Q ∨ rMulS x y H Q ∨ rMulT K x y H Q) mulA := by
  intro H B x y dx dy d Q hb rx ry h k
  cases dx <;> cases dy <;> simp only [mulA] at h <;> try cases h
  · split at h
    · cases h
      rw [rp_int] at rx ry
      subst rx ry
      exact .inl ⟨_, _, rfl, rfl, by assumption, k _ H (Same.refl H) (by rw [rp_int])⟩
    · cases h
  · split at h
    · rename_i hz
      cases h
      rw [rp_str] at rx
      rw [rp_int] at ry
      subst rx ry
      exact .inr (.inl ⟨_, _, rfl, rfl, hz.1, hz.2.1, hz.2.2, k _ H (Same.refl H) (by rw [rp_str]; rfl)⟩)
    · cases h
  · split at h
    · rename_i hz
      cases h
      rw [rp_tup] at rx
      rw [rp_int] at ry
      subst ry
      obtain ⟨a, xs, rfl, q1, r1⟩ := rx
      refine .inr (.inr ⟨a, xs, _, rfl, rfl, q1.to, fun z => hz.1 ?_, hz.2.1, hz.2.2.1, by rw [r1.length]; exact hz.2.2.2, fun p hp => k _ _ (same_upd hp) (rp_newT hb hp (rps_rep r1 _))⟩)
      subst z
      have hn := r1.length
      simp at hn
      exact List.length_eq_zero_iff.mp hn.symm
    · cases h
theorem pd_mulA (ha : PD X a ga) (hb : PD X b gb) : PD X (.BinOp a .Mult b pos) (o2 ga gb mulA) := pd_op (op_mul.or (op_mulS.or op_mulT)) op2_mulA ha hb
theorem cut_whole {xs : List D} {lo hi : Option Int} (h : sIx xs.length 0 lo = 0 ∧ sIx xs.length xs.length hi = xs.length) : cutD xs lo hi = xs := by
  unfold cutD
  rw [h.1, h.2]
  simp
theorem pd_sliceA {lo hi : Option Expr} {gl gh : Ds → Option (Option Int)} {p2 : Pos} (he : PD X e g) (hl : PDO X lo gl) (hh : PDO X hi gh) :
    PD X (.Subscript e (.Slice lo hi none p2) pos) (slAG g gl gh) := .mk fun B δ =>
  (pe_slice (sl_str.or (sl_list.or (sl_tup.or sl_tupW))) (he B δ) (hl B δ) (hh B δ)).imp fun σ H Q ⟨d, en, h, k⟩ => by
    unfold slAG at h
    cases e1 : g δ with
    | none => rw [e1] at h; cases h
    | some x =>
      cases e2 : gl δ with
      | none => rw [e1, e2] at h; cases h
      | some l =>
        cases e3 : gh δ with
        | none => rw [e1, e2, e3] at h; cases h
        | some u =>
          rw [e1, e2, e3] at h
          simp only [Option.bind_some] at h
          refine ⟨x, en, e1, fun v H1 s1 r1 => ⟨l, en.same s1, (by first | exact e2 | rfl), fun H2 s2 => ⟨u, (en.same s1).same s2, (by first | exact e3 | rfl), fun H3 s3 => ?_⟩⟩⟩
          have S := (s1.trans s2).trans s3
          have r3 := (r1.same s2).same s3
          have hb := (((en.same s1).same s2).same s3).bad
          cases x <;> simp only [slA] at h <;> try cases h
          · split at h
            · cases h
              rw [rp_str] at r3
              exact .inl ⟨_, r3, by assumption, k _ H3 S (by rw [rp_str])⟩
            · cases h
          · have r4 := r3
            rw [rp_tup] at r3
            obtain ⟨a, xs, rfl, q, r⟩ := r3
            rename_i dxs
            by_cases hw : sIx dxs.length 0 l = 0 ∧ sIx dxs.length dxs.length u = dxs.length
            · refine .inr (.inr (.inr ⟨a, xs, rfl, q.to, by rw [r.length, sIx_eq, sIx_eq]; exact hw, k _ _ S ?_⟩))
              rw [cut_whole hw]
              exact r4
            · exact .inr (.inr (.inl ⟨a, xs, rfl, q.to, by rw [r.length, sIx_eq, sIx_eq]; exact hw, fun p hp => k _ _ (S.trans (same_upd hp)) (rp_newT hb hp (cut_rel r l u))⟩))
          · rw [rp_lst] at r3
            obtain ⟨a, xs, rfl, q, r⟩ := r3
            exact .inr (.inl ⟨a, xs, rfl, q.to, fun p hp => k _ _ (S.trans (same_upd hp)) (rp_newL hb hp (cut_rel r l u))⟩)
theorem fn_int : FnR K (fun xs H Q => (∃ i, xs = [.int i] ∧ Q (.int i) H) ∨ ∃ k, xs = [.bl k] ∧ Q (.int (if k then 1 else 0)) H) intOfD := by
  intro H B xs ds d Q hb r h k
  unfold intOfD at h
  split at h
  · cases h
    obtain ⟨v, rfl, r1⟩ := rps_one r
    rw [rp_int] at r1
    subst r1
    exact .inl ⟨_, rfl, k _ H (Same.refl H) (by rw [rp_int])⟩
  · cases h
    obtain ⟨v, rfl, r1⟩ := rps_one r
    rw [rp_bl] at r1
    subst r1
    exact .inr ⟨_, rfl, k _ H (Same.refl H) (by rw [rp_int])⟩
  · cases h
theorem fn_list : FnR K (fun xs H Q => ∃ p ys, xs = [.ref p] ∧ (SqL K H p ys ∨ SqT K H p ys) ∧ ∀ l, H l = none → Q (.ref l) (upd H l (.lst ys))) lstOfD := by
  intro H B xs ds d Q hb r h k
  unfold lstOfD at h
  split at h
  · cases h
    obtain ⟨v, rfl, r1⟩ := rps_one r
    rw [rp_lst] at r1
    obtain ⟨a, ys, rfl, q, rr⟩ := r1
    exact ⟨a, ys, rfl, .inl q.to, fun l hl => k _ _ (same_upd hl) (rp_newL hb hl rr)⟩
  · cases h
    obtain ⟨v, rfl, r1⟩ := rps_one r
    rw [rp_tup] at r1
    obtain ⟨a, ys, rfl, q, rr⟩ := r1
    exact ⟨a, ys, rfl, .inr q.to, fun l hl => k _ _ (same_upd hl) (rp_newL hb hl rr)⟩
  · cases h
end
end DL
namespace SetS
open PySem PySem.Spec PyProof.Rows DL
section
variable {prog : Program} {w : World} {A : Around} {R : Result → Shared → Prop} {I : Addr} {fp wr : List Addr} {G : Array GenState → Array GenState → Prop} {P : Nat → Value → Prop} {St : Nat → Shared → Prop}
end
section
variable {prog : Program} {w : World} {A : Around} {E : Value → Shared → Prop} {s : Shared}
end
end SetS
namespace DL
open PySem PySem.Spec PyProof.Rows L2
section
variable {X : Cx} {K : PySem.W.Frag} {e a b : Expr} {es : List Expr} {pos p pos2 p2 : Pos} {g ga gb : Ds → Option D} {gA : Ds → Option (List D)}
end
end DL
namespace DL
open PySem PySem.Spec PyProof.Rows
@[simp] noncomputable def catD : D → D → Option D
  | .lst xs, .lst ys => if xs.length + ys.length ≤ sizeLine then some (.lst (xs ++ ys)) else none
  | _, _ => none
theorem tup_of {gA : GA} {δ : Ds} {ds : List D} (h : gA δ = some ds) (hl : ds.length ≤ sizeLine) : tupG gA δ = some (.tup ds) := by
  unfold tupG
  rw [h, Option.bind_some, if_pos hl]
theorem lst_of {gA : GA} {δ : Ds} {ds : List D} (h : gA δ = some ds) (hl : ds.length ≤ sizeLine) : lstG gA δ = some (.lst ds) := by
  unfold lstG
  rw [h, Option.bind_some, if_pos hl]
theorem rng_mem {n : Int} {d : D} (h : d ∈ rngD 0 n) : ∃ k : Nat, (k : Int) < n ∧ d = .int (k : Int) := by
  obtain ⟨k, hk, rfl⟩ := List.mem_map.mp h
  have := List.mem_range.mp hk
  exact ⟨k, by omega, by rw [Int.zero_add]⟩
theorem rng_map {α : Type} (f : D → α) (n : Int) : (rngD 0 n).map f = (List.range n.toNat).map fun (k : Nat) => f (.int (k : Int)) := by
  unfold rngD
  rw [List.map_map]
  have : n - 0 = n := by omega
  rw [this]
  refine List.map_congr_left fun k _ => ?_
  show f (.int (0 + (k : Int))) = _
  rw [Int.zero_add]
theorem rng_len (n : Int) : (rngD 0 n).length = n.toNat := by unfold rngD; simp
theorem rng_get {n : Int} {j : Nat} {d : D} (h : (rngD 0 n)[j]? = some d) : j < n.toNat ∧ d = .int (j : Int) := by
  have hj : j < n.toNat := by
    have := (List.getElem?_eq_some_iff.mp h).1
    rwa [rng_len] at this
  refine ⟨hj, ?_⟩
  unfold rngD at h
  rw [List.getElem?_map, List.getElem?_range (by simpa using hj)] at h
  have := Option.some.inj h
  rw [← this]
  show D.int (0 + (j : Int)) = _
  rw [Int.zero_add]
theorem comp_rng {gt : GB} {ge : GE} {δ : Ds} {n : Int} (h : Nat → D) (H : ∀ k : Nat, (k : Int) < n → ∃ δ', gN 0 (.int (k : Int)) δ = some δ' ∧ gt δ' = some true ∧ ge δ' = some (h k)) :
    compD (gN 0) gt ge δ (rngD 0 n) = some ((List.range n.toNat).map h) := by
  rw [compD_map (fun d => match d with | .int j => h j.toNat | _ => .non) (fun d hd => by
    obtain ⟨k, hk, rfl⟩ := rng_mem hd
    exact H k hk), rng_map]
  rfl
end DL
namespace DL
open PySem PySem.Spec PyProof.Rows L2
section
variable {X : Cx} {K : PySem.W.Frag} {e a b : Expr} {es : List Expr} {pos p pos2 p2 : Pos} {g ga gb : Ds → Option D} {gA : Ds → Option (List D)}
theorem pdf_cat (ha : PD X a ga) (hb : PD X b gb) : PDF X (.BinOp a .Add b pos) (o2 ga gb catD) := .mk fun B δ => (pe_op op_catL (ha B δ) (hb B δ)).imp fun σ H Q ⟨d, en, h, k⟩ => by
  unfold o2 at h
  cases e1 : ga δ with
  | none => rw [e1] at h; cases h
  | some x =>
    cases e2 : gb δ with
    | none => rw [e1, e2] at h; cases h
    | some y =>
      rw [e1, e2] at h
      simp only [Option.bind_some] at h
      refine ⟨x, en, e1, fun v1 H1 s1 r1 => ⟨y, en.same s1, e2, fun v2 H2 s2 r2 => ?_⟩⟩
      cases x <;> cases y <;> simp only [catD] at h <;> try cases h
      split at h
      · rename_i hz
        cases h
        have r1 := r1.same s2
        rw [rp_lst] at r1 r2
        obtain ⟨a, xs, rfl, q1, r1⟩ := r1
        obtain ⟨b, ys, rfl, q2, r2⟩ := r2
        exact ⟨a, b, xs, ys, rfl, rfl, q1.to, q2.to, by rw [r1.length, r2.length]; exact hz, fun p hp => k p _ ((s1.trans s2).free hp) ((s1.trans s2).trans (same_upd hp)) ⟨_, upd_same, (r1.append r2).mono (Gr.fresh hp)⟩⟩
      · cases h
theorem pdf_list {x : Str} (hm : X.mg x = none) (hv : bootBuiltins x = some (.type "list")) (ha : PD X e g) (hg : Gl X x := by rfl)
    (hn : x ≠ "__name__" := by decide) (hdb : (x == ("__debug__" : Str)) = false := by decide) (he : starEach [e] X.env = (false, eval e X.env) :: starEach [] X.env := by rfl) (hpl : (backTo pos (starEach [] X.env)).any (·.1) = false := by rfl) :
    PDF X (.Call (.Name x p) [e] [] pos) (oA (consA g nilA) lstOfD) := .mk fun B δ => (pe_callTy call_list_of hg hm hv (pa_cons (ha B δ) pa_nil he) hn hdb he hpl).imp fun σ H Q ⟨d, en, h, k⟩ => by
  unfold oA consA nilA at h
  cases e1 : g δ with
  | none => rw [e1] at h; cases h
  | some x =>
    rw [e1] at h
    simp only [Option.bind_some, Option.map_some] at h
    refine ⟨x, en, e1, fun v H1 s1 r1 => ?_⟩
    cases x <;> simp only [lstOfD] at h <;> try cases h
    · rw [rp_tup] at r1
      obtain ⟨q, xs, rfl, hq, rr⟩ := r1
      exact ⟨q, xs, rfl, .inr hq.to, fun l hl => k l _ (s1.free hl) (s1.trans (same_upd hl)) ⟨_, upd_same, rr.mono (Gr.fresh hl)⟩⟩
    · rw [rp_lst] at r1
      obtain ⟨q, xs, rfl, hq, rr⟩ := r1
      exact ⟨q, xs, rfl, .inl hq.to, fun l hl => k l _ (s1.free hl) (s1.trans (same_upd hl)) ⟨_, upd_same, rr.mono (Gr.fresh hl)⟩⟩
end
end DL
namespace DL
open PySem PySem.Spec PyProof.Rows L2
section
variable {X : Cx} {e : Expr} {es : List Expr} {pos p : Pos} {g : Ds → Option D} {gA : Ds → Option (List D)}
noncomputable def FnN (P : Program) (w : World) (K : PySem.W.Frag) (mg : Str → Option Value) (base : Heap) (x : Str) (k : Nat) (ps : List Str) (f : List D → Option D) : Prop :=
  ∃ (fa : Addr) (fd : FuncData), FnOk P w K mg base CX0 k fa fd ps (spN K f) ∧ mg x = some (.ref fa) ∧ PySem.W.keepIn K (.ref fa) = true ∧ Binds K fd ps []
theorem pdf_fn {k m : Nat} {ps : List Str} {x : Str} {f : List D → Option D} (C : FnN X.prog X.w X.K X.mg X.base x k ps f) (hr : Room m X.A) (hk : k ≤ m) (ha : PDA X (e :: es) gA) (hg : Gl X x := by rfl) (hdb : (x == ("__debug__" : Str)) = false := by decide)
    (he : starEach (e :: es) X.env = (false, eval e X.env) :: starEach es X.env := by rfl) (hpl : (backTo pos (starEach es X.env)).any (·.1) = false := by rfl) : PDF X (.Call (.Name x p) (e :: es) [] pos) (oA gA f) := by
  obtain ⟨fa, fd, F, hm, kp, hb⟩ := C
  exact .mk fun B δ => (pe_call (E := E0) F (hr.mono hk) hg hm kp hb .nil pass0 (ha B δ) hdb he hpl).imp fun σ H Q h => by
    obtain ⟨d, en, h, k⟩ := h
    unfold oA at h
    cases e1 : gA δ with
    | none => rw [e1] at h; cases h
    | some ds =>
      rw [e1] at h
      refine ⟨ds, en, e1, fun vs H1 s1 r1 => ?_⟩
      show spN X.K f (vs ++ []) H1 Q E0
      rw [List.append_nil]
      exact ⟨B, ds, d, (en.same s1).bad, r1, h, fun p H' hp s r => k p H' (s1.free hp) (s1.trans s) r⟩
theorem pd_fnN {k m : Nat} {ps : List Str} {x : Str} {f : List D → Option D} (C : FnN X.prog X.w X.K X.mg X.base x k ps f) (hr : Room m X.A) (hk : k ≤ m) (ha : PDA X (e :: es) gA) (hg : Gl X x := by rfl) (hdb : (x == ("__debug__" : Str)) = false := by decide)
    (he : starEach (e :: es) X.env = (false, eval e X.env) :: starEach es X.env := by rfl) (hpl : (backTo pos (starEach es X.env)).any (·.1) = false := by rfl) : PD X (.Call (.Name x p) (e :: es) [] pos) (oA gA f) := (pdf_fn C hr hk ha hg hdb he hpl).pd
theorem psd_retF (h : PDF X e g) : PSD X (.Return (some e) pos) (retF g) := .mk fun H₀ B₀ δ pins s σ H D I ⟨r, en, e1, k⟩ => by
  unfold retF at e1
  obtain ⟨B, b1, b2, env⟩ := en.ex
  cases e2 : g δ with
  | none => rw [e2] at e1; cases e1
  | some d =>
    rw [e2] at e1
    cases e1
    exact ps_ret (h B δ) pins s σ H D I ⟨d, env, e2, fun p H' hp s' r => k p H' (en.same.free hp) (en.same.trans s') (r.mono (fun o h => h) (Gr.less fun a z => z.imp (b1 a) id)).toL⟩
theorem psd_retO (i : Nat) {x : Str} {px : Pos} (hN : X.N[i]? = some x := by rfl) (hv : Vis X.env.scope x := by first | exact Or.inl rfl | exact Or.inr (Or.inl rfl) | exact Or.inr (Or.inr rfl)) (hd : (x == ("__debug__" : Str)) = false := by decide) (hcd : (x == ("__classdict__" : Str)) = false := by decide) :
    PSD X (.Return (some (.Name x px)) pos) (retO i) := .mk fun H₀ B₀ δ pins s σ H D I ⟨r, en, e1, k⟩ => by
  unfold retO at e1
  obtain ⟨B, b1, b2, env⟩ := en.ex
  split at e1
  · rename_i d hi
    obtain ⟨a, hs, hb, ro⟩ := env.at hi
    cases e1
    exact ps_ret (pe_var (i := i) hN hv hd hcd) pins s σ H D I ⟨_, hs, k a H (en.fr i d a hi hs) en.same (ro.mono (fun o h => h) (Gr.less fun b z => z.elim (b1 b) fun q => by rw [q]; exact hb))⟩
  · cases e1
end
end DL
namespace DL
open PySem
@[simp] noncomputable def revD : List D → Option D
  | [.lst ds] => some (.lst ds.reverse)
  | _ => none
@[simp] noncomputable def asSeq : D → Option (List D)
  | .lst ds => some ds
  | .tup ds => some ds
  | _ => none
@[simp] noncomputable def anyI (g : GE) : GA := fun δ => (g δ).bind asSeq
mutual
noncomputable def tree : D → Bool
  | .lst _ => false
  | .dct _ _ => false
  | .tup ds => trees ds
  | _ => true
noncomputable def trees : List D → Bool
  | [] => true
  | d :: ds => tree d && trees ds
end
noncomputable def borT (g : GE) : GE := fun δ => (g (frz δ)).bind fun d => if tree d = true then some d else none
theorem borT_of {g : GE} {δ : Ds} {d : D} (h : g (frz δ) = some d) (ht : tree d = true) : borT g δ = some d := by
  unfold borT
  rw [h, Option.bind_some, if_pos ht]
theorem rng1_of {gA : GA} {δ : Ds} {n : Int} (h : gA δ = some [.int n]) (h1 : -(2 ^ 62) ≤ n) (h2 : n < 2 ^ 62) : rng1I gA δ = some (rngD 0 n) := by
  unfold rng1I
  rw [h, Option.bind_some]
  simp only [rng1D]
  rw [if_pos ⟨h1, h2⟩]
theorem len_of {g : GE} {δ : Ds} {ds : List D} (h : g δ = some (.lst ds)) : oA (consA g nilA) lenD δ = some (.int (ds.length : Int)) := by
  rw [oA_of (cons_of h rfl)]
  rfl
end DL
namespace RevL
open PySem PySem.Spec PyProof.Rows
theorem lri_no_len : typeLookup (.type "list_reverseiterator") "__len__" = pure none := by rw [typeLookup_type, builtinLookup_eq_fast]; kernel_rfl
theorem lri_hint : typeLookup (.type "list_reverseiterator") "__length_hint__" = pure (some (.builtin "list_reverseiterator.__length_hint__")) := by rw [typeLookup_type, builtinLookup_eq_fast]; kernel_rfl
theorem sub_lri : isSubtype (.type "list_reverseiterator") (.type "list_reverseiterator") = pure true := by rw [isSubtype_type]; kernel_rfl
section
variable {prog : Program} {w : World} {A : Around} {s : Shared} {R : Result → Shared → Prop}
variable {I : Addr} {fp wr : List Addr} {G : Array GenState → Array GenState → Prop} {n : Nat} {P : Nat → Value → Prop} {St : Nat → Shared → Prop}
theorem ext_rev (W : WalksS prog w A.in1 I fp wr G n P St) (hT : ∀ i s, St i s → s.TypeIs (.ref I) "list_reverseiterator") (C : Addr) (res : Value) (c0 : Nat) (st : St 0 s) (hC : C ∉ fp) (hI : I ∈ fp)
    (gC : s.heap.get? C = some { cls := .type "list", data := .seq #[] c0 })
    (hR : ∀ s' acc' c', Moved (C :: wr) G s s' → s'.heap.get? C = some { cls := .type "list", dict := none, data := .seq acc' c', slots := #[] } → ItemsOf P acc' n → R (.ok (.ret res)) s') (hn : n ≤ sizeLine) :
    wpAny (model prog w) A.in1 (Builtin.List.listExtendWith (.ref C) (.ref I) res)
      (fun fin s' => match fin with | .done f => R (.ok f) s' | .again c' => c'.quiet = true ∧ codeAny (model prog w) A c' R s') (fun e s' => R (.error e) s') s := by
  have ne : C ≠ I := fun e => hC (e ▸ hI)
  unfold Builtin.List.listExtendWith
  refine wpAny_bind (wpAny_typeOf (hT 0 _ st) (by
    have q1 : Builtin.List.listSameRef (.ref C) (.ref I) = false := by simp [Builtin.List.listSameRef, ne]
    have q2 : (Value.type "list_reverseiterator" == Value.type "list") = false := by decide
    have q3 : (Value.type "list_reverseiterator" == Value.type "tuple") = false := by decide
    simp only [q1, q2, q3, Bool.or_false, Bool.false_eq_true, if_false]
    refine wpAny_bind (W.self 0 _ _ _ st (wpAny_bind (wpAny_holding (by
      unfold Builtin.List.listLengthHint
      refine wpAny_bind (wpAny_specialOf (hT 0 _ st) lri_no_len (by
        show wpAny _ A.in1 (specialOf (Value.ref I) (Str.ofString "__length_hint__") >>= _) _ _ _
        refine wpAny_bind (wpAny_specialOf (hT 0 _ st) lri_hint ?_)
        refine wpAny_bind (wpAny_isInstance (hT 0 _ st) sub_lri ?_)
        rw [if_neg (by decide)]
        dsimp only
        rw [if_pos (by decide +kernel), if_neg (by decide)]
        refine wpAny_pure ?_
        rw [if_neg (by decide +kernel)]
        refine wpAny_pure ⟨plainId_quiet PySem.F.plain_extend_loop _, ?_⟩
        exact codeAny_extend_loopS W hn _ hC _ n 0 _ _ _ rfl (Nat.zero_le _) st gC (ItemsOf.nil P) fun s' acc' c' m e hacc => hR s' acc' c' m e hacc))))))))
theorem init_rev (W : WalksS prog w A.in1 I fp wr G n P St) (hT : ∀ i s, St i s → s.TypeIs (.ref I) "list_reverseiterator") (C : Addr) (st : St 0 s) (hC : C ∉ fp) (hI : I ∈ fp)
    (gC : s.heap.get? C = some { cls := .type "list", data := .seq #[] })
    (hR : ∀ s' acc' c', Moved (C :: wr) G s s' → s'.heap.get? C = some { cls := .type "list", dict := none, data := .seq acc' c', slots := #[] } → ItemsOf P acc' n → R (.ok (.ret .none)) s') (hn : n ≤ sizeLine) :
    wpAny (model prog w) A.in1 (Builtin.«list.__init__» ⟨[.ref C, .ref I], []⟩)
      (fun fin s' => match fin with | .done f => R (.ok f) s' | .again c' => c'.quiet = true ∧ codeAny (model prog w) A c' R s') (fun e s' => R (.error e) s') s := by
  show wpAny _ A.in1 (do let old ← Builtin.List.listItems (.ref C); Builtin.List.listUpdate (.ref C) (fun _ => #[]); letGo old.toList.reverse; Builtin.List.listExtendWith (.ref C) (.ref I) .none) _ _ s
  refine wpAny_bind (by
    unfold Builtin.List.listItems
    refine wpAny_bind (wpAny_seqItems gC rfl (wpAny_pure (by
      show wpAny _ A.in1 (updateSeq C (fun _ => #[]) >>= fun _ => letGo (#[] : Array Value).toList.reverse >>= fun _ => Builtin.List.listExtendWith (.ref C) (.ref I) .none) _ _ s
      have g2 := Heap.get?_update_self (Obj.mapSeq (fun _ => (#[] : Array Value))) gC rfl
      have oth : ∀ b o, b ≠ C → s.heap.get? b = some o → (s.heap.update C (Obj.mapSeq (fun _ => (#[] : Array Value)))).get? b = some o := fun b o hb e => (Heap.get?_update_other _ _ (Ne.symm hb)).trans e
      refine wpAny_bind (wpAny_updateSeq gC rfl (wpAny_bind (wpAny_letGo (ext_rev W hT C .none _ (W.frame 0 s _ s.toks st (Nat.le_refl _) fun b hb o e => oth b o (fun h => hC (h ▸ hb)) e) hC hI g2 (fun s' acc' c' m e hacc => ?_) hn))))
      exact hR s' acc' c' (Moved.trans W.gtrans ((Moved.refl W.grefl).then_heap (Nat.le_refl _) fun b o hb e => oth b o (fun h => hb (h ▸ List.mem_cons_self)) e) m) e hacc))))
end
section
variable {prog : Program} {w : World} {A : Around} {E : Value → Shared → Prop} {s : Shared}
variable {I : Addr} {fp wr : List Addr} {G : Array GenState → Array GenState → Prop} {n : Nat} {P : Nat → Value → Prop} {St : Nat → Shared → Prop}
theorem call_list_rev {Q : Value → Shared → Prop} (W : WalksS prog w A.in1.in1 I fp wr G n P St) (hT : ∀ i s, St i s → s.TypeIs (.ref I) "list_reverseiterator") (st : St 0 s) (hfp : ∀ b ∈ fp, b < s.heap.objs.size) (hI : I ∈ fp)
    (hQ : ∀ s' acc' c', Moved (s.heap.objs.size :: wr) G { s with heap := s.heap.push { cls := .type "list", data := .seq #[] } } s' →
      s'.heap.get? s.heap.objs.size = some { cls := .type "list", dict := none, data := .seq acc' c', slots := #[] } → ItemsOf P acc' n → Q (.ref s.heap.objs.size) s') (hn : n ≤ sizeLine) :
    wpAny (model prog w) A (call (.type "list") [.ref I]) Q E s := by
  have hC : s.heap.objs.size ∉ fp := fun z => Nat.lt_irrefl _ (hfp _ z)
  refine callType_codes (Q₁ := fun ob s1 => ob = .ref s.heap.objs.size ∧ s1 = { s with heap := s.heap.push { cls := .type "list", data := .seq #[] } }) PySem.F.called_list (PySem.F.typeCall_list_1 _) PySem.F.entry_list_init (code_list_new _ ⟨rfl, rfl⟩) fun ob s1 h1 => ?_
  obtain ⟨rfl, rfl⟩ := h1
  have gC : (s.heap.push { cls := .type "list", data := .seq #[] }).get? s.heap.objs.size = some { cls := .type "list", data := .seq #[] } := Heap.get?_push_size _ rfl
  exact ⟨⟨_, gC, rfl⟩, PySem.F.args_list_init_2 _ _, init_rev W hT _ (W.frame 0 s _ s.toks st (Nat.le_refl _) fun b _ o e => Heap.get?_push_of_some _ e) hC hI gC (fun s' acc' c' m e hacc => ⟨rfl, hQ s' acc' c' m e hacc⟩) hn⟩
theorem list_reversed {l : Addr} {its : Array Value} {Q : Value → Shared → Prop} (hh : A.handled = none) (hl : s.heap.IsList l its) (hz : its.size ≤ sizeLine)
    (h : ∀ (h' : Heap) (tk c : Nat) (a : Addr), s.heap.objs.size ≤ a → h'.get? a = some { cls := .type "list", dict := none, data := .seq its.reverse c, slots := #[] } → (∀ b o, s.heap.get? b = some o → h'.get? b = some o) → Q (.ref a) { s with heap := h', toks := tk }) :
    wpAny (model prog w) A (call (.type "reversed") [.ref l]) (fun v s1 => wpAny (model prog w) A (call (.type "list") [v]) Q E s1) E s := by
  refine call_reversed_list hl ?_
  obtain ⟨ol, gl, _, _⟩ := id hl
  have ltl : l < s.heap.objs.size := Heap.lt_size gl
  have hh2 : A.in1.in1.handled = none := by simp [hh]
  have Wk := (Walks.listRev (prog := prog) (w := w) hh2 s.heap.objs.size l (Nat.ne_of_lt ltl) its).toS
  refine call_list_rev Wk (fun i s x => x.2.1.typeIs) ⟨Nat.zero_le _, ⟨_, Heap.get?_push_size _ rfl, rfl, by
    show Data.fields #[.ref l, rawInt ((its.size : Int) - 1)] = _
    have z : (its.size : Int) - 1 - ((0 : Nat) : Int) = (its.size : Int) - 1 := by omega
    rw [z]⟩, hl.push _⟩ (fun b hb => ?_) (by simp) (fun s' acc' c' m e hacc => ?_) hz
  · show b < (s.heap.push _).objs.size
    rw [Heap.size_push]
    simp only [List.mem_cons, List.not_mem_nil, or_false] at hb
    rcases hb with rfl | rfl
    · exact Nat.lt_succ_self _
    · exact Nat.lt_succ_of_lt ltl
  · obtain ⟨h', g', d', tk', os'⟩ := s'
    obtain rfl : g' = s.gens := m.gens
    obtain rfl : d' = s.drawn := m.drawn
    obtain rfl : os' = s.os := m.os
    have ea : acc' = its.reverse := by
      apply Array.ext
      · rw [hacc.1, Array.size_reverse]
      · intro i h1 h2
        have q : its[its.size - 1 - i]? = some acc'[i] := hacc.2 i acc'[i] (Array.getElem?_eq_getElem h1)
        have hi : i < its.size := by rw [← hacc.1]; exact h1
        rw [Array.getElem?_eq_getElem (by omega)] at q
        rw [Array.getElem_reverse]
        exact (Option.some.inj q).symm
    subst ea
    have hsz : (s.heap.push (revObj l ((its.size : Int) - 1))).objs.size = s.heap.objs.size + 1 := Heap.size_push ..
    refine h h' tk' c' _ ?_ e fun b o eb => ?_
    · show s.heap.objs.size ≤ (s.heap.push _).objs.size
      rw [Heap.size_push]; exact Nat.le_succ _
    · have lb := Heap.lt_size eb
      refine m.heap b o ?_ (Heap.get?_push_of_some _ (Heap.get?_push_of_some _ eb))
      simp only [List.mem_cons, List.not_mem_nil, or_false, not_or]
      refine ⟨?_, Nat.ne_of_lt lb⟩
      show b ≠ (s.heap.push _).objs.size
      rw [Heap.size_push]; exact Nat.ne_of_lt (Nat.lt_succ_of_lt lb)
end
end RevL
namespace DL
open PySem PySem.Spec PyProof.Rows L2
theorem Rps.reverse {K : PySem.W.Frag} {H : Hp} {B : BS} : ∀ {ds : List D} {xs : List V}, Rps K H B ds xs → Rps K H B ds.reverse xs.reverse
  | [], _, h => by rw [rps_nil] at h; subst h; simp [rps_nil]
  | d :: ds, _, h => by
    rw [rps_cons] at h
    obtain ⟨x, r, rfl, h1, h2⟩ := h
    rw [List.reverse_cons, List.reverse_cons]
    exact Rps.snoc (Rps.reverse h2) h1
section
variable {X : Cx} {e : Expr} {pos p pos2 p2 : Pos} {g : Ds → Option D}
theorem b_reversed0 : bootBuiltins "reversed" = some (.type "reversed") := by decide +kernel
theorem b_list0 : bootBuiltins "list" = some (.type "list") := by decide +kernel
theorem pe_revL {te : TE} (hc : X.calm = true) (hl : X.mg "list" = none) (hs : X.mg "reversed" = none) (he : PE X e te) (hgl : Gl X "list" := by rfl) (hgs : Gl X "reversed" := by rfl)
    (e1 : starEach [.Call (.Name "reversed" p2) [e] [] pos2] X.env = (false, eval (.Call (.Name "reversed" p2) [e] [] pos2) X.env) :: starEach [] X.env := by rfl) (e2 : starEach [e] X.env = (false, eval e X.env) :: starEach [] X.env := by rfl)
    (h1 : (backTo pos (starEach [] X.env)).any (·.1) = false := by rfl) (h2 : (backTo pos2 (starEach [] X.env)).any (·.1) = false := by rfl) :
    PE X (.Call (.Name "list" p) [.Call (.Name "reversed" p2) [e] [] pos2] [] pos) (fun σ H Q => te σ H fun v H' => ∃ q xs, v = .ref q ∧ SqL X.K H' q xs ∧ ∀ l, H' l = none → Q (.ref l) (upd H' l (.lst xs.reverse))) := by
  intro pins s σ H Q I h
  refine wpAny_Call_Name_kw (ld_blt I hgl hl b_list0 ?_ (by decide) (by decide))
  refine PyProof.Rows.callWith_type1 ?_ e1 h1
  rw [e1]
  show wpAny _ _ (spliced ((false, eval (.Call (.Name "reversed" p2) [e] [] pos2) X.env) :: backTo pos (starEach [] X.env))) _ _ s
  refine Calls.spliced_cons ?_
  refine wpAny_Call_Name_kw (ld_blt I hgs hs b_reversed0 ?_ (by decide) (by decide))
  refine PyProof.Rows.callWith_type1 ?_ e2 h2
  rw [e2]
  show wpAny _ _ (spliced ((false, eval e X.env) :: backTo pos2 (starEach [] X.env))) _ _ s
  refine Calls.spliced_cons (thn (he pins s σ H _ I h) fun u s1 ⟨v, H1, I1, r1, q, xs, ev, hq, k⟩ => Calls.spliced_nil ?_)
  subst ev
  obtain rfl : u = Value.ref q := r1
  obtain ⟨its, rv, pl, hz⟩ := I1.list hq
  have hlen := rv.length
  refine thn (RevL.list_reversed (I1.ok.hd hc) pl.isList (by rw [List.size_toArray, ← hlen]; exact hz) (Q := EP X pins σ Q) (E := X.xe) fun h' tk c a ha ga hk => ?_) fun v s2 hv => Calls.spliced_nil hv
  have hf : H1 a = none := I1.hok.fresh ha
  refine ⟨.ref a, _, I1.laid (a := a) (o := .lst xs.reverse) (t' := tk) hk ha ?_, rfl, k a hf⟩
  exact ⟨by rw [List.length_reverse]; exact hz, its.reverse, c, rv.reverse, by rw [ga]; simp⟩
theorem pdf_revL (hl : X.mg "list" = none) (hs : X.mg "reversed" = none) (he : PD X e g) (hc : X.calm = true := by rfl) (hgl : Gl X "list" := by rfl) (hgs : Gl X "reversed" := by rfl)
    (e1 : starEach [.Call (.Name "reversed" p2) [e] [] pos2] X.env = (false, eval (.Call (.Name "reversed" p2) [e] [] pos2) X.env) :: starEach [] X.env := by rfl) (e2 : starEach [e] X.env = (false, eval e X.env) :: starEach [] X.env := by rfl)
    (h1 : (backTo pos (starEach [] X.env)).any (·.1) = false := by rfl) (h2 : (backTo pos2 (starEach [] X.env)).any (·.1) = false := by rfl) :
    PDF X (.Call (.Name "list" p) [.Call (.Name "reversed" p2) [e] [] pos2] [] pos) (oA (consA g nilA) revD) := .mk fun B δ =>
  (pe_revL hc hl hs (he B δ) hgl hgs e1 e2 h1 h2).imp fun σ H Q ⟨d, en, h, k⟩ => by
    unfold oA consA nilA at h
    cases e3 : g δ with
    | none => rw [e3] at h; cases h
    | some x =>
      rw [e3] at h
      simp only [Option.bind_some, Option.map_some] at h
      cases x <;> simp only [revD] at h <;> try cases h
      refine ⟨_, en, e3, fun v H1 s1 r => ?_⟩
      rw [rp_lst] at r
      obtain ⟨q, xs, rfl, hq, rr⟩ := r
      exact ⟨q, xs, rfl, hq.to, fun l hl => k l _ (s1.free hl) (s1.trans (same_upd hl)) ⟨_, upd_same, rr.reverse.mono (Gr.fresh hl)⟩⟩
end
end DL
namespace DL
open PySem PySem.Spec PyProof.Rows L2
section
variable {K : PySem.W.Frag} {H : Hp} {B : BS}
theorem val_rel {κ : Type} [DecidableEq κ] : ∀ {ks : List κ} {ds : List D} {xs : List V} {q : κ}, Rps K H B ds xs → (∀ d, getK ks ds q = some d → ∃ x, valV (ks.zip xs) q = some x ∧ Rp K H B d x) ∧ (ks.length = xs.length → (valV (ks.zip xs) q).isSome = hasK ks q)
  | [], ds, xs, q, h => by
    refine ⟨fun d e => ?_, fun _ => ?_⟩
    · unfold getK at e; cases e
    · rfl
  | k :: ks, [], xs, q, h => by
    rw [rps_nil] at h; subst h
    refine ⟨fun d e => ?_, fun z => ?_⟩
    · unfold getK at e; cases e
    · simp at z
  | k :: ks, d :: ds, xs, q, h => by
    rw [rps_cons] at h
    obtain ⟨x, r, rfl, h1, h2⟩ := h
    obtain ⟨i1, i2⟩ := val_rel (ks := ks) (q := q) h2
    by_cases e : k = q
    · subst e
      refine ⟨fun d' e' => ?_, fun _ => ?_⟩
      · unfold getK at e'
        rw [if_pos rfl] at e'
        cases e'
        exact ⟨x, valV_pos rfl, h1⟩
      · rw [List.zip_cons_cons, valV_pos rfl]
        unfold hasK
        simp
    · refine ⟨fun d' e' => ?_, fun z => ?_⟩
      · unfold getK at e'
        rw [if_neg e] at e'
        rw [List.zip_cons_cons, valV_neg e]
        exact i1 d' e'
      · rw [List.zip_cons_cons, valV_neg e, i2 (by simpa using z)]
        unfold hasK
        simp [e]
theorem any_zip {κ : Type} [DecidableEq κ] : ∀ {ks : List κ} {xs : List V} {q : κ}, ks.length = xs.length → ((ks.zip xs).any fun kv => decide (kv.1 = q)) = hasK ks q
  | [], _, _, _ => rfl
  | k :: ks, [], _, h => by simp at h
  | k :: ks, x :: xs, q, h => by
    rw [List.zip_cons_cons, List.any_cons, any_zip (by simpa using h)]
    rfl
theorem put_zip {κ : Type} [DecidableEq κ] {ks : List κ} {xs : List V} {q : κ} {v : V} (h : ks.length = xs.length) : ∃ ys, putK (ks.zip xs) q v = (putKs ks q).zip ys ∧ (putKs ks q).length = ys.length ∧ (hasK ks q = true → ys = (ks.zip xs).map fun p => if p.1 = q then v else p.2) ∧ (hasK ks q = false → ys = xs ++ [v]) := by
  unfold putK putKs
  rw [any_zip h]
  cases hk : hasK ks q with
  | true =>
    rw [if_pos rfl, if_pos rfl]
    refine ⟨(ks.zip xs).map fun p => if p.1 = q then v else p.2, ?_, by simp [h], fun _ => rfl, fun z => by cases z⟩
    clear hk
    induction ks generalizing xs with
    | nil => rfl
    | cons k ks ih =>
      cases xs with
      | nil => simp at h
      | cons x xs =>
        rw [List.zip_cons_cons, List.map_cons, List.map_cons, List.zip_cons_cons, ih (by simpa using h)]
        by_cases e : k = q <;> simp [e]
  | false =>
    rw [if_neg (by simp), if_neg (by simp)]
    refine ⟨xs ++ [v], ?_, by simp [h], fun z => (by cases z), fun _ => rfl⟩
    rw [List.zip_append h]
    rfl
theorem rps_putMap {κ : Type} [DecidableEq κ] {q : κ} {d : D} {v : V} (hv : Rp K H B d v) : ∀ {ks : List κ} {ds : List D} {xs : List V}, Rps K H B ds xs → Rps K H B ((ks.zip ds).map fun p => if p.1 = q then d else p.2) ((ks.zip xs).map fun p => if p.1 = q then v else p.2)
  | [], _, _, _ => by simp [rps_nil]
  | k :: ks, [], xs, h => by rw [rps_nil] at h; subst h; simp [rps_nil]
  | k :: ks, d' :: ds, xs, h => by
    rw [rps_cons] at h
    obtain ⟨x, r, rfl, h1, h2⟩ := h
    rw [List.zip_cons_cons, List.zip_cons_cons, List.map_cons, List.map_cons, rps_cons]
    refine ⟨_, _, rfl, ?_, rps_putMap hv h2⟩
    by_cases e : k = q
    · simp only [e, if_true]; exact hv
    · simp only [e, if_false]; exact h1
end
section
variable {X : Cx} {e a b o : Expr} {es : List Expr} {pos p px : Pos} {g ga gb : Ds → Option D} {x : Str}
theorem key_v {K : PySem.W.Frag} {H : Hp} {B : BS} {d : D} {k : KeyD} {v : V} (h : asKey d = some k) (r : Rp K H B d v) : v = kV k := by
  cases d <;> simp [asKey] at h
  · subst h; rw [rp_int] at r; subst r; rfl
  · subst h; rw [rp_str] at r; subst r; rfl
theorem keys_v {K : PySem.W.Frag} {H : Hp} {B : BS} : ∀ {ds : List D} {ks : List KeyD} {xs : List V}, asKeys ds = some ks → Rps K H B ds xs → xs = ks.map kV
  | [], ks, xs, h, r => by cases h; rw [rps_nil] at r; exact r
  | d :: ds, ks, xs, h, r => by
    unfold asKeys at h
    rw [rps_cons] at r
    obtain ⟨x, r', rfl, h1, h2⟩ := r
    cases e1 : asKey d with
    | none => rw [e1] at h; cases h
    | some k =>
      cases e2 : asKeys ds with
      | none => rw [e1, e2] at h; cases h
      | some l =>
        rw [e1, e2] at h
        cases h
        rw [key_v e1 h1, keys_v e2 h2]
        rfl
theorem keyT_v {K : PySem.W.Frag} {H : Hp} {B : BS} {d : D} {k : List KeyD} {v : V} (h : asKeyT d = some k) (r : Rp K H B d v) : ∃ b, v = .ref b ∧ H b = some (.tup (k.map kV)) := by
  cases d <;> simp only [asKeyT] at h <;> try cases h
  rw [rp_tup] at r
  obtain ⟨a, xs, rfl, q, rr⟩ := r
  exact ⟨a, rfl, by rw [← keys_v h rr]; exact q.2⟩
theorem pd_dget (hu : X.A.units + 1 < cLine) (ha : PD X a ga) (hb : PD X b gb) (hs : NoSl b := by exact fun _ _ => rfl) : PD X (.Subscript a b pos) (o2 ga gb dgetD) := .mk fun B δ => (pe_dget hu (ha B δ) (hb B δ) hs).imp fun σ H Q ⟨d, en, h, k⟩ => by
  unfold o2 at h
  cases e1 : ga δ with
  | none => rw [e1] at h; cases h
  | some x =>
    cases e2 : gb δ with
    | none => rw [e1, e2] at h; cases h
    | some y =>
      rw [e1, e2] at h
      simp only [Option.bind_some] at h
      refine ⟨x, en, e1, fun v1 H1 s1 r1 => ⟨y, en.same s1, e2, fun v2 H2 s2 r2 => ?_⟩⟩
      cases x <;> simp only [dgetD] at h <;> try cases h
      rename_i ks ds
      have r1 := r1.same s2
      cases ks with
      | inl ks =>
        simp only at h
        cases e3 : asKey y with
        | none => rw [e3] at h; cases h
        | some q =>
          rw [e3] at h
          simp only [Option.bind_some] at h
          rw [rp_dct] at r1
          obtain ⟨p, xs, rfl, _, hp, hl, rr⟩ := r1
          obtain ⟨v, hv, rv⟩ := (val_rel rr).1 d h
          have := key_v e3 r2
          subst this
          exact ⟨p, v, rfl, by rw [← hv]; exact DGet.k hp, k v H2 (s1.trans s2) rv⟩
      | inr ks =>
        simp only at h
        cases e3 : asKeyT y with
        | none => rw [e3] at h; cases h
        | some q =>
          rw [e3] at h
          simp only [Option.bind_some] at h
          rw [rp_dctT] at r1
          obtain ⟨p, xs, rfl, _, hp, hl, rr⟩ := r1
          obtain ⟨v, hv, rv⟩ := (val_rel rr).1 d h
          obtain ⟨b, rfl, hb⟩ := keyT_v e3 r2
          exact ⟨p, v, rfl, by rw [← hv]; exact DGet.t hp hb, k v H2 (s1.trans s2) rv⟩
theorem ptd_din (hu : X.A.units + 1 < cLine) (ha : PD X a ga) (hb : PD X b gb) (hm : behindInMarks .In b = false := by first | rfl | with_unfolding_all rfl) : PTD X (.Compare a [.In] [b] pos) (ob (o2 ga gb (inDctD false))) := .mk fun B δ => (pt_cmp (pc_din hu (ha B δ) (hb B δ)) hm).imp fun σ H Q ⟨t, en, h, k⟩ => by
  unfold ob o2 at h
  cases e1 : ga δ with
  | none => rw [e1] at h; cases h
  | some x =>
    cases e2 : gb δ with
    | none => rw [e1, e2] at h; cases h
    | some y =>
      rw [e1, e2] at h
      simp only [Option.bind_some] at h
      refine ⟨x, en, e1, fun v1 H1 s1 r1 => ⟨y, en.same s1, e2, fun v2 H2 s2 r2 => ?_⟩⟩
      cases y <;> simp only [inDctD] at h <;> try cases h
      rename_i ks ds
      cases ks with
      | inl ks =>
        simp only at h
        cases e3 : asKey x with
        | none => rw [e3] at h; cases h
        | some q =>
          rw [e3] at h
          simp only [Option.map_some, Option.bind_some, asB, Bool.false_xor] at h
          cases h
          rw [rp_dct] at r2
          obtain ⟨p, xs, rfl, _, hp, hl, rr⟩ := r2
          have := key_v e3 r1
          subst this
          refine ⟨p, _, rfl, DGet.k hp, _, rfl, ?_⟩
          rw [(val_rel rr).2 hl]
          exact k H2 (s1.trans s2)
      | inr ks =>
        simp only at h
        cases e3 : asKeyT x with
        | none => rw [e3] at h; cases h
        | some q =>
          rw [e3] at h
          simp only [Option.map_some, Option.bind_some, asB, Bool.false_xor] at h
          cases h
          rw [rp_dctT] at r2
          obtain ⟨p, xs, rfl, _, hp, hl, rr⟩ := r2
          obtain ⟨b, rfl, hb⟩ := keyT_v e3 (r1.same s2)
          refine ⟨p, _, rfl, DGet.t hp hb, _, rfl, ?_⟩
          rw [(val_rel rr).2 hl]
          exact k H2 (s1.trans s2)
theorem ptg_put (i : Nat) (hu : X.A.units + 1 < cLine) (h : PD X e g) (hN : X.N[i]? = some x := by rfl) (hv : Vis X.env.scope x := by first | exact Or.inl rfl | exact Or.inr (Or.inl rfl) | exact Or.inr (Or.inr rfl)) (hd : (x == ("__debug__" : Str)) = false := by decide) (hcd : (x == ("__classdict__" : Str)) = false := by decide)
    (ha : ∀ v, assign (.Subscript (.Name x px) e pos) X.env v = (do
      let ov ← holding [v] (eval (.Name x px) X.env)
      let iv ← holding [v, ov] (eval e X.env)
      standAt pos
      holding [v, ov, iv] (setItem ov iv v)
      release [v, ov, iv] []) := by intro _; rfl) : PTG X (.Subscript (.Name x px) e pos) (putAt i g) := .mk fun H₀ B₀ d δ pins s σ H v u Q I r ⟨δ', en, e1, k⟩ => by
  unfold putAt at e1
  obtain ⟨B, b1, b2, env, rv⟩ := en.ex
  cases e2 : owDc i δ with
  | none => rw [e2] at e1; cases e1
  | some pr =>
    cases e3 : g δ with
    | none => rw [e2, e3] at e1; cases e1
    | some dk =>
      rw [e2, e3] at e1
      simp only [Option.bind_some] at e1
      cases e4 : asKey dk with
      | none => rw [e4] at e1; cases e1
      | some q =>
        rw [e4] at e1
        simp only [Option.bind_some] at e1
        split at e1
        · rename_i hz
          cases e1
          have hi := owDc_eq e2
          obtain ⟨a, hs', hb, xs, hx, hl, rx⟩ := env.at hi
          have hl : pr.1.length = xs.length := hl
          refine pg_sub (pe_var (i := i) hN hv hd hcd) (h B δ) (set_dict hu) ha pins s σ H v u Q I r ⟨_, hs', _, env, e3, fun iv H1 s1 r1 => ?_⟩
          have := key_v e4 r1
          subst this
          obtain ⟨ys, hy, hyl, hy1, hy2⟩ := put_zip (q := q) (v := v) hl
          refine ⟨a, _, rfl, DPut.k (s1 _ _ hx) (by rw [List.length_zip, ← hl, Nat.min_self]; exact hz), ?_⟩
          have rr : Rps X.K H1 B (putDs pr.1 pr.2 q d) ys := by
            unfold putDs
            cases hk : hasK pr.1 q with
            | true => rw [if_pos rfl, hy1 hk]; exact rps_putMap (rv.same s1) (rx.same s1)
            | false => rw [if_neg (by simp), hy2 hk]; exact Rps.snoc (rx.same s1) (rv.same s1)
          rw [hy]
          have env2 : Env X.K (upd H1 a (.dK ((putKs pr.1 q).zip ys))) B σ (δ.set i (.ow (.dct (.inl (putKs pr.1 q)) (putDs pr.1 pr.2 q d)))) := (env.same s1).mut hi hs' ⟨ys, upd_same, hyl, rr.mono (Gr.own hb)⟩
          exact k _ _ (en.s.mut s1 b1 b2 hi hs' env2)
        · cases e1
end
end DL
namespace L2
open PySem PySem.Spec PyProof.Rows
section
variable {P : Program} {w : World} {K : PySem.W.Frag} {mg : Str → Option Value} {base : Heap}
end
end L2
namespace DL
open PySem PySem.Spec PyProof.Rows L2
section
variable {P : Program} {w : World} {K : PySem.W.Frag} {mg : Str → Option Value} {base : Heap}
end
section
variable {X : Cx} {e a b : Expr} {es : List Expr} {pos p : Pos} {g ga gb : Ds → Option D} {gA : Ds → Option (List D)}
theorem pdf_cmpD {sc scope : Scope} {elt iter tg : Expr} {ifs : List Expr} {N N' : List Str} {n : Nat} {caps : List Nat} {gi : Ds → Option (List D)} {idx : List Nat} {f : D → Ds → Option Ds} {gt : Ds → Option Bool} {ge : Ds → Option D}
    (ok : CompOk sc scope N N' n caps) (hidx : ∀ j ∈ idx, j < n) (hi : PID X tg iter gi)
    (hg : ∀ cl s H ex, PGD (cxComp X scope cl N' s H ex) tg idx f) (ht : ∀ cl s H ex, PFD (cxComp X scope cl N' s H ex) ifs gt) (he : ∀ cl s H ex, PD (cxComp X scope cl N' s H ex) elt ge)
    (hc : X.calm = true := by rfl) (hsc : X.env.scope = sc := by rfl) (hN : X.N = N := by rfl) (hs : ∀ x, foldedSetIterable iter X.env x = pure x := by intro _; rfl) :
    PDF X (.ListComp elt [⟨tg, iter, ifs, 0⟩] scope pos) (compG n caps gi f gt ge) := pdf_comp hc hsc (hN ▸ ok) hidx hi hg ht he hs
theorem flat_v {K : PySem.W.Frag} {H : Hp} {B : BS} {d : D} {v : V} (h : flat d = true) (r : Rp K H B d v) : flatV v = true ∧ ∀ e u, flat e = true → Rp K H B e u → eqV v u = eqF d e := by
  cases d <;> simp [flat] at h
  · rw [rp_non] at r; subst r
    refine ⟨rfl, fun e u he ru => ?_⟩
    cases e <;> simp [flat] at he <;> simp only [rp_non, rp_bl, rp_int, rp_str] at ru <;> subst ru <;> rfl
  · rw [rp_bl] at r; subst r
    refine ⟨rfl, fun e u he ru => ?_⟩
    cases e <;> simp [flat] at he <;> simp only [rp_non, rp_bl, rp_int, rp_str] at ru <;> subst ru <;> rfl
  · rw [rp_int] at r; subst r
    refine ⟨rfl, fun e u he ru => ?_⟩
    cases e <;> simp [flat] at he <;> simp only [rp_non, rp_bl, rp_int, rp_str] at ru <;> subst ru <;> rfl
  · rw [rp_str] at r; subst r
    refine ⟨rfl, fun e u he ru => ?_⟩
    cases e <;> simp [flat] at he <;> simp only [rp_non, rp_bl, rp_int, rp_str] at ru <;> subst ru <;> rfl
theorem in_rel {K : PySem.W.Frag} {H : Hp} {B : BS} {d : D} {v : V} (h : flat d = true) (r : Rp K H B d v) : ∀ {ds : List D} {xs : List V}, ds.all flat = true → Rps K H B ds xs → xs.all flatV = true ∧ inV v xs = ds.any fun y => eqF y d
  | [], _, _, rs => by rw [rps_nil] at rs; subst rs; exact ⟨rfl, rfl⟩
  | e :: ds, _, ha, rs => by
    rw [rps_cons] at rs
    obtain ⟨x, t, rfl, r1, r2⟩ := rs
    rw [List.all_cons, Bool.and_eq_true] at ha
    obtain ⟨i1, i2⟩ := in_rel h r ha.2 r2
    obtain ⟨f1, f2⟩ := flat_v ha.1 r1
    refine ⟨by rw [List.all_cons, f1, i1]; rfl, ?_⟩
    unfold inV at i2 ⊢
    rw [List.any_cons, List.any_cons, f2 d v h r, i2]
theorem op2_inSeq {K : PySem.W.Frag} (neg : Bool) : Op2 K (rIn K neg) (inSeqD neg) := by
  intro H B x y dx dy d Q hb rx ry h k
  have key : ∀ (ds : List D) (xs : List V), Rps K H B ds xs → flat dx = true ∧ ds.all flat = true → d = .bl (xor neg (ds.any fun y => eqF y dx)) → ∀ p, y = .ref p → (SqL K H p xs ∨ SqT K H p xs) → rIn K neg x y H Q := by
    intro ds xs rs hf hd p hp hq
    obtain ⟨f1, f2⟩ := in_rel hf.1 rx hf.2 rs
    refine ⟨p, xs, hp, hq, (flat_v hf.1 rx).1, f1, k _ H (Same.refl H) ?_⟩
    rw [hd, rp_bl, f2]
    cases neg <;> simp
  cases dy <;> simp only [inSeqD] at h <;> try cases h
  · split at h
    · rename_i hf
      have hd := (Option.some.inj h).symm
      rw [rp_tup] at ry
      obtain ⟨p, xs, e, q, rs⟩ := ry
      exact key _ xs rs hf hd p e (.inr q.to)
    · cases h
  · split at h
    · rename_i hf
      have hd := (Option.some.inj h).symm
      rw [rp_lst] at ry
      obtain ⟨p, xs, e, q, rs⟩ := ry
      exact key _ xs rs hf hd p e (.inl q.to)
    · cases h
end
end DL
namespace DL
open PySem PySem.Spec PyProof.Rows L2
theorem pid_any {X : Cx} {tg e : Expr} {g : Ds → Option D} (h : PD X e g) : PID X tg e (anyI g) := .mk fun B δ pins s σ H R I ⟨items, en, e1, k⟩ => by
  unfold anyI at e1
  cases e2 : g δ with
  | none => rw [e2] at e1; cases e1
  | some d =>
    rw [e2] at e1
    simp only [Option.bind_some] at e1
    cases d <;> simp only [asSeq] at e1 <;> try cases e1
    · exact (pid_tup (tg := tg) h) B δ pins s σ H R I ⟨_, en, by unfold tupI; rw [e2]; rfl, k⟩
    · exact (pid_list (tg := tg) h) B δ pins s σ H R I ⟨_, en, by unfold lstI; rw [e2]; rfl, k⟩
end DL
namespace DL
open PySem
end DL
namespace ZipL
open PySem PySem.Spec PyProof.Rows
section
variable {prog : Program} {w : World} {A : Around} {E : Value → Shared → Prop} {s : Shared}
end
section
variable {prog : Program} {w : World} {A : Around} {E : Value → Shared → Prop} {s : Shared} {z TI TO i1 i2 l1 l2 S : Addr} {xs ys : Array Value} {h h' : Heap} {i : Nat}
end
section
variable {prog : Program} {w : World} {A : Around} {s : Shared} {R : Result → Shared → Prop} {z TI TO i1 i2 l1 l2 S lo : Addr} {xs ys : Array Value} {h₁ : Heap}
end
section
variable {prog : Program} {w : World} {A : Around} {E : Value → Shared → Prop} {s : Shared} {z TI TO i1 i2 l1 l2 lo : Addr} {xs ys : Array Value}
end
end ZipL
namespace ZipL
open PySem PySem.Spec PyProof.Rows
section
variable {prog : Program} {w : World} {A : Around} {E : Value → Shared → Prop} {s : Shared} {z TI TO i1 i2 l1 l2 lo : Addr} {xs ys : Array Value}
end
end ZipL
namespace L2
open PySem PySem.Spec PyProof.Rows
section
variable {X : Cx} {pins : List (Addr × Obj)} {σ : List (Option V)} {H : Hp} {s : Shared} {h' : Heap}
end
section
variable {X : Cx} {e : Expr} {es : List Expr} {pos p pos2 p2 : Pos} {x1 x2 : Str} {T1 T2 : String} {r : List V → Hp → VK → Prop} {t : TA}
end
end L2
namespace DL
open PySem PySem.Spec PyProof.Rows L2
section
variable {X : Cx} {e : Expr} {es : List Expr} {pos p pos2 p2 : Pos} {x1 x2 : Str} {T1 T2 : String} {r : List V → Hp → VK → Prop} {gA : Ds → Option (List D)} {f : List D → Option D}
end
end DL
namespace L2
open PySem PySem.Spec PyProof.Rows
section
variable {X : Cx} {pins : List (Addr × Obj)} {σ : List (Option V)} {H : Hp} {s : Shared} {h' : Heap}
theorem Inv.turnedL {t' : Nat} {fp : List Addr} (I : Inv X pins σ H s) (hf : ∀ b ∈ fp, FpOk X pins H b) (k : ∀ b o, b ∉ fp → s.heap.get? b = some o → h'.get? b = some o) : Inv X pins σ H { s with heap := h', toks := t' } := by
  have nit : ∀ b u, H b = some u → b ∉ fp := fun b u e z => by rw [(hf b z).1] at e; cases e
  refine I.step (g' := s.gens) (d' := s.drawn) (ch := fp) (fun b hb => ⟨(hf b hb).2.2.2.1, (hf b hb).2.1, (hf b hb).2.2.2.2.1, (hf b hb).2.2.2.2.2⟩) (fun b o _ _ hc e _ => k b o hc e) (fun b o _ _ hc e _ => ⟨o.slots, k b o hc e⟩) (fun _ _ _ _ n => n)
    (fun b o hc e => ⟨o, k b o hc e⟩) (fun _ _ e => e) (fun _ _ _ e => e) (fun b ps e => ⟨#[], by rw [e]; simp⟩) (fun m hm => ?_) (fun b u e => ?_) I.bare
  · obtain ⟨o, es, ep, ho, r⟩ := hm
    exact ⟨o, es, ep, k _ o (fun z => (hf _ z).2.1 rfl) ho, r⟩
  · refine (I.hok b u e).stay (fun c v hc q => k c v ?_ q) (fun _ q => q) fun _ _ q => q
    rcases hc with z | z
    · rw [z]; exact nit b u e
    · exact nit c _ z
theorem Inv.turnedNew {t' : Nat} {fp : List Addr} {x y : V} {u w : Value} (I : Inv X pins σ H s) (hf : ∀ b ∈ fp, FpOk X pins H b) (rx : RelV x u) (ry : RelV y w) (hlt : ∀ b ∈ fp, b < s.heap.objs.size)
    (hob : h'.get? s.heap.objs.size = some { cls := .type "tuple", data := .seq #[u, w] }) (k : ∀ b o, b ∉ fp → s.heap.get? b = some o → h'.get? b = some o) :
    Inv X pins σ (upd H s.heap.objs.size (.tup [x, y])) { s with heap := h', toks := t' } ∧ ∀ b ∈ fp, upd H s.heap.objs.size (.tup [x, y]) b = none := by
  have ne : ∀ b ∈ fp, b ≠ s.heap.objs.size := fun b hb => Nat.ne_of_lt (hlt b hb)
  have fr : ∀ b ∈ fp, upd H s.heap.objs.size (.tup [x, y]) b = none := fun b hb => by rw [upd_ne (ne b hb)]; exact (hf b hb).1
  have I1 : Inv X pins σ (upd H s.heap.objs.size (.tup [x, y])) { s with heap := s.heap.push { cls := .type "tuple", data := .seq #[u, w] }, toks := t' } :=
    I.laid (fun b o e => Heap.get?_push_of_some _ e) (Nat.le_refl _) ⟨(by show 2 ≤ sizeLine; decide), [u, w], .cons rx (.cons ry .nil), ⟨_, Heap.get?_push_size _ rfl, rfl, _, rfl, rfl⟩⟩
  refine ⟨Inv.turnedL (s := { s with heap := s.heap.push { cls := .type "tuple", data := .seq #[u, w] }, toks := t' }) (t' := t') (fp := fp) I1 (fun b hb => ⟨fr b hb, (hf b hb).2⟩) fun b o hb e => ?_, fr⟩
  rcases Heap.get?_push_cases e with ⟨rfl, rfl⟩ | e
  · exact hob
  · exact k b o hb e
end
section
variable {X : Cx} {elts : List Expr} {x1 : Nat} {tpos : Pos}
theorem boot_zip : bootBuiltins "zip" = some (.type "zip") := by decide +kernel
theorem boot_enum : bootBuiltins "enumerate" = some (.type "enumerate") := by decide +kernel
end
end L2
namespace DL
open PySem PySem.Spec PyProof.Rows L2
section
variable {X : Cx} {elts : List Expr} {x1 : Nat} {tpos : Pos} {a b : Expr} {p pos : Pos} {gA : Ds → Option (List D)}
theorem rp_pair {K : PySem.W.Frag} {H : Hp} {B : BS} {t : Addr} {x y : V} {d e : D} (hn : ¬ B t) (ht : H t = some (.tup [x, y])) (r1 : Rp K H B d x) (r2 : Rp K H B e y) : Rp K H B (.tup [d, e]) (.ref t) := by
  rw [rp_tup]
  refine ⟨t, [x, y], rfl, ⟨hn, ht⟩, ?_⟩
  rw [rps_cons]
  refine ⟨_, _, rfl, r1, ?_⟩
  rw [rps_cons]
  exact ⟨_, _, rfl, r2, by rw [rps_nil]⟩
end
section
variable {K : PySem.W.Frag} {H : Hp} {B B' : BS}
mutual
theorem tree_rp (hB : ∀ a, B a → B' a ∨ (∃ xs, H a = some (.lst xs)) ∨ ∃ ks xs, H a = some (dOb ks xs)) : ∀ (d : D) (v : V), tree d = true → Rp K H B' d v → Rp K H B d v
  | .non, v, _, r => by rw [rp_non] at r ⊢; exact r
  | .bl _, v, _, r => by rw [rp_bl] at r ⊢; exact r
  | .int _, v, _, r => by rw [rp_int] at r ⊢; exact r
  | .str _, v, _, r => by rw [rp_str] at r ⊢; exact r
  | .lst _, v, h, _ => by unfold tree at h; cases h
  | .dct _ _, v, h, _ => by unfold tree at h; cases h
  | .tup ds, v, h, r => by
    unfold tree at h
    rw [rp_tup] at r ⊢
    obtain ⟨a, xs, rfl, q, rs⟩ := r
    refine ⟨a, xs, rfl, ?_, trees_rp hB ds xs h rs⟩
    obtain ⟨n, q⟩ := q
    refine ⟨fun z => ?_, q⟩
    rcases hB a z with z | ⟨ys, z⟩ | ⟨ks, ys, z⟩
    · exact n z
    · rw [z] at q; cases q
    · rw [z] at q; cases ks <;> cases q
theorem trees_rp (hB : ∀ a, B a → B' a ∨ (∃ xs, H a = some (.lst xs)) ∨ ∃ ks xs, H a = some (dOb ks xs)) : ∀ (ds : List D) (vs : List V), trees ds = true → Rps K H B' ds vs → Rps K H B ds vs
  | [], vs, _, r => by rw [rps_nil] at r ⊢; exact r
  | d :: ds, vs, h, r => by
    unfold trees at h
    rw [Bool.and_eq_true] at h
    rw [rps_cons] at r ⊢
    obtain ⟨x, t, rfl, r1, r2⟩ := r
    exact ⟨x, t, rfl, tree_rp hB d x h.1 r1, trees_rp hB ds t h.2 r2⟩
end
end
theorem pd_borT {X : Cx} {e : Expr} {g : GE} (h : PD X e g) : PD X e (borT g) := .mk fun B δ pins s σ H Q I ⟨d, en, hq, k⟩ => by
  obtain ⟨B', c1, c2, en'⟩ := en.frz
  unfold borT at hq
  cases e1 : g (frz δ) with
  | none => rw [e1] at hq; cases hq
  | some x =>
    rw [e1] at hq
    by_cases hf : tree x = true
    · simp only [Option.bind_some, if_pos hf] at hq
      cases hq
      refine h B' (frz δ) pins s σ H Q I ⟨_, en', e1, fun v H' s' r => k v H' s' (tree_rp (fun a z => ?_) _ _ hf r)⟩
      rcases c2 a z with q | ⟨i, d', h1, h2⟩
      · exact .inl q
      · obtain ⟨o, h3, a', e4, _, ro⟩ := Pd.get en.all h1
        rw [h2] at h3
        cases h3
        cases e4
        cases d' <;> try exact ro.elim
        · obtain ⟨_, _, xs, e5, _⟩ := ro; exact .inr (.inl ⟨xs, s' _ _ e5⟩)
        · obtain ⟨xs, e5, _⟩ := ro; exact .inr (.inl ⟨xs, s' _ _ e5⟩)
        · obtain ⟨xs, e5, _⟩ := ro; exact .inr (.inr ⟨_, _, s' _ _ e5⟩)
    · simp only [Option.bind_some, if_neg hf] at hq
      cases hq
section
variable {X : Cx} {K : PySem.W.Frag} {e : Expr} {pos p : Pos} {g : Ds → Option D}
end
section
variable {X : Cx} {e : Expr} {pos p pos2 p2 : Pos} {gA : Ds → Option (List D)}
end
end DL
namespace TxtL
open PySem PySem.Spec PyProof.Rows Builtin Builtin.Str
section
variable {prog : Program} {w : World} {A : Around} {E : Value → Shared → Prop} {s : Shared} {Q : Value → Shared → Prop} {x y : PySem.Str} {t u : Tok}
end
end TxtL
namespace L2
open PySem PySem.Spec PyProof.Rows
section
variable {X : Cx}
end
end L2
namespace DL
open PySem PySem.Spec PyProof.Rows L2
section
variable {X : Cx} {K : PySem.W.Frag} {o e : Expr} {apos cpos : Pos} {g : Ds → Option D} {gA : Ds → Option (List D)} {name : PySem.Str} {id : String} {r : V → List V → Hp → VK → Prop} {f : D → List D → Option D}
end
end DL
namespace DL
open PySem PySem.Spec PyProof.Rows L2
section
variable {X : Cx} {e a b c : Expr} {es : List Expr} {pos : Pos} {g ga gb gc : Ds → Option D}
open Builtin Builtin.Str Builtin.Int in
theorem mul_intstr {prog : Program} {w : World} {A : Around} {E : Value → Shared → Prop} {s : Shared} {x : Str} {n : Int} {t u : Tok} {Q : Value → Shared → Prop} (hr : (decide (n < -(2 ^ 63 : Int)) || decide (n ≥ 2 ^ 63)) = false)
    (hb : ¬ n < 1 → (n == 1 || x.length == 0) = false → ¬ ((x.length : Int) > (2 ^ 63 - 1) / n)) (hl : ¬ n < 1 → (n == 1 || x.length == 0) = false → tooLong (x.length * n.toNat) = false)
    (h : (if n < 1 then Made.str Str.empty else if (n == 1 || x.length == 0) = true then Made.val (.str x t) else Made.str ⟨(List.replicate n.toNat x.cps).foldl (· ++ ·) #[]⟩).post Q s) :
    wpAny (model prog w) A (binaryOp .Mult (.int n u) (.str x t)) Q E s :=
  PySem.lm_binaryOp_repeat_right (T := "str") (U := "int") (by decide) (fun s' => typeIs_int s' n u) (typeIs_str s x t) PySem.F.fills_int_mul PySem.noFill_str_mul PySem.F.slot_int_mul PySem.lm_noRepeat_int PySem.repeat_str PySem.F.slot_int_index.lookup
    (call_gives PySem.F.slot_int_mul (typeIs_int s n u) PySem.F.entry_int_mul (PySem.F.args_int_mul_2 _ _) (PySem.AutoIntG3.int___mul___int_str_0 n u x t)
      ⟨rfl, typeIs_str _ x t, call_gives PySem.F.slot_str_mul (typeIs_str s x t) PySem.F.entry_str_mul (PySem.F.args_str_mul_2 _ _) (gives_str_mul x n t u hr hb hl) h⟩)
end
end DL
namespace HL
open PySem PySem.SeqAt PyProof.Rows
open PySem.AutoSeq1 (wpAny_loadPart')
open PySem.MeetsSeq PySem.MeetsSeq2 PySem.MeetsSeq3
end HL
namespace DL
open PySem PySem.Spec PyProof.Rows L2
section
variable {X : Cx} {e a b c : Expr} {es : List Expr} {pos px apos cpos : Pos} {g ga gb gc : Ds → Option D} {x : Str}
end
end DL
namespace ZipL
open PySem PySem.Spec PyProof.Rows
section
variable {prog : Program} {w : World} {A : Around} {E : Value → Shared → Prop} {s : Shared}
end
end ZipL
namespace L2
open PySem PySem.Spec PyProof.Rows
section
variable {X : Cx} {nx : Str} {tpos : Pos}
end
end L2
namespace DL
open PySem PySem.Spec PyProof.Rows L2
section
variable {X : Cx} {nx : Str} {tpos : Pos} {a b : Expr} {p pos : Pos} {gA : Ds → Option (List D)}
end
end DL
namespace L2
open PySem PySem.Spec PyProof.Rows
section
variable {X : Cx} {pins : List (Addr × Obj)} {σ : List (Option V)} {A : Around} {E : Value → Shared → Prop}
end
end L2
namespace L2
open PySem PySem.Spec PyProof.Rows
end L2
namespace DL
open PySem PySem.Spec PyProof.Rows L2
section
variable {K : PySem.W.Frag} {H : Hp} {B : BS}
end
section
variable {X : Cx} {e : Expr} {pos p : Pos} {g : Ds → Option D}
end
end DL
namespace L2
open PySem PySem.Spec PyProof.Rows
section
variable {X : Cx} {pins : List (Addr × Obj)} {σ : List (Option V)} {A : Around} {E : Value → Shared → Prop}
end
end L2
namespace DL
open PySem PySem.Spec PyProof.Rows L2
section
variable {K : PySem.W.Frag} {H : Hp} {B : BS} {σ : St} {δ : Ds}
end
section
variable {X : Cx} {ke ve : Expr} {pos : Pos} {gk gv : Ds → Option D}
end
end DL
namespace DL
open PySem PySem.Spec PyProof.Rows L2
section
variable {X : Cx} {e : Expr} {pos pos' : Pos} {g : Ds → Option D} {x : Str}
end
end DL
namespace DL
open PySem PySem.Spec PyProof.Rows L2
noncomputable def flats (ds : List D) : Bool := ds.all flat
noncomputable def borL (g : GE) : GE := fun δ => (g (frz δ)).bind fun d => match d with
  | .lst ds => if flats ds = true then some (.lst ds) else none
  | _ => none
theorem borL_of {g : GE} {δ : Ds} {ds : List D} (h : g (frz δ) = some (.lst ds)) (hf : flats ds = true) : borL g δ = some (.lst ds) := by
  unfold borL
  rw [h, Option.bind_some]
  simp only []
  rw [if_pos hf]
section
variable {X : Cx} {e : Expr} {g : GE} {pos : Pos}
theorem flats_rps {K : PySem.W.Frag} {H H' : Hp} {B B' : BS} : ∀ {ds : List D} {xs : List V}, flats ds = true → Rps K H B ds xs → Rps K H' B' ds xs
  | [], xs, _, r => by rw [rps_nil] at r ⊢; exact r
  | d :: ds, xs, h, r => by
    rw [rps_cons] at r ⊢
    obtain ⟨x, r', e1, r1, r2⟩ := r
    unfold flats at h
    rw [List.all_cons, Bool.and_eq_true] at h
    exact ⟨x, r', e1, flat_rp h.1 r1, flats_rps (ds := ds) h.2 r2⟩
theorem psd_retFB (h : PDF X e g) : PSD X (.Return (some e) pos) (retF (borA g)) := .mk fun H₀ B₀ δ pins s σ H D I ⟨r, en, hq, k⟩ =>
  psd_retF h H₀ B₀ (frz δ) pins s σ H D I ⟨r, en.frz, hq, k⟩
theorem pdf_borL (h : PDF X e g) : PDF X e (borL g) := .mk fun B δ pins s σ H Q I ⟨d, en, hq, k⟩ => by
  obtain ⟨B', c1, c2, en'⟩ := en.frz
  unfold borL at hq
  cases e1 : g (frz δ) with
  | none => rw [e1] at hq; cases hq
  | some x =>
    rw [e1, Option.bind_some] at hq
    cases x with
    | lst ds =>
      simp only [] at hq
      by_cases hf : flats ds = true
      · rw [if_pos hf] at hq
        cases hq
        exact h B' (frz δ) pins s σ H Q I ⟨_, en', e1, fun p H' hp s' r => k p H' hp s' (by
          obtain ⟨xs, e5, r5⟩ := r
          exact ⟨xs, e5, flats_rps hf r5⟩)⟩
      · rw [if_neg hf] at hq; cases hq
    | non => cases hq
    | bl _ => cases hq
    | int _ => cases hq
    | str _ => cases hq
    | tup _ => cases hq
    | dct _ _ => cases hq
end
end DL
namespace DL
open PySem PySem.Spec PyProof.Rows L2
section
variable {X : Cx}
end
end DL
namespace L2
open PySem
section
variable {M : Model} {A : Around} {E : Value → Shared → Prop} {s : Shared}
end
end L2
namespace L2
open PySem PySem.Spec PyProof.Rows
section
variable {M : Model} {A : Around} {E : Value → Shared → Prop} {s : Shared}
end
section
variable {X : Cx} {pins : List (Addr × Obj)} {σ : St} {H : Hp} {s : Shared}
end
section
variable {X : Cx} {k : Nat} {f C : Addr} {fd : FuncData} {ps : List Str} {sp : Sp} {dvs : List V} {ds : List Value} {x c : Str} {p pos np cpos : Pos} {e : Expr} {es : List Expr} {t : TA}
end
end L2
namespace L2
open PySem PySem.Spec PyProof.Rows
section
variable {X : Cx} {pins : List (Addr × Obj)} {σ : St} {H : Hp} {s : Shared}
end
end L2
namespace L2
open PySem PySem.Spec PyProof.Rows
section
variable {X : Cx}
end
end L2
namespace DL
open PySem PySem.Spec PyProof.Rows L2
section
variable {X : Cx} {e : Expr} {st : Stmt} {rest as bs : List Stmt} {pos : Pos} {G : GS} {G1 G2 Ga Gb : GZ} {gt : GB} {gA : GA} {c : Expr}
end
section
variable {X : Cx} {e : Expr} {es : List Expr} {gA : GA} {pos p px : Pos}
end
section
variable {P : Program} {w : World} {K : PySem.W.Frag} {mg : Str → Option Value} {base : Heap}
end
end DL
namespace L2
open PySem PySem.Spec PyProof.Rows
section
variable {X : Cx} {pos : Pos} {tl : List Value}
end
end L2
namespace DL
open PySem PySem.Spec PyProof.Rows L2
section
variable {X : Cx} {root : Str} {r : Addr} {cs rs : List Str} {p px pc pos : Pos} {x : Str}
end
end DL
namespace L2
open PySem PySem.Spec PyProof.Rows
section
variable {X : Cx} {pins pins' : List (Addr × Obj)} {σ : St} {H : Hp} {s : Shared} {W : Value → Shared → Prop} {A : Around}
end
end L2
namespace DL
open PySem PySem.Spec PyProof.Rows L2
section
variable {K : PySem.W.Frag} {H₀ H : Hp} {B₀ B : BS} {σ : St} {δ : Ds} {i : Nat} {a C : Addr} {c : Str}
end
section
variable {X : Cx} {root x : Str} {r : Addr} {cs rs : List Str} {body suite : List Stmt} {b₀ : Stmt} {np hp pos : Pos} {Gb : GZ} {Gh : GS}
end
end DL
namespace DL
open PySem PySem.Spec PyProof.Rows L2
section
variable {X : Cx} {root : Str} {r : Addr} {cs rs : List Str} {p px pc tp pos : Pos} {x : Str} {es : List Expr} {ns : List Str}
end
end DL
namespace XC
open PySem PySem.W
section
variable {prog : Program} {w : World} {A : Around} {E : Value → Shared → Prop} {h : Heap} {g : Array GenState} {d : Drawn} {t : Nat} {os : OsState} {a C : Addr} {o : Obj} {tl : List Value} {K : Frag} {od : Option Obj} {f : Str} {v : Value}
end
end XC
namespace L2
open PySem PySem.Spec PyProof.Rows
section
variable {X : Cx} {pins : List (Addr × Obj)} {σ : St} {H : Hp} {s : Shared} {A : Around} {E : Value → Shared → Prop}
end
end L2
namespace DL
open PySem PySem.Spec PyProof.Rows L2
section
variable {X : Cx} {px pos : Pos} {x : Str}
end
section
variable {X : Cx} {tg : Expr} {body : List Stmt} {pos : Pos} {G : GZ}
end
end DL
namespace XC
open PySem PySem.W
end XC
namespace DL
open PySem PySem.Spec PyProof.Rows L2
end DL
namespace DL
open PySem PySem.Spec PyProof.Rows L2
section
variable {P : Program} {w : World} {K : PySem.W.Frag} {mg : Str → Option Value} {base : Heap}
end
end DL
namespace L2
open PySem PySem.Spec PyProof.Rows
section
variable {X : Cx}
end
end L2
namespace DL
open PySem PySem.Spec PyProof.Rows L2
@[simp] noncomputable def ordD : List D → Option D
  | [.str x] => match x.cps.toList with
    | [c] => some (.int (c : Nat))
    | _ => none
  | _ => none
theorem fn_ord {K : PySem.W.Frag} : FnR K (fun xs H Q => ∃ x, xs = [.str x] ∧ x.length = 1 ∧ Q (.int (x.cps.getD 0 0 : Nat)) H) ordD := by
  intro H B xs ds d Q hb r h k
  unfold ordD at h
  split at h
  · rename_i x
    split at h
    · rename_i c hc
      cases h
      obtain ⟨v, rfl, r1⟩ := rps_one r
      rw [rp_str] at r1
      subst r1
      obtain ⟨⟨l⟩⟩ := x
      have : l = [c] := hc
      subst this
      exact ⟨_, rfl, rfl, k _ H (Same.refl H) (by rw [rp_int]; rfl)⟩
    · cases h
  · cases h
section
variable {X : Cx} {e : Expr} {g : GE} {x : Str} {px p0 apos cpos : Pos} {j : Nat}
end
end DL
namespace L2
open PySem PySem.Spec PyProof.Rows
section
variable {X : Cx}
theorem vals_strI : ∀ {ys : List Str} {us : List Value}, Vals (ys.map V.str) us → ∀ (m : Nat) (y : Str), ys[m]? = some y → ∃ t, us[m]? = some (.str y t)
  | [], _, .nil, m, y, h => by cases h
  | y' :: ys, _, .cons r t, 0, y, h => by
    cases h
    obtain ⟨tk, rfl⟩ := r
    exact ⟨tk, rfl⟩
  | y' :: ys, _, .cons r t, m + 1, y, h => by
    obtain ⟨tk, e⟩ := vals_strI t m y (by simpa using h)
    exact ⟨tk, by simpa using e⟩
theorem strs_flat : ∀ ys : List Str, (ys.map V.str).all flatV = true
  | [] => rfl
  | y :: ys => by
    rw [List.map_cons, List.all_cons, strs_flat ys]
    rfl
end
end L2
namespace DL
open PySem PySem.Spec PyProof.Rows L2
section
variable {X : Cx} {o e : Expr} {apos cpos : Pos} {g : Ds → Option D} {gA : Ds → Option (List D)}
end
end DL
namespace PySem.SeqAt
open AutoSeq1 (wpAny_loadPart')
open MeetsSeq MeetsSeq2 MeetsSeq3 SeqRoads2
theorem wpAny_forIn_range {M : Model} {A : Around} {E : Value → Shared → Prop} {s : Shared} {β : Type} (f : Nat → β → Sem (ForInStep β)) (I : List Nat → β → Shared → Prop) (Q : β → Shared → Prop)
    (turn : ∀ x rest b s, I (x :: rest) b s → wpAny M A (f x b) (fun r s' => match r with | .yield b' => I rest b' s' | .done b' => Q b' s') E s)
    (fin : ∀ b s, I [] b s → Q b s) (lo hi : Nat) (b : β) (h : I (List.range' lo (hi - lo)) b s) : wpAny M A (forIn [lo:hi] b f) Q E s := by
  have e : (forIn [lo:hi] b f : Sem β) = forIn (List.range' lo (hi - lo)) b f := by simp
  rw [e]
  exact wpAny_forIn_list f I Q turn fin _ b h
theorem tuple_indexAt (l : Addr) (items : Array Value) (n : Nat) (dd : Option Addr) (sl : Array (Option Value)) (x : Value) (e : Value → Bool) (j : Nat) (hj : j < items.size)
    (hit : e items[j] = true) (hno : ∀ m (hm : m < items.size), m < j → e items[m] = false) :
    Meets (Builtin.«tuple.index» ⟨[.ref l, x], []⟩)
      (fun A R s => s.heap.get? l = some { cls := .type "tuple", dict := dd, data := .seq items n, slots := sl } ∧ (∀ y, y ∈ items → EqAt A.in1 s y x (e y)) ∧ R (.ok (.ret (.int j s.toks))) { s with toks := s.toks + 1 }) :=
  .of_wp fun prog w A R s h => by
    obtain ⟨hp, g, d, tk, os⟩ := s; obtain ⟨hl, he, h⟩ := h
    wp_walk using wpAny_loadPart' hl, wpAny_forIn_range _ (fun rest b s' => b.1 = none ∧ s' = ⟨hp, g, d, tk, os⟩ ∧ ∃ i, i ≤ j ∧ rest = List.range' i (items.size - i)) _
    case turn =>
      rintro y rest b s' ⟨hb, rfl, i, hi, hr⟩
      have hlt : i < items.size := by omega
      have e1 : items.size - i = (items.size - (i + 1)) + 1 := by omega
      rw [e1, List.range'_succ] at hr
      obtain ⟨rfl, rfl⟩ := List.cons.inj hr
      have hy : items[y]? = some items[y] := by simp [hlt]
      rw [hy]
      refine wpAny_bind (he items[y] (Array.getElem_mem hlt) prog w _ _ ?_)
      by_cases hyj : y = j
      · subst hyj
        rw [hit]
        wp_walk
        exact ⟨_, rfl, h⟩
      · rw [hno y hlt (by omega)]
        wp_walk
        exact ⟨rfl, rfl, y + 1, by omega, rfl⟩
    case fin =>
      rintro b s' ⟨hb, rfl, i, hi, hr⟩
      have := congrArg List.length hr
      simp at this
      omega
    case h =>
      exact ⟨rfl, rfl, 0, Nat.zero_le _, by simp⟩
end PySem.SeqAt
namespace L2
open PySem PySem.Spec PyProof.Rows
noncomputable def CMulW (i j : Int) : Prop := i.natAbs.log2 ≤ 2000000 ∧ j.natAbs.log2 ≤ 2000
instance decMulW (i j : Int) : Decidable (CMulW i j) := inferInstanceAs (Decidable (i.natAbs.log2 ≤ 2000000 ∧ j.natAbs.log2 ≤ 2000))
theorem CMulW.ok {i j : Int} (h : CMulW i j) : IntMulOk i j := by
  obtain ⟨h1, h2⟩ := h
  have b1 : Builtin.Int.intBits i ≤ 2000001 := by unfold Builtin.Int.intBits; split <;> omega
  have b2 : Builtin.Int.intBits j ≤ 2001 := by unfold Builtin.Int.intBits; split <;> omega
  unfold IntMulOk Builtin.Int.intTooBig
  intro h
  rw [Bool.and_eq_true] at h
  have h3 := of_decide_eq_true h.2
  rw [bitsLine_eq] at h3
  omega
section
variable {X : Cx}
theorem op_mulW : OpR X (binaryOp .Mult) (rI CMulW fun i j => .int (i * j)) := opI fun _ _ _ _ _ _ _ hc q => mul_int q hc.ok
noncomputable def rIdxT (K : PySem.W.Frag) : V → List V → Hp → VK → Prop := fun x vs H Q => ∃ (p : Addr) (ys : List Str) (z : Str) (j : Nat), x = .ref p ∧ vs = [.str z] ∧ SqT K H p (ys.map V.str) ∧ ys[j]? = some z ∧ (∀ m, m < j → ys[m]? ≠ some z) ∧ Q (.int (j : Int)) H
theorem mt_idxT : MtR X "tuple.index" (rIdxT X.K) := by
  intro pins s σ H x vs v us Q I rx rv h
  obtain ⟨p, ys, z, j, rfl, rfl, hq, hj, hno, q⟩ := h
  cases rx
  obtain ⟨u, rfl, ru⟩ := rv.one
  obtain ⟨its, r, pl, hz⟩ := I.tuple hq
  obtain ⟨o, h1, h2, n, h3⟩ := id pl
  have hlen : its.length = ys.length := by rw [← r.length, List.length_map]
  have hjl : j < ys.length := (List.getElem?_eq_some_iff.mp hj).1
  have at_ : ∀ m (hm : m < its.toArray.size), ∃ y t, ys[m]? = some y ∧ its.toArray[m] = .str y t := fun m hm => by
    have hm' : m < ys.length := by rw [List.size_toArray] at hm; omega
    obtain ⟨t, e⟩ := vals_strI r m ys[m] (List.getElem?_eq_getElem hm')
    refine ⟨ys[m], t, List.getElem?_eq_getElem hm', ?_⟩
    have : its[m]? = some its[m] := List.getElem?_eq_getElem (by omega)
    rw [this] at e
    have e' := Option.some.inj e
    simpa using e'
  obtain ⟨c0, dd, dt, sl⟩ := o
  obtain rfl : c0 = .type "tuple" := h2
  obtain rfl : dt = .seq its.toArray n := h3
  obtain ⟨t, rfl⟩ := ru
  have eqs : ∀ (y : Str) (tk : Tok), eqU (.str z) (.str y tk) = true ↔ y = z := fun y tk => by
    show (eqV (.str y) (.str z)) = true ↔ _
    simp [eqV]
  refine call_meets (T := "tuple") F.slot_tuple_index (show s.TypeIs (.ref p) "tuple" from ⟨_, h1, rfl⟩) F.entry_tuple_index (F.args_tuple_index_2 _ _) (SeqAt.tuple_indexAt p its.toArray n dd sl (.str z t) (eqU (.str z)) j (by rw [List.size_toArray]; omega) ?_ ?_) ⟨h1, fun y hy => mem_eqAt (x := .str z) ⟨t, rfl⟩ rfl r (strs_flat ys) y (by simpa using hy), ⟨.int (j : Int), H, I.tok _, ⟨_, rfl⟩, q⟩⟩
  · obtain ⟨y, tk, e1, e2⟩ := at_ j (by rw [List.size_toArray]; omega)
    rw [e2, eqs]
    rw [hj] at e1
    cases e1
    rfl
  · intro m hm hlt
    obtain ⟨y, tk, e1, e2⟩ := at_ m hm
    rw [e2]
    cases hb : eqU (.str z) (.str y tk) with
    | false => rfl
    | true => exact absurd ((eqs y tk).mp hb ▸ e1) (hno m hlt)
end
noncomputable def TupK (K : PySem.W.Frag) (mg : Str → Option Value) (x : Str) (ys : List Str) : Prop :=
  ∃ (a : Addr) (o : Obj) (its : Array Value) (n : Nat), mg x = some (.ref a) ∧ K.lookup a = some o ∧ o.cls = .type "tuple" ∧ o.dict = none ∧ o.data = .seq its n ∧ its.size ≤ sizeLine ∧ Vals (ys.map V.str) its.toList
end L2
namespace DL
open PySem PySem.Spec PyProof.Rows L2
@[simp] noncomputable def mulW : D → D → Option D := ii fun i j => if i.natAbs.log2 ≤ 2000000 ∧ j.natAbs.log2 ≤ 2000 then some (.int (i * j)) else none
noncomputable def idxC (ys : List Str) : List D → Option D
  | [.str z] => (ys.findIdx? fun y => decide (y = z)).map fun j => .int (j : Int)
  | _ => none
section
variable {X : Cx} {a b e : Expr} {ga gb : GE} {gA : GA} {pos p0 apos cpos : Pos} {x : Str} {ys : List Str}
theorem pd_mulW (ha : PD X a ga) (hb : PD X b gb) : PD X (.BinOp a .Mult b pos) (o2 ga gb mulW) := pd_op op_mulW (op2_ii (C := CMulW) (g' := fun i j => .int (i * j)) fun _ _ _ _ => by rw [rp_int]) ha hb
theorem pd_gIdx (hK : TupK X.K X.mg x ys) (ha : PDA X [e] gA) (hg : Gl X x := by rfl) (hd : (x == ("__debug__" : Str)) = false := by decide)
    (hbase : attributeBase (.Name x p0) "index" X.env (eval (.Name x p0) X.env) = eval (.Name x p0) X.env := by rfl)
    (hfew : ((backTo cpos (starEach [e] X.env)).all (fun x => !x.1) && (backToKw cpos (keywordEach [] X.env)).all (fun x => x.1.isSome)
      && decide ([e].length + ([] : List Keyword).length + (if ([] : List Keyword).isEmpty then 0 else 1) < 30)) = true := by rfl)
    (hline : (apos.endLine == cpos.line) = true := by rfl) (hs : starEach [e] X.env = (false, eval e X.env) :: starEach [] X.env := by rfl) (hplain : (backTo cpos (starEach [] X.env)).any (·.1) = false := by rfl) :
    PD X (.Call (.Attribute (.Name x p0) "index" apos) [e] [] cpos) (oA gA (idxC ys)) := .mk fun B δ => by
  obtain ⟨p, o, its, n, hm, hk, hc, hdct, hdat, hsz, hv⟩ := hK
  refine (pe_bm F.plainAttrs_tuple F.slot_tuple_index F.type_tuple_index mt_idxT (pe_glob (v := .ref p) hg hm rfl hd) (ha B δ) hbase hfew hline hs hplain).imp fun σ H Q ⟨d, en, h, k⟩ => ?_
  unfold oA at h
  cases e2 : gA δ with
  | none => rw [e2] at h; cases h
  | some es =>
    rw [e2, Option.bind_some] at h
    unfold idxC at h
    split at h
    · rename_i z
      cases e4 : ys.findIdx? (fun y => decide (y = z)) with
      | none => rw [e4] at h; cases h
      | some j =>
        rw [e4] at h
        cases h
        refine ⟨.inr (.inl ⟨rfl, o, hk, hc, hdct⟩), _, en, e2, fun vs H2 s2 r2 => ?_⟩
        rw [rps_cons] at r2
        obtain ⟨y, rr, rfl, r3, r4⟩ := r2
        rw [rps_nil] at r4
        subst r4
        rw [rp_str] at r3
        subst r3
        obtain ⟨hj, h1, h2⟩ := List.findIdx?_eq_some_iff_getElem.mp e4
        refine ⟨p, ys, z, j, rfl, rfl, .inr ⟨o, its, n, hk, hc, hdat, hsz, hv⟩, ?_, fun m hm he => ?_, k _ _ s2 (by rw [rp_int])⟩
        · rw [List.getElem?_eq_getElem hj, of_decide_eq_true h1]
        · have hml : m < ys.length := by omega
          rw [List.getElem?_eq_getElem hml] at he
          exact h2 m hm (decide_eq_true (Option.some.inj he))
    · cases h
end
end DL
namespace Att
open PySem PySem.W PySem.Calls PyProof.Rows
theorem bits_of (W : Nat) : ∀ ns : List Int, WData.weightAll (ns.map .int) ≤ W → ∀ z ∈ ns, z.natAbs.log2 ≤ W
  | [], _, z, hz => by cases hz
  | n :: ns, h, z, hz => by
    rw [List.map_cons, WData.weightAll] at h
    rcases List.mem_cons.mp hz with rfl | hz
    · have h1 : WData.weight (.int z) ≤ W := by omega
      unfold WData.weight at h1
      by_cases q : z = 0
      · subst q; exact Nat.zero_le _
      · rw [if_neg (by simpa using q)] at h1
        omega
    · exact bits_of W ns (by omega) z hz
theorem attach_callW {l : OpenLaw} {n : Nat} {q : Program} {loose : List Str} {XP : (Str → Option Value) → Heap → Prop} {YP : World → Heap → Prop} {d : DefRec}
    (hn : l.most = some n) (hdf : d.params.defaults = [])
    (call : ∀ (w : World) (s₀ s₁ : Shared) (mg mb : Str → Option Value) (fa : Addr) (o : Obj) (pm cd doc : Value) (a : Addr) (vs : List Value) (ns : List Int),
      Ground q loose [] XP w s₀ mg mb s₁.heap → YP w s₁.heap →
      s₁.heap.get? fa = some o → o.data = .func (docDef d.name d.params d.body d.scope pm cd doc) → s₁.heap.CodeRec cd d.name → mg d.name = some (.ref fa) →
      s₁.heap.get? a = some { cls := .type "list", data := .seq vs.toArray } → IntsAre vs ns → ns.length ≤ n → (∀ z ∈ ns, z.natAbs.log2 ≤ 1048576) → s₁.gens = #[] →
      codeAny (model l.prog w) callerA (.call (.ref fa) ⟨[.ref a], []⟩) (fun r s' => r = .ok (.ret (.bool true)) ∧ OldK s₁.heap s'.heap ∧ s'.os = s₁.os ∧ AllBare s'.gens) s₁) :
    WalkO q loose XP YP l.row.toRowW d [] (fun f vs => PySem.call f vs) := by
  intro w s₀ s₁ mg mb G Y fa o pm cd doc dV kV ho hd hcd hD hmg hg args vals as hpre hlay hrd hwl hlo
  obtain rfl : dV = .none := Dflts.none hD hdf
  obtain rfl : kV = .none := Dflts.noKw hD
  obtain ⟨a, vs, ns, rfl, rfl, hobj, hints, hlen⟩ := script_of hn hpre hwl
  have hw : ∀ z ∈ ns, z.natAbs.log2 ≤ 1048576 := by
    have h1 : (WData.layable (.list (ns.map .int)) && true) = true := hlay
    rw [Bool.and_true] at h1
    unfold WData.layable at h1
    rw [Bool.and_eq_true] at h1
    have h2 : WData.weight (.list (ns.map .int)) ≤ 2 ^ 20 := of_decide_eq_true h1.2
    rw [WData.weight] at h2
    exact bits_of (2 ^ 20) ns h2
  refine enter_call (codeAny_mono (call w s₀ s₁ mg mb fa o pm cd doc a vs ns G Y ho (fd_plain hd) hcd hmg hobj hints hlen hw hg) fun r s' hq => ?_)
  obtain ⟨rfl, h2, h3, h4⟩ := hq
  exact ⟨.inl ⟨.bool true, .bool true, [], rfl, fun _ => rfl, .bool true, post_true l _, fun _ => ⟨List.Pairwise.nil, fun _ hm => (nomatch hm)⟩⟩, h2, h3, h4⟩
end Att
namespace L2
open PySem PySem.Spec PyProof.Rows
theorem walk_ofW {l : PySem.W.OpenLaw} {n k : Nat} {q : Program} {loose : List Str} {XP : (Str → Option Value) → Heap → Prop} {YP : World → Heap → Prop} {d : DefRec} {K : Params → PySem.W.Frag} {CX : CXT} {sp : PySem.W.Frag → Sp} {x : Str}
    (hn : l.most = some n) (hn2 : n ≤ sizeLine) (hdf : d.params.defaults = []) (hr : Room k callerA)
    (hY : ∀ (w : World) (h : Heap), YP w h → (K w.params).In h)
    (F : ∀ (w : World) (mg : Str → Option Value) (fa : Addr) (h : Heap), (K w.params).In h → h.Ns mainGlobals mg → mg d.name = some (.ref fa) →
      ∃ fd : FuncData, (∀ (s : Shared) (u : Value), BindsTo s fd ⟨[u], []⟩ [(x, u)]) ∧
        ∀ base : Heap, (K w.params).In base → base.Ns mainGlobals mg → FnOk l.prog w (K w.params) mg base CX k fa fd [x] (sp (K w.params)))
    (hsp : ∀ (K : PySem.W.Frag) (H : Hp) (a : Addr) (ns : List Int), ns.length ≤ n → (∀ z ∈ ns, z.natAbs.log2 ≤ 1048576) → Only H → SqL K H a (ns.map V.int) → sp K [.ref a] H (fun v _ => v = .bl true) fun _ _ _ => False)
    (hCX : ∀ (H : Hp) (s : Shared) (e : Value) (s' : Shared), CX [] H s (fun _ _ _ => False) e s' → False) :
    PySem.W.WalkO q loose XP YP l.row.toRowW d [] (fun f vs => PySem.call f vs) := by
  refine Att.attach_callW hn hdf fun w s₀ s₁ mg mb fa o pm cd doc a vs ns G Y ho hd hcd hmg hobj hints hlen hw hg => ?_
  have KX := hY w _ Y
  obtain ⟨fd, hb, hF⟩ := F w mg fa _ KX G.T.g hmg
  exact law_call KX G.T.g G.T.b G.T.builtins G.T.nolimit hg hobj hints (Nat.le_trans hlen hn2) hr hF hb (fun H hO hS => hsp (K w.params) H a ns hlen hw hO hS) fun H e s' => hCX H s₁ e s'
end L2
namespace L2
open PySem PySem.Spec PyProof.Rows
section
variable {X : Cx}
noncomputable def rIns : V → List V → Hp → VK → Prop := fun x vs H Q => ∃ l xs y k, x = .ref l ∧ vs = [.int ((k : Nat) : Int), y] ∧ H l = some (.lst xs) ∧ k ≤ xs.length ∧ xs.length < sizeLine ∧ Q .non (upd H l (.lst (xs.take k ++ y :: xs.drop k)))
theorem vals_ins : ∀ {xs : List V} {us : List Value} {y : V} {u : Value} (k : Nat), Vals xs us → RelV y u → Vals (xs.take k ++ y :: xs.drop k) (us.take k ++ u :: us.drop k)
  | _, _, _, _, 0, h, r => .cons r h
  | _, _, _, _, k + 1, .nil, r => .cons r .nil
  | _, _, _, _, k + 1, .cons q t, r => .cons q (vals_ins k t r)
theorem mt_ins : MtM X "list.insert" rIns := by
  intro pins s σ H x vs v us Q I rx rv h
  obtain ⟨l, xs, y, k, rfl, rfl, hH, hk, hz, q⟩ := h
  cases rx
  obtain ⟨u0, u, rfl, ru0, ru⟩ := rv.two
  obtain ⟨t0, rfl⟩ := ru0
  obtain ⟨z, its, n, r, hl, e⟩ := I.lstM hH
  have hlen : its.length = xs.length := r.length.symm
  have hsl : sizeLine < 2 ^ 62 := by decide
  obtain ⟨K, hK⟩ : ∃ K : Int, K = ((k : Nat) : Int) := ⟨_, rfl⟩
  rw [← hK]
  have hfit : Builtin.List.listFitsIndex K = true := by
    unfold Builtin.List.listFitsIndex
    rw [Bool.and_eq_true]
    exact ⟨decide_eq_true (by omega), decide_eq_true (by omega)⟩
  have hc0 : ¬ (!Builtin.List.listFitsIndex K) = true := by rw [hfit]; decide
  have hsz : its.toArray.size ≤ sizeLine := by rw [List.size_toArray]; omega
  have e1 : (if K < 0 then (K + ((its.toArray.size : Nat) : Int)).toNat else min K.toNat its.toArray.size) = k := by
    rw [if_neg (by omega), List.size_toArray, Nat.min_eq_left (by omega)]
    omega
  refine call_meets F.slot_list_insert ⟨_, e, rfl⟩ F.entry_list_insert (F.args_list_insert_3 (.ref l) (.int K t0) u) (PySem.AutoListH.list_insert_list_int_val_1 l its.toArray n K t0 u hc0 hsz) ⟨e, ?_⟩
  refine ⟨.non, _, I.lset (its' := its.take k ++ u :: its.drop k) hH e ?_ (vals_ins k r ru) ?_, rfl, q⟩
  · show (its.toArray.extract 0 (if K < 0 then (K + ((its.toArray.size : Nat) : Int)).toNat else min K.toNat its.toArray.size)).push u ++ its.toArray.extract (if K < 0 then (K + ((its.toArray.size : Nat) : Int)).toNat else min K.toNat its.toArray.size) = _
    rw [e1]
    apply Array.toList_inj.mp
    simp
    exact List.take_of_length_le (by rw [List.length_drop]; omega)
  · rw [List.length_append, List.length_cons, List.length_take, List.length_drop]; omega
end
end L2
namespace DL
open PySem PySem.Spec PyProof.Rows L2
noncomputable def insX (i : Nat) (gk g : GE) : GX := fun δ => (owL i δ).bind fun ds => (gk δ).bind fun k => (g δ).bind fun d => match k with
  | .int n => if 0 ≤ n ∧ n ≤ ds.length ∧ ds.length < sizeLine then some (.non, δ.set i (.ow (.lst (ds.take n.toNat ++ d :: ds.drop n.toNat)))) else none
  | _ => none
section
variable {X : Cx} {o e e0 : Expr} {g g0 : GE} {gA : GA} {x : Str} {px p0 apos cpos pos : Pos}
theorem px_ins (i : Nat) (h0 : PD X e0 g0) (h : PD X e g) (hN : X.N[i]? = some x := by rfl) (hv : Vis X.env.scope x := by first | exact Or.inl rfl | exact Or.inr (Or.inl rfl) | exact Or.inr (Or.inr rfl)) (hd : (x == ("__debug__" : Str)) = false := by decide) (hcd : (x == ("__classdict__" : Str)) = false := by decide)
    (hbase : attributeBase (.Name x px) "insert" X.env (eval (.Name x px) X.env) = eval (.Name x px) X.env := by rfl)
    (hfew : ((backTo cpos (starEach [e0, e] X.env)).all (fun x => !x.1) && (backToKw cpos (keywordEach [] X.env)).all (fun x => x.1.isSome)
      && decide (([e0, e] : List Expr).length + ([] : List Keyword).length + (if ([] : List Keyword).isEmpty then 0 else 1) < 30)) = true := by rfl)
    (hline : (apos.endLine == cpos.line) = true := by rfl) (hs : starEach [e0, e] X.env = (false, eval e0 X.env) :: starEach [e] X.env := by rfl) (hs1 : starEach [e] X.env = (false, eval e X.env) :: starEach [] X.env := by rfl) (hplain : (backTo cpos (starEach [e] X.env)).any (·.1) = false := by rfl) :
    PX X (.Call (.Attribute (.Name x px) "insert" apos) [e0, e] [] cpos) (insX i g0 g) := .mk fun H₀ B₀ δ pins s σ H Q I ⟨r, en, e1, k⟩ => by
  unfold insX at e1
  obtain ⟨B, b1, b2, env⟩ := en.ex
  cases e2 : owL i δ with
  | none => rw [e2] at e1; cases e1
  | some ds =>
    cases e4 : g0 δ with
    | none => rw [e2, e4] at e1; cases e1
    | some d0 =>
      cases e3 : g δ with
      | none => rw [e2, e4, e3] at e1; cases e1
      | some d =>
        rw [e2, e4, e3] at e1
        simp only [Option.bind_some] at e1
        cases d0 <;> simp only [] at e1 <;> try cases e1
        rename_i n
        split at e1
        · rename_i hz
          cases e1
          have hi := owL_eq e2
          obtain ⟨a, hs', hb, xs, hx, rx⟩ := env.at hi
          refine pe_bm PySem.F.plainAttrs_list PySem.F.slot_list_insert PySem.F.type_list_insert mt_ins (pe_var (i := i) hN hv hd hcd) (pa_cons (h0 B δ) (pa_cons (h B δ) pa_nil hs1) hs) hbase hfew hline hs hplain pins s σ H Q I
            ⟨_, hs', .inl ⟨rfl, xs, .inl (.inl hx)⟩, .int n, env, e4, fun v0 H0 s0 r0 => ⟨d, env.same s0, e3, fun v H1 s1 r1 => ?_⟩⟩
          rw [rp_int] at r0
          subst r0
          refine ⟨a, xs, v, n.toNat, rfl, by rw [Int.toNat_of_nonneg hz.1], s1 _ _ (s0 _ _ hx), by rw [rx.length]; omega, by rw [rx.length]; exact hz.2.2, ?_⟩
          have s01 := s0.trans s1
          have env2 : Env X.K (upd H1 a (.lst (xs.take n.toNat ++ v :: xs.drop n.toNat))) B σ (δ.set i (.ow (.lst (ds.take n.toNat ++ d :: ds.drop n.toNat)))) := (env.same s01).mut hi hs' ⟨_, upd_same, by
            have r2 : Rps X.K (upd H1 a (.lst (xs.take n.toNat ++ v :: xs.drop n.toNat))) B ds xs := (rx.same s01).mono (Gr.own hb)
            refine (r2.take _).append ?_
            rw [rps_cons]
            exact ⟨v, _, rfl, r1.mono (Gr.own hb), r2.drop _⟩⟩
          exact k _ _ (EnvV.mk' (en.mut s01 b1 b2 hi hs' env2) b1 b2 env2 (by rw [rp_non]))
        · cases e1
end
end DL
namespace L2
open PySem PySem.Spec PyProof.Rows
section
variable {X : Cx} {pins : List (Addr × Obj)} {σ : List (Option V)} {A : Around} {E : Value → Shared → Prop}
end
end L2
namespace L2
open PySem PySem.Spec PyProof.Rows
end L2
namespace DL
open PySem PySem.Spec PyProof.Rows L2
section
variable {K : PySem.W.Frag} {H : Hp} {B : BS}
end
section
variable {X : Cx} {e : Expr} {pos p : Pos} {g : Ds → Option D}
end
end DL
namespace DL
open PySem
end DL
namespace L2
open PySem PySem.Spec PyProof.Rows PySem.W
section
variable {X : Cx} {pins : List (Addr × Obj)} {σ : List (Option V)} {A : Around} {E : Value → Shared → Prop} {s : Shared} {H : Hp} {d : Addr} {kvs : List (Key × V)} {ys : List Str}
end
end L2
namespace L2
open PySem PySem.Spec PyProof.Rows
end L2
namespace DL
open PySem PySem.Spec PyProof.Rows L2
section
variable {X : Cx} {e : Expr} {pos p : Pos} {g : Ds → Option D}
end
end DL
namespace L2
open PySem PySem.Spec PyProof.Rows
open AutoSeq1 (wpAny_loadPart')
section
variable {prog : Program} {w : World} {A : Around} {E : Value → Shared → Prop} {s : Shared}
theorem nextOf_tuple_item {it l : Addr} {i : Nat} {items} {x : Value} {Q : Value → Shared → Prop} (hit : s.heap.IsTupleIter it l i) (hl : s.heap.IsTuple l items) (hx : items[i]? = some x)
    (hQ : ∀ h', h'.IsTupleIter it l (i + 1) → Heap.SameBut it s.heap h' → Q x { s with heap := h' }) : wpAny (model prog w) A (Builtin.SmallTypes.nextOf (.ref it)) Q E s := by
  obtain ⟨o, ho, hc, hd⟩ := id hit
  obtain ⟨ol, hol, _, nl, hdl⟩ := hl
  unfold Builtin.SmallTypes.nextOf
  refine wpAny_bind (wpAny_callSpecial?_slot (name := Str.ofString "__next__") hit.typeIs F.slot_tuple_iterator_next
    (wpAny_call_entry F.slot_tuple_iterator_next hit.typeIs F.entry_tuple_iterator_next ?_ (F.args_tuple_iterator_next_1 _)))
  show wpAny _ _ (field (.ref it) 0 >>= _) _ _ s
  refine wpAny_bind (wpAny_field ho hd (x := .ref l) rfl ?_)
  show wpAny _ _ (if (Value.ref l == Value.none) = true then _ else _) _ _ s
  rw [if_neg (show ¬ ((Value.ref l == Value.none) = true) from Bool.false_ne_true)]
  show wpAny _ _ (field (.ref it) 1 >>= _) _ _ s
  refine wpAny_bind (wpAny_field ho hd (x := .int i 0) rfl ?_)
  show wpAny _ _ (seqItems? (.ref l) >>= _) _ _ s
  refine wpAny_bind (wpAny_seqItems hol hdl ?_)
  simp only [Int.toNat_natCast, hx]
  refine wpAny_bind (wpAny_setField ho hd (by simp) (wpAny_pure ⟨x, rfl, wpAny_pure (hQ _ ?_ (Heap.SameBut.update ..))⟩))
  exact ⟨_, Heap.get?_update_self _ ho (Obj.isFreed_of_fields (Obj.data_mapFields hd _)), (Obj.cls_mapFields ..).trans hc, by
    rw [Obj.data_mapFields hd]; simp [rawInt]⟩
theorem nextOf_tuple_end {it l : Addr} {i : Nat} {items} {Q : Value → Shared → Prop} (hh : A.handled = none) (hit : s.heap.IsTupleIter it l i) (hl : s.heap.IsTuple l items) (hx : items[i]? = none)
    (hE : ∀ h' e, Heap.ExtBut it s.heap h' → (∃ o, h'.get? e = some o ∧ o.cls = .type "StopIteration") → E (.ref e) { s with heap := h' }) : wpAny (model prog w) A (Builtin.SmallTypes.nextOf (.ref it)) Q E s := by
  obtain ⟨o, ho, hc, hd⟩ := id hit
  obtain ⟨ol, hol, _, nl, hdl⟩ := hl
  unfold Builtin.SmallTypes.nextOf
  refine wpAny_bind (wpAny_callSpecial?_slot (name := Str.ofString "__next__") hit.typeIs F.slot_tuple_iterator_next
    (wpAny_call_entry F.slot_tuple_iterator_next hit.typeIs F.entry_tuple_iterator_next ?_ (F.args_tuple_iterator_next_1 _)))
  show wpAny _ _ (field (.ref it) 0 >>= _) _ _ s
  refine wpAny_bind (wpAny_field ho hd (x := .ref l) rfl ?_)
  show wpAny _ _ (if (Value.ref l == Value.none) = true then _ else _) _ _ s
  rw [if_neg (show ¬ ((Value.ref l == Value.none) = true) from Bool.false_ne_true)]
  show wpAny _ _ (field (.ref it) 1 >>= _) _ _ s
  refine wpAny_bind (wpAny_field ho hd (x := .int i 0) rfl ?_)
  show wpAny _ _ (seqItems? (.ref l) >>= _) _ _ s
  refine wpAny_bind (wpAny_seqItems hol hdl ?_)
  simp only [Int.toNat_natCast, hx]
  first
    | refine wpAny_bind (wpAny_rule (wpAny_bind (wpAny_setField ho hd (by simp) ?_)))
    | refine wpAny_bind (wpAny_rule (wpAny_bind (wpAny_setField ho hd (by simp) (wpAny_bind (wpAny_letGo ?_)))))
  show wpAny _ _ (newExc (.type "StopIteration") [] >>= _) _ _ _
  refine wpAny_bind ?_
  simp only [newExc, newTuple]
  refine wpAny_bind (wpAny_newObj_type ?_ (by size_fits))
  refine wpAny_bind (m := firstArgMember _ _) (wpAny_of_eq (a := Value.none) (by first | rfl | (simp only [firstArgMember]; rfl)) ?_)
  refine wpAny_newObj_type ?_ (by size_fits)
  simp only [raiseNew]
  refine wpAny_bind (wpAny_handled ?_)
  first | rw [show A.in1.handled = none from hh] | rw [hh]
  refine wpAny_bind (wpAny_pure (wpAny_throw ?_))
  exact hE _ _ (((Heap.SameBut.update ..).extBut.push _).push _) ⟨_, Heap.get?_push_size _ rfl, rfl⟩
theorem tupIter_at {h h' : Heap} {it l : Addr} {i : Nat} (x : h.IsTupleIter it l i) (k : ∀ o, h.get? it = some o → h'.get? it = some o) : h'.IsTupleIter it l i := let ⟨o, e, r⟩ := x; ⟨o, k o e, r⟩
end
section
variable {X : Cx} {elts : List Expr} {x1 : Nat} {tpos : Pos}
end
end L2
namespace DL
open PySem PySem.Spec PyProof.Rows L2
section
variable {X : Cx} {a : Expr} {gA : Ds → Option (List D)} {elts : List Expr} {x1 : Nat} {tpos p pos : Pos}
end
end DL
namespace DL
open PySem PySem.Spec PyProof.Rows L2
section
variable {X : Cx} {a0 e : Expr} {es : List Expr} {g0 : GE} {gA : GA} {pos posg p pg px : Pos}
end
end DL
namespace DL
open PySem PySem.Spec PyProof.Rows L2
section
variable {X : Cx} {root c0 : Str} {r : Addr} {cs rs : List Str} {body suite : List Stmt} {b₀ : Stmt} {np hp pos : Pos} {Gb : GZ} {Gh : GS}
end
end DL
namespace DL
open PySem PySem.Spec PyProof.Rows L2
section
variable {X : Cx} {o e f : Expr} {g : GE} {apos cpos : Pos}
end
end DL
namespace L2
open PySem PySem.Spec PyProof.Rows
open AutoSeq1 (wpAny_loadPart')
section
variable {prog : Program} {w : World} {A : Around} {E : Value → Shared → Prop} {s : Shared} {z TI TO i1 i2 l1 l2 : Addr} {k1 k2 : Nat} {xs ys : Array Value} {x y a b : Value}
theorem tupIter_but {h h' : Heap} {it l c : Addr} {i : Nat} (q : h.IsTupleIter it l i) (e : Heap.ExtBut c h h') (n : it ≠ c) : h'.IsTupleIter it l i := tupIter_at q fun o p => e _ _ n p
noncomputable def ZKeep (z TO i1 i2 : Addr) (h h' : Heap) : Prop := ∀ c o, c ≠ z → c ≠ TO → c ≠ i1 → c ≠ i2 → h.get? c = some o → h'.get? c = some o
end
end L2
namespace L2
open PySem PySem.Spec PyProof.Rows
open AutoSeq1 (wpAny_loadPart')
noncomputable abbrev wkT (h : Heap) (l : Addr) : Heap := h.push { cls := .type "tuple_iterator", data := .fields #[.ref l, .int 0 0] }
section
variable {X : Cx} {elts : List Expr} {x1 : Nat} {tpos : Pos}
end
end L2
namespace DL
open PySem PySem.Spec PyProof.Rows L2
section
variable {X : Cx} {a b : Expr} {gA : Ds → Option (List D)} {elts : List Expr} {x1 : Nat} {tpos p pos : Pos}
end
end DL
namespace L2
open PySem PySem.Spec PyProof.Rows
section
variable {X : Cx}
end
end L2
namespace DL
open PySem PySem.Spec PyProof.Rows L2
section
variable {X : Cx} {K : PySem.W.Frag} {a b : Expr} {ga gb : GE} {pos : Pos} {tg : Expr} {x : Str}
end
end DL
namespace DL
open PySem PySem.Spec PyProof.Rows L2
section
variable {X : Cx} {e : Expr} {es : List Expr} {gA : GA} {pos p px : Pos}
end
end DL
namespace DL
open PySem PySem.Spec PyProof.Rows L2
noncomputable def lent (p : Addr) (l : List D) : D := .tup [.int (p : Int), .lst l]
noncomputable def But (p : Addr) (H H' : Hp) : Prop := ∀ b o, b ≠ p → H b = some o → H' b = some o
section
variable {K : PySem.W.Frag} {H H' H₀ : Hp} {B B₀ : BS} {σ : St} {δ : Ds}
theorem rpl_lent {p a : Addr} {l : List D} : RpL K H B (lent p l) a ↔ a = p ∧ ∃ xs, H a = some (.lst xs) ∧ Rps K H B l xs := by
  constructor
  · rintro ⟨ds, e, xs, h, r⟩
    cases e
    exact ⟨rfl, xs, h, r⟩
  · rintro ⟨rfl, xs, h, r⟩
    exact ⟨l, rfl, xs, h, r⟩
theorem Gr.but {p : Addr} (hb : B p) (h : But p H H') : Gr H H' B B := fun b u n e => ⟨n, h b u (fun z => n (z ▸ hb)) e⟩
theorem Env.mutB (e : Env K H B σ δ) {i : Nat} {d0 d : D} {a : Addr} (hi : δ[i]? = some (.ow d0)) (hs : σ[i]? = some (some (.ref a))) (hh : But a H H') (r : RpL K H' B d a) : Env K H' B σ (δ.set i (.ow d)) := by
  obtain ⟨a', h1, hb, _⟩ := e.at hi
  rw [hs] at h1
  cases h1
  refine ⟨?_, fun b z => ?_, fun j k b ds es h1 h2 h3 h4 => ?_⟩
  · have h0 : Paired (fun (o' : Option V) (s : Sl) => SlR K H' B o' s ∨ (∃ d, s = .ow d ∧ o' = some (.ref a))) σ δ := Pd.imp (fun o' s h => by
      cases s with
      | un => exact .inl trivial
      | ex c n => obtain ⟨v, e, r⟩ := h; exact .inl ⟨v, e, r.mono (Gr.but hb hh)⟩
      | sh d => obtain ⟨v, e, r⟩ := h; exact .inl ⟨v, e, r.mono (Gr.but hb hh)⟩
      | ow d =>
        obtain ⟨b, e, hb', r⟩ := h
        by_cases z : b = a
        · subst z; exact .inr ⟨d, rfl, e⟩
        · exact .inl ⟨b, e, hb', r.mono (fun o h => hh b o z h) (Gr.but hb hh)⟩) e.all
    have h1 := Pd.setR (i := i) (b := Sl.ow d) (.inl ⟨a, rfl, hb, r⟩) hs h0
    refine Pd.impI (fun j o' s e1 e2 h => ?_) h1
    rcases h with h | ⟨d', rfl, rfl⟩
    · exact h
    · rcases get_set e2 with ⟨rfl, e3, _⟩ | ⟨hne, e3⟩
      · cases e3; exact ⟨a, rfl, hb, r⟩
      · exact absurd (e.own i j a d0 d' hi e3 hs e1) hne
  · by_cases z' : b = a
    · subst z'; exact r.live
    · cases q : H b with
      | none => exact absurd q (e.bad b z)
      | some o => rw [hh b o z' q]; exact fun z => nomatch z
  · have q1 : ∃ d, δ[j]? = some (.ow d) := by
      rcases get_set h1 with ⟨rfl, _, _⟩ | ⟨_, h⟩
      · exact ⟨_, hi⟩
      · exact ⟨_, h⟩
    have q2 : ∃ d, δ[k]? = some (.ow d) := by
      rcases get_set h2 with ⟨rfl, _, _⟩ | ⟨_, h⟩
      · exact ⟨_, hi⟩
      · exact ⟨_, h⟩
    obtain ⟨d1, q1⟩ := q1
    obtain ⟨d2, q2⟩ := q2
    exact e.own j k b d1 d2 q1 q2 h3 h4
theorem EnvS.mutB (en : EnvS K H₀ B₀ H σ δ) (b1 : ∀ a, B₀ a → B a) (b2 : ∀ a, B a → B₀ a ∨ H₀ a = none) {i : Nat} {d0 d : D} {a : Addr} (hi : δ[i]? = some (.ow d0)) (hs : σ[i]? = some (some (.ref a))) (hh : But a H H')
    (env : Env K H' B σ (δ.set i (.ow d))) : EnvS K H₀ B₀ H' σ (δ.set i (.ow d)) := by
  have h0 := en.fr i d0 a hi hs
  refine ⟨fun b u h => ?_, ⟨B, b1, b2, env⟩, fun j ds b h1 h2 => ?_, en.b0⟩
  · have : b ≠ a := fun z => by rw [z, h0] at h; cases h
    exact hh _ _ this (en.same b u h)
  · rcases get_set h1 with ⟨rfl, _, _⟩ | ⟨_, h⟩
    · rw [hs] at h2; cases h2; exact h0
    · exact en.fr j ds b h h2
end
noncomputable def spM (K : PySem.W.Frag) (me : Bool) (f : List D → Option (List D)) : Sp := fun vs H Q _ => ∃ (B : BS) (ds : List D) (us : List V) (p : Addr) (l l' : List D), (∀ a, B a → H a ≠ none) ∧ B p ∧ vs = us ++ [.ref p] ∧ Rps K H B ds us ∧ (∃ xs, H p = some (.lst xs) ∧ Rps K H B l xs) ∧ f (ds ++ [.lst l]) = some l' ∧
  ∀ H', But p H H' → (∃ xs, H' p = some (.lst xs) ∧ Rps K H' B l' xs) → Q (if me = true then .ref p else .non) H'
structure FnM (P : Program) (w : World) (K : PySem.W.Frag) (mg : Str → Option Value) (base : Heap) (x : Str) (k : Nat) (ps : List Str) (me : Bool) (f : List D → Option (List D)) : Prop where
  ex : ∃ fa fd, FnOk P w K mg base CX0 k fa fd ps (spM K me f) ∧ mg x = some (.ref fa) ∧ PySem.W.keepIn K (.ref fa) = true ∧ Binds K fd ps []
@[simp] noncomputable def dStartM (N : List Str) (ds : List D) (p : Addr) (l : List D) : Ds := ds.map .sh ++ .ow (lent p l) :: List.replicate (N.length - (ds.length + 1)) .un
theorem startM_ow {N : List Str} {ds : List D} {p : Addr} {l : List D} {i : Nat} {d : D} (h : (dStartM N ds p l)[i]? = some (.ow d)) : i = ds.length ∧ d = lent p l := by
  unfold dStartM at h
  by_cases hi : i < ds.length
  · rw [List.getElem?_append_left (by simpa using hi), List.getElem?_map] at h
    cases q : ds[i]? with
    | none => rw [q] at h; cases h
    | some x => rw [q] at h; cases h
  · rw [List.getElem?_append_right (by simpa using hi), List.length_map] at h
    cases q : i - ds.length with
    | zero => rw [q] at h; cases h; exact ⟨by omega, rfl⟩
    | succ n =>
      rw [q, List.getElem?_cons_succ, List.getElem?_replicate] at h
      split at h <;> cases h
section
variable {P : Program} {w : World} {K : PySem.W.Frag} {mg : Str → Option Value} {base : Heap}
theorem okM {x qual : Str} {st : Stmt} {fa : Addr} {fd : FuncData} {N ps : List Str} {k : Nat} {me : Bool} {f : List D → Option (List D)} {G : Ds → Option Res} (F : Fun K x qual st fa fd) (S : FnScope N ps (defScope st))
    (body : ∀ (cdv : Value) (A : Around) (outer : List PySem.Env) (s : Shared) (H : Hp) (E : XK), Room k (A.deeper (envOfC qual (defScope st) s.heap.objs.size fa cdv)) → PSsD (cxOf CX0 P w K mg base N qual (defScope st) fa cdv A outer s H E).nox (defBody st) G)
    (hf : ∀ ds l l', f (ds ++ [.lst l]) = some l' → (ds ++ [D.lst l]).length = ps.length ∧ ∀ p, (me = true ∧ G (dStartM N ds p l) = some (.rf (lent p l'))) ∨ (me = false ∧ ∃ δ', G (dStartM N ds p l) = some (.nx δ') ∧ δ'[ds.length]? = some (.ow (lent p l')))) :
    FnOk P w K mg base CX0 (k + 1) fa fd ps (spM K me f) := by
  refine F.ok S (fun vs H Q E ⟨B, ds, us, p, l, l', _, _, hv, r, _, h, _⟩ => ?_) (fun cdv A outer s H vs Q E hr ⟨B, ds, us, p, l, l', hb, hp, hv, r, ⟨xs, hx, rx⟩, h, q⟩ => ?_)
  · rw [hv, List.length_append, r.length]
    have := (hf ds l l' h).1
    rw [List.length_append] at this
    exact this
  · subst hv
    refine ⟨_, body cdv A outer s H E hr (fun a => if a = p then none else H a) (fun a => B a ∧ a ≠ p) (dStartM N ds p l), ?_⟩
    have sm : Same (fun a => if a = p then none else H a) H := fun b o e => by
      by_cases z : b = p
      · simp only [z, if_true] at e; cases e
      · simp only [z, if_false] at e; exact e
    have sb : ∀ {H' : Hp}, Same (fun a => if a = p then none else H a) H' → But p H H' := fun s' b o z e => s' b o (by simp only [z, if_false]; exact e)
    have en : EnvS K (fun a => if a = p then none else H a) (fun a => B a ∧ a ≠ p) H (L2.start N (us ++ [.ref p])) (dStartM N ds p l) := by
      refine ⟨sm, ⟨B, fun _ z => z.1, fun a z => ?_, ⟨?_, hb, fun i j a ds' es h1 h2 _ _ => ?_⟩⟩, fun i ds' a h1 h2 => ?_, fun a z => ?_⟩
      · by_cases q : a = p
        · exact .inr (by simp only [q, if_true])
        · exact .inl ⟨z, q⟩
      · unfold L2.start dStartM
        rw [List.map_append, List.append_assoc, List.length_append, r.length]
        exact Pd.app (start_rel (N := N) r) (.cons ⟨p, rfl, hp, rpl_lent.mpr ⟨rfl, xs, hx, rx⟩⟩ (rep_un _))
      · rw [(startM_ow h1).1, (startM_ow h2).1]
      · obtain ⟨rfl, _⟩ := startM_ow h1
        have : (L2.start N (us ++ [.ref p]))[ds.length]? = some (some (.ref p)) := by
          unfold L2.start
          rw [← r.length, List.map_append, List.append_assoc, List.getElem?_append_right (by simp), List.length_map, Nat.sub_self]
          rfl
        rw [this] at h2
        cases h2
        simp only [if_true]
      · simp only [z.2, if_false]
        exact hb a z.1
    have less : ∀ a, B a → (B a ∧ a ≠ p) ∨ a = p := fun a z => by
      by_cases q : a = p
      · exact .inr q
      · exact .inl ⟨z, q⟩
    rcases (hf ds l l' h).2 p with ⟨m, e⟩ | ⟨m, δ', e, e'⟩
    · refine ⟨_, en, e, fun a H' _ s' r' => ?_⟩
      obtain ⟨rfl, ys, hy, ry⟩ := rpl_lent.mp r'
      have := q H' (sb s') ⟨ys, hy, ry.mono (Gr.less less)⟩
      rw [m] at this
      exact this
    · refine ⟨_, en, e, fun σ' H' en' => ?_⟩
      obtain ⟨B', c1, c2, env'⟩ := en'.ex
      obtain ⟨a, h1, hB, rl⟩ := env'.at e'
      obtain ⟨rfl, ys, hy, ry⟩ := rpl_lent.mp rl
      have := q H' (sb en'.same) ⟨ys, hy, ry.mono (Gr.less fun b z => by
        by_cases q : b = a
        · rw [q]; exact hB
        · exact c1 b ⟨z, q⟩)⟩
      rw [m] at this
      exact this
end
noncomputable def callM (i : Nat) (gA : GA) (f : List D → Option (List D)) : GS := fun δ => (gA δ).bind fun ds => match δ[i]? with
  | some (.ow (.lst l)) => (f (ds ++ [.lst l])).map fun l' => .nx (δ.set i (.ow (.lst l')))
  | some (.ow (.tup [.int p, .lst l])) => (f (ds ++ [.lst l])).map fun l' => .nx (δ.set i (.ow (.tup [.int p, .lst l'])))
  | _ => none
structure PAM (X : Cx) (i : Nat) (es : List Expr) (gA : GA) : Prop where
  mk :: go : ∀ B δ, PA X es (fun σ H Q => ∃ ds a, Env X.K H B σ δ ∧ gA δ = some ds ∧ σ[i]? = some (some (.ref a)) ∧ ∀ vs H', Same H H' → Rps X.K H' B ds vs → Q (vs ++ [.ref a]) H')
section
variable {X : Cx} {e : Expr} {es : List Expr} {g : GE} {gA : GA} {pos p px : Pos} {y : Str}
theorem pam_own (i : Nat) (hN : X.N[i]? = some y := by rfl) (hv : Vis X.env.scope y := by first | exact Or.inl rfl | exact Or.inr (Or.inl rfl) | exact Or.inr (Or.inr rfl)) (hd : (y == ("__debug__" : Str)) = false := by decide) (hcd : (y == ("__classdict__" : Str)) = false := by decide)
    (hs : starEach [.Name y px] X.env = (false, eval (.Name y px) X.env) :: starEach [] X.env := by rfl) : PAM X i [.Name y px] nilA := .mk fun B δ => (pa_cons (pe_var (i := i) hN hv hd hcd) pa_nil hs).imp fun σ H Q ⟨ds, a, en, h, hi, k⟩ => by
  cases h
  exact ⟨_, hi, k [] H (Same.refl H) (by rw [rps_nil])⟩
theorem pam_cons {i : Nat} (ha : PD X e g) (hr : PAM X i es gA) (hs : starEach (e :: es) X.env = (false, eval e X.env) :: starEach es X.env := by rfl) : PAM X i (e :: es) (consA g gA) :=
  .mk fun B δ => (pa_cons (ha B δ) (hr.go B δ) hs).imp fun σ H Q ⟨ds, a, en, h, hi, k⟩ => by
    unfold consA at h
    cases e1 : g δ with
    | none => rw [e1] at h; cases h
    | some d =>
      cases e2 : gA δ with
      | none => rw [e1, e2] at h; cases h
      | some es' =>
        rw [e1, e2] at h
        cases h
        refine ⟨d, en, e1, fun v H1 s1 r1 => ⟨es', a, en.same s1, rfl, hi, fun vs H2 s2 r2 => ?_⟩⟩
        have := k (v :: vs) H2 (s1.trans s2) (by rw [rps_cons]; exact ⟨v, vs, rfl, r1.same s2, r2⟩)
        exact this
theorem psd_callM (i : Nat) {x : Str} {k m : Nat} {ps : List Str} {me : Bool} {f : List D → Option (List D)} (C : FnM X.prog X.w X.K X.mg X.base x k ps me f) (hr : Room m X.A) (hk : k ≤ m) (ha : PAM X i (e :: es) gA)
    (hg : Gl X x := by rfl) (hdb : (x == ("__debug__" : Str)) = false := by decide) (he : starEach (e :: es) X.env = (false, eval e X.env) :: starEach es X.env := by rfl) (hpl : (backTo pos (starEach es X.env)).any (·.1) = false := by rfl)
    {ap : Pos} (hs : swapsWith (.Call (.Name x p) (e :: es) [] pos) none ap.line X.env = pure false := by rfl) :
    PSD X (.Expr (.Call (.Name x p) (e :: es) [] pos) ap) (callM i gA f) := .mk fun H₀ B₀ δ pins s σ H D I ⟨r, en, e1, kk⟩ => by
  unfold callM at e1
  obtain ⟨B, b1, b2, env⟩ := en.ex
  obtain ⟨fa, fd, F, hm, hkp, hb⟩ := C.ex
  cases e2 : gA δ with
  | none => rw [e2] at e1; cases e1
  | some ds =>
    rw [e2, Option.bind_some] at e1
    have go : ∀ {d0 : DL.D} {l l' : List DL.D} (mk : List DL.D → DL.D), δ[i]? = some (.ow d0) → d0 = mk l → (∀ a, RpL X.K H B d0 a → ∃ xs, H a = some (.lst xs) ∧ Rps X.K H B l xs) → (∀ H' a, RpL X.K H B d0 a → (∃ xs, H' a = some (.lst xs) ∧ Rps X.K H' B l' xs) → RpL X.K H' B (mk l') a) → f (ds ++ [.lst l]) = some l' →
        ResK X.K H₀ B₀ D (.nx (δ.set i (.ow (mk l')))) → wpAny (model X.prog X.w) X.A (exec (.Expr (.Call (.Name x p) (e :: es) [] pos) ap) X.env) (SP X pins D) X.xe s := by
      intro d0 l l' mk hi hd h1 h2 hf hD
      obtain ⟨a, hs', hB, ro⟩ := env.at hi
      obtain ⟨xs, hx, rx⟩ := h1 a ro
      refine ps_expr (pe_call (E := E0) F (hr.mono hk) hg hm hkp hb .nil pass0 (ha.go B δ) hdb he hpl) hs pins s σ H D I ⟨ds, a, env, e2, hs', fun vs H1 s1 r1 => ?_⟩
      show spM X.K me f ((vs ++ [.ref a]) ++ []) H1 _ _
      rw [List.append_nil]
      refine ⟨B, ds, vs, a, l, l', (env.same s1).bad, hB, rfl, r1, ⟨xs, s1 _ _ hx, rx.same s1⟩, hf, fun H' hh hl' => ?_⟩
      have hh' : But a H H' := fun b o n e => hh b o n (s1 b o e)
      have env2 : Env X.K H' B σ (δ.set i (.ow (mk l'))) := env.mutB hi hs' hh' (h2 H' a ro hl')
      exact hD σ H' (en.mutB b1 b2 hi hs' hh' env2)
    split at e1
    · rename_i l hi
      cases e3 : f (ds ++ [.lst l]) with
      | none => rw [e3] at e1; cases e1
      | some l' =>
        rw [e3] at e1
        cases e1
        exact go .lst hi rfl (fun a h => h) (fun H' a _ h => h) e3 kk
    · rename_i q l hi
      cases e3 : f (ds ++ [.lst l]) with
      | none => rw [e3] at e1; cases e1
      | some l' =>
        rw [e3] at e1
        cases e1
        refine go (fun l => .tup [.int q, .lst l]) hi rfl (fun a ⟨ds, e, h⟩ => ?_) (fun H' a ⟨ds, e, _⟩ h => ⟨l', ?_, h⟩) e3 kk
        · cases e; exact h
        · cases e; rfl
    · cases e1
end
noncomputable def appL (i : Nat) (g : GE) : GX := fun δ => (g δ).bind fun d => match δ[i]? with
  | some (.ow (.tup [.int p, .lst l])) => if l.length < sizeLine then some (.non, δ.set i (.ow (.tup [.int p, .lst (l ++ [d])]))) else none
  | _ => none
section
variable {X : Cx} {e : Expr} {g : GE} {x : Str} {px apos cpos : Pos}
theorem px_appL (i : Nat) (h : PD X e g) (hN : X.N[i]? = some x := by rfl) (hv : Vis X.env.scope x := by first | exact Or.inl rfl | exact Or.inr (Or.inl rfl) | exact Or.inr (Or.inr rfl)) (hd : (x == ("__debug__" : Str)) = false := by decide) (hcd : (x == ("__classdict__" : Str)) = false := by decide)
    (hbase : attributeBase (.Name x px) "append" X.env (eval (.Name x px) X.env) = eval (.Name x px) X.env := by rfl)
    (hfew : ((backTo cpos (starEach [e] X.env)).all (fun x => !x.1) && (backToKw cpos (keywordEach [] X.env)).all (fun x => x.1.isSome)
      && decide (([e] : List Expr).length + ([] : List Keyword).length + (if ([] : List Keyword).isEmpty then 0 else 1) < 30)) = true := by rfl)
    (hline : (apos.endLine == cpos.line) = true := by rfl) (hs : starEach [e] X.env = (false, eval e X.env) :: starEach [] X.env := by rfl) (hplain : (backTo cpos (starEach [] X.env)).any (·.1) = false := by rfl) :
    PX X (.Call (.Attribute (.Name x px) "append" apos) [e] [] cpos) (appL i g) := .mk fun H₀ B₀ δ pins s σ H Q I ⟨r, en, e1, k⟩ => by
  unfold appL at e1
  obtain ⟨B, b1, b2, env⟩ := en.ex
  cases e3 : g δ with
  | none => rw [e3] at e1; cases e1
  | some d =>
    rw [e3, Option.bind_some] at e1
    split at e1
    · rename_i p ds hi
      split at e1
      · rename_i hz
        cases e1
        obtain ⟨a, hs', hb, ds', hq, xs, hx, rx⟩ := env.at hi
        cases hq
        refine pe_bm PySem.F.plainAttrs_list PySem.F.slot_list_append PySem.F.type_list_append mt_append (pe_var (i := i) hN hv hd hcd) (pa_cons (h B δ) pa_nil hs) hbase hfew hline hs hplain pins s σ H Q I
          ⟨_, hs', .inl ⟨rfl, xs, .inl (.inl hx)⟩, d, env, e3, fun v H1 s1 r1 => ⟨a, xs, v, rfl, rfl, s1 _ _ hx, by rw [rx.length]; exact hz, ?_⟩⟩
        have env2 : Env X.K (upd H1 a (.lst (xs ++ [v]))) B σ (δ.set i (.ow (.tup [.int (a : Int), .lst (ds ++ [d])]))) := (env.same s1).mut hi hs' ⟨_, rfl, _, upd_same, (Rps.snoc (rx.same s1) r1).mono (Gr.own hb)⟩
        exact k _ _ (EnvV.mk' (en.mut s1 b1 b2 hi hs' env2) b1 b2 env2 (by rw [rp_non]))
      · cases e1
    · cases e1
end
end DL
namespace EnS
open PySem PySem.Spec PyProof.Rows
section
variable {M : Model} {A : Around} {E : Value → Shared → Prop} {s : Shared} {env : Env}
theorem with_kw {pos : Pos} {T : String} {x : Sem Value} {more : List (Bool × Sem Value)} {kws : List (Option Str × Sem Value)} {Q : Value → Shared → Prop} (p1 : ((false, x) :: more).any (·.1) = false) (p2 : kws.any (·.1.isNone) = false) (p3 : kws.all (·.1.isSome) = true)
    (h : wpAny M A (spliced ((false, x) :: more)) (fun vs s1 => wpAny M A (evalAll (kws.map (·.2))) (fun ks s2 => wpAny M A (call (.type T) vs ((kws.filterMap (·.1)).zip ks)) Q E s2) E s1) E s) :
    wpAny M A (callWith pos (.type T) [] ((false, x) :: more) kws) Q E s := by
  unfold callWith
  have h0 := evalArgs_kwB (f := .type T) (Q := fun a s1 => wpAny M A (call (.type T) a.pos a.kw) Q E s1) p3 h
  refine wpAny_bind (wpAny_holding (wpAny_mono h0 (fun a s1 g => wpAny_bind (wpAny_standAt ?_)) fun _ _ z => z))
  simp only [p1, p2, Bool.or_false]
  refine wpAny_bind (wpAny_pure ?_)
  refine wpAny_bind (wpAny_mono g (fun r s2 hr => ?_) fun _ _ z => z)
  exact wpAny_bind (wpAny_holding (wpAny_point (wpAny_pure hr)))
end
theorem typeCall (a b : Value) : checkTypeCall "enumerate" ⟨[a], [("start", b)]⟩ = pure () := by kernel_rfl
theorem newCall (a b : Value) : checkBuiltinCall "enumerate.__new__" ⟨[.type "enumerate", a], [("start", b)]⟩ = pure () := by kernel_rfl
theorem initArgs (o a b : Value) : argsOk "object.__init__" ⟨[o, a], [("start", b)]⟩ := by first | kernel_rfl | (unfold argsOk; rfl) | trivial
set_option maxHeartbeats 1000000 in
theorem newS (l : Addr) (items : Array Value) (n : Nat) (dc : Option Addr) (sl : Array (Option Value)) (k : Int) (t : Tok) (hk : Builtin.SmallTypes.fitsIndex k = true) :
    Meets (Builtin.«enumerate.__new__» ⟨[.type "enumerate", .ref l], [("start", .int k t)]⟩) (fun _ R s => s.heap.get? l = some { cls := .type "list", dict := dc, data := .seq items n, slots := sl } ∧
      R (.ok (.ret (.ref (s.heap.push { cls := .type "list_iterator", data := .fields #[.ref l, .int 0 0] }).objs.size)))
        { s with heap := (s.heap.push { cls := .type "list_iterator", data := .fields #[.ref l, .int 0 0] }).push { cls := .type "enumerate", data := .fields #[.none, .bool false, .ref s.heap.objs.size, rawInt k, .none, .none] } }) :=
  .of_wp fun prog w A R s h => by
    obtain ⟨hp, g, d, tk, os⟩ := s; obtain ⟨hl, h⟩ := h
    have q1 := sub_enumerate
    have q2 : Heap.IsList (Shared.heap ⟨hp, g, d, tk, os⟩) l items := ⟨_, hl, rfl, n, rfl⟩
    have q3 := AutoSeq1.idx_int
    have q4 : ¬ ((!Builtin.SmallTypes.fitsIndex k) = true) := by rw [hk]; decide
    wp_walk using wpAny_loadPart' hl
    refine wpAny_stack_any fun st => wpAny_pure ?_
    split
    · rename_i c _ _ _ _ _
      cases (c == Value.type "enumerate")
      · wp_walk using wpAny_loadPart' hl, wpAny_pyIter_list q2
        exact ⟨_, rfl, h⟩
      · wp_walk using wpAny_loadPart' hl, wpAny_pyIter_list q2
        exact ⟨_, rfl, h⟩
    · wp_walk using wpAny_loadPart' hl, wpAny_pyIter_list q2
      exact ⟨_, rfl, h⟩
section
variable {prog : Program} {w : World} {A : Around} {E : Value → Shared → Prop} {s : Shared}
theorem init_kw (self a b : Value) : Meets (Builtin.«object.__init__» ⟨[self, a], [("start", b)]⟩) (fun _ R s => s.TypeIs self "enumerate" ∧ R (.ok (.ret .none)) s) := by
  refine Meets.of_wp fun prog w A R s hs => ?_
  obtain ⟨q1, q2⟩ := hs
  have q3 := F.called_enumerate.init.lookup
  have q4 := F.called_enumerate.made
  have q5 : (some "enumerate.__new__" != some "object.__new__") = true := by decide
  repeat (any_goals (first | assumption | wp_step))
  exact ⟨_, rfl, q2⟩
theorem call_kw {l b : Value} {S : PySem.Spec} {Q : Value → Shared → Prop} (g : Meets (Builtin.«enumerate.__new__» ⟨[.type "enumerate", l], [("start", b)]⟩) S)
    (h : S A.in1 (wants (fun o s1 => s1.TypeIs o "enumerate" ∧ Q o s1) E) s) : wpAny (model prog w) A (call (.type "enumerate") [l] [("start", b)]) Q E s := by
  have ft := F.called_enumerate
  obtain ⟨c, tl, m1⟩ := ft.mro
  have m2 := ft.made
  have m3 := ft.sub
  have m4 := ft.notType
  have m5 := ft.canCreate
  have m6 := typeCall l b
  refine wpAny_call (codeAny_of_tree ?_)
  show wpAny _ _ (callAny (.type "enumerate") _) _ _ _
  refine wpAny_pure ⟨Code.quiet_builtin _ (by decide +kernel), codeAny_builtin F.entry_type_call ?_⟩
  rw [Around.under_plain (weight_type_call_type "enumerate" [l] [("start", b)]) (units_type_call_type "enumerate" [l] [("start", b)])]
  repeat (any_goals (first | assumption | wp_step))
  refine codeAny_mono (codeAny_call_builtin ft.plain F.entry_enumerate_new (wpAny_of_eq (newCall l b) (g prog w A.in1 _ s h))) fun r s1 hr => ?_
  cases r with
  | error e => exact hr
  | ok fl =>
    cases fl with
    | ret o =>
      obtain ⟨hT, hq⟩ := hr
      have n1 := ft.init.lookup
      have n2 := ft.init.bind o
      repeat (any_goals (first | assumption | wp_step))
      have hi := init_kw o l b prog w A.in1 (wants (fun r s2 => r = .none ∧ Q o s2) E) s1 ⟨hT, rfl, hq⟩
      refine codeAny_mono (codeAny_call_builtin ft.init.plain F.entry_object_init (ft.init.check _ _ _ _ _ _ _ _ hT (initArgs o l b) hi)) fun r2 s2 hr2 => ?_
      cases r2 with
      | error e => exact hr2
      | ok f2 =>
        cases f2 with
        | ret r =>
          obtain ⟨z, hz⟩ := hr2
          subst z
          repeat (any_goals (first | assumption | wp_step))
        | _ => exact hr2.elim
    | _ => exact hr.elim
end
section
variable {prog : Program} {w : World} {A : Around} {E : Value → Shared → Prop} {s : Shared}
theorem call_list {l : Addr} {items : Array Value} {k : Int} {t : Tok} {Q : Value → Shared → Prop} (hk : Builtin.SmallTypes.fitsIndex k = true) (hL : s.heap.IsList l items)
    (h : ∀ h', IsEnum h' (s.heap.objs.size + 1) s.heap.objs.size k .none → h'.IsListIter s.heap.objs.size l 0 → (∀ b o, s.heap.get? b = some o → h'.get? b = some o) → Q (.ref (s.heap.objs.size + 1)) { s with heap := h' }) :
    wpAny (model prog w) A (call (.type "enumerate") [.ref l] [("start", .int k t)]) Q E s := by
  obtain ⟨⟨c, dc, dt, sl⟩, hl, hc, n, hd⟩ := hL
  replace hc : c = .type "list" := hc
  replace hd : dt = .seq items n := hd
  subst hc hd
  refine call_kw (newS l items n dc sl k t hk) ⟨hl, ?_⟩
  have hz : (s.heap.push { cls := .type "list_iterator", data := .fields #[.ref l, .int 0 0] }).objs.size = s.heap.objs.size + 1 := Heap.size_push ..
  show _ ∧ _
  rw [hz]
  have he : IsEnum ((s.heap.push { cls := .type "list_iterator", data := .fields #[.ref l, .int 0 0] }).push { cls := .type "enumerate", data := .fields #[.none, .bool false, .ref s.heap.objs.size, rawInt k, .none, .none] }) (s.heap.objs.size + 1) s.heap.objs.size k .none := by
    have z := Heap.get?_push_size (s.heap.push { cls := .type "list_iterator", data := .fields #[.ref l, .int 0 0] }) (o := { cls := .type "enumerate", data := .fields #[.none, .bool false, .ref s.heap.objs.size, rawInt k, .none, .none] }) rfl
    rw [hz] at z
    exact z
  exact ⟨⟨_, he, rfl⟩, h _ he ⟨_, Heap.get?_push_of_some _ (Heap.get?_push_size _ rfl), rfl, rfl⟩ fun b o x => Heap.get?_push_of_some _ (Heap.get?_push_of_some _ x)⟩
theorem shift {it : Addr} {fp : List Addr} {n : Nat} {P : Nat → Value → Prop} {St : Nat → Heap → Prop} (D : Draws prog w A it fp n P St) (k : Nat) : Draws prog w A it fp (k + n) (fun i v => ∃ j, i = k + j ∧ P j v) (fun i h => ∃ j, i = k + j ∧ St j h) where
  live := fun _ h ⟨j, _, st⟩ => D.live j h st
  frame := fun _ h h' ⟨j, e, st⟩ z => ⟨j, e, D.frame j h h' st z⟩
  item := fun i s Q E hi ⟨j, e, st⟩ hQ => D.item j s Q E (by omega) st fun x h' tk p q r => hQ x h' tk ⟨j, e, p⟩ ⟨j + 1, by omega, q⟩ r
  done := fun s Q E ⟨j, e, st⟩ hE => D.done s Q E (by rw [show n = j from by omega]; exact st) hE
theorem ended {it l : Addr} {items : Array Value} {i : Nat} (hh : A.handled = none) (hz : items.size ≤ i) : Draws prog w A it [it, l] i (fun _ _ => True) (fun j h => j = i ∧ h.IsListIter it l i ∧ h.IsList l items) where
  live := fun _ _ st => let ⟨o, ho, _⟩ := st.2.1; ⟨o, ho⟩
  frame := fun _ _ _ st z => ⟨st.1, st.2.1.at fun o e => z it (by simp) o e, st.2.2.at fun o e => z l (by simp) o e⟩
  item := fun j s Q E hi st hQ => absurd st.1 (by omega)
  done := fun s Q E st hE => wpAny_nextOf_list_end hh st.2.1 st.2.2 (by simp; omega) hE
end
end EnS
namespace L2
open PySem PySem.Spec PyProof.Rows
noncomputable def Ites (K : PySem.W.Frag) (a : Addr) (k : Nat) : It :=
  ⟨fun i H => ∃ xs x, SqL K H a xs ∧ xs[i]? = some x,
   fun i H v H' => ∃ t x, v = .ref t ∧ H t = none ∧ H' = upd H t (.tup [.int ((k + i : Nat) : Int), x]) ∧ ∀ xs, SqL K H a xs → xs[i]? = some x,
   fun i H => ∃ xs, SqL K H a xs ∧ xs.length ≤ i⟩
theorem turn_enumS {P : Program} {w : World} {K : PySem.W.Frag} {elts : List Expr} {x1} {pos : Pos} {e it a : Addr} {k : Nat} (hei : e ≠ it) (hea : e ≠ a) (hai : a ≠ it) : Turn P w K (.Tuple elts x1 pos) (Ites K a k) [e, it] e
    (fun i h => (∃ old, IsEnum h e it ((k + i : Nat) : Int) old) ∧ h.IsListIter it a i) where
  mem := by simp
  obj := fun i h st c hc => by
    obtain ⟨⟨old, he⟩, ⟨o1, e1, c1, d1⟩⟩ := st
    simp only [List.mem_cons, List.not_mem_nil, or_false] at hc
    rcases hc with rfl | rfl
    · exact ⟨_, he, fun v z => nomatch z⟩
    · exact ⟨_, e1, fun v z => by rw [d1] at z; cases z⟩
  keep := fun i h h' st z => by
    obtain ⟨⟨old, he⟩, h1⟩ := st
    exact ⟨⟨old, z e (by simp) _ he⟩, h1.at fun o x => z it (by simp) o x⟩
  item := by
    intro X hP hw hK hc i pins s σ H E I hf st hg
    subst hP hw hK
    obtain ⟨⟨old, he⟩, h1⟩ := st
    obtain ⟨xs, x, hq, hx⟩ := hg
    obtain ⟨us, rv, p1, z1⟩ := I.list hq
    obtain ⟨u, hu, ru⟩ := rv.get hx
    have hlt := (List.getElem?_eq_some_iff.mp hu).1
    refine wpAny_pyNext_enum_itemD (EnS.shift (Draws.list (prog := X.prog) (w := X.w) (A := X.A.in1) (I.ok.hd hc) it a hai us.toArray) k) he ⟨i, rfl, h1, p1.isList⟩ (by simp; omega) hei (by simp [hei, hea]) fun x' h' tk hp a1 a2 a3 a4 hk => ?_
    obtain ⟨j, ej, hxj⟩ := hp
    have ej : j = i := by omega
    subst ej
    have hxu : x' = u := by
      have : us.toArray[j]? = some u := by simpa using hu
      rw [this] at hxj
      exact (Option.some.inj hxj).symm
    subst hxu
    obtain ⟨j', e', a2, _⟩ := a2
    have e' : j' = j + 1 := by omega
    subst e'
    refine ⟨_, rfl, wpAny_letOwnedTupleGo_enum (s := { s with heap := h', toks := tk + 1 }) a1 fun h'' b1 hs => ?_⟩
    have le := Heap.lt_size he
    obtain ⟨o1, e1, _⟩ := id h1
    have l1 := Heap.lt_size e1
    obtain ⟨I1, fr⟩ := I.turnedNew (h' := h'') (t' := tk + 1) (fp := [e, it]) (x := .int ((k + j : Nat) : Int)) (u := .int ((k + j : Nat) : Int) tk) hf ⟨_, rfl⟩ ru (fun c hc => by
      simp only [List.mem_cons, List.not_mem_nil, or_false] at hc
      rcases hc with rfl | rfl <;> assumption) ((hs.2 _ (Nat.ne_of_gt le)).trans a3) (fun c o hc x => by
      simp only [List.mem_cons, List.not_mem_nil, or_false, not_or] at hc
      exact (hs.2 _ hc.1).trans (hk c o hc.1 hc.2 x))
    exact ⟨.ref s.heap.objs.size, _, I1, rfl, ⟨_, x, rfl, I.hok.fresh (Nat.le_refl _), rfl, fun ys hy => by rw [I.list_inj hy hq]; exact hx⟩, ⟨⟨_, by simpa [Int.add_assoc] using b1⟩, a2.at fun o y => (hs.2 it hei.symm).trans y⟩, fr⟩
  done := by
    intro X hP hw hK hc i pins s σ H E I hf st hg
    subst hP hw hK
    obtain ⟨⟨old, he⟩, h1⟩ := st
    obtain ⟨xs, hq, hend⟩ := hg
    obtain ⟨us, rv, p1, z1⟩ := I.list hq
    have l1 := rv.length
    refine wpAny_pyNext_enum_endD (EnS.ended (prog := X.prog) (w := X.w) (A := X.A.in1) (items := us.toArray) (i := i) (I.ok.hd hc) (by simp; omega)) he ⟨rfl, h1, p1.isList⟩ fun h' hk => ⟨rfl, I.turnedL (t' := s.toks) (fp := [e, it]) hf fun c o hc x => ?_⟩
    simp only [List.mem_cons, List.not_mem_nil, or_false, not_or] at hc
    exact hk c o hc.2 x
  self := fun _ _ _ _ _ st h => by
    obtain ⟨⟨old, he⟩, _⟩ := st
    exact wpAny_pyIter_enum he h
end L2
namespace L2
open PySem PySem.Spec PyProof.Rows
section
variable {X : Cx} {elts : List Expr} {x1 : Nat} {tpos : Pos}
noncomputable def iEnumS (K : PySem.W.Frag) (ta : TA) (tb : TE) : TI := fun σ H R => ta σ H fun vs H1 => tb σ H1 fun v H2 => ∃ a, ∃ k : Nat, vs = [.ref a] ∧ v = .int (k : Int) ∧ k < 2 ^ 62 ∧ (∃ xs, SqL K H2 a xs) ∧ R (Ites K a k) H2
theorem pi_enumS {a b : Expr} {ta : TA} {tb : TE} {p pos kp : Pos} (hg : Gl X "enumerate") (hm : X.mg "enumerate" = none) (ha : PA X [a] ta) (hb : PE X b tb)
    (he : backTo pos (starEach [a] X.env) = (false, eval a X.env) :: backTo pos (starEach [] X.env) := by rfl) (hpl : ((false, eval a X.env) :: backTo pos (starEach [] X.env)).any (·.1) = false := by rfl)
    (hk1 : (backToKw pos (keywordEach [(⟨some (Str.ofString "start"), b, kp⟩ : Keyword)] X.env)).any (·.1.isNone) = false := by rfl) (hk2 : (backToKw pos (keywordEach [(⟨some (Str.ofString "start"), b, kp⟩ : Keyword)] X.env)).all (·.1.isSome) = true := by rfl) (hk3 : (backToKw pos (keywordEach [(⟨some (Str.ofString "start"), b, kp⟩ : Keyword)] X.env)).filterMap (·.1) = [Str.ofString "start"] := by rfl)
    (hc : eval (.Call (.Name "enumerate" p) [a] [(⟨some (Str.ofString "start"), b, kp⟩ : Keyword)] pos) X.env = (do callWith pos (← eval (.Name "enumerate" p) X.env) [] (backTo pos (starEach [a] X.env)) (backToKw pos (keywordEach [(⟨some (Str.ofString "start"), b, kp⟩ : Keyword)] X.env))) := by rfl) :
    PI X (.Tuple elts x1 tpos) (.Call (.Name "enumerate" p) [a] [(⟨some (Str.ofString "start"), b, kp⟩ : Keyword)] pos) (iEnumS X.K ta tb) := by
  intro pins s σ H R I h
  rw [hc]
  refine wpAny_bind (ld_blt I hg hm boot_enum ?_)
  rw [he]
  refine EnS.with_kw hpl hk1 hk2 ?_
  rw [← he]
  refine thn (ha pos pins s σ H _ I h) fun us s1 ⟨vs, H1, I1, r1, q1⟩ => ?_
  refine kws_cons (thn (hb pins s1 σ H1 _ I1 q1) fun ub s2 ⟨vb, H2, I2, r2, q2⟩ => kws_nil ?_)
  rw [hk3]
  obtain ⟨qa, k, e1, e2, hk, ⟨xs, h1⟩, q⟩ := q2
  subst e1 e2
  cases r1 with
  | cons r rr =>
    cases rr
    obtain rfl := r
    obtain ⟨t, rfl⟩ := r2
    obtain ⟨us1, v1, p1, z1⟩ := I2.list h1
    have a1 : qa < s2.heap.objs.size := by obtain ⟨_, e, _⟩ := p1.isList; exact Heap.lt_size e
    refine EnS.call_list (by unfold Builtin.SmallTypes.fitsIndex; simp; omega) p1.isList fun h' hz hi1 hkp => ?_
    refine wpAny_pyIter_enum (s := { s2 with heap := h' }) hz ?_
    refine ⟨_, _, _, _, H2, rfl, I2.kept (t' := s2.toks) hkp, turn_enumS (a := qa) (k := k) (Nat.ne_of_gt (Nat.lt_succ_self _)) (Nat.ne_of_gt (Nat.lt_succ_of_lt a1)) (Nat.ne_of_lt a1), ⟨⟨_, hz⟩, hi1⟩, fun b hb => ?_, q⟩
    simp only [List.mem_cons, List.not_mem_nil, or_false] at hb
    rcases hb with rfl | rfl
    · exact I2.fpOk (Nat.le_add_right _ 1) (I2.hok.fresh (Nat.le_add_right _ 1))
    · exact I2.fpOk (Nat.le_refl _) (I2.hok.fresh (Nat.le_refl _))
end
end L2
namespace DL
open PySem PySem.Spec PyProof.Rows L2
noncomputable def enumSD (k : Nat) (ds : List D) : List D := (List.range ds.length).map fun (j : Nat) => .tup [.int ((k + j : Nat) : Int), ds.getD j .non]
noncomputable def enumSI (gA : GA) (g : GE) : GA := fun δ => (gA δ).bind fun ds => (g δ).bind fun n => match ds, n with
  | [.lst l], .int k => if 0 ≤ k ∧ k < 2 ^ 62 then some (enumSD k.toNat l) else none
  | _, _ => none
section
variable {X : Cx} {elts : List Expr} {x1 : Nat} {tpos : Pos} {a b e : Expr} {es : List Expr} {p pos kp : Pos} {gA : GA} {gb : GE}
theorem pid_enumS (hm : X.mg "enumerate" = none) (ha : PDA X [a] gA) (hb : PD X b gb) (hg : Gl X "enumerate" := by rfl)
    (he : backTo pos (starEach [a] X.env) = (false, eval a X.env) :: backTo pos (starEach [] X.env) := by rfl) (hpl : ((false, eval a X.env) :: backTo pos (starEach [] X.env)).any (·.1) = false := by rfl)
    (hk1 : (backToKw pos (keywordEach [(⟨some (Str.ofString "start"), b, kp⟩ : Keyword)] X.env)).any (·.1.isNone) = false := by rfl) (hk2 : (backToKw pos (keywordEach [(⟨some (Str.ofString "start"), b, kp⟩ : Keyword)] X.env)).all (·.1.isSome) = true := by rfl) (hk3 : (backToKw pos (keywordEach [(⟨some (Str.ofString "start"), b, kp⟩ : Keyword)] X.env)).filterMap (·.1) = [Str.ofString "start"] := by rfl)
    (hc : eval (.Call (.Name "enumerate" p) [a] [(⟨some (Str.ofString "start"), b, kp⟩ : Keyword)] pos) X.env = (do callWith pos (← eval (.Name "enumerate" p) X.env) [] (backTo pos (starEach [a] X.env)) (backToKw pos (keywordEach [(⟨some (Str.ofString "start"), b, kp⟩ : Keyword)] X.env))) := by rfl) :
    PID X (.Tuple elts x1 tpos) (.Call (.Name "enumerate" p) [a] [(⟨some (Str.ofString "start"), b, kp⟩ : Keyword)] pos) (enumSI gA gb) := .mk fun B δ => L2.PI.imp (pi_enumS hg hm (ha B δ) (hb B δ) he hpl hk1 hk2 hk3 hc) fun σ H R ⟨items, en, e1, k⟩ => by
  unfold enumSI at e1
  cases e2 : gA δ with
  | none => rw [e2] at e1; cases e1
  | some ds =>
    cases e3 : gb δ with
    | none => rw [e2, e3] at e1; cases e1
    | some n =>
      rw [e2, e3, Option.bind_some, Option.bind_some] at e1
      split at e1
      · rename_i l kk
        split at e1
        · rename_i hkk
          cases e1
          refine ⟨_, en, e2, fun vs H1 s1 r => ⟨_, en.same s1, e3, fun v H2 s2 r2 => ?_⟩⟩
          rw [rps_cons] at r
          obtain ⟨x, t, rfl, r1, r⟩ := r
          rw [rps_nil] at r; subst r
          rw [rp_int] at r2
          subst r2
          replace r1 := r1.same s2
          rw [rp_lst] at r1
          obtain ⟨q1, us, rfl, sq, t1⟩ := r1
          have hlen : (enumSD kk.toNat l).length = us.length := by unfold enumSD; simp [t1.length]
          refine ⟨q1, kk.toNat, rfl, by rw [Int.toNat_of_nonneg hkk.1], by omega, ⟨us, sq.to⟩, k _ H2 (s1.trans s2) ⟨fun i H3 g2 hi => ?_, fun i H3 v H4 g2 y hi => ?_, fun i H3 g2 hi => ?_⟩⟩
          · rw [hlen] at hi
            exact ⟨us, us[i], (sq.mono g2).to, by simp [hi]⟩
          · obtain ⟨t, x, rfl, ht, rfl, hx⟩ := y
            rw [hlen, t1.length] at hi
            obtain ⟨x', e4, rx⟩ := t1.get (i := i) (List.getElem?_eq_getElem hi)
            have ex := hx us (sq.mono g2).to
            rw [e4] at ex
            cases ex
            refine ⟨same_upd ht, .tup [.int ((kk.toNat + i : Nat) : Int), l[i]], by unfold enumSD; simp [hi], fun B' gB hb => ?_⟩
            exact rp_pair (fun z => hb t z ht) upd_same (by rw [rp_int]) (rx.mono gB)
          · rw [hlen] at hi
            exact ⟨us, (sq.mono g2).to, hi⟩
        · cases e1
      · cases e1
end
end DL
namespace L2
open PySem PySem.Spec PyProof.Rows
section
variable {X : Cx} {e st : Expr} {te : TE} {ts : TO} {pos p2 : Pos}
end
end L2
namespace DL
open PySem PySem.Spec PyProof.Rows L2
section
variable {X : Cx} {e st : Expr} {g : GE} {gs : Ds → Option (Option Int)} {pos p2 : Pos}
end
theorem fnOkM_never {P : Program} {w : World} {K : PySem.W.Frag} {mg : PySem.Str → Option Value} {base : Heap} {k : Nat} {fa : Addr} {fd : FuncData} {ps : List PySem.Str} {me : Bool} {f : List D → Option (List D)} (hf : ∀ ds, f ds = none) : FnOk P w K mg base CX0 k fa fd ps (spM K me f) :=
  ⟨fun vs H Q E ⟨_, _, _, _, _, _, _, _, _, _, _, h, _⟩ => (by rw [hf] at h; cases h), fun A outer s H args us vs Q E _ _ _ _ ⟨_, _, _, _, _, _, _, _, _, _, _, h, _⟩ => (by rw [hf] at h; cases h)⟩
section
variable {X : Cx} {e : Expr} {es : List Expr} {gA : GA} {pos p px : Pos}
end
end DL
namespace DL
open PySem
noncomputable def sumL : List D → Option (List Int)
  | [] => some []
  | .int i :: ds => (sumL ds).map fun r => i :: r
  | _ => none
noncomputable def sumD : List D → Option D
  | [.lst ds] => (sumL ds).map fun is => .int is.sum
  | _ => none
theorem sumL_ints : ∀ is : List Int, sumL (is.map D.int) = some is
  | [] => rfl
  | i :: is => by show (sumL (is.map D.int)).map _ = _; rw [sumL_ints is]; rfl
end DL
namespace L2
open PySem PySem.Spec PyProof.Rows
theorem ints_at {is : List Int} {its : List Value} (rv : Vals (is.map V.int) its) {i : Nat} {v : Value} (h : its[i]? = some v) : ∃ t, v = .int (is.getD i 0) t := by
  have hl := rv.length
  rw [List.length_map] at hl
  have hi : i < is.length := by have := (List.getElem?_eq_some_iff.mp h).1; omega
  obtain ⟨u, hu, ru⟩ := rv.get (i := i) (x := .int is[i]) (by simp [hi])
  rw [h] at hu
  cases hu
  obtain ⟨t, rfl⟩ := ru
  exact ⟨t, by simp [hi]⟩
theorem pre_sum (is : List Int) : ∀ n, n ≤ is.length → preSum (fun i => is.getD i 0) n = (is.take n).sum
  | 0, _ => by simp [preSum]
  | n + 1, h => by
    rw [preSum, pre_sum is n (by omega), List.take_succ, List.getElem?_eq_getElem (by omega), List.sum_append]
    simp [show n < is.length by omega]
theorem call_sumI {X : Cx} (hc : X.calm = true) : CallR X (.builtin "sum") (fun xs H Q => ∃ (p : Addr) (is : List Int), xs = [.ref p] ∧ SqL X.K H p (is.map V.int) ∧ Q (.int is.sum) H) := by
  intro pins s σ H xs us Q I rs h
  obtain ⟨p, is, rfl, hq, q⟩ := h
  obtain ⟨u, rfl, ru⟩ := rs.one
  cases ru
  obtain ⟨its, rv, pl, hz⟩ := I.list hq
  have hp : p < s.heap.objs.size := by
    obtain ⟨o, n, e, _⟩ := pl
    exact Heap.lt_size e
  refine call_sum_walkG (wpAny_pyIter_list pl.isList ?_)
  refine ⟨_, _, _, _, _, _, fun i => is.getD i 0, rfl, Walks.list (A := X.A.in1) (I.ok.hd hc) s.heap.objs.size p (Nat.ne_of_lt hp) its.toArray, ⟨⟨_, Heap.get?_push_size _ rfl, rfl, rfl⟩, pl.isList.push _⟩, fun b hb => ?_, fun i v hP => ints_at rv (by simpa using hP), fun h' tk t' hk => ?_⟩
  · show b < (s.heap.push _).objs.size
    rw [Heap.size_push]
    simp only [List.mem_cons, List.not_mem_nil, or_false] at hb
    rcases hb with rfl | rfl
    · exact Nat.lt_succ_self _
    · exact Nat.lt_succ_of_lt hp
  · have e1 : its.toArray.size = is.length := by
      have := rv.length
      simp at this
      simp [this]
    rw [e1, pre_sum is _ (Nat.le_refl _), List.take_length]
    refine ⟨.int is.sum, H, I.kept (t' := tk) fun b o e => ?_, ⟨_, rfl⟩, q⟩
    refine hk b o ?_ (Heap.get?_push_of_some _ e)
    have := Heap.lt_size e
    simp only [List.mem_cons, List.not_mem_nil, or_false]
    exact Nat.ne_of_lt this
end L2
namespace DL
open PySem PySem.Spec PyProof.Rows L2
theorem sum_rel {K : PySem.W.Frag} {H : Hp} {B : BS} : ∀ {ds : List D} {xs : List V} {is : List Int}, Rps K H B ds xs → sumL ds = some is → xs = is.map V.int
  | [], xs, is, r, h => by rw [rps_nil] at r; cases h; exact r
  | d :: ds, xs, is, r, h => by
    rw [rps_cons] at r
    obtain ⟨x, t, rfl, r1, r2⟩ := r
    cases d with
    | int i =>
      have h : (sumL ds).map (fun r => i :: r) = some is := h
      obtain ⟨js, e, rfl⟩ := Option.map_eq_some_iff.mp h
      rw [rp_int] at r1
      rw [r1, sum_rel r2 e]
      rfl
    | _ => cases h
theorem fn_sum {K : PySem.W.Frag} : FnR K (fun xs H Q => ∃ (p : Addr) (is : List Int), xs = [.ref p] ∧ SqL K H p (is.map V.int) ∧ Q (.int is.sum) H) sumD := by
  intro H B xs ds d Q hb r h k
  unfold sumD at h
  split at h
  · obtain ⟨is, e, rfl⟩ := Option.map_eq_some_iff.mp h
    obtain ⟨v, rfl, r1⟩ := rps_one r
    rw [rp_lst] at r1
    obtain ⟨a, ys, rfl, q, rr⟩ := r1
    have := sum_rel rr e
    subst this
    exact ⟨a, is, rfl, q.to, k _ H (Same.refl H) (by rw [rp_int])⟩
  · cases h
end DL
namespace L2
open PySem PySem.Spec PyProof.Rows PySem.W
noncomputable def tSdf (td ty tx : TE) : TE := fun σ H Q => td σ H fun x H1 => ∃ a, x = .ref a ∧ IsD H1 a ∧ ty σ H1 fun y H2 => tx σ H2 fun z H3 => ∃ kvs k, H3 a = some (.dK kvs) ∧ y = kV k ∧ kvs.length < sizeLine ∧
  (∀ v, valV kvs k = some v → Q v H3) ∧ (valV kvs k = none → Q z (upd H3 a (.dK (putK kvs k z))))
section
variable {X : Cx} {o e f : Expr} {apos cpos : Pos} {td ty tx : TE}
theorem d_sdf {pins : List (Addr × Obj)} {σ : St} {H : Hp} {s : Shared} {a : Addr} {kvs : List (Key × V)} {k : Key} {v : V} {u r : Value} {A : Around} {E : Value → Shared → Prop} {Q : Value → Shared → Prop} (I : Inv X pins σ H s) (e : H a = some (.dK kvs)) (ry : RelV (kV k) u) (rv : RelV v r) (l : kvs.length < sizeLine)
    (h1 : ∀ x, valV kvs k = some x → ∀ w' s', Inv X pins σ H s' → RelV x w' → Q w' s') (h2 : valV kvs k = none → ∀ s', Inv X pins σ (upd H a (.dK (putK kvs k v))) s' → Q r s') :
    wpAny (model X.prog X.w) A (call (.builtin "dict.setdefault") [.ref a, u, r]) Q E s := by
  obtain ⟨z, hd, vs, rel, dd⟩ := dk_of I.hok e
  have hz : vs.length ≤ sizeLine := by rw [← rel.length]; exact z
  have hv := rel.val k
  refine call_meetsIn PySem.F.slot_dict_setdefault dd.typeIs PySem.F.entry_dict_setdefault (PySem.F.args_dict_setdefault_3 _ _ _) (kt_meets_setdefault (mixKind X.prog X.w) a (kV_is ry) hd r) ⟨vs, dd, hz, fun w hw => ?_, fun hn h' dd' hs => ?_⟩
  · rw [hw] at hv
    cases e1 : valV kvs k with
    | none => rw [e1] at hv; exact hv.elim
    | some x => rw [e1] at hv; exact h1 x e1 _ _ (I.tok _) hv
  · rw [hn] at hv
    have e1 : valV kvs k = none := by
      cases e1 : valV kvs k with
      | none => rfl
      | some x => rw [e1] at hv; exact hv.elim
    have hl : (putK kvs k v).length ≤ sizeLine := by have := length_putK kvs k v; omega
    have he : ∃ q, h'.get? a = some q := let ⟨q, _, _, hq, _⟩ := dd'; ⟨q, hq⟩
    exact h2 e1 _ (d_write I (by rw [e]; exact True.intro) hs he (dk_new hl hd (rel.put k rv) dd'))
theorem pe_sdf (ho : PE X o td) (he : PE X e ty) (hf : PE X f tx) (m : M2 X o "setdefault" apos e f cpos) : PE X (.Call (.Attribute o "setdefault" apos) [e, f] [] cpos) (tSdf td ty tx) := by
  intro pins s σ H Q I h
  refine wpAny_Call_method m.base m.few m.line PySem.F.plainAttrs_dict PySem.F.slot_dict_setdefault PySem.F.type_dict_setdefault (thn (ho pins s σ H _ I h) fun u s1 ⟨x, H1, I1, rx, a, ex, d, q1⟩ => ?_)
  subst ex
  cases (show u = Value.ref a from rx)
  obtain ⟨t1, t2, _⟩ := isD_at I1 d
  refine ⟨t1, t2, ?_⟩
  rw [m.trees]
  refine Calls.callWith_builtin rfl (Calls.evalArgs_plain (Calls.spliced_cons (thn (he pins s1 σ H1 _ I1 q1) fun iv s2 ⟨y, H2, I2, ry, q2⟩ => Calls.spliced_cons (thn (hf pins s2 σ H2 _ I2 q2) fun fv s3 ⟨z, H3, I3, rz, kvs, k, ea, ey, l, q3, q4⟩ => Calls.spliced_nil ?_))))
  subst ey
  exact d_sdf I3 ea ry rz l (fun x ex w' s4 I4 r4 => ⟨x, H3, I4, r4, q3 x ex⟩) fun en s4 I4 => ⟨z, _, I4, rz, q4 en⟩
end
end L2
namespace DL
open PySem PySem.Spec PyProof.Rows L2
noncomputable def sdfX (i : Nat) (gk g : GE) : GX := fun δ => (owDc i δ).bind fun pr => (gk δ).bind fun dk => (g δ).bind fun d => (asKey dk).bind fun q => if pr.1.length < sizeLine then (if hasK pr.1 q = true then (getK pr.1 pr.2 q).map fun r => (r, δ) else some (d, δ.set i (.ow (.dct (.inl (putKs pr.1 q)) (putDs pr.1 pr.2 q d))))) else none
section
variable {X : Cx} {a b e f : Expr} {ga gb g0 g : GE} {x : Str} {px p0 apos cpos pos : Pos}
theorem pd_dnin (hu : X.A.units + 1 < cLine) (ha : PD X a ga) (hb : PD X b gb) (hm : behindInMarks .NotIn b = false := by first | rfl | with_unfolding_all rfl) : PD X (.Compare a [.NotIn] [b] pos) (o2 ga gb (inDctD true)) := .mk fun B δ => (pe_cmp (pc_dnotin hu (ha B δ) (hb B δ)) hm).imp fun σ H Q ⟨t, en, h, k⟩ => by
  unfold o2 at h
  cases e1 : ga δ with
  | none => rw [e1] at h; cases h
  | some x =>
    cases e2 : gb δ with
    | none => rw [e1, e2] at h; cases h
    | some y =>
      rw [e1, e2] at h
      simp only [Option.bind_some] at h
      refine ⟨x, en, e1, fun v1 H1 s1 r1 => ⟨y, en.same s1, e2, fun v2 H2 s2 r2 => ?_⟩⟩
      cases y <;> simp only [inDctD] at h <;> try cases h
      rename_i ks ds
      cases ks with
      | inl ks =>
        simp only at h
        cases e3 : asKey x with
        | none => rw [e3] at h; cases h
        | some q =>
          rw [e3] at h
          simp only [Option.map_some, Bool.true_xor] at h
          cases h
          rw [rp_dct] at r2
          obtain ⟨p, xs, rfl, _, hp, hl, rr⟩ := r2
          have := key_v e3 r1
          subst this
          refine ⟨p, _, rfl, DGet.k hp, ?_⟩
          rw [(val_rel rr).2 hl]
          exact k _ H2 (s1.trans s2) (by rw [rp_bl])
      | inr ks =>
        simp only at h
        cases e3 : asKeyT x with
        | none => rw [e3] at h; cases h
        | some q =>
          rw [e3] at h
          simp only [Option.map_some, Bool.true_xor] at h
          cases h
          rw [rp_dctT] at r2
          obtain ⟨p, xs, rfl, _, hp, hl, rr⟩ := r2
          obtain ⟨b, rfl, hb⟩ := keyT_v e3 (r1.same s2)
          refine ⟨p, _, rfl, DGet.t hp hb, ?_⟩
          rw [(val_rel rr).2 hl]
          exact k _ H2 (s1.trans s2) (by rw [rp_bl])
theorem px_sdf (i : Nat) (h0 : PD X e g0) (h : PD X f g) (hN : X.N[i]? = some x := by rfl) (hv : Vis X.env.scope x := by first | exact Or.inl rfl | exact Or.inr (Or.inl rfl) | exact Or.inr (Or.inr rfl)) (hd : (x == ("__debug__" : Str)) = false := by decide) (hcd : (x == ("__classdict__" : Str)) = false := by decide)
    (hbase : attributeBase (.Name x px) "setdefault" X.env (eval (.Name x px) X.env) = eval (.Name x px) X.env := by rfl)
    (hfew : ((backTo cpos (starEach [e, f] X.env)).all (fun x => !x.1) && (backToKw cpos (keywordEach [] X.env)).all (fun x => x.1.isSome)
      && decide (([e, f] : List Expr).length + ([] : List Keyword).length + (if ([] : List Keyword).isEmpty then 0 else 1) < 30)) = true := by rfl)
    (hline : (apos.endLine == cpos.line) = true := by rfl) (htrees : backTo cpos (starEach [e, f] X.env) = [(false, eval e X.env), (false, eval f X.env)] := by rfl) :
    PX X (.Call (.Attribute (.Name x px) "setdefault" apos) [e, f] [] cpos) (sdfX i g0 g) := .mk fun H₀ B₀ δ pins s σ H Q I ⟨r, en, e1, k⟩ => by
  unfold sdfX at e1
  obtain ⟨B, b1, b2, env⟩ := en.ex
  cases e2 : owDc i δ with
  | none => rw [e2] at e1; cases e1
  | some pr =>
    cases e4 : g0 δ with
    | none => rw [e2, e4] at e1; cases e1
    | some dk =>
      cases e3 : g δ with
      | none => rw [e2, e4, e3] at e1; cases e1
      | some d =>
        cases e5 : asKey dk with
        | none => rw [e2, e4, e3] at e1; simp only [Option.bind_some] at e1; rw [e5] at e1; cases e1
        | some q =>
          rw [e2, e4, e3] at e1
          simp only [Option.bind_some] at e1
          rw [e5] at e1
          simp only [Option.bind_some] at e1
          split at e1
          · rename_i hz
            have hi := owDc_eq e2
            obtain ⟨p, hs', hb, xs, hx, hl, rx⟩ := env.at hi
            have hl : pr.1.length = xs.length := hl
            refine pe_sdf (pe_var (i := i) hN hv hd hcd) (h0 B δ) (h B δ) ⟨hbase, hfew, hline, htrees⟩ pins s σ H Q I ⟨_, hs', p, rfl, .inl ⟨_, .inl hx⟩, dk, env, e4, fun iv H1 s1 r1 => ⟨d, env.same s1, e3, fun fv H2 s2 r2 => ?_⟩⟩
            have := key_v e5 r1
            subst this
            have s12 := s1.trans s2
            refine ⟨_, q, s12 _ _ hx, rfl, by rw [List.length_zip, ← hl, Nat.min_self]; exact hz, fun v hv1 => ?_, fun hn => ?_⟩
            · have hk : hasK pr.1 q = true := by
                rw [← (val_rel (q := q) rx).2 hl, hv1]; rfl
              rw [if_pos hk] at e1
              obtain ⟨w, hw, e1⟩ := Option.map_eq_some_iff.mp e1
              cases e1
              obtain ⟨v', hv2, rv⟩ := (val_rel rx).1 w hw
              rw [hv1] at hv2
              cases hv2
              exact k v H2 (EnvV.mk' (en.grow s12) b1 b2 (env.same s12) (rv.same s12))
            · have hk : hasK pr.1 q = false := by
                rw [← (val_rel (q := q) rx).2 hl, hn]; rfl
              rw [hk, if_neg (by simp)] at e1
              cases e1
              obtain ⟨ys, hy, hyl, hy1, hy2⟩ := put_zip (q := q) (v := fv) hl
              have rr : Rps X.K H2 B (putDs pr.1 pr.2 q d) ys := by
                unfold putDs
                rw [hk, if_neg (by simp), hy2 hk]
                exact Rps.snoc (rx.same s12) r2
              rw [hy]
              have env2 : Env X.K (upd H2 p (.dK ((putKs pr.1 q).zip ys))) B σ (δ.set i (.ow (.dct (.inl (putKs pr.1 q)) (putDs pr.1 pr.2 q d)))) := (env.same s12).mut hi hs' ⟨ys, upd_same, hyl, rr.mono (Gr.own hb)⟩
              exact k _ _ (EnvV.mk' (en.mut s12 b1 b2 hi hs' env2) b1 b2 env2 (r2.mono (Gr.own hb)))
          · cases e1
end
end DL
namespace L2
open PySem PySem.Spec PyProof.Rows
open AutoSeq1 (wpAny_loadPart')
section
variable {prog : Program} {w : World} {A : Around} {E : Value → Shared → Prop} {s : Shared} {z TI TO i1 i2 l1 l2 : Addr} {k1 k2 : Nat} {xs ys : Array Value} {x y a b : Value}
theorem zipM_next {Q : Value → Shared → Prop} (D : ZipApart z TI TO i1 i2 l1 l2)
    (hz : IsZip s.heap z TI TO .none) (hTI : IsPair s.heap TI (.ref i1) (.ref i2)) (hTO : IsPair s.heap TO a b)
    (h1 : s.heap.IsTupleIter i1 l1 k1) (h2 : s.heap.IsListIter i2 l2 k2) (t1 : s.heap.IsTuple l1 xs) (t2 : s.heap.IsList l2 ys) (hx : xs[k1]? = some x) (hy : ys[k2]? = some y)
    (hQ : ∀ h', IsZip h' z TI TO (rawInt s.heap.objs.size) → IsPair h' TO x y → h'.IsTupleIter i1 l1 (k1 + 1) → h'.IsListIter i2 l2 (k2 + 1) → IsPair h' s.heap.objs.size x y → h'.objs.size = s.heap.objs.size + 1 →
      ZKeep z TO i1 i2 s.heap h' → Q (.ref s.heap.objs.size) { s with heap := h' }) :
    wpAny (model prog w) A (Builtin.«zip.__next__» ⟨[.ref z], []⟩) (fun fin s' => ∃ v, fin = .done (.ret v) ∧ Q v s') E s := by
  show wpAny _ _ (field (.ref z) 2 >>= _) _ _ _
  refine wpAny_bind (wpAny_field hz rfl (x := .bool false) rfl ?_)
  show wpAny _ _ (field (.ref z) 3 >>= _) _ _ _
  refine wpAny_bind (wpAny_field hz rfl (x := .ref TI) rfl (wpAny_bind (wpAny_seqItems hTI rfl ?_)))
  show wpAny _ _ (Builtin.SmallTypes.ownedTupleIsFree (.ref z) >>= _) _ _ _
  refine wpAny_bind ?_
  unfold Builtin.SmallTypes.ownedTupleIsFree
  refine wpAny_bind (wpAny_field hz rfl (x := .none) rfl (wpAny_pure ?_))
  simp only [if_true]
  refine wpAny_bind (wpAny_rule (wpAny_bind (wpAny_field hz rfl (x := .ref TO) rfl (wpAny_bind (wpAny_setField_rec hz (by simp) fun g1 q1 e1 => ?_)))))
  replace q1 : IsZip g1 z TI TO .ellipsis := q1
  refine wpAny_bind ?_
  simp only [List.zipIdx_cons, List.zipIdx_nil, List.forIn_cons, List.forIn_nil]
  -- the first of the two
  refine wpAny_bind (wpAny_bind (wpAny_onRaise ?_))
  show wpAny _ _ (Builtin.SmallTypes.nextOf (.ref i1) >>= _) _ _ _
  refine wpAny_bind (nextOf_tuple_item (tupIter_but h1 e1.extBut D.i1z) (t1.extBut e1.extBut D.l1z) hx fun g2 j1 e2 => wpAny_pure ?_)
  have p2 : IsPair g2 TO a b := e2.extBut _ _ D.TOi1 (e1.extBut _ _ D.TOz hTO)
  refine wpAny_bind (wpAny_seqItems p2 rfl (wpAny_bind (wpAny_updateSeq_pair p2 fun g3 p3 e3 => ?_)))
  replace p3 : IsPair g3 TO x b := p3
  refine wpAny_bind (wpAny_letGo (wpAny_pure ?_))
  -- the second
  refine wpAny_bind (wpAny_bind (wpAny_onRaise ?_))
  show wpAny _ _ (Builtin.SmallTypes.nextOf (.ref i2) >>= _) _ _ _
  refine wpAny_bind (wpAny_nextOf_list_item (((h2.extBut e1.extBut D.i2z).extBut e2.extBut D.i12.symm).extBut e3.extBut D.TOi2.symm)
    (((t2.extBut e1.extBut D.l2z).extBut e2.extBut D.l2i1).extBut e3.extBut D.l2TO) hy fun g4 j2 e4 => wpAny_pure ?_)
  have p4 : IsPair g4 TO x b := e4.extBut _ _ D.TOi2 p3
  refine wpAny_bind (wpAny_seqItems p4 rfl (wpAny_bind (wpAny_updateSeq_pair p4 fun g5 p5 e5 => ?_)))
  replace p5 : IsPair g5 TO x y := p5
  refine wpAny_bind (wpAny_letGo (wpAny_pure (wpAny_pure ?_)))
  refine wpAny_bind (wpAny_seqItems p5 rfl (wpAny_bind (wpAny_newTuple ?_)))
  have sz : g5.objs.size = s.heap.objs.size := by rw [e5.1, e4.1, e3.1, e2.1, e1.1]
  have q5 : IsZip g5 z TI TO .ellipsis := e5.extBut _ _ D.TOz.symm (e4.extBut _ _ D.i2z.symm (e3.extBut _ _ D.TOz.symm (e2.extBut _ _ D.i1z.symm q1)))
  have keep : ZKeep z TO i1 i2 s.heap g5 := fun c o c1 c2 c3 c4 e => e5.extBut _ _ c2 (e4.extBut _ _ c4 (e3.extBut _ _ c2 (e2.extBut _ _ c3 (e1.extBut _ _ c1 e))))
  have r1 : g5.IsTupleIter i1 l1 (k1 + 1) := tupIter_but (tupIter_but (tupIter_but j1 e3.extBut D.TOi1.symm) e4.extBut D.i12) e5.extBut D.TOi1.symm
  have r2 : g5.IsListIter i2 l2 (k2 + 1) := j2.extBut e5.extBut D.TOi2.symm
  have lz : z < g5.objs.size := Heap.lt_size q5
  show wpAny _ _ (Builtin.SmallTypes.ownedTupleHandOut (.ref z) (.ref g5.objs.size) >>= _) _ _ _
  refine wpAny_bind ?_
  unfold Builtin.SmallTypes.ownedTupleHandOut
  have q6 : IsZip (g5.push { cls := .type "tuple", data := .seq #[x, y] }) z TI TO .ellipsis := Heap.get?_push_of_some _ q5
  refine wpAny_bind (wpAny_setField_rec q6 (by simp) fun g7 q7 e7 => ?_)
  replace q7 : IsZip g7 z TI TO (rawInt g5.objs.size) := q7
  refine wpAny_setField_rec q7 (by simp) fun g8 q8 e8 => ?_
  replace q8 : IsZip g8 z TI TO (rawInt g5.objs.size) := q8
  have up : ∀ c o, c ≠ z → g5.get? c = some o → g8.get? c = some o := fun c o c1 e => e8.extBut _ _ c1 (e7.extBut _ _ c1 (Heap.get?_push_of_some _ e))
  have p8 : IsPair g8 g5.objs.size x y := e8.extBut _ _ (Nat.ne_of_gt lz) (e7.extBut _ _ (Nat.ne_of_gt lz) (Heap.get?_push_size _ rfl))
  have sz8 : g8.objs.size = g5.objs.size + 1 := by rw [e8.1, e7.1, Heap.size_push]
  rw [sz] at q8 p8 sz8
  refine wpAny_pure ⟨_, rfl, ?_⟩
  show Q (.ref g5.objs.size) _
  rw [sz]
  exact hQ g8 q8 (up _ _ D.TOz p5) (tupIter_at r1 fun o e => up _ o D.i1z e) (r2.at fun o e => up _ o D.i2z e) p8 sz8 fun c o c1 c2 c3 c4 e => up c o c1 (keep c o c1 c2 c3 c4 e)
theorem zipM_end {Q : PySem.Fin → Shared → Prop} (hh : A.handled = none) (D : ZipApart z TI TO i1 i2 l1 l2)
    (hz : IsZip s.heap z TI TO .none) (hTI : IsPair s.heap TI (.ref i1) (.ref i2)) (hTO : IsPair s.heap TO a b)
    (h1 : s.heap.IsTupleIter i1 l1 k1) (h2 : s.heap.IsListIter i2 l2 k2) (t1 : s.heap.IsTuple l1 xs) (t2 : s.heap.IsList l2 ys) (hend : xs[k1]? = none ∨ ys[k2]? = none)
    (hE : ∀ h' e, ZKeep z TO i1 i2 s.heap h' → (∃ o, h'.get? e = some o ∧ o.cls = .type "StopIteration") → E (.ref e) { s with heap := h' }) :
    wpAny (model prog w) A (Builtin.«zip.__next__» ⟨[.ref z], []⟩) Q E s := by
  show wpAny _ _ (field (.ref z) 2 >>= _) _ _ _
  refine wpAny_bind (wpAny_field hz rfl (x := .bool false) rfl ?_)
  show wpAny _ _ (field (.ref z) 3 >>= _) _ _ _
  refine wpAny_bind (wpAny_field hz rfl (x := .ref TI) rfl (wpAny_bind (wpAny_seqItems hTI rfl ?_)))
  show wpAny _ _ (Builtin.SmallTypes.ownedTupleIsFree (.ref z) >>= _) _ _ _
  refine wpAny_bind ?_
  unfold Builtin.SmallTypes.ownedTupleIsFree
  refine wpAny_bind (wpAny_field hz rfl (x := .none) rfl (wpAny_pure ?_))
  simp only [if_true]
  refine wpAny_bind (wpAny_rule (wpAny_bind (wpAny_field hz rfl (x := .ref TO) rfl (wpAny_bind (wpAny_setField_rec hz (by simp) fun g1 q1 e1 => ?_)))))
  replace q1 : IsZip g1 z TI TO .ellipsis := q1
  refine wpAny_bind ?_
  simp only [List.zipIdx_cons, List.zipIdx_nil, List.forIn_cons, List.forIn_nil]
  refine wpAny_bind (wpAny_bind (wpAny_onRaise ?_))
  show wpAny _ _ (Builtin.SmallTypes.nextOf (.ref i1) >>= _) _ _ _
  cases hx : xs[k1]? with
  | none =>
    refine wpAny_bind (nextOf_tuple_end hh (tupIter_but h1 e1.extBut D.i1z) (t1.extBut e1.extBut D.l1z) hx fun g2 e e2 he => ?_)
    obtain ⟨oe, ho, hc⟩ := he
    have q2 : IsZip g2 z TI TO .ellipsis := e2 _ _ D.i1z.symm q1
    have ne : e ≠ z := fun x => by subst x; rw [q2] at ho; cases ho; simp at hc
    exact wpAny_setField_rec q2 (by simp) fun g3 _ e3 => hE g3 e (fun c o c1 _ c3 _ x => e3.extBut _ _ c1 (e2 _ _ c3 (e1.extBut _ _ c1 x))) ⟨oe, e3.extBut _ _ ne ho, hc⟩
  | some x =>
    have hy : ys[k2]? = none := by rcases hend with h | h; rw [hx] at h; cases h; exact h
    refine wpAny_bind (nextOf_tuple_item (tupIter_but h1 e1.extBut D.i1z) (t1.extBut e1.extBut D.l1z) hx fun g2 j1 e2 => wpAny_pure ?_)
    have p2 : IsPair g2 TO a b := e2.extBut _ _ D.TOi1 (e1.extBut _ _ D.TOz hTO)
    refine wpAny_bind (wpAny_seqItems p2 rfl (wpAny_bind (wpAny_updateSeq_pair p2 fun g3 p3 e3 => ?_)))
    refine wpAny_bind (wpAny_letGo (wpAny_pure ?_))
    refine wpAny_bind (wpAny_bind (wpAny_onRaise ?_))
    show wpAny _ _ (Builtin.SmallTypes.nextOf (.ref i2) >>= _) _ _ _
    refine wpAny_bind (wpAny_nextOf_list_end hh (((h2.extBut e1.extBut D.i2z).extBut e2.extBut D.i12.symm).extBut e3.extBut D.TOi2.symm)
      (((t2.extBut e1.extBut D.l2z).extBut e2.extBut D.l2i1).extBut e3.extBut D.l2TO) hy fun g4 e e4 he => ?_)
    obtain ⟨oe, ho, hc⟩ := he
    have q4 : IsZip g4 z TI TO .ellipsis := e4 _ _ D.i2z.symm (e3.extBut _ _ D.TOz.symm (e2.extBut _ _ D.i1z.symm q1))
    have ne : e ≠ z := fun x => by subst x; rw [q4] at ho; cases ho; simp at hc
    exact wpAny_setField_rec q4 (by simp) fun g5 _ e5 => hE g5 e (fun c o c1 c2 c3 c4 x => e5.extBut _ _ c1 (e4 _ _ c4 (e3.extBut _ _ c2 (e2.extBut _ _ c3 (e1.extBut _ _ c1 x))))) ⟨oe, e5.extBut _ _ ne ho, hc⟩
end
noncomputable def ItzM (K : PySem.W.Frag) (a b : Addr) : It :=
  ⟨fun i H => ∃ xs ys x y, SqT K H a xs ∧ SqL K H b ys ∧ xs[i]? = some x ∧ ys[i]? = some y,
   fun i H v H' => ∃ t x y, v = .ref t ∧ H t = none ∧ H' = upd H t (.tup [x, y]) ∧ (∀ xs, SqT K H a xs → xs[i]? = some x) ∧ ∀ ys, SqL K H b ys → ys[i]? = some y,
   fun i H => ∃ xs ys, SqT K H a xs ∧ SqL K H b ys ∧ (xs.length ≤ i ∨ ys.length ≤ i)⟩
theorem turn_zipM {P : Program} {w : World} {K : PySem.W.Frag} {elts : List Expr} {x1} {pos : Pos} {z TI TO i1 i2 a b : Addr} (D : ZipApart z TI TO i1 i2 a b) : Turn P w K (.Tuple elts x1 pos) (ItzM K a b) [z, TI, TO, i1, i2] z
    (fun i h => IsZip h z TI TO .none ∧ IsPair h TI (.ref i1) (.ref i2) ∧ (∃ p q, IsPair h TO p q) ∧ h.IsTupleIter i1 a i ∧ h.IsListIter i2 b i) where
  mem := by simp
  obj := fun i h st c hc => by
    obtain ⟨hz, hTI, ⟨p, q, hTO⟩, ⟨o1, e1, c1, d1⟩, ⟨o2, e2, c2, d2⟩⟩ := st
    simp only [List.mem_cons, List.not_mem_nil, or_false] at hc
    rcases hc with rfl | rfl | rfl | rfl | rfl
    · exact ⟨_, hz, fun v z => nomatch z⟩
    · exact ⟨_, hTI, fun v z => nomatch z⟩
    · exact ⟨_, hTO, fun v z => nomatch z⟩
    · exact ⟨_, e1, fun v z => by rw [d1] at z; cases z⟩
    · exact ⟨_, e2, fun v z => by rw [d2] at z; cases z⟩
  keep := fun i h h' st k => by
    obtain ⟨hz, hTI, ⟨p, q, hTO⟩, h1, h2⟩ := st
    exact ⟨k z (by simp) _ hz, k TI (by simp) _ hTI, ⟨p, q, k TO (by simp) _ hTO⟩, tupIter_at h1 fun o e => k i1 (by simp) o e, h2.at fun o e => k i2 (by simp) o e⟩
  item := by
    intro X hP hw hK hc i pins s σ H E I hf st hg
    subst hP hw hK
    obtain ⟨hz, hTI, ⟨p, q, hTO⟩, h1, h2⟩ := st
    obtain ⟨xs, ys, x, y, hq1, hq2, hx, hy⟩ := hg
    obtain ⟨us, rv1, p1, z1⟩ := I.tuple hq1
    obtain ⟨ws, rv2, p2, z2⟩ := I.list hq2
    obtain ⟨u, hu, ru⟩ := rv1.get hx
    obtain ⟨w, hw, rw'⟩ := rv2.get hy
    have hT : s.TypeIs (.ref z) "zip" := ⟨_, hz, rfl⟩
    unfold pyNext
    refine wpAny_bind (wpAny_attempt (wpAny_callSpecial?_slot (name := Str.ofString "__next__") hT F.slot_zip_next
      (wpAny_call_entry F.slot_zip_next hT F.entry_zip_next
        (zipM_next D hz hTI hTO h1 h2 p1 p2.isList (x := u) (y := w) (by simpa using hu) (by simpa using hw) fun h' a1 a2 a3 a4 a5 a6 hk => wpAny_pure ?_) (F.args_zip_next_1 _))))
    refine ⟨_, rfl, wpAny_letOwnedTupleGo_zip (s := { s with heap := h' }) a1 fun h'' b1 hs => ?_⟩
    have lt : ∀ {c o}, s.heap.get? c = some o → c < s.heap.objs.size := fun e => Heap.lt_size e
    have lz := lt hz
    have lTO := lt hTO
    have lTI := lt hTI
    obtain ⟨o1, e1, _⟩ := id h1
    obtain ⟨o2, e2, _⟩ := id h2
    have l1 := lt e1
    have l2 := lt e2
    obtain ⟨I1, fr⟩ := I.turnedNew (h' := h'') (t' := s.toks) (fp := [z, TI, TO, i1, i2]) hf ru rw' (fun c hc => by
      simp only [List.mem_cons, List.not_mem_nil, or_false] at hc
      rcases hc with rfl | rfl | rfl | rfl | rfl <;> assumption) (hs.extBut _ _ (Nat.ne_of_gt lz) a5) (fun c o hc e => by
      simp only [List.mem_cons, List.not_mem_nil, or_false, not_or] at hc
      exact hs.extBut _ _ hc.1 (hk c o hc.1 hc.2.2.1 hc.2.2.2.1 hc.2.2.2.2 e))
    exact ⟨.ref s.heap.objs.size, _, I1, rfl, ⟨_, x, y, rfl, I.hok.fresh (Nat.le_refl _), rfl, fun ys hy' => by rw [I.tuple_inj hy' hq1]; exact hx, fun ys' hy' => by rw [I.list_inj hy' hq2]; exact hy⟩,
      ⟨b1, hs.extBut _ _ D.TIz (hk _ _ D.TIz D.TITO D.TIi1 D.TIi2 hTI), ⟨_, _, hs.extBut _ _ D.TOz a2⟩, tupIter_but a3 hs.extBut D.i1z, a4.extBut hs.extBut D.i2z⟩, fr⟩
  done := by
    intro X hP hw hK hc i pins s σ H E I hf st hg
    subst hP hw hK
    obtain ⟨hz, hTI, ⟨p, q, hTO⟩, h1, h2⟩ := st
    obtain ⟨xs, ys, hq1, hq2, hend⟩ := hg
    obtain ⟨us, rv1, p1, z1⟩ := I.tuple hq1
    obtain ⟨ws, rv2, p2, z2⟩ := I.list hq2
    have l1 := rv1.length
    have l2 := rv2.length
    have hT : s.TypeIs (.ref z) "zip" := ⟨_, hz, rfl⟩
    unfold pyNext
    refine wpAny_bind (wpAny_attempt (wpAny_callSpecial?_slot (name := Str.ofString "__next__") hT F.slot_zip_next
      (wpAny_call_entry F.slot_zip_next hT F.entry_zip_next (zipM_end (I.ok.hd hc) D hz hTI hTO h1 h2 p1 p2.isList (hend.imp (fun h => by simp; omega) fun h => by simp; omega) fun h' e hk he => ?_) (F.args_zip_next_1 _))))
    obtain ⟨o, ho, hcl⟩ := he
    refine wpAny_bind (wpAny_isInstance (T := "StopIteration") (b := true) ⟨o, ho, hcl⟩ isSubtype_stop ?_)
    refine wpAny_pure ⟨rfl, I.turnedL (t' := s.toks) (fp := [z, TI, TO, i1, i2]) hf fun c o hc e => ?_⟩
    simp only [List.mem_cons, List.not_mem_nil, or_false, not_or] at hc
    exact hk c o hc.1 hc.2.2.1 hc.2.2.2.1 hc.2.2.2.2 e
  self := fun _ _ _ _ _ st h => wpAny_pyIter_zip st.1 h
noncomputable abbrev wkL (h : Heap) (l : Addr) : Heap := h.push { cls := .type "list_iterator", data := .fields #[.ref l, .int 0 0] }
noncomputable abbrev wm2 (h : Heap) (a b : Addr) : Heap := wkL (wkT h a) b
noncomputable abbrev wm3 (h : Heap) (a b : Addr) : Heap := (wm2 h a b).push { cls := .type "tuple", data := .seq #[.ref h.objs.size, .ref (wkT h a).objs.size] }
noncomputable abbrev wm4 (h : Heap) (a b : Addr) : Heap := (wm3 h a b).push { cls := .type "tuple", data := .seq #[.none, .none] }
noncomputable abbrev wm5 (h : Heap) (a b : Addr) : Heap := (wm4 h a b).push { cls := .type "zip", data := .fields #[.none, .bool false, .bool false, .ref (wm2 h a b).objs.size, .ref (wm3 h a b).objs.size] }
set_option maxHeartbeats 1000000 in
theorem meets_zip_newM (l1 l2 : Addr) (xs ys : Array Value) :
    Meets (Builtin.«zip.__new__» ⟨[.type "zip", .ref l1, .ref l2], []⟩) (fun _ R s => s.heap.IsTuple l1 xs ∧ s.heap.IsList l2 ys ∧
      R (.ok (.ret (.ref (wm4 s.heap l1 l2).objs.size))) { s with heap := wm5 s.heap l1 l2 }) :=
  .of_wp fun prog w A R s h => by
    obtain ⟨hp, g, d, tk, os⟩ := s; obtain ⟨t1, t2, h⟩ := h
    have hsub := sub_zip
    have hL1 : Heap.IsTuple (Shared.heap ⟨hp, g, d, tk, os⟩) l1 xs := t1
    have hL2 : Heap.IsList (Shared.heap ⟨hp.push { cls := .type "tuple_iterator", data := .fields #[.ref l1, .int 0 0] }, g, d, tk, os⟩) l2 ys := t2.push _
    wp_walk using wpAny_pyIter_tuple hL1, wpAny_pyIter_list hL2
    exact ⟨_, rfl, h⟩
theorem call_zip_mixed {prog : Program} {w : World} {A : Around} {E : Value → Shared → Prop} {s : Shared} {l1 l2 : Addr} {xs ys : Array Value} {Q : Value → Shared → Prop} (t1 : s.heap.IsTuple l1 xs) (t2 : s.heap.IsList l2 ys)
    (h : ∀ h', IsZip h' (s.heap.objs.size + 4) (s.heap.objs.size + 2) (s.heap.objs.size + 3) .none → IsPair h' (s.heap.objs.size + 2) (.ref s.heap.objs.size) (.ref (s.heap.objs.size + 1)) →
      IsPair h' (s.heap.objs.size + 3) .none .none → h'.IsTupleIter s.heap.objs.size l1 0 → h'.IsListIter (s.heap.objs.size + 1) l2 0 → h'.objs.size = s.heap.objs.size + 5 →
      (∀ c o, s.heap.get? c = some o → h'.get? c = some o) → Q (.ref (s.heap.objs.size + 4)) { s with heap := h' }) :
    wpAny (model prog w) A (call (.type "zip") [.ref l1, .ref l2]) Q E s := by
  refine callType_new F.called_zip (by decide) (F.typeCall_zip_2 _ _) (F.newCall_zip_2 _ _) (fun obj => F.args_object_init_3 obj _ _) F.entry_zip_new
    (meets_zip_newM l1 l2 xs ys) ⟨t1, t2, ?_⟩
  have n1 : (wkT s.heap l1).objs.size = s.heap.objs.size + 1 := Heap.size_push ..
  have n2 : (wm2 s.heap l1 l2).objs.size = s.heap.objs.size + 2 := by rw [Heap.size_push, n1]
  have n3 : (wm3 s.heap l1 l2).objs.size = s.heap.objs.size + 3 := by rw [Heap.size_push, n2]
  have n4 : (wm4 s.heap l1 l2).objs.size = s.heap.objs.size + 4 := by rw [Heap.size_push, n3]
  have n5 : (wm5 s.heap l1 l2).objs.size = s.heap.objs.size + 5 := by rw [Heap.size_push, n4]
  have up : ∀ {h : Heap} {o : Obj} {c : Addr} {v : Obj}, h.get? c = some v → (h.push o).get? c = some v := fun e => Heap.get?_push_of_some _ e
  have g5 : (wm5 s.heap l1 l2).get? (wm4 s.heap l1 l2).objs.size = some _ := Heap.get?_push_size _ rfl
  have g4 : (wm5 s.heap l1 l2).get? (wm3 s.heap l1 l2).objs.size = some _ := up (Heap.get?_push_size _ rfl)
  have g3 : (wm5 s.heap l1 l2).get? (wm2 s.heap l1 l2).objs.size = some _ := up (up (Heap.get?_push_size _ rfl))
  have g2 : (wm5 s.heap l1 l2).get? (wkT s.heap l1).objs.size = some _ := up (up (up (Heap.get?_push_size _ rfl)))
  have g1 : (wm5 s.heap l1 l2).get? s.heap.objs.size = some _ := up (up (up (up (Heap.get?_push_size _ rfl))))
  show _ ∧ _
  rw [n2, n3, n4] at g5
  rw [n1, n2] at g3
  rw [n3] at g4
  rw [n1] at g2
  rw [n4]
  exact ⟨⟨_, g5, rfl⟩, h _ g5 g3 g4 ⟨_, g1, rfl, rfl⟩ ⟨_, g2, rfl, rfl⟩ n5 fun c o e => up (up (up (up (up e))))⟩
section
variable {X : Cx} {elts : List Expr} {x1 : Nat} {tpos : Pos}
noncomputable def iZipM (K : PySem.W.Frag) (ta : TA) : TI := fun σ H R => ta σ H fun vs H1 => ∃ a b, vs = [.ref a, .ref b] ∧ (∃ xs, SqT K H1 a xs) ∧ (∃ ys, SqL K H1 b ys) ∧ R (ItzM K a b) H1
theorem pi_zipM {a b : Expr} {ta : TA} {p pos : Pos} (hg : Gl X "zip") (hm : X.mg "zip" = none) (ha : PA X [a, b] ta) (hs : starEach [a, b] X.env = [(false, eval a X.env), (false, eval b X.env)] := by rfl) (hs2 : starEach [b] X.env = [(false, eval b X.env)] := by rfl) :
    PI X (.Tuple elts x1 tpos) (.Call (.Name "zip" p) [a, b] [] pos) (iZipM X.K ta) := by
  intro pins s σ H R I h
  refine Call_ (ld_blt I hg hm boot_zip (PyProof.Rows.callWith_type1 (thn (ha pos pins s σ H _ I h) fun us s1 ⟨vs, H1, I1, r1, q1⟩ => ?_) (by rw [hs, hs2]) (by rw [hs2]; rfl)))
  obtain ⟨qa, qb, e, ⟨xs, h1⟩, ⟨ys, h2⟩, q⟩ := q1
  subst e
  cases r1 with
  | cons r rr =>
    cases rr with
    | cons r' rr =>
      cases rr
      obtain rfl := r
      obtain rfl := r'
      obtain ⟨us1, v1, p1, z1⟩ := I1.tuple h1
      obtain ⟨us2, v2, p2, z2⟩ := I1.list h2
      have a1 : qa < s1.heap.objs.size := by obtain ⟨_, e, _⟩ := p1; exact Heap.lt_size e
      have a2 : qb < s1.heap.objs.size := by obtain ⟨_, _, e, _⟩ := p2; exact Heap.lt_size e
      refine call_zip_mixed p1 p2.isList fun h' hz hTI hTO hi1 hi2 hsz hk => ?_
      refine wpAny_pyIter_zip (s := { s1 with heap := h' }) hz ?_
      refine ⟨_, _, _, _, H1, rfl, I1.kept (t' := s1.toks) hk, turn_zipM (zipApart_new a1 a2), ⟨hz, hTI, ⟨_, _, hTO⟩, hi1, hi2⟩, fun b hb => ?_, q⟩
      simp only [List.mem_cons, List.not_mem_nil, or_false] at hb
      rcases hb with rfl | rfl | rfl | rfl | rfl
      · exact I1.fpOk (Nat.le_add_right _ 4) (I1.hok.fresh (Nat.le_add_right _ 4))
      · exact I1.fpOk (Nat.le_add_right _ 2) (I1.hok.fresh (Nat.le_add_right _ 2))
      · exact I1.fpOk (Nat.le_add_right _ 3) (I1.hok.fresh (Nat.le_add_right _ 3))
      · exact I1.fpOk (Nat.le_refl _) (I1.hok.fresh (Nat.le_refl _))
      · exact I1.fpOk (Nat.le_add_right _ 1) (I1.hok.fresh (Nat.le_add_right _ 1))
end
end L2
namespace DL
open PySem PySem.Spec PyProof.Rows L2
noncomputable def zipTL : List D → Option (List D)
  | [.tup ds, .lst es] => some ((ds.zip es).map fun p => .tup [p.1, p.2])
  | _ => none
noncomputable def zipMI (gA : GA) : GA := fun δ => (gA δ).bind zipTL
section
variable {X : Cx} {a b : Expr} {gA : Ds → Option (List D)} {elts : List Expr} {x1 : Nat} {tpos p pos : Pos}
theorem pid_zipM (hm : X.mg "zip" = none) (ha : PDA X [a, b] gA) (hg : Gl X "zip" := by rfl) (hs : starEach [a, b] X.env = [(false, eval a X.env), (false, eval b X.env)] := by rfl) (hs2 : starEach [b] X.env = [(false, eval b X.env)] := by rfl) :
    PID X (.Tuple elts x1 tpos) (.Call (.Name "zip" p) [a, b] [] pos) (zipMI gA) := .mk fun B δ => L2.PI.imp (pi_zipM hg hm (ha B δ) hs hs2) fun σ H R ⟨items, en, e1, k⟩ => by
  unfold zipMI at e1
  cases e2 : gA δ with
  | none => rw [e2] at e1; cases e1
  | some ds =>
    rw [e2] at e1
    simp only [Option.bind_some] at e1
    unfold zipTL at e1
    split at e1 <;> try cases e1
    rename_i ds es
    refine ⟨_, en, e2, fun vs H' s' r => ?_⟩
    rw [rps_cons] at r
    obtain ⟨x, t, rfl, r1, r⟩ := r
    rw [rps_cons] at r
    obtain ⟨y, t, rfl, r2, r⟩ := r
    rw [rps_nil] at r; subst r
    rw [rp_tup] at r1
    rw [rp_lst] at r2
    obtain ⟨q1, us, rfl, s1, t1⟩ := r1
    obtain ⟨q2, ws, rfl, s2, t2⟩ := r2
    have hlen : ((ds.zip es).map fun p => D.tup [p.1, p.2]).length = min us.length ws.length := by rw [List.length_map, List.length_zip, t1.length, t2.length]
    refine ⟨q1, q2, rfl, ⟨us, s1.to⟩, ⟨ws, s2.to⟩, k _ H' s' ⟨fun i H2 g2 hi => ?_, fun i H2 v H3 g2 y hi => ?_, fun i H2 g2 hi => ?_⟩⟩
    · rw [hlen] at hi
      have h1 : i < us.length := by omega
      have h2 : i < ws.length := by omega
      exact ⟨us, ws, us[i], ws[i], (s1.mono g2).to, (s2.mono g2).to, by simp [h1], by simp [h2]⟩
    · obtain ⟨t, x, y, rfl, ht, rfl, hx, hy⟩ := y
      rw [List.length_map, List.length_zip] at hi
      have h1 : i < ds.length := by omega
      have h2 : i < es.length := by omega
      obtain ⟨x', e4, rx⟩ := t1.get (i := i) (List.getElem?_eq_getElem h1)
      obtain ⟨y', e5, ry⟩ := t2.get (i := i) (List.getElem?_eq_getElem h2)
      have ex := hx us (s1.mono g2).to
      have ey := hy ws (s2.mono g2).to
      rw [e4] at ex
      rw [e5] at ey
      cases ex
      cases ey
      refine ⟨same_upd ht, .tup [ds[i], es[i]], by rw [List.getElem?_map, show (ds.zip es)[i]? = some (ds[i], es[i]) from List.getElem?_zip_eq_some.mpr ⟨List.getElem?_eq_getElem h1, List.getElem?_eq_getElem h2⟩]; rfl, fun B' gB hb => ?_⟩
      exact rp_pair (fun z => hb t z ht) upd_same (rx.mono gB) (ry.mono gB)
    · rw [hlen] at hi
      exact ⟨us, ws, (s1.mono g2).to, (s2.mono g2).to, by omega⟩
end
end DL
namespace L2
open PySem PySem.Spec PyProof.Rows PySem.W
theorem call_lenK {X : Cx} : CallR X (.builtin "len") (fun xs H Q => ∃ (p : Addr) (kvs : List (Key × V)), xs = [.ref p] ∧ H p = some (.dK kvs) ∧ Q (.int kvs.length) H) := by
  intro pins s σ H xs us Q I r h
  obtain ⟨p, kvs, rfl, hq, q⟩ := h
  obtain ⟨u, rfl, rx⟩ := vals1 r
  cases rx
  have hn := line63
  obtain ⟨z, hd, vs, rel, dd⟩ := dk_of I.hok hq
  have hl := rel.length
  exact call_len_dict hd dd (by omega) ⟨.int kvs.length, H, I.tok _, ⟨s.toks + 1, by rw [hl]⟩, q⟩
end L2
namespace DL
open PySem PySem.Spec PyProof.Rows L2
noncomputable def lenKD : List D → Option D
  | [.dct (.inl ks) _] => some (.int ks.length)
  | _ => none
theorem fn_lenK {K : PySem.W.Frag} : FnR K (fun xs H Q => ∃ (p : Addr) (kvs : List (Key × V)), xs = [.ref p] ∧ H p = some (.dK kvs) ∧ Q (.int kvs.length) H) lenKD := by
  intro H B xs ds d Q hb r h k
  unfold lenKD at h
  split at h
  · cases h
    obtain ⟨v, rfl, r1⟩ := rps_one r
    rw [rp_dct] at r1
    obtain ⟨p, ys, rfl, _, hp, hl, rr⟩ := r1
    refine ⟨p, _, rfl, hp, k _ H (Same.refl H) ?_⟩
    rw [rp_int, List.length_zip, ← hl, Nat.min_self]
  · cases h
end DL
namespace W
open PySem DL
noncomputable def hasAll (x s : Str) : Bool := x.cps.toList.all fun c => decide (c ∈ s.cps.toList)
noncomputable def nameS : Str := "0123456789abcdefghijklmnopqrstuvwxyz"
noncomputable def isName (x : Str) : Bool := (decide ((x.length : Int) ≤ 8) && hasAll x nameS) && decide (0 < (x.length : Int))
end W
namespace W
open PySem DL
end W
namespace W
open PySem DL
inductive Pt where
  | text (w : Str) | row (vs : List D) | table (ps : List (Str × D)) | rcd (c : Str) (ps : List (Str × D))
noncomputable def pr (p : Str × D) : D := .tup [.str p.1, p.2]
noncomputable def Pt.d : Pt → D
  | .text w => .tup [.str "text", .str w]
  | .row vs => .tup [.str "row", .tup vs]
  | .table ps => .tup [.str "table", .tup (ps.map pr)]
  | .rcd c ps => .tup [.str "record", .str c, .tup (ps.map pr)]
noncomputable def Pt.vals : Pt → List D
  | .text _ => []
  | .row vs => vs
  | .table ps => ps.map (·.2)
  | .rcd _ ps => ps.map (·.2)
noncomputable def Pt.pnames : Pt → List Str
  | .text _ => []
  | .row _ => []
  | .table ps => ps.map (·.1)
  | .rcd _ ps => ps.map (·.1)
noncomputable def Pt.cls : Pt → List Str
  | .rcd c _ => [c]
  | _ => []
noncomputable def Pt.all (p : Pt) : List Str := p.pnames ++ p.cls
theorem name_short {n : Str} (h : isName n = true) : n.length ≤ 8 := by
  unfold isName at h
  simp only [Bool.and_eq_true, decide_eq_true_eq] at h
  omega
theorem comp_snd (ps : List (Str × D)) : compD (gN 0) noT (o2 (gv 0) (gc (.int 1)) ixD) [.un] (ps.map pr) = some (ps.map (·.2)) := by
  rw [compD_map (fun d => match d with | .tup [_, v] => v | _ => .non) (fun d hd => by
    obtain ⟨p, hp, rfl⟩ := List.mem_map.mp hd
    exact ⟨[.sh (pr p)], rfl, rfl, rfl⟩), List.map_map]
  rfl
noncomputable def Pt.few (p : Pt) : Prop := p.vals.length ≤ sizeLine
end W
namespace W
open PySem DL
noncomputable def signS : Str := "abcdefghijklmnopqrstuvwxyz0123456789"
noncomputable def cg (i : Int) : Nat := signS.cps.toList.getD i.toNat 0
theorem sign_at (i : Int) (h0 : 0 ≤ i) (h1 : i < 36) : ixD (.str signS) (.int i) = some (.str ⟨#[cg i]⟩) := by
  have hl : signS.cps.toList.length = 36 := by decide +kernel
  have hz : signS.length ≤ sizeLine := by decide +kernel
  have := atI_in (xs := signS.cps.toList) (i := i) h0 (by rw [hl]; omega) 0
  simp only [ixD, if_pos hz, this, Option.map_some]
  rfl
theorem cg_mem (i : Int) (h0 : 0 ≤ i) (h1 : i < 36) : cg i ∈ nameS.cps.toList := by
  have h : ∀ n : Nat, n < 36 → signS.cps.toList.getD n 0 ∈ nameS.cps.toList := by decide +kernel
  exact h i.toNat (by omega)
theorem cg_inj (i j : Int) (h0 : 0 ≤ i) (h1 : i < 36) (h2 : 0 ≤ j) (h3 : j < 36) (e : cg i = cg j) : i = j := by
  have h : ∀ n : Nat, n < 36 → ∀ m : Nat, m < 36 → signS.cps.toList.getD n 0 = signS.cps.toList.getD m 0 → n = m := by decide +kernel
  have := h i.toNat (by omega) j.toNat (by omega) e
  omega
noncomputable def ones (l : List Nat) : List Str := l.map fun c => ⟨#[c]⟩
noncomputable def strOf (l : List Nat) : Str := ⟨l.toArray⟩
theorem join_ones (l : List Nat) : Txt.join "" (ones l) = strOf l := by
  have key : ∀ (l : List Nat) (acc : List Nat), (ones l).foldl (fun a p => a ++ ("" : Str).cps ++ p.cps) acc.toArray = (acc ++ l).toArray := by
    intro l
    induction l with
    | nil => intro acc; simp [ones]
    | cons c l ih =>
      intro acc
      show (ones l).foldl _ (acc.toArray ++ ("" : Str).cps ++ #[c]) = _
      have e : acc.toArray ++ ("" : Str).cps ++ #[c] = (acc ++ [c]).toArray := by
        have : ("" : Str).cps = #[] := rfl
        rw [this]; simp
      rw [e, ih]
      simp
  cases l with
  | nil => rfl
  | cons c l =>
    show (⟨_⟩ : Str) = _
    unfold strOf
    congr 1
    exact key l [c]
theorem sum_ones' : ∀ l : List Nat, ((ones l).map (·.length)).sum = l.length
  | [] => rfl
  | c :: l => by
    show 1 + ((ones l).map (·.length)).sum = l.length + 1
    rw [sum_ones' l]; omega
theorem isName_of (l : List Nat) (h1 : 0 < l.length) (h2 : l.length ≤ 8) (h3 : ∀ c ∈ l, c ∈ nameS.cps.toList) : isName (strOf l) = true := by
  unfold isName hasAll
  have e : (strOf l).length = l.length := by show l.toArray.size = _; simp
  have e2 : (strOf l).cps.toList = l := by simp [strOf]
  rw [e, e2]
  simp only [Bool.and_eq_true, decide_eq_true_eq, List.all_eq_true]
  exact ⟨⟨by omega, fun c hc => by simpa using h3 c hc⟩, by omega⟩
theorem strOf_inj {l m : List Nat} (h : strOf l = strOf m) : l = m := by
  unfold strOf at h
  injection h with h
  simpa using congrArg Array.toList h
end W
namespace Pn
open PySem DL W
noncomputable def G_values : GS := (seqD (ifD (ob (o2 (o2 (gv 0) (gc (.int 0)) ixD) (gc (.str "text")) eqD))
  (seqD (retF (lstG nilA))
  nilD)
  nilD)
  (seqD (ifD (ob (o2 (o2 (gv 0) (gc (.int 0)) ixD) (gc (.str "row")) eqD))
  (seqD (retF (oA (consA (o2 (gv 0) (gc (.int 1)) ixD) nilA) lstOfD))
  nilD)
  nilD)
  (seqD (retF (compG 1 [] (tupI (o2 (gv 0) (unG negD (gc (.int 1))) ixD)) (gN 0) noT (o2 (gv 0) (gc (.int 1)) ixD)))
  nilD)))
noncomputable def N_values : List Str := ["part"]
noncomputable def m_values : List D → Option D := mkN 1 N_values G_values
theorem values_ok (p : Pt) (h : p.few) : m_values [p.d] = some (.lst p.vals) := by
  cases p with
  | text w => kernel_rfl
  | row vs =>
    refine mkN_rf rfl (seq_to (δ' := [.sh (Pt.row vs).d]) (by rw [if_f (by kernel_rfl)]; rfl) (seq_rf (by rw [if_t (by kernel_rfl)]; rfl)))
  | table ps =>
    refine mkN_rf rfl (seq_to (δ' := [.sh (Pt.table ps).d]) (by rw [if_f (by kernel_rfl)]; rfl) (seq_to (δ' := [.sh (Pt.table ps).d]) (by rw [if_f (by kernel_rfl)]; rfl) (seq_rf (retF_of ?_))))
    exact comp_of (items := ps.map pr) rfl (by have : (ps.map (·.2)).length ≤ sizeLine := h; simpa using this) (comp_snd ps)
  | rcd c ps =>
    refine mkN_rf rfl (seq_to (δ' := [.sh (Pt.rcd c ps).d]) (by rw [if_f (by kernel_rfl)]; rfl) (seq_to (δ' := [.sh (Pt.rcd c ps).d]) (by rw [if_f (by kernel_rfl)]; rfl) (seq_rf (retF_of ?_))))
    exact comp_of (items := ps.map pr) rfl (by have : (ps.map (·.2)).length ≤ sizeLine := h; simpa using this) (comp_snd ps)
noncomputable def put : Pt → List D → Pt
  | .text w, _ => .text w
  | .row _, vs => .row vs
  | .table ps, vs => .table ((ps.map (·.1)).zip vs)
  | .rcd c ps, vs => .rcd c ((ps.map (·.1)).zip vs)
end Pn
namespace W
open PySem DL StrLaws Builtin.Str
theorem strOf_list (l : List Nat) : (strOf l).cps.toList = l := by simp [strOf]
theorem strOf_len (l : List Nat) : (strOf l).length = l.length := by show l.toArray.size = _; simp
end W
namespace W
open PySem DL StrLaws
end W
namespace Gw
open PySem DL W
end Gw
namespace Gw
open PySem DL W StrLaws
theorem mul_r (i j : Int) (h : -(2 ^ 64) < j ∧ j < 2 ^ 64) : mulA (.int i) (.int j) = some (.int (i * j)) := by simp only [mulA]; rw [if_pos (.inr h)]
theorem mul_l (i j : Int) (h : -(2 ^ 64) < i ∧ i < 2 ^ 64) : mulA (.int i) (.int j) = some (.int (i * j)) := by simp only [mulA]; rw [if_pos (.inl h)]
theorem mod_p (i j : Int) (h : 0 < j) : modD (.int i) (.int j) = some (.int (i % j)) := by simp only [modD, ii]; rw [if_pos h]
theorem app_ow {i : Nat} {g : GE} {δ : Ds} {l : List D} {d : D} (h1 : owL i δ = some l) (h2 : g δ = some d) (h3 : l.length < sizeLine) : exprX (appX i g) δ = some (.nx (δ.set i (.ow (.lst (l ++ [d]))))) := by
  unfold exprX appX
  rw [h1, h2]
  simp only [Option.bind_some]
  rw [if_pos h3]
  rfl
theorem take_s (l : List Nat) (k : Int) (h0 : 0 ≤ k) (h1 : k ≤ l.length) : Txt.slice (strOf l) none (some k) = strOf (l.take k.toNat) := by
  show sliceText _ _ _ = _
  rw [sliceText_to ⟨h0, by rw [strOf_list]; exact h1⟩, strOf_list]
  simp [strOf]
theorem drop_s (l : List Nat) (k : Int) (h0 : 0 ≤ k) (h1 : k ≤ l.length) : Txt.slice (strOf l) (some k) none = strOf (l.drop k.toNat) := by
  show sliceText _ _ _ = _
  rw [sliceText_from ⟨h0, by rw [strOf_list]; exact h1⟩, strOf_list]
  unfold strOf
  congr 2
  rw [List.take_of_length_le]
  rw [List.length_drop]
  omega
theorem app_s (a b : List Nat) : strOf a ++ strOf b = strOf (a ++ b) := by
  show (⟨_⟩ : Str) = ⟨_⟩
  simp [strOf]
theorem add_s (a b : List Nat) (h : a.length + b.length ≤ sizeLine) : addA (.str (strOf a)) (.str (strOf b)) = some (.str (strOf (a ++ b))) := by
  simp only [addA]
  rw [if_pos (by rw [strOf_len, strOf_len]; exact h), app_s]
end Gw
namespace Gw
open PySem DL W
end Gw
namespace Gw
open PySem DL W
end Gw
namespace Gw
open PySem DL W
end Gw
namespace Bw
open PySem DL W
noncomputable def G_number_bytes : GS := (seqD (ownD 1 (lstG (consA (o2 (gv 0) (gc (.int 128)) modD) nilA)))
  (seqD (setD (gN 2) (o2 (gv 0) (gc (.int 128)) fdivD))
  (seqD (whileD (ob (o2 (gv 2) (gc (.int 0)) gtD))
  (seqD (exprX (appX 1 (o2 (gc (.int 128)) (o2 (gv 2) (gc (.int 128)) modD) addA)))
  (seqD (setD (gN 2) (o2 (gv 2) (gc (.int 128)) fdivD))
  nilD)) 100000)
  (seqD (retF (borA (oA (consA (gv 1) nilA) revD)))
  nilD))))
noncomputable def N_number_bytes : List Str := ["number", "out", "rest"]
noncomputable def m_number_bytes : List D → Option D := mkN 1 N_number_bytes G_number_bytes
noncomputable def G_folded : GS := (seqD (ifD (ob (o2 (gv 0) (gc (.int 0)) ltD))
  (seqD (retD (o2 (o2 (unG negD (gc (.int 2))) (gv 0) mulA) (gc (.int 1)) subD))
  nilD)
  nilD)
  (seqD (retD (o2 (gc (.int 2)) (gv 0) mulA))
  nilD))
noncomputable def N_folded : List Str := ["number"]
noncomputable def m_folded : List D → Option D := mkF 1 N_folded G_folded
noncomputable def G_sign_bytes : GS := (seqD (retF (compG 1 [] (strI (gv 0)) (gN 0) noT (oA (consA (gv 0) nilA) ordD)))
  nilD)
noncomputable def N_sign_bytes : List Str := ["signs"]
noncomputable def m_sign_bytes : List D → Option D := mkN 1 N_sign_bytes G_sign_bytes
noncomputable def G_part_number : GS := (seqD (retD (o2 (o2 (gc (.int 4)) (oA (consA (o2 (gv 0) (unG negD (gc (.int 1))) ixD) nilA) lenD) mulA) (oA (consA (o2 (gv 0) (gc (.int 0)) ixD) nilA) (idxC ["text", "row", "table", "record"])) addA))
  nilD)
noncomputable def N_part_number : List Str := ["part"]
noncomputable def m_part_number : List D → Option D := mkF 1 N_part_number G_part_number
noncomputable def G_text_bytes : GS := (seqD (ifD (ob (o2 (o2 (gv 0) (gc (.int 0)) ixD) (gc (.str "text")) eqD))
  (seqD (retF (oA (consA (o2 (gv 0) (gc (.int 1)) ixD) nilA) m_sign_bytes))
  nilD)
  nilD)
  (seqD (retF (lstG nilA))
  nilD))
noncomputable def N_text_bytes : List Str := ["part"]
noncomputable def m_text_bytes : List D → Option D := mkN 1 N_text_bytes G_text_bytes
noncomputable def G_held_items : GS := (seqD (ifD (ob (o2 (o2 (gv 0) (gc (.int 0)) ixD) (gc (.str "text")) eqD))
  (seqD (retF (lstG nilA))
  nilD)
  nilD)
  (seqD (ifD (ob (o2 (o2 (gv 0) (gc (.int 0)) ixD) (gc (.str "row")) eqD))
  (seqD (retF (oA (consA (o2 (gv 0) (gc (.int 1)) ixD) nilA) lstOfD))
  nilD)
  nilD)
  (seqD (ownD 1 (lstG nilA))
  (seqD (ifD (ob (o2 (o2 (gv 0) (gc (.int 0)) ixD) (gc (.str "record")) eqD))
  (seqD (exprX (appX 1 (o2 (gv 0) (gc (.int 1)) ixD)))
  nilD)
  nilD)
  (seqD (forG (tupI (o2 (gv 0) (unG negD (gc (.int 1))) ixD)) (gN 2)
  (seqD (exprX (extX 1 (oA (consA (gv 2) nilA) lstOfD)))
  nilD))
  (seqD (retO 1)
  nilD))))))
noncomputable def N_held_items : List Str := ["part", "items", "pair"]
noncomputable def m_held_items : List D → Option D := mkN 1 N_held_items G_held_items
noncomputable def G__law_cell_at : GS := (seqD (ifD (ob (o2 (gv 1) (oA (consA (gv 0) nilA) lenD) ltD))
  (seqD (retD (o2 (gv 0) (gv 1) ixD))
  nilD)
  nilD)
  (seqD (retD (o2 (o2 (o2 (gv 1) (gc (.int 7919)) mulA) (gc (.int 5)) addA) (o2 (gv 1) (gc (.int 31)) addA) mulA))
  nilD))
noncomputable def N__law_cell_at : List Str := ["_law_script", "_law_k"]
noncomputable def m__law_cell_at : List D → Option D := mkF 2 N__law_cell_at G__law_cell_at
noncomputable def G__law_mix : GS := (seqD (retD (o2 (o2 (o2 (o2 (o2 (o2 (gv 0) (gc (.int 2147483629)) modD) (gc (.int 1)) addA) (o2 (o2 (gc (.int 48271)) (o2 (gc (.int 69621)) (gv 1) mulA) addA) (o2 (o2 (gc (.int 2)) (gv 1) mulA) (gv 1) mulA) addA) mulA) (gv 1) addA) (gc (.int 2147483647)) modD) (gc (.int 7)) fdivD))
  nilD)
noncomputable def N__law_mix : List Str := ["_law_cell", "_law_k"]
noncomputable def m__law_mix : List D → Option D := mkF 2 N__law_mix G__law_mix
noncomputable def G__law_pool : GS := (seqD (setD (gN 2) (gc (.str "abcdefghijklmnopqrstuvwxyz0123456789")))
  (seqD (setD (gN 3) (joinG (gc (.str "")) (consA (compG 1 [0, 2] (rng1I (consA (o2 (oA (consA (gv 0) (consA (gc (.int 20)) nilA)) m__law_mix) (gc (.int 8)) modD) nilA)) (gN 0) noT (o2 (gv 2) (o2 (oA (consA (gv 1) (consA (gv 0) nilA)) m__law_mix) (gc (.int 36)) modD) ixD)) nilA)))
  (seqD (setD (gN 4) (o2 (oA (consA (gv 0) (consA (gc (.int 21)) nilA)) m__law_mix) (o2 (oA (consA (gv 3) nilA) lenD) (gc (.int 1)) addA) modD))
  (seqD (retF (compG 1 [0, 2, 3, 4] (rng1I (consA (gv 1) nilA)) (gN 0) noT (o2 (o2 (slAG (gv 3) noneO (someO (gv 4))) (o2 (gv 2) (o2 (o2 (o2 (gc (.int 3)) (gv 0) mulA) (gv 1) addA) (gc (.int 36)) modD) ixD) addA) (slAG (gv 3) (someO (gv 4)) noneO) addA)))
  nilD))))
noncomputable def N__law_pool : List Str := ["_law_cell", "_law_many", "_law_signs_here", "_law_base", "_law_at"]
noncomputable def m__law_pool : List D → Option D := mkN 2 N__law_pool G__law_pool
noncomputable def G__law_one_value : GS := (seqD (setD (gN 3) (o2 (oA (consA (gv 0) (consA (gv 1) nilA)) m__law_mix) (gc (.int 5)) modD))
  (seqD (ifD (ob (o2 (gv 3) (gc (.int 0)) eqD))
  (seqD (retD (gc .non))
  nilD)
  nilD)
  (seqD (ifD (ob (o2 (gv 3) (gc (.int 3)) ltD))
  (seqD (retD (tupG (consA (gc (.str "at")) (consA (o2 (oA (consA (gv 0) (consA (o2 (gc (.int 40)) (gv 1) addA) nilA)) m__law_mix) (gv 2) modD) nilA))))
  nilD)
  nilD)
  (seqD (ifD (ob (o2 (gv 3) (gc (.int 3)) eqD))
  (seqD (retD (o2 (o2 (oA (consA (gv 0) (consA (o2 (gc (.int 60)) (gv 1) addA) nilA)) m__law_mix) (gc (.int 260)) modD) (gc (.int 130)) subD))
  nilD)
  nilD)
  (seqD (retD (o2 (o2 (o2 (o2 (o2 (o2 (gv 0) (gc (.int 1)) addA) (o2 (gv 1) (gc (.int 3)) addA) mulA) (o2 (gc (.int 982451653)) (gc (.int 7)) powD) mulW) (o2 (o2 (gc (.int 2)) (o2 (gc (.int 10)) (gc (.int 60)) powD) mulA) (gc (.int 1)) subD) modD) (gc (.int 1)) addA) (o2 (gc (.int 10)) (gc (.int 60)) powD) subD))
  nilD)))))
noncomputable def N__law_one_value : List Str := ["_law_cell", "_law_k", "_law_many", "_law_way"]
noncomputable def m__law_one_value : List D → Option D := mkF 3 N__law_one_value G__law_one_value
noncomputable def G__law_drawn_part : GS := (seqD (setD (gN 3) (o2 (oA (consA (gv 0) (consA (gc (.int 1)) nilA)) m__law_mix) (gc (.int 5)) modD))
  (seqD (setD (gN 4) (o2 (lstG (consA (gc (.int 0)) (consA (gc (.int 1)) (consA (gc (.int 2)) (consA (gc (.int 3)) (consA (gc (.int 2)) (consA (gc (.int 1)) (consA (gc (.int 4)) (consA (gc (.int 12)) nilA))))))))) (o2 (oA (consA (gv 0) (consA (gc (.int 2)) nilA)) m__law_mix) (gc (.int 8)) modD) ixD))
  (seqD (ifD (ob (o2 (gv 3) (gc (.int 0)) eqD))
  (seqD (setD (gN 5) (gc (.str "abcdefghijklmnopqrstuvwxyz0123456789 ")))
  (seqD (retD (tupG (consA (gc (.str "text")) (consA (joinG (gc (.str "")) (consA (compG 1 [0, 5] (rng1I (consA (o2 (oA (consA (gv 0) (consA (gc (.int 3)) nilA)) m__law_mix) (gc (.int 21)) modD) nilA)) (gN 0) noT (o2 (gv 2) (o2 (oA (consA (gv 1) (consA (o2 (gc (.int 80)) (gv 0) addA) nilA)) m__law_mix) (gc (.int 37)) modD) ixD)) nilA)) nilA))))
  nilD))
  nilD)
  (seqD (setD (gN 6) (compG 1 [0, 2] (rng1I (consA (gv 4) nilA)) (gN 0) noT (oA (consA (gv 1) (consA (o2 (gc (.int 4)) (gv 0) addA) (consA (gv 2) nilA))) m__law_one_value)))
  (seqD (ifD (ob (o2 (gv 3) (gc (.int 1)) eqD))
  (seqD (retD (tupG (consA (gc (.str "row")) (consA (oA (consA (gv 6) nilA) tupOfD) nilA))))
  nilD)
  nilD)
  (seqD (setD (gN 7) (o2 (oA (consA (gv 0) (consA (gc (.int 30)) nilA)) m__law_mix) (gc (.int 12)) modD))
  (seqD (setD (gN 8) (oA (consA (compG 1 [1, 6, 7] (rng1I (consA (gv 4) nilA)) (gN 0) noT (tupG (consA (o2 (gv 1) (o2 (o2 (gv 3) (gv 0) addA) (gc (.int 12)) modD) ixD) (consA (o2 (gv 2) (gv 0) ixD) nilA)))) nilA) tupOfD))
  (seqD (ifD (ob (o2 (gv 3) (gc (.int 2)) eqD))
  (seqD (retD (tupG (consA (gc (.str "table")) (consA (gv 8) nilA))))
  nilD)
  nilD)
  (seqD (retD (tupG (consA (gc (.str "record")) (consA (o2 (gv 1) (o2 (oA (consA (gv 0) (consA (gc (.int 31)) nilA)) m__law_mix) (gc (.int 12)) modD) ixD) (consA (gv 8) nilA)))))
  nilD)))))))))
noncomputable def N__law_drawn_part : List Str := ["_law_cell", "_law_names", "_law_many", "_law_kind", "_law_size", "_law_signs_here", "_law_some", "_law_turn", "_law_pairs"]
noncomputable def m__law_drawn_part : List D → Option D := mkF 3 N__law_drawn_part G__law_drawn_part
noncomputable def G__law_built : GS := (seqD (setD (gN 3) (o2 (gc (.int 1)) (o2 (oA (consA (oA (consA (gv 0) (consA (gv 1) nilA)) m__law_cell_at) (consA (gc (.int 3)) nilA)) m__law_mix) (gv 2) modD) addA))
  (seqD (setD (gN 4) (oA (consA (oA (consA (gv 0) (consA (o2 (gv 1) (gc (.int 1)) addA) nilA)) m__law_cell_at) (consA (gc (.int 12)) nilA)) m__law_pool))
  (seqD (retD (oA (consA (compG 1 [0, 1, 3, 4] (rng1I (consA (gv 3) nilA)) (gN 0) noT (oA (consA (oA (consA (gv 1) (consA (o2 (o2 (gv 2) (gc (.int 2)) addA) (gv 0) addA) nilA)) m__law_cell_at) (consA (gv 4) (consA (gv 3) nilA))) m__law_drawn_part)) nilA) tupOfD))
  nilD)))
noncomputable def N__law_built : List Str := ["_law_script", "_law_start", "_law_most", "_law_many", "_law_names"]
noncomputable def m__law_built : List D → Option D := mkF 3 N__law_built G__law_built
end Bw
namespace Bw
open PySem DL W StrLaws
theorem mix_ok (c k : Int) (h0 : 0 ≤ k) (h1 : k ≤ 1000000) : ∃ x, 0 ≤ x ∧ x < 2147483647 ∧ m__law_mix [.int c, .int k] = some (.int x) := by
  obtain ⟨q, hq⟩ : ∃ q, q = ((c % 2147483629 + 1) * (48271 + 69621 * k + 2 * k * k) + k) % 2147483647 := ⟨_, rfl⟩
  have q0 : 0 ≤ q := by rw [hq]; exact Int.emod_nonneg _ (by decide)
  have q1 : q < 2147483647 := by rw [hq]; exact Int.emod_lt_of_pos _ (by decide)
  refine ⟨q / 7, by omega, by omega, mkF_rt rfl (seq_rt (ret_of ?_))⟩
  have kk : 2 * k * k ≤ 2 * 1000000 * 1000000 := by
    have := Int.mul_le_mul h1 h1 h0 (by omega)
    rw [Int.mul_assoc]
    omega
  have kk0 : 0 ≤ 2 * k * k := by
    have := Int.mul_nonneg h0 h0
    rw [Int.mul_assoc]
    omega
  rw [o2_of (x := .int q) (y := .int 7) (by
    rw [o2_of (x := .int ((c % 2147483629 + 1) * (48271 + 69621 * k + 2 * k * k) + k)) (y := .int 2147483647) (by
      rw [o2_of (x := .int ((c % 2147483629 + 1) * (48271 + 69621 * k + 2 * k * k))) (y := .int k) (by
        rw [o2_of (x := .int (c % 2147483629 + 1)) (y := .int (48271 + 69621 * k + 2 * k * k)) rfl (by
          rw [o2_of (x := .int (48271 + 69621 * k)) (y := .int (2 * k * k)) (by
            rw [o2_of (x := .int 48271) (y := .int (69621 * k)) rfl (by rw [o2_of (x := .int 69621) (y := .int k) rfl rfl]; exact Gw.mul_r _ _ (by omega))]
            rfl) (by
            rw [o2_of (x := .int (2 * k)) (y := .int k) (by rw [o2_of (x := .int 2) (y := .int k) rfl rfl]; exact Gw.mul_r _ _ (by omega)) rfl]
            exact Gw.mul_r _ _ (by omega))]
          rfl)]
        exact Gw.mul_r _ _ (by omega)) rfl]
      rfl) rfl]
    rw [hq]
    exact Gw.mod_p _ _ (by decide)) rfl]
  rfl
structure Pool (nm : List Str) : Prop where
  len : nm.length = 12
  names : ∀ s ∈ nm, isName s = true
  nd : nm.Nodup
theorem pool_ok (c : Int) : ∃ nm, m__law_pool [.int c, .int 12] = some (.lst (nm.map .str)) ∧ Pool nm := by
  have z : (1000 : Nat) ≤ sizeLine := by decide
  obtain ⟨x20, a0, a1, a2⟩ := mix_ok c 20 (by decide) (by decide)
  obtain ⟨x21, b0, b1, b2⟩ := mix_ok c 21 (by decide) (by decide)
  obtain ⟨f, hf⟩ : ∃ f : Nat → Int, ∀ j : Nat, j < 8 → 0 ≤ f j ∧ f j < 36 ∧ ∀ δ : Ds, o2 (oA (consA (gv 1) (consA (gv 0) nilA)) m__law_mix) (gc (.int 36)) modD (.sh (.int (j : Int)) :: .sh (.int c) :: δ) = some (.int (f j)) := by
    have : ∀ j : Nat, ∃ v : Int, j < 8 → 0 ≤ v ∧ v < 36 ∧ ∀ δ : Ds, o2 (oA (consA (gv 1) (consA (gv 0) nilA)) m__law_mix) (gc (.int 36)) modD (.sh (.int (j : Int)) :: .sh (.int c) :: δ) = some (.int v) := fun j => by
      by_cases hj : j < 8
      · obtain ⟨x, y0, y1, y2⟩ := mix_ok c (j : Int) (by omega) (by omega)
        refine ⟨x % 36, fun _ => ⟨by omega, by omega, fun δ => ?_⟩⟩
        rw [o2_of (x := .int x) (y := .int 36) (by rw [oA_of (ds := [.int c, .int (j : Int)]) rfl]; exact y2) rfl]
        rfl
      · exact ⟨0, fun h => absurd h hj⟩
    obtain ⟨f, hf⟩ := Classical.axiomOfChoice this
    exact ⟨f, hf⟩
  obtain ⟨n, hn⟩ : ∃ n : Nat, (n : Int) = x20 % 8 := ⟨(x20 % 8).toNat, by omega⟩
  have n8 : n < 8 := by omega
  obtain ⟨w, hw⟩ : ∃ w : List Nat, w = (List.range n).map fun j => cg (f j) := ⟨_, rfl⟩
  have wl : w.length = n := by rw [hw]; simp
  have wm : ∀ x ∈ w, x ∈ nameS.cps.toList := fun x hx => by
    rw [hw] at hx
    obtain ⟨j, hj, rfl⟩ := List.mem_map.mp hx
    have hj := List.mem_range.mp hj
    exact cg_mem _ (hf j (by omega)).1 (hf j (by omega)).2.1
  have base : ∀ s3 s4 : Sl, joinG (gc (.str "")) (consA (compG 1 [0, 2] (rng1I (consA (o2 (oA (consA (gv 0) (consA (gc (.int 20)) nilA)) m__law_mix) (gc (.int 8)) modD) nilA)) (gN 0) noT (o2 (gv 2) (o2 (oA (consA (gv 1) (consA (gv 0) nilA)) m__law_mix) (gc (.int 36)) modD) ixD)) nilA) [.sh (.int c), .sh (.int 12), .sh (.str signS), s3, s4] = some (.str (strOf w)) := fun s3 s4 => by
    rw [join_of (x := .str "") (ds := [.lst ((ones w).map .str)]) rfl (cons_of (comp_of (items := rngD 0 (n : Int)) (rng1_of (cons_of (by
      rw [o2_of (x := .int x20) (y := .int 8) (by rw [oA_of (ds := [.int c, .int 20]) rfl]; exact a2) rfl, hn]
      rfl) rfl) (by omega) (by omega)) (by rw [rng_len]; omega) (by
      have q := comp_rng (gt := noT) (ge := (o2 (gv 2) (o2 (oA (consA (gv 1) (consA (gv 0) nilA)) m__law_mix) (gc (.int 36)) modD) ixD)) (δ := [.un, .sh (.int c), .sh (.str signS)]) (n := (n : Int)) (fun j => .str ⟨#[cg (f j)]⟩) (fun k hk => ⟨[.sh (.int (k : Int)), .sh (.int c), .sh (.str signS)], rfl, rfl, by
        have hk' : k < n := by omega
        obtain ⟨g0, g1, g2⟩ := hf k (by omega)
        rw [o2_of (x := .str signS) (y := .int (f k)) rfl (g2 _)]
        exact sign_at (f k) g0 g1⟩)
      refine q.trans ?_
      rw [Int.toNat_natCast, hw]
      unfold ones
      rw [List.map_map, List.map_map]
      rfl)) rfl)]
    have e1 := strs_map id (ones w)
    have e1' : strL ((ones w).map D.str) = some (ones w) := by simpa using e1
    simp only [joinD]
    rw [e1', Option.bind_some, sum_ones', join_ones, if_pos (by
      have : ("" : PySem.Str).length = 0 := by decide +kernel
      rw [this]; omega)]
  obtain ⟨a, ha⟩ : ∃ a : Nat, (a : Int) = x21 % ((n : Int) + 1) := ⟨(x21 % ((n : Int) + 1)).toNat, by have := Int.emod_nonneg x21 (by omega : (n : Int) + 1 ≠ 0); omega⟩
  have han : a ≤ n := by have := Int.emod_lt_of_pos x21 (by omega : (0 : Int) < (n : Int) + 1); omega
  obtain ⟨F, hF⟩ : ∃ F : Nat → List Nat, F = fun (k : Nat) => w.take a ++ cg ((3 * (k : Int) + c) % 36) :: w.drop a := ⟨_, rfl⟩
  have Fl : ∀ k, (F k).length = n + 1 := fun k => by
    rw [hF]
    show (w.take a ++ cg ((3 * (k : Int) + c) % 36) :: w.drop a).length = n + 1
    rw [List.length_append, List.length_cons, List.length_take, List.length_drop]
    omega
  refine ⟨(List.range 12).map fun k => strOf (F k), mkN_rf rfl (seq_to (set_of (d := .str signS) rfl) (seq_to (set_of (d := .str (strOf w)) (base _ _)) (seq_to (set_of (d := .int (a : Int)) ?_) (seq_rf (retF_of (comp_of (items := rngD 0 12) rfl (by rw [rng_len]; show (12 : Nat) ≤ _; omega) ?_)))))), by simp, fun s hs => ?_, ?_⟩
  · rw [o2_of (x := .int x21) (y := .int ((n : Int) + 1)) (by rw [oA_of (ds := [.int c, .int 21]) rfl]; exact b2) (by
      rw [o2_of (x := .int (n : Int)) (y := .int 1) (by
        rw [oA_of (ds := [.str (strOf w)]) rfl]
        simp only [lenD]
        rw [strOf_len, wl, if_pos (by omega)]) rfl]
      rfl), Gw.mod_p _ _ (by omega), ha]
  · have q := comp_rng (gt := noT) (ge := (o2 (o2 (slAG (gv 3) noneO (someO (gv 4))) (o2 (gv 2) (o2 (o2 (o2 (gc (.int 3)) (gv 0) mulA) (gv 1) addA) (gc (.int 36)) modD) ixD) addA) (slAG (gv 3) (someO (gv 4)) noneO) addA)) (δ := [.un, .sh (.int c), .sh (.str signS), .sh (.str (strOf w)), .sh (.int (a : Int))]) (n := 12) (fun k => .str (strOf (F k))) (fun k hk => ⟨[.sh (.int (k : Int)), .sh (.int c), .sh (.str signS), .sh (.str (strOf w)), .sh (.int (a : Int))], rfl, rfl, by
      have hk' : (k : Int) < 12 := hk
      have t1 : slAG (gv 3) noneO (someO (gv 4)) [.sh (.int (k : Int)), .sh (.int c), .sh (.str signS), .sh (.str (strOf w)), .sh (.int (a : Int))] = some (.str (strOf (w.take a))) := by
        show slA (.str (strOf w)) none (some (a : Int)) = _
        simp only [slA]
        rw [if_pos (by rw [strOf_len, wl]; omega), Gw.take_s _ _ (by omega) (by omega), Int.toNat_natCast]
      have t2 : slAG (gv 3) (someO (gv 4)) noneO [.sh (.int (k : Int)), .sh (.int c), .sh (.str signS), .sh (.str (strOf w)), .sh (.int (a : Int))] = some (.str (strOf (w.drop a))) := by
        show slA (.str (strOf w)) (some (a : Int)) none = _
        simp only [slA]
        rw [if_pos (by rw [strOf_len, wl]; omega), Gw.drop_s _ _ (by omega) (by omega), Int.toNat_natCast]
      have t3 : o2 (gv 2) (o2 (o2 (o2 (gc (.int 3)) (gv 0) mulA) (gv 1) addA) (gc (.int 36)) modD) ixD [.sh (.int (k : Int)), .sh (.int c), .sh (.str signS), .sh (.str (strOf w)), .sh (.int (a : Int))] = some (.str (strOf [cg ((3 * (k : Int) + c) % 36)])) := by
        rw [o2_of (x := .str signS) (y := .int ((3 * (k : Int) + c) % 36)) rfl (by
          rw [o2_of (x := .int (3 * (k : Int) + c)) (y := .int 36) (by
            rw [o2_of (x := .int (3 * (k : Int))) (y := .int c) (by rw [o2_of (x := .int 3) (y := .int (k : Int)) rfl rfl]; exact Gw.mul_l _ _ (by decide)) rfl]
            rfl) rfl]
          rfl)]
        exact sign_at _ (by omega) (by omega)
      rw [o2_of (x := .str (strOf (w.take a ++ [cg ((3 * (k : Int) + c) % 36)]))) (y := .str (strOf (w.drop a))) (by
        rw [o2_of t1 t3]
        exact Gw.add_s _ _ (by rw [List.length_take]; simp; omega)) t2]
      rw [Gw.add_s _ _ (by rw [List.length_append, List.length_take, List.length_drop]; simp; omega), hF]
      show some (D.str (strOf _)) = some (D.str (strOf (w.take a ++ cg ((3 * (k : Int) + c) % 36) :: w.drop a)))
      rw [List.append_assoc]
      rfl⟩)
    refine q.trans ?_
    rw [List.map_map]
    rfl
  · obtain ⟨k, hk, rfl⟩ := List.mem_map.mp hs
    refine isName_of _ (by rw [Fl]; omega) (by rw [Fl]; omega) fun x hx => ?_
    rw [hF] at hx
    rcases List.mem_append.mp hx with q | q
    · exact wm x (List.mem_of_mem_take q)
    · rcases List.mem_cons.mp q with rfl | q
      · exact cg_mem _ (by omega) (by omega)
      · exact wm x (List.mem_of_mem_drop q)
  · refine List.nodup_iff_pairwise_ne.mpr (List.pairwise_map.mpr (List.Pairwise.imp_of_mem ?_ (List.nodup_range (n := 12))))
    intro i j hi hj hij e
    have hi := List.mem_range.mp hi
    have hj := List.mem_range.mp hj
    have e := strOf_inj e
    rw [hF] at e
    have e : w.take a ++ cg ((3 * (i : Int) + c) % 36) :: w.drop a = w.take a ++ cg ((3 * (j : Int) + c) % 36) :: w.drop a := e
    have e := List.append_cancel_left e
    have e := (List.cons.inj e).1
    have e := cg_inj _ _ (by omega) (by omega) (by omega) (by omega) e
    omega
end Bw
namespace Bw
open PySem DL W
theorem b_of {g : GE} {δ : Ds} {b : Bool} (h : g δ = some (.bl b)) : ob g δ = some b := by
  unfold ob
  rw [h]
  rfl
noncomputable def dg (r : Nat) : List Int := if h : r = 0 then [] else ((128 + r % 128 : Nat) : Int) :: dg (r / 128)
termination_by r
decreasing_by omega
theorem dg_0 : dg 0 = [] := by unfold dg; rw [dif_pos rfl]
theorem dg_s (r : Nat) (h : r ≠ 0) : dg r = ((128 + r % 128 : Nat) : Int) :: dg (r / 128) := by conv => lhs; unfold dg; rw [dif_neg h]
noncomputable def hi (r : Nat) : List Int := (dg r).reverse
theorem hi_0 : hi 0 = [] := by unfold hi; rw [dg_0]; rfl
theorem hi_s (r : Nat) (h : r ≠ 0) : hi r = hi (r / 128) ++ [((128 + r % 128 : Nat) : Int)] := by unfold hi; rw [dg_s r h, List.reverse_cons]
noncomputable def bs (n : Nat) : List Int := hi (n / 128) ++ [((n % 128 : Nat) : Int)]
theorem hi_len : ∀ (m r : Nat), r < 2 ^ m → (hi r).length ≤ m := by
  intro m
  induction m with
  | zero => intro r h; have : r = 0 := by simp at h; exact h
            subst this; rw [hi_0]; exact Nat.le_refl _
  | succ m ih =>
    intro r h
    by_cases h0 : r = 0
    · subst h0; rw [hi_0]; exact Nat.zero_le _
    · rw [hi_s r h0, List.length_append]
      have : 2 ^ (m + 1) = 2 ^ m * 2 := Nat.pow_succ 2 m
      have := ih (r / 128) (by omega)
      simp only [List.length_cons, List.length_nil]
      omega
theorem bs_len (n : Nat) (h : n < 2 ^ 300) : (bs n).length ≤ 301 := by
  unfold bs
  rw [List.length_append]
  have := hi_len 300 (n / 128) (Nat.lt_of_le_of_lt (Nat.div_le_self _ _) h)
  simp only [List.length_cons, List.length_nil]
  omega
noncomputable def WT : GB := (ob (o2 (gv 2) (gc (.int 0)) gtD))
noncomputable def WB : GS := (seqD (exprX (appX 1 (o2 (gc (.int 128)) (o2 (gv 2) (gc (.int 128)) modD) addA)))
  (seqD (setD (gN 2) (o2 (gv 2) (gc (.int 128)) fdivD))
  nilD))
theorem wt (a b : Sl) (r : Nat) : WT [a, b, .sh (.int (r : Int))] = some (decide (0 < r)) := by
  show some (decide ((0 : Int) < (r : Int))) = _
  by_cases h : 0 < r
  · rw [decide_eq_true h, decide_eq_true (by omega)]
  · rw [decide_eq_false h, decide_eq_false (by omega)]
theorem wh (a : Sl) : ∀ (m r : Nat) (o : List Int) (f : Nat), r < 2 ^ m → m < f → o.length + m < sizeLine →
    ∃ s, whileD WT WB f [a, .ow (.lst (o.map .int)), .sh (.int (r : Int))] = some (.nx [a, .ow (.lst ((o ++ dg r).map .int)), s])
  | m, r, o, 0, _, hf, _ => absurd hf (Nat.not_lt_zero _)
  | m, r, o, f + 1, hr, hf, hl => by
    by_cases h0 : r = 0
    · subst h0
      unfold whileD
      rw [wt, dg_0, List.append_nil]
      exact ⟨_, rfl⟩
    · cases m with
      | zero => simp at hr; omega
      | succ m =>
        have hb : WB [a, .ow (.lst (o.map .int)), .sh (.int (r : Int))] = some (.nx [a, .ow (.lst ((o ++ [((128 + r % 128 : Nat) : Int)]).map .int)), .sh (.int ((r / 128 : Nat) : Int))]) := by
          have e1 : (128 : Int) + (r : Int) % 128 = ((128 + r % 128 : Nat) : Int) := by omega
          have e2 : (r : Int) / 128 = ((r / 128 : Nat) : Int) := by omega
          refine seq_to (Gw.app_ow (l := o.map .int) (d := .int (128 + (r : Int) % 128)) rfl rfl (by rw [List.length_map]; omega)) ?_
          rw [List.map_append, ← e1, ← e2]
          rfl
        have h2 : r / 128 < 2 ^ m := by
          have : 2 ^ (m + 1) = 2 ^ m * 2 := Nat.pow_succ 2 m
          omega
        obtain ⟨s, e⟩ := wh a m (r / 128) (o ++ [((128 + r % 128 : Nat) : Int)]) f h2 (by omega) (by rw [List.length_append]; simp only [List.length_cons, List.length_nil]; omega)
        refine ⟨s, ?_⟩
        unfold whileD
        rw [wt, decide_eq_true (by omega)]
        simp only [hb]
        rw [e, dg_s r h0, List.append_assoc]
        rfl
theorem nb_ok (n : Nat) (h : n < 2 ^ 300) : m_number_bytes [.int (n : Int)] = some (.lst ((bs n).map .int)) := by
  have z : (1000 : Nat) ≤ sizeLine := by decide
  have h2 : n / 128 < 2 ^ 300 := Nat.lt_of_le_of_lt (Nat.div_le_self _ _) h
  obtain ⟨s, e⟩ := wh (.sh (.int (n : Int))) 300 (n / 128) [((n % 128 : Nat) : Int)] 100000 h2 (by decide) (by show 1 + 300 < _; omega)
  refine mkN_rf rfl ?_
  have e1 : (n : Int) % 128 = ((n % 128 : Nat) : Int) := by omega
  have e2 : (n : Int) / 128 = ((n / 128 : Nat) : Int) := by omega
  refine seq_to (δ' := [.sh (.int (n : Int)), .ow (.lst [.int ((n % 128 : Nat) : Int)]), .un]) (by rw [← e1]; rfl) ?_
  refine seq_to (set_of (d := .int ((n / 128 : Nat) : Int)) (by rw [← e2]; rfl)) ?_
  refine seq_to e (seq_rf (retF_of ?_))
  show some (D.lst (((((n % 128 : Nat) : Int) :: dg (n / 128)).map D.int).reverse)) = _
  rw [← List.map_reverse, List.reverse_cons]
  rfl
inductive Vb : D → Prop
  | non : Vb .non
  | lk (j : Nat) (h : j < 1000) : Vb (.tup [.str "at", .int (j : Int)])
  | int (z : Int) (h : z.natAbs < 2 ^ 250) : Vb (.int z)
noncomputable def fold (z : Int) : Nat := if z < 0 then (-2 * z - 1).toNat else (2 * z).toNat
theorem fold_lt (z : Int) (h : z.natAbs < 2 ^ 250) : fold z < 2 ^ 252 := by
  unfold fold
  have e : (2 : Nat) ^ 252 = 4 * 2 ^ 250 := by decide +kernel
  generalize (2 : Nat) ^ 250 = w at h e
  split <;> omega
theorem folded_ok (z : Int) : m_folded [.int z] = some (.int (fold z : Int)) := by
  by_cases h : z < 0
  · refine mkF_rt rfl (seq_rt ?_)
    rw [if_t (by show some (decide (z < 0)) = _; rw [decide_eq_true h])]
    refine seq_rt (ret_of ?_)
    rw [o2_of (x := .int (-2 * z)) (y := .int 1) (by rw [o2_of (x := .int (-2)) (y := .int z) rfl rfl]; exact Gw.mul_l _ _ (by decide)) rfl]
    have : ((fold z : Nat) : Int) = -2 * z - 1 := by unfold fold; rw [if_pos h]; omega
    rw [this]
    rfl
  · refine mkF_rt rfl (seq_to (δ' := [.sh (.int z)]) (by rw [if_f (by show some (decide (z < 0)) = _; rw [decide_eq_false h])]; rfl) (seq_rt (ret_of ?_)))
    rw [o2_of (x := .int 2) (y := .int z) rfl rfl, Gw.mul_l _ _ (by decide)]
    have : ((fold z : Nat) : Int) = 2 * z := by unfold fold; rw [if_neg h]; omega
    rw [this]
noncomputable def sg (s : Str) : List Int := s.cps.toList.map fun (c : Nat) => (c : Int)
theorem sg_len (s : Str) : (sg s).length = s.length := by unfold sg; rw [List.length_map]; rfl
theorem comp_ord (s : Str) : compD (gN 0) noT (oA (consA (gv 0) nilA) ordD) [.un] (signs s) = some ((sg s).map .int) := by
  unfold signs
  rw [compD_map (fun d => match d with | .str x => .int ((x.cps.toList.headD 0 : Nat) : Int) | _ => .non) (fun d hd => by
    obtain ⟨c, hc, rfl⟩ := List.mem_map.mp hd
    exact ⟨[.sh (.str ⟨#[c]⟩)], rfl, rfl, rfl⟩)]
  unfold sg
  rw [List.map_map, List.map_map]
  rfl
theorem sb_ok (s : Str) (h : s.length ≤ sizeLine) : m_sign_bytes [.str s] = some (.lst ((sg s).map .int)) :=
  mkN_rf rfl (seq_rf (retF_of (comp_of (items := signs s) rfl (by unfold signs; rw [List.length_map]; exact h) (comp_ord s))))
theorem cat_l (a b : List Int) (h : a.length + b.length ≤ sizeLine) : catD (.lst (a.map .int)) (.lst (b.map .int)) = some (.lst ((a ++ b).map .int)) := by
  simp only [catD]
  rw [if_pos (by rw [List.length_map, List.length_map]; exact h), List.map_append]
theorem ext_ow {i : Nat} {g : GE} {δ : Ds} {l e : List Int} (h1 : owL i δ = some (l.map .int)) (h2 : g δ = some (.lst (e.map .int))) (h3 : l.length + e.length ≤ sizeLine) : exprX (extX i g) δ = some (.nx (δ.set i (.ow (.lst ((l ++ e).map .int))))) := by
  unfold exprX extX
  rw [h1, h2]
  simp only [Option.bind_some]
  rw [if_pos (by rw [List.length_map, List.length_map]; exact h3), List.map_append]
  rfl
end Bw
namespace Bw
open PySem DL W
theorem ext_d {i : Nat} {g : GE} {δ : Ds} {l e : List D} (h1 : owL i δ = some l) (h2 : g δ = some (.lst e)) (h3 : l.length + e.length ≤ sizeLine) : exprX (extX i g) δ = some (.nx (δ.set i (.ow (.lst (l ++ e))))) := by
  unfold exprX extX
  rw [h1, h2]
  simp only [Option.bind_some]
  rw [if_pos h3]
  rfl
noncomputable def Ib (d : D) : Prop := (∃ s : Str, d = .str s ∧ s.length ≤ 20) ∨ Vb d
theorem small {n : Nat} (h : n ≤ 100000000) : n < 2 ^ 300 := Nat.lt_of_le_of_lt h (by decide +kernel)
theorem strlen_of {g : GE} {δ : Ds} {s : Str} (h : g δ = some (.str s)) (hs : s.length ≤ sizeLine) : oA (consA g nilA) lenD δ = some (.int (s.length : Int)) := by
  rw [oA_of (ds := [.str s]) (cons_of h rfl)]
  simp only [lenD]
  rw [if_pos hs]
noncomputable def cnt : Pt → Nat
  | .text w => w.length
  | .row vs => vs.length
  | .table ps => ps.length
  | .rcd _ ps => ps.length
noncomputable def kn : Pt → Nat
  | .text _ => 0
  | .row _ => 1
  | .table _ => 2
  | .rcd _ _ => 3
noncomputable def two (p : Str × D) : List D := [.str p.1, p.2]
noncomputable def its : Pt → List D
  | .text _ => []
  | .row vs => vs
  | .table ps => ps.flatMap two
  | .rcd c ps => .str c :: ps.flatMap two
noncomputable def tx : Pt → List Int
  | .text w => sg w
  | _ => []
structure Gp (p : Pt) : Prop where
  cnt : cnt p ≤ 20
  len : (its p).length ≤ 50
  it : ∀ d ∈ its p, Ib d
theorem tx_len {p : Pt} (h : Gp p) : (tx p).length ≤ 20 := by
  cases p with
  | text w => show (sg w).length ≤ 20; rw [sg_len]; exact h.cnt
  | _ => exact Nat.zero_le _
theorem kn_le (p : Pt) : kn p ≤ 3 := by cases p <;> simp [kn]
theorem last_ok {p : Pt} (h : cnt p ≤ 20) (δ : Ds) : oA (consA (o2 (gv 0) (unG negD (gc (.int 1))) ixD) nilA) lenD (.sh p.d :: δ) = some (.int (cnt p : Int)) := by
  have z : (1000 : Nat) ≤ sizeLine := by decide
  cases p with
  | text w =>
    have h : w.length ≤ 20 := h
    exact strlen_of rfl (by omega)
  | row vs => rfl
  | table ps =>
    show some (D.int (((ps.map pr).length : Nat) : Int)) = _
    rw [List.length_map]
    rfl
  | rcd c ps =>
    show some (D.int (((ps.map pr).length : Nat) : Int)) = _
    rw [List.length_map]
    rfl
theorem kidx (p : Pt) (δ : Ds) : oA (consA (o2 (gv 0) (gc (.int 0)) ixD) nilA) (idxC ["text", "row", "table", "record"]) (.sh p.d :: δ) = some (.int (kn p : Int)) := by
  cases p <;> kernel_rfl
theorem cast4 (a b : Nat) : 4 * (a : Int) + (b : Int) = ((4 * a + b : Nat) : Int) := by omega
theorem pn_ok {p : Pt} (h : cnt p ≤ 20) : m_part_number [p.d] = some (.int ((4 * cnt p + kn p : Nat) : Int)) := by
  refine mkF_rt rfl (seq_rt (ret_of ?_))
  change o2 _ _ _ [.sh p.d] = _
  rw [o2_of (x := .int (4 * (cnt p : Int))) (y := .int (kn p : Int)) (by
    rw [o2_of (x := .int 4) (y := .int (cnt p : Int)) rfl (last_ok h _)]
    exact Gw.mul_l _ _ (by decide)) (kidx p _), ← cast4]
  rfl
theorem tb_ok {p : Pt} (h : cnt p ≤ 20) : m_text_bytes [p.d] = some (.lst ((tx p).map .int)) := by
  have z : (1000 : Nat) ≤ sizeLine := by decide
  cases p with
  | text w =>
    have h : w.length ≤ 20 := h
    refine mkN_rf rfl (seq_rf ?_)
    rw [if_t (by kernel_rfl)]
    refine seq_rf (retF_of ?_)
    rw [oA_of (ds := [.str w]) rfl]
    exact sb_ok w (by omega)
  | row vs => exact mkN_rf rfl (seq_to (δ' := [.sh (Pt.row vs).d]) (by rw [if_f (by kernel_rfl)]; rfl) (seq_rf rfl))
  | table ps => exact mkN_rf rfl (seq_to (δ' := [.sh (Pt.table ps).d]) (by rw [if_f (by kernel_rfl)]; rfl) (seq_rf rfl))
  | rcd c ps => exact mkN_rf rfl (seq_to (δ' := [.sh (Pt.rcd c ps).d]) (by rw [if_f (by kernel_rfl)]; rfl) (seq_rf rfl))
noncomputable def HB : GS := (seqD (exprX (extX 1 (oA (consA (gv 2) nilA) lstOfD)))
  nilD)
theorem two_len : ∀ ps : List (Str × D), (ps.flatMap two).length = 2 * ps.length
  | [] => rfl
  | p :: ps => by rw [List.flatMap_cons, List.length_append, two_len ps, List.length_cons]; show 2 + _ = _; omega
theorem take_two {ps : List (Str × D)} {j : Nat} {p : Str × D} (h : ps[j]? = some p) : (ps.take j).flatMap two ++ two p = (ps.take (j + 1)).flatMap two := by
  rw [List.take_succ, h, List.flatMap_append]
  simp
theorem held_loop (a : Sl) (pre : List D) (ps : List (Str × D)) (hl : pre.length + 2 * ps.length ≤ sizeLine) (s : Sl) : ∃ s', forD (gN 2) HB (ps.map pr) [a, .ow (.lst pre), s] = some (.nx [a, .ow (.lst (pre ++ ps.flatMap two)), s']) := by
  obtain ⟨δ', l1, l2⟩ := forD_inv (f := gN 2) (G := HB) (fun i δ => ∃ s, δ = [a, .ow (.lst (pre ++ (ps.take i).flatMap two)), s]) (ps.map pr) 0 [a, .ow (.lst pre), s] (by
    rintro j d δ hj ⟨s, rfl⟩
    rw [List.getElem?_map] at hj
    cases hp : ps[j]? with
    | none => rw [hp] at hj; cases hj
    | some p =>
      rw [hp] at hj
      cases hj
      have hjl := (List.getElem?_eq_some_iff.mp hp).1
      rw [Nat.zero_add]
      refine ⟨_, _, rfl, seq_to (ext_d (l := pre ++ (ps.take j).flatMap two) (e := two p) rfl rfl (by
        rw [List.length_append, two_len, List.length_take]
        show _ + 2 ≤ _
        omega)) rfl, .sh (pr p), ?_⟩
      rw [List.append_assoc, take_two hp]
      rfl) ⟨s, by simp⟩
  obtain ⟨s', rfl⟩ := l2
  refine ⟨s', ?_⟩
  rw [l1, Nat.zero_add, List.length_map, List.take_length]
theorem hi_ok {p : Pt} (h : Gp p) : m_held_items [p.d] = some (.lst (its p)) := by
  have z : (1000 : Nat) ≤ sizeLine := by decide
  have hc := h.cnt
  cases p with
  | text w => kernel_rfl
  | row vs =>
    refine mkN_rf rfl (seq_to (δ' := [.sh (Pt.row vs).d, .un, .un]) (by rw [if_f (by kernel_rfl)]; rfl) (seq_rf ?_))
    rw [if_t (by kernel_rfl)]
    rfl
  | table ps =>
    have hc : ps.length ≤ 20 := hc
    obtain ⟨s', e⟩ := held_loop (.sh (Pt.table ps).d) [] ps (by simp only [List.length_nil]; omega) .un
    refine mkN_rf rfl (seq_to (δ' := [.sh (Pt.table ps).d, .un, .un]) (by rw [if_f (by kernel_rfl)]; rfl) (seq_to (δ' := [.sh (Pt.table ps).d, .un, .un]) (by rw [if_f (by kernel_rfl)]; rfl) (seq_to (δ' := [.sh (Pt.table ps).d, .ow (.lst []), .un]) rfl (seq_to (δ' := [.sh (Pt.table ps).d, .ow (.lst []), .un]) (by rw [if_f (by kernel_rfl)]; rfl) (seq_to (for_of (items := ps.map pr) rfl e) (seq_rf rfl))))))
  | rcd c ps =>
    have hc : ps.length ≤ 20 := hc
    obtain ⟨s', e⟩ := held_loop (.sh (Pt.rcd c ps).d) [.str c] ps (by simp only [List.length_cons, List.length_nil]; omega) .un
    refine mkN_rf rfl (seq_to (δ' := [.sh (Pt.rcd c ps).d, .un, .un]) (by rw [if_f (by kernel_rfl)]; rfl) (seq_to (δ' := [.sh (Pt.rcd c ps).d, .un, .un]) (by rw [if_f (by kernel_rfl)]; rfl) (seq_to (δ' := [.sh (Pt.rcd c ps).d, .ow (.lst []), .un]) rfl (seq_to (δ' := [.sh (Pt.rcd c ps).d, .ow (.lst [.str c]), .un]) (by rw [if_t (by kernel_rfl)]; rfl) (seq_to (for_of (items := ps.map pr) rfl e) (seq_rf rfl))))))
end Bw
namespace Bw
open PySem DL W
structure Gq (p : Pt) : Prop where
  cnt : cnt p ≤ 20
  vals : ∀ v ∈ p.vals, Vb v
  names : ∀ s ∈ p.all, s.length ≤ 20
theorem pair_ok {ps : List (Str × D)} (h1 : ∀ v ∈ ps.map (·.2), Vb v) (h2 : ∀ s ∈ ps.map (·.1), s.length ≤ 20) : ∀ d ∈ ps, d.1.length ≤ 20 ∧ Vb d.2 := fun d hd => ⟨h2 _ (List.mem_map.mpr ⟨d, hd, rfl⟩), h1 _ (List.mem_map.mpr ⟨d, hd, rfl⟩)⟩
theorem two_ib {ps : List (Str × D)} (h : ∀ d ∈ ps, d.1.length ≤ 20 ∧ Vb d.2) : ∀ d ∈ ps.flatMap two, Ib d := fun d hd => by
  obtain ⟨p, hp, hm⟩ := List.mem_flatMap.mp hd
  obtain ⟨q1, q2⟩ := h p hp
  unfold two at hm
  rcases List.mem_cons.mp hm with rfl | hm
  · exact .inl ⟨_, rfl, q1⟩
  · rw [List.mem_singleton.mp hm]; exact .inr q2
theorem Gq.gp {p : Pt} (h : Gq p) : Gp p := by
  obtain ⟨h1, h2, h3⟩ := h
  cases p with
  | text w => exact ⟨h1, Nat.zero_le _, fun d hd => by cases hd⟩
  | row vs => exact ⟨h1, by have : vs.length ≤ 20 := h1; show vs.length ≤ 50; omega, fun d hd => .inr (h2 d hd)⟩
  | table ps =>
    have hp := pair_ok h2 fun s hs => h3 s (List.mem_append_left _ hs)
    exact ⟨h1, by have : ps.length ≤ 20 := h1; show (ps.flatMap two).length ≤ 50; rw [two_len]; omega, two_ib hp⟩
  | rcd c ps =>
    have hp := pair_ok h2 fun s hs => h3 s (List.mem_append_left _ hs)
    refine ⟨h1, by have : ps.length ≤ 20 := h1; show (D.str c :: ps.flatMap two).length ≤ 50; rw [List.length_cons, two_len]; omega, fun d hd => ?_⟩
    rcases List.mem_cons.mp hd with rfl | hd
    · exact .inl ⟨_, rfl, h3 c (List.mem_append_right _ (List.mem_singleton.mpr rfl))⟩
    · exact two_ib hp d hd
end Bw
namespace Bw
open PySem DL W
noncomputable def web (ps : List Pt) : D := .tup (ps.map Pt.d)
structure Gw' (ps : List Pt) : Prop where
  len : ps.length ≤ 60
  it : ∀ p ∈ ps, Gq p
end Bw
namespace Bw
open PySem DL W
theorem cell_b (ns : List Int) (hb : ∀ z ∈ ns, z.natAbs.log2 ≤ 1048576) (k : Int) (h0 : 0 ≤ k) (h1 : k ≤ 1000) : ∃ z, m__law_cell_at [.lst (ns.map .int), .int k] = some (.int z) ∧ z.natAbs.log2 ≤ 1048576 := by
  by_cases h : k < ns.length
  · have hlt : k.toNat < ns.length := by omega
    refine ⟨ns[k.toNat], mkF_rt rfl (seq_rt ?_), hb _ (List.getElem_mem hlt)⟩
    rw [if_t (by
      show some (decide (k < (((ns.map D.int).length : Nat) : Int))) = _
      rw [decide_eq_true (by rw [List.length_map]; exact h)])]
    refine seq_rt (ret_of ?_)
    show atI (ns.map D.int) k = _
    rw [atI_in h0 (by rw [List.length_map]; exact h) .non]
    simp [List.getD_eq_getElem?_getD, hlt]
  · refine ⟨(k * 7919 + 5) * (k + 31), mkF_rt rfl (seq_to (δ' := [.sh (.lst (ns.map .int)), .sh (.int k)]) ?_ (seq_rt (ret_of ?_))), ?_⟩
    · rw [if_f (by
        show some (decide (k < (((ns.map D.int).length : Nat) : Int))) = _
        rw [decide_eq_false (by rw [List.length_map]; exact h)])]
      rfl
    · rw [o2_of (x := .int (k * 7919 + 5)) (y := .int (k + 31)) (by
        rw [o2_of (x := .int (k * 7919)) (y := .int 5) (by rw [o2_of (x := .int k) (y := .int 7919) rfl rfl]; exact Gw.mul_r _ _ (by decide)) rfl]
        rfl) rfl]
      exact Gw.mul_r _ _ (by omega)
    · have q1 : (k * 7919 + 5) * (k + 31) ≤ 8000000 * 2000 := Int.mul_le_mul (by omega) (by omega) (by omega) (by omega)
      have q2 : 0 ≤ (k * 7919 + 5) * (k + 31) := Int.mul_nonneg (by omega) (by omega)
      generalize (k * 7919 + 5) * (k + 31) = w at q1 q2
      rcases Nat.eq_zero_or_pos w.natAbs with e | e
      · rw [e]; decide
      · have : w.natAbs.log2 < 60 := (Nat.log2_lt (Nat.ne_of_gt e)).mpr (by omega)
        omega
theorem lg (c k : Int) (L : Nat) (h : c.natAbs.log2 ≤ L) (hk : 0 ≤ k ∧ k ≤ 1000) : ((c + 1) * (k + 3)).natAbs.log2 ≤ L + 13 := by
  have h1 : c.natAbs < 2 ^ (L + 1) := Nat.lt_of_lt_of_le Nat.lt_log2_self (Nat.pow_le_pow_right (by decide) (by omega))
  have h2 : (c + 1).natAbs ≤ 2 ^ (L + 1) := by omega
  have h3 : (k + 3).natAbs ≤ 2 ^ 10 := by
    have : (2 : Nat) ^ 10 = 1024 := by decide
    omega
  have h4 : ((c + 1) * (k + 3)).natAbs ≤ 2 ^ (L + 11) := by
    rw [Int.natAbs_mul]
    have := Nat.mul_le_mul h2 h3
    rw [← Nat.pow_add] at this
    exact this
  rcases Nat.eq_zero_or_pos ((c + 1) * (k + 3)).natAbs with e | e
  · rw [e, Nat.log2_zero]; omega
  · have h5 : (2 : Nat) ^ (L + 11) < 2 ^ (L + 12) := Nat.pow_lt_pow_right (by decide) (by omega)
    have := (Nat.log2_lt (Nat.ne_of_gt e)).mpr (Nat.lt_of_le_of_lt h4 h5)
    omega
theorem pow7 : powD (.int 982451653) (.int 7) = some (.int (982451653 ^ 7)) := by kernel_rfl
theorem pow60 : powD (.int 10) (.int 60) = some (.int (10 ^ 60)) := by kernel_rfl
theorem lg7 : (982451653 ^ 7 : Int).natAbs.log2 ≤ 2000 := by decide +kernel
noncomputable def Lk (m : Nat) (v : D) : Prop := ∀ j : Nat, v = .tup [.str "at", .int (j : Int)] → j < m
theorem lk_at {i m : Nat} (h : i < m) : Lk m (.tup [.str "at", .int (i : Int)]) := fun j e => by
  injection e with e
  injection e with _ e
  injection e with e _
  injection e with e
  omega
theorem value_ok (c k m : Int) (hc : c.natAbs.log2 ≤ 1048576) (hk : 0 ≤ k ∧ k ≤ 100) (hm : 0 < m ∧ m ≤ 1000) : ∃ v, m__law_one_value [.int c, .int k, .int m] = some v ∧ Vb v ∧ Lk m.toNat v := by
  have z : (1000 : Nat) ≤ sizeLine := by decide
  obtain ⟨x, a0, a1, a2⟩ := mix_ok c k hk.1 (by omega)
  obtain ⟨y, b0, b1, b2⟩ := mix_ok c (40 + k) (by omega) (by omega)
  obtain ⟨w, c0, c1, c2⟩ := mix_ok c (60 + k) (by omega) (by omega)
  have s1 : ∀ s : Sl, setD (gN 3) (o2 (oA (consA (gv 0) (consA (gv 1) nilA)) m__law_mix) (gc (.int 5)) modD) [.sh (.int c), .sh (.int k), .sh (.int m), s] = some (.nx [.sh (.int c), .sh (.int k), .sh (.int m), .sh (.int (x % 5))]) := fun s => by
    refine set_of (i := 3) (d := .int (x % 5)) ?_
    rw [o2_of (x := .int x) (y := .int 5) (by rw [oA_of (ds := [.int c, .int k]) rfl]; exact a2) rfl]
    rfl
  by_cases h0 : x % 5 = 0
  · refine ⟨.non, mkF_rt rfl (seq_to (s1 _) (seq_rt ?_)), .non, fun j h => nomatch h⟩
    rw [if_t (by show some (decide (x % 5 = 0)) = _; rw [decide_eq_true h0])]
    rfl
  have n0 : ∀ G : GS, ifD (ob (o2 (gv 3) (gc (.int 0)) eqD)) G nilD [.sh (.int c), .sh (.int k), .sh (.int m), .sh (.int (x % 5))] = some (.nx [.sh (.int c), .sh (.int k), .sh (.int m), .sh (.int (x % 5))]) := fun G => by
    rw [if_f (by show some (decide (x % 5 = 0)) = _; rw [decide_eq_false h0])]
    rfl
  by_cases h3 : x % 5 < 3
  · have j0 : 0 ≤ y % m := Int.emod_nonneg _ (by omega)
    have j1 : y % m < m := Int.emod_lt_of_pos _ hm.1
    refine ⟨.tup [.str "at", .int (((y % m).toNat : Nat) : Int)], mkF_rt rfl (seq_to (s1 _) (seq_to (n0 _) (seq_rt ?_))), .lk _ (by omega), lk_at (by omega)⟩
    rw [if_t (by show some (decide (x % 5 < 3)) = _; rw [decide_eq_true h3])]
    refine seq_rt (ret_of (tup_of (cons_of rfl (cons_of ?_ rfl)) (by show 2 ≤ sizeLine; omega)))
    rw [o2_of (x := .int y) (y := .int m) (by rw [oA_of (ds := [.int c, .int (40 + k)]) rfl]; exact b2) rfl, Gw.mod_p _ _ hm.1, Int.toNat_of_nonneg j0]
  have n3 : ∀ G : GS, ifD (ob (o2 (gv 3) (gc (.int 3)) ltD)) G nilD [.sh (.int c), .sh (.int k), .sh (.int m), .sh (.int (x % 5))] = some (.nx [.sh (.int c), .sh (.int k), .sh (.int m), .sh (.int (x % 5))]) := fun G => by
    rw [if_f (by show some (decide (x % 5 < 3)) = _; rw [decide_eq_false h3])]
    rfl
  by_cases h4 : x % 5 = 3
  · refine ⟨.int (w % 260 - 130), mkF_rt rfl (seq_to (s1 _) (seq_to (n0 _) (seq_to (n3 _) (seq_rt ?_)))), .int _ (Nat.lt_of_lt_of_le (m := 1000) (by omega) (by decide)), fun j h => nomatch h⟩
    rw [if_t (by show some (decide (x % 5 = 3)) = _; rw [decide_eq_true h4])]
    refine seq_rt (ret_of ?_)
    rw [o2_of (x := .int (w % 260)) (y := .int 130) (by
      rw [o2_of (x := .int w) (y := .int 260) (by rw [oA_of (ds := [.int c, .int (60 + k)]) rfl]; exact c2) rfl]
      rfl) rfl]
    rfl
  have n4 : ∀ G : GS, ifD (ob (o2 (gv 3) (gc (.int 3)) eqD)) G nilD [.sh (.int c), .sh (.int k), .sh (.int m), .sh (.int (x % 5))] = some (.nx [.sh (.int c), .sh (.int k), .sh (.int m), .sh (.int (x % 5))]) := fun G => by
    rw [if_f (by show some (decide (x % 5 = 3)) = _; rw [decide_eq_false h4])]
    rfl
  obtain ⟨u, hu⟩ : ∃ u : Int, u = (c + 1) * (k + 3) * 982451653 ^ 7 % (2 * 10 ^ 60 - 1) := ⟨_, rfl⟩
  have u0 : 0 ≤ u := by rw [hu]; exact Int.emod_nonneg _ (by decide)
  have u1 : u < 2 * 10 ^ 60 - 1 := by rw [hu]; exact Int.emod_lt_of_pos _ (by decide)
  refine ⟨.int (u + 1 - 10 ^ 60), mkF_rt rfl (seq_to (s1 _) (seq_to (n0 _) (seq_to (n3 _) (seq_to (n4 _) (seq_rt (ret_of ?_)))))), .int _ ?_, fun j h => nomatch h⟩
  · have e10 : ∀ δ : Ds, o2 (gc (.int 10)) (gc (.int 60)) powD δ = some (.int (10 ^ 60)) := fun δ => by rw [o2_of (x := .int 10) (y := .int 60) rfl rfl]; exact pow60
    rw [o2_of (x := .int (u + 1)) (y := .int (10 ^ 60)) (by
      rw [o2_of (x := .int u) (y := .int 1) (by
        rw [o2_of (x := .int ((c + 1) * (k + 3) * 982451653 ^ 7)) (y := .int (2 * 10 ^ 60 - 1)) (by
          rw [o2_of (x := .int ((c + 1) * (k + 3))) (y := .int (982451653 ^ 7)) (by
            rw [o2_of (x := .int (c + 1)) (y := .int (k + 3)) rfl rfl]
            exact Gw.mul_r _ _ (by omega)) (by rw [o2_of (x := .int 982451653) (y := .int 7) rfl rfl]; exact pow7)]
          have := lg c k 1048576 hc (by omega)
          simp only [mulW, ii]
          rw [if_pos ⟨by omega, lg7⟩]) (by
          rw [o2_of (x := .int (2 * 10 ^ 60)) (y := .int 1) (by rw [o2_of (x := .int 2) (y := .int (10 ^ 60)) rfl (e10 _)]; exact Gw.mul_l _ _ (by decide)) rfl]
          rfl), Gw.mod_p _ _ (by decide), hu]) rfl]
      rfl) (e10 _)]
    rfl
  · have e : ((10 : Int) ^ 60) < 2 ^ 240 := by decide +kernel
    have e2 : ((10 : Int) ^ 60) = ((10 ^ 60 : Nat) : Int) := by decide +kernel
    have e3 : (10 ^ 60 : Nat) < 2 ^ 250 := by decide +kernel
    rw [e2] at u1 ⊢
    generalize (10 ^ 60 : Nat) = t at u1 e3
    generalize (2 : Nat) ^ 250 = r at e3
    omega
theorem at_nm (nm : List Str) (hp : Pool nm) (i : Int) (h0 : 0 ≤ i) (h1 : i < 12) : ixD (.lst (nm.map .str)) (.int i) = some (.str (nm.getD i.toNat "")) ∧ nm.getD i.toNat "" ∈ nm := by
  have hl := hp.len
  have hlt : i.toNat < nm.length := by omega
  constructor
  · show atI (nm.map D.str) i = _
    rw [atI_in h0 (by rw [List.length_map]; omega) .non]
    simp [List.getD_eq_getElem?_getD, hlt]
  · rw [List.getD_eq_getElem?_getD, List.getElem?_eq_getElem hlt]
    exact List.getElem_mem hlt
noncomputable def S37 : Str := "abcdefghijklmnopqrstuvwxyz0123456789 "
theorem at37 (i : Int) (h0 : 0 ≤ i) (h1 : i < 37) : ∃ c : Nat, ixD (.str S37) (.int i) = some (.str ⟨#[c]⟩) := by
  have hl : S37.cps.toList.length = 37 := by decide +kernel
  refine ⟨S37.cps.toList.getD i.toNat 0, ?_⟩
  simp only [ixD]
  rw [if_pos (by decide +kernel), atI_in h0 (by rw [hl]; exact h1) 0]
  rfl
theorem part_ok (c m : Int) (nm : List Str) (hp : Pool nm) (hc : c.natAbs.log2 ≤ 1048576) (hm : 0 < m ∧ m ≤ 1000) : ∃ p : Pt, m__law_drawn_part [.int c, .lst (nm.map .str), .int m] = some p.d ∧ Gq p ∧ ∀ v ∈ p.vals, Lk m.toNat v := by
  have z : (1000 : Nat) ≤ sizeLine := by decide
  obtain ⟨x1, p0, p1, p2⟩ := mix_ok c 1 (by decide) (by decide)
  obtain ⟨x2, q0, q1, q2⟩ := mix_ok c 2 (by decide) (by decide)
  obtain ⟨x3, r0, r1, r2⟩ := mix_ok c 3 (by decide) (by decide)
  obtain ⟨xt, t0, t1, t2⟩ := mix_ok c 30 (by decide) (by decide)
  obtain ⟨xc, c0, c1, c2⟩ := mix_ok c 31 (by decide) (by decide)
  obtain ⟨n, hn12, hn⟩ : ∃ n : Nat, n ≤ 12 ∧ ∀ δ : Ds, o2 (lstG (consA (gc (.int 0)) (consA (gc (.int 1)) (consA (gc (.int 2)) (consA (gc (.int 3)) (consA (gc (.int 2)) (consA (gc (.int 1)) (consA (gc (.int 4)) (consA (gc (.int 12)) nilA))))))))) (o2 (oA (consA (gv 0) (consA (gc (.int 2)) nilA)) m__law_mix) (gc (.int 8)) modD) ixD (.sh (.int c) :: δ) = some (.int (n : Int)) := by
    have key : ∀ (n : Nat), ixD (.lst [.int 0, .int 1, .int 2, .int 3, .int 2, .int 1, .int 4, .int 12]) (.int (x2 % 8)) = some (.int (n : Int)) → ∀ δ : Ds, o2 (lstG (consA (gc (.int 0)) (consA (gc (.int 1)) (consA (gc (.int 2)) (consA (gc (.int 3)) (consA (gc (.int 2)) (consA (gc (.int 1)) (consA (gc (.int 4)) (consA (gc (.int 12)) nilA))))))))) (o2 (oA (consA (gv 0) (consA (gc (.int 2)) nilA)) m__law_mix) (gc (.int 8)) modD) ixD (.sh (.int c) :: δ) = some (.int (n : Int)) := fun n h δ => by
      rw [o2_of (x := .lst [.int 0, .int 1, .int 2, .int 3, .int 2, .int 1, .int 4, .int 12]) (y := .int (x2 % 8)) (lst_of rfl (by show 8 ≤ sizeLine; omega)) (by
        rw [o2_of (x := .int x2) (y := .int 8) (by rw [oA_of (ds := [.int c, .int 2]) rfl]; exact q2) rfl]
        rfl)]
      exact h
    have q : x2 % 8 = 0 ∨ x2 % 8 = 1 ∨ x2 % 8 = 2 ∨ x2 % 8 = 3 ∨ x2 % 8 = 4 ∨ x2 % 8 = 5 ∨ x2 % 8 = 6 ∨ x2 % 8 = 7 := by omega
    rcases q with q | q | q | q | q | q | q | q <;> rw [q] at key
    · exact ⟨0, by omega, key 0 rfl⟩
    · exact ⟨1, by omega, key 1 rfl⟩
    · exact ⟨2, by omega, key 2 rfl⟩
    · exact ⟨3, by omega, key 3 rfl⟩
    · exact ⟨2, by omega, key 2 rfl⟩
    · exact ⟨1, by omega, key 1 rfl⟩
    · exact ⟨4, by omega, key 4 rfl⟩
    · exact ⟨12, by omega, key 12 rfl⟩
  have s3 : ∀ δ : Ds, o2 (oA (consA (gv 0) (consA (gc (.int 1)) nilA)) m__law_mix) (gc (.int 5)) modD (.sh (.int c) :: δ) = some (.int (x1 % 5)) := fun δ => by
    rw [o2_of (x := .int x1) (y := .int 5) (by rw [oA_of (ds := [.int c, .int 1]) rfl]; exact p2) rfl]
    rfl
  by_cases k0 : x1 % 5 = 0
  · obtain ⟨f, hf⟩ : ∃ f : Nat → Nat, ∀ j : Nat, j < 21 → ∀ δ : Ds, o2 (gv 2) (o2 (oA (consA (gv 1) (consA (o2 (gc (.int 80)) (gv 0) addA) nilA)) m__law_mix) (gc (.int 37)) modD) ixD (.sh (.int (j : Int)) :: .sh (.int c) :: .sh (.str S37) :: δ) = some (.str ⟨#[f j]⟩) := by
      have : ∀ j : Nat, ∃ v : Nat, j < 21 → ∀ δ : Ds, o2 (gv 2) (o2 (oA (consA (gv 1) (consA (o2 (gc (.int 80)) (gv 0) addA) nilA)) m__law_mix) (gc (.int 37)) modD) ixD (.sh (.int (j : Int)) :: .sh (.int c) :: .sh (.str S37) :: δ) = some (.str ⟨#[v]⟩) := fun j => by
        by_cases hj : j < 21
        · obtain ⟨x, y0, y1, y2⟩ := mix_ok c (80 + (j : Int)) (by omega) (by omega)
          obtain ⟨v, hv⟩ := at37 (x % 37) (by omega) (by omega)
          refine ⟨v, fun _ δ => ?_⟩
          rw [o2_of (x := .str S37) (y := .int (x % 37)) rfl (by
            rw [o2_of (x := .int x) (y := .int 37) (by rw [oA_of (ds := [.int c, .int (80 + (j : Int))]) rfl]; exact y2) rfl]
            rfl)]
          exact hv
        · exact ⟨0, fun h => absurd h hj⟩
      obtain ⟨f, hf⟩ := Classical.axiomOfChoice this
      exact ⟨f, hf⟩
    obtain ⟨l, hl⟩ : ∃ l : Nat, (l : Int) = x3 % 21 := ⟨(x3 % 21).toNat, by omega⟩
    have l21 : l < 21 := by omega
    obtain ⟨w, hw⟩ : ∃ w : List Nat, w = (List.range l).map f := ⟨_, rfl⟩
    have wl : w.length = l := by rw [hw]; simp
    refine ⟨.text (strOf w), mkF_rt rfl (seq_to (set_of (d := .int (x1 % 5)) (s3 _)) (seq_to (set_of (d := .int (n : Int)) (hn _)) (seq_rt ?_))), ⟨by show (strOf w).length ≤ 20; rw [strOf_len]; omega, fun v hv => (by cases hv), fun s hs => (by cases hs)⟩, fun v hv => (by cases hv)⟩
    rw [if_t (by show some (decide (x1 % 5 = 0)) = _; rw [decide_eq_true k0])]
    refine seq_to (set_of (d := .str S37) rfl) (seq_rt (ret_of (tup_of (cons_of rfl (cons_of (d := .str (strOf w)) ?_ rfl)) (by show 2 ≤ sizeLine; omega))))
    change joinG _ _ [.sh (.int c), .sh (.lst (nm.map .str)), .sh (.int m), .sh (.int (x1 % 5)), .sh (.int (n : Int)), .sh (.str S37), .un, .un, .un] = _
    rw [join_of (x := .str "") (ds := [.lst ((ones w).map .str)]) rfl (cons_of (comp_of (items := rngD 0 (l : Int)) (rng1_of (cons_of (by
      rw [o2_of (x := .int x3) (y := .int 21) (by rw [oA_of (ds := [.int c, .int 3]) rfl]; exact r2) rfl, hl]
      rfl) rfl) (by omega) (by omega)) (by rw [rng_len]; omega) (by
      have q := comp_rng (gt := noT) (ge := (o2 (gv 2) (o2 (oA (consA (gv 1) (consA (o2 (gc (.int 80)) (gv 0) addA) nilA)) m__law_mix) (gc (.int 37)) modD) ixD)) (δ := [.un, .sh (.int c), .sh (.str S37)]) (n := (l : Int)) (fun j => .str ⟨#[f j]⟩) (fun k hk => ⟨[.sh (.int (k : Int)), .sh (.int c), .sh (.str S37)], rfl, rfl, hf k (by omega) []⟩)
      refine q.trans ?_
      rw [Int.toNat_natCast, hw]
      unfold ones
      rw [List.map_map, List.map_map]
      rfl)) rfl)]
    have e1 := strs_map id (ones w)
    have e1' : strL ((ones w).map D.str) = some (ones w) := by simpa using e1
    simp only [joinD]
    rw [e1', Option.bind_some, sum_ones', join_ones, if_pos (by
      have : ("" : PySem.Str).length = 0 := by decide +kernel
      rw [this]; omega)]
  obtain ⟨f, hf⟩ : ∃ f : Nat → D, ∀ j : Nat, j < 12 → (Vb (f j) ∧ Lk m.toNat (f j)) ∧ m__law_one_value [.int c, .int (4 + (j : Int)), .int m] = some (f j) := by
    have : ∀ j : Nat, ∃ v : D, j < 12 → (Vb v ∧ Lk m.toNat v) ∧ m__law_one_value [.int c, .int (4 + (j : Int)), .int m] = some v := fun j => by
      by_cases hj : j < 12
      · obtain ⟨v, h1, h2⟩ := value_ok c (4 + (j : Int)) m hc (by omega) hm
        exact ⟨v, fun _ => ⟨h2, h1⟩⟩
      · exact ⟨.non, fun h => absurd h hj⟩
    obtain ⟨f, hf⟩ := Classical.axiomOfChoice this
    exact ⟨f, hf⟩
  obtain ⟨vs, hvs⟩ : ∃ vs : List D, vs = (List.range n).map f := ⟨_, rfl⟩
  have vl : vs.length = n := by rw [hvs]; simp
  have vv : ∀ v ∈ vs, Vb v ∧ Lk m.toNat v := fun v hv => by
    rw [hvs] at hv
    obtain ⟨k, hk, rfl⟩ := List.mem_map.mp hv
    exact (hf k (by have := List.mem_range.mp hk; omega)).1
  have n0 : ∀ G : GS, ifD (ob (o2 (gv 3) (gc (.int 0)) eqD)) G nilD [.sh (.int c), .sh (.lst (nm.map .str)), .sh (.int m), .sh (.int (x1 % 5)), .sh (.int (n : Int)), .un, .un, .un, .un] = some (.nx [.sh (.int c), .sh (.lst (nm.map .str)), .sh (.int m), .sh (.int (x1 % 5)), .sh (.int (n : Int)), .un, .un, .un, .un]) := fun G => by
    rw [if_f (by show some (decide (x1 % 5 = 0)) = _; rw [decide_eq_false k0])]
    rfl
  have s6 : compG 1 [0, 2] (rng1I (consA (gv 4) nilA)) (gN 0) noT (oA (consA (gv 1) (consA (o2 (gc (.int 4)) (gv 0) addA) (consA (gv 2) nilA))) m__law_one_value) [.sh (.int c), .sh (.lst (nm.map .str)), .sh (.int m), .sh (.int (x1 % 5)), .sh (.int (n : Int)), .un, .un, .un, .un] = some (.lst vs) := by
    refine comp_of (items := rngD 0 (n : Int)) (rng1_of (cons_of rfl rfl) (by omega) (by omega)) (by rw [rng_len]; omega) ?_
    have q := comp_rng (gt := noT) (ge := oA (consA (gv 1) (consA (o2 (gc (.int 4)) (gv 0) addA) (consA (gv 2) nilA))) m__law_one_value) (δ := [.un, .sh (.int c), .sh (.int m)]) (n := (n : Int)) f (fun k hk => ⟨[.sh (.int (k : Int)), .sh (.int c), .sh (.int m)], rfl, rfl, by
      rw [oA_of (ds := [.int c, .int (4 + (k : Int)), .int m]) rfl]
      exact (hf k (by omega)).2⟩)
    rw [Int.toNat_natCast] at q
    rw [hvs]
    exact q
  by_cases k1 : x1 % 5 = 1
  · refine ⟨.row vs, mkF_rt rfl (seq_to (set_of (d := .int (x1 % 5)) (s3 _)) (seq_to (set_of (d := .int (n : Int)) (hn _)) (seq_to (n0 _) (seq_to (set_of (d := .lst vs) s6) (seq_rt ?_))))), ⟨by show vs.length ≤ 20; omega, fun v hv => (vv v hv).1, fun s hs => (by cases hs)⟩, fun v hv => (vv v hv).2⟩
    rw [if_t (by show some (decide (x1 % 5 = 1)) = _; rw [decide_eq_true k1])]
    exact seq_rt (ret_of (tup_of (cons_of rfl (cons_of rfl rfl)) (by show 2 ≤ sizeLine; omega)))
  have n1 : ∀ G : GS, ifD (ob (o2 (gv 3) (gc (.int 1)) eqD)) G nilD [.sh (.int c), .sh (.lst (nm.map .str)), .sh (.int m), .sh (.int (x1 % 5)), .sh (.int (n : Int)), .un, .sh (.lst vs), .un, .un] = some (.nx [.sh (.int c), .sh (.lst (nm.map .str)), .sh (.int m), .sh (.int (x1 % 5)), .sh (.int (n : Int)), .un, .sh (.lst vs), .un, .un]) := fun G => by
    rw [if_f (by show some (decide (x1 % 5 = 1)) = _; rw [decide_eq_false k1])]
    rfl
  obtain ⟨st, hst⟩ : ∃ st : Int, st = xt % 12 := ⟨_, rfl⟩
  have st0 : 0 ≤ st := by omega
  obtain ⟨nf, hnf⟩ : ∃ nf : Nat → Str, nf = fun (k : Nat) => nm.getD ((st + (k : Int)) % 12).toNat "" := ⟨_, rfl⟩
  have hnm : ∀ k, nf k ∈ nm := fun k => by rw [hnf]; exact (at_nm nm hp ((st + (k : Int)) % 12) (by omega) (by omega)).2
  obtain ⟨ps, hps⟩ : ∃ ps : List (Str × D), ps = (List.range n).map fun k => (nf k, f k) := ⟨_, rfl⟩
  have pl : ps.length = n := by rw [hps]; simp
  have pv : ∀ v ∈ ps.map (·.2), Vb v ∧ Lk m.toNat v := fun v hv => by
    rw [hps, List.map_map] at hv
    obtain ⟨k, hk, rfl⟩ := List.mem_map.mp hv
    exact (hf k (by have := List.mem_range.mp hk; omega)).1
  have short : ∀ s ∈ nm, s.length ≤ 20 := fun s hs => by have := name_short (hp.names s hs); omega
  have pn : ∀ s ∈ ps.map (·.1), s.length ≤ 20 := fun v hv => by
    rw [hps, List.map_map] at hv
    obtain ⟨k, hk, rfl⟩ := List.mem_map.mp hv
    exact short _ (hnm k)
  have s7 : setD (gN 7) (o2 (oA (consA (gv 0) (consA (gc (.int 30)) nilA)) m__law_mix) (gc (.int 12)) modD) [.sh (.int c), .sh (.lst (nm.map .str)), .sh (.int m), .sh (.int (x1 % 5)), .sh (.int (n : Int)), .un, .sh (.lst vs), .un, .un] = some (.nx [.sh (.int c), .sh (.lst (nm.map .str)), .sh (.int m), .sh (.int (x1 % 5)), .sh (.int (n : Int)), .un, .sh (.lst vs), .sh (.int st), .un]) := by
    refine set_of (i := 7) (d := .int st) ?_
    rw [o2_of (x := .int xt) (y := .int 12) (by rw [oA_of (ds := [.int c, .int 30]) rfl]; exact t2) rfl, hst]
    rfl
  have s8 : setD (gN 8) (oA (consA (compG 1 [1, 6, 7] (rng1I (consA (gv 4) nilA)) (gN 0) noT (tupG (consA (o2 (gv 1) (o2 (o2 (gv 3) (gv 0) addA) (gc (.int 12)) modD) ixD) (consA (o2 (gv 2) (gv 0) ixD) nilA)))) nilA) tupOfD) [.sh (.int c), .sh (.lst (nm.map .str)), .sh (.int m), .sh (.int (x1 % 5)), .sh (.int (n : Int)), .un, .sh (.lst vs), .sh (.int st), .un] = some (.nx [.sh (.int c), .sh (.lst (nm.map .str)), .sh (.int m), .sh (.int (x1 % 5)), .sh (.int (n : Int)), .un, .sh (.lst vs), .sh (.int st), .sh (.tup (ps.map pr))]) := by
    refine set_of (i := 8) (d := .tup (ps.map pr)) ?_
    rw [oA_of (ds := [.lst (ps.map pr)]) (cons_of (comp_of (items := rngD 0 (n : Int)) (rng1_of (cons_of rfl rfl) (by omega) (by omega)) (by rw [rng_len]; omega) (by
      rw [hps, List.map_map]
      have q := comp_rng (gt := noT) (ge := (tupG (consA (o2 (gv 1) (o2 (o2 (gv 3) (gv 0) addA) (gc (.int 12)) modD) ixD) (consA (o2 (gv 2) (gv 0) ixD) nilA)))) (δ := [.un, .sh (.lst (nm.map .str)), .sh (.lst vs), .sh (.int st)]) (n := (n : Int)) (fun j => pr (nf j, f j)) (fun k hk => ⟨[.sh (.int (k : Int)), .sh (.lst (nm.map .str)), .sh (.lst vs), .sh (.int st)], rfl, rfl, by
        have hk' : k < n := by omega
        refine tup_of (cons_of (d := .str (nf k)) ?_ (cons_of (d := f k) ?_ rfl)) (by show 2 ≤ sizeLine; omega)
        · rw [o2_of (x := .lst (nm.map .str)) (y := .int ((st + (k : Int)) % 12)) rfl rfl, hnf]
          exact (at_nm nm hp _ (by omega) (by omega)).1
        · rw [o2_of (x := .lst vs) (y := .int (k : Int)) rfl rfl]
          show atI vs (k : Int) = _
          rw [atI_in (by omega) (by omega) .non, Int.toNat_natCast, hvs]
          simp [List.getD_eq_getElem?_getD, hk']⟩)
      rw [Int.toNat_natCast] at q
      exact q)) rfl)]
    rfl
  by_cases k2 : x1 % 5 = 2
  · refine ⟨.table ps, mkF_rt rfl (seq_to (set_of (d := .int (x1 % 5)) (s3 _)) (seq_to (set_of (d := .int (n : Int)) (hn _)) (seq_to (n0 _) (seq_to (set_of (d := .lst vs) s6) (seq_to (n1 _) (seq_to s7 (seq_to s8 (seq_rt ?_)))))))), ⟨by show ps.length ≤ 20; omega, fun v hv => (pv v hv).1, fun s hs => pn s (by simpa [Pt.all, Pt.pnames, Pt.cls] using hs)⟩, fun v hv => (pv v hv).2⟩
    rw [if_t (by show some (decide (x1 % 5 = 2)) = _; rw [decide_eq_true k2])]
    exact seq_rt (ret_of (tup_of (cons_of rfl (cons_of rfl rfl)) (by show 2 ≤ sizeLine; omega)))
  · obtain ⟨a1, a2⟩ := at_nm nm hp (xc % 12) (by omega) (by omega)
    refine ⟨.rcd (nm.getD (xc % 12).toNat "") ps, mkF_rt rfl (seq_to (set_of (d := .int (x1 % 5)) (s3 _)) (seq_to (set_of (d := .int (n : Int)) (hn _)) (seq_to (n0 _) (seq_to (set_of (d := .lst vs) s6) (seq_to (n1 _) (seq_to s7 (seq_to s8 (seq_to (δ' := [.sh (.int c), .sh (.lst (nm.map .str)), .sh (.int m), .sh (.int (x1 % 5)), .sh (.int (n : Int)), .un, .sh (.lst vs), .sh (.int st), .sh (.tup (ps.map pr))]) ?_ (seq_rt (ret_of ?_)))))))))), ⟨by show ps.length ≤ 20; omega, fun v hv => (pv v hv).1, fun s hs => ?_⟩, fun v hv => (pv v hv).2⟩
    · rw [if_f (by show some (decide (x1 % 5 = 2)) = _; rw [decide_eq_false k2])]; rfl
    · exact tup_of (cons_of rfl (cons_of (by
        rw [o2_of (x := .lst (nm.map .str)) (y := .int (xc % 12)) rfl (by
          rw [o2_of (x := .int xc) (y := .int 12) (by rw [oA_of (ds := [.int c, .int 31]) rfl]; exact c2) rfl]
          rfl)]
        exact a1) (cons_of rfl rfl))) (by show 3 ≤ sizeLine; omega)
    · rcases List.mem_append.mp hs with q | q
      · exact pn s q
      · have := List.mem_singleton.mp q
        rw [this]; exact short _ a2
end Bw
namespace Bw
open PySem DL W
theorem built_ok (ns : List Int) (hb : ∀ z ∈ ns, z.natAbs.log2 ≤ 1048576) (a : Int) (ha : 0 ≤ a ∧ a ≤ 100) (most : Int) (hm : 0 < most ∧ most ≤ 60) : ∃ ps : List Pt, m__law_built [.lst (ns.map .int), .int a, .int most] = some (web ps) ∧ Gw' ps ∧ 0 < ps.length ∧ ∀ p ∈ ps, ∀ v ∈ p.vals, Lk ps.length v := by
  have z : (1000 : Nat) ≤ sizeLine := by decide
  obtain ⟨c0, e0, _⟩ := cell_b ns hb a ha.1 (by omega)
  obtain ⟨c1, e1, _⟩ := cell_b ns hb (a + 1) (by omega) (by omega)
  obtain ⟨x, x0, x1, x2⟩ := mix_ok c0 3 (by decide) (by decide)
  obtain ⟨nm, hn, hp⟩ := pool_ok c1
  have j0 : 0 ≤ x % most := Int.emod_nonneg _ (by omega)
  have j1 : x % most < most := Int.emod_lt_of_pos _ hm.1
  obtain ⟨n, hnn⟩ : ∃ n : Nat, (n : Int) = 1 + x % most := ⟨(1 + x % most).toNat, by omega⟩
  have n60 : n ≤ 60 := by omega
  have n1 : 0 < n := by omega
  obtain ⟨f, hf⟩ : ∃ f : Nat → Pt, ∀ k : Nat, k < 60 → (Gq (f k) ∧ ∀ v ∈ (f k).vals, Lk n v) ∧ ∀ δ : Ds, oA (consA (oA (consA (gv 1) (consA (o2 (o2 (gv 2) (gc (.int 2)) addA) (gv 0) addA) nilA)) m__law_cell_at) (consA (gv 4) (consA (gv 3) nilA))) m__law_drawn_part (.sh (.int (k : Int)) :: .sh (.lst (ns.map .int)) :: .sh (.int a) :: .sh (.int (n : Int)) :: .sh (.lst (nm.map .str)) :: δ) = some (f k).d := by
    have : ∀ k : Nat, ∃ p : Pt, k < 60 → (Gq p ∧ ∀ v ∈ p.vals, Lk n v) ∧ ∀ δ : Ds, oA (consA (oA (consA (gv 1) (consA (o2 (o2 (gv 2) (gc (.int 2)) addA) (gv 0) addA) nilA)) m__law_cell_at) (consA (gv 4) (consA (gv 3) nilA))) m__law_drawn_part (.sh (.int (k : Int)) :: .sh (.lst (ns.map .int)) :: .sh (.int a) :: .sh (.int (n : Int)) :: .sh (.lst (nm.map .str)) :: δ) = some p.d := fun k => by
      by_cases hk : k < 60
      · obtain ⟨c, e, hc⟩ := cell_b ns hb (a + 2 + (k : Int)) (by omega) (by omega)
        obtain ⟨p, h1, h2⟩ := part_ok c (n : Int) nm hp hc (by omega)
        refine ⟨p, fun _ => ⟨h2, fun δ => ?_⟩⟩
        rw [oA_of (ds := [.int c, .lst (nm.map .str), .int (n : Int)]) (cons_of (by
          rw [oA_of (ds := [.lst (ns.map .int), .int (a + 2 + (k : Int))]) rfl]
          exact e) (cons_of rfl (cons_of rfl rfl)))]
        exact h1
      · exact ⟨.row [], fun h => absurd h hk⟩
    obtain ⟨f, hf⟩ := Classical.axiomOfChoice this
    exact ⟨f, hf⟩
  refine ⟨(List.range n).map f, mkF_rt rfl (seq_to (set_of (d := .int (n : Int)) ?_) (seq_to (set_of (d := .lst (nm.map .str)) ?_) (seq_rt (ret_of ?_)))), ⟨by simp; omega, fun p hp => ?_⟩, by simp; omega, fun p hp => ?_⟩
  · rw [o2_of (x := .int 1) (y := .int (x % most)) rfl (by
      rw [o2_of (x := .int x) (y := .int most) (by
        rw [oA_of (ds := [.int c0, .int 3]) (cons_of (by rw [oA_of (ds := [.lst (ns.map .int), .int a]) rfl]; exact e0) rfl)]
        exact x2) rfl]
      exact Gw.mod_p _ _ hm.1), hnn]
    rfl
  · rw [oA_of (ds := [.int c1, .int 12]) (cons_of (by rw [oA_of (ds := [.lst (ns.map .int), .int (a + 1)]) rfl]; exact e1) rfl)]
    exact hn
  · rw [oA_of (ds := [.lst (((List.range n).map f).map Pt.d)]) (cons_of (comp_of (items := rngD 0 (n : Int)) (rng1_of (cons_of rfl rfl) (by omega) (by omega)) (by rw [rng_len]; omega) (by
      have q := comp_rng (gt := noT) (ge := oA (consA (oA (consA (gv 1) (consA (o2 (o2 (gv 2) (gc (.int 2)) addA) (gv 0) addA) nilA)) m__law_cell_at) (consA (gv 4) (consA (gv 3) nilA))) m__law_drawn_part) (δ := [.un, .sh (.lst (ns.map .int)), .sh (.int a), .sh (.int (n : Int)), .sh (.lst (nm.map .str))]) (n := (n : Int)) (fun k => (f k).d) (fun k hk => ⟨_, rfl, rfl, (hf k (by omega)).2 []⟩)
      rw [Int.toNat_natCast] at q
      rw [List.map_map]
      exact q)) rfl)]
    rfl
  · obtain ⟨k, hk, rfl⟩ := List.mem_map.mp hp
    exact (hf k (by have := List.mem_range.mp hk; omega)).1.1
  · obtain ⟨k, hk, rfl⟩ := List.mem_map.mp hp
    rw [List.length_map, List.length_range]
    exact (hf k (by have := List.mem_range.mp hk; omega)).1.2
end Bw
namespace K22
open PySem DL W
inductive Dfs (adj : Nat → List Nat) (S : List Nat) : Nat → List Nat → List Nat → List Nat → Prop
  | nil (o : List Nat) : Dfs adj S 0 o [] o
  | skip {c : Nat} {o T r : List Nat} {x : Nat} : x ∈ o ∨ x ∈ S → Dfs adj S c o T r → Dfs adj S (c + 1) o (x :: T) r
  | visit {c : Nat} {o T r : List Nat} {x : Nat} : x ∉ o → x ∉ S → (adj x ++ T).length + o.length ≤ 10000 → Dfs adj S c (o ++ [x]) (adj x ++ T) r → Dfs adj S (c + 1) o (x :: T) r
theorem sub_len : ∀ {l m : List Nat}, l.Nodup → (∀ a ∈ l, a ∈ m) → l.length ≤ m.length
  | [], m, _, _ => Nat.zero_le _
  | a :: l, m, h, hs => by
    obtain ⟨h1, h2⟩ := List.nodup_cons.mp h
    obtain ⟨m1, m2, rfl⟩ := List.append_of_mem (hs a List.mem_cons_self)
    have := sub_len (m := m1 ++ m2) h2 fun b hb => by
      have := hs b (List.mem_cons_of_mem _ hb)
      rcases List.mem_append.mp this with q | q
      · exact List.mem_append.mpr (.inl q)
      · rcases List.mem_cons.mp q with rfl | q
        · exact absurd hb h1
        · exact List.mem_append.mpr (.inr q)
    simp only [List.length_append, List.length_cons] at this ⊢
    omega
noncomputable def vis (adj : Nat → List Nat) (S : List Nat) : Nat → Nat → List Nat → Option (List Nat)
  | 0, _, _ => none
  | q + 1, k, o => if k ∈ o ∨ k ∈ S then some o else (adj k).foldlM (fun o j => vis adj S q j o) (o ++ [k])
theorem fold_mono {f g : List Nat → Nat → Option (List Nat)} (h : ∀ o j r, f o j = some r → g o j = some r) : ∀ (l : List Nat) (o r : List Nat), l.foldlM f o = some r → l.foldlM g o = some r
  | [], o, r, e => e
  | j :: l, o, r, e => by
    rw [List.foldlM_cons] at e ⊢
    cases e1 : f o j with
    | none => rw [e1] at e; cases e
    | some o1 =>
      rw [e1] at e
      rw [h o j o1 e1]
      exact fold_mono h l o1 r e
theorem vis_mono {adj : Nat → List Nat} {S : List Nat} : ∀ (q k : Nat) (o r : List Nat), vis adj S q k o = some r → vis adj S (q + 1) k o = some r
  | 0, _, _, _, e => by cases e
  | q + 1, k, o, r, e => by
    rw [vis] at e ⊢
    split at e
    · rename_i h
      rw [if_pos h]; exact e
    · rename_i h
      rw [if_neg h]
      exact fold_mono (fun o j r e => vis_mono q j o r e) _ _ _ e
theorem dfs_vis {adj : Nat → List Nat} {S : List Nat} {n : Nat} (hj : ∀ i, i < n → ∀ j ∈ adj i, j < n) : ∀ {c : Nat} {o T r : List Nat}, Dfs adj S c o T r → o.Nodup → (∀ x ∈ o, x < n) → (∀ x ∈ T, x < n) → ∀ q, n + 1 ≤ q + o.length → T.foldlM (fun o j => vis adj S q j o) o = some r := by
  intro c o T r h
  induction h with
  | nil o => intro _ _ _ q _; rfl
  | @skip c o T r x hx hd ih =>
    intro ho hon hT q hq
    have h1 : o.length ≤ n := by
      have := sub_len ho (m := List.range n) fun y hy => List.mem_range.mpr (hon y hy)
      rwa [List.length_range] at this
    obtain ⟨q, rfl⟩ : ∃ q', q = q' + 1 := ⟨q - 1, by omega⟩
    rw [List.foldlM_cons, vis, if_pos hx]
    exact ih ho hon (fun y hy => hT y (List.mem_cons_of_mem _ hy)) (q + 1) hq
  | @visit c o T r x hx hs hz hd ih =>
    intro ho hon hT q hq
    have hxn := hT x List.mem_cons_self
    have hnd : (o ++ [x]).Nodup := List.nodup_append.mpr ⟨ho, by simp, fun a ha b hb e => by
      have := List.mem_singleton.mp hb
      subst this; subst e; exact hx ha⟩
    have hin : ∀ y ∈ o ++ [x], y < n := fun y hy => by
      rcases List.mem_append.mp hy with z | z
      · exact hon y z
      · have := List.mem_singleton.mp z; subst this; exact hxn
    have h1 : o.length + 1 ≤ n := by
      have := sub_len hnd (m := List.range n) fun y hy => List.mem_range.mpr (hin y hy)
      rwa [List.length_range, List.length_append, List.length_singleton] at this
    obtain ⟨q, rfl⟩ : ∃ q', q = q' + 1 := ⟨q - 1, by omega⟩
    have e := ih hnd hin (fun y hy => by
      rcases List.mem_append.mp hy with z | z
      · exact hj x hxn y z
      · exact hT y (List.mem_cons_of_mem _ z)) q (by rw [List.length_append, List.length_singleton]; omega)
    rw [List.foldlM_append] at e
    cases e1 : (adj x).foldlM (fun o j => vis adj S q j o) (o ++ [x]) with
    | none => rw [e1] at e; cases e
    | some o1 =>
      rw [e1] at e
      rw [List.foldlM_cons, vis, if_neg (fun z => z.elim hx hs), e1]
      exact fold_mono (fun o j r e => vis_mono q j o r e) _ _ _ e
theorem vis_of {adj : Nat → List Nat} {S : List Nat} {n : Nat} (hj : ∀ i, i < n → ∀ j ∈ adj i, j < n) {c x : Nat} {r : List Nat} (h : Dfs adj S c [] [x] r) (hx : x < n) (q : Nat) (hq : n + 1 ≤ q) : vis adj S q x [] = some r := by
  have e := dfs_vis hj h List.nodup_nil (fun y hy => by cases hy) (fun y hy => by rw [List.mem_singleton.mp hy]; exact hx) q (by simpa using hq)
  rw [List.foldlM_cons] at e
  cases e1 : vis adj S q x [] with
  | none => rw [e1] at e; cases e
  | some o1 => rw [e1] at e; exact e
end K22
namespace K22
open PySem DL W
noncomputable def nd (l : List Nat) : List D := l.map fun (i : Nat) => D.int (i : Int)
noncomputable def nn (l : List D) : List Nat := l.filterMap fun d => match d with | .int i => some i.toNat | _ => none
theorem nn_nd : ∀ l : List Nat, nn (nd l) = l
  | [] => rfl
  | a :: l => by
    have := nn_nd l
    unfold nn nd at this ⊢
    rw [List.map_cons, List.filterMap_cons]
    simp only [Int.toNat_natCast]
    rw [this]
noncomputable def tgs (vs : List D) : List Nat := vs.filterMap fun v => match v with | .tup [_, .int j] => some j.toNat | _ => none
noncomputable section
end
end K22
namespace K22
open PySem DL W
theorem nd_app (a b : List Nat) : nd (a ++ b) = nd a ++ nd b := by unfold nd; rw [List.map_append]
theorem nd_len (a : List Nat) : (nd a).length = a.length := by simp [nd]
theorem any_nd (o : List Nat) (x : Nat) : ((nd o).any fun y => eqF y (.int (x : Int))) = decide (x ∈ o) := by
  unfold nd
  rw [List.any_map, Bool.eq_iff_iff, List.any_eq_true, decide_eq_true_eq]
  constructor
  · rintro ⟨y, hy, e⟩
    have e : decide ((y : Int) = (x : Int)) = true := e
    have e := of_decide_eq_true e
    have : y = x := by omega
    subst this; exact hy
  · intro h
    exact ⟨x, h, show decide ((x : Int) = (x : Int)) = true from decide_eq_true rfl⟩
theorem all_flat (o : List Nat) : ((nd o).all fun d => flat d) = true := by
  unfold nd
  rw [List.all_map, List.all_eq_true]
  exact fun _ _ => rfl
theorem vis_good {adj : Nat → List Nat} {S : List Nat} {n : Nat} (hj : ∀ i, i < n → ∀ j ∈ adj i, j < n) : ∀ (q k : Nat) (o r : List Nat), vis adj S q k o = some r → k < n → o.Nodup → (∀ x ∈ o, x < n) → r.Nodup ∧ ∀ x ∈ r, x < n
  | 0, _, _, _, e, _, _, _ => by cases e
  | q + 1, k, o, r, e, hk, ho, hon => by
    rw [vis] at e
    split at e
    · cases e; exact ⟨ho, hon⟩
    · rename_i h
      have go : ∀ (l : List Nat) (o r : List Nat), l.foldlM (fun o j => vis adj S q j o) o = some r → (∀ j ∈ l, j < n) → o.Nodup → (∀ x ∈ o, x < n) → r.Nodup ∧ ∀ x ∈ r, x < n := by
        intro l
        induction l with
        | nil => intro o r e _ ho hon; cases e; exact ⟨ho, hon⟩
        | cons j l ih =>
          intro o r e hl ho hon
          rw [List.foldlM_cons] at e
          cases e1 : vis adj S q j o with
          | none => rw [e1] at e; cases e
          | some o1 =>
            rw [e1] at e
            obtain ⟨a, b⟩ := vis_good hj q j o o1 e1 (hl j List.mem_cons_self) ho hon
            exact ih o1 r e (fun i hi => hl i (List.mem_cons_of_mem _ hi)) a b
      refine go _ _ _ e (hj k hk) (List.nodup_append.mpr ⟨ho, by simp, fun a ha b hb e => ?_⟩) fun x hx => ?_
      · rw [List.mem_singleton.mp hb] at e; exact h (.inl (e ▸ ha))
      · rcases List.mem_append.mp hx with z | z
        · exact hon x z
        · rw [List.mem_singleton.mp z]; exact hk
end K22
namespace K22
open PySem DL W
theorem in_nd (o : List Nat) (x : Nat) : inSeqD true (.int (x : Int)) (.lst (nd o)) = some (.bl (decide (x ∉ o))) := by
  simp only [inSeqD]
  rw [if_pos ⟨rfl, all_flat o⟩, any_nd]
  congr 2
  by_cases h : x ∈ o <;> simp [h]
theorem tgs_lt {n : Nat} : ∀ {vs : List D}, (∀ v ∈ vs, v = .non ∨ (∃ z, v = .int z) ∨ ∃ j : Nat, v = .tup [.str "at", .int (j : Int)] ∧ j < n) → ∀ j ∈ tgs vs, j < n := by
  intro vs h j hj
  obtain ⟨v, hv, e⟩ := List.mem_filterMap.mp hj
  rcases h v hv with rfl | ⟨z, rfl⟩ | ⟨i, rfl, hi⟩
  · cases e
  · cases e
  · simp only [Int.toNat_natCast, Option.some.injEq] at e
    omega
end K22
namespace K22
open PySem DL W
noncomputable def Lv (n : Nat) (v : D) : Prop := v = .non ∨ (∃ z, v = .int z) ∨ ∃ j : Nat, v = .tup [.str "at", .int (j : Int)] ∧ j < n
theorem tgs_len (vs : List D) : (tgs vs).length ≤ vs.length := List.length_filterMap_le _ _
theorem tgs_lk (j : Nat) (vs : List D) : tgs (.tup [.str "at", .int (j : Int)] :: vs) = j :: tgs vs := by unfold tgs; rw [List.filterMap_cons]; simp only [Int.toNat_natCast]
theorem link_comp {n : Nat} : ∀ vs : List D, (∀ v ∈ vs, Lv n v) → compD (gN 0) (ob (isiG isTup (gv 0))) (o2 (gv 0) (gc (.int 1)) ixD) [.un] vs = some (nd (tgs vs))
  | [], _ => rfl
  | v :: vs, h => by
    have ih := link_comp vs fun u hu => h u (List.mem_cons_of_mem _ hu)
    unfold compD
    rcases h v List.mem_cons_self with rfl | ⟨z, rfl⟩ | ⟨j, rfl, hj⟩
    · exact ih
    · exact ih
    · show (match o2 (gv 0) (gc (.int 1)) ixD [.sh (.tup [.str "at", .int (j : Int)])] with | none => none | some y => (compD (gN 0) (ob (isiG isTup (gv 0))) (o2 (gv 0) (gc (.int 1)) ixD) [.un] vs).map fun r => y :: r) = _
      rw [ih, tgs_lk]
      rfl
noncomputable def lkv (f : Nat → Nat) : D → D
  | .tup [_, .int j] => .tup [.str "at", .int (f j.toNat : Int)]
  | v => v
noncomputable def rel (f : Nat → Nat) (p : Pt) : Pt := Pn.put p (p.vals.map (lkv f))
theorem in_tgs {vs : List D} {j : Nat} (h : D.tup [.str "at", .int (j : Int)] ∈ vs) : j ∈ tgs vs := List.mem_filterMap.mpr ⟨_, h, by simp only [Int.toNat_natCast]⟩
theorem put_vals (p : Pt) (vs : List D) (h : vs.length = p.vals.length) : (Pn.put p vs).vals = vs := by
  cases p with
  | text w => exact (List.eq_nil_of_length_eq_zero h).symm
  | row us => rfl
  | table ps =>
    show ((ps.map (·.1)).zip vs).map (·.2) = vs
    refine List.map_snd_zip ?_
    have h' : vs.length = (ps.map (·.2)).length := h
    simp only [List.length_map] at h' ⊢
    omega
  | rcd c ps =>
    show ((ps.map (·.1)).zip vs).map (·.2) = vs
    refine List.map_snd_zip ?_
    have h' : vs.length = (ps.map (·.2)).length := h
    simp only [List.length_map] at h' ⊢
    omega
end K22
namespace Km
open PySem DL W K22
noncomputable def G_number_bytes : GS := (seqD (ownD 1 (lstG (consA (o2 (gv 0) (gc (.int 128)) modD) nilA)))
  (seqD (setD (gN 2) (o2 (gv 0) (gc (.int 128)) fdivD))
  (seqD (whileD (ob (o2 (gv 2) (gc (.int 0)) gtD))
  (seqD (exprX (appX 1 (o2 (gc (.int 128)) (o2 (gv 2) (gc (.int 128)) modD) addA)))
  (seqD (setD (gN 2) (o2 (gv 2) (gc (.int 128)) fdivD))
  nilD)) 100000)
  (seqD (retF (borA (oA (consA (gv 1) nilA) revD)))
  nilD))))
noncomputable def N_number_bytes : List Str := ["number", "out", "rest"]
noncomputable def m_number_bytes : List D → Option D := mkN 1 N_number_bytes G_number_bytes
noncomputable def G_folded : GS := (seqD (ifD (ob (o2 (gv 0) (gc (.int 0)) ltD))
  (seqD (retD (o2 (o2 (unG negD (gc (.int 2))) (gv 0) mulA) (gc (.int 1)) subD))
  nilD)
  nilD)
  (seqD (retD (o2 (gc (.int 2)) (gv 0) mulA))
  nilD))
noncomputable def N_folded : List Str := ["number"]
noncomputable def m_folded : List D → Option D := mkF 1 N_folded G_folded
noncomputable def G_is_new : GS := (seqD (retD (andG (isiG isTup (gv 0)) (o2 (o2 (gv 0) (gc (.int 1)) ixD) (gv 1) (inDctD true))))
  nilD)
noncomputable def N_is_new : List Str := ["value", "begun"]
noncomputable def m_is_new : List D → Option D := mkF 2 N_is_new G_is_new
noncomputable def G_sign_bytes : GS := (seqD (retF (compG 1 [] (strI (gv 0)) (gN 0) noT (oA (consA (gv 0) nilA) ordD)))
  nilD)
noncomputable def N_sign_bytes : List Str := ["signs"]
noncomputable def m_sign_bytes : List D → Option D := mkN 1 N_sign_bytes G_sign_bytes
noncomputable def G_name_bytes : GS := (seqD (ifD (ob (o2 (gv 0) (gv 1) (inDctD false)))
  (seqD (retF (oA (consA (o2 (gc (.int 2)) (o2 (o2 (oA (consA (gv 1) nilA) lenKD) (gc (.int 1)) subD) (o2 (gv 1) (gv 0) dgetD) subD) mulA) nilA) m_number_bytes))
  nilD)
  nilD)
  (seqD (retF (o2 (oA (consA (o2 (o2 (gc (.int 2)) (oA (consA (gv 0) nilA) lenD) mulA) (gc (.int 1)) addA) nilA) m_number_bytes) (oA (consA (gv 0) nilA) m_sign_bytes) catD))
  nilD))
noncomputable def N_name_bytes : List Str := ["name", "told"]
noncomputable def m_name_bytes : List D → Option D := mkN 2 N_name_bytes G_name_bytes
noncomputable def G_part_number : GS := (seqD (retD (o2 (o2 (gc (.int 4)) (oA (consA (o2 (gv 0) (unG negD (gc (.int 1))) ixD) nilA) lenD) mulA) (oA (consA (o2 (gv 0) (gc (.int 0)) ixD) nilA) (idxC ["text", "row", "table", "record"])) addA))
  nilD)
noncomputable def N_part_number : List Str := ["part"]
noncomputable def m_part_number : List D → Option D := mkF 1 N_part_number G_part_number
noncomputable def G_text_bytes : GS := (seqD (ifD (ob (o2 (o2 (gv 0) (gc (.int 0)) ixD) (gc (.str "text")) eqD))
  (seqD (retF (oA (consA (o2 (gv 0) (gc (.int 1)) ixD) nilA) m_sign_bytes))
  nilD)
  nilD)
  (seqD (retF (lstG nilA))
  nilD))
noncomputable def N_text_bytes : List Str := ["part"]
noncomputable def m_text_bytes : List D → Option D := mkN 1 N_text_bytes G_text_bytes
noncomputable def G_known_head : GS := (seqD (ifD (ob (o2 (gv 0) (gc .non) isND))
  (seqD (retD (gc (.int 0)))
  nilD)
  nilD)
  (seqD (ifD (ob (isiG isTup (gv 0)))
  (seqD (retD (o2 (o2 (gc (.int 4)) (o2 (o2 (oA (consA (gv 1) nilA) lenKD) (gc (.int 1)) subD) (o2 (gv 1) (o2 (gv 0) (gc (.int 1)) ixD) dgetD) subD) mulA) (gc (.int 2)) addA))
  nilD)
  nilD)
  (seqD (retD (o2 (o2 (gc (.int 4)) (oA (consA (gv 0) nilA) m_folded) mulA) (gc (.int 1)) addA))
  nilD)))
noncomputable def N_known_head : List Str := ["value", "begun"]
noncomputable def m_known_head : List D → Option D := mkF 2 N_known_head G_known_head
noncomputable def G_item_bytes : GS := (seqD (ifD (ob (isiG isStr (gv 1)))
  (seqD (retF (oA (consA (gv 1) (consA (gv 3) nilA)) m_name_bytes))
  nilD)
  nilD)
  (seqD (ifD (ob (oA (consA (gv 1) (consA (gv 2) nilA)) m_is_new))
  (seqD (setD (gN 4) (o2 (gv 0) (o2 (gv 1) (gc (.int 1)) ixD) ixD))
  (seqD (retF (o2 (oA (consA (o2 (o2 (gc (.int 4)) (oA (consA (gv 4) nilA) m_part_number) mulA) (gc (.int 3)) addA) nilA) m_number_bytes) (oA (consA (gv 4) nilA) m_text_bytes) catD))
  nilD))
  nilD)
  (seqD (retF (oA (consA (oA (consA (gv 1) (consA (gv 2) nilA)) m_known_head) nilA) m_number_bytes))
  nilD)))
noncomputable def N_item_bytes : List Str := ["web", "item", "begun", "told", "part"]
noncomputable def m_item_bytes : List D → Option D := mkN 4 N_item_bytes G_item_bytes
noncomputable def G_held_items : GS := (seqD (ifD (ob (o2 (o2 (gv 0) (gc (.int 0)) ixD) (gc (.str "text")) eqD))
  (seqD (retF (lstG nilA))
  nilD)
  nilD)
  (seqD (ifD (ob (o2 (o2 (gv 0) (gc (.int 0)) ixD) (gc (.str "row")) eqD))
  (seqD (retF (oA (consA (o2 (gv 0) (gc (.int 1)) ixD) nilA) lstOfD))
  nilD)
  nilD)
  (seqD (ownD 1 (lstG nilA))
  (seqD (ifD (ob (o2 (o2 (gv 0) (gc (.int 0)) ixD) (gc (.str "record")) eqD))
  (seqD (exprX (appX 1 (o2 (gv 0) (gc (.int 1)) ixD)))
  nilD)
  nilD)
  (seqD (forG (tupI (o2 (gv 0) (unG negD (gc (.int 1))) ixD)) (gN 2)
  (seqD (exprX (extX 1 (oA (consA (gv 2) nilA) lstOfD)))
  nilD))
  (seqD (retO 1)
  nilD))))))
noncomputable def N_held_items : List Str := ["part", "items", "pair"]
noncomputable def m_held_items : List D → Option D := mkN 1 N_held_items G_held_items
noncomputable def G_pack : GS := (seqD (ownD 1 (lstG nilA))
  (seqD (ownD 2 (gc (.dct (.inl []) [])))
  (seqD (ownD 3 (gc (.dct (.inl []) [])))
  (seqD (ownD 4 (lstG (consA (tupG (consA (gc (.str "at")) (consA (gc (.int 0)) nilA))) nilA)))
  (seqD (whileD (ob (o2 (borE (oA (consA (gv 4) nilA) lenD)) (gc (.int 0)) gtD))
  (seqD (asgX (popX 4) (gN 5))
  (seqD (exprX (extX 1 (borL (oA (consA (gv 0) (consA (gv 5) (consA (gv 2) (consA (gv 3) nilA)))) m_item_bytes))))
  (seqD (ifD (ob (isiG isStr (gv 5)))
  (seqD (exprX (sdfX 3 (gv 5) (borE (oA (consA (gv 3) nilA) lenKD))))
  nilD)
  (seqD (ifD (ob (borT (oA (consA (gv 5) (consA (gv 2) nilA)) m_is_new)))
  (seqD (asgX (pureX (borE (oA (consA (gv 2) nilA) lenKD))) (putAt 2 (o2 (gv 5) (gc (.int 1)) ixD)))
  (seqD (exprX (extX 4 (oA (consA (oA (consA (o2 (gv 0) (o2 (gv 5) (gc (.int 1)) ixD) ixD) nilA) m_held_items) nilA) revD)))
  nilD))
  nilD)
  nilD))
  nilD))) 100000)
  (seqD (retO 1)
  nilD))))))
noncomputable def N_pack : List Str := ["web", "out", "begun", "told", "waiting", "item"]
noncomputable def m_pack : List D → Option D := mkN 1 N_pack G_pack
noncomputable def G_mark : GS := (seqD (retD (o2 (oA (consA (compG 2 [] (enumSI (consA (oA (consA (gv 0) nilA) m_pack) nilA) (gc (.int 1))) (tup2 0 1) noT (o2 (gv 0) (gv 1) mulA)) nilA) sumD) (gc (.int 65521)) modD))
  nilD)
noncomputable def N_mark : List Str := ["web"]
noncomputable def m_mark : List D → Option D := mkF 1 N_mark G_mark
noncomputable def G__law_cell_at : GS := (seqD (ifD (ob (o2 (gv 1) (oA (consA (gv 0) nilA) lenD) ltD))
  (seqD (retD (o2 (gv 0) (gv 1) ixD))
  nilD)
  nilD)
  (seqD (retD (o2 (o2 (o2 (gv 1) (gc (.int 7919)) mulA) (gc (.int 5)) addA) (o2 (gv 1) (gc (.int 31)) addA) mulA))
  nilD))
noncomputable def N__law_cell_at : List Str := ["_law_script", "_law_k"]
noncomputable def m__law_cell_at : List D → Option D := mkF 2 N__law_cell_at G__law_cell_at
noncomputable def G__law_mix : GS := (seqD (retD (o2 (o2 (o2 (o2 (o2 (o2 (gv 0) (gc (.int 2147483629)) modD) (gc (.int 1)) addA) (o2 (o2 (gc (.int 48271)) (o2 (gc (.int 69621)) (gv 1) mulA) addA) (o2 (o2 (gc (.int 2)) (gv 1) mulA) (gv 1) mulA) addA) mulA) (gv 1) addA) (gc (.int 2147483647)) modD) (gc (.int 7)) fdivD))
  nilD)
noncomputable def N__law_mix : List Str := ["_law_cell", "_law_k"]
noncomputable def m__law_mix : List D → Option D := mkF 2 N__law_mix G__law_mix
noncomputable def G__law_pool : GS := (seqD (setD (gN 2) (gc (.str "abcdefghijklmnopqrstuvwxyz0123456789")))
  (seqD (setD (gN 3) (joinG (gc (.str "")) (consA (compG 1 [0, 2] (rng1I (consA (o2 (oA (consA (gv 0) (consA (gc (.int 20)) nilA)) m__law_mix) (gc (.int 8)) modD) nilA)) (gN 0) noT (o2 (gv 2) (o2 (oA (consA (gv 1) (consA (gv 0) nilA)) m__law_mix) (gc (.int 36)) modD) ixD)) nilA)))
  (seqD (setD (gN 4) (o2 (oA (consA (gv 0) (consA (gc (.int 21)) nilA)) m__law_mix) (o2 (oA (consA (gv 3) nilA) lenD) (gc (.int 1)) addA) modD))
  (seqD (retF (compG 1 [0, 2, 3, 4] (rng1I (consA (gv 1) nilA)) (gN 0) noT (o2 (o2 (slAG (gv 3) noneO (someO (gv 4))) (o2 (gv 2) (o2 (o2 (o2 (gc (.int 3)) (gv 0) mulA) (gv 1) addA) (gc (.int 36)) modD) ixD) addA) (slAG (gv 3) (someO (gv 4)) noneO) addA)))
  nilD))))
noncomputable def N__law_pool : List Str := ["_law_cell", "_law_many", "_law_signs", "_law_base", "_law_at"]
noncomputable def m__law_pool : List D → Option D := mkN 2 N__law_pool G__law_pool
noncomputable def G__law_one_value : GS := (seqD (setD (gN 3) (o2 (oA (consA (gv 0) (consA (gv 1) nilA)) m__law_mix) (gc (.int 5)) modD))
  (seqD (ifD (ob (o2 (gv 3) (gc (.int 0)) eqD))
  (seqD (retD (gc .non))
  nilD)
  nilD)
  (seqD (ifD (ob (o2 (gv 3) (gc (.int 3)) ltD))
  (seqD (retD (tupG (consA (gc (.str "at")) (consA (o2 (oA (consA (gv 0) (consA (o2 (gc (.int 40)) (gv 1) addA) nilA)) m__law_mix) (gv 2) modD) nilA))))
  nilD)
  nilD)
  (seqD (ifD (ob (o2 (gv 3) (gc (.int 3)) eqD))
  (seqD (retD (o2 (o2 (oA (consA (gv 0) (consA (o2 (gc (.int 60)) (gv 1) addA) nilA)) m__law_mix) (gc (.int 260)) modD) (gc (.int 130)) subD))
  nilD)
  nilD)
  (seqD (retD (o2 (o2 (o2 (o2 (o2 (o2 (gv 0) (gc (.int 1)) addA) (o2 (gv 1) (gc (.int 3)) addA) mulA) (o2 (gc (.int 982451653)) (gc (.int 7)) powD) mulW) (o2 (o2 (gc (.int 2)) (o2 (gc (.int 10)) (gc (.int 60)) powD) mulA) (gc (.int 1)) subD) modD) (gc (.int 1)) addA) (o2 (gc (.int 10)) (gc (.int 60)) powD) subD))
  nilD)))))
noncomputable def N__law_one_value : List Str := ["_law_cell", "_law_k", "_law_many", "_law_way"]
noncomputable def m__law_one_value : List D → Option D := mkF 3 N__law_one_value G__law_one_value
noncomputable def G__law_drawn_part : GS := (seqD (setD (gN 3) (o2 (oA (consA (gv 0) (consA (gc (.int 1)) nilA)) m__law_mix) (gc (.int 5)) modD))
  (seqD (setD (gN 4) (o2 (lstG (consA (gc (.int 0)) (consA (gc (.int 1)) (consA (gc (.int 2)) (consA (gc (.int 3)) (consA (gc (.int 2)) (consA (gc (.int 1)) (consA (gc (.int 4)) (consA (gc (.int 12)) nilA))))))))) (o2 (oA (consA (gv 0) (consA (gc (.int 2)) nilA)) m__law_mix) (gc (.int 8)) modD) ixD))
  (seqD (ifD (ob (o2 (gv 3) (gc (.int 0)) eqD))
  (seqD (setD (gN 5) (gc (.str "abcdefghijklmnopqrstuvwxyz0123456789 ")))
  (seqD (retD (tupG (consA (gc (.str "text")) (consA (joinG (gc (.str "")) (consA (compG 1 [0, 5] (rng1I (consA (o2 (oA (consA (gv 0) (consA (gc (.int 3)) nilA)) m__law_mix) (gc (.int 21)) modD) nilA)) (gN 0) noT (o2 (gv 2) (o2 (oA (consA (gv 1) (consA (o2 (gc (.int 80)) (gv 0) addA) nilA)) m__law_mix) (gc (.int 37)) modD) ixD)) nilA)) nilA))))
  nilD))
  nilD)
  (seqD (setD (gN 6) (compG 1 [0, 2] (rng1I (consA (gv 4) nilA)) (gN 0) noT (oA (consA (gv 1) (consA (o2 (gc (.int 4)) (gv 0) addA) (consA (gv 2) nilA))) m__law_one_value)))
  (seqD (ifD (ob (o2 (gv 3) (gc (.int 1)) eqD))
  (seqD (retD (tupG (consA (gc (.str "row")) (consA (oA (consA (gv 6) nilA) tupOfD) nilA))))
  nilD)
  nilD)
  (seqD (setD (gN 7) (o2 (oA (consA (gv 0) (consA (gc (.int 30)) nilA)) m__law_mix) (gc (.int 12)) modD))
  (seqD (setD (gN 8) (oA (consA (compG 1 [1, 6, 7] (rng1I (consA (gv 4) nilA)) (gN 0) noT (tupG (consA (o2 (gv 1) (o2 (o2 (gv 3) (gv 0) addA) (gc (.int 12)) modD) ixD) (consA (o2 (gv 2) (gv 0) ixD) nilA)))) nilA) tupOfD))
  (seqD (ifD (ob (o2 (gv 3) (gc (.int 2)) eqD))
  (seqD (retD (tupG (consA (gc (.str "table")) (consA (gv 8) nilA))))
  nilD)
  nilD)
  (seqD (retD (tupG (consA (gc (.str "record")) (consA (o2 (gv 1) (o2 (oA (consA (gv 0) (consA (gc (.int 31)) nilA)) m__law_mix) (gc (.int 12)) modD) ixD) (consA (gv 8) nilA)))))
  nilD)))))))))
noncomputable def N__law_drawn_part : List Str := ["_law_cell", "_law_names", "_law_many", "_law_kind", "_law_size", "_law_signs", "_law_some", "_law_turn", "_law_pairs"]
noncomputable def m__law_drawn_part : List D → Option D := mkF 3 N__law_drawn_part G__law_drawn_part
noncomputable def G__law_built : GS := (seqD (setD (gN 3) (o2 (gc (.int 1)) (o2 (oA (consA (oA (consA (gv 0) (consA (gv 1) nilA)) m__law_cell_at) (consA (gc (.int 3)) nilA)) m__law_mix) (gv 2) modD) addA))
  (seqD (setD (gN 4) (oA (consA (oA (consA (gv 0) (consA (o2 (gv 1) (gc (.int 1)) addA) nilA)) m__law_cell_at) (consA (gc (.int 12)) nilA)) m__law_pool))
  (seqD (retD (oA (consA (compG 1 [0, 1, 3, 4] (rng1I (consA (gv 3) nilA)) (gN 0) noT (oA (consA (oA (consA (gv 1) (consA (o2 (o2 (gv 2) (gc (.int 2)) addA) (gv 0) addA) nilA)) m__law_cell_at) (consA (gv 4) (consA (gv 3) nilA))) m__law_drawn_part)) nilA) tupOfD))
  nilD)))
noncomputable def N__law_built : List Str := ["_law_script", "_law_start", "_law_most", "_law_many", "_law_names"]
noncomputable def m__law_built : List D → Option D := mkF 3 N__law_built G__law_built
noncomputable def G__law_links : GS := (seqD (ifD (ob (o2 (o2 (gv 0) (gc (.int 0)) ixD) (gc (.str "text")) eqD))
  (seqD (retF (lstG nilA))
  nilD)
  nilD)
  (seqD (setD (gN 1) (o2 (gv 0) (unG negD (gc (.int 1))) ixD))
  (seqD (ifD (ob (o2 (o2 (gv 0) (gc (.int 0)) ixD) (gc (.str "row")) neD))
  (seqD (setD (gN 1) (compG 1 [] (tupI (o2 (gv 0) (unG negD (gc (.int 1))) ixD)) (gN 0) noT (o2 (gv 0) (gc (.int 1)) ixD)))
  nilD)
  nilD)
  (seqD (retF (compG 1 [] (anyI (gv 1)) (gN 0) (ob (isiG isTup (gv 0))) (o2 (gv 0) (gc (.int 1)) ixD)))
  nilD))))
noncomputable def N__law_links : List Str := ["_law_part", "_law_some"]
noncomputable def m__law_links : List D → Option D := mkN 1 N__law_links G__law_links
structure GoodL (W : D) (n : Nat) : Prop where
  few : n ≤ 60
  ex : ∃ Wb, W = .tup Wb ∧ Wb.length = n ∧ ∀ i, i < n → ∃ js : List Nat, m__law_links [Wb.getD i .non] = some (.lst (nd js)) ∧ js.length ≤ 20 ∧ ∀ j ∈ js, j < n
noncomputable def adjL (W : D) (i : Nat) : List Nat := match W with
  | .tup Wb => (match m__law_links [Wb.getD i .non] with
    | some (.lst vs) => nn vs
    | _ => [])
  | _ => []
noncomputable def AskL (W : D) (k : Int) (od : List D) : Prop := ∃ (n : Nat) (o : List Nat), GoodL W n ∧ 0 ≤ k ∧ k < n ∧ od = nd o ∧ o.Nodup ∧ ∀ x ∈ o, x < n
open Classical in
noncomputable def mR__law_come (q : Nat) : List D → Option (List D)
  | [W, .int k, .lst od] => if AskL W k od then (vis (adjL W) [] q k.toNat (nn od)).map nd else none
  | _ => none
noncomputable def m__law_come : List D → Option (List D) := mR__law_come 62
noncomputable def GR__law_come (m__law_come : List D → Option (List D)) : GS := (seqD (ifD (borB (ob (o2 (gv 1) (gv 2) (inSeqD true))))
  (seqD (exprX (appL 2 (gv 1)))
  (seqD (forG (lstI (oA (consA (o2 (gv 0) (gv 1) ixD) nilA) m__law_links)) (gN 3)
  (seqD (callM 2 (consA (gv 0) (consA (gv 3) nilA)) m__law_come)
  nilD))
  nilD))
  nilD)
  nilD)
noncomputable def N__law_come : List Str := ["_law_web", "_law_at", "_law_found", "_law_other"]
noncomputable section
noncomputable def G__law_led : GS := (seqD (ifD (ob (isiG isTup (gv 0)))
  (seqD (retD (tupG (consA (gc (.str "at")) (consA (o2 (gv 1) (o2 (gv 0) (gc (.int 1)) ixD) dgetD) nilA))))
  nilD)
  nilD)
  (seqD (retD (gv 0))
  nilD))
noncomputable def N__law_led : List Str := ["_law_value", "_law_numbers"]
noncomputable def m__law_led : List D → Option D := mkF 2 N__law_led G__law_led
noncomputable def G__law_drawn : GS := (seqD (ownD 2 (lstG nilA))
  (seqD (callM 2 (consA (gv 0) (consA (gv 1) nilA)) m__law_come)
  (seqD (frzS 2 (ownD 3 (gc (.dct (.inl []) []))))
  (seqD (forG (lstI (gv 2)) (gN 4)
  (seqD (asgX (pureX (borE (oA (consA (gv 3) nilA) lenKD))) (putAt 3 (gv 4)))
  nilD))
  (seqD (frzS 3 (ownD 5 (lstG nilA)))
  (seqD (forG (lstI (gv 2)) (gN 4)
  (seqD (setD (gN 6) (o2 (gv 0) (gv 4) ixD))
  (seqD (ifD (ob (o2 (o2 (gv 6) (gc (.int 0)) ixD) (gc (.str "row")) eqD))
  (seqD (setD (gN 6) (tupG (consA (gc (.str "row")) (consA (oA (consA (compG 1 [3] (tupI (o2 (gv 6) (gc (.int 1)) ixD)) (gN 0) noT (oA (consA (gv 0) (consA (gv 1) nilA)) m__law_led)) nilA) tupOfD) nilA))))
  nilD)
  (seqD (ifD (ob (o2 (o2 (gv 6) (gc (.int 0)) ixD) (gc (.str "text")) neD))
  (seqD (setD (gN 7) (compG 2 [3] (tupI (o2 (gv 6) (unG negD (gc (.int 1))) ixD)) (tup2 0 1) noT (tupG (consA (gv 0) (consA (oA (consA (gv 1) (consA (gv 2) nilA)) m__law_led) nilA)))))
  (seqD (setD (gN 6) (o2 (slAG (gv 6) noneO (someO (unG negD (gc (.int 1))))) (tupG (consA (oA (consA (gv 7) nilA) tupOfD) nilA)) addA))
  nilD))
  nilD)
  nilD))
  (seqD (exprX (appX 5 (gv 6)))
  nilD))))
  (seqD (retD (borA (oA (consA (gv 5) nilA) tupOfD)))
  nilD)))))))
noncomputable def N__law_drawn : List Str := ["_law_web", "_law_at", "_law_found", "_law_numbers", "_law_k", "_law_parts", "_law_part", "_law_pairs"]
noncomputable def m__law_drawn : List D → Option D := mkF 2 N__law_drawn G__law_drawn
noncomputable def G__law_some_of : GS := (seqD (ifD (ob (o2 (o2 (gv 0) (gc (.int 0)) ixD) (gc (.str "text")) eqD))
  (seqD (retF (lstG nilA))
  nilD)
  nilD)
  (seqD (ifD (ob (o2 (o2 (gv 0) (gc (.int 0)) ixD) (gc (.str "row")) eqD))
  (seqD (retF (oA (consA (o2 (gv 0) (gc (.int 1)) ixD) nilA) lstOfD))
  nilD)
  nilD)
  (seqD (retF (compG 1 [] (tupI (o2 (gv 0) (unG negD (gc (.int 1))) ixD)) (gN 0) noT (o2 (gv 0) (gc (.int 1)) ixD)))
  nilD)))
noncomputable def N__law_some_of : List Str := ["_law_part"]
noncomputable def m__law_some_of : List D → Option D := mkN 1 N__law_some_of G__law_some_of
noncomputable def G__law_with : GS := (seqD (ifD (ob (o2 (o2 (gv 0) (gc (.int 0)) ixD) (gc (.str "row")) eqD))
  (seqD (retD (tupG (consA (gc (.str "row")) (consA (oA (consA (gv 1) nilA) tupOfD) nilA))))
  nilD)
  nilD)
  (seqD (ifD (ob (o2 (o2 (gv 0) (gc (.int 0)) ixD) (gc (.str "text")) eqD))
  (seqD (retD (gv 0))
  nilD)
  nilD)
  (seqD (setD (gN 2) (compG 2 [] (zipMI (consA (o2 (gv 0) (unG negD (gc (.int 1))) ixD) (consA (gv 1) nilA))) (tup2 0 1) noT (tupG (consA (o2 (gv 0) (gc (.int 0)) ixD) (consA (gv 1) nilA)))))
  (seqD (retD (o2 (slAG (gv 0) noneO (someO (unG negD (gc (.int 1))))) (tupG (consA (oA (consA (gv 2) nilA) tupOfD) nilA)) addA))
  nilD))))
noncomputable def N__law_with : List Str := ["_law_part", "_law_some", "_law_pairs"]
noncomputable def m__law_with : List D → Option D := mkF 2 N__law_with G__law_with
noncomputable def G__law_renumbered : GS := (seqD (ownD 2 (lstG (consA (gc (.int 0)) nilA)))
  (seqD (forG (rng2I (consA (gc (.int 1)) (consA (oA (consA (gv 0) nilA) lenD) nilA))) (gN 3)
  (seqD (exprX (insX 2 (o2 (gc (.int 1)) (o2 (oA (consA (gv 1) (consA (o2 (gc (.int 100)) (gv 3) addA) nilA)) m__law_mix) (borE (oA (consA (gv 2) nilA) lenD)) modD) addA) (gv 3)))
  nilD))
  (seqD (frzS 2 (ownD 4 (gc (.dct (.inl []) []))))
  (seqD (forG (lstI (gv 2)) (gN 3)
  (seqD (asgX (pureX (borE (oA (consA (gv 4) nilA) lenKD))) (putAt 4 (gv 3)))
  nilD))
  (seqD (frzS 4 (ownD 5 (lstG nilA)))
  (seqD (forG (lstI (gv 2)) (gN 3)
  (seqD (exprX (appX 5 (oA (consA (o2 (gv 0) (gv 3) ixD) (consA (compG 1 [4] (lstI (oA (consA (o2 (gv 0) (gv 3) ixD) nilA) m__law_some_of)) (gN 0) noT (oA (consA (gv 0) (consA (gv 1) nilA)) m__law_led)) nilA)) m__law_with)))
  nilD))
  (seqD (retD (borA (oA (consA (gv 5) nilA) tupOfD)))
  nilD)))))))
noncomputable def N__law_renumbered : List Str := ["_law_web", "_law_cell", "_law_order", "_law_k", "_law_numbers", "_law_parts"]
noncomputable def m__law_renumbered : List D → Option D := mkF 2 N__law_renumbered G__law_renumbered
noncomputable def G__law_due : GS := (seqD (setD (gN 1) (gc (.int 0)))
  (seqD (forG (rng1I (consA (oA (consA (gv 0) nilA) lenD) nilA)) (gN 2)
  (seqD (setD (gN 1) (o2 (gv 1) (o2 (o2 (gv 0) (gv 2) ixD) (o2 (gv 2) (gc (.int 1)) addA) mulA) addA))
  nilD))
  (seqD (retD (o2 (gv 1) (gc (.int 65521)) modD))
  nilD)))
noncomputable def N__law_due : List Str := ["_law_some", "_law_total", "_law_k"]
noncomputable def m__law_due : List D → Option D := mkF 1 N__law_due G__law_due
noncomputable def G__law_is : GS := (seqD (retD (andG (isiG isInt (gv 0)) (andG (notG (isiG isBool (gv 0))) (o2 (gv 0) (gv 1) eqD))))
  nilD)
noncomputable def N__law_is : List Str := ["_law_found", "_law_due_here"]
noncomputable def m__law_is : List D → Option D := mkF 2 N__law_is G__law_is
noncomputable def G_law : GS := (seqD (setD (gN 1) (oA (consA (gv 0) (consA (gc (.int 1)) (consA (o2 (lstG (consA (gc (.int 16)) (consA (gc (.int 60)) nilA))) (oA (consA (o2 (o2 (oA (consA (gv 0) (consA (gc (.int 0)) nilA)) m__law_cell_at) (gc (.int 8)) modD) (gc (.int 5)) eqD) nilA) intOfD) ixD) nilA))) m__law_built))
  (seqD (setD (gN 2) (oA (consA (gv 0) (consA (gc (.int 40)) nilA)) m__law_cell_at))
  (seqD (setD (gN 3) (oA (consA (oA (consA (gv 1) nilA) m_pack) nilA) m__law_due))
  (seqD (forG (lstI (lstG (consA (gv 1) (consA (oA (consA (gv 1) (consA (gv 2) nilA)) m__law_renumbered) (consA (oA (consA (gv 1) (consA (gc (.int 0)) nilA)) m__law_drawn) (consA (gv 1) nilA)))))) (gN 4)
  (seqD (ifD (tNotG (ob (oA (consA (oA (consA (gv 4) nilA) m_mark) (consA (gv 3) nilA)) m__law_is)))
  (seqD (retD (gc (.bl false)))
  nilD)
  nilD)
  nilD))
  (seqD (setD (gN 5) (oA (consA (gv 1) (consA (o2 (oA (consA (gv 2) (consA (gc (.int 3)) nilA)) m__law_mix) (oA (consA (gv 1) nilA) lenD) modD) nilA)) m__law_drawn))
  (seqD (retD (oA (consA (oA (consA (gv 5) nilA) m_mark) (consA (oA (consA (oA (consA (gv 5) nilA) m_pack) nilA) m__law_due) nilA)) m__law_is))
  nilD))))))
noncomputable def N_law : List Str := ["_law_script", "_law_web", "_law_cell", "_law_due_here", "_law_one", "_law_other"]
noncomputable def m_law : List D → Option D := mkF 1 N_law G_law
end
end Km
namespace Km
open PySem DL W K22
theorem mR_at {W : D} {n : Nat} (hW : GoodL W n) (o : List Nat) (q j : Nat) (hj : j < n) (ho : o.Nodup) (hon : ∀ x ∈ o, x < n) : mR__law_come q [W, .int (j : Int), .lst (nd o)] = (vis (adjL W) [] q j o).map nd := by
  unfold mR__law_come
  simp only []
  rw [if_pos ⟨n, o, hW, by omega, by omega, rfl, ho, hon⟩, nn_nd, Int.toNat_natCast]
theorem adj_of {W : D} {n : Nat} (hW : GoodL W n) {i : Nat} (hi : i < n) : (∃ d, ixD W (.int (i : Int)) = some d ∧ m__law_links [d] = some (.lst (nd (adjL W i)))) ∧ (adjL W i).length ≤ 20 ∧ ∀ j ∈ adjL W i, j < n := by
  obtain ⟨Wb, rfl, hl, h⟩ := hW.ex
  obtain ⟨js, e, h1, h2⟩ := h i hi
  have ea : adjL (.tup Wb) i = js := by
    unfold adjL
    simp only []
    rw [e]
    exact nn_nd js
  rw [ea]
  refine ⟨⟨Wb.getD i .non, ?_, e⟩, h1, h2⟩
  show atI Wb (i : Int) = _
  rw [atI_in (by omega) (by omega) .non, Int.toNat_natCast]
theorem adj_lt {W : D} {n : Nat} (hW : GoodL W n) : ∀ i, i < n → ∀ j ∈ adjL W i, j < n := fun i hi => (adj_of hW hi).2.2
noncomputable def CB (f : List D → Option (List D)) : GS := (seqD (callM 2 (consA (gv 0) (consA (gv 3) nilA)) f)
  nilD)
theorem for_come {W : D} {n : Nat} (hW : GoodL W n) (K : Sl) (p q : Nat) : ∀ (js : List Nat) (o r : List Nat) (s3 : Sl), (∀ j ∈ js, j < n) → js.foldlM (fun o j => vis (adjL W) [] q j o) o = some r → o.Nodup → (∀ x ∈ o, x < n) →
    ∃ s3', forD (gN 3) (CB (mR__law_come q)) (nd js) [.sh W, K, .ow (lent p (nd o)), s3] = some (.nx [.sh W, K, .ow (lent p (nd r)), s3'])
  | [], o, r, s3, _, e, _, _ => by cases e; exact ⟨s3, rfl⟩
  | j :: js, o, r, s3, hv, e, ho, hon => by
    rw [List.foldlM_cons] at e
    cases e1 : vis (adjL W) [] q j o with
    | none => rw [e1] at e; cases e
    | some o1 =>
      rw [e1] at e
      have hj := hv j List.mem_cons_self
      obtain ⟨a, b⟩ := vis_good (adj_lt hW) q j o o1 e1 hj ho hon
      obtain ⟨s', h⟩ := for_come hW K p q js o1 r (.sh (.int (j : Int))) (fun i hi => hv i (List.mem_cons_of_mem _ hi)) e a b
      refine ⟨s', ?_⟩
      have h1 : CB (mR__law_come q) [.sh W, K, .ow (lent p (nd o)), .sh (.int (j : Int))] = some (.nx [.sh W, K, .ow (lent p (nd o1)), .sh (.int (j : Int))]) := by
        refine seq_to (δ' := [.sh W, K, .ow (lent p (nd o1)), .sh (.int (j : Int))]) ?_ rfl
        unfold callM
        show Option.map _ (mR__law_come q [W, .int (j : Int), .lst (nd o)]) = _
        rw [mR_at hW o q j hj ho hon, e1]
        rfl
      show forD (gN 3) (CB (mR__law_come q)) (.int (j : Int) :: nd js) _ = _
      unfold forD
      show (match CB (mR__law_come q) [.sh W, K, .ow (lent p (nd o)), .sh (.int (j : Int))] with | some (.nx δ') => forD (gN 3) (CB (mR__law_come q)) (nd js) δ' | some (.ct δ') => forD (gN 3) (CB (mR__law_come q)) (nd js) δ' | some (.bk δ') => some (.nx δ') | r => r) = _
      rw [h1]
      exact h
theorem hfM__law_come (q : Nat) : ∀ ds l l', mR__law_come (q + 1) (ds ++ [.lst l]) = some l' → (ds ++ [D.lst l]).length = 3 ∧ ∀ p, (false = true ∧ GR__law_come (mR__law_come q) (dStartM N__law_come ds p l) = some (.rf (lent p l'))) ∨ (false = false ∧ ∃ δ', GR__law_come (mR__law_come q) (dStartM N__law_come ds p l) = some (.nx δ') ∧ δ'[ds.length]? = some (.ow (lent p l'))) := by
  intro ds l l' h
  have zs : (1000 : Nat) ≤ sizeLine := by decide
  obtain ⟨W, k, od, he⟩ : ∃ W k od, ds ++ [D.lst l] = [W, .int k, .lst od] := by
    unfold mR__law_come at h
    split at h
    · rename_i W k od e; exact ⟨W, k, od, e⟩
    · cases h
  have he2 : ds = [W, .int k] ∧ l = od := by
    have : ds ++ [D.lst l] = [W, .int k] ++ [.lst od] := he
    have := List.append_inj' this rfl
    refine ⟨this.1, ?_⟩
    injection this.2 with z
    injection z
  obtain ⟨rfl, rfl⟩ := he2
  refine ⟨rfl, fun p => .inr ⟨rfl, ?_⟩⟩
  have h : mR__law_come (q + 1) [W, .int k, .lst l] = some l' := h
  have ha : AskL W k l := Classical.byContradiction fun ha => by
    unfold mR__law_come at h
    simp only [] at h
    rw [if_neg ha] at h
    cases h
  obtain ⟨n, o, hW, k0, k1, rfl, ho, hon⟩ := ha
  obtain ⟨k, rfl⟩ : ∃ k' : Nat, k = (k' : Int) := ⟨k.toNat, by omega⟩
  have hk : k < n := by omega
  rw [mR_at hW o (q + 1) k hk ho hon] at h
  cases e1 : vis (adjL W) [] (q + 1) k o with
  | none => rw [e1] at h; cases h
  | some r =>
    rw [e1] at h
    cases h
    have hlo : o.length ≤ 60 := by
      have := sub_len ho (m := List.range n) fun y hy => List.mem_range.mpr (hon y hy)
      rw [List.length_range] at this
      have := hW.few
      omega
    have ht : borB (ob (o2 (gv 1) (gv 2) (inSeqD true))) [.sh W, .sh (.int (k : Int)), .ow (lent p (nd o)), .un] = some (decide (k ∉ o)) := by
      show ob (o2 (gv 1) (gv 2) (inSeqD true)) [.sh W, .sh (.int (k : Int)), .sh (.lst (nd o)), .un] = _
      unfold ob
      rw [o2_of (x := .int (k : Int)) (y := .lst (nd o)) rfl rfl, in_nd]
      rfl
    rw [vis] at e1
    by_cases hc : k ∈ o
    · rw [if_pos (.inl hc)] at e1
      cases e1
      refine ⟨[.sh W, .sh (.int (k : Int)), .ow (lent p (nd o)), .un], seq_to (δ' := [.sh W, .sh (.int (k : Int)), .ow (lent p (nd o)), .un]) ?_ rfl, rfl⟩
      rw [decide_eq_false (by simpa using hc)] at ht
      show ifD _ _ _ [.sh W, .sh (.int (k : Int)), .ow (lent p (nd o)), .un] = _
      rw [if_f ht]
      rfl
    · rw [if_neg (fun z => z.elim hc (fun z => by cases z))] at e1
      have hnd : (o ++ [k]).Nodup := List.nodup_append.mpr ⟨ho, by simp, fun a ha b hb e => by
        rw [List.mem_singleton.mp hb] at e; exact hc (e ▸ ha)⟩
      have hin : ∀ x ∈ o ++ [k], x < n := fun x hx => by
        rcases List.mem_append.mp hx with z | z
        · exact hon x z
        · rw [List.mem_singleton.mp z]; exact hk
      obtain ⟨⟨d, hd1, hd2⟩, hvl, hvs⟩ := adj_of hW hk
      obtain ⟨s3, hf⟩ := for_come hW (.sh (.int (k : Int))) p q (adjL W k) (o ++ [k]) r .un hvs e1 hnd hin
      refine ⟨[.sh W, .sh (.int (k : Int)), .ow (lent p (nd r)), s3], seq_to (δ' := [.sh W, .sh (.int (k : Int)), .ow (lent p (nd r)), s3]) ?_ rfl, rfl⟩
      rw [decide_eq_true hc] at ht
      show ifD _ _ _ [.sh W, .sh (.int (k : Int)), .ow (lent p (nd o)), .un] = _
      rw [if_t ht]
      refine seq_to (δ' := [.sh W, .sh (.int (k : Int)), .ow (lent p (nd (o ++ [k]))), .un]) ?_ (seq_to (for_of (items := nd (adjL W k)) ?_ hf) rfl)
      · unfold exprX appL
        show Option.map _ (if (nd o).length < sizeLine then some (D.non, ([.sh W, .sh (.int (k : Int)), .ow (.tup [.int (p : Int), .lst (nd o ++ [.int (k : Int)])]), .un] : Ds)) else none) = _
        rw [if_pos (by rw [nd_len]; omega)]
        rw [nd_app]
        rfl
      · show Option.bind (oA (consA (o2 (gv 0) (gv 1) ixD) nilA) m__law_links _) asLst = _
        rw [oA_of (ds := [d]) (cons_of (by rw [o2_of (x := W) (y := .int (k : Int)) rfl rfl]; exact hd1) rfl), hd2]
        rfl
theorem zero__law_come (ds : List D) : mR__law_come 0 ds = none := by
  unfold mR__law_come
  split
  · split <;> rfl
  · rfl
end Km
namespace Km
open PySem DL W K22
open Bw (bs sg cnt kn its tx fold Vb Gp Gq)
noncomputable def pd (ks : List KeyD) : D := .dct (.inl ks) (nd (List.range ks.length))
noncomputable def ix {α : Type} [DecidableEq α] : List α → α → Nat
  | [], _ => 0
  | b :: l, a => if b = a then 0 else ix l a + 1
theorem ix_lt {α : Type} [DecidableEq α] : ∀ {l : List α} {a : α}, a ∈ l → ix l a < l.length
  | [], _, h => by cases h
  | b :: l, a, h => by
    unfold ix
    rw [List.length_cons]
    by_cases e : b = a
    · rw [if_pos e]; omega
    · have := ix_lt (l := l) (a := a) ((List.mem_cons.mp h).resolve_left fun z => e z.symm)
      rw [if_neg e]; omega
theorem ix_at {α : Type} [DecidableEq α] : ∀ {l : List α} {a : α}, a ∈ l → l[ix l a]? = some a
  | [], _, h => by cases h
  | b :: l, a, h => by
    unfold ix
    by_cases e : b = a
    · rw [if_pos e, e]; rfl
    · rw [if_neg e, List.getElem?_cons_succ]
      exact ix_at ((List.mem_cons.mp h).resolve_left fun z => e z.symm)
theorem getK_pos : ∀ (ks : List KeyD) (s : Nat) (k : KeyD), k ∈ ks → getK ks (nd (List.range' s ks.length)) k = some (.int ((s + ix ks k : Nat) : Int))
  | [], s, k, h => by cases h
  | a :: ks, s, k, h => by
    rw [List.length_cons, List.range'_succ]
    show (if a = k then some (D.int (s : Int)) else getK ks (nd (List.range' (s + 1) ks.length)) k) = _
    unfold ix
    by_cases e : a = k
    · rw [if_pos e, if_pos e]
      rfl
    · have hk : k ∈ ks := (List.mem_cons.mp h).resolve_left fun z => e z.symm
      rw [if_neg e, if_neg e, getK_pos ks (s + 1) k hk, show s + 1 + ix ks k = s + (ix ks k + 1) by omega]
theorem get_pd {ks : List KeyD} {k : KeyD} (h : k ∈ ks) : getK ks (nd (List.range ks.length)) k = some (.int (ix ks k : Int)) := by
  rw [List.range_eq_range', getK_pos ks 0 k h, Nat.zero_add]
theorem has_iff (ks : List KeyD) (k : KeyD) : hasK ks k = true ↔ k ∈ ks := by
  unfold hasK
  rw [List.any_eq_true]
  constructor
  · rintro ⟨x, hx, e⟩
    rw [← of_decide_eq_true e]; exact hx
  · intro h
    exact ⟨k, h, decide_eq_true rfl⟩
theorem has_f {ks : List KeyD} {k : KeyD} (h : k ∉ ks) : hasK ks k = false := by
  cases e : hasK ks k with
  | false => rfl
  | true => exact absurd ((has_iff ks k).mp e) h
theorem put_pd {ks : List KeyD} {k : KeyD} (h : k ∉ ks) : (.dct (.inl (putKs ks k)) (putDs ks (nd (List.range ks.length)) k (.int (ks.length : Int))) : D) = pd (ks ++ [k]) := by
  unfold putKs putDs pd
  rw [has_f h, if_neg (by simp), if_neg (by simp), List.length_append, List.length_singleton, List.range_succ, nd_app]
  rfl
theorem idx_map {α β : Type} [DecidableEq α] [DecidableEq β] (f : α → β) (a : α) : ∀ l : List α, (∀ b ∈ l, f b = f a → b = a) → ix (l.map f) (f a) = ix l a
  | [], _ => rfl
  | b :: l, h => by
    rw [List.map_cons]
    unfold ix
    by_cases e : b = a
    · rw [if_pos e, if_pos (by rw [e])]
    · rw [if_neg e, if_neg (fun z => e (h b List.mem_cons_self z)), idx_map f a l fun c hc => h c (List.mem_cons_of_mem _ hc)]
noncomputable def kb (B : List Nat) : List KeyD := B.map fun (k : Nat) => (Sum.inl (k : Int) : KeyD)
noncomputable def kt (T : List Str) : List KeyD := T.map fun s => (Sum.inr s : KeyD)
theorem kb_mem (B : List Nat) (j : Nat) : (Sum.inl (j : Int) : KeyD) ∈ kb B ↔ j ∈ B := by
  unfold kb
  rw [List.mem_map]
  constructor
  · rintro ⟨k, hk, e⟩
    have : (k : Int) = (j : Int) := by injection e
    have : k = j := by omega
    rw [← this]; exact hk
  · exact fun h => ⟨j, h, rfl⟩
theorem kt_mem (T : List Str) (s : Str) : (Sum.inr s : KeyD) ∈ kt T ↔ s ∈ T := by
  unfold kt
  rw [List.mem_map]
  constructor
  · rintro ⟨k, hk, e⟩
    have : k = s := by injection e
    rw [← this]; exact hk
  · exact fun h => ⟨s, h, rfl⟩
theorem kb_idx (B : List Nat) (j : Nat) : ix (kb B) (Sum.inl (j : Int) : KeyD) = ix B j := idx_map (fun (k : Nat) => (Sum.inl (k : Int) : KeyD)) j B fun b _ e => by
  have : (b : Int) = (j : Int) := by injection e
  omega
theorem kt_idx (T : List Str) (s : Str) : ix (kt T) (Sum.inr s : KeyD) = ix T s := idx_map (fun s => (Sum.inr s : KeyD)) s T fun b _ e => by injection e
theorem kb_len (B : List Nat) : (kb B).length = B.length := by unfold kb; rw [List.length_map]
theorem kt_len (T : List Str) : (kt T).length = T.length := by unfold kt; rw [List.length_map]
structure Wb (ps : List Pt) : Prop where
  len : 0 < ps.length ∧ ps.length ≤ 60
  it : ∀ p ∈ ps, Gq p
  lk : ∀ p ∈ ps, ∀ v ∈ p.vals, Bw.Lk ps.length v
noncomputable def It (n : Nat) (d : D) : Prop := (∃ s : Str, d = .str s ∧ s.length ≤ 20) ∨ d = .non ∨ (∃ z : Int, d = .int z ∧ z.natAbs < 2 ^ 250) ∨ ∃ j : Nat, d = .tup [.str "at", .int (j : Int)] ∧ j < n
theorem It.of {n : Nat} {v : D} (h : Vb v) (hl : Bw.Lk n v) : It n v := by
  cases h with
  | non => exact .inr (.inl rfl)
  | lk j _ => exact .inr (.inr (.inr ⟨j, rfl, hl j rfl⟩))
  | int z hz => exact .inr (.inr (.inl ⟨z, rfl, hz⟩))
noncomputable def hb (ps : List Pt) (B : List Nat) (T : List Str) : D → List Int
  | .str s => if s ∈ T then bs (2 * (T.length - 1 - ix T s)) else bs (2 * s.length + 1) ++ sg s
  | .tup [_, .int j] => if j.toNat ∈ B then bs (4 * (B.length - 1 - ix B j.toNat) + 2) else bs (4 * (4 * cnt (ps.getD j.toNat (.row [])) + kn (ps.getD j.toNat (.row []))) + 3) ++ tx (ps.getD j.toNat (.row []))
  | .int z => bs (4 * fold z + 1)
  | _ => bs 0
theorem nb_ok (n : Nat) (h : n < 2 ^ 300) : m_number_bytes [.int (n : Int)] = some (.lst ((bs n).map .int)) := Bw.nb_ok n h
theorem sb_ok (s : Str) (h : s.length ≤ sizeLine) : m_sign_bytes [.str s] = some (.lst ((sg s).map .int)) := Bw.sb_ok s h
theorem pn_ok {p : Pt} (h : cnt p ≤ 20) : m_part_number [p.d] = some (.int ((4 * cnt p + kn p : Nat) : Int)) := Bw.pn_ok h
theorem tb_ok {p : Pt} (h : cnt p ≤ 20) : m_text_bytes [p.d] = some (.lst ((tx p).map .int)) := Bw.tb_ok h
theorem hi_ok {p : Pt} (h : Gp p) : m_held_items [p.d] = some (.lst (its p)) := Bw.hi_ok h
theorem folded_ok (z : Int) : m_folded [.int z] = some (.int (fold z : Int)) := Bw.folded_ok z
theorem len_pd (ks : List KeyD) : lenKD [pd ks] = some (.int (ks.length : Int)) := rfl
theorem in_told (T : List Str) (s : Str) : inDctD false (.str s) (pd (kt T)) = some (.bl (decide (s ∈ T))) := by
  show some (D.bl (xor false (hasK (kt T) (.inr s)))) = _
  rw [Bool.false_xor]
  by_cases h : s ∈ T
  · rw [(has_iff _ _).mpr ((kt_mem T s).mpr h), decide_eq_true h]
  · rw [has_f (fun z => h ((kt_mem T s).mp z)), decide_eq_false h]
theorem in_begun (B : List Nat) (j : Nat) : inDctD true (.int (j : Int)) (pd (kb B)) = some (.bl (decide (j ∉ B))) := by
  show some (D.bl (xor true (hasK (kb B) (.inl (j : Int))))) = _
  by_cases h : j ∈ B
  · rw [(has_iff _ _).mpr ((kb_mem B j).mpr h), decide_eq_false (by simpa using h)]; rfl
  · rw [has_f (fun z => h ((kb_mem B j).mp z)), decide_eq_true h]; rfl
theorem get_told {T : List Str} {s : Str} (h : s ∈ T) : dgetD (pd (kt T)) (.str s) = some (.int (ix T s : Int)) := by
  show getK (kt T) (nd (List.range (kt T).length)) (.inr s) = _
  rw [get_pd ((kt_mem T s).mpr h), kt_idx]
theorem get_begun {B : List Nat} {j : Nat} (h : j ∈ B) : dgetD (pd (kb B)) (.int (j : Int)) = some (.int (ix B j : Int)) := by
  show getK (kb B) (nd (List.range (kb B).length)) (.inl (j : Int)) = _
  rw [get_pd ((kb_mem B j).mpr h), kb_idx]
theorem name_ok (T : List Str) (hT : T.length ≤ 100000) (s : Str) (hs : s.length ≤ 20) (ps : List Pt) (B : List Nat) : m_name_bytes [.str s, pd (kt T)] = some (.lst ((hb ps B T (.str s)).map .int)) := by
  have z : (1000 : Nat) ≤ sizeLine := by decide
  have ht : ob (o2 (gv 0) (gv 1) (inDctD false)) [.sh (.str s), .sh (pd (kt T))] = some (decide (s ∈ T)) := by
    unfold ob
    rw [o2_of (x := .str s) (y := pd (kt T)) rfl rfl, in_told]
    rfl
  show _ = some (D.lst ((if s ∈ T then bs (2 * (T.length - 1 - ix T s)) else bs (2 * s.length + 1) ++ sg s).map .int))
  by_cases h : s ∈ T
  · rw [decide_eq_true h] at ht
    rw [if_pos h]
    have hlt := ix_lt h
    refine mkN_rf rfl (seq_rf ?_)
    show ifD _ _ _ [.sh (.str s), .sh (pd (kt T))] = _
    rw [if_t ht]
    refine seq_rf (retF_of ?_)
    rw [oA_of (ds := [.int ((2 * (T.length - 1 - ix T s) : Nat) : Int)]) (cons_of (by
      rw [o2_of (x := .int 2) (y := .int ((T.length : Int) - 1 - (ix T s : Int))) rfl (by
        rw [o2_of (x := .int ((T.length : Int) - 1)) (y := .int (ix T s : Int)) (by
          rw [o2_of (x := .int (T.length : Int)) (y := .int 1) (by rw [oA_of (ds := [pd (kt T)]) rfl, len_pd, kt_len]) rfl]
          rfl) (by rw [o2_of (x := pd (kt T)) (y := .str s) rfl rfl, get_told h])]
        rfl), Gw.mul_l _ _ (by decide)]
      congr 2
      omega) rfl)]
    exact nb_ok _ (Bw.small (by omega))
  · rw [decide_eq_false h] at ht
    rw [if_neg h]
    refine mkN_rf rfl (seq_to (δ' := [.sh (.str s), .sh (pd (kt T))]) (by
      show ifD _ _ _ [.sh (.str s), .sh (pd (kt T))] = _
      rw [if_f ht]; rfl) (seq_rf (retF_of ?_)))
    have h1 := Bw.bs_len (2 * s.length + 1) (Bw.small (by omega))
    have h2 := Bw.sg_len s
    rw [o2_of (x := .lst ((bs (2 * s.length + 1)).map .int)) (y := .lst ((sg s).map .int)) (by
      rw [oA_of (ds := [.int ((2 * s.length + 1 : Nat) : Int)]) (cons_of (by
        rw [o2_of (x := .int (2 * (s.length : Int))) (y := .int 1) (by
          rw [o2_of (x := .int 2) (y := .int (s.length : Int)) rfl (Bw.strlen_of rfl (by omega))]
          exact Gw.mul_l _ _ (by decide)) rfl]
        show some (D.int _) = _
        congr 2) rfl)]
      exact nb_ok _ (Bw.small (by omega))) (by rw [oA_of (ds := [.str s]) rfl]; exact sb_ok s (by omega))]
    exact Bw.cat_l _ _ (by omega)
theorem new_link (B : List Nat) (j : Nat) : m_is_new [.tup [.str "at", .int (j : Int)], pd (kb B)] = some (.bl (decide (j ∉ B))) := by
  refine mkF_rt rfl (seq_rt (ret_of ?_))
  unfold andG
  rw [show ob (isiG isTup (gv 0)) (dStart N_is_new [.tup [.str "at", .int (j : Int)], pd (kb B)]) = some true from rfl, Option.bind_some, if_pos rfl]
  rw [o2_of (x := .int (j : Int)) (y := pd (kb B)) rfl rfl]
  exact in_begun B j
theorem new_not {d : D} (h : isTup d = false) (B : List Nat) : m_is_new [d, pd (kb B)] = some (.bl false) := by
  refine mkF_rt rfl (seq_rt (ret_of ?_))
  unfold andG
  rw [show ob (isiG isTup (gv 0)) (dStart N_is_new [d, pd (kb B)]) = some (isTup d) from rfl, h]
  rfl
theorem head_non (X : D) : m_known_head [.non, X] = some (.int ((0 : Nat) : Int)) := by kernel_rfl
theorem head_int (z : Int) (X : D) : m_known_head [.int z, X] = some (.int ((4 * fold z + 1 : Nat) : Int)) := by
  refine mkF_rt rfl (seq_to (δ' := [.sh (.int z), .sh X]) (by rw [if_f (by rfl)]; rfl) (seq_to (δ' := [.sh (.int z), .sh X]) (by rw [if_f (by rfl)]; rfl) (seq_rt (ret_of ?_))))
  rw [o2_of (x := .int (4 * (fold z : Int))) (y := .int 1) (by
    rw [o2_of (x := .int 4) (y := .int (fold z : Int)) rfl (by rw [oA_of (ds := [.int z]) rfl, folded_ok])]
    exact Gw.mul_l _ _ (by decide)) rfl]
  show some (D.int _) = _
  congr 2
theorem head_link {B : List Nat} {j : Nat} (h : j ∈ B) : m_known_head [.tup [.str "at", .int (j : Int)], pd (kb B)] = some (.int ((4 * (B.length - 1 - ix B j) + 2 : Nat) : Int)) := by
  have hlt := ix_lt h
  refine mkF_rt rfl (seq_to (δ' := [.sh (.tup [.str "at", .int (j : Int)]), .sh (pd (kb B))]) (by rw [if_f (by rfl)]; rfl) (seq_rt ?_))
  rw [if_t (by rfl)]
  refine seq_rt (ret_of ?_)
  rw [o2_of (x := .int (4 * ((B.length : Int) - 1 - (ix B j : Int)))) (y := .int 2) (by
    rw [o2_of (x := .int 4) (y := .int ((B.length : Int) - 1 - (ix B j : Int))) rfl (by
      rw [o2_of (x := .int ((B.length : Int) - 1)) (y := .int (ix B j : Int)) (by
        rw [o2_of (x := .int (B.length : Int)) (y := .int 1) (by rw [oA_of (ds := [pd (kb B)]) rfl, len_pd, kb_len]) rfl]
        rfl) (by rw [o2_of (x := pd (kb B)) (y := .int (j : Int)) rfl rfl, get_begun h])]
      rfl)]
    exact Gw.mul_l _ _ (by decide)) rfl]
  show some (D.int _) = _
  congr 2
  omega
end Km
namespace Km
open PySem DL W K22
open Bw (bs sg cnt kn its tx fold Vb Gp Gq)
theorem web_at {ps : List Pt} {j : Nat} (hj : j < ps.length) : ixD (Bw.web ps) (.int (j : Int)) = some (ps.getD j (.row [])).d ∧ ps.getD j (.row []) ∈ ps := by
  constructor
  · show atI (ps.map Pt.d) (j : Int) = _
    rw [atI_in (by omega) (by rw [List.length_map]; omega) .non, Int.toNat_natCast]
    simp [List.getD_eq_getElem?_getD, hj]
  · rw [List.getD_eq_getElem?_getD, List.getElem?_eq_getElem hj]
    exact List.getElem_mem hj
theorem flats_ints (l : List Int) : flats (l.map D.int) = true := by
  unfold flats
  rw [List.all_map, List.all_eq_true]
  exact fun _ _ => rfl
theorem item_ok {ps : List Pt} (hw : Wb ps) {B : List Nat} {T : List Str} (hB : B.length ≤ 60) (hT : T.length ≤ 100000) {d : D} (hd : It ps.length d) : m_item_bytes [Bw.web ps, d, pd (kb B), pd (kt T)] = some (.lst ((hb ps B T d).map .int)) ∧ (hb ps B T d).length ≤ 400 := by
  have z : (1000 : Nat) ≤ sizeLine := by decide
  have one : ∀ n : Nat, n < 2 ^ 300 → (bs n).length ≤ 301 := Bw.bs_len
  rcases hd with ⟨s, rfl, hs⟩ | rfl | ⟨x, rfl, hx⟩ | ⟨j, rfl, hj⟩
  · refine ⟨mkN_rf rfl (seq_rf ?_), ?_⟩
    · rw [if_t (by rfl)]
      refine seq_rf (retF_of ?_)
      rw [oA_of (ds := [.str s, pd (kt T)]) rfl]
      exact name_ok T hT s hs ps B
    · show (if s ∈ T then bs (2 * (T.length - 1 - ix T s)) else bs (2 * s.length + 1) ++ sg s).length ≤ 400
      split
      · have := one (2 * (T.length - 1 - ix T s)) (Bw.small (by omega)); omega
      · have := one (2 * s.length + 1) (Bw.small (by omega))
        have := Bw.sg_len s
        rw [List.length_append]; omega
  · refine ⟨mkN_rf rfl (seq_to (δ' := [.sh (Bw.web ps), .sh .non, .sh (pd (kb B)), .sh (pd (kt T)), .un]) (by rw [if_f (by rfl)]; rfl) (seq_to (δ' := [.sh (Bw.web ps), .sh .non, .sh (pd (kb B)), .sh (pd (kt T)), .un]) ?_ (seq_rf (retF_of ?_)))), ?_⟩
    · show ifD _ _ _ [.sh (Bw.web ps), .sh .non, .sh (pd (kb B)), .sh (pd (kt T)), .un] = _
      rw [if_f (Bw.b_of (by rw [oA_of (ds := [.non, pd (kb B)]) rfl]; exact new_not rfl B))]; rfl
    · rw [oA_of (ds := [.int ((0 : Nat) : Int)]) (cons_of (by rw [oA_of (ds := [.non, pd (kb B)]) rfl]; exact head_non _) rfl)]
      exact nb_ok 0 (Bw.small (by omega))
    · exact Nat.le_trans (one 0 (Bw.small (by omega))) (by omega)
  · have hf : 4 * fold x + 1 < 2 ^ 300 := by
      have := Bw.fold_lt x hx
      have e : 8 * (2 : Nat) ^ 252 < 2 ^ 300 := by decide +kernel
      generalize (2 : Nat) ^ 300 = w at e
      omega
    refine ⟨mkN_rf rfl (seq_to (δ' := [.sh (Bw.web ps), .sh (.int x), .sh (pd (kb B)), .sh (pd (kt T)), .un]) (by rw [if_f (by rfl)]; rfl) (seq_to (δ' := [.sh (Bw.web ps), .sh (.int x), .sh (pd (kb B)), .sh (pd (kt T)), .un]) ?_ (seq_rf (retF_of ?_)))), ?_⟩
    · show ifD _ _ _ [.sh (Bw.web ps), .sh (.int x), .sh (pd (kb B)), .sh (pd (kt T)), .un] = _
      rw [if_f (Bw.b_of (by rw [oA_of (ds := [.int x, pd (kb B)]) rfl]; exact new_not rfl B))]; rfl
    · rw [oA_of (ds := [.int ((4 * fold x + 1 : Nat) : Int)]) (cons_of (by rw [oA_of (ds := [.int x, pd (kb B)]) rfl]; exact head_int x _) rfl)]
      exact nb_ok _ hf
    · exact Nat.le_trans (one _ hf) (by omega)
  · have hsl : ∀ G : GS, ifD (ob (isiG isStr (gv 1))) G nilD [.sh (Bw.web ps), .sh (.tup [.str "at", .int (j : Int)]), .sh (pd (kb B)), .sh (pd (kt T)), .un] = some (.nx [.sh (Bw.web ps), .sh (.tup [.str "at", .int (j : Int)]), .sh (pd (kb B)), .sh (pd (kt T)), .un]) := fun G => by rw [if_f (by rfl)]; rfl
    have ht : ob (oA (consA (gv 1) (consA (gv 2) nilA)) m_is_new) [.sh (Bw.web ps), .sh (.tup [.str "at", .int (j : Int)]), .sh (pd (kb B)), .sh (pd (kt T)), .un] = some (decide (j ∉ B)) := Bw.b_of (by rw [oA_of (ds := [.tup [.str "at", .int (j : Int)], pd (kb B)]) rfl]; exact new_link B j)
    have ehb : hb ps B T (.tup [.str "at", .int (j : Int)]) = if j ∈ B then bs (4 * (B.length - 1 - ix B j) + 2) else bs (4 * (4 * cnt (ps.getD j (.row [])) + kn (ps.getD j (.row []))) + 3) ++ tx (ps.getD j (.row [])) := by
      unfold hb
      simp only [Int.toNat_natCast]
    rw [ehb]
    obtain ⟨w1, w2⟩ := web_at hj
    have hq := hw.it _ w2
    by_cases h : j ∈ B
    · rw [decide_eq_false (by simpa using h)] at ht
      rw [if_pos h]
      refine ⟨mkN_rf rfl (seq_to (hsl _) (seq_to (δ' := [.sh (Bw.web ps), .sh (.tup [.str "at", .int (j : Int)]), .sh (pd (kb B)), .sh (pd (kt T)), .un]) ?_ (seq_rf (retF_of ?_)))), ?_⟩
      · rw [if_f ht]; rfl
      · rw [oA_of (ds := [.int ((4 * (B.length - 1 - ix B j) + 2 : Nat) : Int)]) (cons_of (by rw [oA_of (ds := [.tup [.str "at", .int (j : Int)], pd (kb B)]) rfl]; exact head_link h) rfl)]
        exact nb_ok _ (Bw.small (by omega))
      · exact Nat.le_trans (one _ (Bw.small (by omega))) (by omega)
    · rw [decide_eq_true h] at ht
      rw [if_neg h]
      generalize ps.getD j (.row []) = p at w1 w2 hq ⊢
      have hc := hq.cnt
      have hkn := Bw.kn_le p
      have h1 := one (4 * (4 * cnt p + kn p) + 3) (Bw.small (by omega))
      have h2 := Bw.tx_len hq.gp
      refine ⟨mkN_rf rfl (seq_to (hsl _) (seq_rf ?_)), by rw [List.length_append]; omega⟩
      rw [if_t ht]
      refine seq_to (set_of (d := p.d) ?_) (seq_rf (retF_of ?_))
      · rw [o2_of (x := Bw.web ps) (y := .int (j : Int)) rfl rfl]
        exact w1
      · rw [o2_of (x := .lst ((bs (4 * (4 * cnt p + kn p) + 3)).map .int)) (y := .lst ((tx p).map .int)) (by
          rw [oA_of (ds := [.int ((4 * (4 * cnt p + kn p) + 3 : Nat) : Int)]) (cons_of (by
            rw [o2_of (x := .int (4 * ((4 * cnt p + kn p : Nat) : Int))) (y := .int 3) (by
              rw [o2_of (x := .int 4) (y := .int ((4 * cnt p + kn p : Nat) : Int)) rfl (by rw [oA_of (ds := [p.d]) rfl]; exact pn_ok hc)]
              exact Gw.mul_l _ _ (by decide)) rfl]
            show some (D.int _) = _
            congr 2) rfl)]
          exact nb_ok _ (Bw.small (by omega))) (by rw [oA_of (ds := [p.d]) rfl]; exact tb_ok hc)]
        exact Bw.cat_l _ _ (by omega)
noncomputable def nB (B : List Nat) : D → List Nat
  | .tup [_, .int j] => if j.toNat ∈ B then B else B ++ [j.toNat]
  | _ => B
noncomputable def nT (T : List Str) : D → List Str
  | .str s => if s ∈ T then T else T ++ [s]
  | _ => T
noncomputable def nW (ps : List Pt) (B : List Nat) (W : List D) : D → List D
  | .tup [_, .int j] => if j.toNat ∈ B then W else its (ps.getD j.toNat (.row [])) ++ W
  | _ => W
noncomputable def pk (ps : List Pt) : Nat → List Nat → List Str → List D → List Int
  | 0, _, _, _ => []
  | _ + 1, _, _, [] => []
  | f + 1, B, T, d :: W => hb ps B T d ++ pk ps f (nB B d) (nT T d) (nW ps B W d)
noncomputable def st (ps : List Pt) (o : List Int) (B : List Nat) (T : List Str) (W : List D) (s : Sl) : Ds := [.sh (Bw.web ps), .ow (.lst (o.map .int)), .ow (pd (kb B)), .ow (pd (kt T)), .ow (.lst W.reverse), s]
noncomputable def PT : GB := (ob (o2 (borE (oA (consA (gv 4) nilA) lenD)) (gc (.int 0)) gtD))
noncomputable def PB : GS := (seqD (asgX (popX 4) (gN 5))
  (seqD (exprX (extX 1 (borL (oA (consA (gv 0) (consA (gv 5) (consA (gv 2) (consA (gv 3) nilA)))) m_item_bytes))))
  (seqD (ifD (ob (isiG isStr (gv 5)))
  (seqD (exprX (sdfX 3 (gv 5) (borE (oA (consA (gv 3) nilA) lenKD))))
  nilD)
  (seqD (ifD (ob (borT (oA (consA (gv 5) (consA (gv 2) nilA)) m_is_new)))
  (seqD (asgX (pureX (borE (oA (consA (gv 2) nilA) lenKD))) (putAt 2 (o2 (gv 5) (gc (.int 1)) ixD)))
  (seqD (exprX (extX 4 (oA (consA (oA (consA (o2 (gv 0) (o2 (gv 5) (gc (.int 1)) ixD) ixD) nilA) m_held_items) nilA) revD)))
  nilD))
  nilD)
  nilD))
  nilD)))
theorem pt_ok (ps : List Pt) (o : List Int) (B : List Nat) (T : List Str) (W : List D) (s : Sl) : PT (st ps o B T W s) = some (decide (0 < W.length)) := by
  show some (decide ((0 : Int) < (W.reverse.length : Int))) = _
  rw [List.length_reverse]
  congr 1
  by_cases h : 0 < W.length
  · rw [decide_eq_true h, decide_eq_true (by omega)]
  · rw [decide_eq_false h, decide_eq_false (by omega)]
theorem sdf_ok {T : List Str} {s : Str} (hT : T.length ≤ 100000) (a b c e : Sl) : exprX (sdfX 3 (gv 5) (borE (oA (consA (gv 3) nilA) lenKD))) [a, b, c, .ow (pd (kt T)), e, .sh (.str s)] = some (.nx [a, b, c, .ow (pd (kt (nT T (.str s)))), e, .sh (.str s)]) := by
  have zs : (1000000 : Nat) ≤ sizeLine := by decide
  have e1 : sdfX 3 (gv 5) (borE (oA (consA (gv 3) nilA) lenKD)) [a, b, c, .ow (pd (kt T)), e, .sh (.str s)] = if (kt T).length < sizeLine then (if hasK (kt T) (.inr s) = true then (getK (kt T) (nd (List.range (kt T).length)) (.inr s)).map fun r => (r, ([a, b, c, .ow (pd (kt T)), e, .sh (.str s)] : Ds)) else some (.int ((kt T).length : Int), [a, b, c, .ow (.dct (.inl (putKs (kt T) (.inr s))) (putDs (kt T) (nd (List.range (kt T).length)) (.inr s) (.int ((kt T).length : Int)))), e, .sh (.str s)])) else none := rfl
  unfold exprX
  rw [e1, if_pos (by rw [kt_len]; omega)]
  show Option.map _ _ = some (Res.nx [a, b, c, .ow (pd (kt (if s ∈ T then T else T ++ [s]))), e, .sh (.str s)])
  by_cases h : s ∈ T
  · rw [if_pos ((has_iff _ _).mpr ((kt_mem T s).mpr h)), get_pd ((kt_mem T s).mpr h), if_pos h]
    rfl
  · rw [has_f (fun z => h ((kt_mem T s).mp z)), if_neg (by simp), put_pd (fun z => h ((kt_mem T s).mp z)), if_neg h]
    show some (Res.nx [a, b, c, .ow (pd (kt T ++ [.inr s])), e, .sh (.str s)]) = _
    unfold kt
    rw [List.map_append]
    rfl
theorem put_ok {B : List Nat} {j : Nat} (hB : B.length ≤ 60) (hj : j ∉ B) (a b c e : Sl) : asgX (pureX (borE (oA (consA (gv 2) nilA) lenKD))) (putAt 2 (o2 (gv 5) (gc (.int 1)) ixD)) [a, b, .ow (pd (kb B)), c, e, .sh (.tup [.str "at", .int (j : Int)])] = some (.nx [a, b, .ow (pd (kb (B ++ [j]))), c, e, .sh (.tup [.str "at", .int (j : Int)])]) := by
  have zs : (1000000 : Nat) ≤ sizeLine := by decide
  show Option.map Res.nx (if (kb B).length < sizeLine then some ([a, b, .ow (.dct (.inl (putKs (kb B) (.inl (j : Int)))) (putDs (kb B) (nd (List.range (kb B).length)) (.inl (j : Int)) (.int ((kb B).length : Int)))), c, e, .sh (.tup [.str "at", .int (j : Int)])] : Ds) else none) = _
  rw [if_pos (by rw [kb_len]; omega), put_pd (fun z => hj ((kb_mem B j).mp z))]
  unfold kb
  rw [List.map_append]
  rfl
theorem step_ok {ps : List Pt} (hw : Wb ps) {o : List Int} {B : List Nat} {T : List Str} {W : List D} {d : D} (s : Sl) (hB : B.length ≤ 60) (hT : T.length ≤ 100000) (hd : It ps.length d) (ho : o.length ≤ 5000000) (hW : W.length ≤ 10000) :
    PB (st ps o B T (d :: W) s) = some (.nx (st ps (o ++ hb ps B T d) (nB B d) (nT T d) (nW ps B W d) (.sh d))) := by
  have zs : (9000000 : Nat) ≤ sizeLine := by decide
  obtain ⟨i1, i2⟩ := item_ok hw hB hT hd
  have p1 : asgX (popX 4) (gN 5) (st ps o B T (d :: W) s) = some (.nx (st ps o B T W (.sh d))) := by
    unfold st asgX popX
    rw [List.reverse_cons]
    show Option.bind (Option.map (fun d' => (d', ([.sh (Bw.web ps), .ow (.lst (o.map .int)), .ow (pd (kb B)), .ow (pd (kt T)), .ow (.lst (W.reverse ++ [d]).dropLast), s] : Ds))) (W.reverse ++ [d]).getLast?) _ = _
    rw [List.getLast?_concat, List.dropLast_concat]
    rfl
  have p2 : exprX (extX 1 (borL (oA (consA (gv 0) (consA (gv 5) (consA (gv 2) (consA (gv 3) nilA)))) m_item_bytes))) (st ps o B T W (.sh d)) = some (.nx (st ps (o ++ hb ps B T d) B T W (.sh d))) :=
    Bw.ext_ow (l := o) (e := hb ps B T d) rfl (borL_of (by rw [oA_of (ds := [Bw.web ps, d, pd (kb B), pd (kt T)]) rfl]; exact i1) (flats_ints _)) (by omega)
  refine seq_to p1 (seq_to p2 ?_)
  rcases hd with ⟨x, rfl, hs⟩ | rfl | ⟨x, rfl, hx⟩ | ⟨j, rfl, hj⟩
  · refine seq_to (δ' := st ps (o ++ hb ps B T (.str x)) B (nT T (.str x)) W (.sh (.str x))) ?_ rfl
    rw [if_t (by rfl)]
    exact seq_to (sdf_ok hT _ _ _ _) rfl
  · refine seq_to (δ' := st ps (o ++ hb ps B T .non) B T W (.sh .non)) ?_ rfl
    rw [if_f (by rfl)]
    refine seq_to (δ' := st ps (o ++ hb ps B T .non) B T W (.sh .non)) ?_ rfl
    rw [if_f (Bw.b_of (borT_of (by rw [oA_of (ds := [.non, pd (kb B)]) rfl]; exact new_not rfl B) rfl))]
    rfl
  · refine seq_to (δ' := st ps (o ++ hb ps B T (.int x)) B T W (.sh (.int x))) ?_ rfl
    rw [if_f (by rfl)]
    refine seq_to (δ' := st ps (o ++ hb ps B T (.int x)) B T W (.sh (.int x))) ?_ rfl
    rw [if_f (Bw.b_of (borT_of (by rw [oA_of (ds := [.int x, pd (kb B)]) rfl]; exact new_not rfl B) rfl))]
    rfl
  · obtain ⟨w1, w2⟩ := web_at hj
    have ht : ob (borT (oA (consA (gv 5) (consA (gv 2) nilA)) m_is_new)) (st ps (o ++ hb ps B T (.tup [.str "at", .int (j : Int)])) B T W (.sh (.tup [.str "at", .int (j : Int)]))) = some (decide (j ∉ B)) :=
      Bw.b_of (borT_of (by rw [oA_of (ds := [.tup [.str "at", .int (j : Int)], pd (kb B)]) rfl]; exact new_link B j) rfl)
    have e1 : nB B (.tup [.str "at", .int (j : Int)]) = if j ∈ B then B else B ++ [j] := by unfold nB; simp only [Int.toNat_natCast]
    have e2 : nW ps B W (.tup [.str "at", .int (j : Int)]) = if j ∈ B then W else its (ps.getD j (.row [])) ++ W := by unfold nW; simp only [Int.toNat_natCast]
    have e3 : nT T (.tup [.str "at", .int (j : Int)]) = T := rfl
    rw [e1, e2, e3]
    by_cases h : j ∈ B
    · rw [if_pos h, if_pos h]
      rw [decide_eq_false (by simpa using h)] at ht
      refine seq_to (δ' := st ps (o ++ hb ps B T (.tup [.str "at", .int (j : Int)])) B T W (.sh (.tup [.str "at", .int (j : Int)]))) ?_ rfl
      rw [if_f (by rfl)]
      refine seq_to (δ' := st ps (o ++ hb ps B T (.tup [.str "at", .int (j : Int)])) B T W (.sh (.tup [.str "at", .int (j : Int)]))) ?_ rfl
      rw [if_f ht]
      rfl
    · rw [if_neg h, if_neg h]
      rw [decide_eq_true h] at ht
      have hq := hw.it _ w2
      generalize ps.getD j (.row []) = p at w1 w2 hq ⊢
      have hil := hq.gp.len
      have p4 : exprX (extX 4 (oA (consA (oA (consA (o2 (gv 0) (o2 (gv 5) (gc (.int 1)) ixD) ixD) nilA) m_held_items) nilA) revD)) (st ps (o ++ hb ps B T (.tup [.str "at", .int (j : Int)])) (B ++ [j]) T W (.sh (.tup [.str "at", .int (j : Int)]))) = some (.nx (st ps (o ++ hb ps B T (.tup [.str "at", .int (j : Int)])) (B ++ [j]) T (its p ++ W) (.sh (.tup [.str "at", .int (j : Int)])))) := by
        refine (Bw.ext_d (l := W.reverse) (e := (its p).reverse) rfl (by
          rw [oA_of (ds := [.lst (its p)]) (cons_of (by
            rw [oA_of (ds := [p.d]) (cons_of (by rw [o2_of (x := Bw.web ps) (y := .int (j : Int)) rfl rfl]; exact w1) rfl)]
            exact hi_ok hq.gp) rfl)]
          rfl) (by rw [List.length_reverse, List.length_reverse]; omega)).trans ?_
        unfold st
        rw [List.reverse_append]
        rfl
      refine seq_to (δ' := st ps (o ++ hb ps B T (.tup [.str "at", .int (j : Int)])) (B ++ [j]) T (its p ++ W) (.sh (.tup [.str "at", .int (j : Int)]))) ?_ rfl
      rw [if_f (by rfl)]
      refine seq_to (δ' := st ps (o ++ hb ps B T (.tup [.str "at", .int (j : Int)])) (B ++ [j]) T (its p ++ W) (.sh (.tup [.str "at", .int (j : Int)]))) ?_ rfl
      rw [if_t ht]
      exact seq_to (put_ok hB h _ _ _ _) (seq_to p4 rfl)
end Km
namespace Km
open PySem DL W K22
open Bw (bs sg cnt kn its tx fold Vb Gp Gq two)
noncomputable def lkd (j : Nat) : D := .tup [.str "at", .int (j : Int)]
theorem two_it {P : D → Prop} (hs : ∀ s : Str, s.length ≤ 20 → P (.str s)) {ps : List (Str × D)} (h1 : ∀ v ∈ ps.map (·.2), P v) (h2 : ∀ s ∈ ps.map (·.1), s.length ≤ 20) : ∀ d ∈ ps.flatMap two, P d := fun d hd => by
  obtain ⟨p, hp, hm⟩ := List.mem_flatMap.mp hd
  unfold two at hm
  rcases List.mem_cons.mp hm with rfl | hm
  · exact hs _ (h2 _ (List.mem_map.mpr ⟨p, hp, rfl⟩))
  · rw [List.mem_singleton.mp hm]; exact h1 _ (List.mem_map.mpr ⟨p, hp, rfl⟩)
theorem its_all {P : D → Prop} (hs : ∀ s : Str, s.length ≤ 20 → P (.str s)) {p : Pt} (hn : ∀ s ∈ p.all, s.length ≤ 20) (hv : ∀ v ∈ p.vals, P v) : ∀ d ∈ its p, P d := by
  cases p with
  | text w => intro d hd; cases hd
  | row vs => exact hv
  | table ps => exact two_it hs hv fun s h => hn s (List.mem_append_left _ h)
  | rcd c ps =>
    intro d hd
    rcases List.mem_cons.mp hd with rfl | hd
    · exact hs c (hn c (List.mem_append_right _ (List.mem_singleton.mpr rfl)))
    · exact two_it hs hv (fun s h => hn s (List.mem_append_left _ h)) d hd
theorem Wb.its {ps : List Pt} (hw : Wb ps) {p : Pt} (hp : p ∈ ps) : ∀ d ∈ its p, It ps.length d :=
  its_all (fun s h => .inl ⟨s, rfl, h⟩) (hw.it p hp).names fun v hv => .of ((hw.it p hp).vals v hv) (hw.lk p hp v hv)
theorem while_ok {ps : List Pt} (hw : Wb ps) : ∀ (M f : Nat) (o : List Int) (B : List Nat) (T : List Str) (W : List D) (s : Sl), W.length + 51 * (ps.length - B.length) ≤ M → M < f → M ≤ 4000 → o.length + 400 * M ≤ 4000000 → T.length + M ≤ 20000 → B.Nodup → (∀ x ∈ B, x < ps.length) → (∀ d ∈ W, It ps.length d) →
    (o ++ pk ps f B T W).length ≤ 4000000 ∧ ∃ B' T' s', whileD PT PB f (st ps o B T W s) = some (.nx (st ps (o ++ pk ps f B T W) B' T' [] s')) := by
  intro M
  induction M with
  | zero =>
    intro f o B T W s h1 h2 _ h4 _ _ _ _
    have : W = [] := List.length_eq_zero_iff.mp (by omega)
    subst this
    obtain ⟨g, rfl⟩ : ∃ g, f = g + 1 := ⟨f - 1, by omega⟩
    rw [pk, List.append_nil]
    refine ⟨by omega, B, T, s, ?_⟩
    unfold whileD
    rw [pt_ok, decide_eq_false (by simp)]
  | succ M ih =>
    intro f o B T W s h1 h2 h3 h4 h5 hn hb1 hW
    obtain ⟨g, rfl⟩ : ∃ g, f = g + 1 := ⟨f - 1, by omega⟩
    cases W with
    | nil =>
      rw [pk, List.append_nil]
      refine ⟨by omega, B, T, s, ?_⟩
      unfold whileD
      rw [pt_ok, decide_eq_false (by simp)]
    | cons d W =>
      rw [List.length_cons] at h1
      have hd := hW d List.mem_cons_self
      have hW' : ∀ d ∈ W, It ps.length d := fun e he => hW e (List.mem_cons_of_mem _ he)
      have hBl : B.length ≤ ps.length := by
        have := sub_len hn (m := List.range ps.length) fun y hy => List.mem_range.mpr (hb1 y hy)
        rwa [List.length_range] at this
      have h60 := hw.len.2
      have sp := step_ok hw s (o := o) (B := B) (T := T) (W := W) (d := d) (by omega) (by omega) hd (by omega) (by omega)
      obtain ⟨_, i2⟩ := item_ok hw (B := B) (T := T) (by omega) (by omega) hd
      have key : (nW ps B W d).length + 51 * (ps.length - (nB B d).length) ≤ M ∧ (nT T d).length ≤ T.length + 1 ∧ (nB B d).Nodup ∧ (∀ x ∈ nB B d, x < ps.length) ∧ ∀ e ∈ nW ps B W d, It ps.length e := by
        rcases hd with ⟨x, rfl, hs⟩ | rfl | ⟨x, rfl, hx⟩ | ⟨j, rfl, hj⟩
        · refine ⟨by show W.length + 51 * (ps.length - B.length) ≤ M; omega, ?_, hn, hb1, hW'⟩
          show (if x ∈ T then T else T ++ [x]).length ≤ _
          split
          · omega
          · rw [List.length_append, List.length_singleton]; omega
        · exact ⟨by show W.length + 51 * (ps.length - B.length) ≤ M; omega, by show T.length ≤ _; omega, hn, hb1, hW'⟩
        · exact ⟨by show W.length + 51 * (ps.length - B.length) ≤ M; omega, by show T.length ≤ _; omega, hn, hb1, hW'⟩
        · have e1 : nB B (.tup [.str "at", .int (j : Int)]) = if j ∈ B then B else B ++ [j] := by unfold nB; simp only [Int.toNat_natCast]
          have e2 : nW ps B W (.tup [.str "at", .int (j : Int)]) = if j ∈ B then W else its (ps.getD j (.row [])) ++ W := by unfold nW; simp only [Int.toNat_natCast]
          rw [e1, e2]
          by_cases h : j ∈ B
          · rw [if_pos h, if_pos h]
            exact ⟨by omega, by show T.length ≤ _; omega, hn, hb1, hW'⟩
          · rw [if_neg h, if_neg h]
            obtain ⟨_, w2⟩ := web_at hj
            have hil := (hw.it _ w2).gp.len
            have hnd : (B ++ [j]).Nodup := List.nodup_append.mpr ⟨hn, by simp, fun a ha b hb e => by rw [List.mem_singleton.mp hb] at e; exact h (e ▸ ha)⟩
            have hin : ∀ x ∈ B ++ [j], x < ps.length := fun x hx => by
              rcases List.mem_append.mp hx with z | z
              · exact hb1 x z
              · rw [List.mem_singleton.mp z]; exact hj
            have hl2 : (B ++ [j]).length ≤ ps.length := by
              have := sub_len hnd (m := List.range ps.length) fun y hy => List.mem_range.mpr (hin y hy)
              rwa [List.length_range] at this
            refine ⟨?_, by show T.length ≤ _; omega, hnd, hin, fun e he => ?_⟩
            · rw [List.length_append] at hl2 ⊢
              rw [List.length_append]
              simp only [List.length_singleton] at hl2 ⊢
              omega
            · rcases List.mem_append.mp he with z | z
              · exact hw.its w2 e z
              · exact hW' e z
      obtain ⟨k1, k2, k3, k4, k5⟩ := key
      have := ih g (o ++ hb ps B T d) (nB B d) (nT T d) (nW ps B W d) (.sh d) k1 (by omega) (by omega) (by rw [List.length_append]; omega) (by omega) k3 k4 k5
      rw [List.append_assoc] at this
      obtain ⟨q0, B', T', s', q⟩ := this
      refine ⟨q0, B', T', s', ?_⟩
      unfold whileD
      rw [pt_ok, decide_eq_true (by rw [List.length_cons]; omega)]
      simp only [sp]
      exact q
noncomputable def pak (ps : List Pt) (r : Nat) : List Int := pk ps 100000 [] [] [lkd r]
theorem pack_ok {ps : List Pt} (hw : Wb ps) : m_pack [Bw.web ps] = some (.lst ((pak ps 0).map .int)) ∧ (pak ps 0).length ≤ 4000000 := by
  have h60 := hw.len.2
  obtain ⟨q0, B', T', s', q⟩ := while_ok hw 3500 100000 [] [] [] [lkd 0] .un (by simp only [List.length_cons, List.length_nil]; omega) (by decide) (by decide) (by simp) (by simp) List.nodup_nil (fun x hx => by cases hx) (fun d hd => by
    rw [List.mem_singleton.mp hd]
    exact .inr (.inr (.inr ⟨0, rfl, hw.len.1⟩)))
  rw [List.nil_append] at q0 q
  refine ⟨mkN_rf rfl ?_, q0⟩
  refine seq_to (δ' := [.sh (Bw.web ps), .ow (.lst []), .un, .un, .un, .un]) rfl (seq_to (δ' := [.sh (Bw.web ps), .ow (.lst []), .ow (.dct (.inl []) []), .un, .un, .un]) rfl (seq_to (δ' := [.sh (Bw.web ps), .ow (.lst []), .ow (.dct (.inl []) []), .ow (.dct (.inl []) []), .un, .un]) rfl (seq_to (δ' := st ps [] [] [] [lkd 0] .un) rfl (seq_to q (seq_rf rfl)))))
theorem zip_snd (f : D → D) : ∀ ps : List (Str × D), (ps.map (·.1)).zip ((ps.map (·.2)).map f) = ps.map fun p => (p.1, f p.2)
  | [] => rfl
  | p :: ps => by
    rw [List.map_cons, List.map_cons, List.map_cons, List.zip_cons_cons, zip_snd f ps, List.map_cons]
theorem two_map (f : D → D) (hf : ∀ s, f (.str s) = .str s) : ∀ ps : List (Str × D), (ps.map fun p => (p.1, f p.2)).flatMap two = (ps.flatMap two).map f
  | [] => rfl
  | p :: ps => by
    rw [List.map_cons, List.flatMap_cons, two_map f hf ps, List.flatMap_cons, List.map_append]
    show [D.str p.1, f p.2] ++ _ = [f (.str p.1), f p.2] ++ _
    rw [hf]
theorem rel_same (π : Nat → Nat) (p : Pt) : cnt (rel π p) = cnt p ∧ kn (rel π p) = kn p ∧ tx (rel π p) = tx p ∧ its (rel π p) = (its p).map (lkv π) ∧ (rel π p).vals = p.vals.map (lkv π) ∧ (rel π p).all = p.all := by
  have hv : (rel π p).vals = p.vals.map (lkv π) := put_vals p _ (by rw [List.length_map])
  cases p with
  | text w => exact ⟨rfl, rfl, rfl, rfl, hv, rfl⟩
  | row vs => exact ⟨by show (vs.map (lkv π)).length = vs.length; rw [List.length_map], rfl, rfl, rfl, hv, rfl⟩
  | table ps =>
    have e : rel π (.table ps) = .table (ps.map fun p => (p.1, lkv π p.2)) := congrArg Pt.table (zip_snd (lkv π) ps)
    refine ⟨?_, rfl, rfl, ?_, hv, ?_⟩
    · rw [e]; show (ps.map fun p => (p.1, lkv π p.2)).length = ps.length; rw [List.length_map]
    · rw [e]; exact two_map (lkv π) (fun _ => rfl) ps
    · rw [e]; show (ps.map fun p => (p.1, lkv π p.2)).map (·.1) ++ [] = ps.map (·.1) ++ []; rw [List.map_map]; rfl
  | rcd c ps =>
    have e : rel π (.rcd c ps) = .rcd c (ps.map fun p => (p.1, lkv π p.2)) := congrArg (Pt.rcd c) (zip_snd (lkv π) ps)
    refine ⟨?_, rfl, rfl, ?_, hv, ?_⟩
    · rw [e]; show (ps.map fun p => (p.1, lkv π p.2)).length = ps.length; rw [List.length_map]
    · rw [e]
      show D.str c :: _ = D.str c :: (ps.flatMap two).map (lkv π)
      rw [← two_map (lkv π) (fun _ => rfl) ps]
    · rw [e]; show (ps.map fun p => (p.1, lkv π p.2)).map (·.1) ++ [c] = ps.map (·.1) ++ [c]; rw [List.map_map]; rfl
noncomputable def OkS (S : List Nat) (d : D) : Prop := (∃ s : Str, d = .str s) ∨ d = .non ∨ (∃ z : Int, d = .int z) ∨ ∃ j : Nat, d = lkd j ∧ j ∈ S
structure Sim (ps ps' : List Pt) (π : Nat → Nat) (S : List Nat) : Prop where
  at_ : ∀ j ∈ S, ps'.getD (π j) (.row []) = rel π (ps.getD j (.row []))
  ok : ∀ j ∈ S, ∀ d ∈ its (ps.getD j (.row [])), OkS S d
  inj : ∀ i ∈ S, ∀ j ∈ S, π i = π j → i = j
theorem lkv_lk (π : Nat → Nat) (j : Nat) : lkv π (lkd j) = lkd (π j) := by unfold lkd lkv; simp only [Int.toNat_natCast]
theorem nB_lk (B : List Nat) (j : Nat) : nB B (lkd j) = if j ∈ B then B else B ++ [j] := by unfold nB lkd; simp only [Int.toNat_natCast]
theorem nW_lk (ps : List Pt) (B : List Nat) (W : List D) (j : Nat) : nW ps B W (lkd j) = if j ∈ B then W else its (ps.getD j (.row [])) ++ W := by unfold nW lkd; simp only [Int.toNat_natCast]
theorem hb_lk (ps : List Pt) (B : List Nat) (T : List Str) (j : Nat) : hb ps B T (lkd j) = if j ∈ B then bs (4 * (B.length - 1 - ix B j) + 2) else bs (4 * (4 * cnt (ps.getD j (.row [])) + kn (ps.getD j (.row []))) + 3) ++ tx (ps.getD j (.row [])) := by
  unfold hb lkd
  simp only [Int.toNat_natCast]
theorem pk_sim {ps ps' : List Pt} {π : Nat → Nat} {S : List Nat} (h : Sim ps ps' π S) : ∀ (f : Nat) (B : List Nat) (T : List Str) (W : List D), (∀ b ∈ B, b ∈ S) → (∀ d ∈ W, OkS S d) → pk ps' f (B.map π) T (W.map (lkv π)) = pk ps f B T W := by
  intro f
  induction f with
  | zero => intro B T W _ _; rfl
  | succ f ih =>
    intro B T W hB hW
    cases W with
    | nil => rfl
    | cons d W =>
      have hW' : ∀ d ∈ W, OkS S d := fun e he => hW e (List.mem_cons_of_mem _ he)
      rw [List.map_cons]
      show hb ps' (B.map π) T (lkv π d) ++ pk ps' f (nB (B.map π) (lkv π d)) (nT T (lkv π d)) (nW ps' (B.map π) (W.map (lkv π)) (lkv π d)) = hb ps B T d ++ pk ps f (nB B d) (nT T d) (nW ps B W d)
      rcases hW d List.mem_cons_self with ⟨s, rfl⟩ | rfl | ⟨z, rfl⟩ | ⟨j, rfl, hj⟩
      · exact congrArg _ (ih B (nT T (.str s)) W hB hW')
      · exact congrArg _ (ih B T W hB hW')
      · exact congrArg _ (ih B T W hB hW')
      · have hm : π j ∈ B.map π ↔ j ∈ B := by
          rw [List.mem_map]
          exact ⟨fun ⟨b, hb', e⟩ => h.inj b (hB b hb') j hj e ▸ hb', fun z => ⟨j, z, rfl⟩⟩
        rw [lkv_lk, hb_lk, hb_lk, nB_lk, nB_lk, nW_lk, nW_lk]
        obtain ⟨r1, r2, r3, r4, _, _⟩ := rel_same π (ps.getD j (.row []))
        by_cases z : j ∈ B
        · rw [if_pos z, if_pos z, if_pos z, if_pos (hm.mpr z), if_pos (hm.mpr z), if_pos (hm.mpr z), List.length_map, idx_map π j B fun b hb' e => h.inj b (hB b hb') j hj e]
          exact congrArg _ (ih B T W hB hW')
        · rw [if_neg z, if_neg z, if_neg z, if_neg (fun q => z (hm.mp q)), if_neg (fun q => z (hm.mp q)), if_neg (fun q => z (hm.mp q)), h.at_ j hj, r1, r2, r3, r4]
          have := ih (B ++ [j]) T (its (ps.getD j (.row [])) ++ W) (fun b hb' => by
            rcases List.mem_append.mp hb' with q | q
            · exact hB b q
            · rw [List.mem_singleton.mp q]; exact hj) (fun e he => by
            rcases List.mem_append.mp he with q | q
            · exact h.ok j hj e q
            · exact hW' e q)
          rw [List.map_append, List.map_append] at this
          exact congrArg _ this
theorem pak_sim {ps ps' : List Pt} {π : Nat → Nat} {S : List Nat} (h : Sim ps ps' π S) {r : Nat} (hr : r ∈ S) : pak ps' (π r) = pak ps r := by
  have := pk_sim h 100000 [] [] [lkd r] (fun b hb => by cases hb) (fun d hd => by rw [List.mem_singleton.mp hd]; exact .inr (.inr (.inr ⟨r, rfl, hr⟩)))
  rw [List.map_cons, lkv_lk] at this
  exact this
noncomputable def laid (ps : List Pt) (L : List Nat) : List Pt := L.map fun k => rel (ix L) (ps.getD k (.row []))
theorem laid_sim {ps : List Pt} (hw : Wb ps) {L : List Nat} (hL : ∀ k ∈ L, k < ps.length) (hc : ∀ k ∈ L, ∀ i ∈ tgs (ps.getD k (.row [])).vals, i ∈ L) : Sim ps (laid ps L) (ix L) L := by
  refine ⟨fun j hj => ?_, fun j hj => ?_, fun i hi j hj e => ?_⟩
  · unfold laid
    rw [List.getD_eq_getElem?_getD, List.getElem?_map, ix_at hj]
    rfl
  · obtain ⟨_, w2⟩ := web_at (hL j hj)
    refine its_all (fun s _ => .inl ⟨s, rfl⟩) (hw.it _ w2).names fun v hv => ?_
    have hb := (hw.it _ w2).vals v hv
    cases hb with
    | non => exact .inr (.inl rfl)
    | lk i _ => exact .inr (.inr (.inr ⟨i, rfl, hc j hj i (in_tgs hv)⟩))
    | int z _ => exact .inr (.inr (.inl ⟨z, rfl⟩))
  · have h1 := ix_at hi
    rw [e, ix_at hj] at h1
    injection h1 with h1
    exact h1.symm
theorem laid_wb {ps : List Pt} (hw : Wb ps) {L : List Nat} (h0 : 0 < L.length ∧ L.length ≤ 60) (hL : ∀ k ∈ L, k < ps.length) (hc : ∀ k ∈ L, ∀ i ∈ tgs (ps.getD k (.row [])).vals, i ∈ L) : Wb (laid ps L) := by
  have hl : (laid ps L).length = L.length := by unfold laid; rw [List.length_map]
  refine ⟨by rw [hl]; exact h0, fun p hp => ?_, fun p hp v hv => ?_⟩
  · obtain ⟨k, hk, rfl⟩ := List.mem_map.mp hp
    obtain ⟨_, w2⟩ := web_at (hL k hk)
    have hq := hw.it _ w2
    obtain ⟨r1, _, _, _, r5, r6⟩ := rel_same (ix L) (ps.getD k (.row []))
    refine ⟨by rw [r1]; exact hq.cnt, fun v hv => ?_, by rw [r6]; exact hq.names⟩
    rw [r5] at hv
    obtain ⟨u, hu, rfl⟩ := List.mem_map.mp hv
    have hb := hq.vals u hu
    cases hb with
    | non => exact .non
    | lk i _ =>
      rw [show lkv (ix L) (.tup [.str "at", .int (i : Int)]) = lkd (ix L i) from lkv_lk _ _]
      exact .lk _ (by have := ix_lt (hc k hk i (in_tgs hu)); omega)
    | int z hz => exact .int z hz
  · obtain ⟨k, hk, rfl⟩ := List.mem_map.mp hp
    obtain ⟨_, w2⟩ := web_at (hL k hk)
    obtain ⟨_, _, _, _, r5, _⟩ := rel_same (ix L) (ps.getD k (.row []))
    rw [r5] at hv
    obtain ⟨u, hu, rfl⟩ := List.mem_map.mp hv
    have hb := (hw.it _ w2).vals u hu
    rw [hl]
    cases hb with
    | non => exact fun j e => nomatch e
    | lk i _ =>
      rw [show lkv (ix L) (.tup [.str "at", .int (i : Int)]) = lkd (ix L i) from lkv_lk _ _]
      exact Bw.lk_at (ix_lt (hc k hk i (in_tgs hu)))
    | int z hz => exact fun j e => nomatch e
end Km
namespace K22
open PySem DL W
section
variable {W : D} {k l : Sl} {U : List Nat}
end
end K22
namespace K22
open PySem DL W
theorem dfs_facts {adj : Nat → List Nat} {S : List Nat} : ∀ {c : Nat} {o T r : List Nat}, Dfs adj S c o T r → (∀ i ∈ o, ∀ j ∈ adj i, j ∈ o ∨ j ∈ S ∨ j ∈ T) → (∃ s, r = o ++ s) ∧ ∀ i ∈ r, ∀ j ∈ adj i, j ∈ r ∨ j ∈ S := by
  intro c o T r h
  induction h with
  | nil o =>
    intro H
    refine ⟨⟨[], (List.append_nil o).symm⟩, fun i hi j hj => ?_⟩
    rcases H i hi j hj with q | q | q
    · exact .inl q
    · exact .inr q
    · cases q
  | @skip c o T r x hx hd ih =>
    intro H
    refine ih fun i hi j hj => ?_
    rcases H i hi j hj with q | q | q
    · exact .inl q
    · exact .inr (.inl q)
    · rcases List.mem_cons.mp q with rfl | q
      · exact hx.imp id .inl
      · exact .inr (.inr q)
  | @visit c o T r x hx hxS hz hd ih =>
    intro H
    obtain ⟨⟨s, e⟩, h2⟩ := ih fun i hi j hj => by
      rcases List.mem_append.mp hi with hi | hi
      · rcases H i hi j hj with q | q | q
        · exact .inl (List.mem_append_left _ q)
        · exact .inr (.inl q)
        · rcases List.mem_cons.mp q with rfl | q
          · exact .inl (by simp)
          · exact .inr (.inr (List.mem_append_right _ q))
      · rw [List.mem_singleton.mp hi] at hj
        exact .inr (.inr (List.mem_append_left _ hj))
    exact ⟨⟨x :: s, by rw [e, List.append_assoc]; rfl⟩, h2⟩
end K22
namespace Km
open PySem DL W K22
open Bw (bs sg cnt kn its tx fold Vb Gp Gq two)
noncomputable def ws : Nat → List Int → Int
  | _, [] => 0
  | k, b :: l => (k : Int) * b + ws (k + 1) l
theorem ws_snoc : ∀ (k : Nat) (l : List Int) (b : Int), ws k (l ++ [b]) = ws k l + ((k + l.length : Nat) : Int) * b
  | k, [], b => by show (k : Int) * b + 0 = 0 + ((k + 0 : Nat) : Int) * b; simp
  | k, a :: l, b => by
    show (k : Int) * a + ws (k + 1) (l ++ [b]) = (k : Int) * a + ws (k + 1) l + _
    rw [ws_snoc (k + 1) l b, List.length_cons, show k + 1 + l.length = k + (l.length + 1) by omega, Int.add_assoc]
theorem ws_range : ∀ (k : Nat) (l : List Int), ((List.range l.length).map fun (j : Nat) => ((k + j : Nat) : Int) * l.getD j 0).sum = ws k l
  | k, [] => rfl
  | k, b :: l => by
    rw [List.length_cons, List.range_succ_eq_map, List.map_cons, List.sum_cons, List.map_map]
    show _ = (k : Int) * b + ws (k + 1) l
    rw [← ws_range (k + 1) l]
    have e : (fun (j : Nat) => ((k + j : Nat) : Int) * (b :: l).getD j 0) ∘ Nat.succ = fun (j : Nat) => ((k + 1 + j : Nat) : Int) * l.getD j 0 := by
      funext j
      show ((k + (j + 1) : Nat) : Int) * (b :: l).getD (j + 1) 0 = _
      rw [show k + (j + 1) = k + 1 + j by omega]
      rfl
    rw [e]
    rfl
theorem mark_ok {ps : List Pt} (hw : Wb ps) : m_mark [Bw.web ps] = some (.int (ws 1 (pak ps 0) % 65521)) := by
  have zs : (9000000 : Nat) ≤ sizeLine := by decide
  obtain ⟨p1, p2⟩ := pack_ok hw
  generalize pak ps 0 = l at p1 p2 ⊢
  have hi : (enumSD 1 (l.map .int)).length = l.length := by unfold enumSD; rw [List.length_map, List.length_range, List.length_map]
  refine mkF_rt rfl (seq_rt (ret_of ?_))
  rw [o2_of (x := .int (ws 1 l)) (y := .int 65521) (by
    rw [oA_of (ds := [.lst (((List.range l.length).map fun (j : Nat) => ((1 + j : Nat) : Int) * l.getD j 0).map .int)]) (cons_of (comp_of (items := enumSD 1 (l.map .int)) (by
      show Option.bind (consA (oA (consA (gv 0) nilA) m_pack) nilA [.sh (Bw.web ps)]) _ = _
      rw [cons_of (d := .lst (l.map .int)) (ds := []) (by rw [oA_of (ds := [Bw.web ps]) rfl]; exact p1) rfl]
      rfl) (by rw [hi]; omega) (by
      rw [compD_map (fun d => match d with | .tup [.int a, .int b] => .int (a * b) | _ => .non) (fun d hd => by
        unfold enumSD at hd
        obtain ⟨j, hj, rfl⟩ := List.mem_map.mp hd
        rw [List.mem_range, List.length_map] at hj
        have eg : (l.map D.int).getD j .non = .int (l.getD j 0) := by simp [List.getD_eq_getElem?_getD, hj]
        rw [eg]
        exact ⟨[.sh (.int ((1 + j : Nat) : Int)), .sh (.int (l.getD j 0))], rfl, rfl, by
          rw [o2_of (x := .int ((1 + j : Nat) : Int)) (y := .int (l.getD j 0)) rfl rfl]
          exact Gw.mul_l _ _ (by omega)⟩)]
      unfold enumSD
      rw [List.map_map, List.length_map, List.map_map]
      congr 1
      refine List.map_congr_left fun j hj => ?_
      rw [List.mem_range] at hj
      have eg : (l.map D.int).getD j .non = .int (l.getD j 0) := by simp [List.getD_eq_getElem?_getD, hj]
      show (match D.tup [.int ((1 + j : Nat) : Int), (l.map D.int).getD j .non] with | .tup [.int a, .int b] => D.int (a * b) | _ => .non) = _
      rw [eg]
      rfl)) rfl)]
    show (sumL _).map _ = _
    rw [sumL_ints, Option.map_some, ws_range]) rfl]
  exact Gw.mod_p _ _ (by decide)
noncomputable def DB : GS := (seqD (setD (gN 1) (o2 (gv 1) (o2 (o2 (gv 0) (gv 2) ixD) (o2 (gv 2) (gc (.int 1)) addA) mulA) addA))
  nilD)
theorem due_ok (l : List Int) (hl : l.length ≤ 4000000) : m__law_due [.lst (l.map .int)] = some (.int (ws 1 l % 65521)) := by
  obtain ⟨δ', l1, l2⟩ := forD_inv (f := gN 2) (G := DB) (fun i δ => ∃ s : Sl, δ = [.sh (.lst (l.map .int)), .sh (.int (ws 1 (l.take i))), s]) (rngD 0 (l.length : Int)) 0 [.sh (.lst (l.map .int)), .sh (.int 0), .un] (by
    rintro j d δ hj ⟨s, rfl⟩
    obtain ⟨h1, rfl⟩ := rng_get hj
    rw [Int.toNat_natCast] at h1
    rw [Nat.zero_add]
    have eg : ixD (.lst (l.map .int)) (.int (j : Int)) = some (.int l[j]) := by
      show atI (l.map D.int) (j : Int) = _
      rw [atI_in (by omega) (by rw [List.length_map]; omega) .non, Int.toNat_natCast]
      simp [List.getD_eq_getElem?_getD, h1]
    refine ⟨[.sh (.lst (l.map .int)), .sh (.int (ws 1 (l.take j))), .sh (.int (j : Int))], [.sh (.lst (l.map .int)), .sh (.int (ws 1 (l.take j) + l[j] * ((j : Int) + 1))), .sh (.int (j : Int))], rfl, ?_, .sh (.int (j : Int)), ?_⟩
    · refine seq_to (set_of (d := .int (ws 1 (l.take j) + l[j] * ((j : Int) + 1))) ?_) rfl
      rw [o2_of (x := .int (ws 1 (l.take j))) (y := .int (l[j] * ((j : Int) + 1))) rfl (by
        rw [o2_of (x := .int l[j]) (y := .int ((j : Int) + 1)) (by rw [o2_of (x := .lst (l.map .int)) (y := .int (j : Int)) rfl rfl]; exact eg) rfl]
        exact Gw.mul_r _ _ (by omega))]
      rfl
    · rw [List.take_succ, List.getElem?_eq_getElem h1]
      show _ = [Sl.sh (.lst (l.map .int)), .sh (.int (ws 1 (l.take j ++ [l[j]]))), .sh (.int (j : Int))]
      rw [ws_snoc, List.length_take, Nat.min_eq_left (by omega), Int.mul_comm, show ((1 + j : Nat) : Int) = (j : Int) + 1 by omega]) ⟨.un, rfl⟩
  obtain ⟨s, rfl⟩ := l2
  rw [rng_len, Int.toNat_natCast, Nat.zero_add, List.take_length] at l1
  refine mkF_rt rfl (seq_to (δ' := [.sh (.lst (l.map .int)), .sh (.int 0), .un]) rfl (seq_to (for_of (items := rngD 0 (l.length : Int)) (rng1_of (cons_of (by rw [len_of (ds := l.map .int) rfl, List.length_map]) rfl) (by omega) (by omega)) l1) (seq_rt (ret_of ?_))))
  rw [o2_of (x := .int (ws 1 l)) (y := .int 65521) rfl rfl]
  exact Gw.mod_p _ _ (by decide)
theorem is_ok (x : Int) : m__law_is [.int x, .int x] = some (.bl true) := by
  refine mkF_rt rfl (seq_rt (ret_of ?_))
  show some (D.bl (decide (x = x))) = _
  rw [decide_eq_true rfl]
theorem some_ok (p : Pt) (h : p.few) : m__law_some_of [p.d] = some (.lst p.vals) := Pn.values_ok p h
theorem few_of {p : Pt} (h : Gq p) : p.few ∧ p.vals.length ≤ 20 := by
  have z : (1000 : Nat) ≤ sizeLine := by decide
  have hc := h.cnt
  have : p.vals.length ≤ 20 := by
    cases p with
    | text w => exact Nat.zero_le _
    | row vs => exact hc
    | table ps => show (ps.map (·.2)).length ≤ 20; rw [List.length_map]; exact hc
    | rcd c ps => show (ps.map (·.2)).length ≤ 20; rw [List.length_map]; exact hc
  exact ⟨Nat.le_trans this (by omega), this⟩
theorem led_ok {v : D} (h : Vb v) (L : List Nat) (hl : ∀ j : Nat, v = lkd j → j ∈ L) : m__law_led [v, pd (kb L)] = some (lkv (ix L) v) := by
  cases h with
  | non => kernel_rfl
  | int z _ => exact mkF_rt rfl (seq_to (δ' := [.sh (.int z), .sh (pd (kb L))]) (by rw [if_f (by rfl)]; rfl) (seq_rt rfl))
  | lk j _ =>
    rw [show lkv (ix L) (.tup [.str "at", .int (j : Int)]) = lkd (ix L j) from lkv_lk _ _]
    refine mkF_rt rfl (seq_rt ?_)
    rw [if_t (by rfl)]
    refine seq_rt (ret_of (tup_of (cons_of rfl (cons_of (d := .int (ix L j : Int)) ?_ rfl)) (by show 2 ≤ sizeLine; decide)))
    rw [o2_of (x := pd (kb L)) (y := .int (j : Int)) rfl rfl]
    exact get_begun (hl j rfl)
theorem with_ok (p : Pt) (h : p.vals.length ≤ 20) (vs : List D) (hl : vs.length = p.vals.length) : m__law_with [p.d, .lst vs] = some (Pn.put p vs).d := by
  have z : (1000 : Nat) ≤ sizeLine := by decide
  have hc : ∀ (X : D) (ps : List (Str × D)), ixD X (.int (-1)) = some (.tup (ps.map pr)) → vs.length = ps.length → ps.length ≤ 20 → compG 2 [] (zipMI (consA (o2 (gv 0) (unG negD (gc (.int 1))) ixD) (consA (gv 1) nilA))) (tup2 0 1) noT (tupG (consA (o2 (gv 0) (gc (.int 0)) ixD) (consA (gv 1) nilA))) [.sh X, .sh (.lst vs), .un] = some (.lst (((ps.map (·.1)).zip vs).map pr)) := fun X ps hX hv hp => by
    refine comp_of (items := ((ps.map pr).zip vs).map fun q => .tup [q.1, q.2]) ?_ (by rw [List.length_map, List.length_zip, List.length_map]; omega) ?_
    · unfold zipMI
      rw [cons_of (d := .tup (ps.map pr)) (ds := [.lst vs]) (by rw [o2_of (x := X) (y := .int (-1)) rfl rfl]; exact hX) rfl]
      rfl
    · clear hX
      rw [compD_map (fun d => match d with | .tup [.tup [a, _], b] => .tup [a, b] | _ => .non) (fun d hd => by
        obtain ⟨q, hq, rfl⟩ := List.mem_map.mp hd
        obtain ⟨u, hu, e⟩ := List.mem_map.mp (List.of_mem_zip hq).1
        obtain ⟨q1, q2⟩ := q
        have e : pr u = q1 := e
        subst e
        exact ⟨[.sh (pr u), .sh q2], rfl, rfl, tup_of (cons_of rfl (cons_of rfl rfl)) (by show 2 ≤ sizeLine; omega)⟩)]
      congr 1
      rw [List.map_map]
      clear hl h
      induction ps generalizing vs with
      | nil => rfl
      | cons q ps ih =>
        cases vs with
        | nil => rfl
        | cons v vs =>
          rw [List.map_cons, List.map_cons, List.zip_cons_cons, List.zip_cons_cons, List.map_cons, List.map_cons, ih vs (by simpa using hv) (by simp only [List.length_cons] at hp; omega)]
          rfl
  cases p with
  | text w =>
    have : vs = [] := List.length_eq_zero_iff.mp hl
    subst this
    kernel_rfl
  | row us =>
    refine mkF_rt rfl (seq_rt ?_)
    rw [if_t (by kernel_rfl)]
    exact seq_rt (ret_of (tup_of (cons_of rfl (cons_of rfl rfl)) (by show 2 ≤ sizeLine; omega)))
  | table ps =>
    have hp : (ps.map (·.2)).length ≤ 20 := h
    have hv : vs.length = (ps.map (·.2)).length := hl
    rw [List.length_map] at hp hv
    refine mkF_rt rfl (seq_to (δ' := [.sh (Pt.table ps).d, .sh (.lst vs), .un]) (by rw [if_f (by kernel_rfl)]; rfl) (seq_to (δ' := [.sh (Pt.table ps).d, .sh (.lst vs), .un]) (by rw [if_f (by kernel_rfl)]; rfl) (seq_to (set_of (d := .lst (((ps.map (·.1)).zip vs).map pr)) (hc _ ps rfl hv hp)) (seq_rt (ret_of ?_)))))
    rw [o2_of (x := .tup [.str "table"]) (y := .tup [.tup (((ps.map (·.1)).zip vs).map pr)]) rfl (tup_of (cons_of rfl rfl) (by show 1 ≤ sizeLine; omega))]
    rfl
  | rcd c ps =>
    have hp : (ps.map (·.2)).length ≤ 20 := h
    have hv : vs.length = (ps.map (·.2)).length := hl
    rw [List.length_map] at hp hv
    refine mkF_rt rfl (seq_to (δ' := [.sh (Pt.rcd c ps).d, .sh (.lst vs), .un]) (by rw [if_f (by kernel_rfl)]; rfl) (seq_to (δ' := [.sh (Pt.rcd c ps).d, .sh (.lst vs), .un]) (by rw [if_f (by kernel_rfl)]; rfl) (seq_to (set_of (d := .lst (((ps.map (·.1)).zip vs).map pr)) (hc _ ps rfl hv hp)) (seq_rt (ret_of ?_)))))
    rw [o2_of (x := .tup [.str "record", .str c]) (y := .tup [.tup (((ps.map (·.1)).zip vs).map pr)]) rfl (tup_of (cons_of rfl rfl) (by show 1 ≤ sizeLine; omega))]
    rfl
end Km
namespace Km
open PySem DL W K22
open Bw (bs sg cnt kn its tx fold Vb Gp Gq two)
theorem mix_ok (c k : Int) (h0 : 0 ≤ k) (h1 : k ≤ 1000000) : ∃ x, 0 ≤ x ∧ x < 2147483647 ∧ m__law_mix [.int c, .int k] = some (.int x) := Bw.mix_ok c k h0 h1
theorem nd_ins (L : List Nat) (p k : Nat) : nd (L.take p ++ k :: L.drop p) = (nd L).take p ++ .int (k : Int) :: (nd L).drop p := by
  unfold nd
  rw [List.map_append, List.map_cons, List.map_take, List.map_drop]
theorem ins_ok {L : List Nat} {p k : Nat} {g : GE} (W C s4 s5 : Sl) (hg : g [W, C, .ow (.lst (nd L)), .sh (.int (k : Int)), s4, s5] = some (.int (p : Int))) (hp : p ≤ L.length) (hl : L.length ≤ 1000) :
    exprX (insX 2 g (gv 3)) [W, C, .ow (.lst (nd L)), .sh (.int (k : Int)), s4, s5] = some (.nx [W, C, .ow (.lst (nd (L.take p ++ k :: L.drop p))), .sh (.int (k : Int)), s4, s5]) := by
  have zs : (9000 : Nat) ≤ sizeLine := by decide
  unfold exprX insX
  rw [show owL 2 [W, C, .ow (.lst (nd L)), .sh (.int (k : Int)), s4, s5] = some (nd L) from rfl, Option.bind_some, hg, Option.bind_some]
  show Option.map _ (if 0 ≤ (p : Int) ∧ (p : Int) ≤ ((nd L).length : Int) ∧ (nd L).length < sizeLine then some (D.non, ([W, C, .ow (.lst ((nd L).take (p : Int).toNat ++ .int (k : Int) :: (nd L).drop (p : Int).toNat)), .sh (.int (k : Int)), s4, s5] : Ds)) else none) = _
  rw [if_pos ⟨by omega, by rw [nd_len]; omega, by rw [nd_len]; omega⟩, Int.toNat_natCast, nd_ins]
  rfl
theorem rng2_of {gA : GA} {δ : Ds} {i j : Int} (h : gA δ = some [.int i, .int j]) (h1 : -(2 ^ 62) ≤ i ∧ i < 2 ^ 62) (h2 : -(2 ^ 62) ≤ j ∧ j < 2 ^ 62) : rng2I gA δ = some (rngD i j) := by
  unfold rng2I
  rw [h, Option.bind_some]
  simp only [rng2D]
  rw [if_pos ⟨h1, h2⟩]
noncomputable def OB : GS := (seqD (exprX (insX 2 (o2 (gc (.int 1)) (o2 (oA (consA (gv 1) (consA (o2 (gc (.int 100)) (gv 3) addA) nilA)) m__law_mix) (borE (oA (consA (gv 2) nilA) lenD)) modD) addA) (gv 3)))
  nilD)
theorem rng1_get {n : Nat} {j : Nat} {d : D} (h : (rngD 1 (n : Int))[j]? = some d) : j + 1 < n ∧ d = .int ((j + 1 : Nat) : Int) := by
  unfold rngD at h
  rw [List.getElem?_map] at h
  cases e : (List.range ((n : Int) - 1).toNat)[j]? with
  | none => rw [e] at h; cases h
  | some k =>
    rw [e] at h
    cases h
    obtain ⟨h1, h2⟩ := List.getElem?_eq_some_iff.mp e
    rw [List.length_range] at h1
    rw [List.getElem_range] at h2
    subst h2
    refine ⟨by omega, ?_⟩
    show D.int (1 + (j : Int)) = _
    rw [show (1 : Int) + (j : Int) = ((j + 1 : Nat) : Int) by omega]
theorem order_ok (W : Sl) (c : Int) (n : Nat) (h0 : 0 < n ∧ n ≤ 60) (s3 s4 s5 : Sl) : ∃ (L : List Nat) (s3' : Sl), forD (gN 3) OB (rngD 1 (n : Int)) [W, .sh (.int c), .ow (.lst (nd [0])), s3, s4, s5] = some (.nx [W, .sh (.int c), .ow (.lst (nd L)), s3', s4, s5]) ∧ L.length = n ∧ L.Nodup ∧ (∀ k, k ∈ L ↔ k < n) ∧ L[0]? = some 0 := by
  obtain ⟨δ', l1, l2⟩ := forD_inv (f := gN 3) (G := OB) (fun i δ => ∃ (L : List Nat) (s3 : Sl), δ = [W, .sh (.int c), .ow (.lst (nd L)), s3, s4, s5] ∧ L.length = i + 1 ∧ L.Nodup ∧ (∀ k, k ∈ L ↔ k < i + 1) ∧ L[0]? = some 0) (rngD 1 (n : Int)) 0 [W, .sh (.int c), .ow (.lst (nd [0])), s3, s4, s5] (by
    rintro j d δ hj ⟨L, s3, rfl, a1, a2, a3, a4⟩
    obtain ⟨h1, rfl⟩ := rng1_get hj
    rw [Nat.zero_add] at a1 a3 ⊢
    obtain ⟨x, x0, x1, x2⟩ := mix_ok c (100 + ((j + 1 : Nat) : Int)) (by omega) (by omega)
    have m0 : 0 ≤ x % ((j : Int) + 1) := Int.emod_nonneg _ (by omega)
    have m1 : x % ((j : Int) + 1) < (j : Int) + 1 := Int.emod_lt_of_pos _ (by omega)
    obtain ⟨p, hp⟩ : ∃ p : Nat, (p : Int) = 1 + x % ((j : Int) + 1) := ⟨(1 + x % ((j : Int) + 1)).toNat, by omega⟩
    have hpl : p ≤ L.length := by omega
    have hp1 : 1 ≤ p := by omega
    have hk : j + 1 ∉ L := fun z => by have := (a3 _).mp z; omega
    have perm : (L.take p ++ (j + 1) :: L.drop p).Perm ((j + 1) :: L) := by
      have := List.perm_middle (a := j + 1) (l₁ := L.take p) (l₂ := L.drop p)
      rwa [List.take_append_drop] at this
    refine ⟨[W, .sh (.int c), .ow (.lst (nd L)), .sh (.int ((j + 1 : Nat) : Int)), s4, s5], [W, .sh (.int c), .ow (.lst (nd (L.take p ++ (j + 1) :: L.drop p))), .sh (.int ((j + 1 : Nat) : Int)), s4, s5], rfl, seq_to (ins_ok _ _ _ _ ?_ hpl (by omega)) rfl, _, _, rfl, ?_, ?_, fun k => ?_, ?_⟩
    · rw [hp, o2_of (x := .int 1) (y := .int (x % ((j : Int) + 1))) rfl (by
        rw [o2_of (x := .int x) (y := .int ((j : Int) + 1)) (by
          rw [oA_of (ds := [.int c, .int (100 + ((j + 1 : Nat) : Int))]) rfl]
          exact x2) (by
          show Option.bind (some (D.int ((nd L).length : Int))) _ = _
          rw [nd_len, a1]
          show some (D.int ((j + 1 : Nat) : Int)) = _
          congr 2)]
        exact Gw.mod_p _ _ (by omega))]
      rfl
    · rw [perm.length_eq, List.length_cons, a1]
    · exact perm.nodup_iff.mpr (List.nodup_cons.mpr ⟨hk, a2⟩)
    · rw [perm.mem_iff, List.mem_cons, a3]
      omega
    · obtain ⟨a, L', rfl⟩ : ∃ a L', L = a :: L' := by
        cases L with
        | nil => simp at a1
        | cons a L' => exact ⟨a, L', rfl⟩
      obtain ⟨q, rfl⟩ : ∃ q, p = q + 1 := ⟨p - 1, by omega⟩
      rw [List.take_succ_cons]
      exact a4) ⟨[0], s3, rfl, rfl, by simp, fun k => by rw [List.mem_singleton]; omega, rfl⟩
  obtain ⟨L, s3', rfl, b1, b2, b3, b4⟩ := l2
  have hl : (rngD 1 (n : Int)).length = n - 1 := by unfold rngD; rw [List.length_map, List.length_range]; omega
  rw [hl, Nat.zero_add] at b1 b3
  have e : n - 1 + 1 = n := by omega
  rw [e] at b1 b3
  exact ⟨L, s3', l1, b1, b2, b3, b4⟩
theorem put4 {B : List Nat} {k : Nat} (hB : B.length ≤ 60) (hk : k ∉ B) (a b c e : Sl) : asgX (pureX (borE (oA (consA (gv 4) nilA) lenKD))) (putAt 4 (gv 3)) [a, b, c, .sh (.int (k : Int)), .ow (pd (kb B)), e] = some (.nx [a, b, c, .sh (.int (k : Int)), .ow (pd (kb (B ++ [k]))), e]) := by
  have zs : (1000000 : Nat) ≤ sizeLine := by decide
  show Option.map Res.nx (if (kb B).length < sizeLine then some ([a, b, c, .sh (.int (k : Int)), .ow (.dct (.inl (putKs (kb B) (.inl (k : Int)))) (putDs (kb B) (nd (List.range (kb B).length)) (.inl (k : Int)) (.int ((kb B).length : Int)))), e] : Ds) else none) = _
  rw [if_pos (by rw [kb_len]; omega), put_pd (fun z => hk ((kb_mem B k).mp z))]
  unfold kb
  rw [List.map_append]
  rfl
theorem nd_get {L : List Nat} {j : Nat} {d : D} (h : (nd L)[j]? = some d) : ∃ k, L[j]? = some k ∧ d = .int (k : Int) := by
  unfold nd at h
  rw [List.getElem?_map] at h
  cases e : L[j]? with
  | none => rw [e] at h; cases h
  | some k => rw [e] at h; cases h; exact ⟨k, rfl, rfl⟩
theorem not_take {L : List Nat} (hn : L.Nodup) {j k : Nat} (h : L[j]? = some k) : k ∉ L.take j := fun z => by
  obtain ⟨i, hi, e⟩ := List.mem_iff_getElem.mp z
  obtain ⟨hj, ej⟩ := List.getElem?_eq_some_iff.mp h
  rw [List.length_take] at hi
  rw [List.getElem_take] at e
  exact List.pairwise_iff_getElem.mp hn i j (by omega) hj (by omega) (e.trans ej.symm)
noncomputable def N4 : GS := (seqD (asgX (pureX (borE (oA (consA (gv 4) nilA) lenKD))) (putAt 4 (gv 3)))
  nilD)
theorem nums4 (a b c e s3 : Sl) (L : List Nat) (hn : L.Nodup) (hl : L.length ≤ 60) : ∃ s3', forD (gN 3) N4 (nd L) [a, b, c, s3, .ow (.dct (.inl []) []), e] = some (.nx [a, b, c, s3', .ow (pd (kb L)), e]) := by
  obtain ⟨δ', l1, l2⟩ := forD_inv (f := gN 3) (G := N4) (fun i δ => ∃ s3 : Sl, δ = [a, b, c, s3, .ow (pd (kb (L.take i))), e]) (nd L) 0 [a, b, c, s3, .ow (.dct (.inl []) []), e] (by
    rintro j d δ hj ⟨s3, rfl⟩
    obtain ⟨k, hk, rfl⟩ := nd_get hj
    rw [Nat.zero_add]
    have e1 : L.take (j + 1) = L.take j ++ [k] := by rw [List.take_succ, hk]; rfl
    refine ⟨_, _, rfl, seq_to (put4 (by rw [List.length_take]; omega) (not_take hn hk) _ _ _ _) rfl, .sh (.int (k : Int)), by rw [e1]⟩) ⟨s3, rfl⟩
  obtain ⟨s3', rfl⟩ := l2
  rw [nd_len, Nat.zero_add, List.take_length] at l1
  exact ⟨s3', l1⟩
theorem led_at {L : List Nat} {v : D} (h : m__law_led [v, pd (kb L)] = some (lkv (ix L) v)) : oA (consA (gv 0) (consA (gv 1) nilA)) m__law_led [.sh v, .sh (pd (kb L))] = some (lkv (ix L) v) := by
  rw [oA_of (ds := [v, pd (kb L)]) rfl]
  exact h
theorem cmp_led {L : List Nat} {vs : List D} (hv : ∀ v ∈ vs, Vb v) (hl : ∀ i ∈ tgs vs, i ∈ L) : compD (gN 0) noT (oA (consA (gv 0) (consA (gv 1) nilA)) m__law_led) [.un, .sh (pd (kb L))] vs = some (vs.map (lkv (ix L))) := by
  refine compD_map (lkv (ix L)) fun v h => ⟨[.sh v, .sh (pd (kb L))], rfl, rfl, ?_⟩
  have h2 : ∀ j : Nat, v = lkd j → j ∈ L := fun j e => by
    subst e
    exact hl j (in_tgs h)
  exact led_at (led_ok (hv v h) L h2)
noncomputable def RN : GS := (seqD (exprX (appX 5 (oA (consA (o2 (gv 0) (gv 3) ixD) (consA (compG 1 [4] (lstI (oA (consA (o2 (gv 0) (gv 3) ixD) nilA) m__law_some_of)) (gN 0) noT (oA (consA (gv 0) (consA (gv 1) nilA)) m__law_led)) nilA)) m__law_with)))
  nilD)
theorem ren_ok {ps : List Pt} (hw : Wb ps) (c : Int) : ∃ L : List Nat, L.length = ps.length ∧ (∀ k ∈ L, k < ps.length) ∧ (∀ k ∈ L, ∀ i ∈ tgs (ps.getD k (.row [])).vals, i ∈ L) ∧ L[0]? = some 0 ∧ m__law_renumbered [Bw.web ps, .int c] = some (Bw.web (laid ps L)) := by
  have zs : (9000 : Nat) ≤ sizeLine := by decide
  have h60 := hw.len
  obtain ⟨L, s3, l1, b1, b2, b3, b4⟩ := order_ok (.sh (Bw.web ps)) c ps.length hw.len .un .un .un
  have hL : ∀ k ∈ L, k < ps.length := fun k hk => (b3 k).mp hk
  have hc : ∀ k ∈ L, ∀ i ∈ tgs (ps.getD k (.row [])).vals, i ∈ L := fun k hk i hi => (b3 i).mpr (by
    obtain ⟨_, w2⟩ := web_at (hL k hk)
    refine tgs_lt (n := ps.length) (vs := (ps.getD k (.row [])).vals) (fun v hv => ?_) i hi
    have hb := (hw.it _ w2).vals v hv
    have hk := hw.lk _ w2 v hv
    cases hb with
    | non => exact .inl rfl
    | lk j _ => exact .inr (.inr ⟨j, rfl, hk j rfl⟩)
    | int z _ => exact .inr (.inl ⟨z, rfl⟩))
  refine ⟨L, b1, hL, hc, b4, ?_⟩
  obtain ⟨s3', l2⟩ := nums4 (.sh (Bw.web ps)) (.sh (.int c)) (.sh (.lst (nd L))) .un s3 L b2 (by omega)
  obtain ⟨δ', l3, l4⟩ := forD_inv (f := gN 3) (G := RN) (fun i δ => ∃ s : Sl, δ = [.sh (Bw.web ps), .sh (.int c), .sh (.lst (nd L)), s, .sh (pd (kb L)), .ow (.lst ((L.take i).map fun k => (rel (ix L) (ps.getD k (.row []))).d))]) (nd L) 0 [.sh (Bw.web ps), .sh (.int c), .sh (.lst (nd L)), s3', .sh (pd (kb L)), .ow (.lst [])] (by
    rintro j d δ hj ⟨s, rfl⟩
    obtain ⟨k, hk, rfl⟩ := nd_get hj
    have hkm := List.mem_of_getElem? hk
    rw [Nat.zero_add]
    obtain ⟨w1, w2⟩ := web_at (hL k hkm)
    have hq := hw.it _ w2
    have hcl := hc k hkm
    obtain ⟨f1, f2⟩ := few_of hq
    have e1 : (L.take (j + 1)).map (fun k => (rel (ix L) (ps.getD k (.row []))).d) = (L.take j).map (fun k => (rel (ix L) (ps.getD k (.row []))).d) ++ [(rel (ix L) (ps.getD k (.row []))).d] := by rw [List.take_succ, hk, List.map_append]; rfl
    generalize ps.getD k (.row []) = p at w1 w2 hq hcl f1 f2 e1
    refine ⟨[.sh (Bw.web ps), .sh (.int c), .sh (.lst (nd L)), .sh (.int (k : Int)), .sh (pd (kb L)), .ow (.lst ((L.take j).map fun k => (rel (ix L) (ps.getD k (.row []))).d))], _, rfl, seq_to (Gw.app_ow (l := (L.take j).map fun k => (rel (ix L) (ps.getD k (.row []))).d) (d := (rel (ix L) p).d) rfl ?_ (by rw [List.length_map, List.length_take]; omega)) rfl, .sh (.int (k : Int)), by rw [e1]; rfl⟩
    have g1 : ∀ δ : Ds, o2 (gv 0) (gv 3) ixD (.sh (Bw.web ps) :: .sh (.int c) :: .sh (.lst (nd L)) :: .sh (.int (k : Int)) :: δ) = some p.d := fun δ => by
      rw [o2_of (x := Bw.web ps) (y := .int (k : Int)) rfl rfl]
      exact w1
    rw [oA_of (ds := [p.d, .lst (p.vals.map (lkv (ix L)))]) (cons_of (g1 _) (cons_of (comp_of (items := p.vals) (by
      show Option.bind (oA (consA (o2 (gv 0) (gv 3) ixD) nilA) m__law_some_of _) asLst = _
      rw [oA_of (ds := [p.d]) (cons_of (g1 _) rfl), some_ok p f1]
      rfl) f1 (cmp_led hq.vals hcl)) rfl))]
    exact with_ok p f2 _ (by rw [List.length_map])) ⟨s3', rfl⟩
  obtain ⟨s, rfl⟩ := l4
  rw [nd_len, Nat.zero_add, List.take_length] at l3
  refine mkF_rt rfl (seq_to (δ' := [.sh (Bw.web ps), .sh (.int c), .ow (.lst (nd [0])), .un, .un, .un]) rfl (seq_to (for_of (items := rngD 1 (ps.length : Int)) ?_ l1) (seq_to (δ' := [.sh (Bw.web ps), .sh (.int c), .sh (.lst (nd L)), s3, .ow (.dct (.inl []) []), .un]) rfl (seq_to (for_of (items := nd L) rfl l2) (seq_to (δ' := [.sh (Bw.web ps), .sh (.int c), .sh (.lst (nd L)), s3', .sh (pd (kb L)), .ow (.lst [])]) rfl (seq_to (for_of (items := nd L) rfl l3) (seq_rt (ret_of ?_))))))))
  · refine rng2_of (cons_of (d := .int 1) (ds := [.int (ps.length : Int)]) rfl (cons_of ?_ rfl)) (by omega) (by omega)
    rw [oA_of (ds := [Bw.web ps]) rfl]
    show some (D.int ((ps.map Pt.d).length : Int)) = _
    rw [List.length_map]
  · show oA (consA (gv 5) nilA) tupOfD [.sh (Bw.web ps), .sh (.int c), .sh (.lst (nd L)), s, .sh (pd (kb L)), .sh (.lst (L.map fun k => (rel (ix L) (ps.getD k (.row []))).d))] = _
    rw [oA_of (ds := [.lst (L.map fun k => (rel (ix L) (ps.getD k (.row []))).d)]) rfl]
    show some (D.tup _) = some (D.tup ((L.map fun k => rel (ix L) (ps.getD k (.row []))).map Pt.d))
    rw [List.map_map]
    rfl
end Km
namespace Km
open PySem DL W K22
open Bw (bs sg cnt kn its tx fold Vb Gp Gq two)
theorem lv_of {n : Nat} {v : D} (hb : Vb v) (hk : Bw.Lk n v) : Lv n v := by
  cases hb with
  | non => exact .inl rfl
  | lk j _ => exact .inr (.inr ⟨j, rfl, hk j rfl⟩)
  | int z _ => exact .inr (.inl ⟨z, rfl⟩)
noncomputable def LG : GE := compG 1 [] (anyI (gv 1)) (gN 0) (ob (isiG isTup (gv 0))) (o2 (gv 0) (gc (.int 1)) ixD)
theorem lg_ok {n : Nat} {X Y : D} {vs : List D} (hv : ∀ v ∈ vs, Lv n v) (hl : vs.length ≤ 20) (hY : asSeq Y = some vs) : LG [.sh X, .sh Y] = some (.lst (nd (tgs vs))) := by
  have z : (1000 : Nat) ≤ sizeLine := by decide
  exact comp_of (items := vs) hY (by omega) (link_comp vs hv)
theorem snd_comp (ps : List (Str × D)) : compD (gN 0) noT (o2 (gv 0) (gc (.int 1)) ixD) [.un] (ps.map pr) = some (ps.map (·.2)) := by
  rw [compD_map (fun d => match d with | .tup [_, b] => b | _ => .non) (fun d hd => by
    obtain ⟨q, _, rfl⟩ := List.mem_map.mp hd
    exact ⟨[.sh (pr q)], rfl, rfl, rfl⟩), List.map_map]
  rfl
theorem links_ok {n : Nat} {p : Pt} (hq : Gq p) (hk : ∀ v ∈ p.vals, Bw.Lk n v) : m__law_links [p.d] = some (.lst (nd (tgs p.vals))) := by
  have z : (1000 : Nat) ≤ sizeLine := by decide
  have hv : ∀ v ∈ p.vals, Lv n v := fun v h => lv_of (hq.vals v h) (hk v h)
  have hl := (few_of hq).2
  cases p with
  | text w => kernel_rfl
  | row vs =>
    refine mkN_rf rfl (seq_to (δ' := [.sh (Pt.row vs).d, .un]) (by rw [if_f (by kernel_rfl)]; rfl) (seq_to (δ' := [.sh (Pt.row vs).d, .sh (.tup vs)]) rfl (seq_to (δ' := [.sh (Pt.row vs).d, .sh (.tup vs)]) (by rw [if_f (by kernel_rfl)]; rfl) (seq_rf (retF_of ?_)))))
    exact lg_ok hv hl rfl
  | table ps =>
    have hp : ps.length ≤ 20 := by have : (ps.map (·.2)).length ≤ 20 := hl; rwa [List.length_map] at this
    refine mkN_rf rfl (seq_to (δ' := [.sh (Pt.table ps).d, .un]) (by rw [if_f (by kernel_rfl)]; rfl) (seq_to (δ' := [.sh (Pt.table ps).d, .sh (.tup (ps.map pr))]) rfl (seq_to (δ' := [.sh (Pt.table ps).d, .sh (.lst (ps.map (·.2)))]) ?_ (seq_rf (retF_of ?_)))))
    · rw [if_t (by kernel_rfl)]
      exact seq_to (set_of (d := .lst (ps.map fun q : Str × D => q.2)) (comp_of (items := ps.map pr) rfl (by rw [List.length_map]; omega) (snd_comp ps))) rfl
    · exact lg_ok hv hl rfl
  | rcd c ps =>
    have hp : ps.length ≤ 20 := by have : (ps.map (·.2)).length ≤ 20 := hl; rwa [List.length_map] at this
    refine mkN_rf rfl (seq_to (δ' := [.sh (Pt.rcd c ps).d, .un]) (by rw [if_f (by kernel_rfl)]; rfl) (seq_to (δ' := [.sh (Pt.rcd c ps).d, .sh (.tup (ps.map pr))]) rfl (seq_to (δ' := [.sh (Pt.rcd c ps).d, .sh (.lst (ps.map (·.2)))]) ?_ (seq_rf (retF_of ?_)))))
    · rw [if_t (by kernel_rfl)]
      exact seq_to (set_of (d := .lst (ps.map fun q : Str × D => q.2)) (comp_of (items := ps.map pr) rfl (by rw [List.length_map]; omega) (snd_comp ps))) rfl
    · exact lg_ok hv hl rfl
theorem Wb.tg {ps : List Pt} (hw : Wb ps) {k : Nat} (hk : k < ps.length) : (∀ i ∈ tgs (ps.getD k (.row [])).vals, i < ps.length) ∧ (tgs (ps.getD k (.row [])).vals).length ≤ 20 := by
  obtain ⟨_, w2⟩ := web_at hk
  have hq := hw.it _ w2
  exact ⟨tgs_lt (n := ps.length) fun v hv => lv_of (hq.vals v hv) (hw.lk _ w2 v hv), Nat.le_trans (tgs_len _) (few_of hq).2⟩
theorem get_d {ps : List Pt} {i : Nat} (hi : i < ps.length) : (ps.map Pt.d).getD i .non = (ps.getD i (.row [])).d := by simp [List.getD_eq_getElem?_getD, hi]
theorem Wb.good {ps : List Pt} (hw : Wb ps) : GoodL (Bw.web ps) ps.length := ⟨hw.len.2, ps.map Pt.d, rfl, by rw [List.length_map], fun i hi => by
  obtain ⟨_, w2⟩ := web_at hi
  obtain ⟨t1, t2⟩ := hw.tg hi
  exact ⟨_, by rw [get_d hi]; exact links_ok (hw.it _ w2) (hw.lk _ w2), t2, t1⟩⟩
theorem Wb.adj {ps : List Pt} (hw : Wb ps) {i : Nat} (hi : i < ps.length) : adjL (Bw.web ps) i = tgs (ps.getD i (.row [])).vals := by
  obtain ⟨_, w2⟩ := web_at hi
  show (match m__law_links [(ps.map Pt.d).getD i .non] with | some (.lst vs) => nn vs | _ => []) = _
  rw [get_d hi, links_ok (hw.it _ w2) (hw.lk _ w2)]
  exact nn_nd _
theorem dfs_ex20 (adj : Nat → List Nat) (n : Nat) (hn : n ≤ 60) (ha : ∀ i, i < n → (adj i).length ≤ 20 ∧ ∀ j ∈ adj i, j < n) : ∀ (M : Nat) (o T : List Nat), T.length + 21 * (n - o.length) ≤ M → M ≤ 5000 → o.Nodup → (∀ x ∈ o, x < n) → (∀ x ∈ T, x < n) →
    ∃ c r, Dfs adj [] c o T r ∧ r.Nodup ∧ ∀ x ∈ r, x < n := by
  intro M
  induction M with
  | zero =>
    intro o T hM hM2 ho hon hT
    have : T = [] := List.length_eq_zero_iff.mp (by omega)
    subst this
    exact ⟨0, o, .nil o, ho, hon⟩
  | succ M ih =>
    intro o T hM hM2 ho hon hT
    cases T with
    | nil => exact ⟨0, o, .nil o, ho, hon⟩
    | cons x T =>
      rw [List.length_cons] at hM
      by_cases hx : x ∈ o
      · obtain ⟨c, r, h1, h3⟩ := ih o T (by omega) (by omega) ho hon fun y hy => hT y (List.mem_cons_of_mem _ hy)
        exact ⟨c + 1, r, .skip (.inl hx) h1, h3⟩
      · have hxn := hT x List.mem_cons_self
        obtain ⟨hl, hj⟩ := ha x hxn
        have hnd : (o ++ [x]).Nodup := List.nodup_append.mpr ⟨ho, by simp, fun a ha b hb e => by
          have := List.mem_singleton.mp hb
          subst this; subst e; exact hx ha⟩
        have hin : ∀ y ∈ o ++ [x], y < n := fun y hy => by
          rcases List.mem_append.mp hy with z | z
          · exact hon y z
          · have := List.mem_singleton.mp z; subst this; exact hxn
        have hlen : (o ++ [x]).length ≤ n := by
          have := sub_len hnd (m := List.range n) fun y hy => List.mem_range.mpr (hin y hy)
          rwa [List.length_range] at this
        rw [List.length_append, List.length_singleton] at hlen
        obtain ⟨c, r, h1, h3, h4⟩ := ih (o ++ [x]) (adj x ++ T) (by simp only [List.length_append, List.length_singleton]; omega) (by omega) hnd hin (fun y hy => by
          rcases List.mem_append.mp hy with z | z
          · exact hj y z
          · exact hT y (List.mem_cons_of_mem _ z))
        exact ⟨c + 1, r, .visit hx (fun z => by cases z) (by rw [List.length_append]; omega) h1, h3, h4⟩
theorem come_ok {ps : List Pt} (hw : Wb ps) {a : Nat} (ha : a < ps.length) : ∃ L : List Nat, L.Nodup ∧ (∀ k ∈ L, k < ps.length) ∧ (∀ k ∈ L, ∀ i ∈ tgs (ps.getD k (.row [])).vals, i ∈ L) ∧ L[0]? = some a ∧ m__law_come [Bw.web ps, .int (a : Int), .lst []] = some (nd L) := by
  have h60 := hw.len
  have hadj : ∀ i, i < ps.length → (adjL (Bw.web ps) i).length ≤ 20 ∧ ∀ j ∈ adjL (Bw.web ps) i, j < ps.length := fun i hi => by
    rw [hw.adj hi]
    exact ⟨(hw.tg hi).2, (hw.tg hi).1⟩
  obtain ⟨c, r, h1, h2, h3⟩ := dfs_ex20 (adjL (Bw.web ps)) ps.length h60.2 hadj 2000 [] [a] (by simp only [List.length_cons, List.length_nil]; omega) (by decide) List.nodup_nil (fun x hx => by cases hx) (fun x hx => by rw [List.mem_singleton.mp hx]; exact ha)
  have hv := vis_of (fun i hi => (hadj i hi).2) h1 ha 62 (by omega)
  have hf := (dfs_facts h1 (fun i hi => by cases hi)).2
  have hr0 : r[0]? = some a := by
    cases h1 with
    | skip hx _ => exact hx.elim (fun z => by cases z) (fun z => by cases z)
    | visit _ _ _ hd =>
      obtain ⟨⟨s, rfl⟩, _⟩ := dfs_facts hd (fun i hi j hj => by
        rw [List.nil_append] at hi
        rw [List.mem_singleton.mp hi] at hj
        exact .inr (.inr (List.mem_append_left _ hj)))
      rfl
  refine ⟨r, h2, h3, fun k hk i hi => ?_, hr0, ?_⟩
  · rw [← hw.adj (h3 k hk)] at hi
    rcases hf k hk i hi with z | z
    · exact z
    · cases z
  · show mR__law_come 62 [Bw.web ps, .int (a : Int), .lst (nd [])] = _
    rw [mR_at hw.good [] 62 a ha List.nodup_nil (fun x hx => by cases hx), hv]
    rfl
theorem put3 {B : List Nat} {k : Nat} (hB : B.length ≤ 60) (hk : k ∉ B) (a b c e f g : Sl) : asgX (pureX (borE (oA (consA (gv 3) nilA) lenKD))) (putAt 3 (gv 4)) [a, b, c, .ow (pd (kb B)), .sh (.int (k : Int)), e, f, g] = some (.nx [a, b, c, .ow (pd (kb (B ++ [k]))), .sh (.int (k : Int)), e, f, g]) := by
  have zs : (1000000 : Nat) ≤ sizeLine := by decide
  show Option.map Res.nx (if (kb B).length < sizeLine then some ([a, b, c, .ow (.dct (.inl (putKs (kb B) (.inl (k : Int)))) (putDs (kb B) (nd (List.range (kb B).length)) (.inl (k : Int)) (.int ((kb B).length : Int)))), .sh (.int (k : Int)), e, f, g] : Ds) else none) = _
  rw [if_pos (by rw [kb_len]; omega), put_pd (fun z => hk ((kb_mem B k).mp z))]
  unfold kb
  rw [List.map_append]
  rfl
noncomputable def N3 : GS := (seqD (asgX (pureX (borE (oA (consA (gv 3) nilA) lenKD))) (putAt 3 (gv 4)))
  nilD)
theorem nums3 (a b c e f g s : Sl) (L : List Nat) (hn : L.Nodup) (hl : L.length ≤ 60) : ∃ s', forD (gN 4) N3 (nd L) [a, b, c, .ow (.dct (.inl []) []), s, e, f, g] = some (.nx [a, b, c, .ow (pd (kb L)), s', e, f, g]) := by
  obtain ⟨δ', l1, l2⟩ := forD_inv (f := gN 4) (G := N3) (fun i δ => ∃ s : Sl, δ = [a, b, c, .ow (pd (kb (L.take i))), s, e, f, g]) (nd L) 0 [a, b, c, .ow (.dct (.inl []) []), s, e, f, g] (by
    rintro j d δ hj ⟨s, rfl⟩
    obtain ⟨k, hk, rfl⟩ := nd_get hj
    rw [Nat.zero_add]
    have e1 : L.take (j + 1) = L.take j ++ [k] := by rw [List.take_succ, hk]; rfl
    refine ⟨_, _, rfl, seq_to (put3 (by rw [List.length_take]; omega) (not_take hn hk) _ _ _ _ _ _) rfl, .sh (.int (k : Int)), by rw [e1]⟩) ⟨s, rfl⟩
  obtain ⟨s', rfl⟩ := l2
  rw [nd_len, Nat.zero_add, List.take_length] at l1
  exact ⟨s', l1⟩
noncomputable def R1 : GS := (seqD (setD (gN 6) (tupG (consA (gc (.str "row")) (consA (oA (consA (compG 1 [3] (tupI (o2 (gv 6) (gc (.int 1)) ixD)) (gN 0) noT (oA (consA (gv 0) (consA (gv 1) nilA)) m__law_led)) nilA) tupOfD) nilA))))
  nilD)
noncomputable def R2 : GS := (seqD (setD (gN 7) (compG 2 [3] (tupI (o2 (gv 6) (unG negD (gc (.int 1))) ixD)) (tup2 0 1) noT (tupG (consA (gv 0) (consA (oA (consA (gv 1) (consA (gv 2) nilA)) m__law_led) nilA)))))
  (seqD (setD (gN 6) (o2 (slAG (gv 6) noneO (someO (unG negD (gc (.int 1))))) (tupG (consA (oA (consA (gv 7) nilA) tupOfD) nilA)) addA))
  nilD))
noncomputable def R3 : GS := (seqD (ifD (ob (o2 (o2 (gv 6) (gc (.int 0)) ixD) (gc (.str "text")) neD)) R2 nilD) nilD)
noncomputable def R4 : GS := (ifD (ob (o2 (o2 (gv 6) (gc (.int 0)) ixD) (gc (.str "row")) eqD)) R1 R3)
theorem pr_comp {L : List Nat} {ps : List (Str × D)} (hv : ∀ v ∈ ps.map (·.2), Vb v) (hl : ∀ i ∈ tgs (ps.map (·.2)), i ∈ L) : compD (tup2 0 1) noT (tupG (consA (gv 0) (consA (oA (consA (gv 1) (consA (gv 2) nilA)) m__law_led) nilA))) [.un, .un, .sh (pd (kb L))] (ps.map pr) = some ((ps.map fun q : Str × D => (q.1, lkv (ix L) q.2)).map pr) := by
  have z : (2 : Nat) ≤ sizeLine := by decide
  rw [compD_map (fun d => match d with | .tup [a, b] => .tup [a, lkv (ix L) b] | _ => .non) (fun d hd => by
    obtain ⟨q, hq, rfl⟩ := List.mem_map.mp hd
    have hm : q.2 ∈ ps.map (·.2) := List.mem_map.mpr ⟨q, hq, rfl⟩
    refine ⟨[.sh (.str q.1), .sh q.2, .sh (pd (kb L))], rfl, rfl, tup_of (cons_of rfl (cons_of (d := lkv (ix L) q.2) ?_ rfl)) z⟩
    rw [oA_of (ds := [q.2, pd (kb L)]) rfl]
    exact led_ok (hv _ hm) L fun j e => hl j (in_tgs (by rw [e] at hm; exact hm))), List.map_map, List.map_map]
  rfl
theorem r4_ok {L : List Nat} {p : Pt} (hq : Gq p) (hl : ∀ i ∈ tgs p.vals, i ∈ L) (a b c d e s7 : Sl) : ∃ s7', R4 [a, b, c, .sh (pd (kb L)), d, e, .sh p.d, s7] = some (.nx [a, b, c, .sh (pd (kb L)), d, e, .sh (rel (ix L) p).d, s7']) := by
  have z : (1000 : Nat) ≤ sizeLine := by decide
  have hv := hq.vals
  have h20 := (few_of hq).2
  cases p with
  | text w =>
    refine ⟨s7, ?_⟩
    show ifD _ _ _ [a, b, c, .sh (pd (kb L)), d, e, .sh (Pt.text w).d, s7] = _
    rw [if_f (by kernel_rfl)]
    refine seq_to (δ' := [a, b, c, .sh (pd (kb L)), d, e, .sh (Pt.text w).d, s7]) ?_ rfl
    rw [if_f (by kernel_rfl)]
    rfl
  | row vs =>
    refine ⟨s7, ?_⟩
    show ifD _ _ _ [a, b, c, .sh (pd (kb L)), d, e, .sh (Pt.row vs).d, s7] = _
    rw [if_t (by kernel_rfl)]
    have h20 : vs.length ≤ 20 := h20
    refine seq_to (set_of (d := (rel (ix L) (.row vs)).d) (tup_of (cons_of rfl (cons_of (d := .tup (vs.map (lkv (ix L)))) ?_ rfl)) (by show 2 ≤ sizeLine; omega))) rfl
    rw [oA_of (ds := [.lst (vs.map (lkv (ix L)))]) (cons_of (comp_of (items := vs) rfl (by omega) (cmp_led hv hl)) rfl)]
    rfl
  | table ps =>
    have hp : ps.length ≤ 20 := by have : (ps.map (·.2)).length ≤ 20 := h20; rwa [List.length_map] at this
    have er : rel (ix L) (.table ps) = .table (ps.map fun q : Str × D => (q.1, lkv (ix L) q.2)) := congrArg Pt.table (zip_snd (lkv (ix L)) ps)
    rw [er]
    refine ⟨.sh (.lst ((ps.map fun q : Str × D => (q.1, lkv (ix L) q.2)).map pr)), ?_⟩
    show ifD _ _ _ [a, b, c, .sh (pd (kb L)), d, e, .sh (Pt.table ps).d, s7] = _
    rw [if_f (by kernel_rfl)]
    refine seq_to (δ' := [a, b, c, .sh (pd (kb L)), d, e, .sh (Pt.table (ps.map fun q : Str × D => (q.1, lkv (ix L) q.2))).d, .sh (.lst ((ps.map fun q : Str × D => (q.1, lkv (ix L) q.2)).map pr))]) ?_ rfl
    rw [if_t (by kernel_rfl)]
    refine seq_to (set_of (d := .lst ((ps.map fun q : Str × D => (q.1, lkv (ix L) q.2)).map pr)) (comp_of (items := ps.map pr) rfl (by rw [List.length_map]; omega) (pr_comp hv hl))) (seq_to (set_of ?_) rfl)
    rw [o2_of (x := .tup [.str "table"]) (y := .tup [.tup ((ps.map fun q : Str × D => (q.1, lkv (ix L) q.2)).map pr)]) rfl (tup_of (cons_of rfl rfl) (by show 1 ≤ sizeLine; omega))]
    rfl
  | rcd cl ps =>
    have hp : ps.length ≤ 20 := by have : (ps.map (·.2)).length ≤ 20 := h20; rwa [List.length_map] at this
    have er : rel (ix L) (.rcd cl ps) = .rcd cl (ps.map fun q : Str × D => (q.1, lkv (ix L) q.2)) := congrArg (Pt.rcd cl) (zip_snd (lkv (ix L)) ps)
    rw [er]
    refine ⟨.sh (.lst ((ps.map fun q : Str × D => (q.1, lkv (ix L) q.2)).map pr)), ?_⟩
    show ifD _ _ _ [a, b, c, .sh (pd (kb L)), d, e, .sh (Pt.rcd cl ps).d, s7] = _
    rw [if_f (by kernel_rfl)]
    refine seq_to (δ' := [a, b, c, .sh (pd (kb L)), d, e, .sh (Pt.rcd cl (ps.map fun q : Str × D => (q.1, lkv (ix L) q.2))).d, .sh (.lst ((ps.map fun q : Str × D => (q.1, lkv (ix L) q.2)).map pr))]) ?_ rfl
    rw [if_t (by kernel_rfl)]
    refine seq_to (set_of (d := .lst ((ps.map fun q : Str × D => (q.1, lkv (ix L) q.2)).map pr)) (comp_of (items := ps.map pr) rfl (by rw [List.length_map]; omega) (pr_comp hv hl))) (seq_to (set_of ?_) rfl)
    rw [o2_of (x := .tup [.str "record", .str cl]) (y := .tup [.tup ((ps.map fun q : Str × D => (q.1, lkv (ix L) q.2)).map pr)]) rfl (tup_of (cons_of rfl rfl) (by show 1 ≤ sizeLine; omega))]
    rfl
noncomputable def DR : GS := (seqD (setD (gN 6) (o2 (gv 0) (gv 4) ixD))
  (seqD R4
  (seqD (exprX (appX 5 (gv 6)))
  nilD)))
theorem drawn_ok {ps : List Pt} (hw : Wb ps) {a : Nat} (ha : a < ps.length) : ∃ L : List Nat, (0 < L.length ∧ L.length ≤ 60) ∧ (∀ k ∈ L, k < ps.length) ∧ (∀ k ∈ L, ∀ i ∈ tgs (ps.getD k (.row [])).vals, i ∈ L) ∧ L[0]? = some a ∧ m__law_drawn [Bw.web ps, .int (a : Int)] = some (Bw.web (laid ps L)) := by
  have zs : (9000 : Nat) ≤ sizeLine := by decide
  have h60 := hw.len
  obtain ⟨L, b2, hL, hc, b4, hcome⟩ := come_ok hw ha
  have hlen : L.length ≤ 60 := by
    have := sub_len b2 (m := List.range ps.length) fun y hy => List.mem_range.mpr (hL y hy)
    rw [List.length_range] at this
    omega
  have hpos : 0 < L.length := by
    cases L with
    | nil => cases b4
    | cons _ _ => simp
  refine ⟨L, ⟨hpos, hlen⟩, hL, hc, b4, ?_⟩
  obtain ⟨s4, l2⟩ := nums3 (.sh (Bw.web ps)) (.sh (.int (a : Int))) (.sh (.lst (nd L))) .un .un .un .un L b2 hlen
  obtain ⟨δ', l3, l4⟩ := forD_inv (f := gN 4) (G := DR) (fun i δ => ∃ s s6 s7 : Sl, δ = [.sh (Bw.web ps), .sh (.int (a : Int)), .sh (.lst (nd L)), .sh (pd (kb L)), s, .ow (.lst ((L.take i).map fun k => (rel (ix L) (ps.getD k (.row []))).d)), s6, s7]) (nd L) 0 [.sh (Bw.web ps), .sh (.int (a : Int)), .sh (.lst (nd L)), .sh (pd (kb L)), s4, .ow (.lst []), .un, .un] (by
    rintro j d δ hj ⟨s, s6, s7, rfl⟩
    obtain ⟨k, hk, rfl⟩ := nd_get hj
    have hkm := List.mem_of_getElem? hk
    rw [Nat.zero_add]
    obtain ⟨w1, w2⟩ := web_at (hL k hkm)
    have hq := hw.it _ w2
    have hcl := hc k hkm
    have e1 : (L.take (j + 1)).map (fun k => (rel (ix L) (ps.getD k (.row []))).d) = (L.take j).map (fun k => (rel (ix L) (ps.getD k (.row []))).d) ++ [(rel (ix L) (ps.getD k (.row []))).d] := by rw [List.take_succ, hk, List.map_append]; rfl
    generalize ps.getD k (.row []) = p at w1 w2 hq hcl e1
    obtain ⟨s7', hr⟩ := r4_ok hq hcl (.sh (Bw.web ps)) (.sh (.int (a : Int))) (.sh (.lst (nd L))) (.sh (.int (k : Int))) (.ow (.lst ((L.take j).map fun k => (rel (ix L) (ps.getD k (.row []))).d))) s7
    refine ⟨[.sh (Bw.web ps), .sh (.int (a : Int)), .sh (.lst (nd L)), .sh (pd (kb L)), .sh (.int (k : Int)), .ow (.lst ((L.take j).map fun k => (rel (ix L) (ps.getD k (.row []))).d)), s6, s7], _, rfl, seq_to (set_of (d := p.d) ?_) (seq_to hr (seq_to (Gw.app_ow (l := (L.take j).map fun k => (rel (ix L) (ps.getD k (.row []))).d) (d := (rel (ix L) p).d) rfl rfl (by rw [List.length_map, List.length_take]; omega)) rfl)), .sh (.int (k : Int)), .sh (rel (ix L) p).d, s7', by rw [e1]; rfl⟩
    rw [o2_of (x := Bw.web ps) (y := .int (k : Int)) rfl rfl]
    exact w1) ⟨s4, .un, .un, rfl⟩
  obtain ⟨s, s6, s7, rfl⟩ := l4
  rw [nd_len, Nat.zero_add, List.take_length] at l3
  refine mkF_rt rfl (seq_to (δ' := [.sh (Bw.web ps), .sh (.int (a : Int)), .ow (.lst []), .un, .un, .un, .un, .un]) rfl (seq_to (δ' := [.sh (Bw.web ps), .sh (.int (a : Int)), .ow (.lst (nd L)), .un, .un, .un, .un, .un]) ?_ (seq_to (δ' := [.sh (Bw.web ps), .sh (.int (a : Int)), .sh (.lst (nd L)), .ow (.dct (.inl []) []), .un, .un, .un, .un]) rfl (seq_to (for_of (items := nd L) rfl l2) (seq_to (δ' := [.sh (Bw.web ps), .sh (.int (a : Int)), .sh (.lst (nd L)), .sh (pd (kb L)), s4, .ow (.lst []), .un, .un]) rfl (seq_to (for_of (items := nd L) rfl l3) (seq_rt (ret_of ?_))))))))
  · unfold callM
    show Option.map _ (m__law_come [Bw.web ps, .int (a : Int), .lst []]) = _
    rw [hcome]
    rfl
  · show oA (consA (gv 5) nilA) tupOfD [.sh (Bw.web ps), .sh (.int (a : Int)), .sh (.lst (nd L)), .sh (pd (kb L)), s, .sh (.lst (L.map fun k => (rel (ix L) (ps.getD k (.row []))).d)), frz1 s6, frz1 s7] = _
    rw [oA_of (ds := [.lst (L.map fun k => (rel (ix L) (ps.getD k (.row []))).d)]) rfl]
    show some (D.tup _) = some (D.tup ((L.map fun k => rel (ix L) (ps.getD k (.row []))).map Pt.d))
    rw [List.map_map]
    rfl
end Km
namespace Km
open PySem DL W K22
open Bw (bs sg cnt kn its tx fold Vb Gp Gq two)
theorem cell_b (ns : List Int) (hb : ∀ z ∈ ns, z.natAbs.log2 ≤ 1048576) (k : Int) (h0 : 0 ≤ k) (h1 : k ≤ 1000) : ∃ z, m__law_cell_at [.lst (ns.map .int), .int k] = some (.int z) ∧ z.natAbs.log2 ≤ 1048576 := Bw.cell_b ns hb k h0 h1
theorem built_ok (ns : List Int) (hb : ∀ z ∈ ns, z.natAbs.log2 ≤ 1048576) (a : Int) (ha : 0 ≤ a ∧ a ≤ 100) (most : Int) (hm : 0 < most ∧ most ≤ 60) : ∃ ps : List Pt, m__law_built [.lst (ns.map .int), .int a, .int most] = some (Bw.web ps) ∧ Wb ps := by
  obtain ⟨ps, h1, h2, h3, h4⟩ := Bw.built_ok ns hb a ha most hm
  exact ⟨ps, h1, ⟨h3, h2.len⟩, h2.it, h4⟩
theorem ix_head {L : List Nat} {a : Nat} (h : L[0]? = some a) : ix L a = 0 ∧ a ∈ L := by
  cases L with
  | nil => cases h
  | cons b L =>
    have : b = a := by injection h
    subst this
    exact ⟨by unfold ix; rw [if_pos rfl], List.mem_cons_self⟩
theorem laid_pak {ps : List Pt} (hw : Wb ps) {L : List Nat} (hL : ∀ k ∈ L, k < ps.length) (hc : ∀ k ∈ L, ∀ i ∈ tgs (ps.getD k (.row [])).vals, i ∈ L) (h0 : L[0]? = some 0) : pak (laid ps L) 0 = pak ps 0 := by
  obtain ⟨a, b⟩ := ix_head h0
  have := pak_sim (laid_sim hw hL hc) b
  rwa [a] at this
noncomputable def LT : GB := (tNotG (ob (oA (consA (oA (consA (gv 4) nilA) m_mark) (consA (gv 3) nilA)) m__law_is)))
noncomputable def LB : GS := (seqD (ifD LT
  (seqD (retD (gc (.bl false)))
  nilD)
  nilD)
  nilD)
theorem law_true (ns : List Int) (hl : ns.length ≤ 63) (hb : ∀ z ∈ ns, z.natAbs.log2 ≤ 1048576) : m_law [.lst (ns.map .int)] = some (.bl true) := by
  have zs : (1000 : Nat) ≤ sizeLine := by decide
  obtain ⟨c0, e0, _⟩ := cell_b ns hb 0 (by decide) (by decide)
  obtain ⟨c, ec, _⟩ := cell_b ns hb 40 (by decide) (by decide)
  obtain ⟨most, hm, hme⟩ : ∃ most : Int, (0 < most ∧ most ≤ 60) ∧ ∀ δ : Ds, o2 (lstG (consA (gc (.int 16)) (consA (gc (.int 60)) nilA))) (oA (consA (o2 (o2 (oA (consA (gv 0) (consA (gc (.int 0)) nilA)) m__law_cell_at) (gc (.int 8)) modD) (gc (.int 5)) eqD) nilA) intOfD) ixD (.sh (.lst (ns.map .int)) :: δ) = some (.int most) := by
    have t : ∀ δ : Ds, oA (consA (o2 (o2 (oA (consA (gv 0) (consA (gc (.int 0)) nilA)) m__law_cell_at) (gc (.int 8)) modD) (gc (.int 5)) eqD) nilA) intOfD (.sh (.lst (ns.map .int)) :: δ) = intOfD [.bl (decide (c0 % 8 = 5))] := fun δ => oA_of (ds := [.bl (decide (c0 % 8 = 5))]) (cons_of (by
      rw [o2_of (x := .int (c0 % 8)) (y := .int 5) (by
        rw [o2_of (x := .int c0) (y := .int 8) (by rw [oA_of (ds := [.lst (ns.map .int), .int 0]) rfl]; exact e0) rfl]
        rfl) rfl]
      rfl) rfl)
    by_cases h : c0 % 8 = 5
    · refine ⟨60, by decide, fun δ => ?_⟩
      rw [o2_of (x := .lst [.int 16, .int 60]) (y := .int 1) (lst_of rfl (by show 2 ≤ sizeLine; omega)) (by rw [t, decide_eq_true h]; rfl)]
      rfl
    · refine ⟨16, by decide, fun δ => ?_⟩
      rw [o2_of (x := .lst [.int 16, .int 60]) (y := .int 0) (lst_of rfl (by show 2 ≤ sizeLine; omega)) (by rw [t, decide_eq_false h]; rfl)]
      rfl
  obtain ⟨ps, hp, hw⟩ := built_ok ns hb 1 (by decide) most hm
  have h60 := hw.len
  obtain ⟨pk1, pk2⟩ := pack_ok hw
  have hmk := mark_ok hw
  have hdu := due_ok (pak ps 0) pk2
  obtain ⟨L1, a1, a2, a3, a4, a5⟩ := ren_ok hw c
  have w1 := laid_wb hw (by omega) a2 a3
  have m1 := mark_ok w1
  rw [laid_pak hw a2 a3 a4] at m1
  obtain ⟨L2, b1, b2, b3, b4, b5⟩ := drawn_ok hw (a := 0) hw.len.1
  have w2 := laid_wb hw b1 b2 b3
  have m2 := mark_ok w2
  rw [laid_pak hw b2 b3 b4] at m2
  obtain ⟨x, x0, x1, x2⟩ := mix_ok c 3 (by decide) (by decide)
  have y0 : 0 ≤ x % (ps.length : Int) := Int.emod_nonneg _ (by omega)
  have y1 : x % (ps.length : Int) < (ps.length : Int) := Int.emod_lt_of_pos _ (by omega)
  obtain ⟨a, haa⟩ : ∃ a : Nat, (a : Int) = x % (ps.length : Int) := ⟨(x % (ps.length : Int)).toNat, by omega⟩
  obtain ⟨L3, d1, d2, d3, d4, d5⟩ := drawn_ok hw (a := a) (by omega)
  have w3 := laid_wb hw d1 d2 d3
  have m3 := mark_ok w3
  obtain ⟨pk3, pk4⟩ := pack_ok w3
  have hdu3 := due_ok (pak (laid ps L3) 0) pk4
  obtain ⟨M, hM⟩ : ∃ M : Int, M = ws 1 (pak ps 0) % 65521 := ⟨_, rfl⟩
  rw [← hM] at hmk hdu m1 m2
  obtain ⟨δ', l1, l2⟩ := forD_inv (f := gN 4) (G := LB) (fun i δ => ∃ s : Sl, δ = [.sh (.lst (ns.map .int)), .sh (Bw.web ps), .sh (.int c), .sh (.int M), s, .un]) [Bw.web ps, Bw.web (laid ps L1), Bw.web (laid ps L2), Bw.web ps] 0 [.sh (.lst (ns.map .int)), .sh (Bw.web ps), .sh (.int c), .sh (.int M), .un, .un] (by
    rintro j d δ hj ⟨s, rfl⟩
    have hd : m_mark [d] = some (.int M) := by
      have := List.mem_of_getElem? hj
      simp only [List.mem_cons, List.not_mem_nil, or_false] at this
      rcases this with rfl | rfl | rfl | rfl
      · exact hmk
      · exact m1
      · exact m2
      · exact hmk
    refine ⟨[.sh (.lst (ns.map .int)), .sh (Bw.web ps), .sh (.int c), .sh (.int M), .sh d, .un], [.sh (.lst (ns.map .int)), .sh (Bw.web ps), .sh (.int c), .sh (.int M), .sh d, .un], rfl, seq_to (δ' := [.sh (.lst (ns.map .int)), .sh (Bw.web ps), .sh (.int c), .sh (.int M), .sh d, .un]) ?_ rfl, .sh d, rfl⟩
    have ht : LT [.sh (.lst (ns.map .int)), .sh (Bw.web ps), .sh (.int c), .sh (.int M), .sh d, .un] = some false := by
      unfold LT tNotG
      rw [Bw.b_of (b := true) (by
        rw [oA_of (ds := [.int M, .int M]) (cons_of (by rw [oA_of (ds := [d]) rfl]; exact hd) rfl)]
        exact is_ok M)]
      rfl
    rw [if_f ht]
    rfl) ⟨.un, rfl⟩
  obtain ⟨s, rfl⟩ := l2
  refine mkF_rt rfl (seq_to (set_of (d := Bw.web ps) ?_) (seq_to (set_of (d := .int c) ?_) (seq_to (set_of (d := .int M) ?_) (seq_to (for_of (items := [Bw.web ps, Bw.web (laid ps L1), Bw.web (laid ps L2), Bw.web ps]) ?_ l1) (seq_to (set_of (d := Bw.web (laid ps L3)) ?_) (seq_rt (ret_of ?_)))))))
  · change oA _ _ [.sh (.lst (ns.map .int)), .un, .un, .un, .un, .un] = _
    rw [oA_of (ds := [.lst (ns.map .int), .int 1, .int most]) (cons_of rfl (cons_of rfl (cons_of (hme _) rfl)))]
    exact hp
  · rw [oA_of (ds := [.lst (ns.map .int), .int 40]) rfl]
    exact ec
  · rw [oA_of (ds := [.lst ((pak ps 0).map .int)]) (cons_of (by rw [oA_of (ds := [Bw.web ps]) rfl]; exact pk1) rfl)]
    exact hdu
  · show Option.bind (lstG (consA (gv 1) (consA (oA (consA (gv 1) (consA (gv 2) nilA)) m__law_renumbered) (consA (oA (consA (gv 1) (consA (gc (.int 0)) nilA)) m__law_drawn) (consA (gv 1) nilA)))) [.sh (.lst (ns.map .int)), .sh (Bw.web ps), .sh (.int c), .sh (.int M), .un, .un]) asLst = _
    rw [lst_of (ds := [Bw.web ps, Bw.web (laid ps L1), Bw.web (laid ps L2), Bw.web ps]) (cons_of rfl (cons_of (by rw [oA_of (ds := [Bw.web ps, .int c]) rfl]; exact a5) (cons_of (by rw [oA_of (ds := [Bw.web ps, .int 0]) rfl]; exact b5) (cons_of rfl rfl)))) (by show 4 ≤ sizeLine; omega)]
    rfl
  · rw [oA_of (ds := [Bw.web ps, .int (a : Int)]) (cons_of rfl (cons_of (by
      rw [haa, o2_of (x := .int x) (y := .int (ps.length : Int)) (by rw [oA_of (ds := [.int c, .int 3]) rfl]; exact x2) (by
        rw [oA_of (ds := [Bw.web ps]) rfl]
        show some (D.int ((ps.map Pt.d).length : Int)) = _
        rw [List.length_map])]
      exact Gw.mod_p _ _ (by omega)) rfl))]
    exact d5
  · rw [oA_of (ds := [.int (ws 1 (pak (laid ps L3) 0) % 65521), .int (ws 1 (pak (laid ps L3) 0) % 65521)]) (cons_of (by rw [oA_of (ds := [Bw.web (laid ps L3)]) rfl]; exact m3) (cons_of (by
      rw [oA_of (ds := [.lst ((pak (laid ps L3) 0).map .int)]) (cons_of (by rw [oA_of (ds := [Bw.web (laid ps L3)]) rfl]; exact pk3) rfl)]
      exact hdu3) rfl))]
    exact is_ok _
end Km
namespace Km
open PySem L2 DL W
noncomputable def top (i : Nat) : Stmt := PySem.Challenge.pw_graphpack_k45_marks.main.body.getD i (.Pass ⟨0, 0, 0, 0⟩)
theorem b_bool : bootBuiltins "bool" = some (.type "bool") := by decide +kernel
theorem b_int : bootBuiltins "int" = some (.type "int") := by decide +kernel
theorem b_list : bootBuiltins "list" = some (.type "list") := by decide +kernel
theorem b_ord : bootBuiltins "ord" = some (.builtin "ord") := by decide +kernel
theorem b_str : bootBuiltins "str" = some (.type "str") := by decide +kernel
theorem b_sum : bootBuiltins "sum" = some (.builtin "sum") := by decide +kernel
theorem b_tuple : bootBuiltins "tuple" = some (.type "tuple") := by decide +kernel
structure Txt (mg : Str → Option Value) : Prop where
  b_bool : mg "bool" = none
  b_enumerate : mg "enumerate" = none
  b_int : mg "int" = none
  b_isinstance : mg "isinstance" = none
  b_len : mg "len" = none
  b_list : mg "list" = none
  b_ord : mg "ord" = none
  b_range : mg "range" = none
  b_reversed : mg "reversed" = none
  b_str : mg "str" = none
  b_sum : mg "sum" = none
  b_tuple : mg "tuple" = none
  b_zip : mg "zip" = none
  c_BASE : ∃ t, mg "BASE" = some (.int 128 t)
  c_MARK_BASE : ∃ t, mg "MARK_BASE" = some (.int 65521 t)
section
variable {P : Program} {w : World} {K : PySem.W.Frag} {mg : Str → Option Value} {base : Heap}
theorem sc_number_bytes : FnScope ["number", "out", "rest"] ["number"] (defScope (top 3)) := ⟨rfl, rfl, rfl, by decide +kernel, rfl, by decide +kernel, by decide +kernel⟩
set_option maxHeartbeats 0 in
theorem ok_number_bytes {fa : Addr} {fd : FuncData} (F : Fun K "number_bytes" "number_bytes" (top 3) fa fd) (T : Txt mg)  : FnOk P w K mg base CX0 1 fa fd ["number"] (spN K m_number_bytes) :=
  okN (k := 0) (G := G_number_bytes) F sc_number_bytes (fun cdv A outer s H E hr => (pssd_cons (psd_own 1 (pdf_lst (pda_cons (pd_mod (pd_var 0) (pd_gint T.c_BASE)) pda_nil)) sc_number_bytes.nd)
      (pssd_cons (psd_asg (pd_fdiv (pd_var 0) (pd_gint T.c_BASE)) (pgd_name 2 sc_number_bytes.nd))
      (pssd_cons (psd_while 100000 PassesOwn.never (ptd_cmp op_gt op2_gt (pd_var 2) pd_int)
      (pssd_cons (psd_exprX (px_app 1 (pd_addA (pd_gint T.c_BASE) (pd_mod (pd_var 2) (pd_gint T.c_BASE)))))
      (pssd_cons (psd_asg (pd_fdiv (pd_var 2) (pd_gint T.c_BASE)) (pgd_name 2 sc_number_bytes.nd))
      pssd_nil)))
      (pssd_cons (psd_retFB (pdf_revL T.b_list T.b_reversed (pd_var 1)))
      pssd_nil))))) (fun ds d h => mkN_ok h)
theorem sc_folded : FnScope ["number"] ["number"] (defScope (top 4)) := ⟨rfl, rfl, rfl, by decide +kernel, rfl, by decide +kernel, by decide +kernel⟩
set_option maxHeartbeats 0 in
theorem ok_folded {fa : Addr} {fd : FuncData} (F : Fun K "folded" "folded" (top 4) fa fd) (T : Txt mg)  : FnOk P w K mg base CX0 1 fa fd ["number"] (spD K m_folded) :=
  okD (k := 0) (G := G_folded) F sc_folded (fun cdv A outer s H E hr => (pssd_cons (psd_if (ptd_cmp op_lt op2_lt (pd_var 0) pd_int)
      (pssd_cons (psd_ret (pd_sub (pd_mulA (pd_neg pd_int) (pd_var 0)) pd_int))
      pssd_nil)
      pssd_nil)
      (pssd_cons (psd_ret (pd_mulA pd_int (pd_var 0)))
      pssd_nil))) (fun ds d h => mkF_ok h)
theorem sc_pack : FnScope ["web", "out", "begun", "told", "waiting", "item"] ["web"] (defScope (top 6)) := ⟨rfl, rfl, rfl, by decide +kernel, rfl, by decide +kernel, by decide +kernel⟩
set_option maxHeartbeats 0 in
theorem ok_pack {fa : Addr} {fd : FuncData} (F : Fun K "pack" "pack" (top 6) fa fd) (T : Txt mg) (C_held_items : FnN P w K mg base "held_items" 1 ["part"] m_held_items) (C_is_new : FnD P w K mg base "is_new" 1 ["value", "begun"] m_is_new) (C_item_bytes : FnN P w K mg base "item_bytes" 3 ["web", "item", "begun", "told"] m_item_bytes) : FnOk P w K mg base CX0 4 fa fd ["web"] (spN K m_pack) :=
  okN (k := 3) (G := G_pack) F sc_pack (fun cdv A outer s H E hr => (pssd_cons (psd_own 1 (pdf_lst pda_nil) sc_pack.nd)
      (pssd_cons (psd_own 2 pdf_dict0 sc_pack.nd)
      (pssd_cons (psd_own 3 pdf_dict0 sc_pack.nd)
      (pssd_cons (psd_own 4 (pdf_lst (pda_cons (pd_tup (pda_cons pd_str (pda_cons pd_int pda_nil))) pda_nil)) sc_pack.nd)
      (pssd_cons (psd_while 100000 PassesOwn.never (ptd_cmp op_gt op2_gt (pd_bor (pd_len T.b_len (pda_cons (pd_var 4) pda_nil))) pd_int)
      (pssd_cons (psd_asgX (px_pop 4) (ptg_of (pgd_name 5 sc_pack.nd)))
      (pssd_cons (psd_exprX (px_ext 1 (PDF.pd (pdf_borL (pdf_fn C_item_bytes hr (by decide) (pda_cons (pd_var 0) (pda_cons (pd_var 5) (pda_cons (pd_var 2) (pda_cons (pd_var 3) pda_nil)))))))))
      (pssd_cons (psd_if (ptd_val (pd_isi okT_str b_str T.b_isinstance T.b_str (pd_var 5)))
      (pssd_cons (psd_exprX (px_sdf 3 (pd_var 5) (pd_bor (pd_callB call_lenK fn_lenK T.b_len PySem.boot_len (pda_cons (pd_var 3) pda_nil)))))
      pssd_nil)
      (pssd_cons (psd_if (ptd_val (pd_borT (pd_fn C_is_new hr (by decide) (pda_cons (pd_var 5) (pda_cons (pd_var 2) pda_nil)))))
      (pssd_cons (psd_asgX (px_pure (pd_bor (pd_callB call_lenK fn_lenK T.b_len PySem.boot_len (pda_cons (pd_var 2) pda_nil)))) (ptg_put 2 (hu_of hr) (pd_ix' (pd_var 5) pd_int)))
      (pssd_cons (psd_exprX (px_ext 4 (PDF.pd (pdf_revL T.b_list T.b_reversed (pd_fnN C_held_items hr (by decide) (pda_cons (pd_ix' (pd_var 0) (pd_ix' (pd_var 5) pd_int)) pda_nil))))))
      pssd_nil))
      pssd_nil)
      pssd_nil))
      pssd_nil))))
      (pssd_cons (psd_retO 1)
      pssd_nil))))))) (fun ds d h => mkN_ok h)
theorem sc_is_new : FnScope ["value", "begun"] ["value", "begun"] (defScope (top 7)) := ⟨rfl, rfl, rfl, by decide +kernel, rfl, by decide +kernel, by decide +kernel⟩
set_option maxHeartbeats 0 in
theorem ok_is_new {fa : Addr} {fd : FuncData} (F : Fun K "is_new" "is_new" (top 7) fa fd) (T : Txt mg)  : FnOk P w K mg base CX0 1 fa fd ["value", "begun"] (spD K m_is_new) :=
  okD (k := 0) (G := G_is_new) F sc_is_new (fun cdv A outer s H E hr => (pssd_cons (psd_ret (pd_and (pd_isi okT_tuple b_tuple T.b_isinstance T.b_tuple (pd_var 0)) (pd_one (pd_dnin (hu_of hr) (pd_ix' (pd_var 0) pd_int) (pd_var 1)))))
      pssd_nil)) (fun ds d h => mkF_ok h)
theorem sc_item_bytes : FnScope ["web", "item", "begun", "told", "part"] ["web", "item", "begun", "told"] (defScope (top 8)) := ⟨rfl, rfl, rfl, by decide +kernel, rfl, by decide +kernel, by decide +kernel⟩
set_option maxHeartbeats 0 in
theorem ok_item_bytes {fa : Addr} {fd : FuncData} (F : Fun K "item_bytes" "item_bytes" (top 8) fa fd) (T : Txt mg) (C_is_new : FnD P w K mg base "is_new" 1 ["value", "begun"] m_is_new) (C_known_head : FnD P w K mg base "known_head" 2 ["value", "begun"] m_known_head) (C_name_bytes : FnN P w K mg base "name_bytes" 2 ["name", "told"] m_name_bytes) (C_number_bytes : FnN P w K mg base "number_bytes" 1 ["number"] m_number_bytes) (C_part_number : FnD P w K mg base "part_number" 1 ["part"] m_part_number) (C_text_bytes : FnN P w K mg base "text_bytes" 2 ["part"] m_text_bytes) : FnOk P w K mg base CX0 3 fa fd ["web", "item", "begun", "told"] (spN K m_item_bytes) :=
  okN (k := 2) (G := G_item_bytes) F sc_item_bytes (fun cdv A outer s H E hr => (pssd_cons (psd_if (ptd_val (pd_isi okT_str b_str T.b_isinstance T.b_str (pd_var 1)))
      (pssd_cons (psd_retF (pdf_fn C_name_bytes hr (by decide) (pda_cons (pd_var 1) (pda_cons (pd_var 3) pda_nil))))
      pssd_nil)
      pssd_nil)
      (pssd_cons (psd_if (ptd_val (pd_fn C_is_new hr (by decide) (pda_cons (pd_var 1) (pda_cons (pd_var 2) pda_nil))))
      (pssd_cons (psd_asg (pd_ix' (pd_var 0) (pd_ix' (pd_var 1) pd_int)) (pgd_name 4 sc_item_bytes.nd))
      (pssd_cons (psd_retF (pdf_cat (pd_fnN C_number_bytes hr (by decide) (pda_cons (pd_addA (pd_mulA pd_int (pd_fn C_part_number hr (by decide) (pda_cons (pd_var 4) pda_nil))) pd_int) pda_nil)) (pd_fnN C_text_bytes hr (by decide) (pda_cons (pd_var 4) pda_nil))))
      pssd_nil))
      pssd_nil)
      (pssd_cons (psd_retF (pdf_fn C_number_bytes hr (by decide) (pda_cons (pd_fn C_known_head hr (by decide) (pda_cons (pd_var 1) (pda_cons (pd_var 2) pda_nil))) pda_nil)))
      pssd_nil)))) (fun ds d h => mkN_ok h)
theorem sc_name_bytes : FnScope ["name", "told"] ["name", "told"] (defScope (top 9)) := ⟨rfl, rfl, rfl, by decide +kernel, rfl, by decide +kernel, by decide +kernel⟩
set_option maxHeartbeats 0 in
theorem ok_name_bytes {fa : Addr} {fd : FuncData} (F : Fun K "name_bytes" "name_bytes" (top 9) fa fd) (T : Txt mg) (C_number_bytes : FnN P w K mg base "number_bytes" 1 ["number"] m_number_bytes) (C_sign_bytes : FnN P w K mg base "sign_bytes" 1 ["signs"] m_sign_bytes) : FnOk P w K mg base CX0 2 fa fd ["name", "told"] (spN K m_name_bytes) :=
  okN (k := 1) (G := G_name_bytes) F sc_name_bytes (fun cdv A outer s H E hr => (pssd_cons (psd_if (ptd_din (hu_of hr) (pd_var 0) (pd_var 1))
      (pssd_cons (psd_retF (pdf_fn C_number_bytes hr (by decide) (pda_cons (pd_mulA pd_int (pd_sub (pd_sub (pd_callB call_lenK fn_lenK T.b_len PySem.boot_len (pda_cons (pd_var 1) pda_nil)) pd_int) (pd_dget (hu_of hr) (pd_var 1) (pd_var 0)))) pda_nil)))
      pssd_nil)
      pssd_nil)
      (pssd_cons (psd_retF (pdf_cat (pd_fnN C_number_bytes hr (by decide) (pda_cons (pd_addA (pd_mulA pd_int (pd_len T.b_len (pda_cons (pd_var 0) pda_nil))) pd_int) pda_nil)) (pd_fnN C_sign_bytes hr (by decide) (pda_cons (pd_var 0) pda_nil))))
      pssd_nil))) (fun ds d h => mkN_ok h)
theorem sc_sign_bytes : FnScope ["signs"] ["signs"] (defScope (top 10)) := ⟨rfl, rfl, rfl, by decide +kernel, rfl, by decide +kernel, by decide +kernel⟩
set_option maxHeartbeats 0 in
theorem ok_sign_bytes {fa : Addr} {fd : FuncData} (F : Fun K "sign_bytes" "sign_bytes" (top 10) fa fd) (T : Txt mg)  : FnOk P w K mg base CX0 1 fa fd ["signs"] (spN K m_sign_bytes) :=
  okN (k := 0) (G := G_sign_bytes) F sc_sign_bytes (fun cdv A outer s H E hr => (pssd_cons (psd_retF (pdf_cmpD (sc := defScope (top 10)) (N := ["signs"]) (N' := ["sign"]) (n := 1) (caps := []) ⟨rfl, by decide +kernel, by decide +kernel, by decide +kernel, by decide +kernel, rfl, by decide +kernel⟩ (by decide) (pid_str (pd_var 0)) (fun cl s H ex => pgd_name 0 (by decide +kernel : (["sign"] : List Str).Nodup)) (fun cl s H ex => pfd_nil) (fun cl s H ex => (pd_callB call_ord fn_ord T.b_ord b_ord (pda_cons (pd_var 0) pda_nil)))))
      pssd_nil)) (fun ds d h => mkN_ok h)
theorem sc_part_number : FnScope ["part"] ["part"] (defScope (top 11)) := ⟨rfl, rfl, rfl, by decide +kernel, rfl, by decide +kernel, by decide +kernel⟩
set_option maxHeartbeats 0 in
theorem ok_part_number {fa : Addr} {fd : FuncData} (F : Fun K "part_number" "part_number" (top 11) fa fd) (T : Txt mg) (K_KINDS : TupK K mg "KINDS" ["text", "row", "table", "record"]) : FnOk P w K mg base CX0 1 fa fd ["part"] (spD K m_part_number) :=
  okD (k := 0) (G := G_part_number) F sc_part_number (fun cdv A outer s H E hr => (pssd_cons (psd_ret (pd_addA (pd_mulA pd_int (pd_len T.b_len (pda_cons (pd_ix' (pd_var 0) (pd_neg pd_int)) pda_nil))) (pd_gIdx K_KINDS (pda_cons (pd_ix' (pd_var 0) pd_int) pda_nil))))
      pssd_nil)) (fun ds d h => mkF_ok h)
theorem sc_text_bytes : FnScope ["part"] ["part"] (defScope (top 12)) := ⟨rfl, rfl, rfl, by decide +kernel, rfl, by decide +kernel, by decide +kernel⟩
set_option maxHeartbeats 0 in
theorem ok_text_bytes {fa : Addr} {fd : FuncData} (F : Fun K "text_bytes" "text_bytes" (top 12) fa fd) (T : Txt mg) (C_sign_bytes : FnN P w K mg base "sign_bytes" 1 ["signs"] m_sign_bytes) : FnOk P w K mg base CX0 2 fa fd ["part"] (spN K m_text_bytes) :=
  okN (k := 1) (G := G_text_bytes) F sc_text_bytes (fun cdv A outer s H E hr => (pssd_cons (psd_if (ptd_cmp op_eq op2_eq (pd_ix' (pd_var 0) pd_int) pd_str)
      (pssd_cons (psd_retF (pdf_fn C_sign_bytes hr (by decide) (pda_cons (pd_ix' (pd_var 0) pd_int) pda_nil)))
      pssd_nil)
      pssd_nil)
      (pssd_cons (psd_retF (pdf_lst pda_nil))
      pssd_nil))) (fun ds d h => mkN_ok h)
theorem sc_known_head : FnScope ["value", "begun"] ["value", "begun"] (defScope (top 13)) := ⟨rfl, rfl, rfl, by decide +kernel, rfl, by decide +kernel, by decide +kernel⟩
set_option maxHeartbeats 0 in
theorem ok_known_head {fa : Addr} {fd : FuncData} (F : Fun K "known_head" "known_head" (top 13) fa fd) (T : Txt mg) (C_folded : FnD P w K mg base "folded" 1 ["number"] m_folded) : FnOk P w K mg base CX0 2 fa fd ["value", "begun"] (spD K m_known_head) :=
  okD (k := 1) (G := G_known_head) F sc_known_head (fun cdv A outer s H E hr => (pssd_cons (psd_if (ptd_cmp op_isN op2_isN (pd_var 0) pd_non)
      (pssd_cons (psd_ret pd_int)
      pssd_nil)
      pssd_nil)
      (pssd_cons (psd_if (ptd_val (pd_isi okT_tuple b_tuple T.b_isinstance T.b_tuple (pd_var 0)))
      (pssd_cons (psd_ret (pd_addA (pd_mulA pd_int (pd_sub (pd_sub (pd_callB call_lenK fn_lenK T.b_len PySem.boot_len (pda_cons (pd_var 1) pda_nil)) pd_int) (pd_dget (hu_of hr) (pd_var 1) (pd_ix' (pd_var 0) pd_int)))) pd_int))
      pssd_nil)
      pssd_nil)
      (pssd_cons (psd_ret (pd_addA (pd_mulA pd_int (pd_fn C_folded hr (by decide) (pda_cons (pd_var 0) pda_nil))) pd_int))
      pssd_nil)))) (fun ds d h => mkF_ok h)
theorem sc_held_items : FnScope ["part", "items", "pair"] ["part"] (defScope (top 14)) := ⟨rfl, rfl, rfl, by decide +kernel, rfl, by decide +kernel, by decide +kernel⟩
set_option maxHeartbeats 0 in
theorem ok_held_items {fa : Addr} {fd : FuncData} (F : Fun K "held_items" "held_items" (top 14) fa fd) (T : Txt mg)  : FnOk P w K mg base CX0 1 fa fd ["part"] (spN K m_held_items) :=
  okN (k := 0) (G := G_held_items) F sc_held_items (fun cdv A outer s H E hr => (pssd_cons (psd_if (ptd_cmp op_eq op2_eq (pd_ix' (pd_var 0) pd_int) pd_str)
      (pssd_cons (psd_retF (pdf_lst pda_nil))
      pssd_nil)
      pssd_nil)
      (pssd_cons (psd_if (ptd_cmp op_eq op2_eq (pd_ix' (pd_var 0) pd_int) pd_str)
      (pssd_cons (psd_retF (pdf_list T.b_list b_list (pd_ix' (pd_var 0) pd_int)))
      pssd_nil)
      pssd_nil)
      (pssd_cons (psd_own 1 (pdf_lst pda_nil) sc_held_items.nd)
      (pssd_cons (psd_if (ptd_cmp op_eq op2_eq (pd_ix' (pd_var 0) pd_int) pd_str)
      (pssd_cons (psd_exprX (px_app 1 (pd_ix' (pd_var 0) pd_int)))
      pssd_nil)
      pssd_nil)
      (pssd_cons (psd_for PassesOwn.never rfl (pid_tup (pd_ix' (pd_var 0) (pd_neg pd_int))) (pgd_name 2 sc_held_items.nd)
      (pssd_cons (psd_exprX (px_ext 1 (pd_callTy call_list_of fn_list T.b_list b_list (pda_cons (pd_var 2) pda_nil))))
      pssd_nil))
      (pssd_cons (psd_retO 1)
      pssd_nil))))))) (fun ds d h => mkN_ok h)
theorem sc_mark : FnScope ["web"] ["web"] (defScope (top 17)) := ⟨rfl, rfl, rfl, by decide +kernel, rfl, by decide +kernel, by decide +kernel⟩
set_option maxHeartbeats 0 in
theorem ok_mark {fa : Addr} {fd : FuncData} (F : Fun K "mark" "mark" (top 17) fa fd) (T : Txt mg) (C_pack : FnN P w K mg base "pack" 4 ["web"] m_pack) : FnOk P w K mg base CX0 5 fa fd ["web"] (spD K m_mark) :=
  okD (k := 4) (G := G_mark) F sc_mark (fun cdv A outer s H E hr => (pssd_cons (psd_ret (pd_mod (pd_callB (call_sumI rfl) fn_sum T.b_sum b_sum (pda_cons (pd_cmpD (sc := defScope (top 17)) (N := ["web"]) (N' := ["number", "byte"]) (n := 2) (caps := []) ⟨rfl, by decide +kernel, by decide +kernel, by decide +kernel, by decide +kernel, rfl, by decide +kernel⟩ (by decide) (pid_enumS T.b_enumerate (pda_cons (pd_fnN C_pack hr (by decide) (pda_cons (pd_var 0) pda_nil)) pda_nil) pd_int) (fun cl s H ex => pgd_tup2 0 1 (by decide +kernel : (["number", "byte"] : List Str).Nodup) (by decide)) (fun cl s H ex => pfd_nil) (fun cl s H ex => (pd_mulA (pd_var 0) (pd_var 1)))) pda_nil)) (pd_gint T.c_MARK_BASE)))
      pssd_nil)) (fun ds d h => mkF_ok h)
theorem sc__law_cell_at : FnScope ["_law_script", "_law_k"] ["_law_script", "_law_k"] (defScope (top 19)) := ⟨rfl, rfl, rfl, by decide +kernel, rfl, by decide +kernel, by decide +kernel⟩
set_option maxHeartbeats 0 in
theorem ok__law_cell_at {fa : Addr} {fd : FuncData} (F : Fun K "_law_cell_at" "_law_cell_at" (top 19) fa fd) (T : Txt mg)  : FnOk P w K mg base CX0 1 fa fd ["_law_script", "_law_k"] (spD K m__law_cell_at) :=
  okD (k := 0) (G := G__law_cell_at) F sc__law_cell_at (fun cdv A outer s H E hr => (pssd_cons (psd_if (ptd_cmp op_lt op2_lt (pd_var 1) (pd_len T.b_len (pda_cons (pd_var 0) pda_nil)))
      (pssd_cons (psd_ret (pd_ix' (pd_var 0) (pd_var 1)))
      pssd_nil)
      pssd_nil)
      (pssd_cons (psd_ret (pd_mulA (pd_addA (pd_mulA (pd_var 1) pd_int) pd_int) (pd_addA (pd_var 1) pd_int)))
      pssd_nil))) (fun ds d h => mkF_ok h)
theorem sc__law_mix : FnScope ["_law_cell", "_law_k"] ["_law_cell", "_law_k"] (defScope (top 20)) := ⟨rfl, rfl, rfl, by decide +kernel, rfl, by decide +kernel, by decide +kernel⟩
set_option maxHeartbeats 0 in
theorem ok__law_mix {fa : Addr} {fd : FuncData} (F : Fun K "_law_mix" "_law_mix" (top 20) fa fd) (T : Txt mg)  : FnOk P w K mg base CX0 1 fa fd ["_law_cell", "_law_k"] (spD K m__law_mix) :=
  okD (k := 0) (G := G__law_mix) F sc__law_mix (fun cdv A outer s H E hr => (pssd_cons (psd_ret (pd_fdiv (pd_mod (pd_addA (pd_mulA (pd_addA (pd_mod (pd_var 0) pd_int) pd_int) (pd_addA (pd_addA pd_int (pd_mulA pd_int (pd_var 1))) (pd_mulA (pd_mulA pd_int (pd_var 1)) (pd_var 1)))) (pd_var 1)) pd_int) pd_int))
      pssd_nil)) (fun ds d h => mkF_ok h)
theorem sc__law_pool : FnScope ["_law_cell", "_law_many", "_law_signs", "_law_base", "_law_at"] ["_law_cell", "_law_many"] (defScope (top 21)) := ⟨rfl, rfl, rfl, by decide +kernel, rfl, by decide +kernel, by decide +kernel⟩
set_option maxHeartbeats 0 in
theorem ok__law_pool {fa : Addr} {fd : FuncData} (F : Fun K "_law_pool" "_law_pool" (top 21) fa fd) (T : Txt mg) (C__law_mix : FnD P w K mg base "_law_mix" 1 ["_law_cell", "_law_k"] m__law_mix) : FnOk P w K mg base CX0 2 fa fd ["_law_cell", "_law_many"] (spN K m__law_pool) :=
  okN (k := 1) (G := G__law_pool) F sc__law_pool (fun cdv A outer s H E hr => (pssd_cons (psd_asg pd_str (pgd_name 2 sc__law_pool.nd))
      (pssd_cons (psd_asg (pd_join pd_str (pda_cons (pd_cmpD (sc := defScope (top 21)) (N := ["_law_cell", "_law_many", "_law_signs", "_law_base", "_law_at"]) (N' := ["_law_j", "_law_cell", "_law_signs"]) (n := 1) (caps := [0, 2]) ⟨rfl, by decide +kernel, by decide +kernel, by decide +kernel, by decide +kernel, rfl, by decide +kernel⟩ (by decide) (pid_range1 T.b_range (pda_cons (pd_mod (pd_fn C__law_mix hr (by decide) (pda_cons (pd_var 0) (pda_cons pd_int pda_nil))) pd_int) pda_nil)) (fun cl s H ex => pgd_name 0 (by decide +kernel : (["_law_j", "_law_cell", "_law_signs"] : List Str).Nodup)) (fun cl s H ex => pfd_nil) (fun cl s H ex => (pd_ix' (pd_var 2) (pd_mod (pd_fn C__law_mix hr (by decide) (pda_cons (pd_var 1) (pda_cons (pd_var 0) pda_nil))) pd_int)))) pda_nil)) (pgd_name 3 sc__law_pool.nd))
      (pssd_cons (psd_asg (pd_mod (pd_fn C__law_mix hr (by decide) (pda_cons (pd_var 0) (pda_cons pd_int pda_nil))) (pd_addA (pd_len T.b_len (pda_cons (pd_var 3) pda_nil)) pd_int)) (pgd_name 4 sc__law_pool.nd))
      (pssd_cons (psd_retF (pdf_cmpD (sc := defScope (top 21)) (N := ["_law_cell", "_law_many", "_law_signs", "_law_base", "_law_at"]) (N' := ["_law_k", "_law_cell", "_law_signs", "_law_base", "_law_at"]) (n := 1) (caps := [0, 2, 3, 4]) ⟨rfl, by decide +kernel, by decide +kernel, by decide +kernel, by decide +kernel, rfl, by decide +kernel⟩ (by decide) (pid_range1 T.b_range (pda_cons (pd_var 1) pda_nil)) (fun cl s H ex => pgd_name 0 (by decide +kernel : (["_law_k", "_law_cell", "_law_signs", "_law_base", "_law_at"] : List Str).Nodup)) (fun cl s H ex => pfd_nil) (fun cl s H ex => (pd_addA (pd_addA (pd_sliceA (pd_var 3) pdo_none (pdo_some (pd_var 4))) (pd_ix' (pd_var 2) (pd_mod (pd_addA (pd_mulA pd_int (pd_var 0)) (pd_var 1)) pd_int))) (pd_sliceA (pd_var 3) (pdo_some (pd_var 4)) pdo_none)))))
      pssd_nil))))) (fun ds d h => mkN_ok h)
theorem sc__law_one_value : FnScope ["_law_cell", "_law_k", "_law_many", "_law_way"] ["_law_cell", "_law_k", "_law_many"] (defScope (top 22)) := ⟨rfl, rfl, rfl, by decide +kernel, rfl, by decide +kernel, by decide +kernel⟩
set_option maxHeartbeats 0 in
theorem ok__law_one_value {fa : Addr} {fd : FuncData} (F : Fun K "_law_one_value" "_law_one_value" (top 22) fa fd) (T : Txt mg) (C__law_mix : FnD P w K mg base "_law_mix" 1 ["_law_cell", "_law_k"] m__law_mix) : FnOk P w K mg base CX0 2 fa fd ["_law_cell", "_law_k", "_law_many"] (spD K m__law_one_value) :=
  okD (k := 1) (G := G__law_one_value) F sc__law_one_value (fun cdv A outer s H E hr => (pssd_cons (psd_asg (pd_mod (pd_fn C__law_mix hr (by decide) (pda_cons (pd_var 0) (pda_cons (pd_var 1) pda_nil))) pd_int) (pgd_name 3 sc__law_one_value.nd))
      (pssd_cons (psd_if (ptd_cmp op_eq op2_eq (pd_var 3) pd_int)
      (pssd_cons (psd_ret pd_non)
      pssd_nil)
      pssd_nil)
      (pssd_cons (psd_if (ptd_cmp op_lt op2_lt (pd_var 3) pd_int)
      (pssd_cons (psd_ret (pd_tup (pda_cons pd_str (pda_cons (pd_mod (pd_fn C__law_mix hr (by decide) (pda_cons (pd_var 0) (pda_cons (pd_addA pd_int (pd_var 1)) pda_nil))) (pd_var 2)) pda_nil))))
      pssd_nil)
      pssd_nil)
      (pssd_cons (psd_if (ptd_cmp op_eq op2_eq (pd_var 3) pd_int)
      (pssd_cons (psd_ret (pd_sub (pd_mod (pd_fn C__law_mix hr (by decide) (pda_cons (pd_var 0) (pda_cons (pd_addA pd_int (pd_var 1)) pda_nil))) pd_int) pd_int))
      pssd_nil)
      pssd_nil)
      (pssd_cons (psd_ret (pd_sub (pd_addA (pd_mod (pd_mulW (pd_mulA (pd_addA (pd_var 0) pd_int) (pd_addA (pd_var 1) pd_int)) (pd_pow pd_int pd_int)) (pd_sub (pd_mulA pd_int (pd_pow pd_int pd_int)) pd_int)) pd_int) (pd_pow pd_int pd_int)))
      pssd_nil)))))) (fun ds d h => mkF_ok h)
theorem sc__law_drawn_part : FnScope ["_law_cell", "_law_names", "_law_many", "_law_kind", "_law_size", "_law_signs", "_law_some", "_law_turn", "_law_pairs"] ["_law_cell", "_law_names", "_law_many"] (defScope (top 23)) := ⟨rfl, rfl, rfl, by decide +kernel, rfl, by decide +kernel, by decide +kernel⟩
set_option maxHeartbeats 0 in
theorem ok__law_drawn_part {fa : Addr} {fd : FuncData} (F : Fun K "_law_drawn_part" "_law_drawn_part" (top 23) fa fd) (T : Txt mg) (C__law_mix : FnD P w K mg base "_law_mix" 1 ["_law_cell", "_law_k"] m__law_mix) (C__law_one_value : FnD P w K mg base "_law_one_value" 2 ["_law_cell", "_law_k", "_law_many"] m__law_one_value) : FnOk P w K mg base CX0 3 fa fd ["_law_cell", "_law_names", "_law_many"] (spD K m__law_drawn_part) :=
  okD (k := 2) (G := G__law_drawn_part) F sc__law_drawn_part (fun cdv A outer s H E hr => (pssd_cons (psd_asg (pd_mod (pd_fn C__law_mix hr (by decide) (pda_cons (pd_var 0) (pda_cons pd_int pda_nil))) pd_int) (pgd_name 3 sc__law_drawn_part.nd))
      (pssd_cons (psd_asg (pd_ix' (pd_lst (pda_cons pd_int (pda_cons pd_int (pda_cons pd_int (pda_cons pd_int (pda_cons pd_int (pda_cons pd_int (pda_cons pd_int (pda_cons pd_int pda_nil))))))))) (pd_mod (pd_fn C__law_mix hr (by decide) (pda_cons (pd_var 0) (pda_cons pd_int pda_nil))) pd_int)) (pgd_name 4 sc__law_drawn_part.nd))
      (pssd_cons (psd_if (ptd_cmp op_eq op2_eq (pd_var 3) pd_int)
      (pssd_cons (psd_asg pd_str (pgd_name 5 sc__law_drawn_part.nd))
      (pssd_cons (psd_ret (pd_tup (pda_cons pd_str (pda_cons (pd_join pd_str (pda_cons (pd_cmpD (sc := defScope (top 23)) (N := ["_law_cell", "_law_names", "_law_many", "_law_kind", "_law_size", "_law_signs", "_law_some", "_law_turn", "_law_pairs"]) (N' := ["_law_j", "_law_cell", "_law_signs"]) (n := 1) (caps := [0, 5]) ⟨rfl, by decide +kernel, by decide +kernel, by decide +kernel, by decide +kernel, rfl, by decide +kernel⟩ (by decide) (pid_range1 T.b_range (pda_cons (pd_mod (pd_fn C__law_mix hr (by decide) (pda_cons (pd_var 0) (pda_cons pd_int pda_nil))) pd_int) pda_nil)) (fun cl s H ex => pgd_name 0 (by decide +kernel : (["_law_j", "_law_cell", "_law_signs"] : List Str).Nodup)) (fun cl s H ex => pfd_nil) (fun cl s H ex => (pd_ix' (pd_var 2) (pd_mod (pd_fn C__law_mix hr (by decide) (pda_cons (pd_var 1) (pda_cons (pd_addA pd_int (pd_var 0)) pda_nil))) pd_int)))) pda_nil)) pda_nil))))
      pssd_nil))
      pssd_nil)
      (pssd_cons (psd_asg (pd_cmpD (sc := defScope (top 23)) (N := ["_law_cell", "_law_names", "_law_many", "_law_kind", "_law_size", "_law_signs", "_law_some", "_law_turn", "_law_pairs"]) (N' := ["_law_k", "_law_cell", "_law_many"]) (n := 1) (caps := [0, 2]) ⟨rfl, by decide +kernel, by decide +kernel, by decide +kernel, by decide +kernel, rfl, by decide +kernel⟩ (by decide) (pid_range1 T.b_range (pda_cons (pd_var 4) pda_nil)) (fun cl s H ex => pgd_name 0 (by decide +kernel : (["_law_k", "_law_cell", "_law_many"] : List Str).Nodup)) (fun cl s H ex => pfd_nil) (fun cl s H ex => (pd_fn C__law_one_value hr (by decide) (pda_cons (pd_var 1) (pda_cons (pd_addA pd_int (pd_var 0)) (pda_cons (pd_var 2) pda_nil)))))) (pgd_name 6 sc__law_drawn_part.nd))
      (pssd_cons (psd_if (ptd_cmp op_eq op2_eq (pd_var 3) pd_int)
      (pssd_cons (psd_ret (pd_tup (pda_cons pd_str (pda_cons (pd_callTy call_tuple_of fn_tup T.b_tuple b_tuple (pda_cons (pd_var 6) pda_nil)) pda_nil))))
      pssd_nil)
      pssd_nil)
      (pssd_cons (psd_asg (pd_mod (pd_fn C__law_mix hr (by decide) (pda_cons (pd_var 0) (pda_cons pd_int pda_nil))) pd_int) (pgd_name 7 sc__law_drawn_part.nd))
      (pssd_cons (psd_asg (pd_callTy call_tuple_of fn_tup T.b_tuple b_tuple (pda_cons (pd_cmpD (sc := defScope (top 23)) (N := ["_law_cell", "_law_names", "_law_many", "_law_kind", "_law_size", "_law_signs", "_law_some", "_law_turn", "_law_pairs"]) (N' := ["_law_k", "_law_names", "_law_some", "_law_turn"]) (n := 1) (caps := [1, 6, 7]) ⟨rfl, by decide +kernel, by decide +kernel, by decide +kernel, by decide +kernel, rfl, by decide +kernel⟩ (by decide) (pid_range1 T.b_range (pda_cons (pd_var 4) pda_nil)) (fun cl s H ex => pgd_name 0 (by decide +kernel : (["_law_k", "_law_names", "_law_some", "_law_turn"] : List Str).Nodup)) (fun cl s H ex => pfd_nil) (fun cl s H ex => (pd_tup (pda_cons (pd_ix' (pd_var 1) (pd_mod (pd_addA (pd_var 3) (pd_var 0)) pd_int)) (pda_cons (pd_ix' (pd_var 2) (pd_var 0)) pda_nil))))) pda_nil)) (pgd_name 8 sc__law_drawn_part.nd))
      (pssd_cons (psd_if (ptd_cmp op_eq op2_eq (pd_var 3) pd_int)
      (pssd_cons (psd_ret (pd_tup (pda_cons pd_str (pda_cons (pd_var 8) pda_nil))))
      pssd_nil)
      pssd_nil)
      (pssd_cons (psd_ret (pd_tup (pda_cons pd_str (pda_cons (pd_ix' (pd_var 1) (pd_mod (pd_fn C__law_mix hr (by decide) (pda_cons (pd_var 0) (pda_cons pd_int pda_nil))) pd_int)) (pda_cons (pd_var 8) pda_nil)))))
      pssd_nil)))))))))) (fun ds d h => mkF_ok h)
theorem sc__law_built : FnScope ["_law_script", "_law_start", "_law_most", "_law_many", "_law_names"] ["_law_script", "_law_start", "_law_most"] (defScope (top 24)) := ⟨rfl, rfl, rfl, by decide +kernel, rfl, by decide +kernel, by decide +kernel⟩
set_option maxHeartbeats 0 in
theorem ok__law_built {fa : Addr} {fd : FuncData} (F : Fun K "_law_built" "_law_built" (top 24) fa fd) (T : Txt mg) (C__law_cell_at : FnD P w K mg base "_law_cell_at" 1 ["_law_script", "_law_k"] m__law_cell_at) (C__law_drawn_part : FnD P w K mg base "_law_drawn_part" 3 ["_law_cell", "_law_names", "_law_many"] m__law_drawn_part) (C__law_mix : FnD P w K mg base "_law_mix" 1 ["_law_cell", "_law_k"] m__law_mix) (C__law_pool : FnN P w K mg base "_law_pool" 2 ["_law_cell", "_law_many"] m__law_pool) : FnOk P w K mg base CX0 4 fa fd ["_law_script", "_law_start", "_law_most"] (spD K m__law_built) :=
  okD (k := 3) (G := G__law_built) F sc__law_built (fun cdv A outer s H E hr => (pssd_cons (psd_asg (pd_addA pd_int (pd_mod (pd_fn C__law_mix hr (by decide) (pda_cons (pd_fn C__law_cell_at hr (by decide) (pda_cons (pd_var 0) (pda_cons (pd_var 1) pda_nil))) (pda_cons pd_int pda_nil))) (pd_var 2))) (pgd_name 3 sc__law_built.nd))
      (pssd_cons (psd_asg (pd_fnN C__law_pool hr (by decide) (pda_cons (pd_fn C__law_cell_at hr (by decide) (pda_cons (pd_var 0) (pda_cons (pd_addA (pd_var 1) pd_int) pda_nil))) (pda_cons pd_int pda_nil))) (pgd_name 4 sc__law_built.nd))
      (pssd_cons (psd_ret (pd_callTy call_tuple_of fn_tup T.b_tuple b_tuple (pda_cons (pd_cmpD (sc := defScope (top 24)) (N := ["_law_script", "_law_start", "_law_most", "_law_many", "_law_names"]) (N' := ["_law_k", "_law_script", "_law_start", "_law_many", "_law_names"]) (n := 1) (caps := [0, 1, 3, 4]) ⟨rfl, by decide +kernel, by decide +kernel, by decide +kernel, by decide +kernel, rfl, by decide +kernel⟩ (by decide) (pid_range1 T.b_range (pda_cons (pd_var 3) pda_nil)) (fun cl s H ex => pgd_name 0 (by decide +kernel : (["_law_k", "_law_script", "_law_start", "_law_many", "_law_names"] : List Str).Nodup)) (fun cl s H ex => pfd_nil) (fun cl s H ex => (pd_fn C__law_drawn_part hr (by decide) (pda_cons (pd_fn C__law_cell_at hr (by decide) (pda_cons (pd_var 1) (pda_cons (pd_addA (pd_addA (pd_var 2) pd_int) (pd_var 0)) pda_nil))) (pda_cons (pd_var 4) (pda_cons (pd_var 3) pda_nil)))))) pda_nil)))
      pssd_nil)))) (fun ds d h => mkF_ok h)
theorem sc__law_links : FnScope ["_law_part", "_law_some"] ["_law_part"] (defScope (top 25)) := ⟨rfl, rfl, rfl, by decide +kernel, rfl, by decide +kernel, by decide +kernel⟩
set_option maxHeartbeats 0 in
theorem ok__law_links {fa : Addr} {fd : FuncData} (F : Fun K "_law_links" "_law_links" (top 25) fa fd) (T : Txt mg)  : FnOk P w K mg base CX0 1 fa fd ["_law_part"] (spN K m__law_links) :=
  okN (k := 0) (G := G__law_links) F sc__law_links (fun cdv A outer s H E hr => (pssd_cons (psd_if (ptd_cmp op_eq op2_eq (pd_ix' (pd_var 0) pd_int) pd_str)
      (pssd_cons (psd_retF (pdf_lst pda_nil))
      pssd_nil)
      pssd_nil)
      (pssd_cons (psd_asg (pd_ix' (pd_var 0) (pd_neg pd_int)) (pgd_name 1 sc__law_links.nd))
      (pssd_cons (psd_if (ptd_cmp op_ne op2_ne (pd_ix' (pd_var 0) pd_int) pd_str)
      (pssd_cons (psd_cmpD 1 sc__law_links.nd (sc := defScope (top 25)) (N := ["_law_part", "_law_some"]) (N' := ["_law_pair"]) (n := 1) (caps := []) ⟨rfl, by decide +kernel, by decide +kernel, by decide +kernel, by decide +kernel, rfl, by decide +kernel⟩ (by decide) (pid_tup (pd_ix' (pd_var 0) (pd_neg pd_int))) (fun cl s H ex => pgd_name 0 (by decide +kernel : (["_law_pair"] : List Str).Nodup)) (fun cl s H ex => pfd_nil) (fun cl s H ex => (pd_ix' (pd_var 0) pd_int)))
      pssd_nil)
      pssd_nil)
      (pssd_cons (psd_retF (pdf_cmpD (sc := defScope (top 25)) (N := ["_law_part", "_law_some"]) (N' := ["_law_value"]) (n := 1) (caps := []) ⟨rfl, by decide +kernel, by decide +kernel, by decide +kernel, by decide +kernel, rfl, by decide +kernel⟩ (by decide) (pid_any (pd_var 1)) (fun cl s H ex => pgd_name 0 (by decide +kernel : (["_law_value"] : List Str).Nodup)) (fun cl s H ex => (pfd_one (ptd_val (pd_isi okT_tuple b_tuple T.b_isinstance T.b_tuple (pd_var 0))))) (fun cl s H ex => (pd_ix' (pd_var 0) pd_int))))
      pssd_nil))))) (fun ds d h => mkN_ok h)
theorem sc__law_come : FnScope ["_law_web", "_law_at", "_law_found", "_law_other"] ["_law_web", "_law_at", "_law_found"] (defScope (top 26)) := ⟨rfl, rfl, rfl, by decide +kernel, rfl, by decide +kernel, by decide +kernel⟩
set_option maxHeartbeats 0 in
theorem ok__law_come {fa : Addr} {fd : FuncData} (F : Fun K "_law_come" "_law_come" (top 26) fa fd) (T : Txt mg) (mp mq : List D → Option (List D)) (kk : Nat) (hkk : 1 ≤ kk) (C__law_come : FnM P w K mg base "_law_come" kk ["_law_web", "_law_at", "_law_found"] false mp) (C__law_links : FnN P w K mg base "_law_links" 1 ["_law_part"] m__law_links)
    (hf : ∀ ds l l', mq (ds ++ [.lst l]) = some l' → (ds ++ [D.lst l]).length = 3 ∧ ∀ p, (false = true ∧ GR__law_come mp (dStartM N__law_come ds p l) = some (.rf (lent p l'))) ∨ (false = false ∧ ∃ δ', GR__law_come mp (dStartM N__law_come ds p l) = some (.nx δ') ∧ δ'[ds.length]? = some (.ow (lent p l')))) : FnOk P w K mg base CX0 (kk + 1) fa fd ["_law_web", "_law_at", "_law_found"] (spM K false mq) :=
  okM (k := kk) (G := GR__law_come mp) F sc__law_come (fun cdv A outer s H E hr => (pssd_cons (psd_if (ptd_bor (ptd_cmp op_notIn_seq (op2_inSeq true) (pd_var 1) (pd_var 2)))
      (pssd_cons (psd_exprX (px_appL 2 (pd_var 1)))
      (pssd_cons (psd_for PassesOwn.never rfl (pid_list (pd_fnN C__law_links hr (Nat.le_trans (by decide : 1 ≤ 1) hkk) (pda_cons (pd_ix' (pd_var 0) (pd_var 1)) pda_nil))) (pgd_name 3 sc__law_come.nd)
      (pssd_cons (psd_callM 2 C__law_come hr (Nat.le_refl _) (pam_cons (pd_var 0) (pam_cons (pd_var 3) (pam_own 2))))
      pssd_nil))
      pssd_nil))
      pssd_nil)
      pssd_nil)) hf
theorem sc__law_led : FnScope ["_law_value", "_law_numbers"] ["_law_value", "_law_numbers"] (defScope (top 27)) := ⟨rfl, rfl, rfl, by decide +kernel, rfl, by decide +kernel, by decide +kernel⟩
set_option maxHeartbeats 0 in
theorem ok__law_led {fa : Addr} {fd : FuncData} (F : Fun K "_law_led" "_law_led" (top 27) fa fd) (T : Txt mg)  : FnOk P w K mg base CX0 1 fa fd ["_law_value", "_law_numbers"] (spD K m__law_led) :=
  okD (k := 0) (G := G__law_led) F sc__law_led (fun cdv A outer s H E hr => (pssd_cons (psd_if (ptd_val (pd_isi okT_tuple b_tuple T.b_isinstance T.b_tuple (pd_var 0)))
      (pssd_cons (psd_ret (pd_tup (pda_cons pd_str (pda_cons (pd_dget (hu_of hr) (pd_var 1) (pd_ix' (pd_var 0) pd_int)) pda_nil))))
      pssd_nil)
      pssd_nil)
      (pssd_cons (psd_ret (pd_var 0))
      pssd_nil))) (fun ds d h => mkF_ok h)
theorem sc__law_drawn : FnScope ["_law_web", "_law_at", "_law_found", "_law_numbers", "_law_k", "_law_parts", "_law_part", "_law_pairs"] ["_law_web", "_law_at"] (defScope (top 28)) := ⟨rfl, rfl, rfl, by decide +kernel, rfl, by decide +kernel, by decide +kernel⟩
set_option maxHeartbeats 0 in
theorem ok__law_drawn {fa : Addr} {fd : FuncData} (F : Fun K "_law_drawn" "_law_drawn" (top 28) fa fd) (T : Txt mg) (C__law_come : FnM P w K mg base "_law_come" 63 ["_law_web", "_law_at", "_law_found"] false m__law_come) (C__law_led : FnD P w K mg base "_law_led" 1 ["_law_value", "_law_numbers"] m__law_led) : FnOk P w K mg base CX0 64 fa fd ["_law_web", "_law_at"] (spD K m__law_drawn) :=
  okD (k := 63) (G := G__law_drawn) F sc__law_drawn (fun cdv A outer s H E hr => (pssd_cons (psd_own 2 (pdf_lst pda_nil) sc__law_drawn.nd)
      (pssd_cons (psd_callM 2 C__law_come hr (by decide) (pam_cons (pd_var 0) (pam_cons (pd_var 1) (pam_own 2))))
      (pssd_cons (psd_frzS 2 (psd_own 3 pdf_dict0 sc__law_drawn.nd))
      (pssd_cons (psd_for PassesOwn.never rfl (pid_list (pd_var 2)) (pgd_name 4 sc__law_drawn.nd)
      (pssd_cons (psd_asgX (px_pure (pd_bor (pd_callB call_lenK fn_lenK T.b_len PySem.boot_len (pda_cons (pd_var 3) pda_nil)))) (ptg_put 3 (hu_of hr) (pd_var 4)))
      pssd_nil))
      (pssd_cons (psd_frzS 3 (psd_own 5 (pdf_lst pda_nil) sc__law_drawn.nd))
      (pssd_cons (psd_for PassesOwn.never rfl (pid_list (pd_var 2)) (pgd_name 4 sc__law_drawn.nd)
      (pssd_cons (psd_asg (pd_ix' (pd_var 0) (pd_var 4)) (pgd_name 6 sc__law_drawn.nd))
      (pssd_cons (psd_if (ptd_cmp op_eq op2_eq (pd_ix' (pd_var 6) pd_int) pd_str)
      (pssd_cons (psd_asg (pd_tup (pda_cons pd_str (pda_cons (pd_callTy call_tuple_of fn_tup T.b_tuple b_tuple (pda_cons (pd_cmpD (sc := defScope (top 28)) (N := ["_law_web", "_law_at", "_law_found", "_law_numbers", "_law_k", "_law_parts", "_law_part", "_law_pairs"]) (N' := ["_law_value", "_law_numbers"]) (n := 1) (caps := [3]) ⟨rfl, by decide +kernel, by decide +kernel, by decide +kernel, by decide +kernel, rfl, by decide +kernel⟩ (by decide) (pid_tup (pd_ix' (pd_var 6) pd_int)) (fun cl s H ex => pgd_name 0 (by decide +kernel : (["_law_value", "_law_numbers"] : List Str).Nodup)) (fun cl s H ex => pfd_nil) (fun cl s H ex => (pd_fn C__law_led hr (by decide) (pda_cons (pd_var 0) (pda_cons (pd_var 1) pda_nil))))) pda_nil)) pda_nil))) (pgd_name 6 sc__law_drawn.nd))
      pssd_nil)
      (pssd_cons (psd_if (ptd_cmp op_ne op2_ne (pd_ix' (pd_var 6) pd_int) pd_str)
      (pssd_cons (psd_cmpD 7 sc__law_drawn.nd (sc := defScope (top 28)) (N := ["_law_web", "_law_at", "_law_found", "_law_numbers", "_law_k", "_law_parts", "_law_part", "_law_pairs"]) (N' := ["_law_name", "_law_value", "_law_numbers"]) (n := 2) (caps := [3]) ⟨rfl, by decide +kernel, by decide +kernel, by decide +kernel, by decide +kernel, rfl, by decide +kernel⟩ (by decide) (pid_tup (pd_ix' (pd_var 6) (pd_neg pd_int))) (fun cl s H ex => pgd_tup2 0 1 (by decide +kernel : (["_law_name", "_law_value", "_law_numbers"] : List Str).Nodup) (by decide)) (fun cl s H ex => pfd_nil) (fun cl s H ex => (pd_tup (pda_cons (pd_var 0) (pda_cons (pd_fn C__law_led hr (by decide) (pda_cons (pd_var 1) (pda_cons (pd_var 2) pda_nil))) pda_nil)))))
      (pssd_cons (psd_asg (pd_addA (pd_sliceA (pd_var 6) pdo_none (pdo_some (pd_neg pd_int))) (pd_tup (pda_cons (pd_callTy call_tuple_of fn_tup T.b_tuple b_tuple (pda_cons (pd_var 7) pda_nil)) pda_nil))) (pgd_name 6 sc__law_drawn.nd))
      pssd_nil))
      pssd_nil)
      pssd_nil))
      (pssd_cons (psd_exprX (px_app 5 (pd_var 6)))
      pssd_nil))))
      (pssd_cons (psd_retB (pd_callTy call_tuple_of fn_tup T.b_tuple b_tuple (pda_cons (pd_var 5) pda_nil)))
      pssd_nil)))))))) (fun ds d h => mkF_ok h)
theorem sc__law_some_of : FnScope ["_law_part"] ["_law_part"] (defScope (top 29)) := ⟨rfl, rfl, rfl, by decide +kernel, rfl, by decide +kernel, by decide +kernel⟩
set_option maxHeartbeats 0 in
theorem ok__law_some_of {fa : Addr} {fd : FuncData} (F : Fun K "_law_some_of" "_law_some_of" (top 29) fa fd) (T : Txt mg)  : FnOk P w K mg base CX0 1 fa fd ["_law_part"] (spN K m__law_some_of) :=
  okN (k := 0) (G := G__law_some_of) F sc__law_some_of (fun cdv A outer s H E hr => (pssd_cons (psd_if (ptd_cmp op_eq op2_eq (pd_ix' (pd_var 0) pd_int) pd_str)
      (pssd_cons (psd_retF (pdf_lst pda_nil))
      pssd_nil)
      pssd_nil)
      (pssd_cons (psd_if (ptd_cmp op_eq op2_eq (pd_ix' (pd_var 0) pd_int) pd_str)
      (pssd_cons (psd_retF (pdf_list T.b_list b_list (pd_ix' (pd_var 0) pd_int)))
      pssd_nil)
      pssd_nil)
      (pssd_cons (psd_retF (pdf_cmpD (sc := defScope (top 29)) (N := ["_law_part"]) (N' := ["_law_pair"]) (n := 1) (caps := []) ⟨rfl, by decide +kernel, by decide +kernel, by decide +kernel, by decide +kernel, rfl, by decide +kernel⟩ (by decide) (pid_tup (pd_ix' (pd_var 0) (pd_neg pd_int))) (fun cl s H ex => pgd_name 0 (by decide +kernel : (["_law_pair"] : List Str).Nodup)) (fun cl s H ex => pfd_nil) (fun cl s H ex => (pd_ix' (pd_var 0) pd_int))))
      pssd_nil)))) (fun ds d h => mkN_ok h)
theorem sc__law_with : FnScope ["_law_part", "_law_some", "_law_pairs"] ["_law_part", "_law_some"] (defScope (top 30)) := ⟨rfl, rfl, rfl, by decide +kernel, rfl, by decide +kernel, by decide +kernel⟩
set_option maxHeartbeats 0 in
theorem ok__law_with {fa : Addr} {fd : FuncData} (F : Fun K "_law_with" "_law_with" (top 30) fa fd) (T : Txt mg)  : FnOk P w K mg base CX0 1 fa fd ["_law_part", "_law_some"] (spD K m__law_with) :=
  okD (k := 0) (G := G__law_with) F sc__law_with (fun cdv A outer s H E hr => (pssd_cons (psd_if (ptd_cmp op_eq op2_eq (pd_ix' (pd_var 0) pd_int) pd_str)
      (pssd_cons (psd_ret (pd_tup (pda_cons pd_str (pda_cons (pd_callTy call_tuple_of fn_tup T.b_tuple b_tuple (pda_cons (pd_var 1) pda_nil)) pda_nil))))
      pssd_nil)
      pssd_nil)
      (pssd_cons (psd_if (ptd_cmp op_eq op2_eq (pd_ix' (pd_var 0) pd_int) pd_str)
      (pssd_cons (psd_ret (pd_var 0))
      pssd_nil)
      pssd_nil)
      (pssd_cons (psd_cmpD 2 sc__law_with.nd (sc := defScope (top 30)) (N := ["_law_part", "_law_some", "_law_pairs"]) (N' := ["_law_pair", "_law_value"]) (n := 2) (caps := []) ⟨rfl, by decide +kernel, by decide +kernel, by decide +kernel, by decide +kernel, rfl, by decide +kernel⟩ (by decide) (pid_zipM T.b_zip (pda_cons (pd_ix' (pd_var 0) (pd_neg pd_int)) (pda_cons (pd_var 1) pda_nil))) (fun cl s H ex => pgd_tup2 0 1 (by decide +kernel : (["_law_pair", "_law_value"] : List Str).Nodup) (by decide)) (fun cl s H ex => pfd_nil) (fun cl s H ex => (pd_tup (pda_cons (pd_ix' (pd_var 0) pd_int) (pda_cons (pd_var 1) pda_nil)))))
      (pssd_cons (psd_ret (pd_addA (pd_sliceA (pd_var 0) pdo_none (pdo_some (pd_neg pd_int))) (pd_tup (pda_cons (pd_callTy call_tuple_of fn_tup T.b_tuple b_tuple (pda_cons (pd_var 2) pda_nil)) pda_nil))))
      pssd_nil))))) (fun ds d h => mkF_ok h)
theorem sc__law_renumbered : FnScope ["_law_web", "_law_cell", "_law_order", "_law_k", "_law_numbers", "_law_parts"] ["_law_web", "_law_cell"] (defScope (top 33)) := ⟨rfl, rfl, rfl, by decide +kernel, rfl, by decide +kernel, by decide +kernel⟩
set_option maxHeartbeats 0 in
theorem ok__law_renumbered {fa : Addr} {fd : FuncData} (F : Fun K "_law_renumbered" "_law_renumbered" (top 33) fa fd) (T : Txt mg) (C__law_led : FnD P w K mg base "_law_led" 1 ["_law_value", "_law_numbers"] m__law_led) (C__law_mix : FnD P w K mg base "_law_mix" 1 ["_law_cell", "_law_k"] m__law_mix) (C__law_some_of : FnN P w K mg base "_law_some_of" 1 ["_law_part"] m__law_some_of) (C__law_with : FnD P w K mg base "_law_with" 1 ["_law_part", "_law_some"] m__law_with) : FnOk P w K mg base CX0 2 fa fd ["_law_web", "_law_cell"] (spD K m__law_renumbered) :=
  okD (k := 1) (G := G__law_renumbered) F sc__law_renumbered (fun cdv A outer s H E hr => (pssd_cons (psd_own 2 (pdf_lst (pda_cons pd_int pda_nil)) sc__law_renumbered.nd)
      (pssd_cons (psd_for PassesOwn.never rfl (pid_range2 T.b_range (pda_cons pd_int (pda_cons (pd_len T.b_len (pda_cons (pd_var 0) pda_nil)) pda_nil))) (pgd_name 3 sc__law_renumbered.nd)
      (pssd_cons (psd_exprX (px_ins 2 (pd_addA pd_int (pd_mod (pd_fn C__law_mix hr (by decide) (pda_cons (pd_var 1) (pda_cons (pd_addA pd_int (pd_var 3)) pda_nil))) (pd_bor (pd_len T.b_len (pda_cons (pd_var 2) pda_nil))))) (pd_var 3)))
      pssd_nil))
      (pssd_cons (psd_frzS 2 (psd_own 4 pdf_dict0 sc__law_renumbered.nd))
      (pssd_cons (psd_for PassesOwn.never rfl (pid_list (pd_var 2)) (pgd_name 3 sc__law_renumbered.nd)
      (pssd_cons (psd_asgX (px_pure (pd_bor (pd_callB call_lenK fn_lenK T.b_len PySem.boot_len (pda_cons (pd_var 4) pda_nil)))) (ptg_put 4 (hu_of hr) (pd_var 3)))
      pssd_nil))
      (pssd_cons (psd_frzS 4 (psd_own 5 (pdf_lst pda_nil) sc__law_renumbered.nd))
      (pssd_cons (psd_for PassesOwn.never rfl (pid_list (pd_var 2)) (pgd_name 3 sc__law_renumbered.nd)
      (pssd_cons (psd_exprX (px_app 5 (pd_fn C__law_with hr (by decide) (pda_cons (pd_ix' (pd_var 0) (pd_var 3)) (pda_cons (pd_cmpD (sc := defScope (top 33)) (N := ["_law_web", "_law_cell", "_law_order", "_law_k", "_law_numbers", "_law_parts"]) (N' := ["_law_value", "_law_numbers"]) (n := 1) (caps := [4]) ⟨rfl, by decide +kernel, by decide +kernel, by decide +kernel, by decide +kernel, rfl, by decide +kernel⟩ (by decide) (pid_list (pd_fnN C__law_some_of hr (by decide) (pda_cons (pd_ix' (pd_var 0) (pd_var 3)) pda_nil))) (fun cl s H ex => pgd_name 0 (by decide +kernel : (["_law_value", "_law_numbers"] : List Str).Nodup)) (fun cl s H ex => pfd_nil) (fun cl s H ex => (pd_fn C__law_led hr (by decide) (pda_cons (pd_var 0) (pda_cons (pd_var 1) pda_nil))))) pda_nil)))))
      pssd_nil))
      (pssd_cons (psd_retB (pd_callTy call_tuple_of fn_tup T.b_tuple b_tuple (pda_cons (pd_var 5) pda_nil)))
      pssd_nil)))))))) (fun ds d h => mkF_ok h)
theorem sc__law_due : FnScope ["_law_some", "_law_total", "_law_k"] ["_law_some"] (defScope (top 35)) := ⟨rfl, rfl, rfl, by decide +kernel, rfl, by decide +kernel, by decide +kernel⟩
set_option maxHeartbeats 0 in
theorem ok__law_due {fa : Addr} {fd : FuncData} (F : Fun K "_law_due" "_law_due" (top 35) fa fd) (T : Txt mg)  : FnOk P w K mg base CX0 1 fa fd ["_law_some"] (spD K m__law_due) :=
  okD (k := 0) (G := G__law_due) F sc__law_due (fun cdv A outer s H E hr => (pssd_cons (psd_asg pd_int (pgd_name 1 sc__law_due.nd))
      (pssd_cons (psd_for PassesOwn.never rfl (pid_range1 T.b_range (pda_cons (pd_len T.b_len (pda_cons (pd_var 0) pda_nil)) pda_nil)) (pgd_name 2 sc__law_due.nd)
      (pssd_cons (psd_asg (pd_addA (pd_var 1) (pd_mulA (pd_ix' (pd_var 0) (pd_var 2)) (pd_addA (pd_var 2) pd_int))) (pgd_name 1 sc__law_due.nd))
      pssd_nil))
      (pssd_cons (psd_ret (pd_mod (pd_var 1) pd_int))
      pssd_nil)))) (fun ds d h => mkF_ok h)
theorem sc__law_is : FnScope ["_law_found", "_law_due_here"] ["_law_found", "_law_due_here"] (defScope (top 36)) := ⟨rfl, rfl, rfl, by decide +kernel, rfl, by decide +kernel, by decide +kernel⟩
set_option maxHeartbeats 0 in
theorem ok__law_is {fa : Addr} {fd : FuncData} (F : Fun K "_law_is" "_law_is" (top 36) fa fd) (T : Txt mg)  : FnOk P w K mg base CX0 1 fa fd ["_law_found", "_law_due_here"] (spD K m__law_is) :=
  okD (k := 0) (G := G__law_is) F sc__law_is (fun cdv A outer s H E hr => (pssd_cons (psd_ret (pd_and (pd_isi okT_int b_int T.b_isinstance T.b_int (pd_var 0)) (pd_and (pd_not (pd_isi okT_bool b_bool T.b_isinstance T.b_bool (pd_var 0))) (pd_one (pd_cmp op_eq op2_eq (pd_var 0) (pd_var 1))))))
      pssd_nil)) (fun ds d h => mkF_ok h)
theorem sc_law : FnScope ["_law_script", "_law_web", "_law_cell", "_law_due_here", "_law_one", "_law_other"] ["_law_script"] (defScope (top 37)) := ⟨rfl, rfl, rfl, by decide +kernel, rfl, by decide +kernel, by decide +kernel⟩
set_option maxHeartbeats 0 in
theorem ok_law {fa : Addr} {fd : FuncData} (F : Fun K "law" "law" (top 37) fa fd) (T : Txt mg) (C__law_built : FnD P w K mg base "_law_built" 4 ["_law_script", "_law_start", "_law_most"] m__law_built) (C__law_cell_at : FnD P w K mg base "_law_cell_at" 1 ["_law_script", "_law_k"] m__law_cell_at) (C__law_drawn : FnD P w K mg base "_law_drawn" 64 ["_law_web", "_law_at"] m__law_drawn) (C__law_due : FnD P w K mg base "_law_due" 1 ["_law_some"] m__law_due) (C__law_is : FnD P w K mg base "_law_is" 1 ["_law_found", "_law_due_here"] m__law_is) (C__law_mix : FnD P w K mg base "_law_mix" 1 ["_law_cell", "_law_k"] m__law_mix) (C__law_renumbered : FnD P w K mg base "_law_renumbered" 2 ["_law_web", "_law_cell"] m__law_renumbered) (C_mark : FnD P w K mg base "mark" 5 ["web"] m_mark) (C_pack : FnN P w K mg base "pack" 4 ["web"] m_pack) : FnOk P w K mg base CX0 65 fa fd ["_law_script"] (spD K m_law) :=
  okD (k := 64) (G := G_law) F sc_law (fun cdv A outer s H E hr => (pssd_cons (psd_asg (pd_fn C__law_built hr (by decide) (pda_cons (pd_var 0) (pda_cons pd_int (pda_cons (pd_ix' (pd_lst (pda_cons pd_int (pda_cons pd_int pda_nil))) (pd_callTy call_int1 fn_int T.b_int b_int (pda_cons (pd_cmp op_eq op2_eq (pd_mod (pd_fn C__law_cell_at hr (by decide) (pda_cons (pd_var 0) (pda_cons pd_int pda_nil))) pd_int) pd_int) pda_nil))) pda_nil)))) (pgd_name 1 sc_law.nd))
      (pssd_cons (psd_asg (pd_fn C__law_cell_at hr (by decide) (pda_cons (pd_var 0) (pda_cons pd_int pda_nil))) (pgd_name 2 sc_law.nd))
      (pssd_cons (psd_asg (pd_fn C__law_due hr (by decide) (pda_cons (pd_fnN C_pack hr (by decide) (pda_cons (pd_var 1) pda_nil)) pda_nil)) (pgd_name 3 sc_law.nd))
      (pssd_cons (psd_for PassesOwn.never rfl (pid_list (pd_lst (pda_cons (pd_var 1) (pda_cons (pd_fn C__law_renumbered hr (by decide) (pda_cons (pd_var 1) (pda_cons (pd_var 2) pda_nil))) (pda_cons (pd_fn C__law_drawn hr (by decide) (pda_cons (pd_var 1) (pda_cons pd_int pda_nil))) (pda_cons (pd_var 1) pda_nil)))))) (pgd_name 4 sc_law.nd)
      (pssd_cons (psd_if (ptd_not (ptd_val (pd_fn C__law_is hr (by decide) (pda_cons (pd_fn C_mark hr (by decide) (pda_cons (pd_var 4) pda_nil)) (pda_cons (pd_var 3) pda_nil)))))
      (pssd_cons (psd_ret pd_bl)
      pssd_nil)
      pssd_nil)
      pssd_nil))
      (pssd_cons (psd_asg (pd_fn C__law_drawn hr (by decide) (pda_cons (pd_var 1) (pda_cons (pd_mod (pd_fn C__law_mix hr (by decide) (pda_cons (pd_var 2) (pda_cons pd_int pda_nil))) (pd_len T.b_len (pda_cons (pd_var 1) pda_nil))) pda_nil))) (pgd_name 5 sc_law.nd))
      (pssd_cons (psd_ret (pd_fn C__law_is hr (by decide) (pda_cons (pd_fn C_mark hr (by decide) (pda_cons (pd_var 5) pda_nil)) (pda_cons (pd_fn C__law_due hr (by decide) (pda_cons (pd_fnN C_pack hr (by decide) (pda_cons (pd_var 5) pda_nil)) pda_nil)) pda_nil))))
      pssd_nil))))))) (fun ds d h => mkF_ok h)
end
theorem us1 {α : Type} : ∀ {us : List α}, us.length = 1 → ∃ a, us = [a]
  | [a], _ => ⟨a, rfl⟩
theorem us2 {α : Type} : ∀ {us : List α}, us.length = 2 → ∃ a b, us = [a, b]
  | [a, b], _ => ⟨a, b, rfl⟩
theorem us3 {α : Type} : ∀ {us : List α}, us.length = 3 → ∃ a b c, us = [a, b, c]
  | [a, b, c], _ => ⟨a, b, c, rfl⟩
theorem us4 {α : Type} : ∀ {us : List α}, us.length = 4 → ∃ a b c d, us = [a, b, c, d]
  | [a, b, c, d], _ => ⟨a, b, c, d, rfl⟩
set_option maxHeartbeats 0 in
theorem all_mk {l : PySem.W.OpenLaw} {w : World} {K : PySem.W.Frag} {h : Heap} {mg : Str → Option Value} {fa : Addr} (X : K.In h) (G : h.Ns mainGlobals mg) (hfa : mg "law" = some (.ref fa))
    {f0 f1 f2 f3 f4 f5 f6 f7 f8 f9 f10 f11 f12 f13 f14 f15 f16 f17 f18 f19 f20 f21 f22 f23 f24 f25 f26 f27 : Addr}
    {od0 an0 od1 an1 od2 an2 od3 an3 od4 an4 od5 an5 od6 an6 od7 an7 od8 an8 od9 an9 od10 an10 od11 an11 od12 an12 od13 an13 od14 an14 od15 an15 od16 an16 od17 an17 od18 an18 od19 an19 od20 an20 od21 an21 od22 an22 od23 an23 od24 an24 od25 an25 od26 an26 od27 an27 : Option Addr} {sl0 sl1 sl2 sl3 sl4 sl5 sl6 sl7 sl8 sl9 sl10 sl11 sl12 sl13 sl14 sl15 sl16 sl17 sl18 sl19 sl20 sl21 sl22 sl23 sl24 sl25 sl26 sl27 : Array (Option Value)} {oc0 kV0 dc0 pm0 cd0 ct0 oc1 kV1 dc1 pm1 cd1 ct1 oc2 kV2 dc2 pm2 cd2 ct2 oc3 kV3 dc3 pm3 cd3 ct3 oc4 kV4 dc4 pm4 cd4 ct4 oc5 kV5 dc5 pm5 cd5 ct5 oc6 kV6 dc6 pm6 cd6 ct6 oc7 kV7 dc7 pm7 cd7 ct7 oc8 kV8 dc8 pm8 cd8 ct8 oc9 kV9 dc9 pm9 cd9 ct9 oc10 kV10 dc10 pm10 cd10 ct10 oc11 kV11 dc11 pm11 cd11 ct11 oc12 kV12 dc12 pm12 cd12 ct12 oc13 kV13 dc13 pm13 cd13 ct13 oc14 kV14 dc14 pm14 cd14 ct14 oc15 kV15 dc15 pm15 cd15 ct15 oc16 kV16 dc16 pm16 cd16 ct16 oc17 kV17 dc17 pm17 cd17 ct17 oc18 kV18 dc18 pm18 cd18 ct18 oc19 kV19 dc19 pm19 cd19 ct19 oc20 kV20 dc20 pm20 cd20 ct20 oc21 kV21 dc21 pm21 cd21 ct21 oc22 kV22 dc22 pm22 cd22 ct22 oc23 kV23 dc23 pm23 cd23 ct23 oc24 kV24 dc24 pm24 cd24 ct24 oc25 kV25 dc25 pm25 cd25 ct25 oc26 kV26 dc26 pm26 cd26 ct26 oc27 kV27 dc27 pm27 cd27 ct27 : Value}
    {t_BASE t_MARK_BASE : Tok}
    (a0 : PySem.W.nsIn K mainGlobals "number_bytes" = some (some (.ref f0))) (l0 : K.lookup f0 = some ⟨oc0, od0, .func (PySem.W.fnOf "number_bytes" "number_bytes" (defArgs (top 3)) (defBody (top 3)) (defScope (top 3)) .none kV0 dc0 pm0 an0 cd0 ct0), sl0⟩) (c0 : PySem.W.codeIn K cd0 "number_bytes" = true) (k0 : PySem.W.keepIn K (.ref f0) = true)
    (a1 : PySem.W.nsIn K mainGlobals "folded" = some (some (.ref f1))) (l1 : K.lookup f1 = some ⟨oc1, od1, .func (PySem.W.fnOf "folded" "folded" (defArgs (top 4)) (defBody (top 4)) (defScope (top 4)) .none kV1 dc1 pm1 an1 cd1 ct1), sl1⟩) (c1 : PySem.W.codeIn K cd1 "folded" = true) (k1 : PySem.W.keepIn K (.ref f1) = true)
    (a2 : PySem.W.nsIn K mainGlobals "pack" = some (some (.ref f2))) (l2 : K.lookup f2 = some ⟨oc2, od2, .func (PySem.W.fnOf "pack" "pack" (defArgs (top 6)) (defBody (top 6)) (defScope (top 6)) .none kV2 dc2 pm2 an2 cd2 ct2), sl2⟩) (c2 : PySem.W.codeIn K cd2 "pack" = true) (k2 : PySem.W.keepIn K (.ref f2) = true)
    (a3 : PySem.W.nsIn K mainGlobals "is_new" = some (some (.ref f3))) (l3 : K.lookup f3 = some ⟨oc3, od3, .func (PySem.W.fnOf "is_new" "is_new" (defArgs (top 7)) (defBody (top 7)) (defScope (top 7)) .none kV3 dc3 pm3 an3 cd3 ct3), sl3⟩) (c3 : PySem.W.codeIn K cd3 "is_new" = true) (k3 : PySem.W.keepIn K (.ref f3) = true)
    (a4 : PySem.W.nsIn K mainGlobals "item_bytes" = some (some (.ref f4))) (l4 : K.lookup f4 = some ⟨oc4, od4, .func (PySem.W.fnOf "item_bytes" "item_bytes" (defArgs (top 8)) (defBody (top 8)) (defScope (top 8)) .none kV4 dc4 pm4 an4 cd4 ct4), sl4⟩) (c4 : PySem.W.codeIn K cd4 "item_bytes" = true) (k4 : PySem.W.keepIn K (.ref f4) = true)
    (a5 : PySem.W.nsIn K mainGlobals "name_bytes" = some (some (.ref f5))) (l5 : K.lookup f5 = some ⟨oc5, od5, .func (PySem.W.fnOf "name_bytes" "name_bytes" (defArgs (top 9)) (defBody (top 9)) (defScope (top 9)) .none kV5 dc5 pm5 an5 cd5 ct5), sl5⟩) (c5 : PySem.W.codeIn K cd5 "name_bytes" = true) (k5 : PySem.W.keepIn K (.ref f5) = true)
    (a6 : PySem.W.nsIn K mainGlobals "sign_bytes" = some (some (.ref f6))) (l6 : K.lookup f6 = some ⟨oc6, od6, .func (PySem.W.fnOf "sign_bytes" "sign_bytes" (defArgs (top 10)) (defBody (top 10)) (defScope (top 10)) .none kV6 dc6 pm6 an6 cd6 ct6), sl6⟩) (c6 : PySem.W.codeIn K cd6 "sign_bytes" = true) (k6 : PySem.W.keepIn K (.ref f6) = true)
    (a7 : PySem.W.nsIn K mainGlobals "part_number" = some (some (.ref f7))) (l7 : K.lookup f7 = some ⟨oc7, od7, .func (PySem.W.fnOf "part_number" "part_number" (defArgs (top 11)) (defBody (top 11)) (defScope (top 11)) .none kV7 dc7 pm7 an7 cd7 ct7), sl7⟩) (c7 : PySem.W.codeIn K cd7 "part_number" = true) (k7 : PySem.W.keepIn K (.ref f7) = true)
    (a8 : PySem.W.nsIn K mainGlobals "text_bytes" = some (some (.ref f8))) (l8 : K.lookup f8 = some ⟨oc8, od8, .func (PySem.W.fnOf "text_bytes" "text_bytes" (defArgs (top 12)) (defBody (top 12)) (defScope (top 12)) .none kV8 dc8 pm8 an8 cd8 ct8), sl8⟩) (c8 : PySem.W.codeIn K cd8 "text_bytes" = true) (k8 : PySem.W.keepIn K (.ref f8) = true)
    (a9 : PySem.W.nsIn K mainGlobals "known_head" = some (some (.ref f9))) (l9 : K.lookup f9 = some ⟨oc9, od9, .func (PySem.W.fnOf "known_head" "known_head" (defArgs (top 13)) (defBody (top 13)) (defScope (top 13)) .none kV9 dc9 pm9 an9 cd9 ct9), sl9⟩) (c9 : PySem.W.codeIn K cd9 "known_head" = true) (k9 : PySem.W.keepIn K (.ref f9) = true)
    (a10 : PySem.W.nsIn K mainGlobals "held_items" = some (some (.ref f10))) (l10 : K.lookup f10 = some ⟨oc10, od10, .func (PySem.W.fnOf "held_items" "held_items" (defArgs (top 14)) (defBody (top 14)) (defScope (top 14)) .none kV10 dc10 pm10 an10 cd10 ct10), sl10⟩) (c10 : PySem.W.codeIn K cd10 "held_items" = true) (k10 : PySem.W.keepIn K (.ref f10) = true)
    (a11 : PySem.W.nsIn K mainGlobals "mark" = some (some (.ref f11))) (l11 : K.lookup f11 = some ⟨oc11, od11, .func (PySem.W.fnOf "mark" "mark" (defArgs (top 17)) (defBody (top 17)) (defScope (top 17)) .none kV11 dc11 pm11 an11 cd11 ct11), sl11⟩) (c11 : PySem.W.codeIn K cd11 "mark" = true) (k11 : PySem.W.keepIn K (.ref f11) = true)
    (a12 : PySem.W.nsIn K mainGlobals "_law_cell_at" = some (some (.ref f12))) (l12 : K.lookup f12 = some ⟨oc12, od12, .func (PySem.W.fnOf "_law_cell_at" "_law_cell_at" (defArgs (top 19)) (defBody (top 19)) (defScope (top 19)) .none kV12 dc12 pm12 an12 cd12 ct12), sl12⟩) (c12 : PySem.W.codeIn K cd12 "_law_cell_at" = true) (k12 : PySem.W.keepIn K (.ref f12) = true)
    (a13 : PySem.W.nsIn K mainGlobals "_law_mix" = some (some (.ref f13))) (l13 : K.lookup f13 = some ⟨oc13, od13, .func (PySem.W.fnOf "_law_mix" "_law_mix" (defArgs (top 20)) (defBody (top 20)) (defScope (top 20)) .none kV13 dc13 pm13 an13 cd13 ct13), sl13⟩) (c13 : PySem.W.codeIn K cd13 "_law_mix" = true) (k13 : PySem.W.keepIn K (.ref f13) = true)
    (a14 : PySem.W.nsIn K mainGlobals "_law_pool" = some (some (.ref f14))) (l14 : K.lookup f14 = some ⟨oc14, od14, .func (PySem.W.fnOf "_law_pool" "_law_pool" (defArgs (top 21)) (defBody (top 21)) (defScope (top 21)) .none kV14 dc14 pm14 an14 cd14 ct14), sl14⟩) (c14 : PySem.W.codeIn K cd14 "_law_pool" = true) (k14 : PySem.W.keepIn K (.ref f14) = true)
    (a15 : PySem.W.nsIn K mainGlobals "_law_one_value" = some (some (.ref f15))) (l15 : K.lookup f15 = some ⟨oc15, od15, .func (PySem.W.fnOf "_law_one_value" "_law_one_value" (defArgs (top 22)) (defBody (top 22)) (defScope (top 22)) .none kV15 dc15 pm15 an15 cd15 ct15), sl15⟩) (c15 : PySem.W.codeIn K cd15 "_law_one_value" = true) (k15 : PySem.W.keepIn K (.ref f15) = true)
    (a16 : PySem.W.nsIn K mainGlobals "_law_drawn_part" = some (some (.ref f16))) (l16 : K.lookup f16 = some ⟨oc16, od16, .func (PySem.W.fnOf "_law_drawn_part" "_law_drawn_part" (defArgs (top 23)) (defBody (top 23)) (defScope (top 23)) .none kV16 dc16 pm16 an16 cd16 ct16), sl16⟩) (c16 : PySem.W.codeIn K cd16 "_law_drawn_part" = true) (k16 : PySem.W.keepIn K (.ref f16) = true)
    (a17 : PySem.W.nsIn K mainGlobals "_law_built" = some (some (.ref f17))) (l17 : K.lookup f17 = some ⟨oc17, od17, .func (PySem.W.fnOf "_law_built" "_law_built" (defArgs (top 24)) (defBody (top 24)) (defScope (top 24)) .none kV17 dc17 pm17 an17 cd17 ct17), sl17⟩) (c17 : PySem.W.codeIn K cd17 "_law_built" = true) (k17 : PySem.W.keepIn K (.ref f17) = true)
    (a18 : PySem.W.nsIn K mainGlobals "_law_links" = some (some (.ref f18))) (l18 : K.lookup f18 = some ⟨oc18, od18, .func (PySem.W.fnOf "_law_links" "_law_links" (defArgs (top 25)) (defBody (top 25)) (defScope (top 25)) .none kV18 dc18 pm18 an18 cd18 ct18), sl18⟩) (c18 : PySem.W.codeIn K cd18 "_law_links" = true) (k18 : PySem.W.keepIn K (.ref f18) = true)
    (a19 : PySem.W.nsIn K mainGlobals "_law_come" = some (some (.ref f19))) (l19 : K.lookup f19 = some ⟨oc19, od19, .func (PySem.W.fnOf "_law_come" "_law_come" (defArgs (top 26)) (defBody (top 26)) (defScope (top 26)) .none kV19 dc19 pm19 an19 cd19 ct19), sl19⟩) (c19 : PySem.W.codeIn K cd19 "_law_come" = true) (k19 : PySem.W.keepIn K (.ref f19) = true)
    (a20 : PySem.W.nsIn K mainGlobals "_law_led" = some (some (.ref f20))) (l20 : K.lookup f20 = some ⟨oc20, od20, .func (PySem.W.fnOf "_law_led" "_law_led" (defArgs (top 27)) (defBody (top 27)) (defScope (top 27)) .none kV20 dc20 pm20 an20 cd20 ct20), sl20⟩) (c20 : PySem.W.codeIn K cd20 "_law_led" = true) (k20 : PySem.W.keepIn K (.ref f20) = true)
    (a21 : PySem.W.nsIn K mainGlobals "_law_drawn" = some (some (.ref f21))) (l21 : K.lookup f21 = some ⟨oc21, od21, .func (PySem.W.fnOf "_law_drawn" "_law_drawn" (defArgs (top 28)) (defBody (top 28)) (defScope (top 28)) .none kV21 dc21 pm21 an21 cd21 ct21), sl21⟩) (c21 : PySem.W.codeIn K cd21 "_law_drawn" = true) (k21 : PySem.W.keepIn K (.ref f21) = true)
    (a22 : PySem.W.nsIn K mainGlobals "_law_some_of" = some (some (.ref f22))) (l22 : K.lookup f22 = some ⟨oc22, od22, .func (PySem.W.fnOf "_law_some_of" "_law_some_of" (defArgs (top 29)) (defBody (top 29)) (defScope (top 29)) .none kV22 dc22 pm22 an22 cd22 ct22), sl22⟩) (c22 : PySem.W.codeIn K cd22 "_law_some_of" = true) (k22 : PySem.W.keepIn K (.ref f22) = true)
    (a23 : PySem.W.nsIn K mainGlobals "_law_with" = some (some (.ref f23))) (l23 : K.lookup f23 = some ⟨oc23, od23, .func (PySem.W.fnOf "_law_with" "_law_with" (defArgs (top 30)) (defBody (top 30)) (defScope (top 30)) .none kV23 dc23 pm23 an23 cd23 ct23), sl23⟩) (c23 : PySem.W.codeIn K cd23 "_law_with" = true) (k23 : PySem.W.keepIn K (.ref f23) = true)
    (a24 : PySem.W.nsIn K mainGlobals "_law_renumbered" = some (some (.ref f24))) (l24 : K.lookup f24 = some ⟨oc24, od24, .func (PySem.W.fnOf "_law_renumbered" "_law_renumbered" (defArgs (top 33)) (defBody (top 33)) (defScope (top 33)) .none kV24 dc24 pm24 an24 cd24 ct24), sl24⟩) (c24 : PySem.W.codeIn K cd24 "_law_renumbered" = true) (k24 : PySem.W.keepIn K (.ref f24) = true)
    (a25 : PySem.W.nsIn K mainGlobals "_law_due" = some (some (.ref f25))) (l25 : K.lookup f25 = some ⟨oc25, od25, .func (PySem.W.fnOf "_law_due" "_law_due" (defArgs (top 35)) (defBody (top 35)) (defScope (top 35)) .none kV25 dc25 pm25 an25 cd25 ct25), sl25⟩) (c25 : PySem.W.codeIn K cd25 "_law_due" = true) (k25 : PySem.W.keepIn K (.ref f25) = true)
    (a26 : PySem.W.nsIn K mainGlobals "_law_is" = some (some (.ref f26))) (l26 : K.lookup f26 = some ⟨oc26, od26, .func (PySem.W.fnOf "_law_is" "_law_is" (defArgs (top 36)) (defBody (top 36)) (defScope (top 36)) .none kV26 dc26 pm26 an26 cd26 ct26), sl26⟩) (c26 : PySem.W.codeIn K cd26 "_law_is" = true) (k26 : PySem.W.keepIn K (.ref f26) = true)
    (a27 : PySem.W.nsIn K mainGlobals "law" = some (some (.ref f27))) (l27 : K.lookup f27 = some ⟨oc27, od27, .func (PySem.W.fnOf "law" "law" (defArgs (top 37)) (defBody (top 37)) (defScope (top 37)) .none kV27 dc27 pm27 an27 cd27 ct27), sl27⟩) (c27 : PySem.W.codeIn K cd27 "law" = true) (k27 : PySem.W.keepIn K (.ref f27) = true)
    (z_bool : PySem.W.nsIn K mainGlobals "bool" = some none)
    (z_enumerate : PySem.W.nsIn K mainGlobals "enumerate" = some none)
    (z_int : PySem.W.nsIn K mainGlobals "int" = some none)
    (z_isinstance : PySem.W.nsIn K mainGlobals "isinstance" = some none)
    (z_len : PySem.W.nsIn K mainGlobals "len" = some none)
    (z_list : PySem.W.nsIn K mainGlobals "list" = some none)
    (z_ord : PySem.W.nsIn K mainGlobals "ord" = some none)
    (z_range : PySem.W.nsIn K mainGlobals "range" = some none)
    (z_reversed : PySem.W.nsIn K mainGlobals "reversed" = some none)
    (z_str : PySem.W.nsIn K mainGlobals "str" = some none)
    (z_sum : PySem.W.nsIn K mainGlobals "sum" = some none)
    (z_tuple : PySem.W.nsIn K mainGlobals "tuple" = some none)
    (z_zip : PySem.W.nsIn K mainGlobals "zip" = some none)
    (y_BASE : PySem.W.nsIn K mainGlobals "BASE" = some (some (.int 128 t_BASE)))
    (y_MARK_BASE : PySem.W.nsIn K mainGlobals "MARK_BASE" = some (some (.int 65521 t_MARK_BASE)))
    {kA_KINDS : Addr} {kn_KINDS : Nat} {ks_KINDS : Array (Option Value)} {kt_KINDS_0 kt_KINDS_1 kt_KINDS_2 kt_KINDS_3 : Tok}
    (kN_KINDS : PySem.W.nsIn K mainGlobals "KINDS" = some (some (.ref kA_KINDS))) (kL_KINDS : K.lookup kA_KINDS = some ⟨.type "tuple", none, .seq #[.str "text" kt_KINDS_0, .str "row" kt_KINDS_1, .str "table" kt_KINDS_2, .str "record" kt_KINDS_3] kn_KINDS, ks_KINDS⟩)
    : ∃ fd : FuncData, (∀ (s : Shared) (v : Value), BindsTo s fd ⟨[v], []⟩ [("_law_script", v)]) ∧ ∀ base : Heap, K.In base → base.Ns mainGlobals mg → FnOk l.prog w K mg base CX0 65 fa fd ["_law_script"] (spD K m_law) := by
  have e := hfa.symm.trans (PySem.W.mg_of X G a27)
  cases e
  have T : Txt mg := ⟨PySem.W.mg_none_of X G z_bool, PySem.W.mg_none_of X G z_enumerate, PySem.W.mg_none_of X G z_int, PySem.W.mg_none_of X G z_isinstance, PySem.W.mg_none_of X G z_len, PySem.W.mg_none_of X G z_list, PySem.W.mg_none_of X G z_ord, PySem.W.mg_none_of X G z_range, PySem.W.mg_none_of X G z_reversed, PySem.W.mg_none_of X G z_str, PySem.W.mg_none_of X G z_sum, PySem.W.mg_none_of X G z_tuple, PySem.W.mg_none_of X G z_zip, ⟨_, PySem.W.mg_of X G y_BASE⟩, ⟨_, PySem.W.mg_of X G y_MARK_BASE⟩⟩
  have K_KINDS : TupK K mg "KINDS" ["text", "row", "table", "record"] := ⟨_, _, _, _, PySem.W.mg_of X G kN_KINDS, kL_KINDS, rfl, rfl, rfl, (by show 4 ≤ sizeLine; decide), .cons ⟨_, rfl⟩ (.cons ⟨_, rfl⟩ (.cons ⟨_, rfl⟩ (.cons ⟨_, rfl⟩ (.nil))))⟩
  have F0 := fun_mk (st := top 3) l0 c0 k0
  have F1 := fun_mk (st := top 4) l1 c1 k1
  have F2 := fun_mk (st := top 6) l2 c2 k2
  have F3 := fun_mk (st := top 7) l3 c3 k3
  have F4 := fun_mk (st := top 8) l4 c4 k4
  have F5 := fun_mk (st := top 9) l5 c5 k5
  have F6 := fun_mk (st := top 10) l6 c6 k6
  have F7 := fun_mk (st := top 11) l7 c7 k7
  have F8 := fun_mk (st := top 12) l8 c8 k8
  have F9 := fun_mk (st := top 13) l9 c9 k9
  have F10 := fun_mk (st := top 14) l10 c10 k10
  have F11 := fun_mk (st := top 17) l11 c11 k11
  have F12 := fun_mk (st := top 19) l12 c12 k12
  have F13 := fun_mk (st := top 20) l13 c13 k13
  have F14 := fun_mk (st := top 21) l14 c14 k14
  have F15 := fun_mk (st := top 22) l15 c15 k15
  have F16 := fun_mk (st := top 23) l16 c16 k16
  have F17 := fun_mk (st := top 24) l17 c17 k17
  have F18 := fun_mk (st := top 25) l18 c18 k18
  have F19 := fun_mk (st := top 26) l19 c19 k19
  have F20 := fun_mk (st := top 27) l20 c20 k20
  have F21 := fun_mk (st := top 28) l21 c21 k21
  have F22 := fun_mk (st := top 29) l22 c22 k22
  have F23 := fun_mk (st := top 30) l23 c23 k23
  have F24 := fun_mk (st := top 33) l24 c24 k24
  have F25 := fun_mk (st := top 35) l25 c25 k25
  have F26 := fun_mk (st := top 36) l26 c26 k26
  have F27 := fun_mk (st := top 37) l27 c27 k27
  refine ⟨PySem.W.fnOf "law" "law" (defArgs (top 37)) (defBody (top 37)) (defScope (top 37)) .none kV27 dc27 pm27 an27 cd27 ct27, fun s v => .of_eq rfl, fun base _ _ => ?_⟩
  have C_number_bytes : FnN l.prog w K mg base "number_bytes" 1 ["number"] m_number_bytes := ⟨f0, _, ok_number_bytes F0 T , PySem.W.mg_of X G a0, k0, F0.binds (ps := ["number"]) fun _ _ _ _ _ _ us hl => by obtain ⟨_, rfl⟩ := us1 hl; rfl⟩
  have C_folded : FnD l.prog w K mg base "folded" 1 ["number"] m_folded := ⟨f1, _, ok_folded F1 T , PySem.W.mg_of X G a1, k1, F1.binds (ps := ["number"]) fun _ _ _ _ _ _ us hl => by obtain ⟨_, rfl⟩ := us1 hl; rfl⟩
  have C_is_new : FnD l.prog w K mg base "is_new" 1 ["value", "begun"] m_is_new := ⟨f3, _, ok_is_new F3 T , PySem.W.mg_of X G a3, k3, F3.binds (ps := ["value", "begun"]) fun _ _ _ _ _ _ us hl => by obtain ⟨_, _, rfl⟩ := us2 hl; rfl⟩
  have C_sign_bytes : FnN l.prog w K mg base "sign_bytes" 1 ["signs"] m_sign_bytes := ⟨f6, _, ok_sign_bytes F6 T , PySem.W.mg_of X G a6, k6, F6.binds (ps := ["signs"]) fun _ _ _ _ _ _ us hl => by obtain ⟨_, rfl⟩ := us1 hl; rfl⟩
  have C_part_number : FnD l.prog w K mg base "part_number" 1 ["part"] m_part_number := ⟨f7, _, ok_part_number F7 T K_KINDS, PySem.W.mg_of X G a7, k7, F7.binds (ps := ["part"]) fun _ _ _ _ _ _ us hl => by obtain ⟨_, rfl⟩ := us1 hl; rfl⟩
  have C_held_items : FnN l.prog w K mg base "held_items" 1 ["part"] m_held_items := ⟨f10, _, ok_held_items F10 T , PySem.W.mg_of X G a10, k10, F10.binds (ps := ["part"]) fun _ _ _ _ _ _ us hl => by obtain ⟨_, rfl⟩ := us1 hl; rfl⟩
  have C__law_cell_at : FnD l.prog w K mg base "_law_cell_at" 1 ["_law_script", "_law_k"] m__law_cell_at := ⟨f12, _, ok__law_cell_at F12 T , PySem.W.mg_of X G a12, k12, F12.binds (ps := ["_law_script", "_law_k"]) fun _ _ _ _ _ _ us hl => by obtain ⟨_, _, rfl⟩ := us2 hl; rfl⟩
  have C__law_mix : FnD l.prog w K mg base "_law_mix" 1 ["_law_cell", "_law_k"] m__law_mix := ⟨f13, _, ok__law_mix F13 T , PySem.W.mg_of X G a13, k13, F13.binds (ps := ["_law_cell", "_law_k"]) fun _ _ _ _ _ _ us hl => by obtain ⟨_, _, rfl⟩ := us2 hl; rfl⟩
  have C__law_links : FnN l.prog w K mg base "_law_links" 1 ["_law_part"] m__law_links := ⟨f18, _, ok__law_links F18 T , PySem.W.mg_of X G a18, k18, F18.binds (ps := ["_law_part"]) fun _ _ _ _ _ _ us hl => by obtain ⟨_, rfl⟩ := us1 hl; rfl⟩
  have C__law_led : FnD l.prog w K mg base "_law_led" 1 ["_law_value", "_law_numbers"] m__law_led := ⟨f20, _, ok__law_led F20 T , PySem.W.mg_of X G a20, k20, F20.binds (ps := ["_law_value", "_law_numbers"]) fun _ _ _ _ _ _ us hl => by obtain ⟨_, _, rfl⟩ := us2 hl; rfl⟩
  have C__law_some_of : FnN l.prog w K mg base "_law_some_of" 1 ["_law_part"] m__law_some_of := ⟨f22, _, ok__law_some_of F22 T , PySem.W.mg_of X G a22, k22, F22.binds (ps := ["_law_part"]) fun _ _ _ _ _ _ us hl => by obtain ⟨_, rfl⟩ := us1 hl; rfl⟩
  have C__law_with : FnD l.prog w K mg base "_law_with" 1 ["_law_part", "_law_some"] m__law_with := ⟨f23, _, ok__law_with F23 T , PySem.W.mg_of X G a23, k23, F23.binds (ps := ["_law_part", "_law_some"]) fun _ _ _ _ _ _ us hl => by obtain ⟨_, _, rfl⟩ := us2 hl; rfl⟩
  have C__law_due : FnD l.prog w K mg base "_law_due" 1 ["_law_some"] m__law_due := ⟨f25, _, ok__law_due F25 T , PySem.W.mg_of X G a25, k25, F25.binds (ps := ["_law_some"]) fun _ _ _ _ _ _ us hl => by obtain ⟨_, rfl⟩ := us1 hl; rfl⟩
  have C__law_is : FnD l.prog w K mg base "_law_is" 1 ["_law_found", "_law_due_here"] m__law_is := ⟨f26, _, ok__law_is F26 T , PySem.W.mg_of X G a26, k26, F26.binds (ps := ["_law_found", "_law_due_here"]) fun _ _ _ _ _ _ us hl => by obtain ⟨_, _, rfl⟩ := us2 hl; rfl⟩
  have C_name_bytes : FnN l.prog w K mg base "name_bytes" 2 ["name", "told"] m_name_bytes := ⟨f5, _, ok_name_bytes F5 T C_number_bytes C_sign_bytes, PySem.W.mg_of X G a5, k5, F5.binds (ps := ["name", "told"]) fun _ _ _ _ _ _ us hl => by obtain ⟨_, _, rfl⟩ := us2 hl; rfl⟩
  have C_text_bytes : FnN l.prog w K mg base "text_bytes" 2 ["part"] m_text_bytes := ⟨f8, _, ok_text_bytes F8 T C_sign_bytes, PySem.W.mg_of X G a8, k8, F8.binds (ps := ["part"]) fun _ _ _ _ _ _ us hl => by obtain ⟨_, rfl⟩ := us1 hl; rfl⟩
  have C_known_head : FnD l.prog w K mg base "known_head" 2 ["value", "begun"] m_known_head := ⟨f9, _, ok_known_head F9 T C_folded, PySem.W.mg_of X G a9, k9, F9.binds (ps := ["value", "begun"]) fun _ _ _ _ _ _ us hl => by obtain ⟨_, _, rfl⟩ := us2 hl; rfl⟩
  have C__law_pool : FnN l.prog w K mg base "_law_pool" 2 ["_law_cell", "_law_many"] m__law_pool := ⟨f14, _, ok__law_pool F14 T C__law_mix, PySem.W.mg_of X G a14, k14, F14.binds (ps := ["_law_cell", "_law_many"]) fun _ _ _ _ _ _ us hl => by obtain ⟨_, _, rfl⟩ := us2 hl; rfl⟩
  have C__law_one_value : FnD l.prog w K mg base "_law_one_value" 2 ["_law_cell", "_law_k", "_law_many"] m__law_one_value := ⟨f15, _, ok__law_one_value F15 T C__law_mix, PySem.W.mg_of X G a15, k15, F15.binds (ps := ["_law_cell", "_law_k", "_law_many"]) fun _ _ _ _ _ _ us hl => by obtain ⟨_, _, _, rfl⟩ := us3 hl; rfl⟩
  have C__law_renumbered : FnD l.prog w K mg base "_law_renumbered" 2 ["_law_web", "_law_cell"] m__law_renumbered := ⟨f24, _, ok__law_renumbered F24 T C__law_led C__law_mix C__law_some_of C__law_with, PySem.W.mg_of X G a24, k24, F24.binds (ps := ["_law_web", "_law_cell"]) fun _ _ _ _ _ _ us hl => by obtain ⟨_, _, rfl⟩ := us2 hl; rfl⟩
  have C_item_bytes : FnN l.prog w K mg base "item_bytes" 3 ["web", "item", "begun", "told"] m_item_bytes := ⟨f4, _, ok_item_bytes F4 T C_is_new C_known_head C_name_bytes C_number_bytes C_part_number C_text_bytes, PySem.W.mg_of X G a4, k4, F4.binds (ps := ["web", "item", "begun", "told"]) fun _ _ _ _ _ _ us hl => by obtain ⟨_, _, _, _, rfl⟩ := us4 hl; rfl⟩
  have C__law_drawn_part : FnD l.prog w K mg base "_law_drawn_part" 3 ["_law_cell", "_law_names", "_law_many"] m__law_drawn_part := ⟨f16, _, ok__law_drawn_part F16 T C__law_mix C__law_one_value, PySem.W.mg_of X G a16, k16, F16.binds (ps := ["_law_cell", "_law_names", "_law_many"]) fun _ _ _ _ _ _ us hl => by obtain ⟨_, _, _, rfl⟩ := us3 hl; rfl⟩
  have C_pack : FnN l.prog w K mg base "pack" 4 ["web"] m_pack := ⟨f2, _, ok_pack F2 T C_held_items C_is_new C_item_bytes, PySem.W.mg_of X G a2, k2, F2.binds (ps := ["web"]) fun _ _ _ _ _ _ us hl => by obtain ⟨_, rfl⟩ := us1 hl; rfl⟩
  have C__law_built : FnD l.prog w K mg base "_law_built" 4 ["_law_script", "_law_start", "_law_most"] m__law_built := ⟨f17, _, ok__law_built F17 T C__law_cell_at C__law_drawn_part C__law_mix C__law_pool, PySem.W.mg_of X G a17, k17, F17.binds (ps := ["_law_script", "_law_start", "_law_most"]) fun _ _ _ _ _ _ us hl => by obtain ⟨_, _, _, rfl⟩ := us3 hl; rfl⟩
  have C_mark : FnD l.prog w K mg base "mark" 5 ["web"] m_mark := ⟨f11, _, ok_mark F11 T C_pack, PySem.W.mg_of X G a11, k11, F11.binds (ps := ["web"]) fun _ _ _ _ _ _ us hl => by obtain ⟨_, rfl⟩ := us1 hl; rfl⟩
  have CM__law_come : ∀ q, FnM l.prog w K mg base "_law_come" (1 + q) ["_law_web", "_law_at", "_law_found"] false (mR__law_come q) := by
    intro q
    induction q with
    | zero => exact ⟨f19, PySem.W.fnOf "_law_come" "_law_come" (defArgs (top 26)) (defBody (top 26)) (defScope (top 26)) .none kV19 dc19 pm19 an19 cd19 ct19, fnOkM_never zero__law_come, PySem.W.mg_of X G a19, k19, F19.binds (ps := ["_law_web", "_law_at", "_law_found"]) fun _ _ _ _ _ _ us hl => by obtain ⟨_, _, _, rfl⟩ := us3 hl; rfl⟩
    | succ q ih => exact ⟨f19, _, ok__law_come F19 T _ _ (1 + q) (Nat.le_add_right _ _) ih C__law_links (hfM__law_come q), PySem.W.mg_of X G a19, k19, F19.binds (ps := ["_law_web", "_law_at", "_law_found"]) fun _ _ _ _ _ _ us hl => by obtain ⟨_, _, _, rfl⟩ := us3 hl; rfl⟩
  have C__law_come : FnM l.prog w K mg base "_law_come" 63 ["_law_web", "_law_at", "_law_found"] false m__law_come := CM__law_come 62
  have C__law_drawn : FnD l.prog w K mg base "_law_drawn" 64 ["_law_web", "_law_at"] m__law_drawn := ⟨f21, _, ok__law_drawn F21 T C__law_come C__law_led, PySem.W.mg_of X G a21, k21, F21.binds (ps := ["_law_web", "_law_at"]) fun _ _ _ _ _ _ us hl => by obtain ⟨_, _, rfl⟩ := us2 hl; rfl⟩
  exact ok_law F27 T C__law_built C__law_cell_at C__law_drawn C__law_due C__law_is C__law_mix C__law_renumbered C_mark C_pack
theorem rps_ints {K : PySem.W.Frag} {H : Hp} {B : BS} : ∀ ns : List Int, Rps K H B (ns.map D.int) (ns.map V.int)
  | [] => by rw [List.map_nil, List.map_nil, rps_nil]
  | n :: ns => by
    rw [List.map_cons, List.map_cons, rps_cons]
    exact ⟨_, _, rfl, by rw [rp_int], rps_ints ns⟩
theorem start_law {K : PySem.W.Frag} {H : Hp} {a : Addr} {ns : List Int} (hS : SqL K H a (ns.map V.int)) (hm : m_law [.lst (ns.map .int)] = some (.bl true)) : spD K m_law [.ref a] H (fun v _ => v = .bl true) fun _ _ _ => False := by
  refine ⟨fun _ => False, [.lst (ns.map .int)], .bl true, fun _ z => z.elim, ?_, hm, fun v H' _ r => by rw [rp_bl] at r; exact r⟩
  rw [rps_cons]
  refine ⟨_, [], rfl, ?_, by rw [rps_nil]⟩
  rw [rp_lst]
  refine ⟨a, ns.map V.int, rfl, ?_, rps_ints ns⟩
  rcases hS with h | h
  · exact .inl ⟨fun z => z, h⟩
  · exact .inr (.inr h)
end Km
open PySem PySem.W PyProof.Rows
theorem PySem.W.Fast.tw4957457449907046565:True:=trivial
theorem PySem.W.Fast.tw2117364133342038779:True:=trivial
theorem PySem.W.Fast.tw13200413202984562528:True:=trivial
theorem PySem.W.Fast.tw16632122944690664214:True:=trivial
theorem PySem.W.Fast.tw11107079280657004061:True:=trivial
theorem PySem.W.Fast.tw4418926251172267210:True:=trivial
theorem PySem.W.Fast.tw15818122141071510324:True:=trivial
theorem PySem.W.Fast.tw17783223420174179866:True:=trivial
theorem PySem.W.Fast.tw9575818121466240612:True:=trivial
theorem PySem.W.Fast.tw6075908009065181239:True:=trivial
theorem PySem.W.Fast.tw9672142511130453730:True:=trivial
theorem PySem.W.Fast.tw6972956529674607692:True:=trivial
theorem PySem.W.Fast.tw7948011718005717550:True:=trivial
theorem PySem.W.Fast.tw15658258507412861198:True:=trivial
theorem PySem.W.Fast.tw6544596746112426806:True:=trivial
theorem PySem.W.Fast.tw16872295787920420728:True:=trivial
theorem PySem.W.Fast.tw9449304985154003446:True:=trivial
theorem PySem.W.Fast.tw8288417269660337635:True:=trivial
theorem PySem.W.Fast.tw5717093792988106713:True:=trivial
theorem PySem.W.Fast.tw17389941987922744258:True:=trivial
theorem PySem.W.Fast.tw13144204594961046907:True:=trivial
theorem PySem.W.Fast.tw10749574974250359192:True:=trivial
theorem PySem.W.Fast.tw13239216069599268049:True:=trivial
theorem PySem.W.Fast.tw902254996964209947:True:=trivial
theorem PySem.W.Fast.tw14798088608702767933:True:=trivial
theorem PySem.W.Fast.tw13607480823777476208:True:=trivial
theorem PySem.W.Fast.tw1719394572336708882:True:=trivial
theorem PySem.W.Fast.tw9743318513189651587:True:=trivial
theorem PySem.W.Fast.tw1408173677221538550:True:=trivial
theorem PySem.W.Fast.tw15786932023123702332:True:=trivial
theorem PySem.W.Fast.tw13169609524037205033:True:=trivial
theorem PySem.W.Fast.tw1483838895853257749:True:=trivial
theorem PySem.W.Fast.tw15502739732510333241:True:=trivial
theorem PySem.W.Fast.tw10837894545435893016:True:=trivial
theorem PySem.W.Fast.tw2238088542086296205:True:=trivial
theorem PySem.W.Fast.tw17872371189644888218:True:=trivial
theorem PySem.W.Fast.tw16325769893319132776:True:=trivial
theorem PySem.W.Fast.tw5239766888327282248:True:=trivial
theorem PySem.W.Fast.tw15722342323237093930:True:=trivial
theorem PySem.W.Fast.tw10476247408926797580:True:=trivial
set_option maxRecDepth 100000 in
set_option maxHeartbeats 0 in
theorem PySem.Challenge.cw_graphpack_k45_marks_holds : PySem.Challenge.rw_graphpack_k45_marks.Holds := by
  w_on; o_law; k_head; (case hw => w_witness2)
  k_fill
  refine L2.walk_ofW (l := PySem.Challenge.rw_graphpack_k45_marks) (n := 63) (k := 65) (x := "_law_script") (CX := L2.CX0) (sp := fun K => DL.spD K Km.m_law) rfl (by decide) rfl ⟨rfl, by decide, by decide⟩ (fun w h Y => PySem.W.kIn_of Y) ?F ?S ?C
  case F =>
    intro w mg fa h KX G hmg
    refine' Km.all_mk KX G hmg ?a0 ?l0 ?c0 ?k0 ?a1 ?l1 ?c1 ?k1 ?a2 ?l2 ?c2 ?k2 ?a3 ?l3 ?c3 ?k3 ?a4 ?l4 ?c4 ?k4 ?a5 ?l5 ?c5 ?k5 ?a6 ?l6 ?c6 ?k6 ?a7 ?l7 ?c7 ?k7 ?a8 ?l8 ?c8 ?k8 ?a9 ?l9 ?c9 ?k9 ?a10 ?l10 ?c10 ?k10 ?a11 ?l11 ?c11 ?k11 ?a12 ?l12 ?c12 ?k12 ?a13 ?l13 ?c13 ?k13 ?a14 ?l14 ?c14 ?k14 ?a15 ?l15 ?c15 ?k15 ?a16 ?l16 ?c16 ?k16 ?a17 ?l17 ?c17 ?k17 ?a18 ?l18 ?c18 ?k18 ?a19 ?l19 ?c19 ?k19 ?a20 ?l20 ?c20 ?k20 ?a21 ?l21 ?c21 ?k21 ?a22 ?l22 ?c22 ?k22 ?a23 ?l23 ?c23 ?k23 ?a24 ?l24 ?c24 ?k24 ?a25 ?l25 ?c25 ?k25 ?a26 ?l26 ?c26 ?k26 ?a27 ?l27 ?c27 ?k27 ?z_bool ?z_enumerate ?z_int ?z_isinstance ?z_len ?z_list ?z_ord ?z_range ?z_reversed ?z_str ?z_sum ?z_tuple ?z_zip ?y_BASE ?y_MARK_BASE ?kN_KINDS ?kL_KINDS
    (case a0 => k_is)
    (case l0 => k_is)
    (case c0 => k_is)
    (case k0 => k_is)
    (case a1 => k_is)
    (case l1 => k_is)
    (case c1 => k_is)
    (case k1 => k_is)
    (case a2 => k_is)
    (case l2 => k_is)
    (case c2 => k_is)
    (case k2 => k_is)
    (case a3 => k_is)
    (case l3 => k_is)
    (case c3 => k_is)
    (case k3 => k_is)
    (case a4 => k_is)
    (case l4 => k_is)
    (case c4 => k_is)
    (case k4 => k_is)
    (case a5 => k_is)
    (case l5 => k_is)
    (case c5 => k_is)
    (case k5 => k_is)
    (case a6 => k_is)
    (case l6 => k_is)
    (case c6 => k_is)
    (case k6 => k_is)
    (case a7 => k_is)
    (case l7 => k_is)
    (case c7 => k_is)
    (case k7 => k_is)
    (case a8 => k_is)
    (case l8 => k_is)
    (case c8 => k_is)
    (case k8 => k_is)
    (case a9 => k_is)
    (case l9 => k_is)
    (case c9 => k_is)
    (case k9 => k_is)
    (case a10 => k_is)
    (case l10 => k_is)
    (case c10 => k_is)
    (case k10 => k_is)
    (case a11 => k_is)
    (case l11 => k_is)
    (case c11 => k_is)
    (case k11 => k_is)
    (case a12 => k_is)
    (case l12 => k_is)
    (case c12 => k_is)
    (case k12 => k_is)
    (case a13 => k_is)
    (case l13 => k_is)
    (case c13 => k_is)
    (case k13 => k_is)
    (case a14 => k_is)
    (case l14 => k_is)
    (case c14 => k_is)
    (case k14 => k_is)
    (case a15 => k_is)
    (case l15 => k_is)
    (case c15 => k_is)
    (case k15 => k_is)
    (case a16 => k_is)
    (case l16 => k_is)
    (case c16 => k_is)
    (case k16 => k_is)
    (case a17 => k_is)
    (case l17 => k_is)
    (case c17 => k_is)
    (case k17 => k_is)
    (case a18 => k_is)
    (case l18 => k_is)
    (case c18 => k_is)
    (case k18 => k_is)
    (case a19 => k_is)
    (case l19 => k_is)
    (case c19 => k_is)
    (case k19 => k_is)
    (case a20 => k_is)
    (case l20 => k_is)
    (case c20 => k_is)
    (case k20 => k_is)
    (case a21 => k_is)
    (case l21 => k_is)
    (case c21 => k_is)
    (case k21 => k_is)
    (case a22 => k_is)
    (case l22 => k_is)
    (case c22 => k_is)
    (case k22 => k_is)
    (case a23 => k_is)
    (case l23 => k_is)
    (case c23 => k_is)
    (case k23 => k_is)
    (case a24 => k_is)
    (case l24 => k_is)
    (case c24 => k_is)
    (case k24 => k_is)
    (case a25 => k_is)
    (case l25 => k_is)
    (case c25 => k_is)
    (case k25 => k_is)
    (case a26 => k_is)
    (case l26 => k_is)
    (case c26 => k_is)
    (case k26 => k_is)
    (case a27 => k_is)
    (case l27 => k_is)
    (case c27 => k_is)
    (case k27 => k_is)
    (case z_bool => k_is)
    (case z_enumerate => k_is)
    (case z_int => k_is)
    (case z_isinstance => k_is)
    (case z_len => k_is)
    (case z_list => k_is)
    (case z_ord => k_is)
    (case z_range => k_is)
    (case z_reversed => k_is)
    (case z_str => k_is)
    (case z_sum => k_is)
    (case z_tuple => k_is)
    (case z_zip => k_is)
    (case y_BASE => k_is)
    (case y_MARK_BASE => k_is)
    (case kN_KINDS => k_is)
    (case kL_KINDS => k_is)
  case S => exact fun K H a ns hl hb hO hS => Km.start_law hS (Km.law_true ns hl hb)
  case C => exact fun _ _ _ _ z => z
#print axioms PySem.Challenge.cw_graphpack_k45_marks_holds
