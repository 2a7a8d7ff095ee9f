import PyProof.Rows.All
import Wide.All
import OpenK.AllK
import Wide.FinOn
import Lean
import PyProof.EqAt
import PyProof.EqKinds
import PyProof.TupleCall
import PyProof.NeKinds
import PyProof.Rows.SetFrom
import KE.KRevIter
import PyProof.ZipIter
import PyProof.TupleOfGen
import PyProof.Rows.ZipGen
import PyProof.EnumMake
import PyProof.EnumFor
import PyProof.ListRange
import PyProof.LayNew
import KE.KDictOf
import PySem.Challenge.RW_graphpack_k06_whole_drawn_webs
set_option Elab.async false
set_option linter.all false
set_option maxRecDepth 100000
/-! THE HAND LAYER, for ints, bools, texts, own classes, LISTS and tuples (index, slices, in, append, pop ..), calls, loops. Paste it whole ahead of your own text; what your proof does not reach may be deleted. -/
namespace L2
open PySem PySem.Spec PyProof.Rows

/-- a key: an int or a str -/
abbrev Key := Sum Int Str
def keyIs : Key → Value → Bool
  | .inl k, v => Value.isInt k v
  | .inr x, v => Value.isStrOf x v
def keyH (w : World) : Key → Int
  | .inl k => hashInt k
  | .inr x => hashStr w x
theorem keyIs_shape : ∀ {k : Key} {v : Value}, keyIs k v = true → (∃ i t, k = Sum.inl i ∧ v = Value.int i t) ∨ (∃ x t, k = Sum.inr x ∧ v = Value.str x t)
  | .inl i, v, h => by
    obtain ⟨t, e⟩ := Value.isInt_shape (k := i) (v := v) h
    exact .inl ⟨i, t, rfl, e⟩
  | .inr x, v, h => by
    obtain ⟨t, e⟩ := Value.isStrOf_shape (x := x) (v := v) h
    exact .inr ⟨x, t, rfl, e⟩
theorem keyIs_int (i : Int) (t : Tok) : keyIs (.inl i) (.int i t) = true := by simp [keyIs, Value.isInt]
theorem keyIs_str (x : Str) (t : Tok) : keyIs (.inr x) (.str x t) = true := by simp [keyIs, Value.isStrOf]
theorem key_ll (a b : Int) : decide ((Sum.inl a : Key) = Sum.inl b) = (a == b) := by
  by_cases e : a = b
  · subst e; simp
  · have h : ¬ (Sum.inl a : Key) = Sum.inl b := fun q => e (Sum.inl.inj q)
    rw [decide_eq_false h]
    exact (beq_eq_false_iff_ne.mpr e).symm
theorem key_rr (a b : Str) : decide ((Sum.inr a : Key) = Sum.inr b) = decide (a = b) := by
  by_cases e : a = b
  · subst e; simp
  · have h : ¬ (Sum.inr a : Key) = Sum.inr b := fun q => e (Sum.inr.inj q)
    rw [decide_eq_false h, decide_eq_false e]
theorem key_lr (a : Int) (b : Str) : decide ((Sum.inl a : Key) = Sum.inr b) = false := decide_eq_false (fun q => nomatch q)
theorem key_rl (a : Str) (b : Int) : decide ((Sum.inr a : Key) = Sum.inl b) = false := decide_eq_false (fun q => nomatch q)

def mixKind (prog : Program) (w : World) : PySem.KeyKind prog w Key where
  is := keyIs
  hash := keyH w
  inj := fun v a b ha hb => by
    rcases keyIs_shape ha with ⟨i, t, rfl, rfl⟩ | ⟨x, t, rfl, rfl⟩
    · rcases keyIs_shape hb with ⟨j, u, rfl, e⟩ | ⟨y, u, rfl, e⟩
      · injection e with e1 _; rw [e1]
      · exact nomatch e
    · rcases keyIs_shape hb with ⟨j, u, rfl, e⟩ | ⟨y, u, rfl, e⟩
      · exact nomatch e
      · injection e with e1 _; rw [e1]
  byValue := fun k v h => by
    rcases keyIs_shape h with ⟨i, t, rfl, rfl⟩ | ⟨x, t, rfl, rfl⟩ <;> rfl
  pyHash := fun hv h => by
    rcases keyIs_shape hv with ⟨i, t, rfl, rfl⟩ | ⟨x, t, rfl, rfl⟩
    · exact wpAny_pyHash_int h
    · exact wpAny_pyHash_str h
  eqBool := fun hu hv h => by
    rcases keyIs_shape hu with ⟨i, t, rfl, rfl⟩ | ⟨x, t, rfl, rfl⟩
    · rcases keyIs_shape hv with ⟨j, u, rfl, rfl⟩ | ⟨y, u, rfl, rfl⟩
      · rw [key_ll] at h; exact wpAny_eqBool_int h
      · rw [key_lr] at h; exact SeqAt.EqAt.int_str i t y u _ _ _ _ h
    · rcases keyIs_shape hv with ⟨j, u, rfl, rfl⟩ | ⟨y, u, rfl, rfl⟩
      · rw [key_rl] at h; exact SeqAt.EqAt.str_int x t j u _ _ _ _ h
      · rw [key_rr] at h; exact wpAny_eqBool_str h
  «strs» := fun k x t v h => by
    rcases keyIs_shape h with ⟨i, u, rfl, e⟩ | ⟨y, u, rfl, e⟩
    · exact nomatch e
    · injection e with e1 _
      subst e1
      cases v <;> rfl

theorem mixKind_int (prog : Program) (w : World) (i : Int) (t : Tok) : (mixKind prog w).is (.inl i) (.int i t) = true := keyIs_int i t
theorem mixKind_str (prog : Program) (w : World) (x : Str) (t : Tok) : (mixKind prog w).is (.inr x) (.str x t) = true := keyIs_str x t
end L2

namespace L2
open PySem PySem.Spec PyProof.Rows

/-- a value, without the heap -/
inductive V where
  | non | bl (b : Bool) | int (i : Int) | str (x : Str) | byt (b : Array UInt8) | flt (b : UInt64) | ref (a : Addr) | ty (n : String)
  deriving DecidableEq

def RelV : V → Value → Prop
  | .non, u => u = Value.none
  | .bl b, u => u = Value.bool b
  | .int i, u => ∃ t, u = Value.int i t
  | .str x, u => ∃ t, u = Value.str x t
  | .byt b, u => ∃ t, u = Value.bytes b t
  | .flt b, u => ∃ t, u = Value.float b t
  | .ref a, u => u = Value.ref a
  | .ty n, u => u = Value.type n

abbrev Vals : List V → List Value → Prop := Paired RelV
theorem Vals.length {xs : List V} {us : List Value} (r : Vals xs us) : xs.length = us.length := Paired.length r
theorem Vals.get : ∀ {xs : List V} {us : List Value} {i : Nat} {x : V}, Vals xs us → xs[i]? = some x → ∃ u, us[i]? = some u ∧ RelV x u
  | _, _, _, _, .nil, e => by simp at e
  | _, _, 0, _, .cons r _, e => by simp at e; subst e; exact ⟨_, rfl, r⟩
  | _, _, i + 1, x, .cons _ t, e => by
    obtain ⟨u, h1, h2⟩ := Vals.get (i := i) (x := x) t (by simpa using e)
    exact ⟨u, by simpa using h1, h2⟩
theorem Vals.set {x : V} {u : Value} (r : RelV x u) : ∀ {xs : List V} {us : List Value} (i : Nat), Vals xs us → Vals (xs.set i x) (us.set i u)
  | _, _, _, .nil => .nil
  | _, _, 0, .cons _ t => .cons r t
  | _, _, i + 1, .cons q t => .cons q (Vals.set r i t)
theorem Vals.append : ∀ {xs ys : List V} {us ws : List Value}, Vals xs us → Vals ys ws → Vals (xs ++ ys) (us ++ ws)
  | _, _, _, _, .nil, s => s
  | _, _, _, _, .cons r t, s => .cons r (Vals.append t s)
theorem Vals.take : ∀ {xs : List V} {us : List Value} (n : Nat), Vals xs us → Vals (xs.take n) (us.take n)
  | _, _, 0, _ => .nil
  | _, _, _ + 1, .nil => .nil
  | _, _, n + 1, .cons r t => .cons r (Vals.take n t)
theorem Vals.drop : ∀ {xs : List V} {us : List Value} (n : Nat), Vals xs us → Vals (xs.drop n) (us.drop n)
  | _, _, 0, r => r
  | _, _, _ + 1, .nil => .nil
  | _, _, n + 1, .cons _ t => Vals.drop n t
def RelO : Option V → Option Value → Prop
  | some v, some u => RelV v u
  | none, none => True
  | _, _ => False
def KV {κ : Type} : List (κ × V) → List (κ × Value) → Prop := Paired fun (p : κ × V) (q : κ × Value) => p.1 = q.1 ∧ RelV p.2 q.2

/-- a key of a dict (00_mix): an int or a text -/
def kV : Key → V
  | .inl i => .int i
  | .inr x => .str x

/-- what stands at a tracked address -/
inductive HO where
  /-- a list -/
  | lst (xs : List V)
  /-- a tuple (never changes) -/
  | tup (xs : List V)
  /-- a dict whose keys are ints and texts; one whose keys are tuples of ints and texts (the empty one is both) -/
  | dK (kvs : List (Key × V)) | dT (kvs : List (List Key × V))
  /-- a set of ints: its members, its size -/
  | set (S : Int → Bool) (n : Nat)
  /-- an instance of the class at C, its dict at dx, its attributes -/
  | ins (C dx : Addr) (fs : List (Str × V))
  /-- the dict of the instance at x -/
  | own (x : Addr)
  /-- the dict of an exception -/
  | xd (fs : List (Str × V))
  /-- a bound method, f of x -/
  | met (f x : Addr)
  /-- a range object lo, lo + 1, .. below hi -/
  | rng (lo hi : Int)
  /-- a thing that is known to the object (the script; a dict while a loop walks it): read, never written while it is so -/
  | frz (o : Obj) (u : HO)
  /-- a code object's table -/
  | tbl (ps : Array Value)
  /-- any other thing, by what is true of its one object (a def of one's own: SetO a S n := HO.ext fun h => ..) -/
  | ext (φ : Heap → Prop)

abbrev Hp := Addr → Option HO
def upd (H : Hp) (a : Addr) (o : HO) : Hp := fun b => if b = a then some o else H b
theorem upd_same {H : Hp} {a : Addr} {o : HO} : upd H a o a = some o := by unfold upd; rw [if_pos rfl]
theorem upd_ne {H : Hp} {a b : Addr} {o : HO} (h : b ≠ a) : upd H a o b = H b := by unfold upd; rw [if_neg h]
/-- two objects of different content stand apart -/
theorem ne_of {H : Hp} {a b : Addr} {o u : HO} (h : H a = some o) (h' : H b = some u) (d : o ≠ u) : a ≠ b := by
  intro e; subst e; rw [h] at h'; exact d (Option.some.inj h')
theorem ne_of_none {H : Hp} {a b : Addr} {o : HO} (h : H a = some o) (h' : H b = none) : a ≠ b := by
  intro e; subst e; rw [h] at h'; cases h'

section
variable (P : Program) (w : World)
def ObjOk (H : Hp) (h : Heap) (a : Addr) : HO → Prop
  | .lst xs => xs.length ≤ sizeLine ∧ ∃ (its : List Value) (n : Nat), Vals xs its ∧ h.get? a = some { cls := .type "list", data := .seq its.toArray n }
  | .tup xs => xs.length ≤ sizeLine ∧ ∃ its : List Value, Vals xs its ∧ IsTup h a its.toArray
  | .dK kvs => kvs.length ≤ sizeLine ∧ (a == sysModules) = false ∧ ∃ vs, KV kvs vs ∧ h.DictOf (mixKind P w) a vs
  | .dT kvs => kvs.length ≤ sizeLine ∧ (a == sysModules) = false ∧ ∃ xs : List (List Key × Addr × Value),
      Paired (fun (p : List Key × V) (q : List Key × Addr × Value) => p.1 = q.1 ∧ H q.2.1 = some (.tup (p.1.map kV)) ∧ RelV p.2 q.2.2) kvs xs ∧
      ∃ o es ep, h.get? a = some o ∧ o.ExactDict ∧ o.data = .dict es ep ∧ es.toList = xs.map (entryOfKey (tupleKind (mixKind P w))) ∧ (xs.map (·.1)).Nodup
  | .set S n => h.SetOf (intKind P w) a S n
  | .ins C dx fs => H dx = some (.own a) ∧ fs.length ≤ 1000 ∧ dx ≠ a ∧ h.get? a = some (PySem.W.instObj C dx) ∧
      ∃ mA, h.Ns1 dx mA ∧ (∀ f, RelO (fs.lookup f) (mA f)) ∧ PySem.Within mA (fs.map (·.1))
  | .own _ => ∃ o, h.get? a = some o
  | .xd fs => ∃ mA, h.Ns1 a mA ∧ ∀ f, RelO (fs.lookup f) (mA f)
  | .rng lo hi => ∃ t u v, h.get? a = some { cls := .type "range", data := .fields #[.int lo t, .int hi u, .int 1 v] }
  | .frz o u => h.get? a = some o ∧ ObjOk H h a u
  | .tbl ps => h.get? a = some { cls := .none, data := .fields ps }
  | .met f x => h.get? a = some (PySem.W.methodObj (.ref f) (.ref x))
  | .ext φ => φ h ∧ (∃ o, h.get? a = some o) ∧ ∀ h1 h2 : Heap, φ h1 → (∀ o, h1.get? a = some o → h2.get? a = some o) → φ h2
/-- the abstract heap is held -/
def HOk (H : Hp) (h : Heap) : Prop := ∀ a o, H a = some o → ObjOk P w H h a o
end

section
variable {P : Program} {w : World} {H H' : Hp} {h h' : Heap} {a : Addr} {o : HO}
theorem ObjOk.lt (x : ObjOk P w H h a o) : a < h.objs.size := by
  cases o with
  | lst xs => obtain ⟨_, _, _, _, e⟩ := x; exact Heap.lt_size e
  | tup xs => obtain ⟨_, _, _, p⟩ := x; exact p.lt
  | dK kvs => obtain ⟨_, _, _, _, o, _, _, e, _⟩ := x; exact Heap.lt_size e
  | dT kvs => obtain ⟨_, _, _, _, o, _, _, e, _⟩ := x; exact Heap.lt_size e
  | set S n => obtain ⟨o, _, _, _, e, _⟩ := x; exact Heap.lt_size e
  | ins C dx fs => obtain ⟨_, _, _, e, _⟩ := x; exact Heap.lt_size e
  | own y => obtain ⟨_, e⟩ := x; exact Heap.lt_size e
  | xd fs => obtain ⟨_, ⟨_, _, _, e, _⟩, _⟩ := x; exact Heap.lt_size e
  | rng lo hi => obtain ⟨_, _, _, e⟩ := x; exact Heap.lt_size e
  | frz ob u => obtain ⟨e, _⟩ := x; exact Heap.lt_size e
  | tbl ps => exact Heap.lt_size (show h.get? a = some _ from x)
  | met f y => exact Heap.lt_size (show h.get? a = some _ from x)
  | ext φ => obtain ⟨_, ⟨_, e⟩, _⟩ := x; exact Heap.lt_size e
theorem Paired.mapP {α β : Type} {F G : α → β → Prop} : ∀ {l₁ : List α} {l₂ : List β}, Paired F l₁ l₂ → (∀ a b, F a b → G a b) → Paired G l₁ l₂
  | _, _, .nil, _ => .nil
  | _, _, .cons r t, f => .cons (f _ _ r) (Paired.mapP t f)
/-- what an object's description leans on: its own object, its own dict, the tuples -/
theorem ObjOk.stay (x : ObjOk P w H h a o) (k : ∀ b u, (b = a ∨ H b = some (.own a)) → h.get? b = some u → h'.get? b = some u)
    (ho : ∀ b, H b = some (.own a) → H' b = some (.own a)) (ht : ∀ b xs, H b = some (.tup xs) → H' b = some (.tup xs)) : ObjOk P w H' h' a o := by
  induction o with
  | lst xs => obtain ⟨z, its, n, r, e⟩ := x; exact ⟨z, its, n, r, k _ _ (.inl rfl) e⟩
  | tup xs => obtain ⟨z, its, r, ob, e, c⟩ := x; exact ⟨z, its, r, ob, k _ _ (.inl rfl) e, c⟩
  | dK kvs => obtain ⟨z, y, vs, r, ob, es, ep, e, c⟩ := x; exact ⟨z, y, vs, r, ob, es, ep, k _ _ (.inl rfl) e, c⟩
  | dT kvs =>
    obtain ⟨z, y, xs, r, ob, es, ep, e, c⟩ := x
    exact ⟨z, y, xs, Paired.mapP r fun p q z => ⟨z.1, ht _ _ z.2.1, z.2.2⟩, ob, es, ep, k _ _ (.inl rfl) e, c⟩
  | set S n => obtain ⟨ob, es, ep, t, e, c⟩ := x; exact ⟨ob, es, ep, t, k _ _ (.inl rfl) e, c⟩
  | ins C dx fs =>
    obtain ⟨d, z, ne, e, mA, ⟨od, es, ep, e2, c⟩, r⟩ := x
    exact ⟨ho _ d, z, ne, k _ _ (.inl rfl) e, mA, ⟨od, es, ep, k _ _ (.inr d) e2, c⟩, r⟩
  | own y => obtain ⟨ob, e⟩ := x; exact ⟨ob, k _ _ (.inl rfl) e⟩
  | xd fs => obtain ⟨mA, ⟨od, es, ep, e, c⟩, r⟩ := x; exact ⟨mA, ⟨od, es, ep, k _ _ (.inl rfl) e, c⟩, r⟩
  | rng lo hi => obtain ⟨t, u, v, e⟩ := x; exact ⟨t, u, v, k _ _ (.inl rfl) e⟩
  | frz ob u ih => obtain ⟨e, q⟩ := x; exact ⟨k _ _ (.inl rfl) e, ih q⟩
  | tbl ps =>
    have e : h.get? a = some { cls := .none, data := .fields ps } := x
    show h'.get? a = some { cls := .none, data := .fields ps }
    exact k a _ (.inl rfl) e
  | met f y =>
    have e : h.get? a = some (PySem.W.methodObj (.ref f) (.ref y)) := x
    show h'.get? a = some (PySem.W.methodObj (.ref f) (.ref y))
    exact k a _ (.inl rfl) e
  | ext φ => obtain ⟨p, ⟨o, e⟩, st⟩ := x; exact ⟨st _ _ p fun o q => k _ _ (.inl rfl) q, ⟨o, k _ _ (.inl rfl) e⟩, st⟩
theorem HOk.lt (x : HOk P w H h) (e : H a = some o) : a < h.objs.size := (x a o e).lt
theorem HOk.fresh (x : HOk P w H h) (e : h.objs.size ≤ a) : H a = none := by
  cases q : H a with
  | none => rfl
  | some u => exact absurd (Nat.lt_of_lt_of_le (x.lt q) e) (Nat.lt_irrefl _)
/-- every object of the heap is kept -/
theorem HOk.kept (x : HOk P w H h) (k : ∀ b u, h.get? b = some u → h'.get? b = some u) : HOk P w H h' := fun a o e =>
  (x a o e).stay (fun b u _ q => k b u q) (fun _ q => q) fun _ _ q => q
/-- a new object is laid and tracked -/
theorem HOk.laid (x : HOk P w H h) (k : ∀ b u, h.get? b = some u → h'.get? b = some u) (hp : h.objs.size ≤ a) (new : ObjOk P w (upd H a o) h' a o) : HOk P w (upd H a o) h' := fun b u e => by
  have hn := x.fresh hp
  by_cases hb : b = a
  · subst hb; rw [upd_same] at e; cases e; exact new
  · rw [upd_ne hb] at e
    exact (x b u e).stay (fun c v _ q => k c v q) (fun c q => by rw [upd_ne (ne_of_none q hn)]; exact q) fun c xs q => by rw [upd_ne (ne_of_none q hn)]; exact q
end

/-- what may be read as u: it is u, or a known u -/
def Rd (H : Hp) (a : Addr) (u : HO) : Prop := H a = some u ∨ ∃ o, H a = some (.frz o u)
theorem Rd.of {H : Hp} {a : Addr} {u : HO} (h : H a = some u) : Rd H a u := .inl h
theorem Rd.ok {P : Program} {w : World} {H : Hp} {h : Heap} {a : Addr} {u : HO} (r : Rd H a u) (x : HOk P w H h) : ObjOk P w H h a u := by
  rcases r with r | ⟨o, r⟩
  · exact x a u r
  · obtain ⟨_, q⟩ := x a _ r
    exact q
/-- what may be written -/
def Mut : Option HO → Prop
  | some (.lst _) => True
  | some (.dK _) => True
  | some (.dT _) => True
  | some (.set _ _) => True
  | some (.ins _ _ _) => True
  | some (.ext _) => True
  | _ => False
section
variable {P : Program} {w : World} {H : Hp} {h h' : Heap} {x e : Addr} {o' : HO}
/-- the object at e is changed: x itself, or the dict of the instance x -/
theorem HOk.write (ok : HOk P w H h) (mu : Mut (H x)) (he : e = x ∨ H e = some (.own x)) (k : ∀ b u, b ≠ e → h.get? b = some u → h'.get? b = some u) (heo : ∃ u, h'.get? e = some u)
    (new : ObjOk P w (upd H x o') h' x o') : HOk P w (upd H x o') h' := fun b u q => by
  have nown : ∀ c y, H c = some (.own y) → c ≠ x := fun c y r z => by subst z; rw [r] at mu; exact mu
  have ntup : ∀ c xs, H c = some (.tup xs) → c ≠ x := fun c xs r z => by subst z; rw [r] at mu; exact mu
  by_cases hb : b = x
  · subst hb; rw [upd_same] at q; cases q; exact new
  · rw [upd_ne hb] at q
    by_cases hbe : b = e
    · have q' : H b = some (.own x) := by
        rcases he with z | z
        · exact absurd (hbe.trans z) hb
        · rw [hbe]; exact z
      rw [q] at q'; cases q'
      obtain ⟨v, hv⟩ := heo
      exact ⟨v, by rw [hbe]; exact hv⟩
    · refine (ok b u q).stay (fun c v hc r => k c v ?_ r) (fun c r => by rw [upd_ne (nown c b r)]; exact r) fun c xs r => by rw [upd_ne (ntup c xs r)]; exact r
      rcases hc with rfl | hc
      · exact hbe
      · rintro rfl
        rcases he with z | z
        · exact nown c b hc z
        · rw [hc] at z; cases z; exact hb rfl
end

/-! ### kept unless tracked; of the frames at fs (the callers') the slots may change (an exception that passes writes there); of the records at ex (iterators) nothing is said -/
structure Un (fs ex : List Addr) (H H' : Hp) (h h' : Heap) : Prop where
  keep : ∀ b o, h.get? b = some o → H b = none → b ∉ fs → b ∉ ex → h'.get? b = some o
  slot : ∀ b o, h.get? b = some o → H b = none → b ∈ fs → b ∉ ex → ∃ sl, h'.get? b = some { o with slots := sl }
  free : ∀ b o, h.get? b = some o → H b = none → b ∉ ex → H' b = none
  there : ∀ b o, h.get? b = some o → b ∉ ex → ∃ o', h'.get? b = some o'
  tups : ∀ b xs, H b = some (.tup xs) → H' b = some (.tup xs)
  frzs : ∀ b o u, H b = some (.frz o u) → H' b = some (.frz o u)
  tbls : ∀ b ps, H b = some (.tbl ps) → ∃ more, H' b = some (.tbl (ps ++ more))
section
variable {fs fs' ex ex' : List Addr} {H H1 H2 : Hp} {h h1 h2 h' : Heap} {a x e : Addr} {o : HO}
theorem Un.any (u : Un fs ex H H1 h h1) {b : Addr} {ob : Obj} (q : h.get? b = some ob) (n : H b = none) (hx : b ∉ ex) : ∃ sl, h1.get? b = some { ob with slots := sl } := by
  by_cases hb : b ∈ fs
  · exact u.slot b ob q n hb hx
  · exact ⟨ob.slots, u.keep b ob q n hb hx⟩
theorem Un.trans (a : Un fs ex H H1 h h1) (b : Un fs ex H1 H2 h1 h2) : Un fs ex H H2 h h2 where
  keep := fun c ob q n hc hx => b.keep c ob (a.keep c ob q n hc hx) (a.free c ob q n hx) hc hx
  slot := fun c ob q n hc hx => by
    obtain ⟨sl, e1⟩ := a.slot c ob q n hc hx
    obtain ⟨sl', e2⟩ := b.slot c _ e1 (a.free c ob q n hx) hc hx
    exact ⟨sl', e2⟩
  free := fun c ob q n hx => by
    obtain ⟨o', e1⟩ := a.there c ob q hx
    exact b.free c o' e1 (a.free c ob q n hx) hx
  there := fun c ob q hx => by
    obtain ⟨o', e1⟩ := a.there c ob q hx
    exact b.there c o' e1 hx
  tups := fun c xs q => b.tups c xs (a.tups c xs q)
  frzs := fun c ob xs q => b.frzs c ob xs (a.frzs c ob xs q)
  tbls := fun c ps q => by
    obtain ⟨m1, e1⟩ := a.tbls c ps q
    obtain ⟨m2, e2⟩ := b.tbls c _ e1
    exact ⟨m1 ++ m2, by rw [e2, Array.append_assoc]⟩
theorem Un.kept (k : ∀ b u, h.get? b = some u → h'.get? b = some u) : Un fs ex H H h h' :=
  ⟨fun b ob q _ _ _ => k b ob q, fun b ob q _ _ _ => ⟨ob.slots, k b ob q⟩, fun _ _ _ n _ => n, fun b ob q _ => ⟨ob, k b ob q⟩, fun _ _ q => q, fun _ _ _ q => q, fun _ ps q => ⟨#[], by rw [q]; simp⟩⟩
theorem Un.refl : Un fs ex H H h h := Un.kept fun _ _ q => q
theorem Un.laid (k : ∀ b u, h.get? b = some u → h'.get? b = some u) (hp : h.objs.size ≤ a) (hn : H a = none) : Un fs ex H (upd H a o) h h' where
  keep := fun b u q _ _ _ => k b u q
  slot := fun b u q _ _ _ => ⟨u.slots, k b u q⟩
  free := fun b u q n _ => by rw [upd_ne (Nat.ne_of_lt (Nat.lt_of_lt_of_le (Heap.lt_size q) hp))]; exact n
  there := fun b u q _ => ⟨u, k b u q⟩
  tups := fun b xs q => by rw [upd_ne (ne_of_none q hn)]; exact q
  frzs := fun b u xs q => by rw [upd_ne (ne_of_none q hn)]; exact q
  tbls := fun b ps q => ⟨#[], by rw [upd_ne (ne_of_none q hn), q]; simp⟩
theorem Un.write (mu : Mut (H x)) (he : e = x ∨ H e = some (.own x)) (k : ∀ b u, b ≠ e → h.get? b = some u → h'.get? b = some u) (heo : ∃ u, h'.get? e = some u) : Un fs ex H (upd H x o) h h' := by
  have hx : ∀ b, H b = none → b ≠ x := fun b n z => by subst z; rw [n] at mu; exact mu
  have hb : ∀ b, H b = none → b ≠ e := fun b n z => by
    subst z
    rcases he with r | r
    · exact hx b n r
    · rw [n] at r; cases r
  have hm : ∀ b u, H b = some u → ¬ Mut (some u) → b ≠ x := fun b u q nm z => by subst z; rw [q] at mu; exact nm mu
  refine ⟨fun b u q n _ _ => k b u (hb b n) q, fun b u q n _ _ => ⟨u.slots, k b u (hb b n) q⟩, fun b u q n _ => by rw [upd_ne (hx b n)]; exact n, fun b u q _ => ?_,
    fun b xs q => by rw [upd_ne (hm b _ q fun z => z)]; exact q, fun b u xs q => by rw [upd_ne (hm b _ q fun z => z)]; exact q, fun b ps q => ⟨#[], by rw [upd_ne (hm b _ q fun z => z), q]; simp⟩⟩
  by_cases hbe : b = e
  · subst hbe; exact heo
  · exact ⟨u, k b u hbe q⟩
theorem Un.mono (u : Un fs ex H H1 h h1) (hs : ∀ b ∈ fs, b ∈ fs') (hx : ∀ b ∈ ex, b ∈ ex') : Un fs' ex' H H1 h h1 :=
  ⟨fun b ob q n hb he => u.keep b ob q n (fun z => hb (hs b z)) fun z => he (hx b z), fun _ _ q n _ he => u.any q n fun z => he (hx _ z), fun b ob q n he => u.free b ob q n fun z => he (hx b z), fun b ob q he => u.there b ob q fun z => he (hx b z), u.tups, u.frzs, u.tbls⟩
end

/-! ### the heap without what is tracked -/
def trk (h : Heap) (H : Hp) : List Addr := (List.range h.objs.size).filter fun a => (H a).isSome
def hidT (h : Heap) (H : Hp) : Heap := PySem.W.hideAll h (trk h H)
theorem hidT_size (h : Heap) (H : Hp) : (hidT h H).objs.size = h.objs.size := PySem.W.hideAll_size _ _
theorem hidT_get {h : Heap} {H : Hp} {b : Addr} {o : Obj} (e : h.get? b = some o) (n : H b = none) : (hidT h H).get? b = some o :=
  PySem.W.hideAll_get _ e fun hm => by
    have q : (H b).isSome = true := (List.mem_filter.mp hm).2
    rw [n] at q; simp at q
theorem of_hidT {h : Heap} {H : Hp} {b : Addr} {o : Obj} (e : (hidT h H).get? b = some o) : h.get? b = some o ∧ H b = none := by
  have e' : h.get? b = some o := PySem.W.of_hideAll (trk h H) e
  refine ⟨e', ?_⟩
  cases q : H b with
  | none => rfl
  | some x =>
    have hm : b ∈ trk h H := List.mem_filter.mpr ⟨List.mem_range.mpr (Heap.lt_size e'), by simp [q]⟩
    have z : (hidT h H).get? b = none := PySem.W.hideAll_none (trk h H) hm
    rw [z] at e; cases e

/-! ### OpenK's ledger, filled with every new object but one -/
def allNews (g h : Heap) (L : Addr) : List (Addr × Obj) := (List.range h.objs.size).filterMap fun a => if a = L ∨ (g.get? a).isSome = true then none else (h.get? a).map fun o => (a, o)
def rest (g h : Heap) (L d : Addr) : List (Addr × Obj) := (allNews g h L).filter fun p => decide (p.1 ≠ d)
end L2

namespace L2
open PySem PySem.Spec PyProof.Rows

/-- the module's facts, over the base: the heap at the law's entry without what is tracked there -/
structure Mod (K : PySem.W.Frag) (mg : Str → Option Value) (base : Heap) : Prop where
  kin : K.In base
  glob : base.Ns mainGlobals mg
  blt : ∃ mb, base.Ns builtinsNs mb ∧ ∀ x : Str, x ≠ "__name__" → mb x = bootBuiltins x
  nolimit : base.NoLimit

/-- the context: a def's body (or a comprehension's block) running. base: fixed through the whole law; s₀, H₀: the entry; outer: the frames whose slots others may change (a def's callers); stack: all frames that run;
   ex: iterators that were made ahead of the entry and are walked here (a comprehension's); fn: the names whose cells were made at the entry (a def: all; a comprehension's block: its own); calm: not within an except suite; pn: pins that every state bears; xe: what is wanted of an exception that leaves the code -/
structure Cx where
  prog : Program
  w : World
  K : PySem.W.Frag
  mg : Str → Option Value
  base : Heap
  A : Around
  N : List Str
  s₀ : Shared
  H₀ : Hp
  env : Env
  outer : List Env
  stack : List Env
  ex : List Addr
  fn : Str → Bool
  calm : Bool
  pn : List (Addr × Obj)
  xe : Value → Shared → Prop
/-- the callers' frames -/
def frs (l : List Env) : List Addr := l.filterMap (·.frame)
abbrev Cx.fs (X : Cx) : List Addr := frs X.outer

def Vis (sc : Scope) (x : Str) : Prop := sc.names.lookup x = some .local ∨ sc.names.lookup x = some .cell ∨ sc.names.lookup x = some .free
def Loc (sc : Scope) (x : Str) : Prop := sc.names.lookup x = some .local ∨ sc.names.lookup x = some .cell
def Look (env : Env) (h : Heap) (m : Str → Option Value) (x : Str) (u : Value) : Prop :=
  (env.kindOf x = some .local ∧ m x = some u) ∨ ((env.kindOf x = some .cell ∨ env.kindOf x = some .free) ∧ ∃ c, env.cells.lookup x = some c ∧ h.IsCell c (some u))

structure Cx.Ok (X : Cx) : Prop where
  mod : Mod X.K X.mg X.base
  kind : X.env.scope.kind = .function
  glob : X.env.globals = mainGlobals
  blt : X.env.builtins = builtinsNs
  above : X.s₀.heap.objs.size ≤ X.env.locals
  inj : ∀ x y c, X.env.cells.lookup x = some c → X.env.cells.lookup y = some c → x = y
  has : ∀ x, (X.env.kindOf x = some .cell ∨ X.env.kindOf x = some .free) → ∃ c, X.env.cells.lookup x = some c
  cab : ∀ x c, X.fn x = true → X.env.cells.lookup x = some c → X.s₀.heap.objs.size ≤ c
  hd : X.calm = true → X.A.handled = none
  frames : X.A.frames = some X.stack
  stk : X.stack = X.outer ∨ (X.stack = X.env :: X.outer ∧ X.env.frame = some X.env.locals)
  exf : ∀ b ∈ X.ex, b ≠ X.env.locals ∧ ∀ x c, X.env.cells.lookup x = some c → c ≠ b
  bs : ∀ b o, X.base.get? b = some o → X.s₀.heap.get? b = some o ∧ X.H₀ b = none
  bsz : X.base.objs.size ≤ X.s₀.heap.objs.size
  noex : ∀ b o, X.base.get? b = some o → b ∉ X.ex
  exfs : ∀ b ∈ X.ex, b ∉ X.fs
  funs : X.s₀.heap.FunFrames X.base X.outer
  frf : ∀ b ∈ X.fs, X.H₀ b = none

structure Inv (X : Cx) (pins : List (Addr × Obj)) (σ : List (Option V)) (H : Hp) (s : Shared) : Prop where
  ok : X.Ok
  os : s.os = X.s₀.os
  bare : AllBare s.gens
  base : Un X.fs X.ex X.H₀ H X.s₀.heap s.heap
  loc : ∃ m, s.heap.Ns X.env.locals m ∧ ∀ (i : Nat) (x : Str) (v : V), X.N[i]? = some x → σ[i]? = some (some v) → Vis X.env.scope x → ∃ u, RelV v u ∧ Look X.env s.heap m x u
  cell : ∀ x c, X.env.cells.lookup x = some c → ∃ v, s.heap.IsCell c v
  free : H X.env.locals = none
  freeC : ∀ x c, X.env.cells.lookup x = some c → H c = none
  pin : ∀ p ∈ X.pn ++ pins, s.heap.get? p.1 = some p.2 ∧ H p.1 = none ∧ p.1 ≠ X.env.locals ∧ p.1 ∉ X.fs ∧ ∀ v, p.2.data ≠ .cell v
  hok : HOk X.prog X.w H s.heap
  len : σ.length = X.N.length

section
variable {X : Cx} {pins : List (Addr × Obj)} {σ : List (Option V)} {H H' : Hp} {s : Shared} {h' : Heap}

theorem Cx.Ok.nofr (ok : X.Ok) {b : Addr} {o : Obj} (e : X.base.get? b = some o) : b ∉ X.fs := fun hb => by
  have := (ok.funs.mem hb).1
  rw [e] at this; cases this
theorem Inv.bs (I : Inv X pins σ H s) : ∀ b o, X.base.get? b = some o → s.heap.get? b = some o ∧ H b = none := fun b o e =>
  ⟨I.base.keep b o (I.ok.bs b o e).1 (I.ok.bs b o e).2 (I.ok.nofr e) (I.ok.noex b o e), I.base.free b o (I.ok.bs b o e).1 (I.ok.bs b o e).2 (I.ok.noex b o e)⟩
theorem Inv.bk (I : Inv X pins σ H s) : ∀ b o, X.base.get? b = some o → s.heap.get? b = some o := fun b o e => (I.bs b o e).1
theorem Inv.mod (I : Inv X pins σ H s) : Mod X.K X.mg X.base := I.ok.mod
theorem Inv.kIn (I : Inv X pins σ H s) : X.K.In s.heap := I.ok.mod.kin.keeps I.bk
theorem Inv.nolimit (I : Inv X pins σ H s) : s.heap.NoLimit := I.ok.mod.nolimit.keeps I.bk
/-- the frame over the base: for OpenK's rules (K.In X.base is I.mod.kin) -/
theorem Inv.fr (I : Inv X pins σ H s) : ∃ m, Fr X.base X.env.locals s.heap m :=
  let ⟨m, hn, _⟩ := I.loc
  ⟨m, hn, I.bk, Nat.le_trans I.ok.bsz I.ok.above⟩
theorem Inv.lt (I : Inv X pins σ H s) : X.env.locals < s.heap.objs.size := let ⟨_, hn, _⟩ := I.loc; hn.lt
theorem Inv.sz (I : Inv X pins σ H s) : X.s₀.heap.objs.size ≤ s.heap.objs.size := Nat.le_trans I.ok.above (Nat.le_of_lt I.lt)
theorem Inv.nofs (I : Inv X pins σ H s) {a : Addr} (h : s.heap.objs.size ≤ a) : a ∉ X.fs := fun hb => by
  obtain ⟨_, o, ho, _⟩ := I.ok.funs.mem hb
  exact absurd (Nat.lt_of_lt_of_le (Heap.lt_size ho) (Nat.le_trans I.sz h)) (Nat.lt_irrefl _)
theorem Inv.cne (I : Inv X pins σ H s) : ∀ x c, X.env.cells.lookup x = some c → c ≠ X.env.locals := fun x c e z => by
  obtain ⟨v, o, ho, hd⟩ := I.cell x c e
  obtain ⟨m, ⟨o', es, ep, ho', hd', _⟩, _⟩ := I.loc
  rw [z, ho'] at ho; cases ho; rw [hd'] at hd; cases hd
theorem Inv.funs (I : Inv X pins σ H s) : s.heap.FunFrames X.base X.outer := by
  have all : ∀ (l : List Env), (∀ b ∈ frs l, b ∈ X.fs) → X.s₀.heap.FunFrames X.base l → s.heap.FunFrames X.base l := by
    intro l
    induction l with
    | nil => intro _ _; trivial
    | cons env r ih =>
      intro hs hl
      obtain ⟨hk, ⟨L, o, hf, hn, ho, hd⟩, hr⟩ := hl
      have hL : L ∈ X.fs := hs L (by unfold frs; rw [List.filterMap_cons, hf]; exact List.mem_cons_self)
      obtain ⟨sl, e⟩ := I.base.slot L o ho (I.ok.frf L hL) hL fun z => I.ok.exfs L z hL
      exact ⟨hk, ⟨L, _, hf, hn, e, hd⟩, ih (fun b hb => hs b (by unfold frs; rw [List.filterMap_cons, hf]; exact List.mem_cons_of_mem _ hb)) hr⟩
  exact all X.outer (fun _ hb => hb) I.ok.funs

/-- the frames that run, for a call -/
theorem Inv.stack (I : Inv X pins σ H s) : s.heap.FunFrames X.base X.stack := by
  rcases I.ok.stk with e | ⟨e, hf⟩
  · rw [e]; exact I.funs
  · rw [e]
    obtain ⟨m, hn, _⟩ := I.loc
    refine .cons (by rw [I.ok.kind]; decide) hf hn ?_ I.funs
    exact Heap.get?_none_of_le (Nat.le_trans I.ok.bsz I.ok.above)
theorem Inv.stkSub (I : Inv X pins σ H s) : ∀ b ∈ frs X.stack, b ∈ X.env.locals :: X.fs := fun b hb => by
  rcases I.ok.stk with e | ⟨e, hf⟩
  · rw [e] at hb; exact List.mem_cons_of_mem _ hb
  · rw [e] at hb
    unfold frs at hb
    rw [List.filterMap_cons, hf] at hb
    exact hb
theorem Inv.stkFree (I : Inv X pins σ H s) : ∀ b ∈ frs X.stack, H b = none := fun b hb => by
  rcases List.mem_cons.mp (I.stkSub b hb) with e | hb
  · rw [e]; exact I.free
  · obtain ⟨_, o, ho, _⟩ := I.ok.funs.mem hb
    exact I.base.free b o ho (I.ok.frf b hb) fun z => I.ok.exfs b z hb

/-- THE STEP: the untracked objects but the frame and the records at ch are kept (the callers' frames up to slots), the frame's map is kept, the new abstract heap is held -/
theorem Inv.step {g' : Array GenState} {t' : Nat} {d' : Drawn} {ch : List Addr} (I : Inv X pins σ H s)
    (hch : ∀ b ∈ ch, (b ∈ X.ex ∨ X.s₀.heap.objs.size ≤ b) ∧ b ≠ X.env.locals ∧ (∀ x c, X.env.cells.lookup x = some c → c ≠ b) ∧ ∀ p ∈ X.pn ++ pins, p.1 ≠ b)
    (keep : ∀ b o, b ≠ X.env.locals → b ∉ X.fs → b ∉ ch → s.heap.get? b = some o → H b = none → h'.get? b = some o)
    (slot : ∀ b o, b ≠ X.env.locals → b ∈ X.fs → b ∉ ch → s.heap.get? b = some o → H b = none → ∃ sl, h'.get? b = some { o with slots := sl }) (free : ∀ b o, b ∉ ch → s.heap.get? b = some o → H b = none → H' b = none)
    (there : ∀ b o, b ∉ ch → s.heap.get? b = some o → ∃ o', h'.get? b = some o')
    (tups : ∀ b xs, H b = some (.tup xs) → H' b = some (.tup xs)) (frzs : ∀ b o u, H b = some (.frz o u) → H' b = some (.frz o u)) (tbls : ∀ b ps, H b = some (.tbl ps) → ∃ more, H' b = some (.tbl (ps ++ more)))
    (ns : ∀ m, s.heap.Ns X.env.locals m → h'.Ns X.env.locals m) (hok : HOk X.prog X.w H' h') (hg : AllBare g') :
    Inv X pins σ H' { s with heap := h', gens := g', drawn := d', toks := t' } := by
  have neL : ∀ b o, X.s₀.heap.get? b = some o → b ≠ X.env.locals := fun b o e => Nat.ne_of_lt (Nat.lt_of_lt_of_le (Heap.lt_size e) I.ok.above)
  have neC : ∀ b o, X.s₀.heap.get? b = some o → b ∉ X.ex → b ∉ ch := fun b o e hx hb => by
    rcases (hch b hb).1 with z | z
    · exact hx z
    · exact absurd (Nat.lt_of_lt_of_le (Heap.lt_size e) z) (Nat.lt_irrefl _)
  have cellK : ∀ x c, X.env.cells.lookup x = some c → ∀ v, s.heap.IsCell c v → h'.IsCell c v := fun x c e v ⟨o, ho, hd⟩ => by
    have nch : c ∉ ch := fun z => (hch c z).2.2.1 x c e rfl
    by_cases hc : c ∈ X.fs
    · obtain ⟨sl, q⟩ := slot c o (I.cne x c e) hc nch ho (I.freeC x c e)
      exact ⟨_, q, hd⟩
    · exact ⟨o, keep c o (I.cne x c e) hc nch ho (I.freeC x c e), hd⟩
  refine ⟨I.ok, I.os, hg, ⟨fun b o e n hb hx => ?_, fun b o e n hb hx => ?_, fun b o e n hx => ?_, fun b o e hx => ?_, fun b xs e => tups b xs (I.base.tups b xs e), fun b o xs e => frzs b o xs (I.base.frzs b o xs e), fun b ps e => ?_⟩, ?_, fun x c e => ?_, ?_, fun x c e => ?_, fun p hp => ?_, hok, I.len⟩
  · exact keep b o (neL b o e) hb (neC b o e hx) (I.base.keep b o e n hb hx) (I.base.free b o e n hx)
  · obtain ⟨sl, e1⟩ := I.base.slot b o e n hb hx
    obtain ⟨sl', e2⟩ := slot b _ (neL b o e) hb (neC b o e hx) e1 (I.base.free b o e n hx)
    exact ⟨sl', e2⟩
  · obtain ⟨o', e1⟩ := I.base.there b o e hx
    exact free b o' (neC b o e hx) e1 (I.base.free b o e n hx)
  · obtain ⟨o', e1⟩ := I.base.there b o e hx
    exact there b o' (neC b o e hx) e1
  · obtain ⟨m1, e1⟩ := I.base.tbls b ps e
    obtain ⟨m2, e2⟩ := tbls b _ e1
    exact ⟨m1 ++ m2, by rw [e2, Array.append_assoc]⟩
  · obtain ⟨m, hn, hl⟩ := I.loc
    refine ⟨m, ns m hn, fun i x v e1 e2 e3 => ?_⟩
    obtain ⟨u, r, l⟩ := hl i x v e1 e2 e3
    refine ⟨u, r, ?_⟩
    rcases l with l | ⟨k, c, e, z⟩
    · exact .inl l
    · exact .inr ⟨k, c, e, cellK x c e _ z⟩
  · obtain ⟨v, z⟩ := I.cell x c e
    exact ⟨v, cellK x c e v z⟩
  · obtain ⟨m, ⟨o, _, _, ho, _⟩, _⟩ := I.loc
    exact free _ o (fun z => (hch _ z).2.1 rfl) ho I.free
  · obtain ⟨v, o, ho, hd⟩ := I.cell x c e
    exact free c o (fun z => (hch c z).2.2.1 x c e rfl) ho (I.freeC x c e)
  · obtain ⟨e, n, ne, nf, d⟩ := I.pin p hp
    have nch : p.1 ∉ ch := fun z => (hch p.1 z).2.2.2 p hp rfl
    exact ⟨keep p.1 p.2 ne nf nch e n, free p.1 p.2 nch e n, ne, nf, d⟩
/-- .. where the frame's own object is kept too -/
theorem Inv.un {t' : Nat} (I : Inv X pins σ H s) (u : Un X.fs [] H H' s.heap h') (hok : HOk X.prog X.w H' h') : Inv X pins σ H' { s with heap := h', toks := t' } := by
  obtain ⟨m, ⟨o, es, ep, ho, r⟩, _⟩ := id I.loc
  obtain ⟨sl, hL⟩ := u.any ho I.free (by simp)
  exact I.step (g' := s.gens) (d' := s.drawn) (ch := []) (fun _ z => nomatch z) (fun b o _ hb _ e n => u.keep b o e n hb (by simp)) (fun b o _ hb _ e n => u.slot b o e n hb (by simp)) (fun b o _ e n => u.free b o e n (by simp)) (fun b o _ e => u.there b o e (by simp)) u.tups u.frzs u.tbls (fun m' hm => by
    obtain ⟨o', es', ep', ho', r'⟩ := hm
    rw [ho] at ho'; cases ho'
    exact ⟨_, es', ep', hL, r'⟩) hok I.bare
/-- behind a call (or a comprehension's block): the slots of this frame may have changed too, the records at ch may have turned -/
theorem Inv.call {g' : Array GenState} {t' : Nat} {d' : Drawn} {ch : List Addr} (I : Inv X pins σ H s) (u : Un (frs X.stack) ch H H' s.heap h') (hok : HOk X.prog X.w H' h') (hg : AllBare g')
    (hch : ∀ b ∈ ch, (b ∈ X.ex ∨ X.s₀.heap.objs.size ≤ b) ∧ b ≠ X.env.locals ∧ (∀ x c, X.env.cells.lookup x = some c → c ≠ b) ∧ ∀ p ∈ X.pn ++ pins, p.1 ≠ b) :
    Inv X pins σ H' { s with heap := h', gens := g', drawn := d', toks := t' } := by
  obtain ⟨m, ⟨o, es, ep, ho, r⟩, _⟩ := id I.loc
  obtain ⟨sl, hL⟩ := u.any ho I.free fun z => (hch _ z).2.1 rfl
  exact I.step (ch := ch) hch (fun b o hL hb hc e n => u.keep b o e n (fun z => (List.mem_cons.mp (I.stkSub b z)).elim hL hb) hc) (fun b o _ _ hc e n => u.any e n hc) (fun b o hc e n => u.free b o e n hc) (fun b o hc e => u.there b o e hc) u.tups u.frzs u.tbls (fun m' hm => by
    obtain ⟨o', es', ep', ho', r'⟩ := hm
    rw [ho] at ho'; cases ho'
    exact ⟨_, es', ep', hL, r'⟩) hok hg
/-- an untracked record of ours (an iterator) has turned -/
theorem Inv.turned {t' : Nat} {it : Addr} (I : Inv X pins σ H s) (k : ∀ b o, b ≠ it → s.heap.get? b = some o → h'.get? b = some o) (hn : H it = none) (hL : it ≠ X.env.locals)
    (h1 : it ∈ X.ex ∨ X.s₀.heap.objs.size ≤ it) (h2 : ∀ x c, X.env.cells.lookup x = some c → c ≠ it) (h3 : ∀ p ∈ X.pn ++ pins, p.1 ≠ it) : Inv X pins σ H { s with heap := h', toks := t' } := by
  have nit : ∀ b u, H b = some u → b ≠ it := fun b u e z => by rw [z, hn] at e; cases e
  refine I.step (g' := s.gens) (d' := s.drawn) (ch := [it]) (fun b hb => ?_) (fun b o _ _ hc e _ => k b o (fun z => hc (by simp [z])) e) (fun b o _ _ hc e _ => ⟨o.slots, k b o (fun z => hc (by simp [z])) e⟩) (fun _ _ _ _ n => n)
    (fun b o hc e => ⟨o, k b o (fun z => hc (by simp [z])) e⟩) (fun _ _ e => e) (fun _ _ _ e => e) (fun b ps e => ⟨#[], by rw [e]; simp⟩) (fun m hm => ?_) (fun b u e => ?_) I.bare
  · have e : b = it := by simpa using hb
    subst e
    exact ⟨h1, hL, h2, h3⟩
  · obtain ⟨o, es, ep, ho, r⟩ := hm
    exact ⟨o, es, ep, k _ o (Ne.symm hL) ho, r⟩
  · refine (I.hok b u e).stay (fun c v hc q => k c v ?_ q) (fun _ q => q) fun _ _ q => q
    rcases hc with z | z
    · rw [z]; exact nit b u e
    · exact nit c _ z
theorem Inv.tok (I : Inv X pins σ H s) (t : Nat) : Inv X pins σ H { s with toks := t } := I.un (h' := s.heap) (t' := t) Un.refl I.hok
/-- all objects kept -/
theorem Inv.kept {t' : Nat} (I : Inv X pins σ H s) (k : ∀ b u, s.heap.get? b = some u → h'.get? b = some u) : Inv X pins σ H { s with heap := h', toks := t' } := I.un (Un.kept k) (I.hok.kept k)
/-- a new object laid and tracked -/
theorem Inv.laid {a : Addr} {o : HO} {t' : Nat} (I : Inv X pins σ H s) (k : ∀ b u, s.heap.get? b = some u → h'.get? b = some u) (hp : s.heap.objs.size ≤ a) (new : ObjOk X.prog X.w (upd H a o) h' a o) :
    Inv X pins σ (upd H a o) { s with heap := h', toks := t' } := I.un (Un.laid k hp (I.hok.fresh hp)) (I.hok.laid k hp new)
/-- an object written -/
theorem Inv.write {x e : Addr} {o : HO} {t' : Nat} (I : Inv X pins σ H s) (mu : Mut (H x)) (he : e = x ∨ H e = some (.own x)) (k : ∀ b u, b ≠ e → s.heap.get? b = some u → h'.get? b = some u) (heo : ∃ u, h'.get? e = some u)
    (new : ObjOk X.prog X.w (upd H x o) h' x o) : Inv X pins σ (upd H x o) { s with heap := h', toks := t' } := I.un (Un.write mu he k heo) (I.hok.write mu he k heo new)
/-- forgetting slots, pins -/
theorem Inv.weak {σ' : List (Option V)} (I : Inv X pins σ H s) (hl : σ'.length = σ.length) (w : ∀ (i : Nat) v, σ'[i]? = some (some v) → σ[i]? = some (some v)) : Inv X pins σ' H s :=
  ⟨I.ok, I.os, I.bare, I.base, let ⟨m, hn, hl'⟩ := I.loc; ⟨m, hn, fun i x v e1 e2 e3 => hl' i x v e1 (w i v e2) e3⟩, I.cell, I.free, I.freeC, I.pin, I.hok, hl.trans I.len⟩
theorem Inv.pins_of {pins' : List (Addr × Obj)} (I : Inv X pins σ H s) (h : ∀ p ∈ pins', s.heap.get? p.1 = some p.2 ∧ H p.1 = none ∧ p.1 ≠ X.env.locals ∧ p.1 ∉ X.fs ∧ ∀ v, p.2.data ≠ .cell v) : Inv X pins' σ H s :=
  ⟨I.ok, I.os, I.bare, I.base, I.loc, I.cell, I.free, I.freeC, fun p hp => (List.mem_append.mp hp).elim (fun z => I.pin p (List.mem_append_left _ z)) (h p), I.hok, I.len⟩

theorem nodup_ix {N : List Str} (hN : N.Nodup) {i j : Nat} {x : Str} (a : N[i]? = some x) (b : N[j]? = some x) : i = j := by
  obtain ⟨h1, e1⟩ := List.getElem?_eq_some_iff.mp a
  obtain ⟨h2, e2⟩ := List.getElem?_eq_some_iff.mp b
  exact (List.getElem_inj hN).mp (e1.trans e2.symm)

/-- a name is stored; what changed -/
theorem store_ok2 {M : Model} {A : Around} {E : Value → Shared → Prop} {i : Nat} {x : Str} {v : V} {u : Value} {Q : Unit → Shared → Prop} (I : Inv X pins σ H s) (hN : X.N.Nodup) (hi : X.N[i]? = some x) (hx : Loc X.env.scope x) (r : RelV v u)
    (h : ∀ s', Inv X pins (σ.set i (some v)) H s' → (∃ a, Heap.SameBut a s.heap s'.heap ∧ (a = X.env.locals ∨ X.env.cells.lookup x = some a)) → Q () s') (hf : X.fn x = true ∨ X.env.scope.names.lookup x = some .local := by first | exact .inl rfl | exact .inr rfl | assumption) : wpAny M A (storeName X.env x u) Q E s := by
  obtain ⟨m, hn, hl⟩ := id I.loc
  have hcls : (X.env.scope.kind == .class || (X.env.scope.kind == .module && X.env.locals != X.env.globals)) = false := by rw [I.ok.kind]; rfl
  have hiσ : i < σ.length := by rw [I.len]; exact (List.getElem?_eq_some_iff.mp hi).1
  have cne := I.cne
  have tracked : ∀ {a : Addr} {h' : Heap}, (∃ o, s.heap.get? a = some o ∧ H a = none) → Heap.SameBut a s.heap h' → HOk X.prog X.w H h' := fun {a h'} ha hs b ob e => by
    obtain ⟨_, _, hfree⟩ := ha
    refine (I.hok b ob e).stay (fun c w' hc q => (hs.2 c ?_).trans q) (fun _ q => q) fun _ _ q => q
    rintro rfl
    rcases hc with rfl | hc
    · rw [hfree] at e; cases e
    · rw [hfree] at hc; cases hc
  rcases hx with hk | hk
  · refine wpAny_storeName_local hk hn (fun h' hn' hs => ?_) hcls
    obtain ⟨oL, _, _, hoL, _⟩ := id hn
    refine h _ ⟨I.ok, I.os, I.bare, ⟨fun b o e n hb hx => ?_, fun b o e n hb hx => ?_, I.base.free, fun b o e hx => ?_, I.base.tups, I.base.frzs, I.base.tbls⟩, ⟨_, hn', fun j y v' e1 e2 e3 => ?_⟩, fun y c e => ?_, I.free, I.freeC, fun p hp => ?_, tracked ⟨oL, hoL, I.free⟩ hs, by simpa using I.len⟩ ⟨_, hs, .inl rfl⟩
    · exact (hs.2 b (Nat.ne_of_lt (Nat.lt_of_lt_of_le (Heap.lt_size e) I.ok.above))).trans (I.base.keep b o e n hb hx)
    · obtain ⟨sl, e1⟩ := I.base.slot b o e n hb hx
      exact ⟨sl, (hs.2 b (Nat.ne_of_lt (Nat.lt_of_lt_of_le (Heap.lt_size e) I.ok.above))).trans e1⟩
    · obtain ⟨o', e1⟩ := I.base.there b o e hx
      exact ⟨o', (hs.2 b (Nat.ne_of_lt (Nat.lt_of_lt_of_le (Heap.lt_size e) I.ok.above))).trans e1⟩
    · by_cases hj : j = i
      · subst hj
        rw [hi] at e1; cases e1
        rw [List.getElem?_set_self hiσ] at e2
        cases e2
        exact ⟨u, r, .inl ⟨hk, by simp⟩⟩
      · rw [List.getElem?_set_ne (Ne.symm hj)] at e2
        obtain ⟨u', r', q⟩ := hl j y v' e1 e2 e3
        refine ⟨u', r', ?_⟩
        rcases q with ⟨k, e⟩ | ⟨k, c, e, z⟩
        · refine .inl ⟨k, ?_⟩
          have : y ≠ x := fun e => hj (nodup_ix hN e1 (e ▸ hi))
          simp [this, e]
        · exact .inr ⟨k, c, e, z.sameBut hs (cne y c e)⟩
    · obtain ⟨w', z⟩ := I.cell y c e
      exact ⟨w', z.sameBut hs (cne y c e)⟩
    · obtain ⟨e, n, ne, nf, d⟩ := I.pin p hp
      exact ⟨(hs.2 p.1 ne).trans e, n, ne, nf, d⟩
  · have hfn : X.fn x = true := by
      rcases hf with z | z
      · exact z
      · rw [z] at hk; cases hk
    obtain ⟨c, hc⟩ := I.ok.has x (.inl hk)
    obtain ⟨w', z⟩ := I.cell x c hc
    refine wpAny_storeName_cell I.ok.kind hk hc z (fun h' hc' hs => ?_)
    obtain ⟨oc, hoc, hocd⟩ := id z
    refine h { s with heap := h' } ⟨I.ok, I.os, I.bare, ⟨fun b o e n hb hx => ?_, fun b o e n hb hx => ?_, I.base.free, fun b o e hx => ?_, I.base.tups, I.base.frzs, I.base.tbls⟩, ⟨m, hn.sameBut hs (Ne.symm (cne x c hc)), fun j y v' e1 e2 e3 => ?_⟩, fun y c' e => ?_, I.free, I.freeC, fun p hp => ?_, tracked ⟨oc, hoc, I.freeC x c hc⟩ hs, by simpa using I.len⟩ ⟨c, hs, .inr hc⟩
    · exact (hs.2 b (Nat.ne_of_lt (Nat.lt_of_lt_of_le (Heap.lt_size e) (I.ok.cab x c hfn hc)))).trans (I.base.keep b o e n hb hx)
    · obtain ⟨sl, e1⟩ := I.base.slot b o e n hb hx
      exact ⟨sl, (hs.2 b (Nat.ne_of_lt (Nat.lt_of_lt_of_le (Heap.lt_size e) (I.ok.cab x c hfn hc)))).trans e1⟩
    · obtain ⟨o', e1⟩ := I.base.there b o e hx
      exact ⟨o', (hs.2 b (Nat.ne_of_lt (Nat.lt_of_lt_of_le (Heap.lt_size e) (I.ok.cab x c hfn hc)))).trans e1⟩
    · by_cases hj : j = i
      · subst hj
        rw [hi] at e1; cases e1
        rw [List.getElem?_set_self hiσ] at e2
        cases e2
        exact ⟨u, r, .inr ⟨.inl hk, c, hc, hc'⟩⟩
      · rw [List.getElem?_set_ne (Ne.symm hj)] at e2
        obtain ⟨u', r', q⟩ := hl j y v' e1 e2 e3
        refine ⟨u', r', ?_⟩
        rcases q with q | ⟨k, c', e, z'⟩
        · exact .inl q
        · refine .inr ⟨k, c', e, z'.sameBut hs ?_⟩
          rintro rfl
          exact hj (nodup_ix hN e1 (I.ok.inj _ _ _ e hc ▸ hi))
    · by_cases hcc : c' = c
      · subst hcc; exact ⟨_, hc'⟩
      · obtain ⟨w2, z2⟩ := I.cell y c' e
        exact ⟨w2, z2.sameBut hs hcc⟩
    · obtain ⟨e, n, ne, nf, d⟩ := I.pin p hp
      refine ⟨(hs.2 p.1 ?_).trans e, n, ne, nf, d⟩
      intro q
      rw [q, hoc] at e
      have q' : oc = p.2 := Option.some.inj e
      exact d w' (by rw [← q']; exact hocd)
theorem store_ok {M : Model} {A : Around} {E : Value → Shared → Prop} {i : Nat} {x : Str} {v : V} {u : Value} {Q : Unit → Shared → Prop} (I : Inv X pins σ H s) (hN : X.N.Nodup) (hi : X.N[i]? = some x) (hx : Loc X.env.scope x) (r : RelV v u)
    (h : ∀ s', Inv X pins (σ.set i (some v)) H s' → Q () s') (hf : X.fn x = true ∨ X.env.scope.names.lookup x = some .local := by first | exact .inl rfl | exact .inr rfl | assumption) : wpAny M A (storeName X.env x u) Q E s :=
  store_ok2 I hN hi hx r (fun s' I' _ => h s' I') hf
/-- behind a call or a block, the state as it is -/
theorem Inv.call' {s' : Shared} {ch : List Addr} (I : Inv X pins σ H s) (ho : s'.os = s.os) (u : Un (frs X.stack) ch H H' s.heap s'.heap) (hok : HOk X.prog X.w H' s'.heap) (hg : AllBare s'.gens)
    (hch : ∀ b ∈ ch, (b ∈ X.ex ∨ X.s₀.heap.objs.size ≤ b) ∧ b ≠ X.env.locals ∧ (∀ x c, X.env.cells.lookup x = some c → c ≠ b) ∧ ∀ p ∈ X.pn ++ pins, p.1 ≠ b) : Inv X pins σ H' s' := by
  obtain ⟨h', g', d', t', o'⟩ := s'
  have e : o' = s.os := ho
  subst e
  exact I.call (g' := g') (t' := t') (d' := d') u hok hg hch
end

/-! ### the judgements -/
/-- an exception: its class, its own dict's address (where it has one), the abstract heap behind it -/
abbrev XK := Value → Option Addr → Hp → Prop
abbrev St := List (Option V)
abbrev VK := V → Hp → Prop
/-- an expression's reading; a test's; an argument list's -/
abbrev TE := St → Hp → VK → Prop
abbrev TT := St → Hp → (Bool → Hp → Prop) → Prop
abbrev TA := St → Hp → (List V → Hp → Prop) → Prop
/-- what is wanted behind a statement -/
structure Ends where
  nx : St → Hp → Prop
  rt : VK
  bk : St → Hp → Prop := fun _ _ => False
  ct : St → Hp → Prop := fun _ _ => False
abbrev TS := Ends → St → Hp → Prop

def EP (X : Cx) (pins : List (Addr × Obj)) (σ : St) (Q : VK) (u : Value) (s' : Shared) : Prop := ∃ v H', Inv X pins σ H' s' ∧ RelV v u ∧ Q v H'
def TP (X : Cx) (pins : List (Addr × Obj)) (σ : St) (Q : Bool → Hp → Prop) (b : Bool) (s' : Shared) : Prop := ∃ H', Inv X pins σ H' s' ∧ Q b H'
def AP (X : Cx) (pins : List (Addr × Obj)) (σ : St) (Q : List V → Hp → Prop) (us : List Value) (s' : Shared) : Prop := ∃ vs H', Inv X pins σ H' s' ∧ Vals vs us ∧ Q vs H'
def SP (X : Cx) (pins : List (Addr × Obj)) (D : Ends) (f : Flow) (s' : Shared) : Prop :=
  match f with
  | .next => ∃ σ' H', Inv X pins σ' H' s' ∧ D.nx σ' H'
  | .brk => ∃ σ' H', Inv X pins σ' H' s' ∧ D.bk σ' H'
  | .cont => ∃ σ' H', Inv X pins σ' H' s' ∧ D.ct σ' H'
  | .ret u => ∃ v σ' H', Inv X pins σ' H' s' ∧ RelV v u ∧ D.rt v H'

def PE (X : Cx) (e : Expr) (t : TE) : Prop :=
  ∀ (pins : List (Addr × Obj)) (s : Shared) (σ : St) (H : Hp) (Q : VK), Inv X pins σ H s → t σ H Q → wpAny (model X.prog X.w) X.A (eval e X.env) (EP X pins σ Q) X.xe s
def PT (X : Cx) (e : Expr) (t : TT) : Prop :=
  ∀ (pins : List (Addr × Obj)) (s : Shared) (σ : St) (H : Hp) (Q : Bool → Hp → Prop), Inv X pins σ H s → t σ H Q → wpAny (model X.prog X.w) X.A (isTrue e X.env (eval e X.env)) (TP X pins σ Q) X.xe s
/-- a test whatever its 'whole' is (and, or) -/
def PW (X : Cx) (e : Expr) (t : TT) : Prop :=
  ∀ (whole : Sem Value) (pins : List (Addr × Obj)) (s : Shared) (σ : St) (H : Hp) (Q : Bool → Hp → Prop), Inv X pins σ H s → t σ H Q → wpAny (model X.prog X.w) X.A (isTrue e X.env whole) (TP X pins σ Q) X.xe s
theorem PW.pt {X : Cx} {e : Expr} {t : TT} (h : PW X e t) : PT X e t := h _
/-- an argument list (no star), from the left -/
def PA (X : Cx) (es : List Expr) (t : TA) : Prop :=
  ∀ (pos : Pos) (pins : List (Addr × Obj)) (s : Shared) (σ : St) (H : Hp) (Q : List V → Hp → Prop), Inv X pins σ H s → t σ H Q → wpAny (model X.prog X.w) X.A (spliced (backTo pos (starEach es X.env))) (AP X pins σ Q) X.xe s
def PS (X : Cx) (st : Stmt) (t : TS) : Prop :=
  ∀ (pins : List (Addr × Obj)) (s : Shared) (σ : St) (H : Hp) (D : Ends), Inv X pins σ H s → t D σ H → wpAny (model X.prog X.w) X.A (exec st X.env) (SP X pins D) X.xe s
def PSs (X : Cx) (st : List Stmt) (t : TS) : Prop :=
  ∀ (pins : List (Addr × Obj)) (s : Shared) (σ : St) (H : Hp) (D : Ends), Inv X pins σ H s → t D σ H → wpAny (model X.prog X.w) X.A (execs st X.env) (SP X pins D) X.xe s
/-- weaken the end -/
theorem thn {α : Type} {t : Sem α} {Q Q' : α → Shared → Prop} {M : Model} {A : Around} {E : Value → Shared → Prop} {s : Shared} (h : wpAny M A t Q E s) (hQ : ∀ a s, Q a s → Q' a s) : wpAny M A t Q' E s := wpAny_mono h hQ fun _ _ x => x
end L2

namespace L2
open PySem PySem.Spec PyProof.Rows
section
variable {X : Cx}

/-! ### names and constants -/
def tVar (i : Nat) : TE := fun σ H Q => ∃ v, σ[i]? = some (some v) ∧ Q v H
def tC (v : V) : TE := fun _ H Q => Q v H
theorem pe_var {i : Nat} {x : Str} {pos : Pos} (hN : X.N[i]? = some x) (hv : Vis X.env.scope x) (hd : (x == ("__debug__" : Str)) = false := by decide) (hcd : (x == ("__classdict__" : Str)) = false := by decide) : PE X (.Name x pos) (tVar i) := by
  intro pins s σ H Q I h
  obtain ⟨v, e, h⟩ := h
  obtain ⟨m, hn, hl⟩ := I.loc
  obtain ⟨u, r, l⟩ := hl i x v hN e hv
  have fin : EP X pins σ Q u s := ⟨v, H, I, r, h⟩
  rcases l with ⟨hk, hm⟩ | ⟨hk, c, hc, hcell⟩
  · exact wpAny_Name (wpAny_loadName_local I.ok.kind hk hn hm fin) hd
  · rcases hk with hk | hk
    · exact wpAny_Name (wpAny_loadName_cell I.ok.kind hk hc hcell fin) hd
    · exact wpAny_Name (wpAny_loadName_free I.ok.kind hk hc hcell fin hcd) hd
theorem pe_int {i j pos} : PE X (.Constant (.int i) j pos) (tC (.int i)) := fun _ _ _ H _ I h => wpAny_Constant_int ⟨.int i, H, I.tok _, ⟨_, rfl⟩, h⟩
theorem pe_bl {b j pos} : PE X (.Constant (.bool b) j pos) (tC (.bl b)) := fun _ _ _ H _ I h => Constant_bool ⟨.bl b, H, I, rfl, h⟩
theorem pe_non {j pos} : PE X (.Constant .none j pos) (tC .non) := fun _ _ _ H _ I h => Constant_none ⟨.non, H, I, rfl, h⟩
theorem pe_str {x j pos} : PE X (.Constant (.str x) j pos) (tC (.str x)) := fun _ _ _ H _ I h => Calls.Constant_str ⟨.str x, H, I.tok _, ⟨_, rfl⟩, h⟩

/-- a global name of the def -/
def Gl (X : Cx) (x : Str) : Prop := X.env.kindOf x = some .globalImplicit
theorem ld_glob {E : Value → Shared → Prop} {pins : List (Addr × Obj)} {s : Shared} {σ : St} {H : Hp} {x : Str} {u : Value} {pos : Pos} {Q : Value → Shared → Prop} (I : Inv X pins σ H s) (hg : Gl X x) (hm : X.mg x = some u) (h : Q u s)
    (hd : (x == ("__debug__" : Str)) = false := by decide) : wpAny (model X.prog X.w) X.A (eval (.Name x pos) X.env) Q E s :=
  Calls.Name_function_global I.ok.kind hg (Calls.loadGlobal_global (by rw [I.ok.glob]; exact I.mod.glob.keeps I.bk) hm h) hd
theorem ld_blt {E : Value → Shared → Prop} {pins : List (Addr × Obj)} {s : Shared} {σ : St} {H : Hp} {x : Str} {u : Value} {pos : Pos} {Q : Value → Shared → Prop} (I : Inv X pins σ H s) (hg : Gl X x) (hm : X.mg x = none) (hv : bootBuiltins x = some u) (h : Q u s)
    (hn : x ≠ "__name__" := by decide) (hd : (x == ("__debug__" : Str)) = false := by decide) : wpAny (model X.prog X.w) X.A (eval (.Name x pos) X.env) Q E s := by
  obtain ⟨mb, h1, h2⟩ := I.mod.blt
  exact Calls.Name_function_global I.ok.kind hg (Calls.loadGlobal_builtin (by rw [I.ok.glob]; exact I.mod.glob.keeps I.bk) hm (by rw [I.ok.blt]; exact h1.keeps I.bk) ((h2 x hn).trans hv) h) hd
/-- a module's constant, a class, a function, as a value -/
theorem pe_glob {x : Str} {v : V} {u : Value} {pos : Pos} (hg : Gl X x) (hm : X.mg x = some u) (r : RelV v u) (hd : (x == ("__debug__" : Str)) = false := by decide) : PE X (.Name x pos) (tC v) :=
  fun _ _ _ H _ I h => ld_glob I hg hm ⟨v, H, I, r, h⟩ hd
theorem pe_bltn {x : Str} {v : V} {u : Value} {pos : Pos} (hg : Gl X x) (hm : X.mg x = none) (hv : bootBuiltins x = some u) (r : RelV v u) (hn : x ≠ "__name__" := by decide) (hd : (x == ("__debug__" : Str)) = false := by decide) : PE X (.Name x pos) (tC v) :=
  fun _ _ _ H _ I h => ld_blt I hg hm hv ⟨v, H, I, r, h⟩ hn hd

/-! ### arithmetic -/
variable {a b : Expr} {ta tb : TE} {pos : Pos}
/-! ### comparisons -/
def PC (X : Cx) (op : CmpOp) (a b : Expr) (t : TE) : Prop :=
  ∀ (pins : List (Addr × Obj)) (s : Shared) (σ : St) (H : Hp) (Q : VK), Inv X pins σ H s → t σ H Q →
    wpAny (model X.prog X.w) X.A (eval a X.env) (fun v s₁ => wpAny (model X.prog X.w) X.A (eval b X.env) (fun u s₂ => wpAny (model X.prog X.w) X.A (compareOp op v u) (EP X pins σ Q) X.xe s₂) X.xe s₁) X.xe s
theorem nobehind (b : Expr) {op : CmpOp} (h : op ≠ .In) (h2 : op ≠ .NotIn) : behindInMarks op b = false := by
  have e1 : (op == CmpOp.In) = false := by cases op <;> first | rfl | exact absurd rfl h
  have e2 : (op == CmpOp.NotIn) = false := by cases op <;> first | rfl | exact absurd rfl h2
  cases b <;> simp [behindInMarks, e1, e2]
/-- a comparison as a value, as a test -/
def tB (t : TE) : TT := fun σ H Q => t σ H fun x H1 => ∃ c, x = .bl c ∧ Q c H1
theorem pt_cmp {op : CmpOp} {t : TE} (h : PC X op a b t) (h1 : behindInMarks op b = false := by first | exact nobehind _ (by decide) (by decide) | rfl) : PT X (.Compare a [op] [b] pos) (tB t) := by
  intro pins s σ H Q I hw
  refine wpAny_isTrue_Compare1 (thn (h pins s σ H _ I hw) fun v s1 h1 => thn h1 fun u s2 h2 => thn h2 fun c s3 ⟨x, H1, I1, r1, q1⟩ => ?_) h1
  obtain ⟨d, rfl, q⟩ := q1
  cases r1
  exact wpAny_truthy_bool ⟨H1, I1, q⟩
/-- an expression whose value is a bool, as a test -/
theorem pt_val {e : Expr} {t : TE} (h : PE X e t) (he : ∀ whole, isTrue e X.env whole = (do let v ← whole; standAt e.pos; holding [v] (truthy v)) := by intro _; rfl) : PT X e (tB t) := by
  intro pins s σ H Q I hw
  refine isTrue_plain (thn (h pins s σ H _ I hw) fun v s1 ⟨x, H1, I1, r1, q1⟩ => ?_) (he _)
  obtain ⟨d, rfl, q⟩ := q1
  cases r1
  exact wpAny_truthy_bool ⟨H1, I1, q⟩

/-! ### and, or, not -/
variable {tA tB' : TT} {rest : List Expr}
def tAnd (t u : TT) : TT := fun σ H Q => t σ H fun c H1 => if c = true then u σ H1 Q else Q false H1
def tOr (t u : TT) : TT := fun σ H Q => t σ H fun c H1 => if c = true then Q true H1 else u σ H1 Q
def tNot (t : TT) : TT := fun σ H Q => t σ H fun c H1 => Q (!c) H1
theorem pw_and1 (ha : PT X a tA) : PW X (.BoolOp .And [a] pos) tA := by
  intro wh pins s σ H Q I h
  refine isTrue_and (thn (ha pins s σ H Q I h) fun c s1 e => ?_)
  cases c with
  | true => exact isTrue_and_nil e
  | false => exact e
theorem pw_or1 (ha : PT X a tA) : PW X (.BoolOp .Or [a] pos) tA := by
  intro wh pins s σ H Q I h
  refine isTrue_or (thn (ha pins s σ H Q I h) fun c s1 e => ?_)
  cases c with
  | false => exact isTrue_or_nil e
  | true => exact e
theorem pw_and (ha : PT X a tA) (hb : PW X (.BoolOp .And (b :: rest) pos) tB') : PW X (.BoolOp .And (a :: b :: rest) pos) (tAnd tA tB') := by
  intro wh pins s σ H Q I h
  refine isTrue_and (thn (ha pins s σ H _ I h) fun c s1 ⟨H1, I1, q1⟩ => ?_)
  cases c with
  | true => exact hb wh pins s1 σ H1 Q I1 q1
  | false => exact ⟨H1, I1, q1⟩
theorem pw_or (ha : PT X a tA) (hb : PW X (.BoolOp .Or (b :: rest) pos) tB') : PW X (.BoolOp .Or (a :: b :: rest) pos) (tOr tA tB') := by
  intro wh pins s σ H Q I h
  refine isTrue_or (thn (ha pins s σ H _ I h) fun c s1 ⟨H1, I1, q1⟩ => ?_)
  cases c with
  | true => exact ⟨H1, I1, q1⟩
  | false => exact hb wh pins s1 σ H1 Q I1 q1
theorem pt_not (ha : PT X a tA) : PT X (.UnaryOp .Not a pos) (tNot tA) := by
  intro pins s σ H Q I h
  exact isTrue_not (ha pins s σ H (fun c H1 => Q (!c) H1) I h)
/-- .. as values (bools) -/
def tAndV (ta tb : TE) : TE := fun σ H Q => ta σ H fun x H1 => ∃ c, x = .bl c ∧ if c = true then tb σ H1 Q else Q (.bl false) H1
def tOrV (ta tb : TE) : TE := fun σ H Q => ta σ H fun x H1 => ∃ c, x = .bl c ∧ if c = true then Q (.bl true) H1 else tb σ H1 Q
def tNotV (ta : TE) : TE := fun σ H Q => ta σ H fun x H1 => ∃ c, x = .bl c ∧ Q (.bl (!c)) H1
theorem pe_one {op} {t : TE} (h : PE X a t) : PE X (.BoolOp op [a] pos) t := fun pins s σ H Q I hw => BoolOp_one (h pins s σ H Q I hw)
theorem pe_and (ha : PE X a ta) (hb : PE X (.BoolOp .And (b :: rest) pos) tb) : PE X (.BoolOp .And (a :: b :: rest) pos) (tAndV ta tb) := by
  intro pins s σ H Q I h
  refine BoolOp_and (thn (ha pins s σ H _ I h) fun v s1 ⟨x, H1, I1, r1, q1⟩ => ?_)
  obtain ⟨c, rfl, q1⟩ := q1
  cases r1
  refine wpAny_truthy_bool ?_
  cases c with
  | true => exact hb pins s1 σ H1 Q I1 q1
  | false => exact ⟨.bl false, H1, I1, rfl, q1⟩
theorem pe_or (ha : PE X a ta) (hb : PE X (.BoolOp .Or (b :: rest) pos) tb) : PE X (.BoolOp .Or (a :: b :: rest) pos) (tOrV ta tb) := by
  intro pins s σ H Q I h
  refine BoolOp_or (thn (ha pins s σ H _ I h) fun v s1 ⟨x, H1, I1, r1, q1⟩ => ?_)
  obtain ⟨c, rfl, q1⟩ := q1
  cases r1
  refine wpAny_truthy_bool ?_
  cases c with
  | false => exact hb pins s1 σ H1 Q I1 q1
  | true => exact ⟨.bl true, H1, I1, rfl, q1⟩
theorem pe_not (ha : PE X a ta) : PE X (.UnaryOp .Not a pos) (tNotV ta) := by
  intro pins s σ H Q I h
  refine UnaryOp_ (thn (ha pins s σ H _ I h) fun v s1 ⟨x, H1, I1, r1, q1⟩ => ?_)
  obtain ⟨c, rfl, q1⟩ := q1
  cases r1
  exact not_of (wpAny_truthy_bool ⟨.bl (!c), H1, I1, rfl, q1⟩)
/-- a if t else b -/
def tIf (t : TT) (ta tb : TE) : TE := fun σ H Q => t σ H fun c H1 => if c = true then ta σ H1 Q else tb σ H1 Q
theorem pe_ifExp {c : Expr} (hc : PT X c tA) (ha : PE X a ta) (hb : PE X b tb) : PE X (.IfExp c a b pos) (tIf tA ta tb) := by
  intro pins s σ H Q I h
  refine wpAny_IfExp (thn (hc pins s σ H _ I h) fun d s1 ⟨H1, I1, q1⟩ => ?_)
  cases d with
  | true => exact ha pins s1 σ H1 Q I1 q1
  | false => exact hb pins s1 σ H1 Q I1 q1
end
end L2

namespace L2
open PySem PySem.Spec PyProof.Rows

/-! ### a list, a tuple that is read: tracked, frozen, or an object of the module -/
def SqL (K : PySem.W.Frag) (H : Hp) (a : Addr) (xs : List V) : Prop :=
  Rd H a (.lst xs) ∨
    ∃ (o : Obj) (its : Array Value) (n : Nat), K.lookup a = some o ∧ o.cls = .type "list" ∧ o.dict = none ∧ o.data = .seq its n ∧ its.size ≤ sizeLine ∧ Vals xs its.toList
def SqT (K : PySem.W.Frag) (H : Hp) (a : Addr) (xs : List V) : Prop :=
  Rd H a (.tup xs) ∨
    ∃ (o : Obj) (its : Array Value) (n : Nat), K.lookup a = some o ∧ o.cls = .type "tuple" ∧ o.data = .seq its n ∧ its.size ≤ sizeLine ∧ Vals xs its.toList
def absV : Value → Option V
  | .none => some .non
  | .bool b => some (.bl b)
  | .int i _ => some (.int i)
  | .str x _ => some (.str x)
  | .bytes b _ => some (.byt b)
  | .float b _ => some (.flt b)
  | .ref a => some (.ref a)
  | .type n => some (.ty n)
  | _ => none
theorem RelV.abs {x : V} {u : Value} (r : RelV x u) : absV u = some x := by
  cases x with
  | non => cases r; rfl
  | bl _ => cases r; rfl
  | int _ => obtain ⟨t, rfl⟩ := r; rfl
  | str _ => obtain ⟨t, rfl⟩ := r; rfl
  | byt _ => obtain ⟨t, rfl⟩ := r; rfl
  | flt _ => obtain ⟨t, rfl⟩ := r; rfl
  | ref _ => cases r; rfl
  | ty _ => cases r; rfl
theorem RelV.inj {x y : V} {u : Value} (r : RelV x u) (q : RelV y u) : x = y := Option.some.inj (r.abs.symm.trans q.abs)
theorem Vals.inj : ∀ {xs ys : List V} {us : List Value}, Vals xs us → Vals ys us → xs = ys
  | _, _, _, .nil, .nil => rfl
  | _, _, _, .cons r t, .cons r' t' => by rw [r.inj r', Vals.inj t t']
section
variable {X : Cx} {pins : List (Addr × Obj)} {σ : St} {H : Hp} {s : Shared} {a : Addr} {xs ys : List V}
theorem SqL.of {K : PySem.W.Frag} (h : H a = some (.lst xs)) : SqL K H a xs := .inl (.inl h)
theorem SqT.of {K : PySem.W.Frag} (h : H a = some (.tup xs)) : SqT K H a xs := .inl (.inl h)
theorem Inv.list (I : Inv X pins σ H s) (h : SqL X.K H a xs) : ∃ its : List Value, Vals xs its ∧ PlainL s.heap a its.toArray ∧ xs.length ≤ sizeLine := by
  rcases h with h | ⟨o, its, n, hk, hc, hd, hs, hz, r⟩
  · obtain ⟨z, its, n, r, e⟩ := h.ok I.hok
    exact ⟨its, r, ⟨_, n, e, rfl, rfl, rfl⟩, z⟩
  · refine ⟨its.toList, r, ⟨o, n, I.kIn a o hk, hc, hd, by simpa using hs⟩, ?_⟩
    have e := r.length
    simp only [Array.length_toList] at e
    omega
theorem Inv.tuple (I : Inv X pins σ H s) (h : SqT X.K H a xs) : ∃ its : List Value, Vals xs its ∧ IsTup s.heap a its.toArray ∧ xs.length ≤ sizeLine := by
  rcases h with h | ⟨o, its, n, hk, hc, hs, hz, r⟩
  · obtain ⟨z, its, r, p⟩ := h.ok I.hok
    exact ⟨its, r, p, z⟩
  · refine ⟨its.toList, r, ⟨o, I.kIn a o hk, hc, n, by simpa using hs⟩, ?_⟩
    have e := r.length
    simp only [Array.length_toList] at e
    omega
theorem Inv.list_inj (I : Inv X pins σ H s) (h : SqL X.K H a xs) (h' : SqL X.K H a ys) : xs = ys := by
  obtain ⟨its, r, ⟨o, n, e, _, _, d⟩, _⟩ := I.list h
  obtain ⟨its', r', ⟨o', n', e', _, _, d'⟩, _⟩ := I.list h'
  rw [e] at e'; cases e'
  rw [d] at d'
  injection d' with d1 _
  have : its = its' := by simpa using congrArg Array.toList d1
  subst this
  exact r.inj r'
theorem Inv.tuple_inj (I : Inv X pins σ H s) (h : SqT X.K H a xs) (h' : SqT X.K H a ys) : xs = ys := by
  obtain ⟨its, r, ⟨o, e, _, n, d⟩, _⟩ := I.tuple h
  obtain ⟨its', r', ⟨o', e', _, n', d'⟩, _⟩ := I.tuple h'
  rw [e] at e'; cases e'
  rw [d] at d'
  injection d' with d1 _
  have : its = its' := by simpa using congrArg Array.toList d1
  subst this
  exact r.inj r'
end

/-! ### another wish about exceptions -/
abbrev Cx.wish (X : Cx) (E : Value → Shared → Prop) : Cx := { X with xe := E }
/-- no exception leaves -/
abbrev Cx.nox (X : Cx) : Cx := X.wish fun _ _ => False
theorem Cx.Ok.wish {X : Cx} (ok : X.Ok) (E : Value → Shared → Prop) : (X.wish E).Ok :=
  ⟨ok.mod, ok.kind, ok.glob, ok.blt, ok.above, ok.inj, ok.has, ok.cab, ok.hd, ok.frames, ok.stk, ok.exf, ok.bs, ok.bsz, ok.noex, ok.exfs, ok.funs, ok.frf⟩
theorem Cx.Ok.unwish {X : Cx} {E : Value → Shared → Prop} (ok : (X.wish E).Ok) : X.Ok :=
  ⟨ok.mod, ok.kind, ok.glob, ok.blt, ok.above, ok.inj, ok.has, ok.cab, ok.hd, ok.frames, ok.stk, ok.exf, ok.bs, ok.bsz, ok.noex, ok.exfs, ok.funs, ok.frf⟩
section
variable {X : Cx} {pins : List (Addr × Obj)} {σ : St} {H : Hp} {s : Shared} {E : Value → Shared → Prop}
theorem Inv.wish (I : Inv X pins σ H s) (E : Value → Shared → Prop) : Inv (X.wish E) pins σ H s := ⟨I.ok.wish E, I.os, I.bare, I.base, I.loc, I.cell, I.free, I.freeC, I.pin, I.hok, I.len⟩
theorem Inv.unwish (I : Inv (X.wish E) pins σ H s) : Inv X pins σ H s := ⟨I.ok.unwish, I.os, I.bare, I.base, I.loc, I.cell, I.free, I.freeC, I.pin, I.hok, I.len⟩
theorem SP.unwish {D : Ends} {f : Flow} {s' : Shared} (h : SP (X.wish E) pins D f s') : SP X pins D f s' := by
  cases f with
  | next => obtain ⟨σ', H', I, q⟩ := h; exact ⟨σ', H', I.unwish, q⟩
  | brk => obtain ⟨σ', H', I, q⟩ := h; exact ⟨σ', H', I.unwish, q⟩
  | cont => obtain ⟨σ', H', I, q⟩ := h; exact ⟨σ', H', I.unwish, q⟩
  | ret u => obtain ⟨v, σ', H', I, r, q⟩ := h; exact ⟨v, σ', H', I.unwish, r, q⟩
theorem PE.nox {e : Expr} {t : TE} (h : PE X.nox e t) : PE X e t := fun pins s σ H Q I hw =>
  wpAny_mono (h pins s σ H Q (I.wish _) hw) (fun _ _ ⟨v, H', I', r, q⟩ => ⟨v, H', I'.unwish, r, q⟩) fun _ _ z => False.elim z
theorem PT.nox {e : Expr} {t : TT} (h : PT X.nox e t) : PT X e t := fun pins s σ H Q I hw =>
  wpAny_mono (h pins s σ H Q (I.wish _) hw) (fun _ _ ⟨H', I', q⟩ => ⟨H', I'.unwish, q⟩) fun _ _ z => False.elim z
theorem PSs.nox {st : List Stmt} {t : TS} (h : PSs X.nox st t) : PSs X st t := fun pins s σ H D I hw =>
  wpAny_mono (h pins s σ H D (I.wish _) hw) (fun _ _ q => q.unwish) fun _ _ z => False.elim z
end

/-! ### blocks and small statements -/
section
variable {X : Cx} {st : Stmt} {rest : List Stmt} {t u : TS} {e : Expr} {te : TE} {pos : Pos}
def tNext : TS := fun D σ H => D.nx σ H
def tSeq (t u : TS) : TS := fun D σ H => t { D with nx := u D } σ H
theorem pss_nil : PSs X [] tNext := fun _ _ σ H _ I h => wpAny_execs_nil ⟨σ, H, I, h⟩
theorem pss_cons (h1 : PS X st t) (h2 : PSs X rest u) : PSs X (st :: rest) (tSeq t u) := by
  intro pins s σ H D I h
  refine wpAny_execs_cons (thn (h1 pins s σ H { D with nx := u D } I h) fun f s1 q => ?_)
  cases f with
  | next =>
    obtain ⟨σ', H', I', q⟩ := q
    exact h2 pins s1 σ' H' D I' q
  | ret v => exact q
  | brk => exact q
  | cont => exact q
/-- in a def's body nothing is shown -/
theorem Inv.quiet {pins : List (Addr × Obj)} {σ : St} {H : Hp} {s : Shared} (I : Inv X pins σ H s) : interactive X.env = false := by simp [interactive, I.ok.kind]
/-- an expression whose value is dropped -/
def tDrop (te : TE) : TS := fun D σ H => te σ H fun _ H1 => D.nx σ H1
theorem ps_expr (he : PE X e te) (hs : swapsWith e none pos.line X.env = pure false := by rfl) : PS X (.Expr e pos) (tDrop te) := by
  intro pins s σ H D I h
  exact wpAny_Expr_any (thn (he pins s σ H _ I h) fun v s1 ⟨x, H1, I1, r1, q1⟩ => ⟨σ, H1, I1, q1⟩) I.quiet hs
def tRet (te : TE) : TS := fun D σ H => te σ H D.rt
theorem ps_ret (he : PE X e te) : PS X (.Return (some e) pos) (tRet te) := by
  intro pins s σ H D I h
  exact wpAny_Return_some (thn (he pins s σ H _ I h) fun v s1 ⟨x, H1, I1, r1, q1⟩ => ⟨x, σ, H1, I1, r1, q1⟩)
def tIfS (c : TT) (t u : TS) : TS := fun D σ H => c σ H fun b H1 => if b = true then t D σ H1 else u D σ H1
theorem ps_if {c : Expr} {a b : List Stmt} {tc : TT} (hc : PT X c tc) (ha : PSs X a t) (hb : PSs X b u) : PS X (.If c a b pos) (tIfS tc t u) := by
  intro pins s σ H D I h
  refine wpAny_If (thn (hc pins s σ H _ I h) fun d s1 ⟨H1, I1, q1⟩ => ?_)
  cases d with
  | true => exact ha pins s1 σ H1 D I1 q1
  | false => exact hb pins s1 σ H1 D I1 q1
/-- code that the proof never comes to -/
def tNever : TS := fun _ _ _ => False
theorem pss_never {sts : List Stmt} : PSs X sts tNever := fun _ _ _ _ _ _ h => h.elim
end

/-! ### targets -/
abbrev TG := V → St → Hp → (St → Hp → Prop) → Prop
abbrev TGs := List V → St → Hp → (St → Hp → Prop) → Prop
def PG (X : Cx) (target : Expr) (t : TG) : Prop :=
  ∀ (pins : List (Addr × Obj)) (s : Shared) (σ : St) (H : Hp) (v : V) (u : Value) (Q : St → Hp → Prop), Inv X pins σ H s → RelV v u → t v σ H Q →
    wpAny (model X.prog X.w) X.A (assign target X.env u) (fun _ s' => ∃ σ' H', Inv X pins σ' H' s' ∧ Q σ' H') X.xe s
/-- several targets, one after another -/
def PGs (X : Cx) (ts : List Expr) (t : TGs) : Prop :=
  ∀ (pins : List (Addr × Obj)) (s : Shared) (σ : St) (H : Hp) (vs : List V) (us : List Value) (Q : St → Hp → Prop), Inv X pins σ H s → Vals vs us → t vs σ H Q →
    wpAny (model X.prog X.w) X.A (assignInOrder ((assignEach ts X.env).map (·.2)) us) (fun _ s' => ∃ σ' H', Inv X pins σ' H' s' ∧ Q σ' H') X.xe s
/-- o[i] = v, by values -/
abbrev TSet := V → V → V → Hp → (Hp → Prop) → Prop
def PSet (X : Cx) (t : TSet) : Prop :=
  ∀ (pins : List (Addr × Obj)) (s : Shared) (σ : St) (H : Hp) (o i v : V) (ov iv u : Value) (Q : Hp → Prop), Inv X pins σ H s → RelV o ov → RelV i iv → RelV v u → t o i v H Q →
    wpAny (model X.prog X.w) X.A (setItem ov iv u) (fun _ s' => ∃ H', Inv X pins σ H' s' ∧ Q H') X.xe s
section
variable {X : Cx} {pos : Pos}
def gName (i : Nat) : TG := fun v σ H Q => Q (σ.set i (some v)) H
theorem pg_name {i : Nat} {x : Str} (hN : X.N.Nodup) (hi : X.N[i]? = some x) (hx : Loc X.env.scope x) (hf : X.fn x = true ∨ X.env.scope.names.lookup x = some .local := by first | exact .inl rfl | exact .inr rfl | assumption) : PG X (.Name x pos) (gName i) := by
  intro pins s σ H v u Q I r h
  exact wpAny_assign_Name (store_ok I hN hi hx r (fun s' I' => ⟨_, H, I', h⟩) hf)
def gNil : TGs := fun vs σ H Q => vs = [] ∧ Q σ H
def gCons (t : TG) (u : TGs) : TGs := fun vs σ H Q => ∃ v r, vs = v :: r ∧ t v σ H fun σ' H' => u r σ' H' Q
theorem pgs_nil : PGs X [] gNil := by
  intro pins s σ H vs us Q I r h
  obtain ⟨e, h⟩ := h
  subst e
  cases r
  exact assignInOrder_nil ⟨σ, H, I, h⟩
theorem pgs_cons {e : Expr} {es : List Expr} {t : TG} {u : TGs} (h1 : PG X e t) (h2 : PGs X es u)
    (hs : (assignEach (e :: es) X.env).map (·.2) = assign e X.env :: (assignEach es X.env).map (·.2) := by rfl) : PGs X (e :: es) (gCons t u) := by
  intro pins s σ H vs us Q I r h
  obtain ⟨v, vr, e1, h⟩ := h
  subst e1
  cases r with
  | cons r rr =>
    rw [hs]
    refine assignInOrder_cons (thn (h1 pins s σ H _ _ _ I r h) fun _ s1 ⟨σ1, H1, I1, q1⟩ => ?_)
    exact h2 pins s1 σ1 H1 _ _ Q I1 rr q1
/-- (a, b, ..) = a tuple of that length -/
def gTup (K : PySem.W.Frag) (n : Nat) (t : TGs) : TG := fun v σ H Q => ∃ a xs, v = .ref a ∧ SqT K H a xs ∧ xs.length = n ∧ t xs σ H Q
theorem pg_tup {es : List Expr} {k : Nat} {t : TGs} {n : Nat} (hc : X.calm = true) (h : PGs X es t)
    (hn : (assignEach es X.env).length = n := by rfl) (hst : (assignEach es X.env).findIdx? (·.1) = none := by rfl) : PG X (.Tuple es k pos) (gTup X.K n t) := by
  intro pins s σ H v u Q I r hw
  obtain ⟨a, xs, e1, hq, hl, hw⟩ := hw
  subst e1
  cases r
  obtain ⟨its, rv, ht, hz⟩ := I.tuple hq
  refine assign_Tuple_tuple (I.ok.hd hc) ht (by simp [hn, ← hl, rv.length]) hst fun h' hx => ?_
  have I1 : Inv X pins σ H { s with heap := h' } := I.kept (t' := s.toks) fun b o e => hx b o (Nat.ne_of_lt (Heap.lt_size e)) e
  exact h pins _ σ H xs _ Q I1 (by simpa using rv) hw
/-- o[i] = .. -/
def gSub (to ti : TE) (t : TSet) : TG := fun v σ H Q => to σ H fun o H1 => ti σ H1 fun i H2 => t o i v H2 fun H3 => Q σ H3
theorem pg_sub {o i : Expr} {to ti : TE} {t : TSet} (ho : PE X o to) (hi : PE X i ti) (hs : PSet X t)
    (ha : ∀ v, assign (.Subscript o i pos) X.env v = (do
      let ov ← holding [v] (eval o X.env)
      let iv ← holding [v, ov] (eval i X.env)
      standAt pos
      holding [v, ov, iv] (setItem ov iv v)
      release [v, ov, iv] []) := by intro _; rfl) : PG X (.Subscript o i pos) (gSub to ti t) := by
  intro pins s σ H v u Q I r h
  rw [ha]
  refine wpAny_bind (wpAny_holding (thn (ho pins s σ H _ I h) fun ov s1 ⟨x, H1, I1, r1, q1⟩ => ?_))
  refine wpAny_bind (wpAny_holding (thn (hi pins s1 σ H1 _ I1 q1) fun iv s2 ⟨y, H2, I2, r2, q2⟩ => ?_))
  refine wpAny_bind (wpAny_standAt (wpAny_bind (wpAny_holding (thn (hs pins s2 σ H2 x y v ov iv u _ I2 r1 r2 r q2) fun _ s3 ⟨H3, I3, q3⟩ => ?_))))
  exact wpAny_release ⟨σ, H3, I3, q3⟩
/-- target = value -/
def tAsg (te : TE) (g : TG) : TS := fun D σ H => te σ H fun x H1 => g x σ H1 D.nx
theorem ps_asg {tg e : Expr} {te : TE} {g : TG} (he : PE X e te) (hg : PG X tg g) (hs : swapsWithSole [tg] e pos.line X.env = pure false := by rfl) (hw : swappedStores [tg] e X.env = pure none := by rfl)
    (h1 : (assignEach [tg] X.env).map (·.2) = [assign tg X.env] := by rfl) : PS X (.Assign [tg] e pos) (tAsg te g) := by
  intro pins s σ H D I h
  refine wpAny_Assign_stores (thn (he pins s σ H _ I h) fun v s1 ⟨x, H1, I1, r1, q1⟩ => ?_) hs hw
  rw [h1]
  exact thn (hg pins s1 σ H1 x v _ I1 r1 q1) fun _ s2 q => q
end

/-! ### while -/
section
variable {X : Cx} {pos : Pos}
/-- the invariant W with its measure -/
def tWhile (c : TT) (tb : TS) : TS := fun D σ H => ∃ W : Nat → St → Hp → Prop, (∃ m, W m σ H) ∧ ∀ m σ H, W m σ H →
  c σ H fun b H1 => if b = true then ∃ N : St → Hp → Prop, (∀ σ' H', N σ' H' → ∃ m', m' < m ∧ W m' σ' H') ∧ tb { D with nx := N, ct := N, bk := D.nx } σ H1 else D.nx σ H1
theorem ps_while {c : Expr} {body : List Stmt} {tc : TT} {tb : TS} (hp : PassesOwn (model X.prog X.w) X.A X.env X.xe) (hc : PT X c tc) (hb : PSs X body tb) : PS X (.While c body [] pos) (tWhile tc tb) := by
  intro pins s σ H D I h
  obtain ⟨W, ⟨m0, w0⟩, turn⟩ := h
  refine wpAny_While (codeAny_whileLoop (fun n s' => ∃ σ' H', Inv X pins σ' H' s' ∧ W n σ' H') ?_ m0 ⟨σ, H, I, w0⟩)
  rintro n s1 ⟨σ1, H1, I1, w1⟩
  refine wpAny_passesOwn hp (thn (hc pins s1 σ1 H1 _ I1 (turn n σ1 H1 w1)) fun b s2 ⟨H2, I2, q2⟩ => ?_)
  cases b with
  | true =>
    obtain ⟨N, hN, q2⟩ := q2
    rw [if_pos rfl]
    refine wpAny_passesOwn hp (thn (hb pins s2 σ1 H2 _ I2 q2) fun f s3 q3 => ?_)
    cases f with
    | next =>
      obtain ⟨σ3, H3, I3, n3⟩ := q3
      obtain ⟨m', hm, w3⟩ := hN σ3 H3 n3
      exact ⟨m', hm, σ3, H3, I3, w3⟩
    | cont =>
      obtain ⟨σ3, H3, I3, n3⟩ := q3
      obtain ⟨m', hm, w3⟩ := hN σ3 H3 n3
      exact ⟨m', hm, σ3, H3, I3, w3⟩
    | brk => exact q3
    | ret v => exact q3
  | false =>
    rw [if_neg Bool.false_ne_true]
    exact wpAny_execs_nil ⟨σ1, H2, I2, q2⟩
end

/-! ### what a loop or a comprehension walks -/
/-- at turn i: it yields x (the heap may grow), or it stops -/
structure It where
  go : Nat → Hp → Prop
  yld : Nat → Hp → V → Hp → Prop
  stop : Nat → Hp → Prop
/-- the iterator's own objects may turn: they are not the frame's, not pinned, younger than the entry (or a comprehension's own) -/
def FpOk (X : Cx) (pins : List (Addr × Obj)) (H : Hp) (b : Addr) : Prop :=
  H b = none ∧ b ≠ X.env.locals ∧ b ∉ X.fs ∧ (b ∈ X.ex ∨ X.s₀.heap.objs.size ≤ b) ∧ (∀ x c, X.env.cells.lookup x = some c → c ≠ b) ∧ ∀ p ∈ X.pn ++ pins, p.1 ≠ b
theorem Inv.fpOk {X : Cx} {pins : List (Addr × Obj)} {σ : St} {H H' : Hp} {s : Shared} {b : Addr} (I : Inv X pins σ H s) (hb : s.heap.objs.size ≤ b) (hn : H' b = none) : FpOk X pins H' b := by
  refine ⟨hn, Nat.ne_of_gt (Nat.lt_of_lt_of_le I.lt hb), I.nofs hb, .inr (Nat.le_trans I.sz hb), fun x c e z => ?_, fun p hp z => ?_⟩
  · obtain ⟨v, q⟩ := I.cell x c e
    exact absurd (Nat.lt_of_lt_of_le q.lt (by rw [z]; exact hb)) (Nat.lt_irrefl _)
  · exact absurd (Nat.lt_of_lt_of_le (Heap.lt_size (I.pin p hp).1) (by rw [z]; exact hb)) (Nat.lt_irrefl _)
structure Turn (P : Program) (w : World) (K : PySem.W.Frag) (tg : Expr) (J : It) (fp : List Addr) (it : Addr) (tn : Nat → Heap → Prop) : Prop where
  mem : it ∈ fp
  obj : ∀ i h, tn i h → ∀ b ∈ fp, ∃ o, h.get? b = some o ∧ ∀ v, o.data ≠ .cell v
  keep : ∀ i h h', tn i h → (∀ b ∈ fp, ∀ o, h.get? b = some o → h'.get? b = some o) → tn i h'
  item : ∀ (X : Cx), X.prog = P → X.w = w → X.K = K → X.calm = true → ∀ (i : Nat) (pins : List (Addr × Obj)) (s : Shared) (σ : St) (H : Hp) (E : Value → Shared → Prop), Inv X pins σ H s → (∀ b ∈ fp, FpOk X pins H b) → tn i s.heap → J.go i H →
    wpAny (model P w) X.A (pyNext (.ref it)) (fun r s1 => ∃ u, r = some u ∧
      wpAny (model P w) X.A (letOwnedTupleGo tg (.ref it) u) (fun _ s2 => ∃ x H', Inv X pins σ H' s2 ∧ RelV x u ∧ J.yld i H x H' ∧ tn (i + 1) s2.heap ∧ ∀ b ∈ fp, H' b = none) E s1) E s
  done : ∀ (X : Cx), X.prog = P → X.w = w → X.K = K → X.calm = true → ∀ (i : Nat) (pins : List (Addr × Obj)) (s : Shared) (σ : St) (H : Hp) (E : Value → Shared → Prop), Inv X pins σ H s → (∀ b ∈ fp, FpOk X pins H b) → tn i s.heap → J.stop i H →
    wpAny (model P w) X.A (pyNext (.ref it)) (fun r s1 => r = none ∧ Inv X pins σ H s1) E s
  self : ∀ (A : Around) (i : Nat) (s : Shared) (Q : Value → Shared → Prop) (E : Value → Shared → Prop), tn i s.heap → Q (.ref it) s → wpAny (model P w) A (pyIter (.ref it)) Q E s
abbrev TI := St → Hp → (It → Hp → Prop) → Prop
/-- an iterator has come -/
def PIE (X : Cx) (pins : List (Addr × Obj)) (σ : St) (tg : Expr) (R : It → Hp → Prop) (itv : Value) (s2 : Shared) : Prop :=
  ∃ (it : Addr) (fp : List Addr) (tn : Nat → Heap → Prop) (J : It) (H' : Hp), itv = .ref it ∧ Inv X pins σ H' s2 ∧ Turn X.prog X.w X.K tg J fp it tn ∧ tn 0 s2.heap ∧ (∀ b ∈ fp, FpOk X pins H' b) ∧ R J H'
def PI (X : Cx) (tg iter : Expr) (wi : TI) : Prop :=
  ∀ (pins : List (Addr × Obj)) (s : Shared) (σ : St) (H : Hp) (R : It → Hp → Prop), Inv X pins σ H s → wi σ H R →
    wpAny (model X.prog X.w) X.A (eval iter X.env) (fun v s1 => wpAny (model X.prog X.w) X.A (pyIter v) (PIE X pins σ tg R) X.xe s1) X.xe s

/-- the step ahead of the store is nothing for an iterator that keeps no tuple -/
theorem go_of {M : Model} {A : Around} {E : Value → Shared → Prop} {s : Shared} {tg : Expr} {it : Addr} {u : Value} {o : Obj} {n : String} {vs : Array Value} {Q : Unit → Shared → Prop} (ho : s.heap.get? it = some o) (hc : o.cls = .type n) (hd : o.data = .fields vs)
    (hn : ["enumerate", "zip", "dict_itemiterator", "dict_reverseitemiterator", "odict_iterator", "itertools.zip_longest", "itertools.pairwise"].contains n = false) (hQ : Q () s) : wpAny M A (letOwnedTupleGo tg (.ref it) u) Q E s := by
  unfold letOwnedTupleGo
  cases tg <;> first
    | exact wpAny_pure hQ
    | (cases u <;> first
        | exact wpAny_pure hQ
        | (refine wpAny_bind (wpAny_load ho ?_)
           rw [hc, hd]
           show wpAny M A (if (["enumerate", "zip", "dict_itemiterator", "dict_reverseitemiterator", "odict_iterator", "itertools.zip_longest", "itertools.pairwise"].contains n && vs[0]? == some (rawInt _)) = true then _ else _) Q E s
           rw [if_neg (by intro h; rw [hn, Bool.false_and] at h; cases h)]
           exact wpAny_pure hQ))

/-- the list at a, as it stands at each turn (a loop may append to it) -/
def Itl (K : PySem.W.Frag) (a : Addr) : It :=
  ⟨fun i H => ∃ xs x, SqL K H a xs ∧ xs[i]? = some x, fun i H x H' => H' = H ∧ ∀ xs, SqL K H a xs → xs[i]? = some x, fun i H => ∃ xs, SqL K H a xs ∧ xs.length ≤ i⟩
def Itt (K : PySem.W.Frag) (a : Addr) : It :=
  ⟨fun i H => ∃ xs x, SqT K H a xs ∧ xs[i]? = some x, fun i H x H' => H' = H ∧ ∀ xs, SqT K H a xs → xs[i]? = some x, fun i H => ∃ xs, SqT K H a xs ∧ xs.length ≤ i⟩
/-- lo, lo + 1, .. (n of them) -/
def Itr (lo : Int) (n : Nat) : It := ⟨fun i _ => i < n, fun i H x H' => H' = H ∧ x = .int (lo + i), fun i _ => n ≤ i⟩
theorem turn_list {P : Program} {w : World} {K : PySem.W.Frag} {tg : Expr} (a it : Addr) : Turn P w K tg (Itl K a) [it] it (fun i h => h.IsListIter it a i) where
  mem := by simp
  obj := fun i h st b hb => by
    have e : b = it := by simpa using hb
    subst e
    obtain ⟨o, e, c, d⟩ := st
    exact ⟨o, e, fun v z => by rw [d] at z; cases z⟩
  keep := fun i h h' st k => st.at fun o e => k it (by simp) o e
  item := by
    intro X hP hw hK hc i pins s σ H E I hf st hg
    subst hP hw hK
    obtain ⟨xs, x, hq, hx⟩ := hg
    obtain ⟨its, rv, p, hz⟩ := I.list hq
    obtain ⟨u, hu, ru⟩ := rv.get hx
    obtain ⟨f0, f1, f2, f3, f4, f5⟩ := hf it (by simp)
    refine wpAny_pyNext_list_item st p.isList (x := u) (by simpa using hu) fun h' st' sb => ?_
    have I1 : Inv X pins σ H { s with heap := h' } := I.turned (t' := s.toks) (fun b o hb e => (sb.2 b hb).trans e) f0 f1 f3 f4 f5
    obtain ⟨o, e, c, d⟩ := id st'
    exact ⟨u, rfl, go_of (s := { s with heap := h' }) e c d (by decide) ⟨x, H, I1, ru, ⟨rfl, fun ys hy => by rw [I.list_inj hy hq]; exact hx⟩, st', fun b hb => (hf b hb).1⟩⟩
  done := by
    intro X hP hw hK hc i pins s σ H E I hf st hg
    subst hP hw hK
    obtain ⟨xs, hq, hx⟩ := hg
    obtain ⟨its, rv, p, hz⟩ := I.list hq
    obtain ⟨f0, f1, f2, f3, f4, f5⟩ := hf it (by simp)
    have hl := rv.length
    exact wpAny_pyNext_list_end (I.ok.hd hc) st p.isList (by simp; omega) fun h' eb => ⟨rfl, I.turned (t' := s.toks) (fun b o hb e => eb b o hb e) f0 f1 f3 f4 f5⟩
  self := fun _ _ _ _ _ st h => wpAny_pyIter_listiter st h
theorem turn_tuple {P : Program} {w : World} {K : PySem.W.Frag} {tg : Expr} (a it : Addr) : Turn P w K tg (Itt K a) [it] it (fun i h => h.IsTupleIter it a i) where
  mem := by simp
  obj := fun i h st b hb => by
    have e : b = it := by simpa using hb
    subst e
    obtain ⟨o, e, c, d⟩ := st
    exact ⟨o, e, fun v z => by rw [d] at z; cases z⟩
  keep := fun i h h' st k => st.at fun o e => k it (by simp) o e
  item := by
    intro X hP hw hK hc i pins s σ H E I hf st hg
    subst hP hw hK
    obtain ⟨xs, x, hq, hx⟩ := hg
    obtain ⟨its, rv, p, hz⟩ := I.tuple hq
    obtain ⟨u, hu, ru⟩ := rv.get hx
    obtain ⟨f0, f1, f2, f3, f4, f5⟩ := hf it (by simp)
    refine wpAny_pyNext_tuple_item st (show s.heap.IsTuple a its.toArray from p) (x := u) (by simpa using hu) fun h' st' sb => ?_
    have I1 : Inv X pins σ H { s with heap := h' } := I.turned (t' := s.toks) (fun b o hb e => (sb.2 b hb).trans e) f0 f1 f3 f4 f5
    obtain ⟨o, e, c, d⟩ := id st'
    exact ⟨u, rfl, go_of (s := { s with heap := h' }) e c d (by decide) ⟨x, H, I1, ru, ⟨rfl, fun ys hy => by rw [I.tuple_inj hy hq]; exact hx⟩, st', fun b hb => (hf b hb).1⟩⟩
  done := by
    intro X hP hw hK hc i pins s σ H E I hf st hg
    subst hP hw hK
    obtain ⟨xs, hq, hx⟩ := hg
    obtain ⟨its, rv, p, hz⟩ := I.tuple hq
    obtain ⟨f0, f1, f2, f3, f4, f5⟩ := hf it (by simp)
    have hl := rv.length
    exact wpAny_pyNext_tuple_end (I.ok.hd hc) st (show s.heap.IsTuple a its.toArray from p) (by simp; omega) fun h' eb => ⟨rfl, I.turned (t' := s.toks) (fun b o hb e => eb b o hb e) f0 f1 f3 f4 f5⟩
  self := fun _ _ _ _ _ st h => wpAny_pyIter_tupleiter st h
theorem turn_range {P : Program} {w : World} {K : PySem.W.Frag} {tg : Expr} (it : Addr) (lo : Int) (n : Nat) : Turn P w K tg (Itr lo n) [it] it (fun i h => IsRangeIter h it (lo + (i : Nat) * 1) ((n : Int) - (i : Nat)) 1) where
  mem := by simp
  obj := fun i h st b hb => by
    have e : b = it := by simpa using hb
    subst e
    exact ⟨_, st, fun v z => by
      have z' : Data.fields _ = Data.cell v := z
      cases z'⟩
  keep := fun i h h' st k => k it (by simp) _ st
  item := by
    intro X hP hw hK hc i pins s σ H E I hf st hg
    subst hP hw hK
    obtain ⟨f0, f1, f2, f3, f4, f5⟩ := hf it (by simp)
    have W := Walks.range (prog := X.prog) (w := X.w) (I.ok.hd hc) it lo 1 n
    refine W.item i s _ _ hg st fun v h' tk hv st' kk => ?_
    obtain ⟨t, rfl⟩ := hv
    have I1 : Inv X pins σ H { s with heap := h', toks := tk } := I.turned (fun b o hb e => kk b o (by simpa using hb) e) f0 f1 f3 f4 f5
    refine ⟨_, rfl, go_of (s := { s with heap := h', toks := tk }) (n := "range_iterator") st' rfl rfl (by decide) ⟨.int (lo + i), H, I1, ⟨t, ?_⟩, ⟨rfl, rfl⟩, st', fun b hb => (hf b hb).1⟩⟩
    rw [Int.mul_one]
  done := by
    intro X hP hw hK hc i pins s σ H E I hf st hg
    subst hP hw hK
    obtain ⟨f0, f1, f2, f3, f4, f5⟩ := hf it (by simp)
    exact wpAny_pyNext_range_end (I.ok.hd hc) st (by have : n ≤ i := hg; omega) fun h' eb => ⟨rfl, I.turned (t' := s.toks) (fun b o hb e => eb b o hb e) f0 f1 f3 f4 f5⟩
  self := fun _ _ _ _ _ st h => wpAny_pyIter_rangeiter st h
end L2

namespace L2
open PySem PySem.Spec PyProof.Rows
section
variable {X : Cx} {tg : Expr}
def iList (K : PySem.W.Frag) (tl : TE) : TI := fun σ H R => tl σ H fun x H1 => ∃ a, x = .ref a ∧ (∃ xs, SqL K H1 a xs) ∧ R (Itl K a) H1
def iTup (K : PySem.W.Frag) (tl : TE) : TI := fun σ H R => tl σ H fun x H1 => ∃ a, x = .ref a ∧ (∃ xs, SqT K H1 a xs) ∧ R (Itt K a) H1
theorem pi_list {l : Expr} {tl : TE} (hl : PE X l tl) : PI X tg l (iList X.K tl) := by
  intro pins s σ H R I h
  refine thn (hl pins s σ H _ I h) fun v s1 ⟨x, H1, I1, r1, q1⟩ => ?_
  obtain ⟨a, e, ⟨xs, hq⟩, q⟩ := q1
  subst e
  cases r1
  obtain ⟨its, rv, p, hz⟩ := I1.list hq
  refine wpAny_pyIter_list p.isList ?_
  refine ⟨s1.heap.objs.size, [s1.heap.objs.size], _, _, H1, rfl, I1.kept (t' := s1.toks) fun b o e => Heap.get?_push_of_some _ e, turn_list a _, ⟨_, Heap.get?_push_size _ rfl, rfl, rfl⟩, fun b hb => ?_, q⟩
  have e : b = s1.heap.objs.size := by simpa using hb
  subst e
  exact I1.fpOk (Nat.le_refl _) (I1.hok.fresh (Nat.le_refl _))
theorem pi_tup {l : Expr} {tl : TE} (hl : PE X l tl) : PI X tg l (iTup X.K tl) := by
  intro pins s σ H R I h
  refine thn (hl pins s σ H _ I h) fun v s1 ⟨x, H1, I1, r1, q1⟩ => ?_
  obtain ⟨a, e, ⟨xs, hq⟩, q⟩ := q1
  subst e
  cases r1
  obtain ⟨its, rv, p, hz⟩ := I1.tuple hq
  refine wpAny_pyIter_tuple (show s1.heap.IsTuple a its.toArray from p) ?_
  refine ⟨s1.heap.objs.size, [s1.heap.objs.size], _, _, H1, rfl, I1.kept (t' := s1.toks) fun b o e => Heap.get?_push_of_some _ e, turn_tuple a _, ⟨_, Heap.get?_push_size _ rfl, rfl, rfl⟩, fun b hb => ?_, q⟩
  have e : b = s1.heap.objs.size := by simpa using hb
  subst e
  exact I1.fpOk (Nat.le_refl _) (I1.hok.fresh (Nat.le_refl _))
/-- a range object just made, walked -/
theorem range_it {pins : List (Addr × Obj)} {σ : St} {H : Hp} {s : Shared} {R : It → Hp → Prop} {E : Value → Shared → Prop} {lo hi : Int} {t u v : Tok} {tk : Nat} (I : Inv X pins σ H s) (h1 : -(2 ^ 62) ≤ lo) (h2 : lo < 2 ^ 62) (h3 : -(2 ^ 62) ≤ hi) (h4 : hi < 2 ^ 62)
    (q : R (Itr lo (hi - lo).toNat) H) : wpAny (model X.prog X.w) X.A (pyIter (.ref s.heap.objs.size)) (PIE X pins σ tg R) E { s with heap := s.heap.push { cls := .type "range", data := .fields #[.int lo t, .int hi u, .int 1 v] }, toks := tk } := by
  refine wpAny_pyIter_range (IsRange.new ..) (small_one h1 h2 h3 h4) ?_
  have I1 : Inv X pins σ H { s with heap := s.heap.push { cls := .type "range", data := .fields #[.int lo t, .int hi u, .int 1 v] }, toks := tk } := I.kept fun b o e => Heap.get?_push_of_some _ e
  refine ⟨(s.heap.push { cls := .type "range", data := .fields #[.int lo t, .int hi u, .int 1 v] }).objs.size, [(s.heap.push { cls := .type "range", data := .fields #[.int lo t, .int hi u, .int 1 v] }).objs.size], _, _, H, rfl,
    I1.kept (t' := tk) fun b o e => Heap.get?_push_of_some _ e, turn_range _ lo (hi - lo).toNat, ?_, fun b hb => ?_, q⟩
  · have e1 : lo + ((0 : Nat) : Int) * 1 = lo := by simp
    have e2 : (((hi - lo).toNat : Nat) : Int) - ((0 : Nat) : Int) = Builtin.Range.rangeSize lo hi 1 := by rw [rangeSize_one]; split <;> omega
    show IsRangeIter _ _ (lo + ((0 : Nat) : Int) * 1) ((((hi - lo).toNat : Nat) : Int) - ((0 : Nat) : Int)) 1
    rw [e1, e2]
    exact Heap.get?_push_size _ rfl
  · have e : b = (s.heap.push { cls := .type "range", data := .fields #[.int lo t, .int hi u, .int 1 v] }).objs.size := by simpa using hb
    subst e
    exact I1.fpOk (Nat.le_refl _) (I1.hok.fresh (Nat.le_refl _))
def iRng1 (ta : TA) : TI := fun σ H R => ta σ H fun vs H1 => ∃ j : Int, vs = [.int j] ∧ -(2 ^ 62) ≤ j ∧ j < 2 ^ 62 ∧ R (Itr 0 j.toNat) H1
theorem pi_range1 {a : Expr} {ta : TA} {p pos : Pos} (hg : Gl X "range") (hm : X.mg "range" = none) (ha : PA X [a] ta) (hs : starEach [a] X.env = [(false, eval a X.env)] := by rfl) : PI X tg (.Call (.Name "range" p) [a] [] pos) (iRng1 ta) := by
  intro pins s σ H R I h
  refine Call_ (ld_blt I hg hm boot_range (PyProof.Rows.callWith_type1 (thn (ha pos pins s σ H _ I h) fun us s1 ⟨vs, H1, I1, r1, q1⟩ => ?_) hs rfl))
  obtain ⟨j, e, q1, q2, q⟩ := q1
  subst e
  cases r1 with
  | cons r rr =>
    cases rr
    obtain ⟨t, rfl⟩ := r
    exact call_range_1 (range_it I1 (by omega) (by omega) q1 q2 (by simpa using q))
/-! ### for -/
/-- W: the invariant by the turn and a measure; N: what the body is to reach -/
def tFor (wi : TI) (g : TG) (tb : TS) : TS := fun D σ H => wi σ H fun J H1 => ∃ W : Nat → Nat → St → Hp → Prop, (∃ m, W 0 m σ H1) ∧ ∀ i m σ H, W i m σ H →
  (J.stop i H ∧ D.nx σ H) ∨ (J.go i H ∧ ∃ N : St → Hp → Prop, (∀ σ' H', N σ' H' → ∃ m', m' < m ∧ W (i + 1) m' σ' H') ∧ ∀ x H', J.yld i H x H' → g x σ H' fun σ2 H2 => tb { D with nx := N, ct := N, bk := D.nx } σ2 H2)
/-- the records at fp as they stand -/
def pinsAt (fp : List Addr) (h : Heap) : List (Addr × Obj) := fp.filterMap fun b => (h.get? b).map fun o => (b, o)
theorem mem_pinsAt {fp : List Addr} {h : Heap} {b : Addr} {o : Obj} (hb : b ∈ fp) (e : h.get? b = some o) : (b, o) ∈ pinsAt fp h := List.mem_filterMap.mpr ⟨b, hb, by rw [e]; rfl⟩
theorem of_pinsAt {fp : List Addr} {h : Heap} {p : Addr × Obj} (hp : p ∈ pinsAt fp h) : p.1 ∈ fp ∧ h.get? p.1 = some p.2 := by
  obtain ⟨b, hb, e⟩ := List.mem_filterMap.mp hp
  cases q : h.get? b with
  | none => rw [q] at e; cases e
  | some o =>
    rw [q] at e
    have e' : (b, o) = p := Option.some.inj e
    subst e'
    exact ⟨hb, q⟩
theorem Inv.pinned {pins : List (Addr × Obj)} {σ : St} {H : Hp} {s : Shared} {fp : List Addr} (I : Inv X pins σ H s) (hf : ∀ b ∈ fp, FpOk X pins H b) (ho : ∀ b ∈ fp, ∃ o, s.heap.get? b = some o ∧ ∀ v, o.data ≠ .cell v) : Inv X (pins ++ pinsAt fp s.heap) σ H s :=
  I.pins_of fun p hp => (List.mem_append.mp hp).elim (fun z => I.pin p (List.mem_append_right _ z)) fun z => by
    obtain ⟨hb, e⟩ := of_pinsAt z
    obtain ⟨f0, f1, f2, _⟩ := hf p.1 hb
    obtain ⟨o, e', d⟩ := ho p.1 hb
    rw [e] at e'; cases e'
    exact ⟨e, f0, f1, f2, d⟩
theorem Inv.unpinned {pins pl : List (Addr × Obj)} {σ : St} {H : Hp} {s : Shared} (I : Inv X (pins ++ pl) σ H s) : Inv X pins σ H s := I.pins_of fun p hp => I.pin p (List.mem_append_right _ (List.mem_append_left _ hp))
theorem ps_for {iter : Expr} {body : List Stmt} {wi : TI} {g : TG} {tb : TS} {pos : Pos} (hp : PassesOwn (model X.prog X.w) X.A X.env X.xe) (hc : X.calm = true) (hi : PI X tg iter wi) (hg : PG X tg g) (hb : PSs X body tb)
    (hs : ∀ x, foldedSetIterable iter X.env x = pure x := by intro _; rfl) : PS X (.For tg iter body [] pos) (tFor wi g tb) := by
  intro pins s σ H D I h
  refine wpAny_For (thn (hi pins s σ H _ I h) fun v s1 h1 => thn h1 fun itv s2 h2 => ?_) hs
  obtain ⟨it, fp, tn, J, H2, e, I2, T, st2, f2, W, ⟨m0, w0⟩, turn⟩ := h2
  subst e
  -- what stays true of the iterator's objects through the loop
  have stat : ∀ {H' : Hp}, (∀ b ∈ fp, H' b = none) → ∀ b ∈ fp, FpOk X pins H' b := fun hn b hb => ⟨hn b hb, (f2 b hb).2⟩
  refine codeAny_forLoop_any (fun n s' => ∃ i σ' H', Inv X pins σ' H' s' ∧ tn i s'.heap ∧ (∀ b ∈ fp, H' b = none) ∧ W i n σ' H') ?_ m0 ⟨0, σ, H2, I2, st2, fun b hb => (f2 b hb).1, w0⟩
  rintro n s3 ⟨i, σ3, H3, I3, st3, fr3, w3⟩
  rcases turn i n σ3 H3 w3 with ⟨stop, qn⟩ | ⟨go, N, hN, step⟩
  · refine wpAny_passesOwn hp (thn (T.done X rfl rfl rfl hc i pins s3 σ3 H3 X.xe I3 (stat fr3) st3 stop) fun r s4 ⟨hr, I4⟩ => ?_)
    subst hr
    exact wpAny_execs_nil ⟨σ3, H3, I4, qn⟩
  · refine wpAny_passesOwn hp (thn (T.item X rfl rfl rfl hc i pins s3 σ3 H3 X.xe I3 (stat fr3) st3 go) fun r s4 ⟨u, hr, h4⟩ => ?_)
    subst hr
    refine wpAny_passesOwn hp (thn h4 fun _ s5 ⟨x, H5, I5, r5, y5, st5, fr5⟩ => ?_)
    have I5' := I5.pinned (stat fr5) (T.obj _ _ st5)
    refine wpAny_passesOwn hp (thn (hg _ s5 σ3 H5 x u _ I5' r5 (step x H5 y5)) fun _ s6 ⟨σ6, H6, I6, q6⟩ => ?_)
    refine wpAny_passesOwn hp (thn (hb _ s6 σ6 H6 _ I6 q6) fun f s7 q7 => ?_)
    have again : ∀ {σ7 : St} {H7 : Hp}, Inv X (pins ++ pinsAt fp s5.heap) σ7 H7 s7 → N σ7 H7 → ∃ m, m < n ∧ ∃ i σ' H', Inv X pins σ' H' s7 ∧ tn i s7.heap ∧ (∀ b ∈ fp, H' b = none) ∧ W i m σ' H' := fun {σ7 H7} I7 n7 => by
      obtain ⟨m', hm, w7⟩ := hN σ7 H7 n7
      refine ⟨m', hm, i + 1, σ7, H7, I7.unpinned, T.keep _ _ _ st5 fun b hb o e => (I7.pin (b, o) (List.mem_append_right _ (List.mem_append_right _ (mem_pinsAt hb e)))).1, fun b hb => ?_, w7⟩
      obtain ⟨o, e, d⟩ := T.obj _ _ st5 b hb
      exact (I7.pin (b, o) (List.mem_append_right _ (List.mem_append_right _ (mem_pinsAt hb e)))).2.1
    cases f with
    | next => obtain ⟨σ7, H7, I7, n7⟩ := q7; exact again I7 n7
    | cont => obtain ⟨σ7, H7, I7, n7⟩ := q7; exact again I7 n7
    | brk => obtain ⟨σ7, H7, I7, q7⟩ := q7; exact ⟨σ7, H7, I7.unpinned, q7⟩
    | ret v => obtain ⟨x7, σ7, H7, I7, r7, q7⟩ := q7; exact ⟨x7, σ7, H7, I7.unpinned, r7, q7⟩
end

/-! ### the forms one uses -/
end L2

namespace L2
open PySem PySem.Spec PyProof.Rows

abbrev R2 := V → V → Hp → VK → Prop
/-- a two-place operation on values: f is binaryOp op, inplaceOp op or compareOp op -/
def OpR (X : Cx) (f : Value → Value → Sem Value) (r : R2) : Prop :=
  ∀ (pins : List (Addr × Obj)) (s : Shared) (σ : St) (H : Hp) (x y : V) (v u : Value) (Q : VK), Inv X pins σ H s → RelV x v → RelV y u → r x y H Q →
    wpAny (model X.prog X.w) X.A (f v u) (EP X pins σ Q) X.xe s
/-- a one-place operation -/
def UnR (X : Cx) (f : Value → Sem Value) (r : V → Hp → VK → Prop) : Prop :=
  ∀ (pins : List (Addr × Obj)) (s : Shared) (σ : St) (H : Hp) (x : V) (v : Value) (Q : VK), Inv X pins σ H s → RelV x v → r x H Q →
    wpAny (model X.prog X.w) X.A (f v) (EP X pins σ Q) X.xe s
/-- a call of a value that is known (a builtin, a type) with values -/
def CallR (X : Cx) (f : Value) (r : List V → Hp → VK → Prop) : Prop :=
  ∀ (pins : List (Addr × Obj)) (s : Shared) (σ : St) (H : Hp) (xs : List V) (us : List Value) (Q : VK), Inv X pins σ H s → Vals xs us → r xs H Q →
    wpAny (model X.prog X.w) X.A (call f us) (EP X pins σ Q) X.xe s
def tOp (r : R2) (ta tb : TE) : TE := fun σ H Q => ta σ H fun x H1 => tb σ H1 fun y H2 => r x y H2 Q
def tUn (r : V → Hp → VK → Prop) (ta : TE) : TE := fun σ H Q => ta σ H fun x H1 => r x H1 Q
/-- ints in, under C, and a value out -/
def rI (C : Int → Int → Prop) (g : Int → Int → V) : R2 := fun x y H Q => ∃ i j, x = .int i ∧ y = .int j ∧ C i j ∧ Q (g i j) H
def rI0 (g : Int → Int → V) : R2 := fun x y H Q => ∃ i j, x = .int i ∧ y = .int j ∧ Q (g i j) H
def rU (g : Int → V) : V → Hp → VK → Prop := fun x H Q => ∃ i, x = .int i ∧ Q (g i) H

section
variable {X : Cx} {a b c : Expr} {ta tb tc : TE} {pos : Pos}

theorem binT (ha : PE X a ta) (hb : PE X b tb) {pins : List (Addr × Obj)} {s : Shared} {σ : St} {H : Hp} {R : V → V → Hp → Prop} (I : Inv X pins σ H s)
    (h : ta σ H fun x H1 => tb σ H1 fun y H2 => R x y H2) {Q : Value → Shared → Prop} {f : Value → Value → Sem Value}
    (hf : ∀ v u s2 x y H2, Inv X pins σ H2 s2 → RelV x v → RelV y u → R x y H2 → wpAny (model X.prog X.w) X.A (f v u) Q X.xe s2) :
    wpAny (model X.prog X.w) X.A (eval a X.env) (fun v s₁ => wpAny (model X.prog X.w) X.A (eval b X.env) (fun u s₂ => wpAny (model X.prog X.w) X.A (f v u) Q X.xe s₂) X.xe s₁) X.xe s := by
  refine thn (ha pins s σ H _ I h) fun v s1 ⟨x, H1, I1, r1, q1⟩ => ?_
  refine thn (hb pins s1 σ H1 _ I1 q1) fun u s2 ⟨y, H2, I2, r2, q2⟩ => ?_
  exact hf v u s2 x y H2 I2 r1 r2 q2

theorem pe_op {op : Operator} {r : R2} (ho : OpR X (binaryOp op) r) (ha : PE X a ta) (hb : PE X b tb) : PE X (.BinOp a op b pos) (tOp r ta tb) := by
  intro pins s σ H Q I h
  exact wpAny_BinOp (binT ha hb I h fun v u s2 x y H2 I2 rx ry q => ho pins s2 σ H2 x y v u Q I2 rx ry q)
theorem pe_un {op : UnaryOp} {r : V → Hp → VK → Prop} (ho : UnR X (unaryOp op) r) (ha : PE X a ta) : PE X (.UnaryOp op a pos) (tUn r ta) := by
  intro pins s σ H Q I h
  exact UnaryOp_ (thn (ha pins s σ H _ I h) fun v s1 ⟨x, H1, I1, r1, q1⟩ => ho pins s1 σ H1 x v Q I1 r1 q1)
/-! ### ints -/
theorem opI {f : Value → Value → Sem Value} {C : Int → Int → Prop} {g : Int → Int → Int}
    (rule : ∀ (i j : Int) (t u : Tok) (s : Shared) (Q : Value → Shared → Prop) (E : Value → Shared → Prop), C i j → Q (.int (g i j) s.toks) { s with toks := s.toks + 1 } → wpAny (model X.prog X.w) X.A (f (.int i t) (.int j u)) Q E s) :
    OpR X f (rI C fun i j => .int (g i j)) := by
  intro pins s σ H x y v u Q I rx ry h
  obtain ⟨i, j, rfl, rfl, hc, q⟩ := h
  obtain ⟨t, rfl⟩ := rx
  obtain ⟨t', rfl⟩ := ry
  exact rule i j t t' s _ _ hc ⟨.int (g i j), H, I.tok _, ⟨_, rfl⟩, q⟩
theorem opI0 {f : Value → Value → Sem Value} {g : Int → Int → Int}
    (rule : ∀ (i j : Int) (t u : Tok) (s : Shared) (Q : Value → Shared → Prop) (E : Value → Shared → Prop), Q (.int (g i j) s.toks) { s with toks := s.toks + 1 } → wpAny (model X.prog X.w) X.A (f (.int i t) (.int j u)) Q E s) :
    OpR X f (rI0 fun i j => .int (g i j)) := by
  intro pins s σ H x y v u Q I rx ry h
  obtain ⟨i, j, rfl, rfl, q⟩ := h
  obtain ⟨t, rfl⟩ := rx
  obtain ⟨t', rfl⟩ := ry
  exact rule i j t t' s _ _ ⟨.int (g i j), H, I.tok _, ⟨_, rfl⟩, q⟩
theorem opB0 {f : Value → Value → Sem Value} {g : Int → Int → Bool}
    (rule : ∀ (i j : Int) (t u : Tok) (s : Shared) (Q : Value → Shared → Prop) (E : Value → Shared → Prop), Q (.bool (g i j)) s → wpAny (model X.prog X.w) X.A (f (.int i t) (.int j u)) Q E s) :
    OpR X f (rI0 fun i j => .bl (g i j)) := by
  intro pins s σ H x y v u Q I rx ry h
  obtain ⟨i, j, rfl, rfl, q⟩ := h
  obtain ⟨t, rfl⟩ := rx
  obtain ⟨t', rfl⟩ := ry
  exact rule i j t t' s _ _ ⟨.bl (g i j), H, I, rfl, q⟩

def CDiv (i j : Int) : Prop := 0 < j ∧ j < 1073741824
def CPow (i j : Int) : Prop := 0 ≤ j ∧ j ≤ 1000000 ∧ i.natAbs < 2 ^ 64
def CMul (i j : Int) : Prop := (-(2 ^ 64) < i ∧ i < 2 ^ 64) ∨ (-(2 ^ 64) < j ∧ j < 2 ^ 64)
theorem CMul.ok {i j : Int} (h : CMul i j) : IntMulOk i j := by
  rcases h with ⟨h1, h2⟩ | ⟨h1, h2⟩
  · exact .of_left (intBits_le_64 h1 h2)
  · exact .of_right (intBits_le_64 h1 h2)
theorem op_add : OpR X (binaryOp .Add) (rI0 fun i j => .int (i + j)) := opI0 fun _ _ _ _ _ _ _ q => add_int q
theorem op_sub : OpR X (binaryOp .Sub) (rI0 fun i j => .int (i - j)) := opI0 fun _ _ _ _ _ _ _ q => sub_int q
theorem op_mul : OpR X (binaryOp .Mult) (rI CMul fun i j => .int (i * j)) := opI fun _ _ _ _ _ _ _ hc q => mul_int q hc.ok
/-- // by a positive divisor -/
theorem op_fdiv : OpR X (binaryOp .FloorDiv) (rI CDiv fun i j => .int (i / j)) := opI fun i j _ _ _ _ _ hc q => by
  have h1 : (0 : Int) < j := hc.1
  have h2 : j < 1073741824 := hc.2
  exact floordiv_int (by omega) (by rw [Int.fdiv_eq_ediv_of_nonneg i (by omega)]; exact q) (.inl (PyProof.noPylong_small (by omega)))
/-- % by a positive divisor of any size -/
theorem op_mod : OpR X (binaryOp .Mod) (rI (fun _ j => 0 < j) fun i j => .int (i % j)) := opI fun i j _ _ _ _ _ hc q => by
  have h1 : (0 : Int) < j := hc
  exact mod_int' (by omega) (by rw [Int.fmod_eq_emod_of_nonneg i (by omega)]; exact q)
theorem op_pow : OpR X (binaryOp .Pow) (rI CPow fun i j => .int (i ^ j.toNat)) := opI fun _ _ _ _ _ _ _ hc q => pow_int_small hc.1 hc.2.1 hc.2.2 q
theorem unI {f : Value → Sem Value} {g : Int → Int}
    (rule : ∀ (i : Int) (t : Tok) (s : Shared) (Q : Value → Shared → Prop) (E : Value → Shared → Prop), Q (.int (g i) s.toks) { s with toks := s.toks + 1 } → wpAny (model X.prog X.w) X.A (f (.int i t)) Q E s) :
    UnR X f (rU fun i => .int (g i)) := by
  intro pins s σ H x v Q I rx h
  obtain ⟨i, rfl, q⟩ := h
  obtain ⟨t, rfl⟩ := rx
  exact rule i t s _ _ ⟨.int (g i), H, I.tok _, ⟨_, rfl⟩, q⟩
theorem un_neg : UnR X (unaryOp .USub) (rU fun i => .int (-i)) := unI fun _ _ _ _ _ q => neg_int q
/-! ### bools among ints: n += (a < b) -/
end

/-! ### comparisons -/
/-- the scalars that == tells apart as data does -/
def scal : V → V → Bool
  | .non, .non => true | .non, .int _ => true | .int _, .non => true | .non, .bl _ => true | .bl _, .non => true | .non, .str _ => true | .str _, .non => true
  | .int _, .int _ => true | .bl _, .bl _ => true | .str _, .str _ => true | .byt _, .byt _ => true
  | .int _, .str _ => true | .str _, .int _ => true | .bl _, .str _ => true | .str _, .bl _ => true
  | _, _ => false
def rEq : R2 := fun x y H Q => scal x y = true ∧ Q (.bl (decide (x = y))) H
def rNe : R2 := fun x y H Q => scal x y = true ∧ Q (.bl (!decide (x = y))) H

theorem dec_int {i j : Int} : decide (V.int i = V.int j) = (i == j) := by
  rw [Bool.eq_iff_iff]
  simp
theorem dec_bl {i j : Bool} : decide (V.bl i = V.bl j) = (i == j) := by
  rw [Bool.eq_iff_iff]
  simp
theorem dec_str {i j : Str} : decide (V.str i = V.str j) = (i == j) := by
  rw [Bool.eq_iff_iff]
  simp
theorem dec_byt {i j : Array UInt8} : decide (V.byt i = V.byt j) = (i.toList == j.toList) := by
  rw [Bool.eq_iff_iff]
  cases i
  cases j
  simp

section
variable {X : Cx} {a b c : Expr} {ta tb tc : TE} {pos : Pos}
theorem fin_bl {pins : List (Addr × Obj)} {σ : St} {H : Hp} {s : Shared} {Q : VK} {k k' : Bool} (I : Inv X pins σ H s) (q : Q (.bl k) H) (e : k = k') : EP X pins σ Q (.bool k') s := by
  subst e
  exact ⟨.bl k, H, I, rfl, q⟩
theorem op_eq : OpR X (compareOp .Eq) rEq := by
  intro pins s σ H x y v u Q I rx ry h
  obtain ⟨hs, q⟩ := h
  cases x with
  | non =>
    cases rx
    cases y with
    | non => cases ry; exact PySem.EqNone.eq_none_none (fin_bl I q (by simp))
    | bl j => cases ry; exact PySem.EqNone.eq_none_bool (fin_bl I q (by simp))
    | int j => obtain ⟨t', rfl⟩ := ry; exact PySem.EqNone.eq_none_int (fin_bl I q (by simp))
    | str j => obtain ⟨t', rfl⟩ := ry; exact PySem.EqNone.eq_none_str (fin_bl I q (by simp))
    | _ => exact absurd (show false = true from hs) Bool.false_ne_true
  | bl i =>
    cases rx
    cases y with
    | non => cases ry; exact PySem.EqNone.eq_bool_none (fin_bl I q (by simp))
    | bl j => cases ry; exact eq_bool (fin_bl I q dec_bl)
    | str j => obtain ⟨t', rfl⟩ := ry; exact PySem.EqMixed.eq_bool_str (fin_bl I q (by simp))
    | _ => exact absurd (show false = true from hs) Bool.false_ne_true
  | int i =>
    obtain ⟨t, rfl⟩ := rx
    cases y with
    | non => cases ry; exact PySem.EqNone.eq_int_none (fin_bl I q (by simp))
    | int j => obtain ⟨t', rfl⟩ := ry; exact eq_int (fin_bl I q dec_int)
    | str j => obtain ⟨t', rfl⟩ := ry; exact PySem.EqMixed.eq_int_str (fin_bl I q (by simp))
    | _ => exact absurd (show false = true from hs) Bool.false_ne_true
  | str i =>
    obtain ⟨t, rfl⟩ := rx
    cases y with
    | non => cases ry; exact PySem.EqNone.eq_str_none (fin_bl I q (by simp))
    | bl j => cases ry; exact PySem.EqMixed.eq_str_bool (fin_bl I q (by simp))
    | int j => obtain ⟨t', rfl⟩ := ry; exact PySem.EqMixed.eq_str_int (fin_bl I q (by simp))
    | str j => obtain ⟨t', rfl⟩ := ry; exact eq_str (fin_bl I q dec_str)
    | _ => exact absurd (show false = true from hs) Bool.false_ne_true
  | byt i =>
    obtain ⟨t, rfl⟩ := rx
    cases y with
    | byt j => obtain ⟨t', rfl⟩ := ry; exact PySem.W.eq_bytes (fin_bl I q dec_byt)
    | _ => exact absurd (show false = true from hs) Bool.false_ne_true
  | _ => cases y <;> exact absurd (show false = true from hs) Bool.false_ne_true
theorem op_ne : OpR X (compareOp .NotEq) rNe := by
  intro pins s σ H x y v u Q I rx ry h
  obtain ⟨hs, q⟩ := h
  cases x with
  | non =>
    cases rx
    cases y with
    | non => cases ry; exact PySem.EqNone.ne_none_none (fin_bl I q (by simp))
    | bl j => cases ry; exact PySem.EqNone.ne_none_bool (fin_bl I q (by simp))
    | int j => obtain ⟨t', rfl⟩ := ry; exact PySem.EqNone.ne_none_int (fin_bl I q (by simp))
    | str j => obtain ⟨t', rfl⟩ := ry; exact PySem.EqNone.ne_none_str (fin_bl I q (by simp))
    | _ => exact absurd (show false = true from hs) Bool.false_ne_true
  | bl i =>
    cases rx
    cases y with
    | non => cases ry; exact PySem.EqNone.ne_bool_none (fin_bl I q (by simp))
    | bl j => cases ry; exact ne_bool (fin_bl I q (congrArg not dec_bl))
    | str j => obtain ⟨t', rfl⟩ := ry; exact PySem.EqMixed.ne_bool_str (fin_bl I q (by simp))
    | _ => exact absurd (show false = true from hs) Bool.false_ne_true
  | int i =>
    obtain ⟨t, rfl⟩ := rx
    cases y with
    | non => cases ry; exact PySem.EqNone.ne_int_none (fin_bl I q (by simp))
    | int j => obtain ⟨t', rfl⟩ := ry; exact ne_int (fin_bl I q (congrArg not dec_int))
    | str j => obtain ⟨t', rfl⟩ := ry; exact PySem.EqMixed.ne_int_str (fin_bl I q (by simp))
    | _ => exact absurd (show false = true from hs) Bool.false_ne_true
  | str i =>
    obtain ⟨t, rfl⟩ := rx
    cases y with
    | non => cases ry; exact PySem.EqNone.ne_str_none (fin_bl I q (by simp))
    | bl j => cases ry; exact PySem.EqMixed.ne_str_bool (fin_bl I q (by simp))
    | int j => obtain ⟨t', rfl⟩ := ry; exact PySem.EqMixed.ne_str_int (fin_bl I q (by simp))
    | str j => obtain ⟨t', rfl⟩ := ry; exact ne_str (fin_bl I q (congrArg not dec_str))
    | _ => exact absurd (show false = true from hs) Bool.false_ne_true
  | byt i =>
    obtain ⟨t, rfl⟩ := rx
    cases y with
    | byt j => obtain ⟨t', rfl⟩ := ry; exact PySem.W.ne_bytes (fin_bl I q (congrArg not dec_byt))
    | _ => exact absurd (show false = true from hs) Bool.false_ne_true
  | _ => cases y <;> exact absurd (show false = true from hs) Bool.false_ne_true

theorem op_lt : OpR X (compareOp .Lt) (rI0 fun i j => .bl (decide (i < j))) := opB0 fun _ _ _ _ _ _ _ q => lt_int q
theorem op_le : OpR X (compareOp .LtE) (rI0 fun i j => .bl (decide (i ≤ j))) := opB0 fun _ _ _ _ _ _ _ q => le_int q
theorem op_gt : OpR X (compareOp .Gt) (rI0 fun i j => .bl (decide (j < i))) := opB0 fun _ _ _ _ _ _ _ q => gt_int q
theorem op_ge : OpR X (compareOp .GtE) (rI0 fun i j => .bl (decide (j ≤ i))) := opB0 fun _ _ _ _ _ _ _ q => ge_int q
/-- the one string within the other -/
theorem op_in_str : OpR X (compareOp .In) (fun x y H Q => ∃ i j, x = .str i ∧ y = .str j ∧ Q (.bl (!(Builtin.Str.occurrences j i 0 j.length 1).isEmpty)) H) := by
  intro pins s σ H x y v u Q I rx ry h
  obtain ⟨i, j, rfl, rfl, q⟩ := h
  obtain ⟨t, rfl⟩ := rx
  obtain ⟨t', rfl⟩ := ry
  exact in_str (fin_bl I q rfl)

/-- is None, is not None: the right side a value none -/
theorem op_isN : OpR X (compareOp .Is) (fun x y H Q => y = .non ∧ Q (.bl (decide (x = .non))) H) := by
  intro pins s σ H x y v u Q I rx ry h
  obtain ⟨rfl, q⟩ := h
  cases ry
  refine is_none_gen (fin_bl I q ?_)
  cases x <;> first
    | (cases rx; rfl)
    | (obtain ⟨t, rfl⟩ := rx; rfl)
/-- two rules for one operation: by cases -/
theorem OpR.or {f : Value → Value → Sem Value} {r r' : R2} (h : OpR X f r) (h' : OpR X f r') : OpR X f (fun x y H Q => r x y H Q ∨ r' x y H Q) := by
  intro pins s σ H x y v u Q I rx ry q
  rcases q with q | q
  · exact h pins s σ H x y v u Q I rx ry q
  · exact h' pins s σ H x y v u Q I rx ry q

theorem nomark (b : Expr) {op : CmpOp} (h : op ≠ .In := by decide) (h2 : op ≠ .NotIn := by decide) : behindInMarks op b = false := by
  have e1 : (op == CmpOp.In) = false := by cases op <;> first | rfl | exact absurd rfl h
  have e2 : (op == CmpOp.NotIn) = false := by cases op <;> first | rfl | exact absurd rfl h2
  cases b <;> simp [behindInMarks, e1, e2]
/-- a comparison as a value; hm: nomark b, or (for in, not in) by with_unfolding_all rfl -/
theorem pe_cmpR {op : CmpOp} {r : R2} (ho : OpR X (compareOp op) r) (ha : PE X a ta) (hb : PE X b tb) (hm : behindInMarks op b = false) : PE X (.Compare a [op] [b] pos) (tOp r ta tb) := by
  intro pins s σ H Q I h
  exact wpAny_Compare1 (binT ha hb I h fun v u s2 x y H2 I2 rx ry q => ho pins s2 σ H2 x y v u Q I2 rx ry q) hm
/-- a reading of a value as a test -/
def tTest (t : TE) : TT := fun σ H Q => t σ H fun x H' => ∃ k, x = .bl k ∧ Q k H'
theorem pt_cmpR {op : CmpOp} {r : R2} (ho : OpR X (compareOp op) r) (ha : PE X a ta) (hb : PE X b tb) (hm : behindInMarks op b = false) : PT X (.Compare a [op] [b] pos) (tTest (tOp r ta tb)) := by
  intro pins s σ H Q I h
  refine wpAny_isTrue_Compare1 (thn (ha pins s σ H _ I h) fun v s1 ⟨x, H1, I1, r1, q1⟩ => thn (hb pins s1 σ H1 _ I1 q1) fun u s2 ⟨y, H2, I2, r2, q2⟩ =>
    thn (ho pins s2 σ H2 x y v u _ I2 r1 r2 q2) fun c s3 ⟨z, H3, I3, r3, k, e, q3⟩ => ?_) hm
  subst e
  cases r3
  exact wpAny_truthy_bool ⟨H3, I3, q3⟩
/-! ### truth -/
theorem line63 : (sizeLine : Nat) < 2 ^ 63 := by rw [sizeLine_eq]; decide
/-! ### strs and bytes -/
theorem op_add_str : OpR X (binaryOp .Add) (fun x y H Q => ∃ i j, x = .str i ∧ y = .str j ∧ i.length + j.length ≤ sizeLine ∧ Q (.str (i ++ j)) H) := by
  intro pins s σ H x y v u Q I rx ry h
  obtain ⟨i, j, rfl, rfl, hz, q⟩ := h
  obtain ⟨t, rfl⟩ := rx
  obtain ⟨t', rfl⟩ := ry
  exact add_str (fun t' tk => ⟨.str (i ++ j), H, I.tok _, ⟨_, rfl⟩, q⟩) hz
/-! ### scalar builtins, by CallR -/
theorem vals1 {x : V} {us : List Value} (r : Vals [x] us) : ∃ u, us = [u] ∧ RelV x u := by
  cases r with
  | cons r1 r2 => cases r2; exact ⟨_, rfl, r1⟩
theorem vals2 {x y : V} {us : List Value} (r : Vals [x, y] us) : ∃ u w', us = [u, w'] ∧ RelV x u ∧ RelV y w' := by
  cases r with
  | cons r1 r2 =>
    cases r2 with
    | cons r3 r4 => cases r4; exact ⟨_, _, rfl, r1, r3⟩
theorem call_min2 (hc : X.calm = true) : CallR X (.builtin "min") (fun xs H Q => ∃ i j, xs = [.int i, .int j] ∧ Q (.int (if j < i then j else i)) H) := by
  intro pins s σ H xs us Q I r h
  obtain ⟨i, j, rfl, q⟩ := h
  obtain ⟨u, w', rfl, ⟨t, rfl⟩, ⟨t', rfl⟩⟩ := vals2 r
  refine min_two_ints (I.ok.hd hc) fun h' tk k => ⟨_, H, I.kept k, ?_, q⟩
  by_cases hj : j < i
  · rw [if_pos hj, if_pos hj]; exact ⟨_, rfl⟩
  · rw [if_neg hj, if_neg hj]; exact ⟨_, rfl⟩
theorem call_str_int : CallR X (.type "str") (fun xs H Q => ∃ i, xs = [.int i] ∧ i.natAbs.log2 < 1920 ∧ Q (.str (toString i)) H) := by
  intro pins s σ H xs us Q I r h
  obtain ⟨i, rfl, hz, q⟩ := h
  obtain ⟨u, rfl, t, rfl⟩ := vals1 r
  exact PySem.P.str_of_int hz ⟨.str _, H, I.tok _, ⟨_, rfl⟩, q⟩
end
end L2

namespace L2
open PySem PySem.Spec PyProof.Rows

/-! ### an instance, its attributes a map -/
structure ObjM (h : Heap) (x dx C : Addr) (mA : Str → Option Value) : Prop where
  obj : h.get? x = some (PySem.W.instObj C dx)
  ns : h.Ns1 dx mA
  ne : dx ≠ x

section
variable {prog : Program} {w : World} {A : Around} {E : Value → Shared → Prop} {s : Shared} {K : PySem.W.Frag} {x dx C f : Addr} {mA : Str → Option Value} {name : Str} {v : Value}

end

/-! ### the attributes as a list of pairs -/
theorem RelO.some_of {v : V} {o : Option Value} (r : RelO (some v) o) : ∃ u, o = some u ∧ RelV v u := by
  cases o with
  | none => exact (show False from r).elim
  | some u => exact ⟨u, rfl, r⟩
section
variable {P : Program} {w : World} {H H' : Hp} {h h' : Heap} {a C dx : Addr} {fs fs' : List (Str × V)}
end

/-! ### what of the text a class must have -/
structure Cls (K : PySem.W.Frag) (C : Addr) : Prop where
  pg : PySem.W.plainGet K C Str.empty = true
  hd : PySem.W.hasDictIn K C = true
  po : PySem.W.plainOver K C = true
  sa : PySem.W.findIn K (.ref C) "__setattr__" = some (some (.builtin "object.__setattr__"))
theorem Cls.get {K : PySem.W.Frag} {C : Addr} (c : Cls K C) (f : Str) : PySem.W.plainGet K C f = true := c.pg
/-- a constant of the class -/
structure Con (K : PySem.W.Frag) (C : Addr) (f : Str) (v : V) (u : Value) : Prop where
  at_ : PySem.W.findIn K (.ref C) f = some (some u)
  rel : RelV v u
  get : PySem.W.specialIn K u "__get__" = some none
  cp : PySem.W.copiedNames.contains f = false
/-- a method: a plain def of the class or of one above it -/
structure Meth (K : PySem.W.Frag) (C : Addr) (m : Str) (f : Addr) : Prop where
  at_ : PySem.W.findIn K (.ref C) m = some (some (.ref f))
  fn : PySem.W.isFn K (.ref f) = true
  kp : PySem.W.keepIn K (.ref f) = true

section
variable {X : Cx} {pins : List (Addr × Obj)} {σ : St} {H : Hp} {s : Shared} {a C dx : Addr} {fs : List (Str × V)} {f : Str} {v : V} {A : Around} {E : Value → Shared → Prop}

/-- a new instance, tracked, without attributes -/
theorem Inv.made (I : Inv X pins σ H s) : Inv X pins σ (upd (upd H s.heap.objs.size (.own (s.heap.objs.size + 1))) (s.heap.objs.size + 1) (.ins C s.heap.objs.size []))
    { s with heap := (s.heap.push PySem.W.emptyDict).push (PySem.W.instObj C s.heap.objs.size) } := by
  have e1 : (s.heap.push PySem.W.emptyDict).get? s.heap.objs.size = some PySem.W.emptyDict := Heap.get?_push_size s.heap rfl
  have e2 : ((s.heap.push PySem.W.emptyDict).push (PySem.W.instObj C s.heap.objs.size)).get? (s.heap.objs.size + 1) = some (PySem.W.instObj C s.heap.objs.size) := by
    have := Heap.get?_push_size (s.heap.push PySem.W.emptyDict) (o := PySem.W.instObj C s.heap.objs.size) rfl
    rwa [Heap.size_push] at this
  have e3 : (s.heap.push PySem.W.emptyDict).Ns s.heap.objs.size (fun _ => none) := ⟨PySem.W.emptyDict, #[], _, e1, rfl, (fun e he => absurd he (by simp)), fun _ => rfl⟩
  have I1 := I.laid (a := s.heap.objs.size) (o := .own (s.heap.objs.size + 1)) (h' := s.heap.push PySem.W.emptyDict) (t' := s.toks) (fun b u q => Heap.get?_push_of_some _ q) (Nat.le_refl _) ⟨_, e1⟩
  refine I1.laid (a := s.heap.objs.size + 1) (o := .ins C s.heap.objs.size []) (t' := s.toks) (fun b u q => Heap.get?_push_of_some _ q) (Nat.le_of_eq (Heap.size_push _ _)) ?_
  have ne : s.heap.objs.size ≠ s.heap.objs.size + 1 := Nat.ne_of_lt (Nat.lt_succ_self _)
  refine ⟨by rw [upd_ne ne, upd_same], Nat.zero_le _, ne, e2, fun _ => none, (Heap.Ns1.of_empty e3).at fun o q => Heap.get?_push_of_some _ q, fun _ => True.intro, fun y hy => absurd rfl hy⟩

end

/-! ### readings and rules -/
section
variable {X : Cx} {o e value : Expr} {f : Str} {pos pos' tpos : Pos} {ta tv : TE}
end

/-! ### isinstance -/
section
variable {X : Cx} {pins : List (Addr × Obj)} {σ : St} {H : Hp} {s : Shared} {A : Around} {E : Value → Shared → Prop} {Q : Value → Shared → Prop} {c : Value} {b : Bool}
/-- the type of a value, as the fragment's deciders take it; for an instance its class -/
inductive TyOf (K : PySem.W.Frag) (H : Hp) : V → Value → Prop where
  | non : TyOf K H .non (.type "NoneType")
  | bl (x : Bool) : TyOf K H (.bl x) (.type "bool")
  | int (i : Int) : TyOf K H (.int i) (.type "int")
  | str (x : Str) : TyOf K H (.str x) (.type "str")
  | flt (x : UInt64) : TyOf K H (.flt x) (.type "float")
  | lst {a : Addr} {xs : List V} (e : H a = some (.lst xs)) : TyOf K H (.ref a) (.type "list")
  | frz {a : Addr} {o : Obj} {xs : List V} (e : H a = some (.frz o (.lst xs))) : TyOf K H (.ref a) (.type "list")
  | tup {a : Addr} {xs : List V} (e : H a = some (.tup xs)) : TyOf K H (.ref a) (.type "tuple")
  | dK {a : Addr} {kvs : List (Key × V)} (e : H a = some (.dK kvs)) : TyOf K H (.ref a) (.type "dict")
  | dT {a : Addr} {kvs : List (List Key × V)} (e : H a = some (.dT kvs)) : TyOf K H (.ref a) (.type "dict")
  | ins {a C dx : Addr} {fs : List (Str × V)} (e : H a = some (.ins C dx fs)) (cl : Cls K C) (ha : PySem.W.findIn K (.ref C) "__class__" = some (some (.builtin "object.__class__")))
      (hn : PySem.W.specialIn K (.builtin "object.__class__") "__get__" = some (some (.builtin "getset_descriptor.__get__"))) (htk : PySem.W.takesIn K (.builtin "object.__class__") = some true)
      (hm : PySem.W.mroIn K C (.type "object") = some true) : TyOf K H (.ref a) (.ref C)
end
end L2

namespace L2
open PySem PySem.Spec PyProof.Rows

/-! ### room -/
structure Room (k : Nat) (A : Around) : Prop where
  hd : A.handled = none
  dp : A.depth + 3 * k + 5 < recursionLimit
  un : A.units + 16 * k + 200 < cLine
theorem Room.mono {j k : Nat} {A : Around} (r : Room k A) (h : j ≤ k) : Room j A := ⟨r.hd, by have := r.dp; omega, by have := r.un; omega⟩
theorem Room.deeper {k : Nat} {A : Around} (r : Room (k + 1) A) (env : Env) : Room k (A.deeper env) :=
  ⟨r.hd, by have := r.dp; show A.depth + 1 + 3 * k + 5 < _; omega, by have := r.un; show A.units + 3 + 16 * k + 200 < _; omega⟩
theorem Room.in1 {k : Nat} {A : Around} (r : Room (k + 1) A) : Room k A.in1 :=
  ⟨r.hd, by have := r.dp; show A.depth + 3 * k + 5 < _; omega, by have := r.un; show A.units + 1 + 16 * k + 200 < _; omega⟩
theorem Room.depth {k : Nat} {A : Around} (r : Room k A) : A.depth < recursionLimit := by have := r.dp; omega
theorem Room.units {k : Nat} {A : Around} (r : Room k A) : A.units + 64 < cLine := by have := r.un; omega
/-! ### argument lists and displays -/
def tNil : TA := fun _ H Q => Q [] H
def tCons (ta : TE) (tr : TA) : TA := fun σ H Q => ta σ H fun x H1 => tr σ H1 fun xs H2 => Q (x :: xs) H2
section
variable {X : Cx} {e : Expr} {es : List Expr} {te : TE} {t : TA} {pos : Pos}
theorem pa_nil : PA X [] tNil := fun _ _ _ _ H Q I h => Calls.spliced_nil ⟨[], H, I, .nil, h⟩
theorem pa_cons (ha : PE X e te) (hr : PA X es t) (hs : starEach (e :: es) X.env = (false, eval e X.env) :: starEach es X.env := by rfl) : PA X (e :: es) (tCons te t) := by
  intro pos pins s σ H Q I h
  rw [hs]
  show wpAny _ _ (spliced ((false, eval e X.env) :: backTo pos (starEach es X.env))) _ _ s
  refine Calls.spliced_cons (thn (ha pins s σ H _ I h) fun u s1 ⟨x, H1, I1, r1, q1⟩ => ?_)
  exact thn (hr pos pins s1 σ H1 _ I1 q1) fun us s2 ⟨xs, H2, I2, r2, q2⟩ => ⟨x :: xs, H2, I2, .cons r1 r2, q2⟩

/-- a tuple, a list of written items -/
def tTup (t : TA) : TE := fun σ H Q => t σ H fun xs H1 => xs.length ≤ sizeLine ∧ ∀ p, H1 p = none → Q (.ref p) (upd H1 p (.tup xs))
def tLst (t : TA) : TE := fun σ H Q => t σ H fun xs H1 => xs.length ≤ sizeLine ∧ ∀ p, H1 p = none → Q (.ref p) (upd H1 p (.lst xs))
theorem pe_tup {x1} (h : PA X es t) : PE X (.Tuple es x1 pos) (tTup t) := by
  intro pins s σ H Q I hq
  refine wpAny_Tuple_spliced (thn (h pos pins s σ H _ I hq) fun us s1 ⟨xs, H1, I1, r, z, q⟩ => ⟨by rw [← r.length]; exact z, ?_⟩)
  have hf : H1 s1.heap.objs.size = none := I1.hok.fresh (Nat.le_refl _)
  refine ⟨.ref s1.heap.objs.size, upd H1 s1.heap.objs.size (.tup xs), I1.laid (t' := s1.toks) (fun b u e => Heap.get?_push_of_some _ e) (Nat.le_refl _) ?_, rfl, q _ hf⟩
  exact ⟨z, us, r, ⟨_, Heap.get?_push_size _ rfl, rfl, _, rfl⟩⟩
theorem pe_lst (h : PA X es t) : PE X (.List es pos) (tLst t) := by
  intro pins s σ H Q I hq
  refine wpAny_List_spliced (thn (h pos pins s σ H _ I hq) fun us s1 ⟨xs, H1, I1, r, z, q⟩ => ⟨by rw [← r.length]; exact z, ?_⟩)
  have hf : H1 s1.heap.objs.size = none := I1.hok.fresh (Nat.le_refl _)
  refine ⟨.ref s1.heap.objs.size, upd H1 s1.heap.objs.size (.lst xs), I1.laid (t' := s1.toks) (fun b u e => Heap.get?_push_of_some _ e) (Nat.le_refl _) ?_, rfl, q _ hf⟩
  exact ⟨z, us, 0, r, Heap.get?_push_size _ rfl⟩
end

/-! ### what a def promises -/
/-- a def's promise: the bound arguments in the parameters' order, the heap, the wanted end, the wanted exception -/
abbrev Sp := List V → Hp → VK → XK → Prop
/-- how an exception lies behind a call (file 08 gives it): the callers' frames, abstract heap and state ahead of the call, the wish, the exception, the state -/
abbrev CXT := List Env → Hp → Shared → XK → Value → Shared → Prop

/-- the state at a call -/
structure Env0 (P : Program) (w : World) (K : PySem.W.Frag) (mg : Str → Option Value) (base : Heap) (A : Around) (outer : List Env) (s : Shared) (H : Hp) : Prop where
  frames : A.frames = some outer
  mod : Mod K mg base
  bs : ∀ b o, base.get? b = some o → s.heap.get? b = some o ∧ H b = none
  bsz : base.objs.size ≤ s.heap.objs.size
  funs : s.heap.FunFrames base outer
  frf : ∀ b ∈ frs outer, H b = none
  hok : HOk P w H s.heap
  bare : AllBare s.gens
/-- a call's end -/
def CE (outer : List Env) (P : Program) (w : World) (H : Hp) (s : Shared) (Q : VK) (u : Value) (s' : Shared) : Prop :=
  ∃ v H', s'.os = s.os ∧ AllBare s'.gens ∧ Un (frs outer) [] H H' s.heap s'.heap ∧ HOk P w H' s'.heap ∧ RelV v u ∧ Q v H'
def CR (CX : CXT) (outer : List Env) (P : Program) (w : World) (H : Hp) (s : Shared) (Q : VK) (E : XK) (r : Result) (s' : Shared) : Prop :=
  match r with
  | .ok (.ret u) => CE outer P w H s Q u s'
  | .ok _ => False
  | .error e => CX outer H s E e s'
structure FnOk (P : Program) (w : World) (K : PySem.W.Frag) (mg : Str → Option Value) (base : Heap) (CX : CXT) (k : Nat) (f : Addr) (fd : FuncData) (ps : List Str) (sp : Sp) : Prop where
  len : ∀ vs H Q E, sp vs H Q E → vs.length = ps.length
  run : ∀ (A : Around) (outer : List Env) (s : Shared) (H : Hp) (args : Args) (us : List Value) (vs : List V) (Q : VK) (E : XK), Room k A → Env0 P w K mg base A outer s H → BindsTo s fd args (ps.zip us) → Vals vs us → sp vs H Q E →
    codeAny (model P w) A (.call (.ref f) args) (CR CX outer P w H s Q E) s
theorem FnOk.mono {P : Program} {w : World} {K : PySem.W.Frag} {mg : Str → Option Value} {base : Heap} {CX : CXT} {j k : Nat} {f : Addr} {fd : FuncData} {ps : List Str} {sp : Sp} (F : FnOk P w K mg base CX j f fd ps sp) (h : j ≤ k) :
    FnOk P w K mg base CX k f fd ps sp := ⟨F.len, fun A outer s H args us vs Q E hr => F.run A outer s H args us vs Q E (hr.mono h)⟩
/-- a weaker promise -/
theorem FnOk.imp {P : Program} {w : World} {K : PySem.W.Frag} {mg : Str → Option Value} {base : Heap} {CX : CXT} {k : Nat} {f : Addr} {fd : FuncData} {ps : List Str} {sp sp' : Sp} (F : FnOk P w K mg base CX k f fd ps sp)
    (h : ∀ vs H Q E, sp' vs H Q E → sp vs H Q E) : FnOk P w K mg base CX k f fd ps sp' :=
  ⟨fun vs H Q E q => F.len vs H Q E (h _ _ _ _ q), fun A outer s H args us vs Q E hr he hb hv hs => F.run A outer s H args us vs Q E hr he hb hv (h _ _ _ _ hs)⟩

theorem Env0.in1 {P : Program} {w : World} {K : PySem.W.Frag} {mg : Str → Option Value} {base : Heap} {A : Around} {outer : List Env} {s : Shared} {H : Hp} (e : Env0 P w K mg base A outer s H) :
    Env0 P w K mg base A.in1 outer s H := ⟨e.frames, e.mod, e.bs, e.bsz, e.funs, e.frf, e.hok, e.bare⟩

section
variable {X : Cx} {pins : List (Addr × Obj)} {σ : St} {H : Hp} {s s' : Shared}
/-- from a body: what a callee wants -/
theorem Inv.env0 (I : Inv X pins σ H s) : Env0 X.prog X.w X.K X.mg X.base X.A X.stack s H :=
  ⟨I.ok.frames, I.ok.mod, I.bs, Nat.le_trans I.ok.bsz I.sz, I.stack, I.stkFree, I.hok, I.bare⟩
/-- behind a call -/
theorem Inv.after {Q : VK} {u : Value} (I : Inv X pins σ H s) (h : CE X.stack X.prog X.w H s Q u s') : EP X pins σ Q u s' := by
  obtain ⟨v, H', os, bare, un, hok, r, q⟩ := h
  obtain ⟨hh, g, d, t, os'⟩ := s'
  obtain rfl : os' = s.os := os
  exact ⟨v, H', I.call (h' := hh) (g' := g) (d' := d) (t' := t) (ch := []) un hok bare (fun b z => absurd z (by simp)), r, q⟩
end

/-! ### calls -/
/-- f(..): the written arguments, then the defaults dvs; E: what is wanted of an exception -/
def tCall (sp : Sp) (dvs : List V) (E : XK) (t : TA) : TE := fun σ H Q => t σ H fun vs H1 => sp (vs ++ dvs) H1 Q E
/-- how the parameters are bound: us the positional arguments, kw the keywords' values by name, ds the defaults that fill up -/
def Binds (K : PySem.W.Frag) (fd : FuncData) (ps : List Str) (ds : List Value) : Prop :=
  ∀ (s : Shared) (us : List Value), K.In s.heap → (us ++ ds).length = ps.length → BindsTo s fd ⟨us, []⟩ (ps.zip (us ++ ds))
/-- every parameter is given -/
theorem Binds.all {K : PySem.W.Frag} {fd : FuncData} {ps : List Str} (h : ∀ us : List Value, us.length = ps.length → bindArgs fd ⟨us, []⟩ = pure (ps.zip us)) : Binds K fd ps [] := fun s us _ hl => by
  rw [List.append_nil] at hl ⊢
  exact .of_eq (h us hl)

/-- an exception of a callee reaches what this body wants of exceptions -/
def Passes (CX : CXT) (X : Cx) (E : XK) : Prop := ∀ (pins : List (Addr × Obj)) (σ : St) (H : Hp) (s : Shared) (e : Value) (s' : Shared), Inv X pins σ H s → CX X.stack H s E e s' → X.xe e s'

section
variable {X : Cx} {CX : CXT} {k : Nat} {f C : Addr} {fd : FuncData} {ps : List Str} {sp : Sp} {dvs : List V} {ds : List Value} {E : XK} {x m : Str} {p pos apos : Pos} {e o : Expr} {es : List Expr} {ta : TE} {t : TA}

/-- the callee runs -/
theorem run_fn {pins : List (Addr × Obj)} {σ : St} {H : Hp} {s : Shared} {Q : VK} {us : List Value} {vs : List V} (F : FnOk X.prog X.w X.K X.mg X.base CX k f fd ps sp) (hr : Room k X.A) (hb : Binds X.K fd ps ds) (hd : Vals dvs ds) (hx : Passes CX X E)
    (I : Inv X pins σ H s) (r : Vals vs us) (h : sp (vs ++ dvs) H Q E) : wpAny (model X.prog X.w) X.A (call (.ref f) us) (EP X pins σ Q) X.xe s := by
  have r2 : Vals (vs ++ dvs) (us ++ ds) := r.append hd
  have hl : (us ++ ds).length = ps.length := by rw [← r2.length]; exact F.len _ _ _ _ h
  refine wpAny_call (codeAny_mono (F.run X.A X.stack s H ⟨us, []⟩ (us ++ ds) (vs ++ dvs) Q E hr I.env0 (hb s us I.kIn hl) r2 h) fun r s' hq => ?_)
  cases r with
  | error e => exact hx pins σ H s e s' I hq
  | ok fl =>
    cases fl with
    | ret u => exact I.after hq
    | next => exact False.elim hq
    | brk => exact False.elim hq
    | cont => exact False.elim hq

theorem pe_call (F : FnOk X.prog X.w X.K X.mg X.base CX k f fd ps sp) (hr : Room k X.A) (hg : Gl X x) (hm : X.mg x = some (.ref f)) (hk : PySem.W.keepIn X.K (.ref f) = true) (hb : Binds X.K fd ps ds) (hd : Vals dvs ds) (hx : Passes CX X E)
    (ha : PA X (e :: es) t) (hdb : (x == ("__debug__" : Str)) = false := by decide) (he : starEach (e :: es) X.env = (false, eval e X.env) :: starEach es X.env := by rfl) (hpl : (backTo pos (starEach es X.env)).any (·.1) = false := by rfl) :
    PE X (.Call (.Name x p) (e :: es) [] pos) (tCall sp dvs E t) := by
  intro pins s σ H Q I h
  refine wpAny_Call_Name_kw (ld_glob I hg hm ?_ hdb)
  refine PySem.W.callWith_K (h₀ := X.base) I.ok.mod.kin hk (thn (ha pos pins s σ H _ I h) fun us s1 ⟨vs, H1, I1, r, q⟩ => ⟨I1.kIn, ?_⟩) he hpl
  exact run_fn F hr hb hd hx I1 r q
/-- what a class must have to be made -/
structure Mk (K : PySem.W.Frag) (C f : Addr) : Prop where
  makes : PySem.W.makesIn K C = true
  init : PySem.W.findIn K (.ref C) "__init__" = some (some (.ref f))
  fn : PySem.W.isFn K (.ref f) = true
  kp : PySem.W.keepIn K (.ref C) = true

end

/-! ### keywords -/
section
variable {X : Cx} {CX : CXT} {k : Nat} {f C : Addr} {fd : FuncData} {ps ks : List Str} {sp : Sp} {E : XK} {x m : Str} {p pos apos kpos : Pos} {e o : Expr} {es : List Expr} {kws : List Keyword} {te ta : TE} {t tk : TA} {nm : Option Str}
/-- how a call with keywords binds: g puts the positional values us and the keywords' values ws (names ks) in the parameters' order, defaults among them -/
structure KBinds (K : PySem.W.Frag) (fd : FuncData) (ps ks : List Str) (g : List Value → List Value → List Value) (gV : List V → List V → List V) : Prop where
  to : ∀ (s : Shared) (us ws : List Value), K.In s.heap → (g us ws).length = ps.length → BindsTo s fd ⟨us, ks.zip ws⟩ (ps.zip (g us ws))
  rel : ∀ {vs : List V} {us : List Value} {zs : List V} {ws : List Value}, Vals vs us → Vals zs ws → Vals (gV vs zs) (g us ws)
variable {g : List Value → List Value → List Value} {gV : List V → List V → List V}
end

/-! ### a def's body keeps its promise -/
/-- names: the parameters first -/
structure FnScope (N P : List Str) (sc : Scope) : Prop where
  kind : sc.kind = .function
  co : sc.isCoroutine = false
  gen : sc.isGenerator = false
  nd : N.Nodup
  pre : N.take P.length = P
  par : ∀ x ∈ P, sc.names.lookup x = some .local ∨ sc.names.lookup x = some .cell
  nofree : ∀ y ∈ sc.names, y.2 ≠ .free

theorem bindL_out {kindOf : Str → Option NameKind} {x : Str} : ∀ {binds : List (Str × Value)} {m : Str → Option Value}, (∀ v, (x, v) ∉ binds) → bindL kindOf binds m x = m x
  | [], _, _ => rfl
  | (n, v) :: r, m, h => by
    unfold bindL
    rw [bindL_out fun w hw => h w (List.mem_cons_of_mem _ hw)]
    split
    · have : x ≠ n := by rintro rfl; exact h v List.mem_cons_self
      simp [this]
    · rfl
theorem bindC_out {kindOf : Str → Option NameKind} {x : Str} : ∀ {binds : List (Str × Value)} {m : Str → Option Value}, (∀ v, (x, v) ∉ binds) → bindC kindOf binds m x = m x
  | [], _, _ => rfl
  | (n, v) :: r, m, h => by
    unfold bindC
    rw [bindC_out fun w hw => h w (List.mem_cons_of_mem _ hw)]
    split
    · rfl
    · have : x ≠ n := by rintro rfl; exact h v List.mem_cons_self
      simp [this]
theorem bindL_get {kindOf : Str → Option NameKind} {x : Str} {v : Value} : ∀ {P : List Str} {vs : List Value} {i : Nat} {m : Str → Option Value}, P.Nodup → P[i]? = some x → vs[i]? = some v → kindOf x = some .local →
    bindL kindOf (P.zip vs) m x = some v
  | [], _, _, _, _, h, _, _ => by simp at h
  | _ :: _, [], _, _, _, _, h, _ => by simp at h
  | p :: P, w :: vs, 0, m, nd, h1, h2, hk => by
    simp at h1 h2; subst h1; subst h2
    show bindL kindOf ((p, w) :: P.zip vs) m p = _
    unfold bindL
    rw [bindL_out fun v hv => (List.nodup_cons.mp nd).1 (List.of_mem_zip hv).1, if_pos hk]
    simp
  | p :: P, w :: vs, i + 1, m, nd, h1, h2, hk => by
    show bindL kindOf ((p, w) :: P.zip vs) m x = _
    unfold bindL
    exact bindL_get (i := i) (List.nodup_cons.mp nd).2 (by simpa using h1) (by simpa using h2) hk
theorem bindC_get {kindOf : Str → Option NameKind} {x : Str} {v : Value} : ∀ {P : List Str} {vs : List Value} {i : Nat} {m : Str → Option Value}, P.Nodup → P[i]? = some x → vs[i]? = some v → kindOf x ≠ some .local →
    bindC kindOf (P.zip vs) m x = some v
  | [], _, _, _, _, h, _, _ => by simp at h
  | _ :: _, [], _, _, _, _, h, _ => by simp at h
  | p :: P, w :: vs, 0, m, nd, h1, h2, hk => by
    simp at h1 h2; subst h1; subst h2
    show bindC kindOf ((p, w) :: P.zip vs) m p = _
    unfold bindC
    rw [bindC_out fun v hv => (List.nodup_cons.mp nd).1 (List.of_mem_zip hv).1, if_neg hk]
    simp
  | p :: P, w :: vs, i + 1, m, nd, h1, h2, hk => by
    show bindC kindOf ((p, w) :: P.zip vs) m x = _
    unfold bindC
    exact bindC_get (i := i) (List.nodup_cons.mp nd).2 (by simpa using h1) (by simpa using h2) hk

/-- the names' values at the entry -/
def start (N : List Str) (vs : List V) : St := vs.map some ++ List.replicate (N.length - vs.length) none

/-- the context of a def's body, at its entry; an exception leaves the frame, then lies as CX says -/
def cxOf (CX : CXT) (P : Program) (w : World) (K : PySem.W.Frag) (mg : Str → Option Value) (base : Heap) (N : List Str) (qual : Str) (scope : Scope) (f : Addr) (cd : Value) (A : Around) (outer : List Env) (s : Shared) (H : Hp) (E : XK) : Cx where
  prog := P
  w := w
  K := K
  mg := mg
  base := base
  A := A.deeper (envOfC qual scope s.heap.objs.size f cd)
  N := N
  s₀ := s
  H₀ := H
  env := envOfC qual scope s.heap.objs.size f cd
  outer := outer
  stack := envOfC qual scope s.heap.objs.size f cd :: outer
  ex := []
  calm := true
  fn := fun _ => true
  pn := []
  xe := fun e s' => wpAny (model P w) (A.deeper (envOfC qual scope s.heap.objs.size f cd)) (leaving (envOfC qual scope s.heap.objs.size f cd) e) (fun _ s'' => CX outer H s E e s'') (fun e' s'' => CX outer H s E e' s'') s'

theorem cell_has {sc : Scope} {n : Nat} {x : Str} (h : sc.names.lookup x = some .cell) : ∃ c, (cellsFrom n sc.names []).lookup x = some c := by
  have q := PySem.W.cellsFrom_some sc.names n [] (.inl h)
  exact Option.isSome_iff_exists.mp q

theorem inv_start {CX : CXT} {P : Program} {w : World} {K : PySem.W.Frag} {mg : Str → Option Value} {base : Heap} {N ps : List Str} {qual : Str} {scope : Scope} {f : Addr} {cd : Value} {A : Around} {outer : List Env} {s s1 : Shared} {H : Hp} {E : XK} {us : List Value} {vs : List V}
    (S : FnScope N ps scope) (hd : A.handled = none) (e0 : Env0 P w K mg base A outer s H) (hl : vs.length = ps.length) (r : Vals vs us)
    (x : InCallC s s.heap.objs.size (bindL (envOfC qual scope s.heap.objs.size f cd).kindOf (ps.zip us) fun _ => none) (cellsFrom (s.heap.objs.size + 1) scope.names []) (bindC (envOfC qual scope s.heap.objs.size f cd).kindOf (ps.zip us) fun _ => none) s1) :
    Inv (cxOf CX P w K mg base N qual scope f cd A outer s H E) [] (start N vs) H s1 := by
  have hpl : ps.length ≤ N.length := by have := congrArg List.length S.pre; rw [List.length_take] at this; omega
  obtain ⟨h1, tk, rfl, hk⟩ := x.done
  have noA : ∀ b : Addr, b ∉ (cxOf CX P w K mg base N qual scope f cd A outer s H E).ex := fun b z => absurd (show b ∈ ([] : List Addr) from z) (by simp)
  refine ⟨⟨e0.mod, S.kind, rfl, rfl, Nat.le_refl _, fun y z c h1 h2 => ?_, fun y hy => ?_, fun y c _ h => ?_, fun _ => hd, Around.frames_deeper e0.frames, .inr ⟨rfl, rfl⟩, fun b z => absurd z (noA b), e0.bs, e0.bsz, fun b _ _ => noA b, fun b z => absurd z (noA b), e0.funs, e0.frf⟩,
    rfl, e0.bare, Un.kept hk, ⟨_, x.toInCall.ns, fun i y v h1 h2 h3 => ?_⟩, fun y c h => ⟨_, x.cell y c h⟩, e0.hok.fresh (Nat.le_refl _), fun y c h => ?_, fun p hp => absurd (show p ∈ ([] : List (Addr × Obj)) from hp) (by simp), e0.hok.kept hk, ?_⟩
  · exact name_of_addr x.apart (PySem.mem_of_lookup h1) (PySem.mem_of_lookup h2)
  · have hy : scope.names.lookup y = some .cell ∨ scope.names.lookup y = some .free := hy
    rcases hy with hy | hy
    · exact cell_has hy
    · exact absurd rfl (S.nofree _ (PySem.mem_of_lookup hy))
  · exact Nat.le_of_lt (x.above y c (PySem.mem_of_lookup h))
  · have hi : i < vs.length := by
      unfold start at h2
      by_cases hi : i < vs.length
      · exact hi
      · rw [List.getElem?_append_right (by simpa using hi)] at h2
        rw [List.getElem?_replicate] at h2
        split at h2 <;> cases h2
    have ha : vs[i]? = some v := by
      unfold start at h2
      rw [List.getElem?_append_left (by simpa using hi), List.getElem?_map] at h2
      cases e : vs[i]? with
      | none => rw [e] at h2; cases h2
      | some a => rw [e] at h2; cases h2; rfl
    obtain ⟨u, hu, rv⟩ := r.get ha
    have hp : ps[i]? = some y := by
      rw [← S.pre, List.getElem?_take_of_lt (by omega)]; exact h1
    have ndP : ps.Nodup := by rw [← S.pre]; exact S.nd.sublist (List.take_sublist _ _)
    refine ⟨u, rv, ?_⟩
    rcases S.par y (List.mem_of_getElem? hp) with k | k
    · exact .inl ⟨k, bindL_get ndP hp hu k⟩
    · obtain ⟨c, e⟩ := cell_has (n := s.heap.objs.size + 1) k
      refine .inr ⟨.inl k, c, e, ?_⟩
      have q := x.cell y c e
      rw [bindC_get ndP hp hu (by show scope.names.lookup y ≠ _; rw [k]; decide)] at q
      exact q
  · exact e0.hok.fresh (Nat.le_of_lt (x.above y c (PySem.mem_of_lookup h)))
  · unfold start
    show _ = N.length
    rw [List.length_append, List.length_map, List.length_replicate]
    omega

/-- THE RULE: a def (or a method) of the text, by its body. The body's reading t is chosen for each entry; it is run at the parameters' values -/
theorem fn_of {CX : CXT} {P : Program} {w : World} {K : PySem.W.Frag} {mg : Str → Option Value} {base : Heap} {k : Nat} {f : Addr} {name qual : Str} {params : Arguments} {body : List Stmt} {scope : Scope} {dV kV doc pm cdv ct oc : Value} {an od : Option Addr}
    {osl : Array (Option Value)} {N ps : List Str} {sp : Sp} (lk : K.lookup f = some ⟨oc, od, .func (PySem.W.fnOf name qual params body scope dV kV doc pm an cdv ct), osl⟩) (hcd : PySem.W.codeIn K cdv qual = true) (S : FnScope N ps scope)
    (len : ∀ vs H Q E, sp vs H Q E → vs.length = ps.length)
    (hbody : ∀ (A : Around) (outer : List Env) (s : Shared) (H : Hp) (vs : List V) (Q : VK) (E : XK), Room k (A.deeper (envOfC qual scope s.heap.objs.size f cdv)) → sp vs H Q E →
      ∃ t, PSs (cxOf CX P w K mg base N qual scope f cdv A outer s H E) body t ∧ t { nx := fun _ H' => Q .non H', rt := Q } (start N vs) H) :
    FnOk P w K mg base CX (k + 1) f (PySem.W.fnOf name qual params body scope dV kV doc pm an cdv ct) ps sp := by
  refine ⟨len, fun A outer s H args us vs Q E hr e0 hb r hsp => ?_⟩
  have hl := len _ _ _ _ hsp
  have KX : K.In s.heap := e0.mod.kin.keeps fun b o e => (e0.bs b o e).1
  have lim : s.heap.NoLimit := e0.mod.nolimit.keeps fun b o e => (e0.bs b o e).1
  have hkind : ∀ y ∈ ps.zip us, scope.names.lookup y.1 = some .local ∨ (scope.names.lookup y.1 = some .cell ∧ ((cellsFrom (s.heap.objs.size + 1) scope.names []).lookup y.1).isSome = true) := fun ⟨n, v⟩ hy => by
    rcases S.par n (List.of_mem_zip hy).1 with q | q
    · exact .inl q
    · exact .inr ⟨q, PySem.W.cellsFrom_some _ _ _ (.inl q)⟩
  refine codeAny_call_function hr.depth (KX _ _ lk) rfl S.co S.gen rfl (PySem.W.codeRec_of KX hcd) (hb _ _ _ _ ?_)
  refine wpAny_newFunctionEnv_cells S.kind hkind fun env he s1 x => ?_
  subst he
  refine ⟨lim.keeps x.toInCall.keep, codeAny_func ?_⟩
  obtain ⟨t, ht, hq⟩ := hbody A outer s H vs Q E (hr.deeper _) hsp
  have I : Inv (cxOf CX P w K mg base N qual scope f cdv A outer s H E) [] (start N vs) H s1 := inv_start S hr.hd e0 hl r x
  refine wpAny_mono (ht [] s1 (start N vs) H _ I hq) (fun fl s' hs => ?_) fun e s' hs => hs
  have fin : ∀ {σ' : St} {H' : Hp} {v : V} {u : Value}, Inv (cxOf CX P w K mg base N qual scope f cdv A outer s H E) [] σ' H' s' → RelV v u → Q v H' → CE outer P w H s Q u s' :=
    fun {σ' H' v u} J rv q => ⟨v, H', J.os, J.bare, J.base, J.hok, rv, q⟩
  cases fl with
  | ret u =>
    obtain ⟨v, σ', H', J, rv, q⟩ := hs
    exact fin J rv q
  | next =>
    obtain ⟨σ', H', J, q⟩ := hs
    exact fin (v := V.non) (u := Value.none) J rfl q
  | brk =>
    obtain ⟨_, _, _, q⟩ := hs
    exact False.elim q
  | cont =>
    obtain ⟨_, _, _, q⟩ := hs
    exact False.elim q
end L2

namespace L2
open PySem PySem.Spec PyProof.Rows
section
variable {X : Cx} {x : Str} {p pos : Pos} {e : Expr} {es : List Expr} {t : TA} {id T : String} {r : List V → Hp → VK → Prop}

def tCB (r : List V → Hp → VK → Prop) (t : TA) : TE := fun σ H Q => t σ H fun vs H1 => r vs H1 Q
/-- f(e, ..), f a built-in function -/
theorem pe_callB (hc : CallR X (.builtin id) r) (hg : Gl X x) (hm : X.mg x = none) (hv : bootBuiltins x = some (.builtin id)) (ha : PA X (e :: es) t) (hn : x ≠ "__name__" := by decide) (hdb : (x == ("__debug__" : Str)) = false := by decide)
    (he : starEach (e :: es) X.env = (false, eval e X.env) :: starEach es X.env := by rfl) (hpl : (backTo pos (starEach es X.env)).any (·.1) = false := by rfl) : PE X (.Call (.Name x p) (e :: es) [] pos) (tCB r t) := by
  intro pins s σ H Q I h
  refine wpAny_Call_Name_kw (ld_blt I hg hm hv ?_ hn hdb)
  exact PyProof.Rows.callWith_builtin1 (thn (ha pos pins s σ H _ I h) fun us s1 ⟨vs, H1, I1, r1, q1⟩ => hc pins s1 σ H1 vs us Q I1 r1 q1) he hpl
/-- T(e, ..), T a built-in type -/
theorem pe_callTy (hc : CallR X (.type T) r) (hg : Gl X x) (hm : X.mg x = none) (hv : bootBuiltins x = some (.type T)) (ha : PA X (e :: es) t) (hn : x ≠ "__name__" := by decide) (hdb : (x == ("__debug__" : Str)) = false := by decide)
    (he : starEach (e :: es) X.env = (false, eval e X.env) :: starEach es X.env := by rfl) (hpl : (backTo pos (starEach es X.env)).any (·.1) = false := by rfl) : PE X (.Call (.Name x p) (e :: es) [] pos) (tCB r t) := by
  intro pins s σ H Q I h
  refine wpAny_Call_Name_kw (ld_blt I hg hm hv ?_ hn hdb)
  exact PyProof.Rows.callWith_type1 (thn (ha pos pins s σ H _ I h) fun us s1 ⟨vs, H1, I1, r1, q1⟩ => hc pins s1 σ H1 vs us Q I1 r1 q1) he hpl
end
end L2

namespace HT
open PySem PyProof.Rows

section
open PySem.SeqAt
open PySem.AutoSeq1 (wpAny_loadPart')
open PySem.MeetsSeq PySem.MeetsSeq2 PySem.MeetsSeq3

end

section
variable {prog : Program} {w : World} {A : Around} {E : Value → Shared → Prop} {s : Shared}

/-- t + u, t not empty -/
theorem cat_tup {t b : Addr} {vs ws : List Value} {Q : Value → Shared → Prop} (ht : IsTup s.heap t vs.toArray) (hb : IsTup s.heap b ws.toArray) (hv : vs ≠ [])
    (h1 : ws = [] → Q (.ref t) s) (h2 : ws ≠ [] → Q (.ref s.heap.objs.size) { s with heap := s.heap.push { cls := .type "tuple", data := .seq (vs ++ ws).toArray } })
    (hsz : vs.length + ws.length ≤ sizeLine) : wpAny (model prog w) A (binaryOp .Add (.ref t) (.ref b)) Q E s := by
  obtain ⟨⟨cls, dd, data, sl⟩, ho, hc, n, hd⟩ := id ht
  obtain ⟨⟨cls2, dd2, data2, sl2⟩, ho2, hc2, n2, hd2⟩ := id hb
  simp only at hc hd hc2 hd2
  subst hc hd hc2 hd2
  have e : vs.toArray ++ ws.toArray = (vs ++ ws).toArray := by simp
  by_cases hw : ws = []
  · exact concat_meets ⟨_, ho, rfl⟩ ⟨_, ho2, rfl⟩ noFill_tuple_add seq_tuple_add PySem.F.slot_tuple_add PySem.F.entry_tuple_add (PySem.F.args_tuple_add_2 _ _)
      (tuple_addW1 t b vs.toArray ws.toArray n n2 dd dd2 sl sl2 (by simpa using hv) (by simp [hw])) ⟨ho, ho2, h1 hw⟩
  · refine concat_meets ⟨_, ho, rfl⟩ ⟨_, ho2, rfl⟩ noFill_tuple_add seq_tuple_add PySem.F.slot_tuple_add PySem.F.entry_tuple_add (PySem.F.args_tuple_add_2 _ _)
      (tuple_addW2 t b vs.toArray ws.toArray n n2 dd dd2 sl sl2 (by simpa using hv) (by simpa using hw) (by rw [List.size_toArray, List.size_toArray]; exact hsz)) ⟨ho, ho2, ?_⟩
    rw [e]
    exact h2 hw

/-! ### t[a:b], not the whole -/
/-- a slice's bound as a place among n (d where it is left out) -/
def sIx (n d : Nat) : Option Int → Nat
  | none => d
  | some v => if v < 0 then (v + (n : Int)).toNat else min v.toNat n
theorem sIx_le (n d : Nat) (hd : d ≤ n) (o : Option Int) : sIx n d o ≤ n := by
  cases o with
  | none => exact hd
  | some v =>
    show (if v < 0 then (v + (n : Int)).toNat else min v.toNat n) ≤ n
    by_cases hv : v < 0
    · rw [if_pos hv]; omega
    · rw [if_neg hv]; exact Nat.min_le_right _ _
theorem clip_eq (v : Int) (n d : Nat) : (if v < 0 then max (v + (n : Int)) 0 else min v (n : Int)) = ((sIx n d (some v) : Nat) : Int) := by
  show (if v < 0 then max (v + (n : Int)) 0 else min v (n : Int)) = (((if v < 0 then (v + (n : Int)).toNat else min v.toNat n) : Nat) : Int)
  by_cases hv : v < 0
  · simp only [if_pos hv]; omega
  · simp only [if_neg hv]; omega
theorem adjust_gen (lo hi : Option Int) (n : Nat) : Builtin.Slice.sliceAdjust lo hi 1 (n : Int) = (((sIx n 0 lo : Nat) : Int), ((sIx n n hi : Nat) : Int)) := by
  have h1 : ¬ ((1 : Int) < 0) := by omega
  unfold Builtin.Slice.sliceAdjust
  simp only [h1, if_false]
  refine Prod.ext ?_ ?_
  · cases lo with
    | none => rfl
    | some v => exact clip_eq v n 0
  · cases hi with
    | none => rfl
    | some v => exact clip_eq v n n
theorem places_gen (i j : Nat) : Builtin.Slice.slicePlaces (i : Int) (j : Int) 1 = j - i := by
  unfold Builtin.Slice.slicePlaces
  have h1 : (1 : Int) > 0 := by omega
  simp only [h1, if_true, Int.ediv_one]
  split <;> omega
theorem slicePart_ {v : Value} {o : Option Int} {Q : Option Int → Shared → Prop} (p : IsPart v o) (h : Q o s) : wpAny (model prog w) A (Builtin.Slice.slicePartIndex v) Q E s := by
  cases p with
  | none => exact slicePart_none h
  | int i t => exact slicePart_int h
theorem sliceApplied_gen {sl : Addr} {vl vu : Value} {lo hi : Option Int} {n : Nat} {Q : Int × Int × Nat → Shared → Prop} (hs : s.heap.IsSliceOf sl vl vu .none) (pl : IsPart vl lo) (pu : IsPart vu hi)
    (h : Q (((sIx n 0 lo : Nat) : Int), 1, sIx n n hi - sIx n 0 lo) s) : wpAny (model prog w) A (Builtin.Slice.sliceApplied (.ref sl) (pure (n : Int))) Q E s := by
  obtain ⟨os, hos, hcs, hds⟩ := id hs
  unfold Builtin.Slice.sliceApplied Builtin.Slice.sliceFields
  refine wpAny_bind (wpAny_bind (wpAny_field hos hds (x := vl) rfl (wpAny_bind (wpAny_field hos hds (x := vu) rfl (wpAny_bind (wpAny_field hos hds (x := .none) rfl (wpAny_pure ?_)))))))
  refine wpAny_bind (slicePart_none ?_)
  show wpAny _ _ (if ((1 : Int) == 0) = true then _ else _) _ _ s
  rw [if_neg (by decide)]
  refine wpAny_bind (slicePart_ pl (wpAny_bind (slicePart_ pu (wpAny_bind (wpAny_pure ?_)))))
  show wpAny _ _ (match Builtin.Slice.sliceAdjust lo hi 1 (n : Int) with | (lo, hi) => pure (lo, (1 : Int), Builtin.Slice.slicePlaces lo hi 1)) _ _ s
  rw [adjust_gen lo hi n]
  show wpAny _ _ (pure (((sIx n 0 lo : Nat) : Int), (1 : Int), Builtin.Slice.slicePlaces ((sIx n 0 lo : Nat) : Int) ((sIx n n hi : Nat) : Int) 1)) _ _ s
  rw [places_gen]
  exact wpAny_pure h
theorem pick_gen (xs : Array Value) (i k : Nat) : ((List.range k).filterMap fun (m : Nat) => xs[((i : Int) + (m : Int) * 1).toNat]?).toArray = ((xs.toList.drop i).take k).toArray := by
  have e : (fun (m : Nat) => xs[((i : Int) + (m : Int) * 1).toNat]?) = fun m => xs[i + m]? := by
    funext m
    have : ((i : Int) + (m : Int) * 1).toNat = i + m := by omega
    rw [this]
  rw [e]
  have := pick_run xs i k
  rw [List.filterMap_map] at this
  have e2 : ((fun x => xs[x]?) ∘ fun x => i + x) = fun m => xs[i + m]? := rfl
  rw [e2] at this
  rw [this]

theorem getItem_tuple_cut {t sl : Addr} {items : Array Value} {vl vu : Value} {lo hi : Option Int} {Q : Value → Shared → Prop} (ht : IsTup s.heap t items) (hs : s.heap.IsSliceOf sl vl vu .none) (pl : IsPart vl lo) (pu : IsPart vu hi)
    (hw : ¬ (sIx items.size 0 lo = 0 ∧ sIx items.size items.size hi = items.size))
    (h : Q (.ref s.heap.objs.size) { s with heap := s.heap.push { cls := .type "tuple", data := .seq ((items.toList.drop (sIx items.size 0 lo)).take (sIx items.size items.size hi - sIx items.size 0 lo)).toArray } })
    (hsz : items.size ≤ sizeLine) : wpAny (model prog w) A (getItem (.ref t) (.ref sl)) Q E s := by
  have htake : sizeOk (.seq ((items.toList.drop (sIx items.size 0 lo)).take (sIx items.size items.size hi - sIx items.size 0 lo)).toArray) := by
    show ((items.toList.drop (sIx items.size 0 lo)).take (sIx items.size items.size hi - sIx items.size 0 lo)).toArray.size ≤ sizeLine
    rw [List.size_toArray, List.length_take, List.length_drop, Array.length_toList]
    omega
  have hj : sIx items.size items.size hi ≤ items.size := sIx_le _ _ (Nat.le_refl _) hi
  obtain ⟨os, hos, hcs, hds⟩ := id hs
  have hTs : s.TypeIs (.ref sl) "slice" := ⟨os, hos, hcs⟩
  unfold getItem
  try with_reducible refine wpAny_holding ?_
  first | refine wpAny_bind (wpAny_pure ?_) | skip
  refine wpAny_bind (wpAny_sequenceKey ht.typeIs (by decide) ?_)
  refine wpAny_bind (wpAny_callSpecial?_slot (name := Str.ofString "__getitem__") ht.typeIs PyProof.Rows.slot_tuple_getitem
    (wpAny_call_entry PyProof.Rows.slot_tuple_getitem ht.typeIs entry_tuple_getitem ?_ (args_tuple_getitem _ _)))
  show wpAny _ _ (Builtin.Tuple.tupleItemsOf (.ref t) >>= _) _ _ s
  refine wpAny_bind (tupleItemsOf_ ht ?_)
  refine wpAny_bind (wpAny_typeOf hTs ?_)
  rw [if_pos (by decide)]
  refine wpAny_bind (sliceApplied_gen hs pl pu ?_)
  have hno : ¬ ((((sIx items.size 0 lo : Nat) : Int) == 0 && (1 : Int) == 1 && (sIx items.size items.size hi - sIx items.size 0 lo) == items.size) = true) := by
    intro q
    rw [Bool.and_eq_true, Bool.and_eq_true] at q
    have q1 : ((sIx items.size 0 lo : Nat) : Int) = 0 := eq_of_beq q.1.1
    have q2 : sIx items.size items.size hi - sIx items.size 0 lo = items.size := eq_of_beq q.2
    exact hw ⟨by omega, by omega⟩
  show wpAny _ _ (if (((sIx items.size 0 lo : Nat) : Int) == 0 && (1 : Int) == 1 && (sIx items.size items.size hi - sIx items.size 0 lo) == items.size) = true then _ else _) _ _ s
  rw [if_neg hno, pick_gen]
  first
    | exact wpAny_bind (m := Builtin.Tuple.tupleExact _) (wpAny_newObj_type (wpAny_pure ⟨_, rfl, wpAny_pure h⟩) htake)
    | exact wpAny_bind (m := Builtin.Tuple.tupleExact _) (wpAny_newObj_type (wpAny_bind (wpAny_pure (wpAny_pure ⟨_, rfl, wpAny_pure h⟩))) htake)
    | exact wpAny_bind (wpAny_bind (m := Builtin.Tuple.tupleExact _) (wpAny_newObj_type (wpAny_pure (wpAny_pure ⟨_, rfl, wpAny_pure h⟩)) htake))
    | exact wpAny_bind (wpAny_bind (m := Builtin.Tuple.tupleExact _) (wpAny_newObj_type (wpAny_pure ⟨_, rfl, wpAny_pure h⟩) htake))
end
end HT

namespace L2
open PySem PySem.Spec PyProof.Rows

/-! ### the parts of a slice -/
abbrev TO := St → Hp → (Option Int → Hp → Prop) → Prop
/-- a slice's part (left out, or an int) -/
def PO (X : Cx) (e : Option Expr) (t : TO) : Prop :=
  ∀ (pins : List (Addr × Obj)) (s : Shared) (σ : St) (H : Hp) (Q : Option Int → Hp → Prop), Inv X pins σ H s → t σ H Q →
    wpAny (model X.prog X.w) X.A (evalPart e X.env) (fun u s' => ∃ o H', Inv X pins σ H' s' ∧ IsPart u o ∧ Q o H') X.xe s
def tNoPart : TO := fun _ H Q => Q none H
def tPart (t : TE) : TO := fun σ H Q => t σ H fun x H1 => ∃ i, x = .int i ∧ Q (some i) H1

section
variable {X : Cx} {e : Expr} {te : TE} {lo hi : Option Expr} {tl th : TO} {pos p2 : Pos}

theorem po_none : PO X none tNoPart := by
  intro pins s σ H Q I h
  rw [evalPart_none]
  exact wpAny_pure ⟨none, H, I, .none, h⟩
theorem po_some (h : PE X e te) : PO X (some e) (tPart te) := by
  intro pins s σ H Q I hw
  rw [evalPart_some]
  refine thn (h pins s σ H _ I hw) fun u s1 ⟨x, H1, I1, r1, q1⟩ => ?_
  obtain ⟨i, rfl, q⟩ := q1
  obtain ⟨t, rfl⟩ := r1
  exact ⟨some i, H1, I1, .int i t, q⟩

/-- what a slice of a value is, by values: the slice object stands at sl -/
def SlR (X : Cx) (r : V → Option Int → Option Int → Hp → VK → Prop) : Prop :=
  ∀ (pins : List (Addr × Obj)) (s : Shared) (σ : St) (H : Hp) (x : V) (v vl vu : Value) (lo hi : Option Int) (sl : Addr) (Q : VK), Inv X pins σ H s → RelV x v → s.heap.IsSliceOf sl vl vu .none → IsPart vl lo → IsPart vu hi → r x lo hi H Q →
    ∃ T id, typeLookup (.type T) "__getitem__" = pure (some (.builtin id)) ∧ s.TypeIs v T ∧ wpAny (model X.prog X.w) X.A (getItem v (.ref sl)) (EP X pins σ Q) X.xe s
theorem SlR.or {r r' : V → Option Int → Option Int → Hp → VK → Prop} (h : SlR X r) (h' : SlR X r') : SlR X (fun x lo hi H Q => r x lo hi H Q ∨ r' x lo hi H Q) := by
  intro pins s σ H x v vl vu lo hi sl Q I rx hs pl pu q
  rcases q with q | q
  · exact h pins s σ H x v vl vu lo hi sl Q I rx hs pl pu q
  · exact h' pins s σ H x v vl vu lo hi sl Q I rx hs pl pu q
def tSl (r : V → Option Int → Option Int → Hp → VK → Prop) (te : TE) (tl th : TO) : TE := fun σ H Q => te σ H fun x H1 => tl σ H1 fun l H2 => th σ H2 fun u H3 => r x l u H3 Q
/-- a[lo:hi], any a -/
theorem pe_slice {r : V → Option Int → Option Int → Hp → VK → Prop} (hr : SlR X r) (he : PE X e te) (hl : PO X lo tl) (hu : PO X hi th) : PE X (.Subscript e (.Slice lo hi none p2) pos) (tSl r te tl th) := by
  intro pins s σ H Q I h
  refine Subscript_ (thn (he pins s σ H _ I h) fun v s1 ⟨x, H1, I1, r1, q1⟩ => ?_)
  refine wpAny_Slice (thn (hl pins s1 σ H1 _ I1 q1) fun vl s2 ⟨l, H2, I2, pl, q2⟩ => thn (hu pins s2 σ H2 _ I2 q2) fun vu s3 ⟨u, H3, I3, pu, q3⟩ => ?_)
  rw [evalPart_none]
  refine wpAny_pure ?_
  have I4 : Inv X pins σ H3 { s3 with heap := s3.heap.push { cls := .type "slice", data := .fields #[vl, vu, .none] } } := I3.kept (t' := s3.toks) fun b ob q => Heap.get?_push_of_some _ q
  obtain ⟨T, id, hT, ht, hg⟩ := hr pins { s3 with heap := s3.heap.push { cls := .type "slice", data := .fields #[vl, vu, .none] } } σ H3 x v vl vu l u s3.heap.objs.size Q I4 r1 (Heap.IsSliceOf.new ..) pl pu q3
  show wpAny (model X.prog X.w) X.A (subscriptTail e (.Slice lo hi none p2) v (.ref s3.heap.objs.size)) (EP X pins σ Q) X.xe { s3 with heap := s3.heap.push { cls := .type "slice", data := .fields #[vl, vu, .none] } }
  exact tail_any (ops := [.ref s3.heap.objs.size, v]) ht hT hg (by with_unfolding_all rfl)

/-- the items of xs[lo:hi] -/
def cutV (xs : List V) (lo hi : Option Int) : List V := (xs.drop (HT.sIx xs.length 0 lo)).take (HT.sIx xs.length xs.length hi - HT.sIx xs.length 0 lo)
theorem cutV_length (xs : List V) (lo hi : Option Int) : (cutV xs lo hi).length ≤ xs.length := by
  unfold cutV
  rw [List.length_take, List.length_drop]
  omega
/-- t[lo:hi], not the whole of it (the whole would be t itself) -/
def rSlT (K : PySem.W.Frag) : V → Option Int → Option Int → Hp → VK → Prop := fun x lo hi H Q => ∃ a xs, x = .ref a ∧ SqT K H a xs ∧
  ¬ (HT.sIx xs.length 0 lo = 0 ∧ HT.sIx xs.length xs.length hi = xs.length) ∧ ∀ p, H p = none → Q (.ref p) (upd H p (.tup (cutV xs lo hi)))
theorem sl_tup : SlR X (rSlT X.K) := by
  intro pins s σ H x v vl vu lo hi sl Q I rx hs pl pu h
  obtain ⟨a, xs, rfl, hx, hw, q⟩ := h
  cases rx
  obtain ⟨its, r, ht, hz⟩ := I.tuple hx
  have hlen : its.toArray.size = xs.length := by rw [List.size_toArray]; exact r.length.symm
  refine ⟨"tuple", _, PyProof.Rows.slot_tuple_getitem.lookup, ht.typeIs, ?_⟩
  refine HT.getItem_tuple_cut ht hs pl pu (by rw [hlen]; exact hw) ?_ (by rw [hlen]; exact hz)
  rw [hlen]
  refine ⟨.ref s.heap.objs.size, _, I.laid (t' := s.toks) (o := .tup (cutV xs lo hi)) (fun b ob q => Heap.get?_push_of_some _ q) (Nat.le_refl _) ?_, rfl, q _ (I.hok.fresh (Nat.le_refl _))⟩
  exact ⟨Nat.le_trans (cutV_length xs lo hi) hz, _, (r.drop (HT.sIx xs.length 0 lo)).take (HT.sIx xs.length xs.length hi - HT.sIx xs.length 0 lo), IsTup.new _ _⟩

/-! ### t < u, t + u -/
/-- t + u, t not empty: u empty gives t itself -/
def rCatT (K : PySem.W.Frag) : R2 := fun x y H Q => ∃ a b xs ys, x = .ref a ∧ y = .ref b ∧ SqT K H a xs ∧ SqT K H b ys ∧ xs ≠ [] ∧ xs.length + ys.length ≤ sizeLine ∧
  (ys = [] → Q (.ref a) H) ∧ (ys ≠ [] → ∀ p, H p = none → Q (.ref p) (upd H p (.tup (xs ++ ys))))
theorem Vals.nil_iff {xs : List V} {us : List Value} (r : Vals xs us) : us = [] ↔ xs = [] := by
  cases r with
  | nil => simp
  | cons _ _ => simp
theorem op_catT : OpR X (binaryOp .Add) (rCatT X.K) := by
  intro pins s σ H x y v u Q I rx ry h
  obtain ⟨a, b, xs, ys, rfl, rfl, ha, hb, hx, hz, q1, q2⟩ := h
  cases rx
  cases ry
  obtain ⟨its, r1, p1, _⟩ := I.tuple ha
  obtain ⟨its2, r2, p2, _⟩ := I.tuple hb
  refine HT.cat_tup p1 p2 (fun z => hx (r1.nil_iff.mp z)) (fun z => ⟨.ref a, H, I, rfl, q1 (r2.nil_iff.mp z)⟩) (fun z => ?_) (by rw [← r1.length, ← r2.length]; exact hz)
  refine ⟨.ref s.heap.objs.size, _, I.laid (t' := s.toks) (o := .tup (xs ++ ys)) (fun b ob q => Heap.get?_push_of_some _ q) (Nat.le_refl _) ?_, rfl, q2 (fun w => z (r2.nil_iff.mpr w)) _ (I.hok.fresh (Nat.le_refl _))⟩
  exact ⟨by rw [List.length_append]; exact hz, _, r1.append r2, IsTup.new _ _⟩
end
end L2

namespace L2
open PySem PySem.Spec PyProof.Rows

/-! ### places -/
/-- the place that an index of any sign means -/
def ixN (n : Nat) (i : Int) : Option Nat := if 0 ≤ i then (if i < n then some i.toNat else none) else if -(n : Int) ≤ i then some (i + n).toNat else none
def atI {α : Type} (xs : List α) (i : Int) : Option α := (ixN xs.length i).bind fun j => xs[j]?
theorem ixN_seq {n : Nat} {i : Int} {j : Nat} (h : ixN n i = some j) : seqIndex? i n = some j ∧ j < n ∧ -(n : Int) ≤ i ∧ i < n := by
  unfold ixN at h
  by_cases h0 : 0 ≤ i
  · rw [if_pos h0] at h
    by_cases h1 : i < n
    · rw [if_pos h1] at h
      have e : i.toNat = j := Option.some.inj h
      exact ⟨by rw [seqIndex_of h0 h1, e], by omega, by omega, h1⟩
    · rw [if_neg h1] at h; cases h
  · rw [if_neg h0] at h
    by_cases h1 : -(n : Int) ≤ i
    · rw [if_pos h1] at h
      have e : (i + n).toNat = j := Option.some.inj h
      exact ⟨by rw [seqIndex_neg (by omega) h1, e], by omega, h1, by omega⟩
    · rw [if_neg h1] at h; cases h
theorem atI_get {α : Type} {xs : List α} {i : Int} {v : α} (h : atI xs i = some v) : ∃ j, seqIndex? i xs.length = some j ∧ xs[j]? = some v ∧ j < xs.length ∧ -(xs.length : Int) ≤ i ∧ i < xs.length := by
  unfold atI at h
  cases e : ixN xs.length i with
  | none => rw [e] at h; cases h
  | some j =>
    rw [e] at h
    obtain ⟨h1, h2, h3, h4⟩ := ixN_seq e
    exact ⟨j, h1, h, h2, h3, h4⟩
/-! ### what may be subscripted -/
/-- what stands as an index of a plain subscript -/
def PlainIx (b : Expr) : Prop := ∀ o i, subscripted b false o i = operate [o, i] (getItem o i)
/-- a subscript by values -/
def IxR (X : Cx) (r : R2) : Prop :=
  ∀ (value slice : Expr) (pins : List (Addr × Obj)) (s : Shared) (σ : St) (H : Hp) (x y : V) (v u : Value) (Q : VK), Inv X pins σ H s → RelV x v → RelV y u → r x y H Q →
    subscripted slice false v u = operate [v, u] (getItem v u) → wpAny (model X.prog X.w) X.A (subscriptTail value slice v u) (EP X pins σ Q) X.xe s
/-- a call of a builtin's method by values: the receiver, the arguments -/
def MtR (X : Cx) (id : String) (r : V → List V → Hp → VK → Prop) : Prop :=
  ∀ (pins : List (Addr × Obj)) (s : Shared) (σ : St) (H : Hp) (x : V) (xs : List V) (v : Value) (us : List Value) (Q : VK), Inv X pins σ H s → RelV x v → Vals xs us → r x xs H Q →
    wpAny (model X.prog X.w) X.A (call (.builtin id) (v :: us)) (EP X pins σ Q) X.xe s
section
variable {X : Cx} {a b : Expr} {ta tb : TE} {pos : Pos}
theorem IxR.or {r r' : R2} (h : IxR X r) (h' : IxR X r') : IxR X (fun x y H Q => r x y H Q ∨ r' x y H Q) := by
  intro value slice pins s σ H x y v u Q I rx ry q hs
  rcases q with q | q
  · exact h value slice pins s σ H x y v u Q I rx ry q hs
  · exact h' value slice pins s σ H x y v u Q I rx ry q hs
theorem MtR.or {id : String} {r r' : V → List V → Hp → VK → Prop} (h : MtR X id r) (h' : MtR X id r') : MtR X id (fun x xs H Q => r x xs H Q ∨ r' x xs H Q) := by
  intro pins s σ H x xs v us Q I rx rs q
  rcases q with q | q
  · exact h pins s σ H x xs v us Q I rx rs q
  · exact h' pins s σ H x xs v us Q I rx rs q
/-- a[b] -/
theorem pe_ix {r : R2} (hr : IxR X r) (ha : PE X a ta) (hb : PE X b tb) (hs : PlainIx b) : PE X (.Subscript a b pos) (tOp r ta tb) := by
  intro pins s σ H Q I h
  exact Subscript_ (binT ha hb I h fun v u s2 x y H2 I2 rx ry q => hr a b pins s2 σ H2 x y v u Q I2 rx ry q (hs _ _))

def rIxL (K : PySem.W.Frag) : R2 := fun x y H Q => ∃ p xs i v, x = .ref p ∧ y = .int i ∧ SqL K H p xs ∧ atI xs i = some v ∧ Q v H
def rIxT (K : PySem.W.Frag) : R2 := fun x y H Q => ∃ p xs i v, x = .ref p ∧ y = .int i ∧ SqT K H p xs ∧ atI xs i = some v ∧ Q v H
def rIxS : R2 := fun x y H Q => ∃ z i c, x = .str z ∧ y = .int i ∧ z.length ≤ sizeLine ∧ atI z.cps.toList i = some c ∧ Q (.str ⟨#[c]⟩) H
theorem ix_list : IxR X (rIxL X.K) := by
  intro value slice pins s σ H x y v u Q I rx ry h hs
  obtain ⟨p, xs, i, z, rfl, rfl, hq, he, q⟩ := h
  cases rx
  obtain ⟨t, rfl⟩ := ry
  obtain ⟨its, r, pl, hz⟩ := I.list hq
  obtain ⟨j, h1, h2, h3, h4, h5⟩ := atI_get he
  obtain ⟨w, ew, rw'⟩ := r.get h2
  have hl := r.length
  have hn := line63
  have fin : EP X pins σ Q w s := ⟨z, H, I, rw', q⟩
  by_cases h0 : 0 ≤ i
  · have hj : i.toNat = j := by
      rw [seqIndex_of h0 h5] at h1
      exact Option.some.inj h1
    exact item_listR pl.isList h0 (by omega) (by rw [hj]; simpa using ew) fin hs
  · have hj : (i + (its.toArray.size : Int)).toNat = j := by
      rw [seqIndex_neg (by omega) h4] at h1
      rw [List.size_toArray, ← hl]
      exact Option.some.inj h1
    exact subscriptTail_builtinR (x := w) pl.isList.typeIs slot_list_getitem.lookup
      (wpAny_getItem_list_neg (Q := fun r s' => r = w ∧ EP X pins σ Q r s') pl.isList (by omega) (by rw [List.size_toArray] <;> omega) (by omega) (by rw [hj]; simpa using ew) ⟨rfl, fin⟩) hs
theorem ix_tup : IxR X (rIxT X.K) := by
  intro value slice pins s σ H x y v u Q I rx ry h hs
  obtain ⟨p, xs, i, z, rfl, rfl, hq, he, q⟩ := h
  cases rx
  obtain ⟨t, rfl⟩ := ry
  obtain ⟨its, r, pl, hz⟩ := I.tuple hq
  obtain ⟨j, h1, h2, h3, h4, h5⟩ := atI_get he
  obtain ⟨w, ew, rw'⟩ := r.get h2
  have hl := r.length
  have hn := line63
  have fin : EP X pins σ Q w s := ⟨z, H, I, rw', q⟩
  exact subscriptTail_builtinR (x := w) pl.typeIs slot_tuple_getitem.lookup
    (getItem_tuple (j := j) (Q := fun r s' => r = w ∧ EP X pins σ Q r s') pl (by omega) (by omega) (by rw [List.size_toArray, ← hl]; exact h1) (by simpa using ew) ⟨rfl, fin⟩) hs
theorem ix_str : IxR X rIxS := by
  intro value slice pins s σ H x y v u Q I rx ry h hs
  obtain ⟨z, i, c, rfl, rfl, hz, he, q⟩ := h
  obtain ⟨t, rfl⟩ := rx
  obtain ⟨t', rfl⟩ := ry
  obtain ⟨j, h1, h2, h3, h4, h5⟩ := atI_get he
  have hl : z.cps.toList.length = z.length := by simp [Str.length]
  rw [hl] at h1 h4 h5
  have hn := line63
  exact tail_any (typeIs_str s z t) slot_str_getitem.lookup (getItem_str (c := c) (by
    have e1 : decide (i < -(2 ^ 63 : Int)) = false := decide_eq_false (by omega)
    have e2 : decide (i ≥ 2 ^ 63) = false := decide_eq_false (by omega)
    rw [e1, e2, Bool.or_false]) (by rw [h1]; simpa using h2) ⟨.str ⟨#[c]⟩, H, I.tok _, ⟨_, rfl⟩, q⟩) hs
/-- list, tuple or str -/
def rIx (K : PySem.W.Frag) : R2 := fun x y H Q => rIxL K x y H Q ∨ rIxT K x y H Q ∨ rIxS x y H Q
theorem ix_seq : IxR X (rIx X.K) := ix_list.or (ix_tup.or ix_str)

/-! ### xs[i] = v, any sign -/
/-- the list's object behind a store -/
theorem mapSeq_set (its : List Value) (n j : Nat) (u : Value) : Obj.mapSeq (·.setIfInBounds j u) { cls := .type "list", data := .seq its.toArray n } = { cls := .type "list", data := .seq (its.set j u).toArray n } := by
  simp [Obj.mapSeq]
theorem Inv.lst {pins : List (Addr × Obj)} {σ : St} {H : Hp} {s : Shared} {p : Addr} {xs : List V} (I : Inv X pins σ H s) (h : H p = some (.lst xs)) :
    ∃ (its : List Value) (n : Nat), Vals xs its ∧ s.heap.get? p = some { cls := .type "list", data := .seq its.toArray n } ∧ xs.length ≤ sizeLine := by
  obtain ⟨z, its, n, r, e⟩ := I.hok p _ h
  exact ⟨its, n, r, e, z⟩
/-- the list at p is written by an update of its object -/
theorem Inv.lstUpd {pins : List (Addr × Obj)} {σ : St} {H : Hp} {s : Shared} {p : Addr} {xs ys : List V} {its its' : List Value} {n n' : Nat} {f : Obj → Obj} (I : Inv X pins σ H s) (h : H p = some (.lst xs))
    (ho : s.heap.get? p = some { cls := .type "list", data := .seq its.toArray n }) (hf : f { cls := .type "list", data := .seq its.toArray n } = { cls := .type "list", data := .seq its'.toArray n' }) (r : Vals ys its') (hz : ys.length ≤ sizeLine) (t : Nat) :
    Inv X pins σ (upd H p (.lst ys)) { s with heap := s.heap.update p f, toks := t } := by
  have e : (s.heap.update p f).get? p = some { cls := .type "list", data := .seq its'.toArray n' } := by
    rw [Heap.get?_update_self f ho (by rw [hf] <;> rfl), hf]
  refine I.write (x := p) (e := p) (by rw [h]; trivial) (.inl rfl) (fun b u hb q => (Heap.get?_update_other _ _ (Ne.symm hb)).trans q) ⟨_, e⟩ ?_
  exact ⟨hz, its', n', r, e⟩
def rSetL : V → V → V → Hp → (Hp → Prop) → Prop := fun o i v H Q => ∃ p xs k j, o = .ref p ∧ i = .int k ∧ H p = some (.lst xs) ∧ ixN xs.length k = some j ∧ Q (upd H p (.lst (xs.set j v)))
theorem set_list : PSet X rSetL := by
  intro pins s σ H o i v ov iv u Q I ro ri rv h
  obtain ⟨p, xs, k, j, rfl, rfl, hp, hj, q⟩ := h
  cases ro
  obtain ⟨t, rfl⟩ := ri
  obtain ⟨its, n, r, ho, hz⟩ := I.lst hp
  obtain ⟨h1, h2, h3, h4⟩ := ixN_seq hj
  have hl := r.length
  have hn := line63
  have I' : Inv X pins σ (upd H p (.lst (xs.set j v))) { s with heap := s.heap.update p (Obj.mapSeq (·.setIfInBounds j u)) } :=
    I.lstUpd hp ho (mapSeq_set its n j u) (r.set rv j) (by rw [List.length_set]; exact hz) s.toks
  by_cases h0 : 0 ≤ k
  · have hk : k.toNat = j := by
      rw [seqIndex_of h0 h4] at h1
      exact Option.some.inj h1
    exact PySem.W.ki_setAt ho h0 (by omega) (by rw [List.size_toArray, ← hl]; exact h4) (by rw [hk]; exact ⟨_, I', q⟩)
  · have hk : (k + (its.toArray.size : Int)).toNat = j := by
      rw [seqIndex_neg (by omega) h3] at h1
      rw [List.size_toArray, ← hl]
      exact Option.some.inj h1
    exact PySem.W.ki_setBack ho (by omega) (by rw [List.size_toArray, ← hl]; exact h3) (by omega) (by rw [hk]; exact ⟨_, I', q⟩)

/-! ### slices -/
theorem slice_bounds (lo hi : Option Int) (n : Nat) : (sliceBounds lo hi none n).1 = ((HT.sIx n 0 lo : Nat) : Int) ∧ (sliceBounds lo hi none n).2.1 = ((HT.sIx n n hi : Nat) : Int) ∧ (sliceBounds lo hi none n).2.2 = 1 := by
  refine ⟨?_, ?_, rfl⟩
  · cases lo with
    | none => simp [sliceBounds, HT.sIx]
    | some i =>
      simp only [sliceBounds, HT.sIx, Option.getD_none, show (1 : Int) > 0 by decide, if_true]
      by_cases h : i < 0
      · simp only [h, if_true] <;> omega
      · simp only [h, if_false] <;> omega
  · cases hi with
    | none => simp [sliceBounds, HT.sIx]
    | some i =>
      simp only [sliceBounds, HT.sIx, Option.getD_none, show (1 : Int) > 0 by decide, if_true]
      by_cases h : i < 0
      · simp only [h, if_true] <;> omega
      · simp only [h, if_false] <;> omega
theorem slicePick_cut (its : List Value) (lo hi : Option Int) : slicePick its.toArray lo hi none = ((its.drop (HT.sIx its.length 0 lo)).take (HT.sIx its.length its.length hi - HT.sIx its.length 0 lo)).toArray := by
  obtain ⟨h1, h2, h3⟩ := slice_bounds lo hi its.toArray.size
  unfold slicePick
  rw [h1, h2, h3]
  simp only [sliceRange_one, pick_run, List.size_toArray] <;> rfl
/-- xs[lo:hi] of a list: a new list -/
def rSlL (K : PySem.W.Frag) : V → Option Int → Option Int → Hp → VK → Prop := fun x lo hi H Q => ∃ a xs, x = .ref a ∧ SqL K H a xs ∧ ∀ p, H p = none → Q (.ref p) (upd H p (.lst (cutV xs lo hi)))
theorem sl_list : SlR X (rSlL X.K) := by
  intro pins s σ H x v vl vu lo hi sl Q I rx hs pl pu h
  obtain ⟨a, xs, rfl, hx, q⟩ := h
  cases rx
  obtain ⟨its, r, ht, hz⟩ := I.list hx
  have hlen := r.length
  refine ⟨"list", _, slot_list_getitem.lookup, ht.isList.typeIs, ?_⟩
  refine wpAny_getItem_list_slice ht.isList hs pl pu .none (by simp) ?_ (by rw [List.size_toArray] <;> omega)
  rw [slicePick_cut, ← hlen]
  refine ⟨.ref s.heap.objs.size, _, I.laid (t' := s.toks) (o := .lst (cutV xs lo hi)) (fun b ob q => Heap.get?_push_of_some _ q) (Nat.le_refl _) ?_, rfl, q _ (I.hok.fresh (Nat.le_refl _))⟩
  exact ⟨Nat.le_trans (cutV_length xs lo hi) hz, _, 0, (r.drop (HT.sIx xs.length 0 lo)).take (HT.sIx xs.length xs.length hi - HT.sIx xs.length 0 lo), Heap.get?_push_size _ rfl⟩

/-! ### in, not in: flat items -/
def flatV : V → Bool
  | .non => true
  | .bl _ => true
  | .int _ => true
  | .str _ => true
  | _ => false
/-- == of flat values -/
def eqV : V → V → Bool
  | .non, .non => true
  | .bl a, .bl b => a == b
  | .bl a, .int b => (if a then 1 else 0) == b
  | .int a, .bl b => a == (if b then 1 else 0)
  | .int a, .int b => a == b
  | .str a, .str b => a == b
  | _, _ => false
theorem eqAt_V {A : Around} {s : Shared} {y x : V} {u v : Value} (ry : RelV y u) (rx : RelV x v) (fy : flatV y = true) (fx : flatV x = true) : SeqAt.EqAt A s u v (eqV y x) := by
  cases y with
  | non =>
    cases ry
    cases x with
    | non => cases rx; exact SeqAt.EqAt.same _
    | bl b => cases rx; exact SeqAt.EqAt.none_bool b
    | int b => obtain ⟨t, rfl⟩ := rx; exact SeqAt.EqAt.none_int b t
    | str b => obtain ⟨t, rfl⟩ := rx; exact SeqAt.EqAt.none_str b t
    | _ => exact absurd (show false = true from fx) Bool.false_ne_true
  | bl a =>
    cases ry
    cases x with
    | non => cases rx; exact SeqAt.EqAt.bool_none a
    | bl b => cases rx; exact SeqAt.EqAt.bool_bool a b
    | int b => obtain ⟨t, rfl⟩ := rx; exact SeqAt.EqAt.bool_int a b t
    | str b => obtain ⟨t, rfl⟩ := rx; exact SeqAt.EqAt.bool_str a b t
    | _ => exact absurd (show false = true from fx) Bool.false_ne_true
  | int a =>
    obtain ⟨t', rfl⟩ := ry
    cases x with
    | non => cases rx; exact SeqAt.EqAt.int_none a t'
    | bl b => cases rx; exact SeqAt.EqAt.int_bool a t' b
    | int b => obtain ⟨t, rfl⟩ := rx; exact SeqAt.EqAt.int_int a t' b t
    | str b => obtain ⟨t, rfl⟩ := rx; exact SeqAt.EqAt.int_str a t' b t
    | _ => exact absurd (show false = true from fx) Bool.false_ne_true
  | str a =>
    obtain ⟨t', rfl⟩ := ry
    cases x with
    | non => cases rx; exact SeqAt.EqAt.str_none a t'
    | bl b => cases rx; exact SeqAt.EqAt.str_bool a t' b
    | int b => obtain ⟨t, rfl⟩ := rx; exact SeqAt.EqAt.str_int a t' b t
    | str b => obtain ⟨t, rfl⟩ := rx; exact SeqAt.EqAt.str_str a t' b t
    | _ => exact absurd (show false = true from fx) Bool.false_ne_true
  | _ => exact absurd (show false = true from fy) Bool.false_ne_true
/-- the items' answers, read off the values (a value's own answer does not lean on its token) -/
def eqU (x : V) (u : Value) : Bool := match u with
  | .none => eqV .non x
  | .bool b => eqV (.bl b) x
  | .int i _ => eqV (.int i) x
  | .str z _ => eqV (.str z) x
  | _ => false
theorem eqU_of {x y : V} {u : Value} (r : RelV y u) (f : flatV y = true) : eqU x u = eqV y x := by
  cases y with
  | non => cases r; rfl
  | bl b => cases r; rfl
  | int i => obtain ⟨t, rfl⟩ := r; rfl
  | str z => obtain ⟨t, rfl⟩ := r; rfl
  | _ => exact absurd (show false = true from f) Bool.false_ne_true
theorem any_eqU {x : V} : ∀ {xs : List V} {us : List Value}, Vals xs us → xs.all flatV = true → us.any (eqU x) = xs.any fun y => eqV y x
  | _, _, .nil, _ => rfl
  | y :: xs, u :: us, .cons r t, f => by
    rw [List.all_cons, Bool.and_eq_true] at f
    rw [List.any_cons, List.any_cons, eqU_of r f.1, any_eqU t f.2]
theorem mem_eqAt {A : Around} {s : Shared} {x : V} {v : Value} (rx : RelV x v) (fx : flatV x = true) : ∀ {xs : List V} {us : List Value}, Vals xs us → xs.all flatV = true → ∀ u ∈ us, SeqAt.EqAt A s u v (eqU x u)
  | _, _, .nil, _ => fun u hu => by cases hu
  | y :: xs, u :: us, .cons r t, f => fun u' hu => by
    rw [List.all_cons, Bool.and_eq_true] at f
    rcases List.mem_cons.mp hu with rfl | hu
    · rw [eqU_of r f.1]; exact eqAt_V r rx f.1 fx
    · exact mem_eqAt rx fx t f.2 u' hu
def inV (x : V) (xs : List V) : Bool := xs.any fun y => eqV y x
/-- x in a list or tuple of flat items -/
def rIn (K : PySem.W.Frag) (neg : Bool) : R2 := fun x y H Q => ∃ p xs, y = .ref p ∧ (SqL K H p xs ∨ SqT K H p xs) ∧ flatV x = true ∧ xs.all flatV = true ∧ Q (.bl (if neg then !inV x xs else inV x xs)) H
theorem op_notIn_seq : OpR X (compareOp .NotIn) (rIn X.K true) := by
  intro pins s σ H x y v u Q I rx ry h
  obtain ⟨p, xs, rfl, hq, fx, fs, q⟩ := h
  cases ry
  rcases hq with hq | hq
  · obtain ⟨its, r, pl, hz⟩ := I.list hq
    refine SeqAt.notIn_listAt (eqU x) pl.isList (fun w hw => mem_eqAt rx fx r fs w (by simpa using hw)) ⟨.bl _, H, I, rfl, ?_⟩
    rw [show its.toArray.any (eqU x) = its.any (eqU x) by simp, any_eqU r fs]
    exact q
  · obtain ⟨its, r, pl, hz⟩ := I.tuple hq
    refine SeqAt.notIn_tupleAt (eqU x) pl (fun w hw => mem_eqAt rx fx r fs w (by simpa using hw)) ⟨.bl _, H, I, rfl, ?_⟩
    rw [show its.toArray.any (eqU x) = its.any (eqU x) by simp, any_eqU r fs]
    exact q
/-! ### len, list(x), tuple(x) of any list or tuple that is read -/
theorem call_len_seq : CallR X (.builtin "len") (fun xs H Q => ∃ p ys, xs = [.ref p] ∧ (SqL X.K H p ys ∨ SqT X.K H p ys) ∧ Q (.int ys.length) H) := by
  intro pins s σ H xs us Q I r h
  obtain ⟨p, ys, rfl, hq, q⟩ := h
  obtain ⟨u, rfl, rx⟩ := vals1 r
  cases rx
  have hn := line63
  rcases hq with hq | hq
  · obtain ⟨its, r', pl, hz⟩ := I.list hq
    have hlen := r'.length
    exact Calls.call_len_list pl.isList (by simp only [List.size_toArray] <;> omega) ⟨.int ys.length, H, I.tok _, ⟨s.toks + 1, by rw [List.size_toArray, hlen]⟩, q⟩
  · obtain ⟨its, r', pl, hz⟩ := I.tuple hq
    have hlen := r'.length
    exact len_tuple pl (by simp only [List.size_toArray] <;> omega) ⟨.int ys.length, H, I.tok _, ⟨s.toks + 1, by rw [List.size_toArray, hlen]⟩, q⟩
theorem call_len_str : CallR X (.builtin "len") (fun xs H Q => ∃ z, xs = [.str z] ∧ z.length ≤ sizeLine ∧ Q (.int z.length) H) := by
  intro pins s σ H xs us Q I r h
  obtain ⟨z, rfl, hz, q⟩ := h
  obtain ⟨u, rfl, t, rfl⟩ := vals1 r
  have hn := line63
  exact len_str (by omega) ⟨.int z.length, H, I.tok _, ⟨_, rfl⟩, q⟩
theorem CallR.or {f : Value} {r r' : List V → Hp → VK → Prop} (h : CallR X f r) (h' : CallR X f r') : CallR X f (fun xs H Q => r xs H Q ∨ r' xs H Q) := by
  intro pins s σ H xs us Q I rs q
  rcases q with q | q
  · exact h pins s σ H xs us Q I rs q
  · exact h' pins s σ H xs us Q I rs q
theorem call_list_of : CallR X (.type "list") (fun xs H Q => ∃ p ys, xs = [.ref p] ∧ (SqL X.K H p ys ∨ SqT X.K H p ys) ∧ ∀ l, H l = none → Q (.ref l) (upd H l (.lst ys))) := by
  intro pins s σ H xs us Q I r h
  obtain ⟨p, ys, rfl, hq, q⟩ := h
  obtain ⟨u, rfl, rx⟩ := vals1 r
  cases rx
  have fin : ∀ (its : List Value), Vals ys its → ys.length ≤ sizeLine → ∀ (h' : Heap) (c' : Nat), (∀ b o', s.heap.get? b = some o' → h'.get? b = some o') →
      h'.get? s.heap.objs.size = some { cls := .type "list", dict := none, data := .seq its.toArray c', slots := #[] } → EP X pins σ Q (.ref s.heap.objs.size) { s with heap := h' } := fun its r' hz h' c' kp e =>
    ⟨.ref s.heap.objs.size, _, I.laid (t' := s.toks) kp (Nat.le_refl _) (show ObjOk X.prog X.w _ h' _ (.lst ys) from ⟨hz, its, c', r', e⟩), rfl, q _ (I.hok.fresh (Nat.le_refl _))⟩
  rcases hq with hq | hq
  · obtain ⟨its, r', pl, hz⟩ := I.list hq
    have hlen := r'.length
    obtain ⟨o, ho, hc, n, hd⟩ := pl.isList
    exact call_list_seq p (.inl rfl) ho hc hd (fun h' c' kp e => fin its r' hz h' c' kp e) (by simp only [List.size_toArray] <;> omega)
  · obtain ⟨its, r', pl, hz⟩ := I.tuple hq
    have hlen := r'.length
    obtain ⟨o, ho, hc, n, hd⟩ := pl
    exact call_list_seq p (.inr rfl) ho hc hd (fun h' c' kp e => fin its r' hz h' c' kp e) (by simp only [List.size_toArray] <;> omega)
theorem call_tuple_of : CallR X (.type "tuple") (fun xs H Q => ∃ p ys, xs = [.ref p] ∧ ((SqL X.K H p ys ∧ ∀ l, H l = none → Q (.ref l) (upd H l (.tup ys))) ∨ (SqT X.K H p ys ∧ Q (.ref p) H))) := by
  intro pins s σ H xs us Q I r h
  obtain ⟨p, ys, rfl, h⟩ := h
  obtain ⟨u, rfl, rx⟩ := vals1 r
  cases rx
  rcases h with ⟨hq, q⟩ | ⟨hq, q⟩
  · obtain ⟨its, r', pl, hz⟩ := I.list hq
    have hlen := r'.length
    refine call_tuple_list pl.isList (fun h' kp => ?_) (by simp only [List.size_toArray] <;> omega)
    have I1 : Inv X pins σ H { s with heap := h' } := I.kept (t' := s.toks) kp
    have I2 : Inv X pins σ (upd H h'.objs.size (.tup ys)) { s with heap := h'.push { cls := .type "tuple", data := .seq its.toArray } } :=
      I1.laid (t' := s.toks) (fun b o e => Heap.get?_push_of_some _ e) (Nat.le_refl _) (show ObjOk X.prog X.w _ _ _ (.tup ys) from ⟨hz, its, r', IsTup.new _ _⟩)
    exact ⟨.ref h'.objs.size, _, I2, rfl, q _ (I1.hok.fresh (Nat.le_refl _))⟩
  · obtain ⟨its, r', pl, hz⟩ := I.tuple hq
    exact call_tuple_same pl ⟨.ref p, H, I, rfl, q⟩

/-! ### the call of a builtin's method: o.m(..) -/
/-- the value is of that builtin type -/
def tyV (K : PySem.W.Frag) (T : String) (x : V) (H : Hp) : Prop := match x with
  | .str _ => T = "str"
  | .int _ => T = "int"
  | .ref p => (T = "list" ∧ ∃ xs, SqL K H p xs) ∨ (T = "tuple" ∧ ∃ o, K.lookup p = some o ∧ o.cls = .type "tuple" ∧ o.dict = none) ∨
      (T = "dict" ∧ ((∃ kvs, H p = some (.dK kvs)) ∨ ∃ kvs, H p = some (.dT kvs))) ∨ (T = "set" ∧ ∃ S n, H p = some (.set S n))
  | _ => False
theorem tyV_is {pins : List (Addr × Obj)} {σ : St} {H : Hp} {s : Shared} {T : String} {x : V} {v : Value} (I : Inv X pins σ H s) (r : RelV x v) (ty : tyV X.K T x H) :
    s.TypeIs v T ∧ ∀ a, v = .ref a → ∃ ob, s.heap.get? a = some ob ∧ ob.dict = none := by
  cases x with
  | str z =>
    obtain ⟨t, rfl⟩ := r
    cases (show T = "str" from ty)
    exact ⟨typeIs_str s z t, fun _ e => nomatch e⟩
  | int i =>
    obtain ⟨t, rfl⟩ := r
    cases (show T = "int" from ty)
    exact ⟨typeIs_int s i t, fun _ e => nomatch e⟩
  | ref p =>
    cases r
    rcases ty with ⟨rfl, xs, hq⟩ | ⟨rfl, o, hk, hc, hd⟩ | ⟨rfl, hk⟩ | ⟨rfl, S, n, hk⟩
    · obtain ⟨its, _, pl, _⟩ := I.list hq
      refine ⟨pl.isList.typeIs, fun a e => ?_⟩
      cases e
      obtain ⟨o, n, e, c, hd, _⟩ := pl
      exact ⟨o, e, hd⟩
    · refine ⟨⟨o, I.kIn p o hk, hc⟩, fun a e => ?_⟩
      cases e
      exact ⟨o, I.kIn _ o hk, hd⟩
    · have z : ∃ o, s.heap.get? p = some o ∧ o.ExactDict := by
        rcases hk with ⟨kvs, hk⟩ | ⟨kvs, hk⟩
        · obtain ⟨_, _, _, _, o, _, _, e, ex, _⟩ := I.hok p _ hk
          exact ⟨o, e, ex⟩
        · obtain ⟨_, _, _, _, o, _, _, e, ex, _⟩ := I.hok p _ hk
          exact ⟨o, e, ex⟩
      obtain ⟨o, e, ex⟩ := z
      refine ⟨⟨o, e, ex.1⟩, fun a e2 => ?_⟩
      cases e2
      exact ⟨o, e, ex.2.1⟩
    · obtain ⟨o, _, _, _, e, ex, _⟩ := I.hok p _ hk
      refine ⟨⟨o, e, ex.1⟩, fun a e2 => ?_⟩
      cases e2
      exact ⟨o, e, ex.2.1⟩
  | _ => exact False.elim ty
def tBM0 (K : PySem.W.Frag) (T : String) (r : V → List V → Hp → VK → Prop) (to : TE) : TE := fun σ H Q => to σ H fun x H1 => tyV K T x H1 ∧ r x [] H1 Q
def tBM (K : PySem.W.Frag) (T : String) (r : V → List V → Hp → VK → Prop) (to : TE) (t : TA) : TE := fun σ H Q => to σ H fun x H1 => tyV K T x H1 ∧ t σ H1 fun xs H2 => r x xs H2 Q
variable {o e : Expr} {es : List Expr} {to : TE} {t : TA} {name : Str} {apos cpos : Pos} {T id : String} {r : V → List V → Hp → VK → Prop}
theorem pe_bm0 (pa : PlainAttrs T) (slot : Slot T name id) (hty : typeOf (.builtin id) = pure (.type "method_descriptor")) (hm : MtR X id r) (ho : PE X o to)
    (hbase : attributeBase o name X.env (eval o X.env) = eval o X.env := by rfl) (hline : (apos.endLine == cpos.line) = true := by rfl) : PE X (.Call (.Attribute o name apos) [] [] cpos) (tBM0 X.K T r to) := by
  intro pins s σ H Q I h
  refine wpAny_Call_method0_late hbase hline (thn (ho pins s σ H _ I h) fun v s1 ⟨x, H1, I1, r1, ty, q1⟩ => ?_)
  obtain ⟨h1, h2⟩ := tyV_is I1 r1 ty
  exact ⟨T, id, pa, slot, hty, h1, h2, Calls.callWith_builtin rfl (PySem.evalArgs_none (hm pins s1 σ H1 x [] v [] Q I1 r1 .nil q1))⟩
theorem pe_bm (pa : PlainAttrs T) (slot : Slot T name id) (hty : typeOf (.builtin id) = pure (.type "method_descriptor")) (hm : MtR X id r) (ho : PE X o to) (ha : PA X (e :: es) t)
    (hbase : attributeBase o name X.env (eval o X.env) = eval o X.env := by rfl)
    (hfew : ((backTo cpos (starEach (e :: es) X.env)).all (fun x => !x.1) && (backToKw cpos (keywordEach [] X.env)).all (fun x => x.1.isSome)
      && decide ((e :: es).length + ([] : List Keyword).length + (if ([] : List Keyword).isEmpty then 0 else 1) < 30)) = true := by rfl)
    (hline : (apos.endLine == cpos.line) = true := by rfl) (hs : starEach (e :: es) X.env = (false, eval e X.env) :: starEach es X.env := by rfl) (hplain : (backTo cpos (starEach es X.env)).any (·.1) = false := by rfl) :
    PE X (.Call (.Attribute o name apos) (e :: es) [] cpos) (tBM X.K T r to t) := by
  intro pins s σ H Q I h
  refine wpAny_Call_method_late hbase hfew hline rfl (thn (ho pins s σ H _ I h) fun v s1 ⟨x, H1, I1, r1, ty, q1⟩ => ?_)
  obtain ⟨h1, h2⟩ := tyV_is I1 r1 ty
  refine ⟨T, id, pa, slot, hty, h1, h2, ?_⟩
  have hA := ha cpos pins s1 σ H1 _ I1 q1
  rw [hs] at hA ⊢
  refine Calls.callWith_builtin (by show (false || (backTo cpos (starEach es X.env)).any (·.1)) = false; rw [hplain] <;> rfl) (Calls.evalArgs_plain ?_)
  exact thn hA fun us s2 ⟨vs, H2, I2, r2, q2⟩ => hm pins s2 σ H2 x vs v us Q I2 r1 r2 q2
/- xs.append(e), list.index on a module's tuple .. are MtR facts of 06m -/
end
end L2

namespace L2
open PySem PySem.Spec PyProof.Rows

def MtM (X : Cx) (id : String) (r : V → List V → Hp → VK → Prop) : Prop :=
  ∀ (pins : List (Addr × Obj)) (s : Shared) (σ : St) (H : Hp) (x : V) (xs : List V) (v : Value) (us : List Value) (Q : VK), Inv X pins σ H s → RelV x v → Vals xs us → r x xs H Q →
    wpAny (model X.prog X.w) X.A (call (.builtin id) (v :: us)) (EP X pins σ Q) X.xe s

/-! ### lists of values -/
theorem Vals.one : ∀ {x : V} {us : List Value}, Vals [x] us → ∃ u, us = [u] ∧ RelV x u
  | _, _, .cons r .nil => ⟨_, rfl, r⟩
theorem Vals.two : ∀ {x y : V} {us : List Value}, Vals [x, y] us → ∃ u v, us = [u, v] ∧ RelV x u ∧ RelV y v
  | _, _, _, .cons r (.cons q .nil) => ⟨_, _, rfl, r, q⟩
theorem Vals.zero : ∀ {us : List Value}, Vals [] us → us = []
  | _, .nil => rfl
theorem Vals.dropLast {xs : List V} {us : List Value} (h : Vals xs us) : Vals xs.dropLast us.dropLast := by
  induction h with
  | nil => exact .nil
  | cons r t ih =>
    cases t with
    | nil => exact .nil
    | cons q t' => exact .cons r ih
theorem Vals.eraseIdx : ∀ {xs : List V} {us : List Value} (i : Nat), Vals xs us → Vals (xs.eraseIdx i) (us.eraseIdx i)
  | _, _, _, .nil => .nil
  | _, _, 0, .cons _ t => t
  | _, _, i + 1, .cons r t => .cons r (Vals.eraseIdx i t)
theorem Vals.reverse {xs : List V} {us : List Value} (h : Vals xs us) : Vals xs.reverse us.reverse := by
  induction h with
  | nil => exact .nil
  | cons r t ih => rw [List.reverse_cons, List.reverse_cons]; exact Vals.append ih (.cons r .nil)
theorem Vals.rep {xs : List V} {us : List Value} (h : Vals xs us) : ∀ k : Nat, Vals (List.replicate k xs).flatten (List.replicate k us).flatten
  | 0 => .nil
  | k + 1 => by
    rw [List.replicate_succ, List.replicate_succ, List.flatten_cons, List.flatten_cons]
    exact Vals.append h (Vals.rep h k)
theorem erase_last {α : Type} (l : List α) : l.eraseIdx (l.length - 1) = l.dropLast := by
  induction l with
  | nil => rfl
  | cons a r ih =>
    cases r with
    | nil => rfl
    | cons b r =>
      have e : (a :: b :: r).length - 1 = ((b :: r).length - 1) + 1 := by
        have h1 : (a :: b :: r).length = r.length + 2 := rfl
        have h2 : (b :: r).length = r.length + 1 := rfl
        omega
      rw [e, List.eraseIdx_cons_succ, ih]
      all_goals rfl
theorem len_erase {α : Type} : ∀ (l : List α) (i : Nat), (l.eraseIdx i).length ≤ l.length
  | [], _ => Nat.le_refl _
  | _ :: _, 0 => Nat.le_succ _
  | _ :: r, i + 1 => Nat.succ_le_succ (len_erase r i)
theorem foldl_rep (its : List Value) : ∀ (k : Nat) (acc : List Value),
    List.foldl (fun x1 x2 => x1 ++ x2) acc.toArray (List.replicate k its.toArray) = (acc ++ (List.replicate k its).flatten).toArray
  | 0, acc => by simp
  | k + 1, acc => by
    have e : acc.toArray ++ its.toArray = (acc ++ its).toArray := by simp
    have e2 : (acc ++ its) ++ (List.replicate k its).flatten = acc ++ (List.replicate (k + 1) its).flatten := by
      rw [List.replicate_succ, List.flatten_cons, List.append_assoc]
    rw [← e2, ← foldl_rep its k (acc ++ its), ← e, List.replicate_succ, List.foldl_cons]

section
variable {X : Cx} {pins : List (Addr × Obj)} {σ : St} {H : Hp} {s : Shared} {l b : Addr} {xs ys zs : List V}

/-! ### the two steps: a tracked list is rewritten, a new list is laid -/
theorem Inv.lset {its its' : List Value} {n : Nat} {f : Array Value → Array Value} {t' : Nat} (I : Inv X pins σ H s) (hH : H l = some (.lst xs))
    (e : s.heap.get? l = some { cls := .type "list", data := .seq its.toArray n }) (hf : f its.toArray = its'.toArray) (hv : Vals ys its') (hz : ys.length ≤ sizeLine) :
    Inv X pins σ (upd H l (.lst ys)) { s with heap := s.heap.update l (Obj.mapSeq f), toks := t' } := by
  have q := PySem.IsL.update e f
  rw [hf] at q
  refine I.write (x := l) (e := l) (by rw [hH]; exact trivial) (.inl rfl) (fun b' u hb hu => (Heap.get?_update_other s.heap (Obj.mapSeq f) (Ne.symm hb)).trans hu) ⟨_, q⟩ ?_
  exact ⟨hz, its', _, hv, q⟩
theorem Inv.lnew {its : List Value} {t' : Nat} (I : Inv X pins σ H s) (hv : Vals ys its) (hz : ys.length ≤ sizeLine) :
    Inv X pins σ (upd H s.heap.objs.size (.lst ys)) { s with heap := s.heap.push { cls := .type "list", data := .seq its.toArray }, toks := t' } :=
  I.laid (fun _ _ q => Heap.get?_push_of_some _ q) (Nat.le_refl _) ⟨hz, its, 0, hv, Heap.get?_push_size _ rfl⟩
theorem Inv.fresh (I : Inv X pins σ H s) : H s.heap.objs.size = none := I.hok.fresh (Nat.le_refl _)
theorem Inv.lstM (I : Inv X pins σ H s) (hH : H l = some (.lst xs)) : xs.length ≤ sizeLine ∧ ∃ (its : List Value) (n : Nat), Vals xs its ∧ xs.length = its.length ∧ s.heap.get? l = some { cls := .type "list", data := .seq its.toArray n } := by
  obtain ⟨z, its, n, r, e⟩ := I.hok l _ hH
  exact ⟨z, its, n, r, r.length, e⟩

theorem notLongL {n : Nat} (h : n ≤ sizeLine) : Builtin.List.listTooLong n = false := by
  unfold Builtin.List.listTooLong
  exact decide_eq_false (by omega)
end

section
variable {X : Cx}

/-! ### methods -/
def rAppend : V → List V → Hp → VK → Prop := fun x vs H Q => ∃ l xs y, x = .ref l ∧ vs = [y] ∧ H l = some (.lst xs) ∧ xs.length < sizeLine ∧ Q .non (upd H l (.lst (xs ++ [y])))
theorem mt_append : MtM X "list.append" rAppend := by
  intro pins s σ H x vs v us Q I rx rv h
  obtain ⟨l, xs, y, rfl, rfl, hH, hz, q⟩ := h
  cases rx
  obtain ⟨u, rfl, ru⟩ := rv.one
  obtain ⟨z, its, n, r, hl, e⟩ := I.lstM hH
  refine call_meets F.slot_list_append ⟨_, e, rfl⟩ F.entry_list_append (F.args_list_append_2 _ _) (PySem.list_append l its.toArray n u (by rw [List.size_toArray]; omega)) ⟨e, ?_⟩
  refine ⟨.non, _, I.lset (its' := its ++ [u]) hH e (by simp) (r.append (.cons ru .nil)) ?_, rfl, q⟩
  rw [List.length_append, List.length_singleton]
  omega

def rPop : V → List V → Hp → VK → Prop := fun x vs H Q => ∃ l xs y, x = .ref l ∧ vs = [] ∧ H l = some (.lst xs) ∧ xs[xs.length - 1]? = some y ∧ Q y (upd H l (.lst xs.dropLast))
theorem mt_pop : MtM X "list.pop" rPop := by
  intro pins s σ H x vs v us Q I rx rv h
  obtain ⟨l, xs, y, rfl, rfl, hH, hy, q⟩ := h
  cases rx
  have hus := rv.zero
  subst hus
  obtain ⟨z, its, n, r, hl, e⟩ := I.lstM hH
  obtain ⟨u, hu, ru⟩ := r.get hy
  have hy' : its.toArray[its.toArray.size - 1]? = some u := by
    show its.toArray[its.length - 1]? = some u
    rw [← Array.getElem?_toList, ← hl]
    exact hu
  refine call_meets F.slot_list_pop ⟨_, e, rfl⟩ F.entry_list_pop (F.args_list_pop_1 _) (MeetsSeq.list_pop_last l its.toArray n u hy' (by rw [List.size_toArray]; omega)) ⟨e, ?_⟩
  refine ⟨y, _, I.lset (its' := its.dropLast) hH e ?_ r.dropLast ?_, ru, q⟩
  · show its.toArray.eraseIdxIfInBounds (its.toArray.size - 1) = its.dropLast.toArray
    rw [List.size_toArray, List.eraseIdxIfInBounds_toArray, erase_last]
  · rw [List.length_dropLast]
    omega

def rPopAt : V → List V → Hp → VK → Prop := fun x vs H Q => ∃ l xs i k y, x = .ref l ∧ vs = [.int i] ∧ H l = some (.lst xs) ∧ -(2 ^ 63) ≤ i ∧ i < 2 ^ 63 ∧ seqIndex? i xs.length = some k ∧ xs[k]? = some y ∧ Q y (upd H l (.lst (xs.eraseIdx k)))
theorem mt_popAt : MtM X "list.pop" rPopAt := by
  intro pins s σ H x vs v us Q I rx rv h
  obtain ⟨l, xs, i, k, y, rfl, rfl, hH, h1, h2, hk, hy, q⟩ := h
  cases rx
  obtain ⟨u, rfl, ru⟩ := rv.one
  obtain ⟨t, rfl⟩ := ru
  obtain ⟨z, its, n, r, hl, e⟩ := I.lstM hH
  obtain ⟨w, hw, rw'⟩ := r.get hy
  refine call_meets F.slot_list_pop ⟨_, e, rfl⟩ F.entry_list_pop (F.args_list_pop_2 _ _)
    (MeetsSeq.list_pop_at l its.toArray n i t k w (fitsIndex_both h1 h2) (by rw [List.size_toArray, ← hl]; exact hk) (by rw [← Array.getElem?_toList]; exact hw) (by rw [List.size_toArray]; omega)) ⟨e, ?_⟩
  refine ⟨y, _, I.lset (its' := its.eraseIdx k) hH e ?_ (r.eraseIdx k) ?_, rw', q⟩
  · show its.toArray.eraseIdxIfInBounds k = (its.eraseIdx k).toArray
    rw [List.eraseIdxIfInBounds_toArray]
  · have := len_erase xs k
    omega

/-! ### list + list, list += list, list * int -/
theorem len_rep {α : Type} (xs : List α) (k : Nat) : (List.replicate k xs).flatten.length = k * xs.length := by
  induction k with
  | zero => simp
  | succ k ih => rw [List.replicate_succ, List.flatten_cons, List.length_append, ih, Nat.succ_mul, Nat.add_comm]
/-! ### del xs[i] -/
end

/-! ### xs[a:b] = ys -/
section
variable {prog : Program} {w : World} {A : Around} {E : Value → Shared → Prop} {s : Shared}
end

section
variable {X : Cx}
end
end L2

namespace Att
open PySem PySem.W PySem.Calls PyProof.Rows

/-! ### the script -/
theorem ints_of_wellAll {P : Params} {h : Heap} : ∀ (ns : List Int) (vs : List Value), WellAll P h vs (ns.map WData.int) → IntsAre vs ns := by
  intro ns
  induction ns with
  | nil =>
    intro vs w
    rw [List.map_nil] at w
    cases w
    exact .nil
  | cons n ns ih =>
    intro vs w
    rw [List.map_cons] at w
    cases w with
    | cons a b =>
      cases a
      exact .cons _ _ (ih _ b)

theorem script_of {l : OpenLaw} {n : Nat} (hn : l.most = some n) {P : Params} {h : Heap} {args : List WData} {vals : List Value}
    (hpre : l.row.toRowW.claim.pre args = true) (hwl : WellAll P h vals args) :
    ∃ a vs ns, vals = [Value.ref a] ∧ args = [WData.list (ns.map WData.int)] ∧ h.get? a = some { cls := .type "list", data := .seq vs.toArray } ∧ IntsAre vs ns ∧ ns.length ≤ n := by
  have hsh : WShape.hasAll [] args [.list .int] = true := (pre_splitW hpre).1
  have hc : l.pre.holds [] { args := args } = true := (pre_splitW hpre).2
  obtain ⟨d, r, rfl, h1, h2⟩ := hasAllW_cons hsh
  obtain rfl := hasAllW_nil h2
  obtain ⟨xs, rfl, h3⟩ := hasW_list h1
  obtain ⟨ns, rfl⟩ := items_int h3
  have hlen : ns.length ≤ n := by
    unfold OpenLaw.pre at hc
    have h4 : (WTm.not (.lt (.lit (.int (n : Int))) (.len (.arg 0)))).holds [] { args := [.list (ns.map .int)] } = true := by
      have h4 := (holds_andW hc).1
      rw [hn] at h4
      exact h4
    have h5 := condW_of h4 (w_not (w_lt w_lit (w_len_list (w_arg rfl))))
    rw [List.length_map] at h5
    refine Nat.le_of_not_lt fun q => ?_
    have q' : (n : Int) < ((ns.length : Nat) : Int) := by omega
    first
      | (rw [decide_eq_true q'] at h5; exact absurd h5 (by decide))
      | (simp at h5; omega)
  cases hwl with
  | cons w1 w2 =>
    cases w2
    cases w1 with
    | list ho hall => exact ⟨_, _, ns, rfl, rfl, ho, ints_of_wellAll ns _ hall, hlen⟩

theorem post_true (l : OpenLaw) (args : List WData) : l.row.toRowW.claim.post args (.bool true) args = true :=
  postW_of (r := l.row.toRowW) (X := (true == true))
    (show WShape.has [] (.bool true) .bool = true by first | rfl | decide | simp [WShape.has, WShape.arms, WShape.armsAll])
    (show (WTm.eq .res (.lit (.bool true))).value [] { args := args, res := some (.bool true), after := args } = some (.bool (true == true)) from w_eq_bool (w_res rfl) w_lit) rfl

/-! ### the attachment: holds_open's last premise (the goal 'hc' behind k_head) from a wpAny of the law's body -/
/-- the same from a codeAny of the CALL (for a layer whose function contracts speak of calls) -/
theorem attach_call {l : OpenLaw} {n : Nat} {q : Program} {loose : List Str} {XP : (Str → Option Value) → Heap → Prop} {YP : World → Heap → Prop} {d : DefRec}
    (hn : l.most = some n) (hdf : d.params.defaults = [])
    (call : ∀ (w : World) (s₀ s₁ : Shared) (mg mb : Str → Option Value) (fa : Addr) (o : Obj) (pm cd doc : Value) (a : Addr) (vs : List Value) (ns : List Int),
      Ground q loose [] XP w s₀ mg mb s₁.heap → YP w s₁.heap →
      s₁.heap.get? fa = some o → o.data = .func (docDef d.name d.params d.body d.scope pm cd doc) → s₁.heap.CodeRec cd d.name → mg d.name = some (.ref fa) →
      s₁.heap.get? a = some { cls := .type "list", data := .seq vs.toArray } → IntsAre vs ns → ns.length ≤ n → s₁.gens = #[] →
      codeAny (model l.prog w) callerA (.call (.ref fa) ⟨[.ref a], []⟩) (fun r s' => r = .ok (.ret (.bool true)) ∧ OldK s₁.heap s'.heap ∧ s'.os = s₁.os ∧ AllBare s'.gens) s₁) :
    WalkO q loose XP YP l.row.toRowW d [] (fun f vs => PySem.call f vs) := by
  intro w s₀ s₁ mg mb G Y fa o pm cd doc dV kV ho hd hcd hD hmg hg args vals as hpre hlay hrd hwl hlo
  obtain rfl : dV = .none := Dflts.none hD hdf
  obtain rfl : kV = .none := Dflts.noKw hD
  obtain ⟨a, vs, ns, rfl, rfl, hobj, hints, hlen⟩ := script_of hn hpre hwl
  refine enter_call (codeAny_mono (call w s₀ s₁ mg mb fa o pm cd doc a vs ns G Y ho (fd_plain hd) hcd hmg hobj hints hlen hg) fun r s' hq => ?_)
  obtain ⟨rfl, h2, h3, h4⟩ := hq
  exact ⟨.inl ⟨.bool true, .bool true, [], rfl, fun _ => rfl, .bool true, post_true l _, fun _ => ⟨List.Pairwise.nil, fun _ hm => (nomatch hm)⟩⟩, h2, h3, h4⟩

/-! ### rules over ANY heap (no ledger) from facts about the written part K: the library's own take a ledger (News) for what they write -/
section
variable {prog : Program} {w : World} {A : Around} {E : Value → Shared → Prop} {s : Shared} {K : Frag}

/-! the whole heap as the ledger: makes every rule that writes through a ledger a rule over any heap -/
end
end Att

namespace L2
open PySem PySem.Spec PyProof.Rows

theorem vals_ints : ∀ {vs : List Value} {ns : List Int}, IntsAre vs ns → Vals (ns.map V.int) vs
  | _, _, .nil => .nil
  | _, _, .cons n t h => .cons ⟨t, rfl⟩ (vals_ints h)

/-- nothing is tracked but the script, known to the object (or it is an object of the module) -/
def Only (H : Hp) : Prop := ∀ b, H b = none ∨ ∃ o xs, H b = some (.frz o (.lst xs))

/-- THE HEAD: the law's promise, at the heap behind the top. F, the promise of the law's def, may use that base is part of the heap (so K.In base, base.Ns mainGlobals mg stand in Mod) -/
theorem law_call {P : Program} {w : World} {K : PySem.W.Frag} {mg mb : Str → Option Value} {CX : CXT} {k : Nat} {fa a : Addr} {fd : FuncData} {x : Str} {sp : Sp} {s₁ : Shared} {vs : List Value} {ns : List Int}
    (KX : K.In s₁.heap) (hns : s₁.heap.Ns mainGlobals mg) (hb : s₁.heap.Ns builtinsNs mb) (hbb : ∀ x : Str, x ≠ "__name__" → mb x = bootBuiltins x) (hlim : s₁.heap.NoLimit) (hg : s₁.gens = #[])
    (ha : s₁.heap.get? a = some { cls := .type "list", data := .seq vs.toArray }) (hi : IntsAre vs ns) (hl : ns.length ≤ sizeLine) (hr : Room k callerA)
    (F : ∀ base : Heap, K.In base → base.Ns mainGlobals mg → FnOk P w K mg base CX k fa fd [x] sp) (hbind : ∀ (s : Shared) (u : Value), BindsTo s fd ⟨[u], []⟩ [(x, u)])
    (hsp : ∀ H : Hp, Only H → SqL K H a (ns.map V.int) → sp [.ref a] H (fun v _ => v = .bl true) fun _ _ _ => False)
    (hCX : ∀ H e s', CX [] H s₁ (fun _ _ _ => False) e s' → False) :
    codeAny (model P w) callerA (.call (.ref fa) ⟨[.ref a], []⟩) (fun r s' => r = .ok (.ret (.bool true)) ∧ OldK s₁.heap s'.heap ∧ s'.os = s₁.os ∧ AllBare s'.gens) s₁ := by
  have rv := vals_ints hi
  have lenV := hi.length
  -- from an abstract heap in which nothing but the script may be tracked
  have core : ∀ H : Hp, Only H → SqL K H a (ns.map V.int) → HOk P w H s₁.heap → (∀ b, H b ≠ none → b = a) → (H a ≠ none → K.lookup a = none) →
      codeAny (model P w) callerA (.call (.ref fa) ⟨[.ref a], []⟩) (fun r s' => r = .ok (.ret (.bool true)) ∧ OldK s₁.heap s'.heap ∧ s'.os = s₁.os ∧ AllBare s'.gens) s₁ := by
    intro H hO hS hok hA hK
    have base_of : ∀ {b : Addr} {o : Obj}, s₁.heap.get? b = some o → H b = none → (hidT s₁.heap H).get? b = some o := fun e n => hidT_get e n
    have noA : ∀ {b : Addr} {o : Obj} {es : Array DictEntry} {ep : Nat}, s₁.heap.get? b = some o → o.data = .dict es ep → H b = none := fun {b o es ep} e d => by
      cases q : H b with
      | none => rfl
      | some u =>
        have e' : b = a := hA b (by rw [q]; simp)
        subst e'
        rw [ha] at e; cases e
        have d' : Data.seq vs.toArray _ = Data.dict es ep := d
        cases d'
    have nsK : ∀ {b : Addr} {m : Str → Option Value}, s₁.heap.Ns b m → (hidT s₁.heap H).Ns b m := fun {b m} ⟨o, es, ep, e, d, r⟩ => ⟨o, es, ep, base_of e (noA e d), d, r⟩
    have hKb : K.In (hidT s₁.heap H) := fun b o e => base_of (KX b o e) (by
      cases q : H b with
      | none => rfl
      | some u =>
        have e' : b = a := hA b (by rw [q]; simp)
        subst e'
        rw [hK (by rw [q]; simp)] at e; cases e)
    have hM : Mod K mg (hidT s₁.heap H) := ⟨hKb, nsK hns, ⟨mb, nsK hb, hbb⟩, let ⟨mc, h1, h2⟩ := hlim; ⟨mc, nsK h1, h2⟩⟩
    have e0 : Env0 P w K mg (hidT s₁.heap H) callerA [] s₁ H := ⟨rfl, hM, fun b o e => of_hidT e, Nat.le_of_eq (hidT_size _ _), trivial, fun b hb => absurd (show b ∈ ([] : List Addr) from hb) (by simp), hok, .of_eq hg⟩
    refine codeAny_mono ((F _ hKb (nsK hns)).run callerA [] s₁ H ⟨[.ref a], []⟩ [.ref a] [.ref a] _ _ hr e0 (hbind s₁ (.ref a)) (.cons rfl .nil) (hsp H hO hS)) fun r s' h => ?_
    cases r with
    | error e => exact (hCX H e s' h).elim
    | ok fl =>
      cases fl with
      | next => exact False.elim h
      | brk => exact False.elim h
      | cont => exact False.elim h
      | ret u =>
        obtain ⟨v, H', os, bare, un, hok', r', q⟩ := h
        have q' : v = .bl true := q
        subst q'
        obtain rfl : u = Value.bool true := r'
        refine ⟨rfl, OldK.of_keep fun b o e => ?_, os, bare⟩
        cases q : H b with
        | none => exact un.keep b o e q (by intro z; exact absurd (show b ∈ ([] : List Addr) from z) (by simp)) (by simp)
        | some u =>
          rcases hO b with z | ⟨ob, xs, z⟩
          · rw [q] at z; cases z
          · have z2 := un.frzs b ob _ z
            obtain ⟨e1, _⟩ := hok b _ z
            obtain ⟨e2, _⟩ := hok' b _ z2
            rw [e] at e1; cases e1
            exact e2
  cases hk : K.lookup a with
  | some o =>
    -- the script is one of the module's own objects
    have e := KX a o hk
    rw [ha] at e
    cases e
    refine core (fun _ => none) (fun _ => .inl rfl) (.inr ⟨_, vs.toArray, _, hk, rfl, rfl, rfl, by rw [List.size_toArray, lenV]; exact hl, by simpa using rv⟩) (fun b u z => by have z' : (none : Option HO) = some u := z; cases z') (fun b z => absurd rfl z) fun z => absurd rfl z
  | none =>
    refine core (fun b => if b = a then some (.frz { cls := .type "list", data := .seq vs.toArray } (.lst (ns.map V.int))) else none) (fun b => ?_) (.inl (.inr ⟨{ cls := .type "list", data := .seq vs.toArray }, if_pos rfl⟩)) (fun b u z => ?_) (fun b z => ?_) fun _ => hk
    · by_cases hb : b = a
      · exact .inr ⟨_, _, if_pos hb⟩
      · exact .inl (if_neg hb)
    · by_cases hb : b = a
      · have z' := (if_pos hb).symm.trans z
        cases z'
        subst hb
        exact ⟨ha, by rw [List.length_map]; exact hl, vs, _, rv, ha⟩
      · have z' := (if_neg hb).symm.trans z
        cases z'
    · by_cases hb : b = a
      · exact hb
      · exact absurd (if_neg hb) z
end L2

namespace L2
open PySem PySem.Spec PyProof.Rows

/-- the goal that k_head leaves (case hc), from the law's promise. F gives the function object fd (K's own) once, then the promise over every base -/
theorem walk_of {l : PySem.W.OpenLaw} {n k : Nat} {q : Program} {loose : List Str} {XP : (Str → Option Value) → Heap → Prop} {YP : World → Heap → Prop} {d : DefRec} {K : Params → PySem.W.Frag} {CX : World → CXT} {sp : World → Sp} {x : Str}
    (hn : l.most = some n) (hn2 : n ≤ sizeLine) (hdf : d.params.defaults = []) (hr : Room k callerA)
    (hY : ∀ (w : World) (h : Heap), YP w h → (K w.params).In h)
    (F : ∀ (w : World) (mg : Str → Option Value) (fa : Addr) (h : Heap), (K w.params).In h → h.Ns mainGlobals mg → mg d.name = some (.ref fa) →
      ∃ fd : FuncData, (∀ (s : Shared) (u : Value), BindsTo s fd ⟨[u], []⟩ [(x, u)]) ∧
        ∀ base : Heap, (K w.params).In base → base.Ns mainGlobals mg → FnOk l.prog w (K w.params) mg base (CX w) k fa fd [x] (sp w))
    (hsp : ∀ (w : World) (H : Hp) (a : Addr) (ns : List Int), ns.length ≤ n → Only H → SqL (K w.params) H a (ns.map V.int) → sp w [.ref a] H (fun v _ => v = .bl true) fun _ _ _ => False)
    (hCX : ∀ (w : World) (H : Hp) (s : Shared) (e : Value) (s' : Shared), CX w [] H s (fun _ _ _ => False) e s' → False) :
    PySem.W.WalkO q loose XP YP l.row.toRowW d [] (fun f vs => PySem.call f vs) := by
  refine Att.attach_call hn hdf fun w s₀ s₁ mg mb fa o pm cd doc a vs ns G Y ho hd hcd hmg hobj hints hlen hg => ?_
  have KX := hY w _ Y
  obtain ⟨fd, hb, hF⟩ := F w mg fa _ KX G.T.g hmg
  exact law_call KX G.T.g G.T.b G.T.builtins G.T.nolimit hg hobj hints (Nat.le_trans hlen hn2) hr hF hb (fun H hO hS => hsp w H a ns hlen hO hS) fun H e s' => hCX w H s₁ e s'
/-- the same where the promise hangs on the written part alone: (sp := My.sp_law), no hole under a binder -/
theorem walk_ofK {l : PySem.W.OpenLaw} {n k : Nat} {q : Program} {loose : List Str} {XP : (Str → Option Value) → Heap → Prop} {YP : World → Heap → Prop} {d : DefRec} {K : Params → PySem.W.Frag} {CX : CXT} {sp : PySem.W.Frag → Sp} {x : Str}
    (hn : l.most = some n) (hn2 : n ≤ sizeLine) (hdf : d.params.defaults = []) (hr : Room k callerA)
    (hY : ∀ (w : World) (h : Heap), YP w h → (K w.params).In h)
    (F : ∀ (w : World) (mg : Str → Option Value) (fa : Addr) (h : Heap), (K w.params).In h → h.Ns mainGlobals mg → mg d.name = some (.ref fa) →
      ∃ fd : FuncData, (∀ (s : Shared) (u : Value), BindsTo s fd ⟨[u], []⟩ [(x, u)]) ∧
        ∀ base : Heap, (K w.params).In base → base.Ns mainGlobals mg → FnOk l.prog w (K w.params) mg base CX k fa fd [x] (sp (K w.params)))
    (hsp : ∀ (K : PySem.W.Frag) (H : Hp) (a : Addr) (ns : List Int), ns.length ≤ n → Only H → SqL K H a (ns.map V.int) → sp K [.ref a] H (fun v _ => v = .bl true) fun _ _ _ => False)
    (hCX : ∀ (H : Hp) (s : Shared) (e : Value) (s' : Shared), CX [] H s (fun _ _ _ => False) e s' → False) :
    PySem.W.WalkO q loose XP YP l.row.toRowW d [] (fun f vs => PySem.call f vs) :=
  walk_of (K := K) (CX := fun _ => CX) (sp := fun w => sp (K w.params)) hn hn2 hdf hr hY F (fun w H a ns h1 h2 h3 => hsp (K w.params) H a ns h1 h2 h3) fun _ H s e s' => hCX H s e s'
end L2

/- THE LAST THEOREM (shape; LID, My.* are yours):
   My.Adr: a structure of the addresses that your layer names (classes, functions); My.Txt K t: a structure (Prop) of the equations over K;
   My.txt_mk : {K} {implicit addresses ..} (e1 : nsIn K mainGlobals "law" = some (some (.ref f))) (e2 : K.lookup f = some ⟨oc, od, .func (fnOf "law" "law" params body scope dV kV doc pm an cdv ct), sl⟩) (e3 : codeIn K cdv "law" = true) .. : ∃ t, My.Txt K t

set_option maxRecDepth 100000 in
set_option maxHeartbeats 0 in
theorem PySem.Challenge.cw_LID_holds : PySem.Challenge.rw_LID.Holds := by
  w_on; o_law; k_head; (case hw => w_witness2)
  k_fill
  refine L2.walk_of (l := PySem.Challenge.rw_LID) (n := 63) (k := 40) (x := "script") (CX := fun w => ..) (sp := fun _ => My.sp_law) rfl (by decide) rfl ⟨rfl, by decide, by decide⟩ (fun w h Y => PySem.W.kIn_of Y) ?F ?S ?C
  case F =>
    intro w mg fa h KX G hmg
    have T : ∃ t, My.Txt (L2.KOf KX) t := by
      dsimp only [L2.KOf]                          -- K must stand as «<heap const> w.params» for k_is
      refine' My.txt_mk ?e1 ?e2 ?e3 ..
      (case e1 => PySem.W.k_is)                    -- in the order: a name -> its address -> its object -> its parts
      (case e2 => PySem.W.k_is)
      ..
    obtain ⟨t, T⟩ := T
    have e0 := hmg.symm.trans (PySem.W.mg_of KX G T.law)
    cases e0                                       -- fa is the law's own address
    exact ⟨_, fun s u => .of_eq rfl, fun base kb nb => My.law_fn T kb nb⟩     -- if «.of_eq rfl» comes too early: refine' ⟨_, ?b, fun base kb nb => My.law_fn T kb nb⟩; exact fun s u => .of_eq rfl
  case S => exact fun w H a ns hl hO hS => ..
  case C => exact ..
(the tactic k_is has no namespace: write k_is) -/

/-! SHORT WORDS over the layer: a def of the text, its body, what a loop and a test want. -/
namespace L2
open PySem PySem.Spec PyProof.Rows

/-! ### the text by places -/
def defArgs (s : Stmt) : Arguments := match s with
  | .FunctionDef _ a _ _ _ _ _ _ _ _ => a
  | _ => { posonlyargs := [], args := [], vararg := none, kwonlyargs := [], kw_defaults := [], kwarg := none, defaults := [] }
def defBody (s : Stmt) : List Stmt := match s with
  | .FunctionDef _ _ b _ _ _ _ _ _ _ => b
  | _ => []
def defScope (s : Stmt) : Scope := match s with
  | .FunctionDef _ _ _ _ _ _ sc _ _ _ => sc
  | _ => { kind := .function, names := [], isGenerator := false, isCoroutine := false }

/-! ### no exception leaves a def -/
abbrev CX0 : CXT := fun _ _ _ _ _ _ => False
abbrev E0 : XK := fun _ _ _ => False
theorem pass0 {X : Cx} : Passes CX0 X E0 := fun _ _ _ _ _ _ _ h => h.elim

/-! ### a def (or method) of the text as it stands behind the top -/
structure Fun (K : PySem.W.Frag) (x qual : Str) (st : Stmt) (f : Addr) (fd : FuncData) : Prop where
  ex : ∃ (oc : Value) (od : Option Addr) (kV doc pm : Value) (an : Option Addr) (cdv ct : Value) (osl : Array (Option Value)),
    fd = PySem.W.fnOf x qual (defArgs st) (defBody st) (defScope st) .none kV doc pm an cdv ct ∧ K.lookup f = some ⟨oc, od, .func fd, osl⟩ ∧ PySem.W.codeIn K cdv qual = true
  kp : PySem.W.keepIn K (.ref f) = true
section
variable {P : Program} {w : World} {K : PySem.W.Frag} {mg : Str → Option Value} {base : Heap}
/-- THE RULE for a def: its body as a term of rules, and the reading of that term -/
theorem Fun.ok {x qual : Str} {st : Stmt} {f : Addr} {fd : FuncData} {N ps : List Str} {k : Nat} {sp : Sp} (F : Fun K x qual st f fd) (S : FnScope N ps (defScope st)) (len : ∀ vs H Q E, sp vs H Q E → vs.length = ps.length)
    (hbody : ∀ (cdv : Value) (A : Around) (outer : List Env) (s : Shared) (H : Hp) (vs : List V) (Q : VK) (E : XK), Room k (A.deeper (envOfC qual (defScope st) s.heap.objs.size f cdv)) → sp vs H Q E →
      ∃ t, PSs (cxOf CX0 P w K mg base N qual (defScope st) f cdv A outer s H E).nox (defBody st) t ∧ t { nx := fun _ H' => Q .non H', rt := Q } (start N vs) H) : FnOk P w K mg base CX0 (k + 1) f fd ps sp := by
  obtain ⟨oc, od, kV, doc, pm, an, cdv, ct, osl, rfl, lk, hcd⟩ := F.ex
  refine fn_of lk hcd S len fun A outer s H vs Q E hr hsp => ?_
  obtain ⟨t, h, q⟩ := hbody cdv A outer s H vs Q E hr hsp
  exact ⟨t, h.nox, q⟩
/-- how its arguments bind (no defaults): h is «fun _ _ _ _ _ _ us hl => match us, hl with | [_, _], _ => rfl», one _ a parameter -/
theorem Fun.binds {x qual : Str} {st : Stmt} {f : Addr} {fd : FuncData} {ps : List Str} (F : Fun K x qual st f fd)
    (h : ∀ (kV doc pm : Value) (an : Option Addr) (cdv ct : Value) (us : List Value), us.length = ps.length → bindArgs (PySem.W.fnOf x qual (defArgs st) (defBody st) (defScope st) .none kV doc pm an cdv ct) ⟨us, []⟩ = pure (ps.zip us)) : Binds K fd ps [] := by
  obtain ⟨oc, od, kV, doc, pm, an, cdv, ct, osl, rfl, lk, hcd⟩ := F.ex
  exact .all (h kV doc pm an cdv ct)
theorem fun_mk {x qual : Str} {st : Stmt} {f : Addr} {oc : Value} {od an : Option Addr} {osl : Array (Option Value)} {kV doc pm cdv ct : Value} (l : K.lookup f = some ⟨oc, od, .func (PySem.W.fnOf x qual (defArgs st) (defBody st) (defScope st) .none kV doc pm an cdv ct), osl⟩)
    (c : PySem.W.codeIn K cdv qual = true) (k : PySem.W.keepIn K (.ref f) = true) : Fun K x qual st f (PySem.W.fnOf x qual (defArgs st) (defBody st) (defScope st) .none kV doc pm an cdv ct) := ⟨⟨oc, od, kV, doc, pm, an, cdv, ct, osl, rfl, l, c⟩, k⟩
end
theorem hu_of {A : Around} {k : Nat} (hr : Room k A) : A.units + 1 < cLine := Nat.lt_of_le_of_lt (Nat.add_le_add_left (by decide : 1 ≤ 64) _) hr.units
/-! ### expressions in short: the name that stands in the i-th slot -/
section
variable {X : Cx}
end

/-! ### tests -/
/-! ### heaps -/
/-- all that was tracked is as it was -/
def Same (H H' : Hp) : Prop := ∀ b o, H b = some o → H' b = some o
theorem Same.refl (H : Hp) : Same H H := fun _ _ h => h
theorem Same.trans {H H1 H2 : Hp} (a : Same H H1) (b : Same H1 H2) : Same H H2 := fun c o h => b c o (a c o h)
theorem Same.free {H H' : Hp} (e : Same H H') {l : Addr} (h : H' l = Option.none) : H l = Option.none := by
  cases q : H l with
  | none => rfl
  | some o =>
    rw [e l o q] at h
    cases h
theorem Same.seq {K : PySem.W.Frag} {H H' : Hp} {a : Addr} {xs : List V} (e : Same H H') (h : SqL K H a xs) : SqL K H' a xs := by
  rcases h with (h | ⟨o, h⟩) | h
  · exact .inl (.inl (e _ _ h))
  · exact .inl (.inr ⟨o, e _ _ h⟩)
  · exact .inr h

end L2
set_option maxHeartbeats 0
namespace L2
open PySem PySem.Spec PyProof.Rows

/-! ### lists of pairs as tables -/
section
variable {κ : Type} [DecidableEq κ]
def valV (kvs : List (κ × V)) (k : κ) : Option V := (kvs.find? fun kv => decide (kv.1 = k)).map (·.2)
/-- in its place, or at the end -/
def putK (kvs : List (κ × V)) (k : κ) (v : V) : List (κ × V) :=
  if (kvs.any fun kv => decide (kv.1 = k)) = true then kvs.map (fun kv => if kv.1 = k then (kv.1, v) else kv) else kvs ++ [(k, v)]
def dropK (kvs : List (κ × V)) (k : κ) : List (κ × V) := kvs.filter fun kv => decide (kv.1 ≠ k)

theorem valV_pos {p : κ × V} {r : List (κ × V)} {k : κ} (e : p.1 = k) : valV (p :: r) k = some p.2 := by simp [valV, List.find?_cons, e]
theorem valV_neg {p : κ × V} {r : List (κ × V)} {k : κ} (e : ¬ p.1 = k) : valV (p :: r) k = valV r k := by simp [valV, List.find?_cons, e]
theorem valV_any (k : κ) : ∀ kvs : List (κ × V), (kvs.any fun kv => decide (kv.1 = k)) = (valV kvs k).isSome
  | [] => rfl
  | p :: r => by
    rw [List.any_cons]
    by_cases e : p.1 = k
    · simp only [valV_pos e, decide_eq_true e, Bool.true_or, Option.isSome_some]
    · rw [valV_neg e, decide_eq_false e, Bool.false_or]; exact valV_any k r
theorem length_putK (kvs : List (κ × V)) (k : κ) (v : V) : (putK kvs k v).length ≤ kvs.length + 1 := by
  unfold putK
  split
  · rw [List.length_map]; omega
  · rw [List.length_append, List.length_cons, List.length_nil]; omega
theorem RelO.isSome_eq {o : Option V} {u : Option Value} (r : RelO o u) : o.isSome = u.isSome := by
  cases o with
  | none => cases u with
    | none => rfl
    | some _ => exact (show False from r).elim
  | some _ => cases u with
    | none => exact (show False from r).elim
    | some _ => rfl
theorem RelO.getD {o : Option V} {u : Option Value} {d : V} {d' : Value} (r : RelO o u) (rd : RelV d d') : RelV (o.getD d) (u.getD d') := by
  cases o with
  | none => cases u with
    | none => exact rd
    | some _ => exact (show False from r).elim
  | some _ => cases u with
    | none => exact (show False from r).elim
    | some _ => exact r

/-- raw tables of the same keys -/
theorem KV.val {kvs : List (κ × V)} {vs : List (κ × Value)} (r : KV kvs vs) (k : κ) : RelO (valV kvs k) (valueAt vs k) := by
  unfold KV at r
  induction r with
  | nil => exact True.intro
  | @cons p q ps qs h t ih =>
    obtain ⟨h1, h2⟩ := h
    by_cases e : p.1 = k
    · have e' : q.1 = k := h1.symm.trans e
      have b : valueAt (q :: qs) k = some q.2 := by simp [valueAt, List.find?_cons, e']
      rw [valV_pos e, b]; exact h2
    · have e' : ¬ q.1 = k := fun z => e (h1.trans z)
      have b : valueAt (q :: qs) k = valueAt qs k := by simp [valueAt, List.find?_cons, e']
      rw [valV_neg e, b]; exact ih
theorem KV.any {kvs : List (κ × V)} {vs : List (κ × Value)} (r : KV kvs vs) (k : κ) : (kvs.any fun kv => decide (kv.1 = k)) = vs.any fun kv => decide (kv.1 = k) := by
  unfold KV at r
  induction r with
  | nil => rfl
  | cons h t ih => rw [List.any_cons, List.any_cons, ih, h.1]
theorem KV.repl {kvs : List (κ × V)} {vs : List (κ × Value)} (r : KV kvs vs) (k : κ) {y : V} {u : Value} (ry : RelV y u) :
    KV (kvs.map fun kv => if kv.1 = k then (kv.1, y) else kv) (vs.map fun kv => if kv.1 = k then (kv.1, u) else kv) := by
  unfold KV at r ⊢
  induction r with
  | nil => exact .nil
  | @cons p q ps qs h t ih =>
    rw [List.map_cons, List.map_cons]
    refine .cons ?_ ih
    obtain ⟨h1, h2⟩ := h
    by_cases e : p.1 = k
    · rw [if_pos e, if_pos (h1.symm.trans e)]; exact ⟨h1, ry⟩
    · rw [if_neg e, if_neg (fun z => e (h1.trans z))]; exact ⟨h1, h2⟩
theorem KV.put {kvs : List (κ × V)} {vs : List (κ × Value)} (r : KV kvs vs) (k : κ) {y : V} {u : Value} (ry : RelV y u) : KV (putK kvs k y) (stored vs k u) := by
  unfold putK stored
  rw [r.any k]
  by_cases e : (vs.any fun kv => decide (kv.1 = k)) = true
  · rw [if_pos e, if_pos e]; exact r.repl k ry
  · rw [if_neg e, if_neg e]; exact Paired.snoc r ⟨rfl, ry⟩
theorem KV.drop {kvs : List (κ × V)} {vs : List (κ × Value)} (r : KV kvs vs) (k : κ) : KV (dropK kvs k) (without vs k) := by
  unfold KV at r ⊢
  unfold dropK without
  induction r with
  | nil => exact .nil
  | @cons p q ps qs h t ih =>
    obtain ⟨h1, h2⟩ := h
    rw [List.filter_cons, List.filter_cons]
    by_cases e : p.1 = k
    · have a : ¬ decide (p.1 ≠ k) = true := by simp [e]
      have b : ¬ decide (q.1 ≠ k) = true := by simp [h1.symm.trans e]
      rw [if_neg a, if_neg b]; exact ih
    · have e' : ¬ q.1 = k := fun z => e (h1.trans z)
      have a : decide (p.1 ≠ k) = true := by simp [e]
      have b : decide (q.1 ≠ k) = true := by simp [e']
      rw [if_pos a, if_pos b]; exact .cons ⟨h1, h2⟩ ih
theorem KV.length {kvs : List (κ × V)} {vs : List (κ × Value)} (r : KV kvs vs) : kvs.length = vs.length := Paired.length r
end


/-! ### a tracked dict, its keys ints and texts or tuples of these -/
theorem kV_is {P : Program} {w : World} {k : Key} {u : Value} (r : RelV (kV k) u) : (mixKind P w).is k u = true := by
  cases k with
  | inl i => obtain ⟨t, e⟩ := (show ∃ t, u = Value.int i t from r); subst e; exact mixKind_int P w i t
  | inr x => obtain ⟨t, e⟩ := (show ∃ t, u = Value.str x t from r); subst e; exact mixKind_str P w x t
theorem items_are {P : Program} {w : World} : ∀ {ks : List Key} {us : List Value}, Vals (ks.map kV) us → ItemsAre (mixKind P w) ks us
  | [], _, r => by rw [List.map_nil] at r; cases r; exact .nil
  | k :: ks, _, r => by
    rw [List.map_cons] at r
    cases r with
    | cons h t => exact .cons (kV_is h) (items_are t)

/-- raw entries of a dict with tuple keys -/
abbrev KT (H : Hp) : List (List Key × V) → List (List Key × Addr × Value) → Prop := Paired fun p q => p.1 = q.1 ∧ H q.2.1 = some (.tup (p.1.map kV)) ∧ RelV p.2 q.2.2
theorem KT.val {H : Hp} {kvs : List (List Key × V)} {xs : List (List Key × Addr × Value)} (r : KT H kvs xs) (k : List Key) : RelO (valV kvs k) ((atKey xs k).map (·.2)) := by
  induction r with
  | nil => exact True.intro
  | @cons p q ps qs h t ih =>
    obtain ⟨h1, _, h2⟩ := h
    by_cases e : p.1 = k
    · have e' : q.1 = k := h1.symm.trans e
      have b : atKey (q :: qs) k = some q.2 := by simp [atKey, List.find?_cons, e']
      rw [valV_pos e, b]; exact h2
    · have e' : ¬ q.1 = k := fun z => e (h1.trans z)
      have b : atKey (q :: qs) k = atKey qs k := by simp [atKey, List.find?_cons, e']
      rw [valV_neg e, b]; exact ih
theorem KT.repl {H : Hp} {kvs : List (List Key × V)} {xs : List (List Key × Addr × Value)} (r : KT H kvs xs) (k : List Key) {y : V} {u : Value} (ry : RelV y u) :
    KT H (kvs.map fun kv => if kv.1 = k then (kv.1, y) else kv) (xs.map (putAt k u)) := by
  induction r with
  | nil => exact .nil
  | @cons p q ps qs h t ih =>
    rw [List.map_cons, List.map_cons]
    refine .cons ?_ ih
    obtain ⟨h1, h2, h3⟩ := h
    unfold putAt
    by_cases e : p.1 = k
    · rw [if_pos e, if_pos (h1.symm.trans e)]; exact ⟨h1, h2, ry⟩
    · rw [if_neg e, if_neg (fun z => e (h1.trans z))]; exact ⟨h1, h2, h3⟩
theorem KT.put {H : Hp} {kvs : List (List Key × V)} {xs : List (List Key × Addr × Value)} (r : KT H kvs xs) (k : List Key) {b : Addr} {y : V} {u : Value} (hb : H b = some (.tup (k.map kV))) (ry : RelV y u) :
    KT H (putK kvs k y) (storedH xs k b u) := by
  have e : (kvs.any fun kv => decide (kv.1 = k)) = (atKey xs k).isSome := by
    rw [valV_any, (r.val k).isSome_eq, Option.isSome_map]
  unfold putK storedH
  rw [e]
  by_cases q : (atKey xs k).isSome = true
  · rw [if_pos q, if_pos q]; exact r.repl k ry
  · rw [if_neg q, if_neg q]; exact Paired.snoc r ⟨rfl, hb, ry⟩
theorem KT.keeps {H H' : Hp} {kvs : List (List Key × V)} {xs : List (List Key × Addr × Value)} (r : KT H kvs xs) (ht : ∀ b ys, H b = some (.tup ys) → H' b = some (.tup ys)) : KT H' kvs xs :=
  Paired.mapP r fun _ _ z => ⟨z.1, ht _ _ z.2.1, z.2.2⟩

section
variable {P : Program} {w : World} {H : Hp} {h : Heap} {a : Addr}
theorem rd_of {u : HO} (ok : HOk P w H h) (e : Rd H a u) : ObjOk P w H h a u := e.ok ok
theorem dk_rd {kvs : List (Key × V)} (ok : HOk P w H h) (e : Rd H a (.dK kvs)) : kvs.length ≤ sizeLine ∧ (a == sysModules) = false ∧ ∃ vs, KV kvs vs ∧ h.DictOf (mixKind P w) a vs :=
  show ObjOk P w H h a (.dK kvs) from rd_of ok e
theorem dk_of {kvs : List (Key × V)} (ok : HOk P w H h) (e : H a = some (.dK kvs)) : kvs.length ≤ sizeLine ∧ (a == sysModules) = false ∧ ∃ vs, KV kvs vs ∧ h.DictOf (mixKind P w) a vs := dk_rd ok (.inl e)
/-- a tracked tuple of ints and texts is a key -/
theorem key_of {ks : List Key} (ok : HOk P w H h) (e : H a = some (.tup (ks.map kV))) : (tupleKind (mixKind P w)).is h ks a := by
  obtain ⟨_, its, r, o, h1, h2, n, h3⟩ := (show ObjOk P w H h a (.tup (ks.map kV)) from ok a _ e)
  exact ⟨o, its.toArray, n, h1, h2, h3, by simpa using items_are r⟩
theorem dt_rd {kvs : List (List Key × V)} (ok : HOk P w H h) (e : Rd H a (.dT kvs)) : kvs.length ≤ sizeLine ∧ (a == sysModules) = false ∧
    ∃ xs, KT H kvs xs ∧ h.DictOfH (tupleKind (mixKind P w)) a xs := by
  obtain ⟨z, y, xs, r, o, es, ep, h1, h2, h3, h4, h5⟩ := (show ObjOk P w H h a (.dT kvs) from rd_of ok e)
  refine ⟨z, y, xs, r, o, es, ep, h1, h2, h3, h4, fun x hx => ?_, h5⟩
  have all : ∀ {l : List (List Key × V)} {m : List (List Key × Addr × Value)}, KT H l m → ∀ x ∈ m, (tupleKind (mixKind P w)).is h x.1 x.2.1 := by
    intro l m q
    induction q with
    | nil => intro x hx; exact nomatch hx
    | @cons p q ps qs hq t ih =>
      intro x hx
      rcases List.mem_cons.mp hx with e | hx
      · subst e
        exact key_of ok (by rw [← hq.1]; exact hq.2.1)
      · exact ih x hx
  exact all r x hx
theorem dt_of {kvs : List (List Key × V)} (ok : HOk P w H h) (e : H a = some (.dT kvs)) : kvs.length ≤ sizeLine ∧ (a == sysModules) = false ∧
    ∃ xs, KT H kvs xs ∧ h.DictOfH (tupleKind (mixKind P w)) a xs := dt_rd ok (.inl e)
end

/-- what the dict at a holds at the key y -/
def DGet (H : Hp) (a : Addr) (y : V) (r : Option V) : Prop :=
  (∃ kvs k, Rd H a (.dK kvs) ∧ y = kV k ∧ r = valV kvs k) ∨ ∃ kvs k b, Rd H a (.dT kvs) ∧ y = .ref b ∧ H b = some (.tup (k.map kV)) ∧ r = valV kvs k
/-- the heap behind a[y] = v -/
def DPut (H : Hp) (a : Addr) (y v : V) (H' : Hp) : Prop :=
  (∃ kvs k, H a = some (.dK kvs) ∧ y = kV k ∧ kvs.length < sizeLine ∧ H' = upd H a (.dK (putK kvs k v))) ∨
  ∃ kvs k b, H a = some (.dT kvs) ∧ y = .ref b ∧ H b = some (.tup (k.map kV)) ∧ kvs.length < sizeLine ∧ H' = upd H a (.dT (putK kvs k v))
theorem DGet.k {H : Hp} {a : Addr} {kvs : List (Key × V)} {k : Key} (e : H a = some (.dK kvs)) : DGet H a (kV k) (valV kvs k) := .inl ⟨kvs, k, .inl e, rfl, rfl⟩
theorem DGet.t {H : Hp} {a b : Addr} {kvs : List (List Key × V)} {k : List Key} (e : H a = some (.dT kvs)) (eb : H b = some (.tup (k.map kV))) : DGet H a (.ref b) (valV kvs k) := .inr ⟨kvs, k, b, .inl e, rfl, eb, rfl⟩
theorem DPut.k {H : Hp} {a : Addr} {kvs : List (Key × V)} {k : Key} {v : V} (e : H a = some (.dK kvs)) (hl : kvs.length < sizeLine) : DPut H a (kV k) v (upd H a (.dK (putK kvs k v))) := .inl ⟨kvs, k, e, rfl, hl, rfl⟩
theorem DPut.t {H : Hp} {a b : Addr} {kvs : List (List Key × V)} {k : List Key} {v : V} (e : H a = some (.dT kvs)) (eb : H b = some (.tup (k.map kV))) (hl : kvs.length < sizeLine) :
    DPut H a (.ref b) v (upd H a (.dT (putK kvs k v))) := .inr ⟨kvs, k, b, e, rfl, eb, hl, rfl⟩


section
variable {X : Cx} {pins : List (Addr × Obj)} {σ : St} {H : Hp} {s : Shared} {a : Addr} {y v : V} {u r : Value} {o : Option V} {A : Around} {E : Value → Shared → Prop}

theorem Inv.big (I : Inv X pins σ H s) : sysModules < s.heap.objs.size := by
  have h : mainGlobals < s.heap.objs.size := (I.mod.glob.keeps I.bk).lt
  exact Nat.lt_trans (by decide) h

/-- d[y], there -/
theorem d_getItem {Q : Value → Shared → Prop} (hu : A.units + 1 < cLine) (I : Inv X pins σ H s) (g : DGet H a y (some v)) (ry : RelV y u) (h : ∀ w' s', Inv X pins σ H s' → RelV v w' → Q w' s') :
    wpAny (model X.prog X.w) A (getItem (.ref a) u) Q E s := by
  rcases g with ⟨kvs, k, e, ey, l⟩ | ⟨kvs, k, b, e, ey, eb, l⟩
  · subst ey
    obtain ⟨z, hd, vs, rel, dd⟩ := dk_rd I.hok e
    obtain ⟨w', hw, rw'⟩ := RelO.some_of (v := v) (o := valueAt vs k) (by rw [l]; exact rel.val k)
    exact wpAny_getItem_of (kV_is ry) dd.mapOf hw (h w' _ (I.tok _) rw')
  · subst ey
    cases (show u = Value.ref b from ry)
    obtain ⟨z, hd, xs, rel, dd⟩ := dt_rd I.hok e
    obtain ⟨w', hw, rw'⟩ := RelO.some_of (v := v) (o := (atKey xs k).map (·.2)) (by rw [l]; exact rel.val k)
    obtain ⟨p, hp, hp2⟩ := Option.map_eq_some_iff.mp hw
    refine wpAny_getItem_heap (tupleKind_room_in1 hu) (key_of I.hok eb) dd hp ?_
    rw [hp2]
    exact h w' _ (I.tok _) rw'
theorem d_notIn {Q : Value → Shared → Prop} (hu : A.units + 1 < cLine) (I : Inv X pins σ H s) (g : DGet H a y o) (ry : RelV y u) (h : ∀ s', Inv X pins σ H s' → Q (.bool (!o.isSome)) s') :
    wpAny (model X.prog X.w) A (compareOp .NotIn u (.ref a)) Q E s := by
  rcases g with ⟨kvs, k, e, ey, l⟩ | ⟨kvs, k, b, e, ey, eb, l⟩
  · subst ey
    obtain ⟨z, hd, vs, rel, dd⟩ := dk_rd I.hok e
    refine wpAny_notIn_of (kV_is ry) hd dd.mapOf ?_
    rw [← (rel.val k).isSome_eq, ← l]
    exact h _ (I.tok _)
  · subst ey
    cases (show u = Value.ref b from ry)
    obtain ⟨z, hd, xs, rel, dd⟩ := dt_rd I.hok e
    refine wpAny_notIn_heap (tupleKind_room_in1 hu) (key_of I.hok eb) hd dd ?_
    have q := (rel.val k).isSome_eq
    rw [Option.isSome_map] at q
    rw [← q, ← l]
    exact h _ (I.tok _)
/-- a dict's object is replaced -/
theorem d_write {h' : Heap} {t' : Nat} {ob : HO} (I : Inv X pins σ H s) (mu : Mut (H a)) (hs : Heap.SameBut a s.heap h') (he : ∃ q, h'.get? a = some q) (new : ObjOk X.prog X.w (upd H a ob) h' a ob) :
    Inv X pins σ (upd H a ob) { s with heap := h', toks := t' } :=
  I.write (x := a) (e := a) mu (.inl rfl) (fun b q hb z => (hs.2 b hb).trans z) he new
theorem dk_new {P : Program} {w : World} {H' : Hp} {h' : Heap} {kvs : List (Key × V)} {vs : List (Key × Value)} (z : kvs.length ≤ sizeLine) (hd : (a == sysModules) = false) (rel : KV kvs vs) (dd : h'.DictOf (mixKind P w) a vs) :
    ObjOk P w H' h' a (.dK kvs) := ⟨z, hd, vs, rel, dd⟩
/-- d[y] = v -/
theorem d_setItem {H' : Hp} {Q : Unit → Shared → Prop} (hu : A.units + 1 < cLine) (I : Inv X pins σ H s) (g : DPut H a y v H') (ry : RelV y u) (rv : RelV v r) (h : ∀ s', Inv X pins σ H' s' → Q () s') :
    wpAny (model X.prog X.w) A (setItem (.ref a) u r) Q E s := by
  rcases g with ⟨kvs, k, e, ey, l, eH⟩ | ⟨kvs, k, b, e, ey, eb, l, eH⟩
  · subst ey eH
    obtain ⟨z, hd, vs, rel, dd⟩ := dk_of I.hok e
    have hz : vs.length ≤ sizeLine := by rw [← rel.length]; exact z
    have hl : (putK kvs k v).length ≤ sizeLine := by have := length_putK kvs k v; omega
    refine wpAny_setItem_pairs (hsz := hz) (kV_is ry) dd fun h' dd' hs => h _ ?_
    have he : ∃ q, h'.get? a = some q := let ⟨q, _, _, hq, _⟩ := dd'; ⟨q, hq⟩
    exact d_write I (by rw [e]; exact True.intro) hs he (dk_new hl hd (rel.put k rv) dd')
  · subst ey eH
    cases (show u = Value.ref b from ry)
    obtain ⟨z, hd, xs, rel, dd⟩ := dt_of I.hok e
    have hz : xs.length ≤ sizeLine := by rw [← Paired.length rel]; exact z
    have hl : (putK kvs k v).length ≤ sizeLine := by have := length_putK kvs k v; omega
    refine wpAny_setItem_heap (hsz := hz) (tupleKind_room_in1 hu) (key_of I.hok eb) dd fun h' dd' hs => h _ ?_
    obtain ⟨q, es, ep, hq, h2, h3, h4, _, h5⟩ := dd'
    refine d_write I (by rw [e]; exact True.intro) hs ⟨q, hq⟩ ⟨hl, hd, _, (rel.put k eb rv).keeps fun c ys ec => ?_, q, es, ep, hq, h2, h3, h4, h5⟩
    rw [upd_ne (ne_of ec e (fun z => nomatch z))]
    exact ec
end

section
variable {X : Cx} {pins : List (Addr × Obj)} {σ : St} {H : Hp} {s : Shared} {a : Addr} {kvs : List (Key × V)} {k : Key} {u : Value} {A : Around} {E : Value → Shared → Prop}
end


/-! ### readings and rules -/
/-- the element of a subscription, not a slice -/
def NoSl (i : Expr) : Prop := ∀ ov iv, subscripted i false ov iv = operate [ov, iv] (getItem ov iv)
theorem subD_of {prog : Program} {w : World} {A : Around} {E : Value → Shared → Prop} {s : Shared} {env : Env} {value slice : Expr} {pos : Pos} {T id : String} {Q : Value → Shared → Prop}
    (hl : typeLookup (.type T) "__getitem__" = pure (some (.builtin id))) (hs : NoSl slice)
    (h : wpAny (model prog w) A (eval value env) (fun o s₁ => wpAny (model prog w) A (eval slice env) (fun i s₂ => s₂.TypeIs o T ∧ wpAny (model prog w) A (getItem o i) Q E s₂) E s₁) E s) :
    wpAny (model prog w) A (eval (.Subscript value slice pos) env) Q E s := by
  refine Subscript_ (wpAny_mono h (fun o s₁ h₁ => wpAny_mono h₁ (fun i s₂ h₂ => ?_) fun _ _ x => x) fun _ _ x => x)
  obtain ⟨hT, h₂⟩ := h₂
  unfold subscriptTail
  refine wpAny_bind ?_
  rw [getitemInPython_of_ne hT.not_modules]
  refine wpAny_bind (wpAny_specialOf hT hl ?_)
  have fin : wpAny (model prog w) A (subscripted slice false o i) (fun r s₃ => wpAny (model prog w) A (letTemporaryGo value o r >>= fun _ => pure r) Q E s₃) E s₂ := by
    rw [hs o i]
    exact wpAny_operating (wpAny_mono h₂ (fun r s₃ h₃ => wpAny_bind (wpAny_letTemporaryGo (wpAny_pure h₃))) fun _ _ x => x)
  first
    | exact wpAny_pure (wpAny_bind fin)
    | exact wpAny_bind (wpAny_pure (wpAny_bind fin))
    | exact wpAny_bind fin

theorem dict_typeIs {X : Cx} {pins : List (Addr × Obj)} {σ : St} {H : Hp} {s : Shared} {a : Addr} {y : V} {o : Option V} (I : Inv X pins σ H s) (g : DGet H a y o) : s.TypeIs (.ref a) "dict" := by
  rcases g with ⟨kvs, k, e, _, _⟩ | ⟨kvs, k, b, e, _, _, _⟩
  · obtain ⟨_, _, vs, _, dd⟩ := dk_rd I.hok e
    exact dd.typeIs
  · obtain ⟨_, _, xs, _, dd⟩ := dt_rd I.hok e
    exact dd.typeIs
/-- d[y] -/
def tDGet (td ty : TE) : TE := fun σ H Q => td σ H fun x H1 => ty σ H1 fun y H2 => ∃ a v, x = .ref a ∧ DGet H2 a y (some v) ∧ Q v H2
def tDNotIn (ty td : TE) : TE := fun σ H Q => ty σ H fun y H1 => td σ H1 fun x H2 => ∃ a o, x = .ref a ∧ DGet H2 a y o ∧ Q (.bl (!o.isSome)) H2
section
variable {X : Cx} {o i e value : Expr} {pos pos' tpos : Pos} {td ty tv : TE}
theorem pe_dget (hu : X.A.units + 1 < cLine) (ho : PE X o td) (hi : PE X i ty) (hs : NoSl i) : PE X (.Subscript o i pos) (tDGet td ty) := by
  intro pins s σ H Q I h
  refine subD_of PySem.F.slot_dict_getitem.lookup hs (thn (ho pins s σ H _ I h) fun u s1 ⟨x, H1, I1, rx, q1⟩ => thn (hi pins s1 σ H1 _ I1 q1) fun iv s2 ⟨y, H2, I2, ry, a, v, ex, g, q2⟩ => ?_)
  subst ex
  obtain rfl : u = Value.ref a := rx
  exact ⟨dict_typeIs I2 g, d_getItem hu I2 g ry fun w' s3 I3 rw' => ⟨v, H2, I3, rw', q2⟩⟩
theorem pc_dnotin (hu : X.A.units + 1 < cLine) (hi : PE X i ty) (ho : PE X o td) : PC X .NotIn i o (tDNotIn ty td) := by
  intro pins s σ H Q I h
  refine thn (hi pins s σ H _ I h) fun iv s1 ⟨y, H1, I1, ry, q1⟩ => thn (ho pins s1 σ H1 _ I1 q1) fun u s2 ⟨x, H2, I2, rx, a, ov, ex, g, q2⟩ => ?_
  subst ex
  obtain rfl : u = Value.ref a := rx
  exact d_notIn hu I2 g ry fun s3 I3 => ⟨.bl (!ov.isSome), H2, I3, rfl, q2⟩
end


/-! ### displays -/
theorem dk_empty {P : Program} {w : World} {H : Hp} (h : Heap) (hb : sysModules < h.objs.size) : ObjOk P w H (h.push { cls := .type "dict", data := .dict #[] }) h.objs.size (.dK []) :=
  ⟨Nat.zero_le _, beq_eq_false_iff_ne.mpr (Ne.symm (Nat.ne_of_lt hb)), [], .nil, Heap.DictOf.new h⟩
/-- {}, to be a dict of the kind that is wanted -/
def tDNewK : TE := fun _ H Q => ∀ p, H p = none → Q (.ref p) (upd H p (.dK []))
section
variable {X : Cx} {pos : Pos}
theorem pe_dnewK : PE X (.Dict [] [] pos) tDNewK := fun pins s σ H Q I h =>
  wpAny_Dict_empty ⟨.ref s.heap.objs.size, _, I.laid (a := s.heap.objs.size) (o := .dK []) (t' := s.toks) (fun _ _ q => Heap.get?_push_of_some _ q) (Nat.le_refl _) (dk_empty s.heap I.big), rfl, h _ (I.hok.fresh (Nat.le_refl _))⟩
end

/-! ### methods -/
/-- a method call o.m(e) of a built-in, with one argument: what must be seen of the text -/
structure M1 (X : Cx) (o : Expr) (m : Str) (apos : Pos) (e : Expr) (cpos : Pos) : Prop where
  base : attributeBase o m X.env (eval o X.env) = eval o X.env
  few : ((backTo cpos (starEach [e] X.env)).all (fun x => !x.1) && (backToKw cpos (keywordEach [] X.env)).all (fun x => x.1.isSome)
    && decide (([e] : List Expr).length + ([] : List Keyword).length + (if ([] : List Keyword).isEmpty then 0 else 1) < 30)) = true
  line : (apos.endLine == cpos.line) = true
  trees : backTo cpos (starEach [e] X.env) = [(false, eval e X.env)]
structure M2 (X : Cx) (o : Expr) (m : Str) (apos : Pos) (e f : Expr) (cpos : Pos) : Prop where
  base : attributeBase o m X.env (eval o X.env) = eval o X.env
  few : ((backTo cpos (starEach [e, f] X.env)).all (fun x => !x.1) && (backToKw cpos (keywordEach [] X.env)).all (fun x => x.1.isSome)
    && decide (([e, f] : List Expr).length + ([] : List Keyword).length + (if ([] : List Keyword).isEmpty then 0 else 1) < 30)) = true
  line : (apos.endLine == cpos.line) = true
  trees : backTo cpos (starEach [e, f] X.env) = [(false, eval e X.env), (false, eval f X.env)]

section
variable {X : Cx} {pins : List (Addr × Obj)} {σ : St} {H : Hp} {s : Shared} {a : Addr} {y d : V} {u r : Value} {o : Option V} {A : Around} {E : Value → Shared → Prop}
end

section
variable {X : Cx} {o e f : Expr} {apos cpos : Pos} {td ty tx : TE}
end

/-! ### dict(d): a copy -/
section
variable {X : Cx} {pins : List (Addr × Obj)} {σ : St} {H : Hp} {s : Shared} {a : Addr} {kvs : List (Key × V)} {A : Around} {E : Value → Shared → Prop}
end


section
variable {X : Cx} {pins : List (Addr × Obj)} {σ : St} {H : Hp} {s : Shared} {a : Addr} {y : V} {u : Value} {A : Around} {E : Value → Shared → Prop}
end
end L2
/-! More rules over the hand layer: walks over a text, comprehensions, all, join, slices of a text, isinstance. -/
namespace L2
open PySem PySem.Spec PyProof.Rows

/-! ### the signs of a text, walked -/
def Its (x : Str) : It := ⟨fun i _ => i < x.cps.size, fun i H v H' => H' = H ∧ ∃ c, x.cps[i]? = some c ∧ v = .str ⟨#[c]⟩, fun i _ => x.cps.size ≤ i⟩
theorem turn_str {P : Program} {w : World} {K : PySem.W.Frag} {tg : Expr} (it : Addr) (T : String) (hT : T = "str_ascii_iterator" ∨ T = "str_iterator") (x : Str) (t : Tok) :
    Turn P w K tg (Its x) [it] it (fun i h => h.IsStrIter it T x t i) where
  mem := by simp
  obj := fun i h st b hb => by
    have e : b = it := by simpa using hb
    subst e
    obtain ⟨o, e, c, d⟩ := st
    exact ⟨o, e, fun v z => by rw [d] at z; cases z⟩
  keep := fun i h h' st k => by
    obtain ⟨o, e, r⟩ := st
    exact ⟨o, k it (by simp) o e, r⟩
  item := by
    intro X hP hw hK hc i pins s σ H E I hf st hg
    subst hP hw hK
    have hlt : i < x.cps.size := hg
    have hx : x.cps[i]? = some x.cps[i] := by simp [hlt]
    obtain ⟨f0, f1, f2, f3, f4, f5⟩ := hf it (by simp)
    have fin : ∀ h', h'.IsStrIter it T x t (i + 1) → Heap.SameBut it s.heap h' →
        ∃ u, (some (Value.str ⟨#[x.cps[i]]⟩ s.toks)) = some u ∧ wpAny (model X.prog X.w) X.A (letOwnedTupleGo tg (.ref it) u) (fun _ s2 => ∃ x_1 H', Inv X pins σ H' s2 ∧ RelV x_1 u ∧ (Its x).yld i H x_1 H' ∧ s2.heap.IsStrIter it T x t (i + 1) ∧ ∀ b ∈ [it], H' b = none) E { s with heap := h', toks := s.toks + 1 } := by
      intro h' st' sb
      have I1 : Inv X pins σ H { s with heap := h', toks := s.toks + 1 } := I.turned (fun b o hb e => (sb.2 b hb).trans e) f0 f1 f3 f4 f5
      obtain ⟨o, e, c, d⟩ := id st'
      refine ⟨_, rfl, go_of (s := { s with heap := h', toks := s.toks + 1 }) (n := T) e c d (by rcases hT with rfl | rfl <;> decide) ⟨.str ⟨#[x.cps[i]]⟩, H, I1, ⟨_, rfl⟩, ⟨rfl, _, hx, rfl⟩, st', fun b hb => (hf b hb).1⟩⟩
    rcases hT with rfl | rfl
    · exact wpAny_pyNext_ascii_item st hx fun h' st' sb => fin h' st' sb
    · exact wpAny_pyNext_wide_item st hx fun h' st' sb => fin h' st' sb
  done := by
    intro X hP hw hK hc i pins s σ H E I hf st hg
    subst hP hw hK
    have hge : x.cps.size ≤ i := hg
    have hx : x.cps[i]? = none := by simp [hge]
    obtain ⟨f0, f1, f2, f3, f4, f5⟩ := hf it (by simp)
    rcases hT with rfl | rfl
    · exact wpAny_pyNext_ascii_end (I.ok.hd hc) st hx fun h' eb => ⟨rfl, I.turned (t' := s.toks) (fun b o hb e => eb b o hb e) f0 f1 f3 f4 f5⟩
    · exact wpAny_pyNext_wide_end (I.ok.hd hc) st hx fun h' eb => ⟨rfl, I.turned (t' := s.toks) (fun b o hb e => eb b o hb e) f0 f1 f3 f4 f5⟩
  self := fun _ _ _ _ _ st h => by
    rcases hT with rfl | rfl
    · exact wpAny_pyIter_striter_ascii st h
    · exact wpAny_pyIter_striter_wide st h
def iStr (te : TE) : TI := fun σ H R => te σ H fun v H1 => ∃ x, v = .str x ∧ R (Its x) H1
theorem pi_str {X : Cx} {tg e : Expr} {te : TE} (he : PE X e te) : PI X tg e (iStr te) := by
  intro pins s σ H R I h
  refine thn (he pins s σ H _ I h) fun v s1 ⟨y, H1, I1, r1, q1⟩ => ?_
  obtain ⟨x, rfl, q⟩ := q1
  obtain ⟨t, rfl⟩ := r1
  have fp : ∀ (o : Obj), ∀ b ∈ [s1.heap.objs.size], FpOk X pins H1 b := fun o b hb => by
    have e : b = s1.heap.objs.size := by simpa using hb
    subst e
    exact I1.fpOk (Nat.le_refl _) (I1.hok.fresh (Nat.le_refl _))
  cases ha : x.cps.all (· < 128) with
  | true =>
    exact wpAny_pyIter_ascii ha ⟨s1.heap.objs.size, [s1.heap.objs.size], _, _, H1, rfl, I1.kept (t' := s1.toks) fun b o e => Heap.get?_push_of_some _ e, turn_str _ "str_ascii_iterator" (.inl rfl) x t, ⟨_, Heap.get?_push_size _ rfl, rfl, rfl⟩, fp default, q⟩
  | false =>
    exact wpAny_pyIter_wide ha ⟨s1.heap.objs.size, [s1.heap.objs.size], _, _, H1, rfl, I1.kept (t' := s1.toks) fun b o e => Heap.get?_push_of_some _ e, turn_str _ "str_iterator" (.inr rfl) x t, ⟨_, Heap.get?_push_size _ rfl, rfl, rfl⟩, fp default, q⟩

/-! ### comprehensions -/
/-- a comprehension's block, within the body X: its own names N' -/
def cxComp (X : Cx) (scope : Scope) (cl : List (Str × Addr)) (N' : List Str) (s : Shared) (H : Hp) (ex : List Addr) : Cx :=
  { X with N := N', s₀ := s, H₀ := H, env := compEnvC scope cl s.heap.objs.size X.env, outer := X.stack, ex := ex, fn := fun _ => false, pn := [], xe := fun _ _ => False }
/-- N' is n names of the comprehension's own (its targets), then captured ones, those of the body's places caps -/
structure CompOk (sc scope : Scope) (N N' : List Str) (n : Nat) (caps : List Nat) : Prop where
  kind : scope.kind = .function
  nocell : ∀ y ∈ scope.names, y.2 ≠ .cell
  loc : ∀ y ∈ scope.names, y.2 = .local → scope.names.lookup y.1 = some .local
  free : ∀ y ∈ scope.names, y.2 = .free → sc.names.lookup y.1 = some .cell ∨ sc.names.lookup y.1 = some .free
  nd : N'.Nodup
  len : N'.length = n + caps.length
  cap : ∀ k ∈ List.range caps.length, N'[n + k]? = (caps[k]?).bind (N[·]?) ∧ (N'[n + k]?).all (fun y => scope.names.lookup y == some .free) = true
def sComp (n : Nat) (caps : List Nat) (σ : St) : St := List.replicate n none ++ caps.map fun j => (σ[j]?).join
theorem sComp_len (n : Nat) (caps : List Nat) (σ : St) : (sComp n caps σ).length = n + caps.length := by simp [sComp]

theorem closure_some {env : Env} : ∀ (names : List (Str × NameKind)), (∀ x ∈ names, x.2 = .free → ∃ c, env.cells.lookup x.1 = some c) → ∀ acc : List (Str × Addr),
    ∃ cl : List (Str × Addr), (forIn names acc (fun (x : Str × NameKind) (cs : List (Str × Addr)) => if (x.2 == .free) = true then do let a ← cellOf env x.1; pure (ForInStep.yield ((x.1, a) :: cs)) else pure (ForInStep.yield cs)) : Sem (List (Str × Addr))) = pure cl ∧
      (∀ y c, cl.lookup y = some c → env.cells.lookup y = some c ∨ acc.lookup y = some c) ∧ (∀ x ∈ names, x.2 = .free → ∃ c, cl.lookup x.1 = some c) ∧ (∀ y c, acc.lookup y = some c → ∃ c', cl.lookup y = some c')
  | [], _, acc => ⟨acc, rfl, fun _ _ h => .inr h, (fun _ h => nomatch h), fun _ c h => ⟨c, h⟩⟩
  | (n, k) :: r, h, acc => by
    cases hk : (k == NameKind.free) with
    | true =>
      have hk' : k = .free := by simpa using hk
      obtain ⟨c, hc⟩ := h (n, k) List.mem_cons_self hk'
      obtain ⟨cl, e, h1, h2, h3⟩ := closure_some r (fun x hx => h x (List.mem_cons_of_mem _ hx)) ((n, c) :: acc)
      refine ⟨cl, ?_, fun y d hy => ?_, fun x hx hf => ?_, fun y d hy => ?_⟩
      · rw [List.forIn_cons]
        simp only [hk, if_true, cellOf, hc, pure_bind]
        exact e
      · rcases h1 y d hy with z | z
        · exact .inl z
        · rw [List.lookup_cons] at z
          cases q : (y == n) with
          | true =>
            rw [q] at z
            cases z
            have : y = n := by simpa using q
            subst this
            exact .inl hc
          | false =>
            rw [q] at z
            exact .inr z
      · rcases List.mem_cons.mp hx with rfl | hx
        · exact h3 n c (by simp [List.lookup_cons])
        · exact h2 x hx hf
      · by_cases q : y = n
        · subst q
          exact h3 y c (by simp [List.lookup_cons])
        · refine h3 y d ?_
          have : (y == n) = false := by simpa using q
          rw [List.lookup_cons, this]
          exact hy
    | false =>
      obtain ⟨cl, e, h1, h2, h3⟩ := closure_some r (fun x hx => h x (List.mem_cons_of_mem _ hx)) acc
      refine ⟨cl, ?_, h1, fun x hx hf => ?_, h3⟩
      · rw [List.forIn_cons]
        simp only [hk, Bool.false_eq_true, if_false, pure_bind]
        exact e
      · rcases List.mem_cons.mp hx with rfl | hx
        · have : k = .free := hf
          rw [this] at hk
          exact absurd hk (by decide)
        · exact h2 x hx hf
theorem closureFor_some {env : Env} {scope : Scope} (h : ∀ x ∈ scope.names, x.2 = .free → ∃ c, env.cells.lookup x.1 = some c) :
    ∃ cl : List (Str × Addr), closureFor scope env = pure cl ∧ (∀ y c, cl.lookup y = some c → env.cells.lookup y = some c) ∧ ∀ x ∈ scope.names, x.2 = .free → ∃ c, cl.lookup x.1 = some c := by
  obtain ⟨cl, e, h1, h2, _⟩ := closure_some scope.names h []
  refine ⟨cl, ?_, fun y c hy => (h1 y c hy).elim id (fun z => nomatch z), h2⟩
  simp only [closureFor]
  rw [← bind_pure (forIn _ _ _)] at e
  first
    | exact e
    | (refine Eq.trans ?_ e; rfl)
theorem lookup_relabel {env : Env} : ∀ (names : List (Str × NameKind)) (x : Str),
    (names.map fun (n, k) => if (k == NameKind.free && env.scope.kind == .function && env.kindOf n == some .cell) then (n, NameKind.cell) else (n, k)).lookup x =
      (names.lookup x).map fun k => if (k == NameKind.free && env.scope.kind == .function && env.kindOf x == some .cell) = true then NameKind.cell else k
  | [], _ => rfl
  | (n, k) :: r, x => by
    have ih := @lookup_relabel env r x
    have l1 : List.lookup x (((n, k) :: r).map fun (n, k) => if (k == NameKind.free && env.scope.kind == .function && env.kindOf n == some .cell) then (n, NameKind.cell) else (n, k)) =
        List.lookup x ((if (k == NameKind.free && env.scope.kind == .function && env.kindOf n == some .cell) = true then (n, NameKind.cell) else (n, k)) :: r.map fun (n, k) => if (k == NameKind.free && env.scope.kind == .function && env.kindOf n == some .cell) then (n, NameKind.cell) else (n, k)) := rfl
    rw [l1, List.lookup_cons (as := r)]
    by_cases hc : (k == NameKind.free && env.scope.kind == .function && env.kindOf n == some .cell) = true
    · rw [if_pos hc, List.lookup_cons]
      cases hx : x == n with
      | true =>
        have e : x = n := by simpa using hx
        subst e
        show some NameKind.cell = some (if (k == NameKind.free && env.scope.kind == .function && env.kindOf x == some .cell) = true then NameKind.cell else k)
        rw [if_pos hc]
      | false => exact ih
    · rw [if_neg hc, List.lookup_cons]
      cases hx : x == n with
      | true =>
        have e : x = n := by simpa using hx
        subst e
        show some k = some (if (k == NameKind.free && env.scope.kind == .function && env.kindOf x == some .cell) = true then NameKind.cell else k)
        rw [if_neg hc]
      | false => exact ih
end L2
namespace L2
open PySem PySem.Spec PyProof.Rows

section
variable {prog : Program} {w : World} {A : Around} {R : Result → Shared → Prop} {s : Shared}
/-- the loop of a comprehension, any target -/
theorem compLoop_any {elt target iter : Expr} {ifs : List Expr} {scope : Scope} {pos : Pos} {it acc : Value} {env : Env} (I : Nat → Shared → Prop)
    (turn : ∀ n s, I n s → wpAny (model prog w) A (pyNext it) (fun r s₁ => match r with
      | none => R (.ok .next) s₁
      | some v => wpAny (model prog w) A (letOwnedTupleGo target it v) (fun _ s₁' => wpAny (model prog w) A (assign target env v) (fun _ s₂ =>
          wpAny (model prog w) A (forIn ifs true fun c r => if r = true then do let ok ← isTrue c env (eval c env); pure (ForInStep.yield ok) else pure (ForInStep.yield r)) (fun ok s₃ =>
            if ok = true then wpAny (model prog w) A (eval elt env) (fun x s₄ =>
              wpAny (model prog w) A (call (.builtin "list.append") [acc, x]) (fun _ s₅ => ∃ m, m < n ∧ I m s₅) (fun _ _ => False) s₄) (fun _ _ => False) s₃
            else ∃ m, m < n ∧ I m s₃) (fun _ _ => False) s₂) (fun _ _ => False) s₁') (fun _ _ => False) s₁) (fun _ _ => False) s)
    (n : Nat) (h : I n s) :
    codeAny (model prog w) A (.compLoop (.ListComp elt [⟨target, iter, ifs, 0⟩] scope pos) 0 it acc env) R s := by
  refine codeAny_loop rfl I (fun n s hI => ?_) n h
  show wpAny _ A ((compTurn (.ListComp elt [⟨target, iter, ifs, 0⟩] scope pos) 0 it acc env).onRaise (fun x => do noteFrame x env; theTreesLotGoes x)) _ _ s
  refine wpAny_noted ?_
  rw [compTurn_list]
  refine wpAny_bind (wpAny_standAt (wpAny_bind (wpAny_mono (turn n s hI) (fun r s₁ h₁ => ?_) fun _ _ h' => h'.elim)))
  cases r with
  | none => exact wpAny_pure h₁
  | some v =>
    refine wpAny_bind (wpAny_mono h₁ (fun _ s₁' h₁' => ?_) fun _ _ h' => h'.elim)
    refine wpAny_bind (wpAny_mono h₁' (fun _ s₂ h₂ => wpAny_bind (wpAny_mono h₂ (fun ok s₃ h₃ => ?_) fun _ _ h' => h'.elim)) fun _ _ h' => h'.elim)
    cases ok with
    | false => exact wpAny_pure ⟨rfl, h₃⟩
    | true =>
      exact wpAny_bind (wpAny_bind (wpAny_mono h₃ (fun x s₄ h₄ => wpAny_bind (wpAny_mono h₄ (fun _ s₅ h₅ => wpAny_pure (wpAny_pure ⟨rfl, h₅⟩)) fun _ _ h' => h'.elim)) fun _ _ h' => h'.elim))
end

/-- the tests of a clause -/
def PF (X : Cx) (ifs : List Expr) (t : TT) : Prop :=
  ∀ (pins : List (Addr × Obj)) (s : Shared) (σ : St) (H : Hp) (Q : Bool → Hp → Prop), Inv X pins σ H s → t σ H Q →
    wpAny (model X.prog X.w) X.A (forIn ifs true fun c r => if r = true then do let ok ← isTrue c X.env (eval c X.env); pure (ForInStep.yield ok) else pure (ForInStep.yield r)) (TP X pins σ Q) X.xe s
theorem pf_nil {X : Cx} : PF X [] fun _ H Q => Q true H := fun _ _ _ H _ I h => wpAny_tests_nil ⟨H, I, h⟩
theorem pf_one {X : Cx} {c : Expr} {t : TT} (h : PT X c t) : PF X [c] t := fun pins s σ H Q I q => wpAny_tests_one (h pins s σ H Q I q)

/-- what a comprehension is worth: D the list that grows, W the invariant (turn, measure, the list so far, heap) -/
def Wk (σ σ' : St) : Prop := σ'.length = σ.length ∧ ∀ (j : Nat) (v : V), σ[j]? = some (some v) → σ'[j]? = some (some v)
def tComp (n : Nat) (caps : List Nat) (wi : TI) (g : TG) (tt : TT) (te : TE) : TE := fun σ H Q => wi σ H fun J H1 => ∀ D, H1 D = none →
  ∃ W : Nat → Nat → List V → Hp → Prop, (∃ m, W 0 m [] (upd H1 D (.lst []))) ∧ ∀ i m ys H2, W i m ys H2 →
    (J.stop i H2 ∧ Q (.ref D) H2) ∨ (J.go i H2 ∧ ∀ x H3, J.yld i H2 x H3 → g x (sComp n caps σ) H3 fun σ4 H4 => Wk (sComp n caps σ) σ4 ∧ tt σ4 H4 fun b H5 =>
      if b = true then te σ4 H5 fun y H6 => H6 D = some (.lst ys) ∧ ys.length < sizeLine ∧ ∃ m', m' < m ∧ W (i + 1) m' (ys ++ [y]) (upd H6 D (.lst (ys ++ [y]))) else ∃ m', m' < m ∧ W (i + 1) m' ys H5)

section
variable {X : Cx} {sc : Scope} {elt iter tg : Expr} {ifs : List Expr} {scope : Scope} {pos : Pos} {N' : List Str} {n : Nat} {caps : List Nat} {wi : TI} {g : TG} {tt : TT} {te : TE}

/-- where the block's own dict stands: nothing of the body's -/
def Aside (X : Cx) (pins : List (Addr × Obj)) (H : Hp) (C : Addr) : Prop :=
  H C = none ∧ C ≠ X.env.locals ∧ X.s₀.heap.objs.size ≤ C ∧ (∀ x c, X.env.cells.lookup x = some c → c ≠ C) ∧ ∀ p ∈ X.pn ++ pins, p.1 ≠ C

theorem comp_core {pins : List (Addr × Obj)} {σ : St} {H2 : Hp} {s2 : Shared} {it : Addr} {fp : List Addr} {tn : Nat → Heap → Prop} {J : It} {cl : List (Str × Addr)} {Q : VK} {RR : Value → Addr → Result → Shared → Prop} {E : Value → Shared → Prop}
    (hc : X.calm = true) (hsc : X.env.scope = sc) (ok : CompOk sc scope X.N N' n caps)
    (hcl1 : ∀ y c, cl.lookup y = some c → X.env.cells.lookup y = some c) (hcl2 : ∀ x ∈ scope.names, x.2 = .free → ∃ c, cl.lookup x.1 = some c)
    (hg : ∀ s H ex, PG (cxComp X scope cl N' s H ex) tg g) (ht : ∀ s H ex, PF (cxComp X scope cl N' s H ex) ifs tt) (he : ∀ s H ex, PE (cxComp X scope cl N' s H ex) elt te)
    (I2 : Inv X pins σ H2 s2) (T : Turn X.prog X.w X.K tg J fp it tn) (st2 : tn 0 s2.heap) (f2 : ∀ b ∈ fp, FpOk X pins H2 b)
    (q : ∀ D, H2 D = none → ∃ W : Nat → Nat → List V → Hp → Prop, (∃ m, W 0 m [] (upd H2 D (.lst []))) ∧ ∀ i m ys H2, W i m ys H2 →
      (J.stop i H2 ∧ Q (.ref D) H2) ∨ (J.go i H2 ∧ ∀ x H3, J.yld i H2 x H3 → g x (sComp n caps σ) H3 fun σ4 H4 => Wk (sComp n caps σ) σ4 ∧ tt σ4 H4 fun b H5 =>
        if b = true then te σ4 H5 fun y H6 => H6 D = some (.lst ys) ∧ ys.length < sizeLine ∧ ∃ m', m' < m ∧ W (i + 1) m' (ys ++ [y]) (upd H6 D (.lst (ys ++ [y]))) else ∃ m', m' < m ∧ W (i + 1) m' ys H5))
    (hend : ∀ (D C : Addr) (H' : Hp) (s' : Shared) (m : Str → Option Value), Inv X pins σ H' s' → Aside X pins H' C → s'.heap.Ns C m → Q (.ref D) H' → RR (.ref D) C (.ok .next) s') :
    wpAny (model X.prog X.w) X.A (newList []) (fun acc s₃ => wpAny (model X.prog X.w) X.A (newFunctionEnv scope X.env.globals cl [] X.env.qual none .none (some X.env)) (fun cenv s₄ =>
      codeAny (model X.prog X.w) X.A (.compStart (.ListComp elt [⟨tg, iter, ifs, 0⟩] scope pos) 0 (.ref it) acc { cenv with scope := relabel scope X.env }) (RR acc cenv.locals) s₄) E s₃) E s2 := by
  refine wpAny_newObj_type (wpAny_newFunctionEnv ok.nocell (by intro y hy; simp at hy) (fun h₁ hns₁ hsb₁ => ?_) ok.kind)
  dsimp only at hns₁ hsb₁ ⊢
  -- the list, its address
  obtain ⟨D, hD⟩ : ∃ D, D = s2.heap.objs.size := ⟨_, rfl⟩
  have I3 : Inv X pins σ (upd H2 s2.heap.objs.size (.lst [])) { s2 with heap := s2.heap.push { cls := .type "list", data := .seq ([] : List Value).toArray } } := I2.lnew (its := []) (t' := s2.toks) .nil (Nat.zero_le _)
  have hfD : H2 s2.heap.objs.size = none := I2.fresh
  obtain ⟨W, ⟨m0, w0⟩, turn⟩ := q s2.heap.objs.size hfD
  generalize hs3 : ({ s2 with heap := s2.heap.push { cls := .type "list", data := .seq ([] : List Value).toArray } } : Shared) = s3 at *
  have hs3h : s2.heap.push { cls := .type "list", data := .seq ([] : List Value).toArray } = s3.heap := by rw [← hs3]
  have hs3t : s2.toks = s3.toks := by rw [← hs3]
  rw [hs3h] at hns₁ hsb₁ ⊢
  generalize hH3 : upd H2 s2.heap.objs.size (HO.lst []) = H3 at *
  rw [← hD] at turn hH3 hfD ⊢
  have old : ∀ b o, s3.heap.get? b = some o → h₁.get? b = some o := fun b o e => hsb₁.extBut b o (Nat.ne_of_lt (Heap.lt_size e)) (Heap.get?_push_of_some _ e)
  have old2 : ∀ b o, s2.heap.get? b = some o → s3.heap.get? b = some o := fun b o e => by rw [← hs3h]; exact Heap.get?_push_of_some _ e
  have fpl : ∀ b ∈ fp, b < s3.heap.objs.size := fun b hb => by
    obtain ⟨o, e, _⟩ := T.obj _ _ st2 b hb
    exact Heap.lt_size (old2 b o e)
  have fpD : ∀ b ∈ fp, b ≠ D := fun b hb z => by
    obtain ⟨o, e, _⟩ := T.obj _ _ st2 b hb
    rw [z, hD] at e
    exact absurd (Heap.lt_size e) (Nat.lt_irrefl _)
  -- the block's context
  obtain ⟨X', hX'⟩ : ∃ X', X' = cxComp X scope cl N' s3 H3 fp := ⟨_, rfl⟩
  have okX : X'.Ok := by
    subst hX'
    refine ⟨I3.ok.mod, ok.kind, I3.ok.glob, I3.ok.blt, Nat.le_refl _, fun x y c h1 h2 => I3.ok.inj x y c (hcl1 x c h1) (hcl1 y c h2), fun x hx => ?_, fun x c h _ => absurd h (by simp [cxComp]), I3.ok.hd, I3.ok.frames, .inl rfl,
      fun b hb => ⟨Nat.ne_of_lt (fpl b hb), fun x c e => (f2 b hb).2.2.2.2.1 x c (hcl1 x c e)⟩, fun b o e => I3.bs b o e, Nat.le_trans I3.ok.bsz I3.sz, fun b o e hb => ?_, fun b hb hf => ?_, I3.stack, I3.stkFree⟩
    · have hx' : ((relabel scope X.env).names.lookup x = some .cell) ∨ ((relabel scope X.env).names.lookup x = some .free) := hx
      have q2 := lookup_relabel (env := X.env) scope.names x
      have q3 : (relabel scope X.env).names.lookup x = (scope.names.lookup x).map fun k => if (k == NameKind.free && X.env.scope.kind == .function && X.env.kindOf x == some .cell) = true then NameKind.cell else k := q2
      cases e : scope.names.lookup x with
      | none =>
        rw [q3, e] at hx'
        rcases hx' with z | z <;> cases z
      | some k =>
        have hk : k = .free := by
          rw [q3, e] at hx'
          have nc := ok.nocell (x, k) (PySem.mem_of_lookup e)
          cases k <;> first
            | rfl
            | exact absurd rfl nc
            | (rcases hx' with z | z <;> simp at z)
        subst hk
        exact hcl2 (x, .free) (PySem.mem_of_lookup e) rfl
    · rcases (f2 b hb).2.2.2.1 with z | z
      · exact I3.ok.noex b o e z
      · exact absurd (Nat.lt_of_lt_of_le (Heap.lt_size (I3.ok.bs b o e).1) z) (Nat.lt_irrefl _)
    · rcases List.mem_cons.mp (I3.stkSub b hf) with z | z
      · exact (f2 b hb).2.1 z
      · exact (f2 b hb).2.2.1 z
  have I4 : Inv X' [] (sComp n caps σ) H3 { s3 with heap := h₁, toks := s2.toks + ([] : List (Str × Value)).length } := by
    refine ⟨okX, ?_, ?_, ?_, ?_, fun x c e => ?_, ?_, fun x c e => ?_, fun p hp => ?_, (by subst hX'; exact I3.hok.kept old), ?_⟩
    · subst hX'; rfl
    · exact I3.bare
    · subst hX'; exact Un.kept old
    · subst hX'
      refine ⟨_, hns₁, fun i x v e1 e2 e3 => ?_⟩
      have hi : n ≤ i := by
        by_cases hi : i < n
        · unfold sComp at e2
          rw [List.getElem?_append_left (by simpa using hi), List.getElem?_replicate, if_pos hi] at e2
          cases e2
        · omega
      obtain ⟨k, rfl⟩ : ∃ k, i = n + k := ⟨i - n, by omega⟩
      have hk : k < caps.length := by
        have := (List.getElem?_eq_some_iff.mp e1).1
        have e5 : (cxComp X scope cl N' s3 H3 fp).N.length = n + caps.length := ok.len
        omega
      obtain ⟨c1, c2⟩ := ok.cap k (List.mem_range.mpr hk)
      have e1' : N'[n + k]? = some x := e1
      unfold sComp at e2
      rw [List.getElem?_append_right (by simp), List.length_replicate, Nat.add_sub_cancel_left, List.getElem?_map] at e2
      obtain ⟨j, hj⟩ : ∃ j, caps[k]? = some j := ⟨caps[k], by simp [hk]⟩
      rw [hj] at e2 c1
      have hj2 : X.N[j]? = some x := by rw [← e1', c1]; rfl
      have e2' : (σ[j]?).join = some v := Option.some.inj e2
      have e2'' : σ[j]? = some (some v) := by
        cases q : σ[j]? with
        | none => rw [q] at e2'; cases e2'
        | some o => rw [q] at e2'; rw [show o = some v from e2']
      rw [e1'] at c2
      have hfree : scope.names.lookup x = some .free := by simpa using c2
      have hvis := ok.free (x, .free) (PySem.mem_of_lookup hfree) rfl
      obtain ⟨m, hn, hl⟩ := I3.loc
      obtain ⟨u, ru, l⟩ := hl j x v hj2 e2'' (by
        rcases hvis with z | z
        · exact .inr (.inl (by rw [hsc]; exact z))
        · exact .inr (.inr (by rw [hsc]; exact z)))
      refine ⟨u, ru, .inr ⟨?_, ?_⟩⟩
      · have q3 : (relabel scope X.env).names.lookup x = (scope.names.lookup x).map fun k => if (k == NameKind.free && X.env.scope.kind == .function && X.env.kindOf x == some .cell) = true then NameKind.cell else k := lookup_relabel scope.names x
        rw [hfree] at q3
        show (relabel scope X.env).names.lookup x = _ ∨ (relabel scope X.env).names.lookup x = _
        rw [q3]
        by_cases hcc : (NameKind.free == NameKind.free && X.env.scope.kind == .function && X.env.kindOf x == some .cell) = true
        · left; simp only [Option.map_some, if_pos hcc]
        · right; simp only [Option.map_some, if_neg hcc]
      · obtain ⟨c', hc'⟩ := hcl2 (x, .free) (PySem.mem_of_lookup hfree) rfl
        rcases l with ⟨hkk, _⟩ | ⟨_, c, hc2, hcell⟩
        · have hkk' : X.env.scope.names.lookup x = some .local := hkk
          rw [hsc] at hkk'
          rcases hvis with z | z <;> (rw [hkk'] at z; cases z)
        · have := hcl1 x c' hc'
          rw [hc2] at this
          cases this
          obtain ⟨o, ho, hd⟩ := hcell
          exact ⟨_, hc', o, old _ o ho, hd⟩
    · have e' : cl.lookup x = some c := by subst hX'; exact e
      obtain ⟨v, o, ho, hd⟩ := I3.cell x c (hcl1 x c e')
      exact ⟨v, o, old _ o ho, hd⟩
    · subst hX'; exact I3.hok.fresh (Nat.le_refl _)
    · have e' : cl.lookup x = some c := by subst hX'; exact e
      exact I3.freeC x c (hcl1 x c e')
    · subst hX'; exact absurd hp (by simp [cxComp])
    · subst hX'
      show _ = N'.length
      rw [sComp_len, ok.len]
  have hX'c : X'.calm = true := by subst hX'; exact hc
  have hfpX : ∀ {H' : Hp}, (∀ b ∈ fp, H' b = none) → ∀ b ∈ fp, FpOk X' [] H' b := fun {H'} hn b hb => by
    subst hX'
    refine ⟨hn b hb, Nat.ne_of_lt (fpl b hb), fun hf => ?_, .inl hb, fun x c e => (f2 b hb).2.2.2.2.1 x c (hcl1 x c e), fun p hp => absurd hp (by simp [cxComp])⟩
    rcases List.mem_cons.mp (I3.stkSub b hf) with z | z
    · exact (f2 b hb).2.1 z
    · exact (f2 b hb).2.2.1 z
  have fr3 : ∀ b ∈ fp, H3 b = none := fun b hb => by rw [← hH3, upd_ne (fpD b hb)]; exact (f2 b hb).1
  have st4 : tn 0 h₁ := T.keep _ _ _ st2 fun b hb o e => old b o (old2 b o e)
  have loop : ∀ s4 : Shared, s4 = { s3 with heap := h₁, toks := s2.toks + ([] : List (Str × Value)).length } →
      codeAny (model X.prog X.w) X.A (.compLoop (.ListComp elt [⟨tg, iter, ifs, 0⟩] scope pos) 0 (.ref it) (.ref D) X'.env) (RR (.ref D) s3.heap.objs.size) s4 := by
    rintro s4 rfl
    refine compLoop_any (fun k s' => ∃ i ys H', Inv X' [] (sComp n caps σ) H' s' ∧ tn i s'.heap ∧ (∀ b ∈ fp, H' b = none) ∧ W i k ys H') ?_ m0 ⟨0, [], H3, I4, st4, fr3, w0⟩
    rintro k s5 ⟨i, ys, H5, I5, st5, fr5, w5⟩
    have eP : X'.prog = X.prog := by subst hX'; rfl
    have ew : X'.w = X.w := by subst hX'; rfl
    have eK : X'.K = X.K := by subst hX'; rfl
    have eA : X'.A = X.A := by subst hX'; rfl
    rcases turn i k ys H5 w5 with ⟨stop, qe⟩ | ⟨go, step⟩
    · have T' := T.done X' eP ew eK hX'c i [] s5 (sComp n caps σ) H5 (fun _ _ => False) I5 (hfpX fr5) st5 stop
      rw [eA] at T'
      refine thn T' fun r s6 ⟨hr, I6⟩ => ?_
      subst hr
      -- the block's end: back to the body
      have un6 : Un (frs X.stack) fp H3 H5 s3.heap s6.heap := by have := I6.base; subst hX'; exact this
      have hos : s6.os = s3.os := by have := I6.os; subst hX'; exact this
      have hok6 : HOk X.prog X.w H5 s6.heap := by have := I6.hok; subst hX'; exact this
      have IX : Inv X pins σ H5 s6 := I3.call' hos un6 hok6 I6.bare fun b hb => ⟨(f2 b hb).2.2.2.1, (f2 b hb).2.1, (f2 b hb).2.2.2.2.1, (f2 b hb).2.2.2.2.2⟩
      obtain ⟨m6, hn6, _⟩ := I6.loc
      have hn6' : s6.heap.Ns s3.heap.objs.size m6 := by subst hX'; exact hn6
      refine hend D s3.heap.objs.size H5 s6 m6 IX ⟨by have := I6.free; subst hX'; exact this, Nat.ne_of_gt I3.lt, I3.sz, fun x c e z => ?_, fun p hp z => ?_⟩ hn6' qe
      · obtain ⟨v, qc⟩ := I3.cell x c e
        exact absurd (Nat.lt_of_lt_of_le qc.lt (Nat.le_of_eq z.symm)) (Nat.lt_irrefl _)
      · exact absurd (Nat.lt_of_lt_of_le (Heap.lt_size (I3.pin p hp).1) (Nat.le_of_eq z.symm)) (Nat.lt_irrefl _)
    · have T' := T.item X' eP ew eK hX'c i [] s5 (sComp n caps σ) H5 (fun _ _ => False) I5 (hfpX fr5) st5 go
      rw [eA] at T'
      refine thn T' fun r s6 ⟨u, hr, h6⟩ => ?_
      subst hr
      refine thn h6 fun _ s7 ⟨x, H7, I7, r7, y7, st7, fr7⟩ => ?_
      have I7' := I7.pinned (hfpX fr7) (T.obj _ _ st7)
      have hg' := hg s3 H3 fp
      have ht' := ht s3 H3 fp
      have he' := he s3 H3 fp
      rw [← hX'] at hg' ht' he'
      have g1 := hg' _ s7 (sComp n caps σ) H7 x u _ I7' r7 (step x H7 y7)
      rw [eP, ew, eA] at g1
      have exe : X'.xe = fun _ _ => False := by subst hX'; rfl
      rw [exe] at g1
      refine thn g1 fun _ s8 ⟨σ8, H8, I8, wk8, q8⟩ => ?_
      have t1 := ht' _ s8 σ8 H8 _ I8 q8
      rw [eP, ew, eA, exe] at t1
      refine thn t1 fun b s9 ⟨H9, I9, q9⟩ => ?_
      have back : ∀ {σa : St} {Ha : Hp} {sa : Shared} {ysa : List V} {ma : Nat}, Inv X' ([] ++ pinsAt fp s7.heap) σa Ha sa → σa.length = (sComp n caps σ).length → (∀ (j : Nat) v, (sComp n caps σ)[j]? = some (some v) → σa[j]? = some (some v)) → W (i + 1) ma ysa Ha →
          ∃ i ys H', Inv X' [] (sComp n caps σ) H' sa ∧ tn i sa.heap ∧ (∀ b ∈ fp, H' b = none) ∧ W i ma ys H' := fun {σa Ha sa ysa ma} Ia hl hw wa => by
        refine ⟨i + 1, ysa, Ha, (Ia.weak hl.symm hw).unpinned, T.keep _ _ _ st7 fun b hb o e => (Ia.pin (b, o) (List.mem_append_right _ (List.mem_append_right _ (mem_pinsAt hb e)))).1, fun b hb => ?_, wa⟩
        obtain ⟨o, e, d⟩ := T.obj _ _ st7 b hb
        exact (Ia.pin (b, o) (List.mem_append_right _ (List.mem_append_right _ (mem_pinsAt hb e)))).2.1
      cases b with
      | false =>
        rw [if_neg Bool.false_ne_true]
        rw [if_neg Bool.false_ne_true] at q9
        obtain ⟨m', hm, w9⟩ := q9
        exact ⟨m', hm, back I9 wk8.1 wk8.2 w9⟩
      | true =>
        rw [if_pos rfl]
        rw [if_pos rfl] at q9
        have e1 := he' _ s9 σ8 H9 _ I9 q9
        rw [eP, ew, eA, exe] at e1
        refine thn e1 fun v s10 ⟨y, H10, I10, r10, hD10, hlen, m', hm, w10⟩ => ?_
        have a1 := mt_append (X := X') _ s10 σ8 H10 (.ref D) [y] (.ref D) [v] (fun _ H' => W (i + 1) m' (ys ++ [y]) H') I10 rfl (.cons r10 .nil) ⟨D, ys, y, rfl, rfl, hD10, hlen, w10⟩
        rw [eP, ew, eA, exe] at a1
        refine thn a1 fun _ s11 ⟨_, H11, I11, _, w11⟩ => ?_
        exact ⟨m', hm, back I11 wk8.1 wk8.2 w11⟩
  subst hX'
  exact codeAny_compStart_list (loop _ (by rw [← hs3])) (T.self X.A 0 _ _ _ st4 (loop _ (by rw [← hs3])))

/-- a comprehension as a value -/
theorem pe_comp (hc : X.calm = true) (hsc : X.env.scope = sc) (ok : CompOk sc scope X.N N' n caps) (hi : PI X tg iter wi)
    (hg : ∀ cl s H ex, PG (cxComp X scope cl N' s H ex) tg g) (ht : ∀ cl s H ex, PF (cxComp X scope cl N' s H ex) ifs tt) (he : ∀ cl s H ex, PE (cxComp X scope cl N' s H ex) elt te)
    (hs : ∀ x, foldedSetIterable iter X.env x = pure x := by intro _; rfl) :
    PE X (.ListComp elt [⟨tg, iter, ifs, 0⟩] scope pos) (tComp n caps wi g tt te) := by
  intro pins s σ H Q I h
  obtain ⟨cl, hclos, hcl1, hcl2⟩ := closureFor_some (env := X.env) (scope := scope) fun x hx hf => I.ok.has x.1 (by
    rcases ok.free x hx hf with z | z
    · exact .inl (by show X.env.scope.names.lookup x.1 = _; rw [hsc]; exact z)
    · exact .inr (by show X.env.scope.names.lookup x.1 = _; rw [hsc]; exact z))
  rw [eval_ListComp]
  refine wpAny_comprehension_free (use := none) rfl hs hclos ok.kind ok.loc (thn (hi pins s σ H _ I h) fun v s1 h1 => thn h1 fun itv s2 h2 => ?_)
  obtain ⟨it, fp, tn, J, H2, rfl, I2, T, st2, f2, q2⟩ := h2
  refine comp_core (Q := Q) (RR := fun acc C => compPost (model X.prog X.w) X.A X.xe none (EP X pins σ Q) acc C) hc hsc ok hcl1 hcl2 (hg cl) (ht cl) (he cl) I2 T st2 f2 q2 ?_
  intro D C H' s' m IX as hn qe
  refine ⟨m, hn, fun h' sb => ⟨.ref D, H', IX.turned (t' := s'.toks) (fun b o hb e => (sb.2 b hb).trans e) as.1 as.2.1 (.inr as.2.2.1) as.2.2.2.1 as.2.2.2.2, rfl, qe⟩⟩
/-- y = [.. for ..] -/
theorem ps_setComp {i : Nat} {y : Str} {py spos : Pos} (hN : X.N.Nodup) (hiN : X.N[i]? = some y) (hy : Loc X.env.scope y) (hc : X.calm = true) (hsc : X.env.scope = sc) (ok : CompOk sc scope X.N N' n caps) (hi : PI X tg iter wi)
    (hg : ∀ cl s H ex, PG (cxComp X scope cl N' s H ex) tg g) (ht : ∀ cl s H ex, PF (cxComp X scope cl N' s H ex) ifs tt) (he : ∀ cl s H ex, PE (cxComp X scope cl N' s H ex) elt te)
    (hsw : swapsWith (.ListComp elt [⟨tg, iter, ifs, 0⟩] scope pos) (some (.Name y py)) spos.line X.env = pure true := by rfl)
    (hs : ∀ x, foldedSetIterable iter X.env x = pure x := by intro _; rfl)
    (hf : X.fn y = true ∨ X.env.scope.names.lookup y = some .local := by first | exact .inl rfl | exact .inr rfl | assumption) :
    PS X (.Assign [.Name y py] (.ListComp elt [⟨tg, iter, ifs, 0⟩] scope pos) spos) (fun D σ H => tComp n caps wi g tt te σ H fun v H' => D.nx (σ.set i (some v)) H') := by
  intro pins s σ H D I h
  obtain ⟨cl, hclos, hcl1, hcl2⟩ := closureFor_some (env := X.env) (scope := scope) fun x hx hf => I.ok.has x.1 (by
    rcases ok.free x hx hf with z | z
    · exact .inl (by show X.env.scope.names.lookup x.1 = _; rw [hsc]; exact z)
    · exact .inr (by show X.env.scope.names.lookup x.1 = _; rw [hsc]; exact z))
  rw [exec_Assign_Name_used _ _ _ _ hsw]
  refine wpAny_bind (wpAny_standAt (wpAny_bind ?_))
  show wpAny _ X.A (do let _ ← comprehension (.ListComp elt [⟨tg, iter, ifs, 0⟩] scope pos) scope X.env _ (newList []) false (eval iter X.env) (some (assign (.Name y py) X.env))) _ _ s
  refine wpAny_bind (wpAny_mono (wpAny_comprehension_free (use := some (assign (.Name y py) X.env)) (Q := fun _ s' => SP X pins D .next s') rfl hs hclos ok.kind ok.loc
    (thn (hi pins s σ H _ I h) fun v s1 h1 => thn h1 fun itv s2 h2 => ?_)) (fun _ s' hq => wpAny_pure (wpAny_pure hq)) fun _ _ e => e)
  obtain ⟨it, fp, tn, J, H2, rfl, I2, T, st2, f2, q2⟩ := h2
  refine comp_core (Q := fun v H' => D.nx (σ.set i (some v)) H') (RR := fun acc C => compPost (model X.prog X.w) X.A X.xe (some (assign (.Name y py) X.env)) (fun _ s' => SP X pins D .next s') acc C) hc hsc ok hcl1 hcl2 (hg cl) (ht cl) (he cl) I2 T st2 f2 q2 ?_
  intro Da C H' s' m IX as hn qe
  show wpAny _ X.A (assign (.Name y py) X.env (.ref Da)) _ _ _
  refine wpAny_assign_Name (store_ok2 IX hN hiN hy (v := .ref Da) rfl (fun s'' I'' ⟨a, sb, ha⟩ => ?_) hf)
  have hCa : C ≠ a := by
    rcases ha with z | z
    · rw [z]; exact as.2.1
    · exact Ne.symm (as.2.2.2.1 y a z)
  refine ⟨m, hn.sameBut sb hCa, fun h' sb' => ⟨_, H', I''.turned (t' := s''.toks) (fun b o hb e => (sb'.2 b hb).trans e) as.1 as.2.1 (.inr as.2.2.1) as.2.2.2.1 as.2.2.2.2, qe⟩⟩
end
end L2
/-! Data, and what a pure piece of the text is worth as a function over data. -/
namespace DL
open PySem PySem.Spec PyProof.Rows

inductive D where
  | non | bl (b : Bool) | int (i : Int) | str (x : Str) | tup (ds : List D) | lst (ds : List D) | dct (ks : List (Sum Int Str)) (ds : List D)
  deriving Inhabited
/-- a name of a body: unknown, a value, a list or dict of its own -/
inductive Sl where
  | un | sh (d : D) | ow (d : D)
abbrev Ds := List Sl
inductive Res where
  | nx (δ : Ds) | rt (d : D) | bk (δ : Ds) | ct (δ : Ds) | rf (d : D)
abbrev GE := Ds → Option D
abbrev GB := Ds → Option Bool
abbrev GA := Ds → Option (List D)
abbrev GS := Ds → Option Res
@[simp] def asB : D → Option Bool
  | .bl b => some b
  | _ => none
@[simp] def asI : D → Option Int
  | .int i => some i
  | _ => none
@[simp] def gv (i : Nat) : GE := fun δ => match δ[i]? with
  | some (.sh d) => some d
  | _ => none
@[simp] def gc (d : D) : GE := fun _ => some d
@[simp] def o2 (ga gb : GE) (f : D → D → Option D) : GE := fun δ => (ga δ).bind fun x => (gb δ).bind fun y => f x y
@[simp] def ob (g : GE) : GB := fun δ => (g δ).bind asB
@[simp] def tNotG (g : GB) : GB := fun δ => (g δ).map (!·)
@[simp] def tAndG (gt gu : GB) : GB := fun δ => (gt δ).bind fun t => if t = true then gu δ else some false
@[simp] def tOrG (gt gu : GB) : GB := fun δ => (gt δ).bind fun t => if t = true then some true else gu δ
@[simp] def andG (ga gb : GE) : GE := fun δ => (ob ga δ).bind fun t => if t = true then gb δ else some (.bl false)
@[simp] def orG (ga gb : GE) : GE := fun δ => (ob ga δ).bind fun t => if t = true then some (.bl true) else gb δ
@[simp] def notG (ga : GE) : GE := fun δ => (ob ga δ).map fun t => .bl (!t)
@[simp] def ifG (gt : GB) (ga gb : GE) : GE := fun δ => (gt δ).bind fun t => if t = true then ga δ else gb δ
@[simp] def nilA : GA := fun _ => some []
@[simp] def consA (g : GE) (gA : GA) : GA := fun δ => (g δ).bind fun d => (gA δ).map fun ds => d :: ds
@[simp] def tupG (gA : GA) : GE := fun δ => (gA δ).bind fun ds => if ds.length ≤ sizeLine then some (.tup ds) else none
@[simp] def lstG (gA : GA) : GE := fun δ => (gA δ).bind fun ds => if ds.length ≤ sizeLine then some (.lst ds) else none
@[simp] def oA (gA : GA) (f : List D → Option D) : GE := fun δ => (gA δ).bind f
@[simp] def isiG (f : D → Bool) (g : GE) : GE := fun δ => (g δ).map fun d => .bl (f d)
@[simp] def negD (d : D) : Option D := match d with
  | .int i => some (.int (-i))
  | _ => none
@[simp] def unG (f : D → Option D) (g : GE) : GE := fun δ => (g δ).bind f
/-! statements -/
@[simp] def seqD (G1 G2 : GS) : GS := fun δ => match G1 δ with
  | some (.nx δ') => G2 δ'
  | r => r
@[simp] def nilD : GS := fun δ => some (.nx δ)
@[simp] def retD (g : GE) : GS := fun δ => (g δ).map .rt
@[simp] def gN (i : Nat) : D → Ds → Option Ds := fun d δ => some (δ.set i (.sh d))
@[simp] def setD (f : D → Ds → Option Ds) (g : GE) : GS := fun δ => (g δ).bind fun d => (f d δ).map .nx
@[simp] def ifD (gt : GB) (Ga Gb : GS) : GS := fun δ => (gt δ).bind fun t => if t = true then Ga δ else Gb δ
@[simp] def dropD (g : GE) : GS := fun δ => (g δ).map fun _ => .nx δ
def forD (f : D → Ds → Option Ds) (G : GS) : List D → Ds → Option Res
  | [], δ => some (.nx δ)
  | d :: ds, δ => match (f d δ).bind G with
    | some (.nx δ') => forD f G ds δ'
    | some (.ct δ') => forD f G ds δ'
    | some (.bk δ') => some (.nx δ')
    | r => r
@[simp] def forG (gi : GA) (f : D → Ds → Option Ds) (G : GS) : GS := fun δ => (gi δ).bind fun items => forD f G items δ
/-! walks -/
@[simp] def asLst : D → Option (List D)
  | .lst ds => some ds
  | _ => none
@[simp] def asTup : D → Option (List D)
  | .tup ds => some ds
  | _ => none
def signs (x : Str) : List D := x.cps.toList.map fun c => .str ⟨#[c]⟩
@[simp] def asSigns : D → Option (List D)
  | .str x => some (signs x)
  | _ => none
@[simp] def lstI (g : GE) : GA := fun δ => (g δ).bind asLst
@[simp] def tupI (g : GE) : GA := fun δ => (g δ).bind asTup
@[simp] def strI (g : GE) : GA := fun δ => (g δ).bind asSigns
def rngD (lo hi : Int) : List D := (List.range (hi - lo).toNat).map fun k => .int (lo + (k : Nat))
@[simp] def rng1D (ds : List D) : Option (List D) := match ds with
  | [.int j] => if -(2 ^ 62) ≤ j ∧ j < 2 ^ 62 then some (rngD 0 j) else none
  | _ => none
@[simp] def rng2D (ds : List D) : Option (List D) := match ds with
  | [.int i, .int j] => if (-(2 ^ 62) ≤ i ∧ i < 2 ^ 62) ∧ -(2 ^ 62) ≤ j ∧ j < 2 ^ 62 then some (rngD i j) else none
  | _ => none
@[simp] def rng1I (gA : GA) : GA := fun δ => (gA δ).bind rng1D
@[simp] def rng2I (gA : GA) : GA := fun δ => (gA δ).bind rng2D
/-! comprehensions -/
@[simp] def noT : GB := fun _ => some true
@[simp] def capSl : Option Sl → Sl
  | some (.sh d) => .sh d
  | _ => .un
@[simp] def dComp (n : Nat) (caps : List Nat) (δ : Ds) : Ds := List.replicate n .un ++ caps.map fun j => capSl δ[j]?
def compD (f : D → Ds → Option Ds) (gt : GB) (ge : GE) (δ : Ds) : List D → Option (List D)
  | [] => some []
  | d :: ds => match f d δ with
    | none => none
    | some δ' => match gt δ' with
      | none => none
      | some false => compD f gt ge δ ds
      | some true => match ge δ' with
        | none => none
        | some y => (compD f gt ge δ ds).map fun r => y :: r
@[simp] def compG (n : Nat) (caps : List Nat) (gi : GA) (f : D → Ds → Option Ds) (gt : GB) (ge : GE) : GE :=
  fun δ => (gi δ).bind fun items => if items.length ≤ sizeLine then (compD f gt ge (dComp n caps δ) items).map .lst else none
@[simp] def dStart (N : List Str) (ds : List D) : Ds := ds.map .sh ++ List.replicate (N.length - ds.length) .un
/-! operations -/
@[simp] def isInt : D → Bool
  | .int _ => true | .bl _ => true | _ => false
@[simp] def isStr : D → Bool
  | .str _ => true | _ => false
@[simp] def isBool : D → Bool
  | .bl _ => true | _ => false
@[simp] def isTup : D → Bool
  | .tup _ => true | _ => false
@[simp] def isLst : D → Bool
  | .lst _ => true | _ => false
@[simp] def ii (f : Int → Int → Option D) : D → D → Option D
  | .int i, .int j => f i j
  | _, _ => none
@[simp] def subD : D → D → Option D := ii fun i j => some (.int (i - j))
@[simp] def mulD : D → D → Option D := ii fun i j => if (-(2 ^ 64) < i ∧ i < 2 ^ 64) ∨ (-(2 ^ 64) < j ∧ j < 2 ^ 64) then some (.int (i * j)) else none
@[simp] def fdivD : D → D → Option D := ii fun i j => if 0 < j ∧ j < 1073741824 then some (.int (i / j)) else none
@[simp] def modD : D → D → Option D := ii fun i j => if 0 < j then some (.int (i % j)) else none
@[simp] def powD : D → D → Option D := ii fun i j => if 0 ≤ j ∧ j ≤ 1000000 ∧ i.natAbs < 2 ^ 64 then some (.int (i ^ j.toNat)) else none
@[simp] def addD : D → D → Option D
  | .int i, .int j => some (.int (i + j))
  | .str x, .str y => if x.length + y.length ≤ sizeLine then some (.str (x ++ y)) else none
  | .lst xs, .lst ys => if xs.length + ys.length ≤ sizeLine then some (.lst (xs ++ ys)) else none
  | .tup xs, .tup ys => if xs ≠ [] ∧ xs.length + ys.length ≤ sizeLine then some (.tup (xs ++ ys)) else none
  | _, _ => none
@[simp] def ltD : D → D → Option D := ii fun i j => some (.bl (decide (i < j)))
@[simp] def leD : D → D → Option D := ii fun i j => some (.bl (decide (i ≤ j)))
@[simp] def gtD : D → D → Option D := ii fun i j => some (.bl (decide (j < i)))
@[simp] def geD : D → D → Option D := ii fun i j => some (.bl (decide (j ≤ i)))
@[simp] def eqS : D → D → Option Bool
  | .non, .non => some true
  | .non, .int _ => some false | .int _, .non => some false | .non, .bl _ => some false | .bl _, .non => some false | .non, .str _ => some false | .str _, .non => some false
  | .int i, .int j => some (decide (i = j))
  | .bl i, .bl j => some (decide (i = j))
  | .str i, .str j => some (decide (i = j))
  | .int _, .str _ => some false | .str _, .int _ => some false | .bl _, .str _ => some false | .str _, .bl _ => some false
  | _, _ => none
@[simp] def eqD (x y : D) : Option D := (eqS x y).map .bl
@[simp] def neD (x y : D) : Option D := (eqS x y).map fun b => .bl (!b)
def inS (x y : Str) : Bool := !(Builtin.Str.occurrences y x 0 y.length 1).isEmpty
@[simp] def inD : D → D → Option D
  | .str x, .str y => some (.bl (inS x y))
  | _, _ => none
@[simp] def ninD : D → D → Option D
  | .str x, .str y => some (.bl (!inS x y))
  | _, _ => none
@[simp] def isNon : D → Bool
  | .non => true | _ => false
@[simp] def isND (x y : D) : Option D := match y with
  | .non => some (.bl (isNon x))
  | _ => none
def ixN (n : Nat) (i : Int) : Option Nat := if 0 ≤ i then (if i < n then some i.toNat else none) else if -(n : Int) ≤ i then some (i + n).toNat else none
def atI {α : Type} (xs : List α) (i : Int) : Option α := (ixN xs.length i).bind fun j => xs[j]?
@[simp] def ixD : D → D → Option D
  | .lst xs, .int i => atI xs i
  | .tup xs, .int i => atI xs i
  | .str z, .int i => if z.length ≤ sizeLine then (atI z.cps.toList i).map fun c => .str ⟨#[c]⟩ else none
  | _, _ => none
def sIx (n d : Nat) : Option Int → Nat
  | none => d
  | some v => if v < 0 then (v + (n : Int)).toNat else min v.toNat n
def cutD (xs : List D) (lo hi : Option Int) : List D := (xs.drop (sIx xs.length 0 lo)).take (sIx xs.length xs.length hi - sIx xs.length 0 lo)
@[simp] def slD (d : D) (lo hi : Option Int) : Option D := match d with
  | .str z => if z.length ≤ sizeLine then some (.str (Txt.slice z lo hi)) else none
  | .lst xs => some (.lst (cutD xs lo hi))
  | .tup xs => if sIx xs.length 0 lo = 0 ∧ sIx xs.length xs.length hi = xs.length then none else some (.tup (cutD xs lo hi))
  | _ => none
abbrev GO := Ds → Option (Option Int)
@[simp] def noneO : GO := fun _ => some none
@[simp] def someO (g : GE) : GO := fun δ => (g δ).bind fun d => (asI d).map some
@[simp] def slG (g : GE) (gl gh : GO) : GE := fun δ => (g δ).bind fun d => (gl δ).bind fun l => (gh δ).bind fun h => slD d l h
@[simp] def lenD : List D → Option D
  | [.str z] => if z.length ≤ sizeLine then some (.int z.length) else none
  | [.lst xs] => some (.int xs.length)
  | [.tup xs] => some (.int xs.length)
  | _ => none
@[simp] def absD : List D → Option D
  | [.int i] => some (.int (if i < 0 then -i else i))
  | _ => none
def bools : List D → Option (List Bool)
  | [] => some []
  | .bl b :: ds => (bools ds).map fun r => b :: r
  | _ => none
@[simp] def allD : List D → Option D
  | [.lst ds] => (bools ds).map fun bs => .bl (bs.all id)
  | _ => none
@[simp] def strOfD : List D → Option D
  | [.int i] => if i.natAbs.log2 < 1920 then some (.str (toString i)) else none
  | _ => none
def strL : List D → Option (List Str)
  | [] => some []
  | .str b :: ds => (strL ds).map fun r => b :: r
  | _ => none
@[simp] def joinD (d : D) (ds : List D) : Option D := match d, ds with
  | .str sep, [.lst xs] => (strL xs).bind fun ys => if (ys.map (·.length)).sum + ys.length * sep.length ≤ 16777216 then some (.str (Txt.join sep ys)) else none
  | _, _ => none
@[simp] def joinG (g : GE) (gA : GA) : GE := fun δ => (g δ).bind fun d => (gA δ).bind fun ds => joinD d ds
@[simp] def tupOfD : List D → Option D
  | [.lst ds] => some (.tup ds)
  | [.tup ds] => some (.tup ds)
  | _ => none

/-! ### over data alone -/
theorem compD_filter {f : D → Ds → Option Ds} {gt : GB} {ge : GE} {δ : Ds} (p : D → Bool) (h : D → D) : ∀ {items : List D}, (∀ d ∈ items, ∃ δ', f d δ = some δ' ∧ gt δ' = some (p d) ∧ (p d = true → ge δ' = some (h d))) →
    compD f gt ge δ items = some ((items.filter p).map h)
  | [], _ => rfl
  | d :: ds, H => by
    obtain ⟨δ', e1, e2, e3⟩ := H d List.mem_cons_self
    have ih := compD_filter p h fun d hd => H d (List.mem_cons_of_mem _ hd)
    unfold compD
    rw [e1]
    dsimp only
    rw [e2]
    cases hp : p d with
    | false =>
      dsimp only
      rw [List.filter_cons_of_neg (by simp [hp])]
      exact ih
    | true =>
      dsimp only
      rw [e3 hp, ih, List.filter_cons_of_pos hp]
      rfl
theorem compD_map {f : D → Ds → Option Ds} {gt : GB} {ge : GE} {δ : Ds} (h : D → D) {items : List D} (H : ∀ d ∈ items, ∃ δ', f d δ = some δ' ∧ gt δ' = some true ∧ ge δ' = some (h d)) : compD f gt ge δ items = some (items.map h) := by
  have := compD_filter (f := f) (gt := gt) (ge := ge) (δ := δ) (fun _ => true) h (items := items) fun d hd => by
    obtain ⟨δ', a, b, c⟩ := H d hd
    exact ⟨δ', a, b, fun _ => c⟩
  rw [List.filter_eq_self.mpr (by simp)] at this
  exact this
theorem bools_map {α : Type} (h : α → Bool) : ∀ l : List α, bools (l.map fun a => .bl (h a)) = some (l.map h)
  | [] => rfl
  | a :: l => by
    show (bools (l.map fun a => .bl (h a))).map (fun r => h a :: r) = _
    rw [bools_map h l]
    rfl
theorem strs_map {α : Type} (h : α → Str) : ∀ l : List α, strL (l.map fun a => .str (h a)) = some (l.map h)
  | [] => rfl
  | a :: l => by
    show (strL (l.map fun a => .str (h a))).map (fun r => h a :: r) = _
    rw [strs_map h l]
    rfl
/-- a loop whose every turn goes on -/
theorem forD_inv {f : D → Ds → Option Ds} {G : GS} (P : Nat → Ds → Prop) : ∀ (items : List D) (i : Nat) (δ : Ds), (∀ j d δ, items[j]? = some d → P (i + j) δ → ∃ δ1 δ2, f d δ = some δ1 ∧ G δ1 = some (.nx δ2) ∧ P (i + j + 1) δ2) → P i δ →
    ∃ δ', forD f G items δ = some (.nx δ') ∧ P (i + items.length) δ'
  | [], i, δ, _, h => ⟨δ, rfl, h⟩
  | d :: ds, i, δ, H, h => by
    obtain ⟨δ1, δ2, e1, e2, h2⟩ := H 0 d δ rfl h
    obtain ⟨δ', e3, h3⟩ := forD_inv P ds (i + 1) δ2 (fun j d δ hj hp => by
      have q : i + (j + 1) = i + 1 + j := by omega
      obtain ⟨a, b, c, d', e⟩ := H (j + 1) d δ (by simpa using hj) (by rw [q]; exact hp)
      exact ⟨a, b, c, d', by rw [q] at e; exact e⟩) h2
    have q : i + (d :: ds).length = i + 1 + ds.length := by rw [List.length_cons]; omega
    refine ⟨δ', ?_, by rw [q]; exact h3⟩
    unfold forD
    rw [e1]
    simp only [Option.bind_some, e2]
    exact e3
theorem seq_nx {G1 G2 : GS} {δ δ' : Ds} (h : G1 δ = some (.nx δ')) : seqD G1 G2 δ = G2 δ' := by unfold seqD; rw [h]
theorem seq_rt {G1 G2 : GS} {δ : Ds} {d : D} (h : G1 δ = some (.rt d)) : seqD G1 G2 δ = some (.rt d) := by unfold seqD; rw [h]
theorem ret_of {g : GE} {δ : Ds} {d : D} (h : g δ = some d) : retD g δ = some (.rt d) := by unfold retD; rw [h]; rfl
theorem set_of {g : GE} {i : Nat} {δ : Ds} {d : D} (h : g δ = some d) : setD (gN i) g δ = some (.nx (δ.set i (.sh d))) := by unfold setD; rw [h]; rfl
theorem if_t {g : GB} {Ga Gb : GS} {δ : Ds} (h : g δ = some true) : ifD g Ga Gb δ = Ga δ := by unfold ifD; rw [h]; rfl
theorem if_f {g : GB} {Ga Gb : GS} {δ : Ds} (h : g δ = some false) : ifD g Ga Gb δ = Gb δ := by unfold ifD; rw [h]; rfl
theorem comp_of {n : Nat} {caps : List Nat} {gi : GA} {f : D → Ds → Option Ds} {gt : GB} {ge : GE} {δ : Ds} {items out : List D} (h1 : gi δ = some items) (h2 : items.length ≤ sizeLine) (h3 : compD f gt ge (dComp n caps δ) items = some out) : compG n caps gi f gt ge δ = some (.lst out) := by
  unfold compG
  rw [h1]
  show (if items.length ≤ sizeLine then (compD f gt ge (dComp n caps δ) items).map D.lst else none) = _
  rw [if_pos h2, h3]
  rfl
theorem for_of {gi : GA} {f : D → Ds → Option Ds} {G : GS} {δ : Ds} {items : List D} {r : Option Res} (h1 : gi δ = some items) (h2 : forD f G items δ = r) : forG gi f G δ = r := by
  unfold forG
  rw [h1]
  exact h2
theorem cons_of {g : GE} {gA : GA} {δ : Ds} {d : D} {ds : List D} (h1 : g δ = some d) (h2 : gA δ = some ds) : consA g gA δ = some (d :: ds) := by unfold consA; rw [h1, h2]; rfl
theorem oA_of {gA : GA} {δ : Ds} {ds : List D} {f : List D → Option D} (h : gA δ = some ds) : oA gA f δ = f ds := by unfold oA; rw [h]; rfl
theorem o2_of {ga gb : GE} {δ : Ds} {x y : D} {f : D → D → Option D} (h1 : ga δ = some x) (h2 : gb δ = some y) : o2 ga gb f δ = f x y := by unfold o2; rw [h1, h2]; rfl
theorem for_cons {f : D → Ds → Option Ds} {G : GS} {d : D} {ds : List D} {δ δ1 δ2 : Ds} (h1 : f d δ = some δ1) (h2 : G δ1 = some (.nx δ2)) : forD f G (d :: ds) δ = forD f G ds δ2 := by
  conv => lhs; unfold forD
  rw [h1]
  simp only [Option.bind_some, h2]
theorem atI_in {α : Type} {xs : List α} {i : Int} (h0 : 0 ≤ i) (h1 : i < xs.length) (d : α) : atI xs i = some (xs.getD i.toNat d) := by
  unfold atI ixN
  rw [if_pos h0, if_pos h1]
  show xs[i.toNat]? = _
  have : i.toNat < xs.length := by omega
  simp [List.getD_eq_getElem?_getD, this]
theorem inS_one (c : Nat) (y : Str) : inS ⟨#[c]⟩ y = decide (c ∈ y.cps.toList) := PySem.StrLaws.found_one y c
end DL
/-! Data, second part: lists and dicts of one's own, borrowing, while, equality of data, more of Python's own functions. -/
namespace DL
open PySem PySem.Spec PyProof.Rows
@[simp] def frz1 : Sl → Sl
  | .ow d => .sh d
  | s => s
@[simp] def frz (δ : Ds) : Ds := δ.map frz1
@[simp] def flat : D → Bool
  | .non => true | .bl _ => true | .int _ => true | .str _ => true | _ => false
/-- a piece that reads lists of one's own and is worth a flat value -/
@[simp] def borE (g : GE) : GE := fun δ => (g (frz δ)).bind fun d => if flat d = true then some d else none
@[simp] def borB (g : GB) : GB := fun δ => g (frz δ)
@[simp] def borA (g : GE) : GE := fun δ => g (frz δ)
@[simp] def frzAt (i : Nat) (δ : Ds) : Ds := match δ[i]? with
  | some s => δ.set i (frz1 s)
  | none => δ
@[simp] def frzS (i : Nat) (G : GS) : GS := fun δ => G (frzAt i δ)
/-- x = a new list or dict, one's own -/
@[simp] def ownD (i : Nat) (g : GE) : GS := fun δ => (g δ).map fun d => .nx (δ.set i (.ow d))
/-- an expression that may change what is one's own -/
abbrev GX := Ds → Option (D × Ds)
@[simp] def pureX (g : GE) : GX := fun δ => (g δ).map fun d => (d, δ)
@[simp] def asgX (gx : GX) (ft : D → Ds → Option Ds) : GS := fun δ => (gx δ).bind fun r => (ft r.1 r.2).map .nx
@[simp] def exprX (gx : GX) : GS := fun δ => (gx δ).map fun r => .nx r.2
@[simp] def owL (i : Nat) (δ : Ds) : Option (List D) := match δ[i]? with
  | some (.ow (.lst ds)) => some ds
  | _ => none
@[simp] def appX (i : Nat) (g : GE) : GX := fun δ => (owL i δ).bind fun ds => (g δ).bind fun d => if ds.length < sizeLine then some (.non, δ.set i (.ow (.lst (ds ++ [d])))) else none
@[simp] def extX (i : Nat) (g : GE) : GX := fun δ => (owL i δ).bind fun ds => (g δ).bind fun d => match d with
  | .lst es => if ds.length + es.length ≤ sizeLine then some (.non, δ.set i (.ow (.lst (ds ++ es)))) else none
  | _ => none
@[simp] def popX (i : Nat) : GX := fun δ => (owL i δ).bind fun ds => (ds.getLast?).map fun d => (d, δ.set i (.ow (.lst ds.dropLast)))
@[simp] def popAtX (i : Nat) (g : GE) : GX := fun δ => (owL i δ).bind fun ds => (g δ).bind fun d => match d with
  | .int k => if 0 ≤ k ∧ k < ds.length then (ds[k.toNat]?).map fun d => (d, δ.set i (.ow (.lst (ds.eraseIdx k.toNat)))) else none
  | _ => none
/-- x[e] = v, a list of one's own -/
@[simp] def setAt (i : Nat) (g : GE) : D → Ds → Option Ds := fun v δ => (owL i δ).bind fun ds => (g δ).bind fun d => match d with
  | .int k => (ixN ds.length k).map fun j => δ.set i (.ow (.lst (ds.set j v)))
  | _ => none
abbrev KeyD := Sum Int Str
@[simp] def asKey : D → Option KeyD
  | .int i => some (.inl i)
  | .str x => some (.inr x)
  | _ => none
def getK : List KeyD → List D → KeyD → Option D
  | k :: ks, d :: ds, q => if k = q then some d else getK ks ds q
  | _, _, _ => none
/-- in its place, or at the end -/
def hasK (ks : List KeyD) (k : KeyD) : Bool := ks.any fun q => decide (q = k)
def putKs (ks : List KeyD) (k : KeyD) : List KeyD := if hasK ks k = true then ks else ks ++ [k]
def putDs (ks : List KeyD) (ds : List D) (q : KeyD) (v : D) : List D := if hasK ks q = true then (ks.zip ds).map (fun p => if p.1 = q then v else p.2) else ds ++ [v]
@[simp] def owDc (i : Nat) (δ : Ds) : Option (List KeyD × List D) := match δ[i]? with
  | some (.ow (.dct ks ds)) => some (ks, ds)
  | _ => none
/-- x[e] = v, a dict of one's own -/
@[simp] def putAt (i : Nat) (g : GE) : D → Ds → Option Ds := fun v δ => (owDc i δ).bind fun r => (g δ).bind fun d => (asKey d).bind fun k =>
  if r.1.length < sizeLine then some (δ.set i (.ow (.dct (putKs r.1 k) (putDs r.1 r.2 k v)))) else none
/-- d[k], k in d -/
@[simp] def dgetD : D → D → Option D
  | .dct ks ds, d => (asKey d).bind fun k => getK ks ds k
  | _, _ => none
@[simp] def inDctD (neg : Bool) : D → D → Option D
  | d, .dct ks ds => (asKey d).map fun k => .bl (xor neg (hasK ks k))
  | _, _ => none
/-- while, by a bound of its turns -/
def whileD (gt : GB) (G : GS) : Nat → Ds → Option Res
  | 0, _ => none
  | n + 1, δ => match gt δ with
    | some false => some (.nx δ)
    | some true => match G δ with
      | some (.nx δ') => whileD gt G n δ'
      | some (.ct δ') => whileD gt G n δ'
      | some (.bk δ') => some (.nx δ')
      | r => r
    | none => none
@[simp] def tup2 (i j : Nat) : D → Ds → Option Ds
  | .tup [a, b], δ => some ((δ.set i (.sh a)).set j (.sh b))
  | _, _ => none
/-! equality of data -/
mutual
def deq : D → D → Bool
  | .non, .non => true
  | .bl a, .bl b => a == b
  | .bl a, .int b => (if a then 1 else 0) == b
  | .int a, .bl b => a == (if b then 1 else 0)
  | .int a, .int b => a == b
  | .str a, .str b => a == b
  | .tup xs, .tup ys => deqs xs ys
  | .lst xs, .lst ys => deqs xs ys
  | _, _ => false
def deqs : List D → List D → Bool
  | [], [] => true
  | x :: xs, y :: ys => deq x y && deqs xs ys
  | _, _ => false
end
mutual
/-- without dicts, at most so deep -/
def lean : D → Nat → Bool
  | .dct _ _, _ => false
  | .tup xs, n + 1 => leans xs n
  | .lst xs, n + 1 => leans xs n
  | .tup _, 0 => false
  | .lst _, 0 => false
  | _, _ => true
def leans : List D → Nat → Bool
  | [], _ => true
  | x :: xs, n => lean x n && leans xs n
end
@[simp] def eqDD (x y : D) : Option D := if lean x 50 = true ∧ lean y 50 = true then some (.bl (deq x y)) else none
@[simp] def neDD (x y : D) : Option D := if lean x 50 = true ∧ lean y 50 = true then some (.bl (!deq x y)) else none
@[simp] def eqF : D → D → Bool
  | .non, .non => true
  | .bl a, .bl b => a == b
  | .bl a, .int b => (if a then 1 else 0) == b
  | .int a, .bl b => a == (if b then 1 else 0)
  | .int a, .int b => a == b
  | .str a, .str b => a == b
  | _, _ => false
/-- x in a list or tuple of flat things -/
@[simp] def inSeqD (neg : Bool) : D → D → Option D
  | x, .lst ys => if flat x = true ∧ ys.all flat = true then some (.bl (xor neg (ys.any fun y => eqF y x))) else none
  | x, .tup ys => if flat x = true ∧ ys.all flat = true then some (.bl (xor neg (ys.any fun y => eqF y x))) else none
  | _, _ => none
@[simp] def inAny : D → D → Option D
  | x, .lst ys => inSeqD false x (.lst ys)
  | x, .tup ys => inSeqD false x (.tup ys)
  | x, .dct ks ds => inDctD false x (.dct ks ds)
  | .str x, .str y => some (.bl (inS x y))
  | _, _ => none
@[simp] def ninAny : D → D → Option D
  | x, .lst ys => inSeqD true x (.lst ys)
  | x, .tup ys => inSeqD true x (.tup ys)
  | x, .dct ks ds => inDctD true x (.dct ks ds)
  | .str x, .str y => some (.bl (!inS x y))
  | _, _ => none
/-- xs[i], also of a dict -/
@[simp] def ixAny : D → D → Option D
  | .dct ks ds, d => dgetD (.dct ks ds) d
  | x, d => ixD x d
@[simp] def isDct : D → Bool
  | .dct _ _ => true | _ => false
/-! more functions -/
@[simp] def minD : List D → Option D
  | [.int i, .int j] => some (.int (if j < i then j else i))
  | _ => none
@[simp] def intOfD : List D → Option D
  | [.int i] => some (.int i)
  | [.bl k] => some (.int (if k then 1 else 0))
  | _ => none
@[simp] def lstOfD : List D → Option D
  | [.lst ds] => some (.lst ds)
  | [.tup ds] => some (.lst ds)
  | _ => none
def hasS (acc : List Str) (y : Str) : Bool := acc.any fun z => decide (z = y)
def insS (acc : List Str) (y : Str) : List Str := if hasS acc y = true then acc else acc ++ [y]
/-- each once, as first met -/
def onceS (ys : List Str) : List Str := ys.foldl insS []
@[simp] def lenSetD : List D → Option D
  | [.lst ds] => (strL ds).bind fun ys => if ys.length ≤ 4000 then some (.int (onceS ys).length) else none
  | _ => none
/-- a def, as its body tells -/
def mkF (n : Nat) (N : List Str) (G : GS) (ds : List D) : Option D := if ds.length = n then (match G (dStart N ds) with
  | some (.rt d) => some d
  | some (.rf d) => some d
  | some (.nx _) => some .non
  | _ => none) else none
theorem mkF_ok {n : Nat} {N : List Str} {G : GS} {ds : List D} {d : D} (h : mkF n N G ds = some d) : ds.length = n ∧ (G (dStart N ds) = some (.rt d) ∨ (d = .non ∧ ∃ δ, G (dStart N ds) = some (.nx δ)) ∨ G (dStart N ds) = some (.rf d)) := by
  unfold mkF at h
  split at h
  · rename_i hl
    refine ⟨hl, ?_⟩
    split at h
    · rename_i e; cases h; exact .inl e
    · rename_i e; cases h; exact .inr (.inr e)
    · rename_i e; cases h; exact .inr (.inl ⟨rfl, _, e⟩)
    · cases h
  · cases h
/-- a def that gives back a new list or dict -/
def mkN (n : Nat) (N : List Str) (G : GS) (ds : List D) : Option D := if ds.length = n then (match G (dStart N ds) with
  | some (.rf d) => some d
  | _ => none) else none
theorem mkN_ok {n : Nat} {N : List Str} {G : GS} {ds : List D} {d : D} (h : mkN n N G ds = some d) : ds.length = n ∧ G (dStart N ds) = some (.rf d) := by
  unfold mkN at h
  split at h
  · rename_i hl
    refine ⟨hl, ?_⟩
    split at h
    · rename_i e; cases h; exact e
    · cases h
  · cases h
theorem mkN_rf {n : Nat} {N : List Str} {G : GS} {ds : List D} {d : D} (hl : ds.length = n) (h : G (dStart N ds) = some (.rf d)) : mkN n N G ds = some d := by
  unfold mkN
  rw [if_pos hl, h]
@[simp] def retF (g : GE) : GS := fun δ => (g δ).map .rf
@[simp] def retO (i : Nat) : GS := fun δ => match δ[i]? with
  | some (.ow d) => some (.rf d)
  | _ => none
theorem seq_rf {G1 G2 : GS} {δ : Ds} {d : D} (h : G1 δ = some (.rf d)) : seqD G1 G2 δ = some (.rf d) := by unfold seqD; rw [h]
theorem retF_of {g : GE} {δ : Ds} {d : D} (h : g δ = some d) : retF g δ = some (.rf d) := by unfold retF; rw [h]; rfl
theorem mkF_rt {n : Nat} {N : List Str} {G : GS} {ds : List D} {d : D} (hl : ds.length = n) (h : G (dStart N ds) = some (.rt d)) : mkF n N G ds = some d := by
  unfold mkF
  rw [if_pos hl, h]
theorem seq_to {G1 G2 : GS} {δ δ' : Ds} {r : Option Res} (h : G1 δ = some (.nx δ')) (k : G2 δ' = r) : seqD G1 G2 δ = r := (seq_nx h).trans k
/-! + and * and slices in full -/
@[simp] def addA : D → D → Option D
  | .int i, .int j => some (.int (i + j))
  | .str x, .str y => if x.length + y.length ≤ sizeLine then some (.str (x ++ y)) else none
  | .lst xs, .lst ys => if xs.length + ys.length ≤ sizeLine then some (.lst (xs ++ ys)) else none
  | .tup xs, .tup ys => if xs.length + ys.length ≤ sizeLine then some (.tup (xs ++ ys)) else none
  | _, _ => none
def repD (x : Str) (n : Int) : Str := ⟨(List.replicate n.toNat x.cps).foldl (· ++ ·) #[]⟩
@[simp] def mulA : D → D → Option D
  | .int i, .int j => if (-(2 ^ 64) < i ∧ i < 2 ^ 64) ∨ (-(2 ^ 64) < j ∧ j < 2 ^ 64) then some (.int (i * j)) else none
  | .str x, .int n => if -(2 ^ 62) ≤ n ∧ n < 2 ^ 62 ∧ x.length * n.toNat ≤ sizeLine then some (.str (repD x n)) else none
  | .tup xs, .int k => if xs ≠ [] ∧ 2 ≤ k ∧ k < 2 ^ 62 ∧ xs.length * k.toNat ≤ sizeLine then some (.tup (List.replicate k.toNat xs).flatten) else none
  | _, _ => none
@[simp] def slA (d : D) (lo hi : Option Int) : Option D := match d with
  | .str z => if z.length ≤ sizeLine then some (.str (Txt.slice z lo hi)) else none
  | .lst xs => some (.lst (cutD xs lo hi))
  | .tup xs => some (.tup (cutD xs lo hi))
  | _ => none
@[simp] def slAG (g : GE) (gl gh : GO) : GE := fun δ => (g δ).bind fun d => (gl δ).bind fun l => (gh δ).bind fun h => slA d l h
end DL
namespace DL
open PySem PySem.Spec PyProof.Rows
@[simp] def catD : D → D → Option D
  | .lst xs, .lst ys => if xs.length + ys.length ≤ sizeLine then some (.lst (xs ++ ys)) else none
  | _, _ => none
theorem tup_of {gA : GA} {δ : Ds} {ds : List D} (h : gA δ = some ds) (hl : ds.length ≤ sizeLine) : tupG gA δ = some (.tup ds) := by
  unfold tupG
  rw [h, Option.bind_some, if_pos hl]
theorem lst_of {gA : GA} {δ : Ds} {ds : List D} (h : gA δ = some ds) (hl : ds.length ≤ sizeLine) : lstG gA δ = some (.lst ds) := by
  unfold lstG
  rw [h, Option.bind_some, if_pos hl]
theorem rng_mem {n : Int} {d : D} (h : d ∈ rngD 0 n) : ∃ k : Nat, (k : Int) < n ∧ d = .int (k : Int) := by
  obtain ⟨k, hk, rfl⟩ := List.mem_map.mp h
  have := List.mem_range.mp hk
  exact ⟨k, by omega, by rw [Int.zero_add]⟩
theorem rng_map {α : Type} (f : D → α) (n : Int) : (rngD 0 n).map f = (List.range n.toNat).map fun (k : Nat) => f (.int (k : Int)) := by
  unfold rngD
  rw [List.map_map]
  have : n - 0 = n := by omega
  rw [this]
  refine List.map_congr_left fun k _ => ?_
  show f (.int (0 + (k : Int))) = _
  rw [Int.zero_add]
theorem rng_len (n : Int) : (rngD 0 n).length = n.toNat := by unfold rngD; simp
theorem rng_get {n : Int} {j : Nat} {d : D} (h : (rngD 0 n)[j]? = some d) : j < n.toNat ∧ d = .int (j : Int) := by
  have hj : j < n.toNat := by
    have := (List.getElem?_eq_some_iff.mp h).1
    rwa [rng_len] at this
  refine ⟨hj, ?_⟩
  unfold rngD at h
  rw [List.getElem?_map, List.getElem?_range (by simpa using hj)] at h
  have := Option.some.inj h
  rw [← this]
  show D.int (0 + (j : Int)) = _
  rw [Int.zero_add]
theorem getD_map_range {α : Type} (f : Nat → α) (n j : Nat) (d : α) (h : j < n) : ((List.range n).map f).getD j d = f j := by
  simp [List.getD_eq_getElem?_getD, h]
/-- one comprehension over range(n) -/
theorem comp_rng {gt : GB} {ge : GE} {δ : Ds} {n : Int} (h : Nat → D) (H : ∀ k : Nat, (k : Int) < n → ∃ δ', gN 0 (.int (k : Int)) δ = some δ' ∧ gt δ' = some true ∧ ge δ' = some (h k)) :
    compD (gN 0) gt ge δ (rngD 0 n) = some ((List.range n.toNat).map h) := by
  rw [compD_map (fun d => match d with | .int j => h j.toNat | _ => .non) (fun d hd => by
    obtain ⟨k, hk, rfl⟩ := rng_mem hd
    exact H k hk), rng_map]
  rfl
end DL
/-! Values without a heap: what a pure piece of the text is worth, as a function over data. -/
namespace DL
open PySem PySem.Spec PyProof.Rows L2

abbrev BS := Addr → Prop
abbrev St := L2.St
abbrev noH : Hp := fun _ => none
def SqT' (K : PySem.W.Frag) (H : Hp) (B : BS) (a : Addr) (xs : List V) : Prop := (¬ B a ∧ Rd H a (.tup xs)) ∨ SqT K noH a xs
def SqL' (K : PySem.W.Frag) (H : Hp) (B : BS) (a : Addr) (xs : List V) : Prop := (¬ B a ∧ Rd H a (.lst xs)) ∨ SqL K noH a xs
section
variable {K : PySem.W.Frag} {H H' : Hp} {B B' : BS} {a : Addr} {xs : List V}
theorem rd_no {a : Addr} {u : HO} (h : Rd noH a u) : False := by
  rcases h with h | ⟨o, h⟩ <;> cases h
theorem SqT'.to (h : SqT' K H B a xs) : SqT K H a xs := by
  rcases h with h | h | h
  · exact .inl h.2
  · exact (rd_no h).elim
  · exact .inr h
theorem SqL'.to (h : SqL' K H B a xs) : SqL K H a xs := by
  rcases h with h | h | h
  · exact .inl h.2
  · exact (rd_no h).elim
  · exact .inr h
/-- H' and B' hold all that H off B does -/
def Gr (H H' : Hp) (B B' : BS) : Prop := ∀ b o, ¬ B b → H b = some o → ¬ B' b ∧ H' b = some o
theorem SqT'.mono (g : Gr H H' B B') (h : SqT' K H B a xs) : SqT' K H' B' a xs := by
  rcases h with ⟨n, h | ⟨o, h⟩⟩ | h
  · exact .inl ⟨(g _ _ n h).1, .inl (g _ _ n h).2⟩
  · exact .inl ⟨(g _ _ n h).1, .inr ⟨o, (g _ _ n h).2⟩⟩
  · exact .inr h
theorem SqL'.mono (g : Gr H H' B B') (h : SqL' K H B a xs) : SqL' K H' B' a xs := by
  rcases h with ⟨n, h | ⟨o, h⟩⟩ | h
  · exact .inl ⟨(g _ _ n h).1, .inl (g _ _ n h).2⟩
  · exact .inl ⟨(g _ _ n h).1, .inr ⟨o, (g _ _ n h).2⟩⟩
  · exact .inr h
theorem Gr.same (s : Same H H') : Gr H H' B B := fun b o n h => ⟨n, s b o h⟩
theorem Gr.less (h : ∀ a, B' a → B a) : Gr H H B B' := fun b o n e => ⟨fun z => n (h b z), e⟩
end

mutual
def Rp (K : PySem.W.Frag) (H : Hp) (B : BS) : D → V → Prop
  | .non, v => v = .non
  | .bl b, v => v = .bl b
  | .int i, v => v = .int i
  | .str x, v => v = .str x
  | .tup ds, v => ∃ a xs, v = .ref a ∧ SqT' K H B a xs ∧ Rps K H B ds xs
  | .lst ds, v => ∃ a xs, v = .ref a ∧ SqL' K H B a xs ∧ Rps K H B ds xs
  | .dct ks ds, v => ∃ a xs, v = .ref a ∧ ¬ B a ∧ H a = some (.dK (ks.zip xs)) ∧ ks.length = xs.length ∧ Rps K H B ds xs
def Rps (K : PySem.W.Frag) (H : Hp) (B : BS) : List D → List V → Prop
  | [], xs => xs = []
  | d :: ds, xs => ∃ x r, xs = x :: r ∧ Rp K H B d x ∧ Rps K H B ds r
end
mutual
theorem Rp.mono {K : PySem.W.Frag} {H H' : Hp} {B B' : BS} (g : Gr H H' B B') : ∀ {d : D} {v : V}, Rp K H B d v → Rp K H' B' d v
  | .non, _, h => by unfold Rp at h ⊢; exact h
  | .bl _, _, h => by unfold Rp at h ⊢; exact h
  | .int _, _, h => by unfold Rp at h ⊢; exact h
  | .str _, _, h => by unfold Rp at h ⊢; exact h
  | .tup ds, _, h => by
    unfold Rp at h ⊢
    obtain ⟨a, xs, e, q, r⟩ := h
    exact ⟨a, xs, e, q.mono g, Rps.mono g r⟩
  | .lst ds, _, h => by
    unfold Rp at h ⊢
    obtain ⟨a, xs, e, q, r⟩ := h
    exact ⟨a, xs, e, q.mono g, Rps.mono g r⟩
  | .dct ks ds, _, h => by
    unfold Rp at h ⊢
    obtain ⟨a, xs, e, n, q, l, r⟩ := h
    exact ⟨a, xs, e, (g _ _ n q).1, (g _ _ n q).2, l, Rps.mono g r⟩
theorem Rps.mono {K : PySem.W.Frag} {H H' : Hp} {B B' : BS} (g : Gr H H' B B') : ∀ {ds : List D} {xs : List V}, Rps K H B ds xs → Rps K H' B' ds xs
  | [], _, h => by unfold Rps at h ⊢; exact h
  | d :: ds, _, h => by
    unfold Rps at h ⊢
    obtain ⟨x, r, e, h1, h2⟩ := h
    exact ⟨x, r, e, Rp.mono g h1, Rps.mono g h2⟩
end
section
variable {K : PySem.W.Frag} {H H' : Hp} {B B' : BS} {v : V}
theorem rp_non : Rp K H B .non v = (v = .non) := by unfold Rp; rfl
theorem rp_bl {b : Bool} : Rp K H B (.bl b) v = (v = .bl b) := by unfold Rp; rfl
theorem rp_int {i : Int} : Rp K H B (.int i) v = (v = .int i) := by unfold Rp; rfl
theorem rp_str {x : Str} : Rp K H B (.str x) v = (v = .str x) := by unfold Rp; rfl
theorem rp_tup {ds : List D} : Rp K H B (.tup ds) v = ∃ a xs, v = .ref a ∧ SqT' K H B a xs ∧ Rps K H B ds xs := by conv => lhs; unfold Rp
theorem rp_lst {ds : List D} : Rp K H B (.lst ds) v = ∃ a xs, v = .ref a ∧ SqL' K H B a xs ∧ Rps K H B ds xs := by conv => lhs; unfold Rp
theorem rp_dct {ks : List Key} {ds : List D} : Rp K H B (.dct ks ds) v = ∃ a xs, v = .ref a ∧ ¬ B a ∧ H a = some (.dK (ks.zip xs)) ∧ ks.length = xs.length ∧ Rps K H B ds xs := by conv => lhs; unfold Rp
theorem rps_nil {xs : List V} : Rps K H B [] xs = (xs = []) := by unfold Rps; rfl
theorem rps_cons {d : D} {ds : List D} {xs : List V} : Rps K H B (d :: ds) xs = ∃ x r, xs = x :: r ∧ Rp K H B d x ∧ Rps K H B ds r := by conv => lhs; unfold Rps
theorem Rps.length : ∀ {ds : List D} {xs : List V}, Rps K H B ds xs → xs.length = ds.length
  | [], _, h => by rw [rps_nil] at h; subst h; rfl
  | d :: ds, _, h => by
    rw [rps_cons] at h
    obtain ⟨x, r, rfl, _, h2⟩ := h
    simp [Rps.length h2]
theorem Rps.get : ∀ {ds : List D} {xs : List V} {i : Nat} {d : D}, Rps K H B ds xs → ds[i]? = some d → ∃ x, xs[i]? = some x ∧ Rp K H B d x
  | [], _, _, _, _, e => by simp at e
  | d :: ds, _, 0, d', h, e => by
    rw [rps_cons] at h
    obtain ⟨x, r, rfl, h1, _⟩ := h
    simp at e; subst e
    exact ⟨x, rfl, h1⟩
  | d :: ds, _, i + 1, d', h, e => by
    rw [rps_cons] at h
    obtain ⟨x, r, rfl, _, h2⟩ := h
    obtain ⟨y, e1, e2⟩ := Rps.get (i := i) h2 (by simpa using e)
    exact ⟨y, by simpa using e1, e2⟩
theorem Rps.snoc : ∀ {ds : List D} {xs : List V} {d : D} {x : V}, Rps K H B ds xs → Rp K H B d x → Rps K H B (ds ++ [d]) (xs ++ [x])
  | [], _, _, _, h, r => by
    rw [rps_nil] at h; subst h
    rw [List.nil_append, List.nil_append, rps_cons]
    exact ⟨_, [], rfl, r, by rw [rps_nil]⟩
  | d :: ds, _, _, _, h, r => by
    rw [rps_cons] at h
    obtain ⟨y, t, rfl, h1, h2⟩ := h
    rw [List.cons_append, List.cons_append, rps_cons]
    exact ⟨y, _, rfl, h1, Rps.snoc h2 r⟩
theorem Rps.append : ∀ {ds es : List D} {xs ys : List V}, Rps K H B ds xs → Rps K H B es ys → Rps K H B (ds ++ es) (xs ++ ys)
  | [], _, _, _, h, r => by rw [rps_nil] at h; subst h; exact r
  | d :: ds, _, _, _, h, r => by
    rw [rps_cons] at h
    obtain ⟨y, t, rfl, h1, h2⟩ := h
    rw [List.cons_append, List.cons_append, rps_cons]
    exact ⟨y, _, rfl, h1, Rps.append h2 r⟩
theorem Rps.drop : ∀ {ds : List D} {xs : List V} (n : Nat), Rps K H B ds xs → Rps K H B (ds.drop n) (xs.drop n)
  | _, _, 0, h => h
  | [], _, n + 1, h => by rw [rps_nil] at h; subst h; simpa [rps_nil]
  | d :: ds, _, n + 1, h => by
    rw [rps_cons] at h
    obtain ⟨y, t, rfl, h1, h2⟩ := h
    simpa using Rps.drop n h2
theorem Rps.take : ∀ {ds : List D} {xs : List V} (n : Nat), Rps K H B ds xs → Rps K H B (ds.take n) (xs.take n)
  | _, _, 0, h => by simp [rps_nil]
  | [], _, n + 1, h => by rw [rps_nil] at h; subst h; simp [rps_nil]
  | d :: ds, _, n + 1, h => by
    rw [rps_cons] at h
    obtain ⟨y, t, rfl, h1, h2⟩ := h
    rw [List.take_succ_cons, List.take_succ_cons, rps_cons]
    exact ⟨y, _, rfl, h1, Rps.take n h2⟩
theorem Rps.same {ds : List D} {xs : List V} (s : Same H H') (h : Rps K H B ds xs) : Rps K H' B ds xs := Rps.mono (Gr.same s) h
theorem Rp.same {d : D} {v : V} (s : Same H H') (h : Rp K H B d v) : Rp K H' B d v := Rp.mono (Gr.same s) h
end

/-! ### the names of a body -/
/-- the object at a is the list or dict d -/
def RpO (K : PySem.W.Frag) (H : Hp) (B : BS) (d : D) (a : Addr) : Prop := match d with
  | .lst ds => ∃ xs, H a = some (.lst xs) ∧ Rps K H B ds xs
  | .dct ks ds => ∃ xs, H a = some (.dK (ks.zip xs)) ∧ ks.length = xs.length ∧ Rps K H B ds xs
  | _ => False
theorem RpO.same {K : PySem.W.Frag} {H H' : Hp} {B : BS} {d : D} {a : Addr} (s : Same H H') (h : RpO K H B d a) : RpO K H' B d a := by
  cases d <;> try exact h.elim
  · obtain ⟨xs, e, r⟩ := h; exact ⟨xs, s _ _ e, r.same s⟩
  · obtain ⟨xs, e, l, r⟩ := h; exact ⟨xs, s _ _ e, l, r.same s⟩
theorem RpO.rp {K : PySem.W.Frag} {H : Hp} {B B' : BS} {d : D} {a : Addr} (l : ∀ a, B' a → B a) (n : ¬ B' a) (h : RpO K H B d a) : Rp K H B' d (.ref a) := by
  cases d <;> try exact h.elim
  · obtain ⟨xs, e, r⟩ := h
    rw [rp_lst]
    exact ⟨a, xs, rfl, .inl ⟨n, .inl e⟩, r.mono (Gr.less l)⟩
  · obtain ⟨xs, e, q, r⟩ := h
    rw [rp_dct]
    exact ⟨a, xs, rfl, n, e, q, r.mono (Gr.less l)⟩
theorem RpO.live {K : PySem.W.Frag} {H : Hp} {B : BS} {d : D} {a : Addr} (h : RpO K H B d a) : H a ≠ none := by
  cases d <;> try exact h.elim
  · obtain ⟨xs, e, r⟩ := h; rw [e]; exact fun z => nomatch z
  · obtain ⟨xs, e, q, r⟩ := h; rw [e]; exact fun z => nomatch z
def SlR (K : PySem.W.Frag) (H : Hp) (B : BS) (o : Option V) : Sl → Prop
  | .un => True
  | .sh d => ∃ v, o = some v ∧ Rp K H B d v
  | .ow d => ∃ a, o = some (.ref a) ∧ B a ∧ RpO K H B d a
theorem Pd.get {α β : Type} {F : α → β → Prop} : ∀ {l : List α} {m : List β} {i : Nat} {b : β}, Paired F l m → m[i]? = some b → ∃ a, l[i]? = some a ∧ F a b
  | _, _, _, _, .nil, e => by simp at e
  | _, _, 0, _, .cons r _, e => by simp at e; subst e; exact ⟨_, rfl, r⟩
  | _, _, i + 1, b, .cons _ t, e => by
    obtain ⟨u, h1, h2⟩ := Pd.get (i := i) (b := b) t (by simpa using e)
    exact ⟨u, by simpa using h1, h2⟩
theorem Pd.imp {α β : Type} {F G : α → β → Prop} (h : ∀ a b, F a b → G a b) : ∀ {l : List α} {m : List β}, Paired F l m → Paired G l m
  | _, _, .nil => .nil
  | _, _, .cons r t => .cons (h _ _ r) (Pd.imp h t)
theorem Pd.set {α β : Type} {F : α → β → Prop} {a : α} {b : β} (r : F a b) : ∀ {l : List α} {m : List β} (i : Nat), Paired F l m → Paired F (l.set i a) (m.set i b)
  | _, _, _, .nil => .nil
  | _, _, 0, .cons _ t => .cons r t
  | _, _, i + 1, .cons q t => .cons q (Pd.set r i t)
theorem Pd.len {α β : Type} {F : α → β → Prop} : ∀ {l : List α} {m : List β}, Paired F l m → l.length = m.length
  | _, _, .nil => rfl
  | _, _, .cons _ t => by simp [Pd.len t]
theorem Pd.app {α β : Type} {F : α → β → Prop} : ∀ {l l' : List α} {m m' : List β}, Paired F l m → Paired F l' m' → Paired F (l ++ l') (m ++ m')
  | _, _, _, _, .nil, s => s
  | _, _, _, _, .cons r t, s => .cons r (Pd.app t s)

structure Env (K : PySem.W.Frag) (H : Hp) (B : BS) (σ : St) (δ : Ds) : Prop where
  all : Paired (SlR K H B) σ δ
  bad : ∀ a, B a → H a ≠ none
  own : ∀ (i j : Nat) (a : Addr) (ds es : D), δ[i]? = some (.ow ds) → δ[j]? = some (.ow es) → σ[i]? = some (some (.ref a)) → σ[j]? = some (some (.ref a)) → i = j
section
variable {K : PySem.W.Frag} {H H' : Hp} {B : BS} {σ σ' : St} {δ δ' : Ds}
theorem SlR.same {o : Option V} {s : Sl} (q : Same H H') (h : SlR K H B o s) : SlR K H' B o s := by
  cases s with
  | un => trivial
  | sh d => obtain ⟨v, e, r⟩ := h; exact ⟨v, e, r.same q⟩
  | ow d => obtain ⟨a, e, b, r⟩ := h; exact ⟨a, e, b, r.same q⟩
theorem Env.same (q : Same H H') (e : Env K H B σ δ) : Env K H' B σ δ :=
  ⟨Pd.imp (fun _ _ h => h.same q) e.all, (fun a b z => by
    cases h : H a with
    | none => exact e.bad a b h
    | some o => rw [q a o h] at z; cases z), e.own⟩
theorem Env.free (e : Env K H B σ δ) {p : Addr} (h : H p = none) : ¬ B p := fun z => e.bad p z h
theorem Env.get (e : Env K H B σ δ) {i : Nat} {d : D} (h : δ[i]? = some (.sh d)) : ∃ v, σ[i]? = some (some v) ∧ Rp K H B d v := by
  obtain ⟨o, h1, v, rfl, r⟩ := Pd.get e.all h
  exact ⟨v, h1, r⟩
theorem Env.set (e : Env K H B σ δ) (i : Nat) {d : D} {v : V} (r : Rp K H B d v) : Env K H B (σ.set i (some v)) (δ.set i (.sh d)) := by
  refine ⟨Pd.set ⟨v, rfl, r⟩ i e.all, e.bad, fun j k a ds es h1 h2 h3 h4 => ?_⟩
  have hj : j ≠ i := by
    rintro rfl
    by_cases hl : j < δ.length
    · rw [List.getElem?_set_self hl] at h1; cases h1
    · rw [List.getElem?_eq_none (by simpa using hl)] at h1; cases h1
  have hk : k ≠ i := by
    rintro rfl
    by_cases hl : k < δ.length
    · rw [List.getElem?_set_self hl] at h2; cases h2
    · rw [List.getElem?_eq_none (by simpa using hl)] at h2; cases h2
  rw [List.getElem?_set_ne (Ne.symm hj)] at h1 h3
  rw [List.getElem?_set_ne (Ne.symm hk)] at h2 h4
  exact e.own j k a ds es h1 h2 h3 h4
end
theorem same_upd {H : Hp} {p : Addr} {o : HO} (h : H p = none) : Same H (upd H p o) := fun b u e => by rw [upd_ne (ne_of_none e h)]; exact e

/-! ### the judgements -/
def tD (K : PySem.W.Frag) (B : BS) (δ : Ds) (g : Ds → Option D) : TE := fun σ H Q => ∃ d, Env K H B σ δ ∧ g δ = some d ∧ ∀ v H', Same H H' → Rp K H' B d v → Q v H'
structure PD (X : Cx) (e : Expr) (g : Ds → Option D) : Prop where
  mk :: go : ∀ B δ, PE X e (tD X.K B δ g)
instance {X : Cx} {e : Expr} {g : Ds → Option D} : CoeFun (PD X e g) (fun _ => ∀ B δ, PE X e (tD X.K B δ g)) := ⟨PD.go⟩
def tDT (K : PySem.W.Frag) (B : BS) (δ : Ds) (g : Ds → Option Bool) : TT := fun σ H Q => ∃ b, Env K H B σ δ ∧ g δ = some b ∧ ∀ H', Same H H' → Q b H'
structure PTD (X : Cx) (e : Expr) (g : Ds → Option Bool) : Prop where
  mk :: go : ∀ B δ, PT X e (tDT X.K B δ g)
instance {X : Cx} {e : Expr} {g : Ds → Option Bool} : CoeFun (PTD X e g) (fun _ => ∀ B δ, PT X e (tDT X.K B δ g)) := ⟨PTD.go⟩
structure PWD (X : Cx) (e : Expr) (g : Ds → Option Bool) : Prop where
  mk :: go : ∀ B δ, PW X e (tDT X.K B δ g)
instance {X : Cx} {e : Expr} {g : Ds → Option Bool} : CoeFun (PWD X e g) (fun _ => ∀ B δ, PW X e (tDT X.K B δ g)) := ⟨PWD.go⟩
def tDA (K : PySem.W.Frag) (B : BS) (δ : Ds) (g : Ds → Option (List D)) : TA := fun σ H Q => ∃ ds, Env K H B σ δ ∧ g δ = some ds ∧ ∀ vs H', Same H H' → Rps K H' B ds vs → Q vs H'
structure PDA (X : Cx) (es : List Expr) (g : Ds → Option (List D)) : Prop where
  mk :: go : ∀ B δ, PA X es (tDA X.K B δ g)
instance {X : Cx} {es : List Expr} {g : Ds → Option (List D)} : CoeFun (PDA X es g) (fun _ => ∀ B δ, PA X es (tDA X.K B δ g)) := ⟨PDA.go⟩
theorem asB_eq {d : D} {b : Bool} (h : asB d = some b) : d = .bl b := by
  cases d <;> simp [asB] at h
  subst h; rfl
/-- an operation of two values, by data -/
def Op2 (K : PySem.W.Frag) (r : R2) (f : D → D → Option D) : Prop := ∀ (H : Hp) (B : BS) (x y : V) (dx dy d : D) (Q : VK), (∀ a, B a → H a ≠ none) → Rp K H B dx x → Rp K H B dy y → f dx dy = some d → (∀ v H', Same H H' → Rp K H' B d v → Q v H') → r x y H Q
/-- a call by values, by data -/
def FnR (K : PySem.W.Frag) (r : List V → Hp → VK → Prop) (f : List D → Option D) : Prop := ∀ (H : Hp) (B : BS) (xs : List V) (ds : List D) (d : D) (Q : VK), (∀ a, B a → H a ≠ none) → Rps K H B ds xs → f ds = some d → (∀ v H', Same H H' → Rp K H' B d v → Q v H') → r xs H Q
section
variable {X : Cx} {e a b c : Expr} {es : List Expr} {pos : Pos} {g ga gb : Ds → Option D} {gA : Ds → Option (List D)} {gt gu : Ds → Option Bool} {rest : List Expr}
theorem _root_.L2.PE.imp {t t' : TE} (h : PE X e t) (q : ∀ σ H Q, t' σ H Q → t σ H Q) : PE X e t' := fun pins s σ H Q I z => h pins s σ H Q I (q σ H Q z)
theorem _root_.L2.PT.imp {t t' : TT} (h : PT X e t) (q : ∀ σ H Q, t' σ H Q → t σ H Q) : PT X e t' := fun pins s σ H Q I z => h pins s σ H Q I (q σ H Q z)
theorem _root_.L2.PW.imp {t t' : TT} (h : PW X e t) (q : ∀ σ H Q, t' σ H Q → t σ H Q) : PW X e t' := fun w pins s σ H Q I z => h w pins s σ H Q I (q σ H Q z)
theorem _root_.L2.PA.imp {t t' : TA} (h : PA X es t) (q : ∀ σ H Q, t' σ H Q → t σ H Q) : PA X es t' := fun p pins s σ H Q I z => h p pins s σ H Q I (q σ H Q z)
theorem gv_eq {i : Nat} {δ : Ds} {d : D} (h : gv i δ = some d) : δ[i]? = some (.sh d) := by
  unfold gv at h
  split at h
  · cases h; assumption
  · cases h
theorem pd_var (i : Nat) {x : Str} (hN : X.N[i]? = some x := by rfl) (hv : Vis X.env.scope x := by first | exact Or.inl rfl | exact Or.inr (Or.inl rfl) | exact Or.inr (Or.inr rfl)) (hd : (x == ("__debug__" : Str)) = false := by decide)
    (hcd : (x == ("__classdict__" : Str)) = false := by decide) : PD X (.Name x pos) (gv i) := .mk fun B δ => (pe_var (i := i) hN hv hd hcd).imp fun σ H Q ⟨d, en, h, k⟩ => by
  obtain ⟨v, e, r⟩ := en.get (gv_eq h)
  exact ⟨v, e, k v H (Same.refl H) r⟩
theorem pd_int {i : Int} {j : Nat} : PD X (.Constant (.int i) j pos) (gc (.int i)) := .mk fun B δ => pe_int.imp fun σ H Q ⟨d, en, h, k⟩ => by cases h; exact k _ H (Same.refl H) (by rw [rp_int])
theorem pd_bl {i : Bool} {j : Nat} : PD X (.Constant (.bool i) j pos) (gc (.bl i)) := .mk fun B δ => pe_bl.imp fun σ H Q ⟨d, en, h, k⟩ => by cases h; exact k _ H (Same.refl H) (by rw [rp_bl])
theorem pd_non {j : Nat} : PD X (.Constant .none j pos) (gc .non) := .mk fun B δ => pe_non.imp fun σ H Q ⟨d, en, h, k⟩ => by cases h; exact k _ H (Same.refl H) (by rw [rp_non])
theorem pd_str {x : Str} {j : Nat} : PD X (.Constant (.str x) j pos) (gc (.str x)) := .mk fun B δ => pe_str.imp fun σ H Q ⟨d, en, h, k⟩ => by cases h; exact k _ H (Same.refl H) (by rw [rp_str])
theorem pd_gstr {x y : Str} (hm : ∃ t, X.mg x = some (.str y t)) (hg : Gl X x := by rfl) (hd : (x == ("__debug__" : Str)) = false := by decide) : PD X (.Name x pos) (gc (.str y)) := .mk fun B δ => by
  obtain ⟨t, hm⟩ := hm
  exact (pe_glob (v := .str y) hg hm ⟨t, rfl⟩ hd).imp fun σ H Q ⟨d, en, h, k⟩ => by cases h; exact k _ H (Same.refl H) (by rw [rp_str])
theorem pd_gint {x : Str} {i : Int} (hm : ∃ t, X.mg x = some (.int i t)) (hg : Gl X x := by rfl) (hd : (x == ("__debug__" : Str)) = false := by decide) : PD X (.Name x pos) (gc (.int i)) := .mk fun B δ => by
  obtain ⟨t, hm⟩ := hm
  exact (pe_glob (v := .int i) hg hm ⟨t, rfl⟩ hd).imp fun σ H Q ⟨d, en, h, k⟩ => by cases h; exact k _ H (Same.refl H) (by rw [rp_int])

/-- two values in a row -/
theorem o2_red {K : PySem.W.Frag} {r : R2} {f : D → D → Option D} (hf : Op2 K r f) {B : BS} {δ : Ds} {σ : St} {H : Hp} {Q : VK} (h : tD K B δ (o2 ga gb f) σ H Q) : tOp r (tD K B δ ga) (tD K B δ gb) σ H Q := by
  obtain ⟨d, en, h, k⟩ := h
  unfold o2 at h
  cases e1 : ga δ with
  | none => rw [e1] at h; cases h
  | some x =>
    cases e2 : gb δ with
    | none => rw [e1, e2] at h; cases h
    | some y =>
      rw [e1, e2] at h
      refine ⟨x, en, e1, fun v1 H1 s1 r1 => ⟨y, en.same s1, e2, fun v2 H2 s2 r2 => ?_⟩⟩
      exact hf H2 B v1 v2 x y d Q ((en.same s1).same s2).bad (r1.same s2) r2 h fun v H' s r => k v H' ((s1.trans s2).trans s) r
theorem pd_op {op : Operator} {r : R2} {f : D → D → Option D} (ho : OpR X (binaryOp op) r) (hf : Op2 X.K r f) (ha : PD X a ga) (hb : PD X b gb) : PD X (.BinOp a op b pos) (o2 ga gb f) := .mk fun B δ => (pe_op ho (ha B δ) (hb B δ)).imp fun σ H Q h => o2_red hf h
theorem pd_cmp {op : CmpOp} {r : R2} {f : D → D → Option D} (ho : OpR X (compareOp op) r) (hf : Op2 X.K r f) (ha : PD X a ga) (hb : PD X b gb) (hm : behindInMarks op b = false := by first | exact nomark _ | with_unfolding_all rfl) : PD X (.Compare a [op] [b] pos) (o2 ga gb f) :=
  .mk fun B δ => (pe_cmpR ho (ha B δ) (hb B δ) hm).imp fun σ H Q h => o2_red hf h
theorem pd_ix {r : R2} {f : D → D → Option D} (ho : IxR X r) (hf : Op2 X.K r f) (ha : PD X a ga) (hb : PD X b gb) (hs : PlainIx b := by exact fun _ _ => rfl) : PD X (.Subscript a b pos) (o2 ga gb f) :=
  .mk fun B δ => (pe_ix ho (ha B δ) (hb B δ) hs).imp fun σ H Q h => o2_red hf h
theorem ptd_cmp {op : CmpOp} {r : R2} {f : D → D → Option D} (ho : OpR X (compareOp op) r) (hf : Op2 X.K r f) (ha : PD X a ga) (hb : PD X b gb) (hm : behindInMarks op b = false := by first | exact nomark _ | with_unfolding_all rfl) : PTD X (.Compare a [op] [b] pos) (ob (o2 ga gb f)) :=
  .mk fun B δ => (pt_cmpR ho (ha B δ) (hb B δ) hm).imp fun σ H Q ⟨t, en, h, k⟩ => by
    unfold ob at h
    cases e : o2 ga gb f δ with
    | none => rw [e] at h; cases h
    | some d =>
      rw [e] at h
      cases asB_eq h
      exact o2_red hf ⟨_, en, e, fun v H' s r => ⟨t, by rw [rp_bl] at r; exact r, k H' s⟩⟩
theorem ptd_val (h : PD X e g) (he : ∀ whole, isTrue e X.env whole = (do let v ← whole; standAt e.pos; holding [v] (truthy v)) := by intro _; rfl) : PTD X e (ob g) :=
  .mk fun B δ => (pt_val (h B δ) he).imp fun σ H Q ⟨t, en, h, k⟩ => by
    unfold ob at h
    cases e : g δ with
    | none => rw [e] at h; cases h
    | some d =>
      rw [e] at h
      cases asB_eq h
      exact ⟨_, en, e, fun v H' s r => ⟨t, by rw [rp_bl] at r; exact r, k H' s⟩⟩
theorem ptd_not (h : PTD X a gt) : PTD X (.UnaryOp .Not a pos) (tNotG gt) :=
  .mk fun B δ => (pt_not (h B δ)).imp fun σ H Q ⟨t, en, h, k⟩ => by
    unfold tNotG at h
    cases e : gt δ with
    | none => rw [e] at h; cases h
    | some b =>
      rw [e] at h
      cases h
      exact ⟨b, en, e, fun H' s => k H' s⟩
theorem pwd_and1 (h : PTD X a gt) : PWD X (.BoolOp .And [a] pos) gt := .mk fun B δ => pw_and1 (h B δ)
theorem pwd_or1 (h : PTD X a gt) : PWD X (.BoolOp .Or [a] pos) gt := .mk fun B δ => pw_or1 (h B δ)
theorem pwd_and (ha : PTD X a gt) (hb : PWD X (.BoolOp .And (b :: rest) pos) gu) : PWD X (.BoolOp .And (a :: b :: rest) pos) (tAndG gt gu) :=
  .mk fun B δ => (pw_and (ha B δ) (hb B δ)).imp fun σ H Q ⟨t, en, h, k⟩ => by
    unfold tAndG at h
    cases e : gt δ with
    | none => rw [e] at h; cases h
    | some b =>
      rw [e] at h
      refine ⟨b, en, e, fun H' s => ?_⟩
      cases b with
      | true => exact ⟨t, en.same s, h, fun H'' s' => k H'' (s.trans s')⟩
      | false =>
        simp at h
        subst h
        rw [if_neg Bool.false_ne_true]
        exact k H' s
theorem pwd_or (ha : PTD X a gt) (hb : PWD X (.BoolOp .Or (b :: rest) pos) gu) : PWD X (.BoolOp .Or (a :: b :: rest) pos) (tOrG gt gu) :=
  .mk fun B δ => (pw_or (ha B δ) (hb B δ)).imp fun σ H Q ⟨t, en, h, k⟩ => by
    unfold tOrG at h
    cases e : gt δ with
    | none => rw [e] at h; cases h
    | some b =>
      rw [e] at h
      refine ⟨b, en, e, fun H' s => ?_⟩
      cases b with
      | false => exact ⟨t, en.same s, h, fun H'' s' => k H'' (s.trans s')⟩
      | true =>
        simp at h
        subst h
        rw [if_pos rfl]
        exact k H' s
theorem PWD.pt (h : PWD X e gt) : PTD X e gt := .mk fun B δ => (h B δ).pt
theorem pd_one {op} (h : PD X a g) : PD X (.BoolOp op [a] pos) g := .mk fun B δ => pe_one (h B δ)
theorem pd_and (ha : PD X a ga) (hb : PD X (.BoolOp .And (b :: rest) pos) gb) : PD X (.BoolOp .And (a :: b :: rest) pos) (andG ga gb) :=
  .mk fun B δ => (pe_and (ha B δ) (hb B δ)).imp fun σ H Q ⟨d, en, h, k⟩ => by
    unfold andG ob at h
    cases e : ga δ with
    | none => rw [e] at h; cases h
    | some x =>
      rw [e] at h
      refine ⟨x, en, e, fun v H' s r => ?_⟩
      cases x with
      | bl c =>
        rw [rp_bl] at r
        refine ⟨c, r, ?_⟩
        cases c with
        | true => exact ⟨d, en.same s, h, fun v H'' s' => k v H'' (s.trans s')⟩
        | false =>
          simp [asB] at h
          rw [if_neg Bool.false_ne_true]
          exact k _ H' s (by rw [← h, rp_bl])
      | _ => simp [asB] at h
theorem pd_or (ha : PD X a ga) (hb : PD X (.BoolOp .Or (b :: rest) pos) gb) : PD X (.BoolOp .Or (a :: b :: rest) pos) (orG ga gb) :=
  .mk fun B δ => (pe_or (ha B δ) (hb B δ)).imp fun σ H Q ⟨d, en, h, k⟩ => by
    unfold orG ob at h
    cases e : ga δ with
    | none => rw [e] at h; cases h
    | some x =>
      rw [e] at h
      refine ⟨x, en, e, fun v H' s r => ?_⟩
      cases x with
      | bl c =>
        rw [rp_bl] at r
        refine ⟨c, r, ?_⟩
        cases c with
        | false => exact ⟨d, en.same s, h, fun v H'' s' => k v H'' (s.trans s')⟩
        | true =>
          simp [asB] at h
          rw [if_pos rfl]
          exact k _ H' s (by rw [← h, rp_bl])
      | _ => simp [asB] at h
theorem pd_not (ha : PD X a ga) : PD X (.UnaryOp .Not a pos) (notG ga) :=
  .mk fun B δ => (pe_not (ha B δ)).imp fun σ H Q ⟨d, en, h, k⟩ => by
    unfold notG ob at h
    cases e : ga δ with
    | none => rw [e] at h; cases h
    | some x =>
      rw [e] at h
      refine ⟨x, en, e, fun v H' s r => ?_⟩
      cases x with
      | bl c =>
        rw [rp_bl] at r
        simp [asB] at h
        exact ⟨c, r, k _ H' s (by rw [← h, rp_bl])⟩
      | _ => simp [asB] at h
theorem pd_if (hc : PTD X c gt) (ha : PD X a ga) (hb : PD X b gb) : PD X (.IfExp c a b pos) (ifG gt ga gb) :=
  .mk fun B δ => (pe_ifExp (hc B δ) (ha B δ) (hb B δ)).imp fun σ H Q ⟨d, en, h, k⟩ => by
    unfold ifG at h
    cases e : gt δ with
    | none => rw [e] at h; cases h
    | some t =>
      rw [e] at h
      refine ⟨t, en, e, fun H' s => ?_⟩
      cases t with
      | true => exact ⟨d, en.same s, h, fun v H'' s' => k v H'' (s.trans s')⟩
      | false => exact ⟨d, en.same s, h, fun v H'' s' => k v H'' (s.trans s')⟩

/-! ### argument lists, displays, calls -/
theorem pda_nil : PDA X [] nilA := .mk fun B δ => pa_nil.imp fun σ H Q ⟨ds, en, h, k⟩ => by cases h; exact k [] H (Same.refl H) (by rw [rps_nil])
theorem pda_cons (ha : PD X e g) (hr : PDA X es gA) (hs : starEach (e :: es) X.env = (false, eval e X.env) :: starEach es X.env := by rfl) : PDA X (e :: es) (consA g gA) :=
  .mk fun B δ => (pa_cons (ha B δ) (hr B δ) hs).imp fun σ H Q ⟨ds, en, h, k⟩ => by
    unfold consA at h
    cases e1 : g δ with
    | none => rw [e1] at h; cases h
    | some d =>
      cases e2 : gA δ with
      | none => rw [e1, e2] at h; cases h
      | some es' =>
        rw [e1, e2] at h
        cases h
        refine ⟨d, en, e1, fun v H1 s1 r1 => ⟨es', en.same s1, e2, fun vs H2 s2 r2 => k _ H2 (s1.trans s2) ?_⟩⟩
        rw [rps_cons]
        exact ⟨v, vs, rfl, r1.same s2, r2⟩
theorem pd_tup {x1} (h : PDA X es gA) : PD X (.Tuple es x1 pos) (tupG gA) :=
  .mk fun B δ => (pe_tup (h B δ)).imp fun σ H Q ⟨d, en, h, k⟩ => by
    unfold tupG at h
    cases e1 : gA δ with
    | none => rw [e1] at h; cases h
    | some ds =>
      rw [e1] at h
      by_cases hl : ds.length ≤ sizeLine
      · simp only [Option.bind_some, if_pos hl] at h
        cases h
        refine ⟨ds, en, e1, fun vs H1 s1 r1 => ⟨by rw [r1.length]; exact hl, fun p hp => k _ _ (s1.trans (same_upd hp)) ?_⟩⟩
        rw [rp_tup]
        exact ⟨p, vs, rfl, .inl ⟨(en.same s1).free hp, .inl upd_same⟩, r1.same (same_upd hp)⟩
      · simp only [Option.bind_some, if_neg hl] at h
        cases h
theorem pd_lst (h : PDA X es gA) : PD X (.List es pos) (lstG gA) :=
  .mk fun B δ => (pe_lst (h B δ)).imp fun σ H Q ⟨d, en, h, k⟩ => by
    unfold lstG at h
    cases e1 : gA δ with
    | none => rw [e1] at h; cases h
    | some ds =>
      rw [e1] at h
      by_cases hl : ds.length ≤ sizeLine
      · simp only [Option.bind_some, if_pos hl] at h
        cases h
        refine ⟨ds, en, e1, fun vs H1 s1 r1 => ⟨by rw [r1.length]; exact hl, fun p hp => k _ _ (s1.trans (same_upd hp)) ?_⟩⟩
        rw [rp_lst]
        exact ⟨p, vs, rfl, .inl ⟨(en.same s1).free hp, .inl upd_same⟩, r1.same (same_upd hp)⟩
      · simp only [Option.bind_some, if_neg hl] at h
        cases h
theorem oA_red {K : PySem.W.Frag} {r : List V → Hp → VK → Prop} {f : List D → Option D} (hf : FnR K r f) {B : BS} {δ : Ds} {σ : St} {H : Hp} {Q : VK} (h : tD K B δ (oA gA f) σ H Q) : tCB r (tDA K B δ gA) σ H Q := by
  obtain ⟨d, en, h, k⟩ := h
  unfold oA at h
  cases e1 : gA δ with
  | none => rw [e1] at h; cases h
  | some ds =>
    rw [e1] at h
    exact ⟨ds, en, e1, fun vs H1 s1 r1 => hf H1 B vs ds d Q (en.same s1).bad r1 h fun v H' s r => k v H' (s1.trans s) r⟩
theorem pd_callB {id : String} {x : Str} {p : Pos} {r : List V → Hp → VK → Prop} {f : List D → Option D} (hc : CallR X (.builtin id) r) (hf : FnR X.K r f) (hm : X.mg x = none) (hv : bootBuiltins x = some (.builtin id)) (ha : PDA X (e :: es) gA) (hg : Gl X x := by rfl)
    (hn : x ≠ "__name__" := by decide) (hdb : (x == ("__debug__" : Str)) = false := by decide) (he : starEach (e :: es) X.env = (false, eval e X.env) :: starEach es X.env := by rfl) (hpl : (backTo pos (starEach es X.env)).any (·.1) = false := by rfl) :
    PD X (.Call (.Name x p) (e :: es) [] pos) (oA gA f) := .mk fun B δ => (pe_callB hc hg hm hv (ha B δ) hn hdb he hpl).imp fun σ H Q h => oA_red hf h
theorem pd_callTy {T : String} {x : Str} {p : Pos} {r : List V → Hp → VK → Prop} {f : List D → Option D} (hc : CallR X (.type T) r) (hf : FnR X.K r f) (hm : X.mg x = none) (hv : bootBuiltins x = some (.type T)) (ha : PDA X (e :: es) gA) (hg : Gl X x := by rfl)
    (hn : x ≠ "__name__" := by decide) (hdb : (x == ("__debug__" : Str)) = false := by decide) (he : starEach (e :: es) X.env = (false, eval e X.env) :: starEach es X.env := by rfl) (hpl : (backTo pos (starEach es X.env)).any (·.1) = false := by rfl) :
    PD X (.Call (.Name x p) (e :: es) [] pos) (oA gA f) := .mk fun B δ => (pe_callTy hc hg hm hv (ha B δ) hn hdb he hpl).imp fun σ H Q h => oA_red hf h
/-- a def's promise, by data -/
def spD (K : PySem.W.Frag) (f : List D → Option D) : Sp := fun vs H Q _ => ∃ (B : BS) (ds : List D) (d : D), (∀ a, B a → H a ≠ none) ∧ Rps K H B ds vs ∧ f ds = some d ∧ ∀ v H', Same H H' → Rp K H' B d v → Q v H'
theorem pd_call {k : Nat} {fa : Addr} {fd : FuncData} {ps : List Str} {x : Str} {p : Pos} {f : List D → Option D} (F : FnOk X.prog X.w X.K X.mg X.base CX0 k fa fd ps (spD X.K f)) (hr : Room k X.A) (hm : X.mg x = some (.ref fa)) (hk : PySem.W.keepIn X.K (.ref fa) = true) (hb : Binds X.K fd ps [])
    (ha : PDA X (e :: es) gA) (hg : Gl X x := by rfl) (hdb : (x == ("__debug__" : Str)) = false := by decide) (he : starEach (e :: es) X.env = (false, eval e X.env) :: starEach es X.env := by rfl) (hpl : (backTo pos (starEach es X.env)).any (·.1) = false := by rfl) :
    PD X (.Call (.Name x p) (e :: es) [] pos) (oA gA f) := .mk fun B δ => (pe_call (E := E0) F hr hg hm hk hb .nil pass0 (ha B δ) hdb he hpl).imp fun σ H Q h => by
  obtain ⟨d, en, h, k⟩ := h
  unfold oA at h
  cases e1 : gA δ with
  | none => rw [e1] at h; cases h
  | some ds =>
    rw [e1] at h
    refine ⟨ds, en, e1, fun vs H1 s1 r1 => ?_⟩
    show spD X.K f (vs ++ []) H1 Q E0
    rw [List.append_nil]
    exact ⟨B, ds, d, (en.same s1).bad, r1, h, fun v H' s r => k v H' (s1.trans s) r⟩
end
end DL
namespace DL
open PySem PySem.Spec PyProof.Rows L2

/-! ### statements -/
structure EnvS (K : PySem.W.Frag) (H₀ : Hp) (B₀ : BS) (H : Hp) (σ : St) (δ : Ds) : Prop where
  same : Same H₀ H
  ex : ∃ B : BS, (∀ a, B₀ a → B a) ∧ (∀ a, B a → B₀ a ∨ H₀ a = none) ∧ Env K H B σ δ
  fr : ∀ (i : Nat) (ds : D) (a : Addr), δ[i]? = some (.ow ds) → σ[i]? = some (some (.ref a)) → H₀ a = none
  b0 : ∀ a, B₀ a → H₀ a ≠ none
def ResK (K : PySem.W.Frag) (H₀ : Hp) (B₀ : BS) (D : Ends) : Res → Prop
  | .nx δ => ∀ σ H, EnvS K H₀ B₀ H σ δ → D.nx σ H
  | .rt d => ∀ v H, Same H₀ H → Rp K H B₀ d v → D.rt v H
  | .bk δ => ∀ σ H, EnvS K H₀ B₀ H σ δ → D.bk σ H
  | .ct δ => ∀ σ H, EnvS K H₀ B₀ H σ δ → D.ct σ H
  | .rf d => ∀ p H, H₀ p = none → Same H₀ H → RpO K H (fun a => B₀ a ∨ a = p) d p → D.rt (.ref p) H
def tDS (K : PySem.W.Frag) (H₀ : Hp) (B₀ : BS) (δ : Ds) (G : Ds → Option Res) : TS := fun D σ H => ∃ r, EnvS K H₀ B₀ H σ δ ∧ G δ = some r ∧ ResK K H₀ B₀ D r
structure PSD (X : Cx) (st : Stmt) (G : Ds → Option Res) : Prop where
  mk :: go : ∀ H₀ B₀ δ, PS X st (tDS X.K H₀ B₀ δ G)
instance {X : Cx} {st : Stmt} {G : Ds → Option Res} : CoeFun (PSD X st G) (fun _ => ∀ H₀ B₀ δ, PS X st (tDS X.K H₀ B₀ δ G)) := ⟨PSD.go⟩
structure PSsD (X : Cx) (st : List Stmt) (G : Ds → Option Res) : Prop where
  mk :: go : ∀ H₀ B₀ δ, PSs X st (tDS X.K H₀ B₀ δ G)
instance {X : Cx} {st : List Stmt} {G : Ds → Option Res} : CoeFun (PSsD X st G) (fun _ => ∀ H₀ B₀ δ, PSs X st (tDS X.K H₀ B₀ δ G)) := ⟨PSsD.go⟩
section
variable {K : PySem.W.Frag} {H₀ H H' : Hp} {B₀ : BS} {σ : St} {δ : Ds}
theorem EnvS.grow (e : EnvS K H₀ B₀ H σ δ) (s : Same H H') : EnvS K H₀ B₀ H' σ δ := ⟨e.same.trans s, let ⟨B, b1, b2, en⟩ := e.ex; ⟨B, b1, b2, en.same s⟩, e.fr, e.b0⟩
end

/-- a target: which slots it writes -/
structure Wr (idx : List Nat) (σ σ' : St) (δ δ' : Ds) : Prop where
  len : σ'.length = σ.length
  oth : ∀ j, j ∉ idx → σ'[j]? = σ[j]? ∧ δ'[j]? = δ[j]?
  own : ∀ j ∈ idx, ∀ ds, δ'[j]? ≠ some (.ow ds)
def tDG (K : PySem.W.Frag) (idx : List Nat) (f : D → Ds → Option Ds) (B : BS) (d : D) (δ : Ds) : TG := fun v σ H Q => ∃ δ', Rp K H B d v ∧ Env K H B σ δ ∧ f d δ = some δ' ∧ ∀ σ', Wr idx σ σ' δ δ' → Env K H B σ' δ' → Q σ' H
structure PGD (X : Cx) (tg : Expr) (idx : List Nat) (f : D → Ds → Option Ds) : Prop where
  mk :: go : ∀ B d δ, PG X tg (tDG X.K idx f B d δ)
instance {X : Cx} {tg : Expr} {idx : List Nat} {f : D → Ds → Option Ds} : CoeFun (PGD X tg idx f) (fun _ => ∀ B d δ, PG X tg (tDG X.K idx f B d δ)) := ⟨PGD.go⟩
theorem _root_.L2.PG.imp {X : Cx} {tg : Expr} {t t' : TG} (h : PG X tg t) (q : ∀ v σ H Q, t' v σ H Q → t v σ H Q) : PG X tg t' := fun pins s σ H v u Q I r z => h pins s σ H v u Q I r (q v σ H Q z)
theorem wr_set {σ : St} {δ : Ds} {i : Nat} {v : V} {d : D} : Wr [i] σ (σ.set i (some v)) δ (δ.set i (.sh d)) := by
  refine ⟨by simp, fun j hj => ?_, fun j hj ds h => ?_⟩
  · have : j ≠ i := by simpa using hj
    rw [List.getElem?_set_ne (Ne.symm this), List.getElem?_set_ne (Ne.symm this)]
    exact ⟨rfl, rfl⟩
  · have : j = i := by simpa using hj
    subst this
    by_cases hl : j < δ.length
    · rw [List.getElem?_set_self hl] at h; cases h
    · rw [List.getElem?_eq_none (by simpa using hl)] at h; cases h
theorem pgd_name (i : Nat) {X : Cx} {x : Str} {pos : Pos} (hN : X.N.Nodup) (hi : X.N[i]? = some x := by rfl) (hx : Loc X.env.scope x := by first | exact Or.inl rfl | exact Or.inr rfl)
    (hf : X.fn x = true ∨ X.env.scope.names.lookup x = some .local := by first | exact .inl rfl | exact .inr rfl | assumption) : PGD X (.Name x pos) [i] (gN i) := .mk fun B d δ => (pg_name (i := i) hN hi hx hf).imp fun v σ H Q ⟨δ', r, en, e, k⟩ => by
  cases e
  exact k _ wr_set (en.set i r)

section
variable {X : Cx} {e tg : Expr} {st : Stmt} {rest : List Stmt} {pos : Pos} {g : Ds → Option D} {G G1 G2 Ga Gb : Ds → Option Res} {gt : Ds → Option Bool} {c : Expr} {as bs body : List Stmt}
theorem PSD.imp (h : PSD X st G) (q : ∀ δ r, G1 δ = some r → G δ = some r) : PSD X st G1 := .mk fun H₀ B₀ δ pins s σ H D I ⟨r, en, e, k⟩ => h H₀ B₀ δ pins s σ H D I ⟨r, en, q δ r e, k⟩
theorem pssd_nil : PSsD X [] nilD := .mk fun H₀ B₀ δ pins s σ H D I ⟨r, en, e, k⟩ => by
  cases e
  exact pss_nil pins s σ H D I (k σ H en)
theorem pssd_cons (h1 : PSD X st G1) (h2 : PSsD X rest G2) : PSsD X (st :: rest) (seqD G1 G2) := .mk fun H₀ B₀ δ pins s σ H D I ⟨r, en, e, k⟩ => by
  unfold seqD at e
  cases e1 : G1 δ with
  | none => rw [e1] at e; cases e
  | some r1 =>
    rw [e1] at e
    cases r1 with
    | nx δ' => exact pss_cons (h1 H₀ B₀ δ) (h2 H₀ B₀ δ') pins s σ H D I ⟨_, en, e1, fun σ' H' en' => ⟨r, en', e, k⟩⟩
    | rt d => cases e; exact pss_cons (h1 H₀ B₀ δ) pss_never pins s σ H D I ⟨_, en, e1, k⟩
    | bk δ' => cases e; exact pss_cons (h1 H₀ B₀ δ) pss_never pins s σ H D I ⟨_, en, e1, k⟩
    | ct δ' => cases e; exact pss_cons (h1 H₀ B₀ δ) pss_never pins s σ H D I ⟨_, en, e1, k⟩
    | rf d => cases e; exact pss_cons (h1 H₀ B₀ δ) pss_never pins s σ H D I ⟨_, en, e1, k⟩
theorem psd_ret (h : PD X e g) : PSD X (.Return (some e) pos) (retD g) := .mk fun H₀ B₀ δ pins s σ H D I ⟨r, en, e1, k⟩ => by
  unfold retD at e1
  obtain ⟨B, b1, b2, env⟩ := en.ex
  cases e2 : g δ with
  | none => rw [e2] at e1; cases e1
  | some d =>
    rw [e2] at e1
    cases e1
    exact ps_ret (h B δ) pins s σ H D I ⟨d, env, e2, fun v H' s' r => k v H' (en.same.trans s') (r.mono (Gr.less b1))⟩
theorem EnvS.wr {K : PySem.W.Frag} {H₀ H H' : Hp} {B₀ B : BS} {σ σ' : St} {δ δ' : Ds} {idx : List Nat} (e : EnvS K H₀ B₀ H σ δ) (b1 : ∀ a, B₀ a → B a) (b2 : ∀ a, B a → B₀ a ∨ H₀ a = none) (s : Same H H') (w : Wr idx σ σ' δ δ') (en : Env K H' B σ' δ') : EnvS K H₀ B₀ H' σ' δ' := by
  refine ⟨e.same.trans s, ⟨B, b1, b2, en⟩, fun i ds a h1 h2 => ?_, e.b0⟩
  by_cases hi : i ∈ idx
  · exact absurd h1 (w.own i hi ds)
  · rw [(w.oth i hi).2] at h1
    rw [(w.oth i hi).1] at h2
    exact e.fr i ds a h1 h2
theorem psd_asg {idx : List Nat} {f : D → Ds → Option Ds} (h : PD X e g) (hg : PGD X tg idx f) (hs : swapsWithSole [tg] e pos.line X.env = pure false := by rfl) (hw : swappedStores [tg] e X.env = pure none := by rfl)
    (h1 : (assignEach [tg] X.env).map (·.2) = [assign tg X.env] := by rfl) : PSD X (.Assign [tg] e pos) (setD f g) := .mk fun H₀ B₀ δ pins s σ H D I ⟨r, en, e1, k⟩ => by
  unfold setD at e1
  obtain ⟨B, b1, b2, env⟩ := en.ex
  cases e2 : g δ with
  | none => rw [e2] at e1; cases e1
  | some d =>
    rw [e2] at e1
    simp only [Option.bind_some] at e1
    cases e3 : f d δ with
    | none => rw [e3] at e1; cases e1
    | some δ' =>
      rw [e3] at e1
      cases e1
      exact ps_asg (h B δ) (hg B d δ) hs hw h1 pins s σ H D I ⟨d, env, e2, fun v H' s' r => ⟨δ', r, env.same s', e3, fun σ' w en' => k σ' H' (en.wr b1 b2 s' w en')⟩⟩
theorem psd_if (hc : PTD X c gt) (ha : PSsD X as Ga) (hb : PSsD X bs Gb) : PSD X (.If c as bs pos) (ifD gt Ga Gb) := .mk fun H₀ B₀ δ pins s σ H D I ⟨r, en, e1, k⟩ => by
  unfold ifD at e1
  obtain ⟨B, b1, b2, env⟩ := en.ex
  cases e2 : gt δ with
  | none => rw [e2] at e1; cases e1
  | some t =>
    rw [e2] at e1
    refine ps_if (hc B δ) (ha H₀ B₀ δ) (hb H₀ B₀ δ) pins s σ H D I ⟨t, env, e2, fun H' s' => ?_⟩
    cases t with
    | true => exact ⟨r, en.grow s', e1, k⟩
    | false => exact ⟨r, en.grow s', e1, k⟩
/-! ### what is walked -/
/-- J yields the data items, at every heap that still holds all of H₁ off B -/
structure ItD (K : PySem.W.Frag) (B : BS) (J : It) (items : List D) (H₁ : Hp) : Prop where
  go : ∀ i H, Gr H₁ H B B → i < items.length → J.go i H
  yld : ∀ i H x H', Gr H₁ H B B → J.yld i H x H' → i < items.length → Same H H' ∧ ∃ d, items[i]? = some d ∧ ∀ B' : BS, Gr H₁ H' B B' → (∀ a, B' a → H a ≠ none) → Rp K H' B' d x
  stop : ∀ i H, Gr H₁ H B B → items.length ≤ i → J.stop i H
def tDI (K : PySem.W.Frag) (B : BS) (δ : Ds) (g : Ds → Option (List D)) : TI := fun σ H R => ∃ items, Env K H B σ δ ∧ g δ = some items ∧ ∀ J H', Same H H' → ItD K B J items H' → R J H'
structure PID (X : Cx) (tg e : Expr) (g : Ds → Option (List D)) : Prop where
  mk :: go : ∀ B δ, PI X tg e (tDI X.K B δ g)
instance {X : Cx} {tg e : Expr} {g : Ds → Option (List D)} : CoeFun (PID X tg e g) (fun _ => ∀ B δ, PI X tg e (tDI X.K B δ g)) := ⟨PID.go⟩
theorem _root_.L2.PI.imp {t t' : TI} (h : PI X tg e t) (q : ∀ σ H R, t' σ H R → t σ H R) : PI X tg e t' := fun pins s σ H R I z => h pins s σ H R I (q σ H R z)
theorem pid_list (h : PD X e g) : PID X tg e (lstI g) := .mk fun B δ => L2.PI.imp (pi_list (h B δ)) fun σ H R ⟨items, en, e1, k⟩ => by
  unfold lstI at e1
  cases e2 : g δ with
  | none => rw [e2] at e1; cases e1
  | some d =>
    rw [e2] at e1
    cases d <;> simp [asLst] at e1
    subst e1
    refine ⟨_, en, e2, fun v H' s' r => ?_⟩
    rw [rp_lst] at r
    obtain ⟨a, xs, rfl, q, rs⟩ := r
    refine ⟨a, rfl, ⟨xs, q.to⟩, k _ H' s' ⟨fun i H2 g2 hi => ?_, fun i H2 x H3 g2 y hi => ?_, fun i H2 g2 hi => ?_⟩⟩
    · have : i < xs.length := by rw [rs.length]; exact hi
      exact ⟨xs, xs[i], (q.mono g2).to, by simp [this]⟩
    · obtain ⟨e3, y⟩ := y
      obtain ⟨x', e4, r'⟩ := rs.get (i := i) (d := _) (List.getElem?_eq_getElem hi)
      have := y xs (q.mono g2).to
      rw [e4] at this
      cases this
      subst e3
      exact ⟨Same.refl _, _, List.getElem?_eq_getElem hi, fun B' gB _ => r'.mono gB⟩
    · exact ⟨xs, (q.mono g2).to, by rw [rs.length]; exact hi⟩
theorem pid_tup (h : PD X e g) : PID X tg e (tupI g) := .mk fun B δ => L2.PI.imp (pi_tup (h B δ)) fun σ H R ⟨items, en, e1, k⟩ => by
  unfold tupI at e1
  cases e2 : g δ with
  | none => rw [e2] at e1; cases e1
  | some d =>
    rw [e2] at e1
    cases d <;> simp [asTup] at e1
    subst e1
    refine ⟨_, en, e2, fun v H' s' r => ?_⟩
    rw [rp_tup] at r
    obtain ⟨a, xs, rfl, q, rs⟩ := r
    refine ⟨a, rfl, ⟨xs, q.to⟩, k _ H' s' ⟨fun i H2 g2 hi => ?_, fun i H2 x H3 g2 y hi => ?_, fun i H2 g2 hi => ?_⟩⟩
    · have : i < xs.length := by rw [rs.length]; exact hi
      exact ⟨xs, xs[i], (q.mono g2).to, by simp [this]⟩
    · obtain ⟨e3, y⟩ := y
      obtain ⟨x', e4, r'⟩ := rs.get (i := i) (d := _) (List.getElem?_eq_getElem hi)
      have := y xs (q.mono g2).to
      rw [e4] at this
      cases this
      subst e3
      exact ⟨Same.refl _, _, List.getElem?_eq_getElem hi, fun B' gB _ => r'.mono gB⟩
    · exact ⟨xs, (q.mono g2).to, by rw [rs.length]; exact hi⟩
theorem signs_len (x : Str) : (signs x).length = x.cps.size := by simp [signs]
theorem pid_str (h : PD X e g) : PID X tg e (strI g) := .mk fun B δ => L2.PI.imp (pi_str (h B δ)) fun σ H R ⟨items, en, e1, k⟩ => by
  unfold strI at e1
  cases e2 : g δ with
  | none => rw [e2] at e1; cases e1
  | some d =>
    rw [e2] at e1
    cases d <;> simp [asSigns] at e1
    subst e1
    refine ⟨_, en, e2, fun v H' s' r => ?_⟩
    rw [rp_str] at r
    refine ⟨_, r, k _ H' s' ⟨fun i H2 g2 hi => ?_, fun i H2 x H3 g2 y hi => ?_, fun i H2 g2 hi => ?_⟩⟩
    · rw [signs_len] at hi; exact hi
    · obtain ⟨e3, c, hc, rfl⟩ := y
      subst e3
      refine ⟨Same.refl _, .str ⟨#[c]⟩, ?_, fun B' gB _ => by rw [rp_str]⟩
      unfold signs
      rw [List.getElem?_map, Array.getElem?_toList, hc]
      rfl
    · rw [signs_len] at hi; exact hi
theorem rngD_len (lo hi : Int) : (rngD lo hi).length = (hi - lo).toNat := by simp [rngD]
theorem itd_rng {K : PySem.W.Frag} {B : BS} {H : Hp} (lo hi : Int) : ItD K B (Itr lo (hi - lo).toNat) (rngD lo hi) H := by
  refine ⟨fun i H2 g2 hi => ?_, fun i H2 x H3 g2 y hi => ?_, fun i H2 g2 hi => ?_⟩
  · rw [rngD_len] at hi; exact hi
  · obtain ⟨e3, rfl⟩ := y
    rw [rngD_len] at hi
    subst e3
    exact ⟨Same.refl _, .int (lo + i), by simp [rngD, hi], fun B' gB _ => by rw [rp_int]⟩
  · rw [rngD_len] at hi; exact hi
theorem pid_range1 {a : Expr} {gA : Ds → Option (List D)} {p : Pos} (hm : X.mg "range" = none) (ha : PDA X [a] gA) (hg : Gl X "range" := by rfl) (hs : starEach [a] X.env = [(false, eval a X.env)] := by rfl) : PID X tg (.Call (.Name "range" p) [a] [] pos) (rng1I gA) :=
  .mk fun B δ => L2.PI.imp (pi_range1 hg hm (ha B δ) hs) fun σ H R ⟨items, en, e1, k⟩ => by
  unfold rng1I at e1
  cases e2 : gA δ with
  | none => rw [e2] at e1; cases e1
  | some ds =>
    rw [e2] at e1
    simp only [Option.bind_some] at e1
    unfold rng1D at e1
    split at e1
    · split at e1
      · rename_i j hj
        cases e1
        refine ⟨_, en, e2, fun vs H' s' r => ?_⟩
        rw [rps_cons] at r
        obtain ⟨x, t, rfl, r1, r2⟩ := r
        rw [rps_nil] at r2
        subst r2
        rw [rp_int] at r1
        subst r1
        refine ⟨j, rfl, hj.1, hj.2, k _ H' s' ?_⟩
        have := itd_rng (K := X.K) (B := B) (H := H') 0 j
        rw [Int.sub_zero] at this
        exact this
      · cases e1
    · cases e1
/-! ### for -/
theorem EnvS.lower {K : PySem.W.Frag} {H₀ H₁ H : Hp} {B₀ : BS} {σ : St} {δ : Ds} (e : EnvS K H₁ B₀ H σ δ) (s : Same H₀ H₁) (b0 : ∀ a, B₀ a → H₀ a ≠ none) : EnvS K H₀ B₀ H σ δ := by
  obtain ⟨B, b1, b2, en⟩ := e.ex
  exact ⟨s.trans e.same, ⟨B, b1, fun a z => (b2 a z).imp id fun q => s.free q, en⟩, fun i ds a h1 h2 => s.free (e.fr i ds a h1 h2), b0⟩
open Classical in
theorem psd_for {iter : Expr} {gi : Ds → Option (List D)} {idx : List Nat} {f : D → Ds → Option Ds} (hp : PassesOwn (model X.prog X.w) X.A X.env X.xe) (hc : X.calm = true) (hi : PID X tg iter gi) (hg : PGD X tg idx f) (hb : PSsD X body G)
    (hs : ∀ x, foldedSetIterable iter X.env x = pure x := by intro _; rfl) : PSD X (.For tg iter body [] pos) (forG gi f G) := .mk fun H₀ B₀ δ pins s σ H D I ⟨r, en, e1, k⟩ => by
  unfold forG at e1
  obtain ⟨B, b1, b2, env⟩ := en.ex
  cases e2 : gi δ with
  | none => rw [e2] at e1; cases e1
  | some items =>
    rw [e2] at e1
    simp only [Option.bind_some] at e1
    have hg' : PG X tg (fun v σ H Q => ∃ B d δ, tDG X.K idx f B d δ v σ H Q) := fun pins s σ H v u Q I r ⟨B, d, δ, h⟩ => hg B d δ pins s σ H v u Q I r h
    have hb' : PSs X body (fun D σ H => ∃ H₀ B₀ δ, tDS X.K H₀ B₀ δ G D σ H) := fun pins s σ H D I ⟨H₀, B₀, δ, h⟩ => hb H₀ B₀ δ pins s σ H D I h
    refine ps_for hp hc (hi B δ) hg' hb' hs pins s σ H D I ⟨items, env, e2, fun J H1 s1 it => ?_⟩
    -- the heap at the loop's start, without the lists that the body owns
    obtain ⟨Hh, hHh⟩ : ∃ Hh : Hp, Hh = fun b => if B b ∧ ¬ B₀ b then none else H1 b := ⟨_, rfl⟩
    have hoff : ∀ b, ¬ B b → Hh b = H1 b := fun b n => by rw [hHh]; exact if_neg fun z => n z.1
    have hown : ∀ b, B b → ¬ B₀ b → Hh b = none := fun b n n' => by rw [hHh]; exact if_pos ⟨n, n'⟩
    have hin : ∀ b, B₀ b → Hh b = H1 b := fun b n => by rw [hHh]; exact if_neg fun z => z.2 n
    have hle : Same Hh H1 := fun b o h => by
      by_cases z : B b ∧ ¬ B₀ b
      · rw [hown b z.1 z.2] at h; cases h
      · rw [hHh] at h
        have h' : (if B b ∧ ¬ B₀ b then none else H1 b) = some o := h
        rw [if_neg z] at h'
        exact h'
    have hS : Same H₀ Hh := fun b o h => by
      have h1 := s1 b o (en.same b o h)
      by_cases z : B b
      · rcases b2 b z with q | q
        · rw [hin b q]; exact h1
        · rw [h] at q; cases q
      · rw [hoff b z]; exact h1
    have env1 := env.same s1
    have start : EnvS X.K Hh B₀ H1 σ δ := by
      refine ⟨hle, ⟨B, b1, fun a z => ?_, env1⟩, fun i ds a h1 h2 => ?_, fun a z => ?_⟩
      · by_cases q : B₀ a
        · exact .inl q
        · exact .inr (hown a z q)
      · have hn := en.fr i ds a h1 h2
        have nb : ¬ B₀ a := fun z => en.b0 a z hn
        obtain ⟨o, e3, a', e4, hB, _⟩ := Pd.get env1.all h1
        rw [h2] at e3
        cases e3
        cases e4
        exact hown a hB nb
      · rw [hin a z]
        exact env1.bad a (b1 a z)
    refine ⟨fun i m σ H => m = items.length - i ∧ i ≤ items.length ∧ ∃ δi, EnvS X.K Hh B₀ H σ δi ∧ forD f G (items.drop i) δi = some r, ⟨_, rfl, Nat.zero_le _, δ, start, e1⟩, ?_⟩
    rintro i m σi Hi ⟨rfl, hil, δi, eni, ei⟩
    have gr : Gr H1 Hi B B := fun b o n h => ⟨n, eni.same b o (by rw [hoff b n]; exact h)⟩
    by_cases hlt : i < items.length
    · refine .inr ⟨it.go i Hi gr hlt, fun σ' H' => ∃ δn, EnvS X.K Hh B₀ H' σ' δn ∧ forD f G (items.drop (i + 1)) δn = some r, fun σ' H' ⟨δn, en', e'⟩ => ⟨items.length - (i + 1), by omega, rfl, hlt, δn, en', e'⟩, fun x H' y => ?_⟩
      obtain ⟨sm, d, hd, rd⟩ := it.yld i Hi x H' gr y hlt
      obtain ⟨B', c1, c2, env0⟩ := eni.ex
      have rd' : Rp X.K H' B' d x := rd B' (fun b o n h => by
        have h' : Hh b = some o := by rw [hoff b n]; exact h
        refine ⟨fun z => ?_, sm b o (eni.same b o h')⟩
        rcases c2 b z with q | q
        · exact n (b1 b q)
        · rw [h'] at q; cases q) env0.bad
      have env' := env0.same sm
      replace eni := eni.grow sm
      have hdrop : items.drop i = d :: items.drop (i + 1) := by
        rw [List.drop_eq_getElem_cons hlt]
        congr 1
        rw [List.getElem?_eq_getElem hlt] at hd
        exact Option.some.inj hd
      rw [hdrop] at ei
      unfold forD at ei
      cases e3 : f d δi with
      | none => rw [e3] at ei; cases ei
      | some δ2 =>
        rw [e3] at ei
        simp only [Option.bind_some] at ei
        refine ⟨B', d, δi, δ2, rd', env', e3, fun σ' w en' => ?_⟩
        have enb : EnvS X.K Hh B₀ H' σ' δ2 := eni.wr c1 c2 (Same.refl _) w en'
        cases e4 : G δ2 with
        | none => rw [e4] at ei; cases ei
        | some rb =>
          rw [e4] at ei
          refine ⟨Hh, B₀, δ2, rb, enb, e4, ?_⟩
          cases rb with
          | nx δn => exact fun σ' H' en' => ⟨δn, en', ei⟩
          | ct δn => exact fun σ' H' en' => ⟨δn, en', ei⟩
          | bk δn =>
            cases ei
            exact fun σ' H' en' => k σ' H' (en'.lower hS en.b0)
          | rt d' =>
            cases ei
            exact fun v H' s' r' => k v H' (hS.trans s') r'
          | rf d' =>
            cases ei
            exact fun p H' hp s' r' => k p H' (hS.free hp) (hS.trans s') r'
    · have e : i = items.length := by omega
      subst e
      refine .inl ⟨it.stop _ Hi gr (Nat.le_refl _), ?_⟩
      rw [List.drop_length] at ei
      cases ei
      exact k σi Hi (eni.lower hS en.b0)

/-! ### comprehensions -/
structure PFD (X : Cx) (ifs : List Expr) (g : Ds → Option Bool) : Prop where
  mk :: go : ∀ B δ, PF X ifs (tDT X.K B δ g)
instance {X : Cx} {ifs : List Expr} {g : Ds → Option Bool} : CoeFun (PFD X ifs g) (fun _ => ∀ B δ, PF X ifs (tDT X.K B δ g)) := ⟨PFD.go⟩
theorem pfd_nil : PFD X [] noT := .mk fun B δ pins s σ H Q I ⟨b, en, e, k⟩ => by
  cases e
  exact pf_nil pins s σ H Q I (k H (Same.refl H))
theorem pfd_one (h : PTD X c gt) : PFD X [c] gt := .mk fun B δ => pf_one (h B δ)
theorem sComp_lt {n : Nat} {caps : List Nat} {σ : St} {j : Nat} (h : j < n) : (sComp n caps σ)[j]? = some none := by
  unfold sComp
  rw [List.getElem?_append_left (by simpa using h), List.getElem?_replicate, if_pos h]
theorem rep_un {K : PySem.W.Frag} {H : Hp} {B : BS} : ∀ n : Nat, Paired (SlR K H B) (List.replicate n (none : Option V)) (List.replicate n Sl.un)
  | 0 => .nil
  | n + 1 => .cons trivial (rep_un n)
theorem caps_rel {K : PySem.W.Frag} {H : Hp} {B : BS} {σ : St} {δ : Ds} (en : Env K H B σ δ) : ∀ caps : List Nat, Paired (SlR K H B) (caps.map fun j => (σ[j]?).join) (caps.map fun j => capSl δ[j]?)
  | [] => .nil
  | j :: caps => by
    refine .cons ?_ (caps_rel en caps)
    show SlR K H B (σ[j]?).join (capSl δ[j]?)
    cases h : δ[j]? with
    | none => trivial
    | some sl =>
      cases sl with
      | un => trivial
      | ow ds => trivial
      | sh d =>
        obtain ⟨v, e, r⟩ := en.get h
        rw [e]
        exact ⟨v, rfl, r⟩
theorem capSl_ow {o : Option Sl} {ds : D} (h : capSl o = .ow ds) : False := by
  cases o with
  | none => cases h
  | some s => cases s <;> cases h
theorem dComp_ow {n : Nat} {caps : List Nat} {δ : Ds} {i : Nat} {ds : D} (h : (dComp n caps δ)[i]? = some (.ow ds)) : False := by
  unfold dComp at h
  by_cases hi : i < n
  · rw [List.getElem?_append_left (by simpa using hi), List.getElem?_replicate, if_pos hi] at h
    cases h
  · rw [List.getElem?_append_right (by simpa using hi), List.getElem?_map] at h
    cases q : caps[i - (List.replicate n Sl.un).length]? with
    | none => rw [q] at h; cases h
    | some j =>
      rw [q] at h
      exact capSl_ow (Option.some.inj h)
theorem Env.comp {K : PySem.W.Frag} {H : Hp} {B : BS} {σ : St} {δ : Ds} (en : Env K H B σ δ) (n : Nat) (caps : List Nat) : Env K H B (sComp n caps σ) (dComp n caps δ) :=
  ⟨Pd.app (rep_un n) (caps_rel en caps), en.bad, fun i j a ds es h1 _ _ _ => (dComp_ow h1).elim⟩
theorem SlR.gr {K : PySem.W.Frag} {H H' : Hp} {B B' : BS} {o : Option V} {s : Sl} (g : Gr H H' B B') (no : ∀ ds, s ≠ .ow ds) (h : SlR K H B o s) : SlR K H' B' o s := by
  cases s with
  | un => trivial
  | sh d => obtain ⟨v, e, r⟩ := h; exact ⟨v, e, r.mono g⟩
  | ow ds => exact absurd rfl (no ds)
theorem Pd.impG {K : PySem.W.Frag} {H H' : Hp} {B B' : BS} (g : Gr H H' B B') : ∀ {σ : St} {δ : Ds}, (∀ (i : Nat) (ds : D), δ[i]? ≠ some (.ow ds)) → Paired (SlR K H B) σ δ → Paired (SlR K H' B') σ δ
  | _, _, _, .nil => .nil
  | _, _, no, .cons r t => .cons (r.gr g fun ds z => no 0 ds (by rw [← z]; rfl)) (Pd.impG g (fun i ds z => no (i + 1) ds (by simpa using z)) t)
/-- a new list or dict -/
def tDF (K : PySem.W.Frag) (B : BS) (δ : Ds) (g : Ds → Option D) : TE := fun σ H Q => ∃ d, Env K H B σ δ ∧ g δ = some d ∧ ∀ p H', H p = none → Same H H' → RpO K H' (fun a => B a ∨ a = p) d p → Q (.ref p) H'
structure PDF (X : Cx) (e : Expr) (g : Ds → Option D) : Prop where
  mk :: go : ∀ B δ, PE X e (tDF X.K B δ g)
instance {X : Cx} {e : Expr} {g : Ds → Option D} : CoeFun (PDF X e g) (fun _ => ∀ B δ, PE X e (tDF X.K B δ g)) := ⟨PDF.go⟩
theorem tD.toF {K : PySem.W.Frag} {B : BS} {δ : Ds} {g : Ds → Option D} {σ : St} {H : Hp} {Q : VK} (h : tD K B δ g σ H Q) : tDF K B δ g σ H Q := by
  obtain ⟨d, en, e, k⟩ := h
  exact ⟨d, en, e, fun p H' hp s r => k _ H' s (r.rp (fun a z => .inl z) (en.free hp))⟩
theorem PDF.pd {X : Cx} {e : Expr} {g : Ds → Option D} (h : PDF X e g) : PD X e g := .mk fun B δ => (h B δ).imp fun σ H Q z => z.toF
/-- the comprehension's list, as data -/
theorem comp_read {K : PySem.W.Frag} {B : BS} {δ : Ds} {σ : St} {H : Hp} {Q : VK} {n : Nat} {caps : List Nat} {gi : Ds → Option (List D)} {idx : List Nat} {f : D → Ds → Option Ds} {gt : Ds → Option Bool} {ge : Ds → Option D} (hidx : ∀ j ∈ idx, j < n)
    (h : tDF K B δ (compG n caps gi f gt ge) σ H Q) :
    tComp n caps (tDI K B δ gi) (fun v σ H Q => ∃ B d δ, tDG K idx f B d δ v σ H Q) (fun σ H Q => ∃ B δ, tDT K B δ gt σ H Q) (fun σ H Q => ∃ B δ, tD K B δ ge σ H Q) σ H Q := by
  obtain ⟨d, en, h, k⟩ := h
  unfold compG at h
  cases e1 : gi δ with
  | none => rw [e1] at h; cases h
  | some items =>
    rw [e1] at h
    simp only [Option.bind_some] at h
    by_cases hsz : items.length ≤ sizeLine
    · rw [if_pos hsz] at h
      cases e2 : compD f gt ge (dComp n caps δ) items with
      | none => rw [e2] at h; cases h
      | some out =>
        rw [e2] at h
        cases h
        refine ⟨items, en, e1, fun J H1 s1 it => fun L hL => ?_⟩
        have en1 := en.same s1
        have nBL : ¬ B L := en1.free hL
        obtain ⟨Bp, hBp⟩ : ∃ Bp : BS, Bp = fun a => B a ∨ a = L := ⟨_, rfl⟩
        have bpL : Bp L := by rw [hBp]; exact .inr rfl
        have bpB : ∀ a, B a → Bp a := fun a z => by rw [hBp]; exact .inl z
        have bpI : ∀ a, Bp a → B a ∨ a = L := fun a z => by rw [hBp] at z; exact z
        have gr : ∀ {H2 : Hp}, Same H1 H2 → Gr H1 H2 B Bp := fun {H2} s2 b o nb hb => ⟨(fun z => by
          rcases bpI b z with q | q
          · exact nb q
          · subst q; rw [hL] at hb; cases hb), s2 b o hb⟩
        refine ⟨fun i m ys H2 => m = items.length - i ∧ i ≤ items.length ∧ H2 L = some (.lst ys) ∧ Same H1 H2 ∧ ys.length ≤ i ∧ ∃ pre rest, out = pre ++ rest ∧ Rps K H2 Bp pre ys ∧ compD f gt ge (dComp n caps δ) (items.drop i) = some rest,
          ⟨_, rfl, Nat.zero_le _, upd_same, same_upd hL, Nat.le_refl _, [], out, rfl, by rw [rps_nil], e2⟩, ?_⟩
        rintro i m ys H2 ⟨rfl, hil, hD, s2, hyl, pre, rest, ho, rp, ec⟩
        have en2 : Env K H2 Bp (sComp n caps σ) (dComp n caps δ) := by
          refine ⟨Pd.impG (gr s2) (fun i ds z => dComp_ow z) (en1.comp n caps).all, fun a z => ?_, fun i j a ds es h1 _ _ _ => (dComp_ow h1).elim⟩
          rcases bpI a z with q | q
          · exact (en1.same s2).bad a q
          · subst q; rw [hD]; exact fun z => nomatch z
        by_cases hlt : i < items.length
        · refine .inr ⟨it.go i H2 (Gr.same s2) hlt, fun x H3 y => ?_⟩
          obtain ⟨sm, dx, hdx, rx⟩ := it.yld i H2 x H3 (Gr.same s2) y hlt
          have rx' : Rp K H3 Bp dx x := rx Bp (gr (s2.trans sm)) en2.bad
          replace en2 := en2.same sm
          replace s2 := s2.trans sm
          replace hD := sm _ _ hD
          replace rp := rp.same sm
          have hdrop : items.drop i = dx :: items.drop (i + 1) := by
            rw [List.drop_eq_getElem_cons hlt]
            congr 1
            rw [List.getElem?_eq_getElem hlt] at hdx
            exact Option.some.inj hdx
          rw [hdrop] at ec
          unfold compD at ec
          cases e3 : f dx (dComp n caps δ) with
          | none => rw [e3] at ec; cases ec
          | some δ' =>
            rw [e3] at ec
            dsimp only at ec
            refine ⟨Bp, dx, dComp n caps δ, δ', rx', en2, e3, fun σ4 w en4 => ⟨⟨w.len, fun j v z => ?_⟩, ?_⟩⟩
            · by_cases hj : j ∈ idx
              · rw [sComp_lt (hidx j hj)] at z; cases z
              · rw [(w.oth j hj).1]; exact z
            · cases e4 : gt δ' with
              | none => rw [e4] at ec; cases ec
              | some t =>
                rw [e4] at ec
                refine ⟨Bp, δ', t, en4, e4, fun H5 s5 => ?_⟩
                cases t with
                | false =>
                  rw [if_neg Bool.false_ne_true]
                  exact ⟨items.length - (i + 1), by omega, rfl, hlt, s5 _ _ hD, s2.trans s5, by omega, pre, rest, ho, rp.same s5, ec⟩
                | true =>
                  rw [if_pos rfl]
                  dsimp only at ec
                  cases e5 : ge δ' with
                  | none => rw [e5] at ec; cases ec
                  | some yd =>
                    rw [e5] at ec
                    dsimp only at ec
                    cases e6 : compD f gt ge (dComp n caps δ) (items.drop (i + 1)) with
                    | none => rw [e6] at ec; cases ec
                    | some rest' =>
                      rw [e6] at ec
                      cases ec
                      refine ⟨Bp, δ', yd, en4.same s5, e5, fun v H6 s6 r6 => ?_⟩
                      have hD6 : H6 L = some (.lst ys) := s6 _ _ (s5 _ _ hD)
                      have g6 : Gr H6 (upd H6 L (.lst (ys ++ [v]))) Bp Bp := fun b o nb hb => ⟨nb, by
                        rw [upd_ne (fun z => nb (by rw [z]; exact bpL))]; exact hb⟩
                      refine ⟨hD6, by omega, items.length - (i + 1), by omega, rfl, hlt, upd_same, fun b o hb => ?_, by simp; omega, pre ++ [yd], rest', by rw [ho]; simp, ?_, e6⟩
                      · have nbL : b ≠ L := fun z => by rw [z, hL] at hb; cases hb
                        rw [upd_ne nbL]
                        exact s6 _ _ (s5 _ _ (s2 _ _ hb))
                      · exact (Rps.snoc ((rp.same s5).same s6) r6).mono g6
        · have e : i = items.length := by omega
          subst e
          refine .inl ⟨it.stop _ H2 (Gr.same s2) (Nat.le_refl _), ?_⟩
          rw [List.drop_length] at ec
          have ec' : ([] : List D) = rest := Option.some.inj ec
          subst ec'
          rw [List.append_nil] at ho
          subst ho
          refine k L H2 (s1.free hL) (s1.trans s2) ⟨ys, hD, ?_⟩
          rw [hBp] at rp
          exact rp
    · rw [if_neg hsz] at h; cases h
theorem pdf_comp {sc scope : Scope} {elt iter : Expr} {ifs : List Expr} {N' : List Str} {n : Nat} {caps : List Nat} {gi : Ds → Option (List D)} {idx : List Nat} {f : D → Ds → Option Ds} {ge : Ds → Option D}
    (hc : X.calm = true) (hsc : X.env.scope = sc) (ok : CompOk sc scope X.N N' n caps) (hidx : ∀ j ∈ idx, j < n) (hi : PID X tg iter gi)
    (hg : ∀ cl s H ex, PGD (cxComp X scope cl N' s H ex) tg idx f) (ht : ∀ cl s H ex, PFD (cxComp X scope cl N' s H ex) ifs gt) (he : ∀ cl s H ex, PD (cxComp X scope cl N' s H ex) elt ge)
    (hs : ∀ x, foldedSetIterable iter X.env x = pure x := by intro _; rfl) :
    PDF X (.ListComp elt [⟨tg, iter, ifs, 0⟩] scope pos) (compG n caps gi f gt ge) := .mk fun B δ =>
  (pe_comp hc hsc ok (hi B δ) (g := fun v σ H Q => ∃ B d δ, tDG X.K idx f B d δ v σ H Q) (tt := fun σ H Q => ∃ B δ, tDT X.K B δ gt σ H Q) (te := fun σ H Q => ∃ B δ, tD X.K B δ ge σ H Q)
    (fun cl s H ex pins s' σ H v u Q I r ⟨B, d, δ, h⟩ => hg cl s _ ex B d δ pins s' σ H v u Q I r h)
    (fun cl s H ex pins s' σ H Q I ⟨B, δ, h⟩ => ht cl s _ ex B δ pins s' σ H Q I h)
    (fun cl s H ex pins s' σ H Q I ⟨B, δ, h⟩ => he cl s _ ex B δ pins s' σ H Q I h) hs).imp fun σ H Q h => comp_read hidx h
theorem pd_comp {sc scope : Scope} {elt iter : Expr} {ifs : List Expr} {N' : List Str} {n : Nat} {caps : List Nat} {gi : Ds → Option (List D)} {idx : List Nat} {f : D → Ds → Option Ds} {ge : Ds → Option D}
    (hc : X.calm = true) (hsc : X.env.scope = sc) (ok : CompOk sc scope X.N N' n caps) (hidx : ∀ j ∈ idx, j < n) (hi : PID X tg iter gi)
    (hg : ∀ cl s H ex, PGD (cxComp X scope cl N' s H ex) tg idx f) (ht : ∀ cl s H ex, PFD (cxComp X scope cl N' s H ex) ifs gt) (he : ∀ cl s H ex, PD (cxComp X scope cl N' s H ex) elt ge)
    (hs : ∀ x, foldedSetIterable iter X.env x = pure x := by intro _; rfl) :
    PD X (.ListComp elt [⟨tg, iter, ifs, 0⟩] scope pos) (compG n caps gi f gt ge) := (pdf_comp hc hsc ok hidx hi hg ht he hs).pd
theorem psd_setComp (i : Nat) {y : Str} {py spos : Pos} {sc scope : Scope} {elt iter : Expr} {ifs : List Expr} {N' : List Str} {n : Nat} {caps : List Nat} {gi : Ds → Option (List D)} {idx : List Nat} {f : D → Ds → Option Ds} {ge : Ds → Option D}
    (hN : X.N.Nodup) (hc : X.calm = true) (hsc : X.env.scope = sc) (ok : CompOk sc scope X.N N' n caps) (hidx : ∀ j ∈ idx, j < n) (hi : PID X tg iter gi)
    (hg : ∀ cl s H ex, PGD (cxComp X scope cl N' s H ex) tg idx f) (ht : ∀ cl s H ex, PFD (cxComp X scope cl N' s H ex) ifs gt) (he : ∀ cl s H ex, PD (cxComp X scope cl N' s H ex) elt ge)
    (hiN : X.N[i]? = some y := by rfl) (hy : Loc X.env.scope y := by first | exact Or.inl rfl | exact Or.inr rfl)
    (hsw : swapsWith (.ListComp elt [⟨tg, iter, ifs, 0⟩] scope pos) (some (.Name y py)) spos.line X.env = pure true := by rfl)
    (hs : ∀ x, foldedSetIterable iter X.env x = pure x := by intro _; rfl)
    (hf : X.fn y = true ∨ X.env.scope.names.lookup y = some .local := by first | exact .inl rfl | exact .inr rfl | assumption) :
    PSD X (.Assign [.Name y py] (.ListComp elt [⟨tg, iter, ifs, 0⟩] scope pos) spos) (setD (gN i) (compG n caps gi f gt ge)) := .mk fun H₀ B₀ δ pins s σ H D I ⟨r, en, e1, k⟩ => by
  unfold setD at e1
  obtain ⟨B, b1, b2, env⟩ := en.ex
  cases e2 : compG n caps gi f gt ge δ with
  | none => rw [e2] at e1; cases e1
  | some d =>
    rw [e2] at e1
    cases e1
    refine ps_setComp (i := i) hN hiN hy hc hsc ok (hi B δ) (g := fun v σ H Q => ∃ B d δ, tDG X.K idx f B d δ v σ H Q) (tt := fun σ H Q => ∃ B δ, tDT X.K B δ gt σ H Q) (te := fun σ H Q => ∃ B δ, tD X.K B δ ge σ H Q)
      (fun cl s H ex pins s' σ H v u Q I r ⟨B, d, δ, h⟩ => hg cl s _ ex B d δ pins s' σ H v u Q I r h)
      (fun cl s H ex pins s' σ H Q I ⟨B, δ, h⟩ => ht cl s _ ex B δ pins s' σ H Q I h)
      (fun cl s H ex pins s' σ H Q I ⟨B, δ, h⟩ => he cl s _ ex B δ pins s' σ H Q I h) hsw hs hf pins s σ H D I (comp_read hidx (tD.toF ⟨d, env, e2, fun v H' s' r' => k _ H' (en.wr b1 b2 s' wr_set ((env.same s').set i r'))⟩))

end

/-! ### a def, by data -/
theorem start_rel {K : PySem.W.Frag} {H : Hp} {B : BS} {N : List Str} : ∀ {ds : List D} {vs : List V}, Rps K H B ds vs → Paired (SlR K H B) (vs.map some) (ds.map Sl.sh)
  | [], _, h => by rw [rps_nil] at h; subst h; exact .nil
  | d :: ds, _, h => by
    rw [rps_cons] at h
    obtain ⟨x, r, rfl, h1, h2⟩ := h
    exact .cons ⟨x, rfl, h1⟩ (start_rel (N := N) h2)
theorem dStart_ow {N : List Str} {ds : List D} {i : Nat} {es : D} (h : (dStart N ds)[i]? = some (.ow es)) : False := by
  unfold dStart at h
  by_cases hi : i < ds.length
  · rw [List.getElem?_append_left (by simpa using hi), List.getElem?_map] at h
    cases q : ds[i]? with
    | none => rw [q] at h; cases h
    | some d => rw [q] at h; cases h
  · rw [List.getElem?_append_right (by simpa using hi), List.getElem?_replicate] at h
    split at h <;> cases h
section
variable {P : Program} {w : World} {K : PySem.W.Frag} {mg : Str → Option Value} {base : Heap}
theorem okD {x qual : Str} {st : Stmt} {fa : Addr} {fd : FuncData} {N ps : List Str} {k : Nat} {f : List D → Option D} {G : Ds → Option Res} (F : Fun K x qual st fa fd) (S : FnScope N ps (defScope st))
    (body : ∀ (cdv : Value) (A : Around) (outer : List PySem.Env) (s : Shared) (H : Hp) (E : XK), Room k (A.deeper (envOfC qual (defScope st) s.heap.objs.size fa cdv)) → PSsD (cxOf CX0 P w K mg base N qual (defScope st) fa cdv A outer s H E).nox (defBody st) G)
    (hf : ∀ ds d, f ds = some d → ds.length = ps.length ∧ (G (dStart N ds) = some (.rt d) ∨ (d = .non ∧ ∃ δ, G (dStart N ds) = some (.nx δ)) ∨ G (dStart N ds) = some (.rf d))) :
    FnOk P w K mg base CX0 (k + 1) fa fd ps (spD K f) := by
  refine F.ok S (fun vs H Q E ⟨B, ds, d, _, r, h, _⟩ => ?_) (fun cdv A outer s H vs Q E hr ⟨B, ds, d, hb, r, h, q⟩ => ?_)
  · rw [r.length]; exact (hf ds d h).1
  · refine ⟨_, body cdv A outer s H E hr H B (dStart N ds), ?_⟩
    have en : EnvS K H B H (L2.start N vs) (dStart N ds) := by
      refine ⟨Same.refl H, ⟨B, fun _ z => z, fun _ z => .inl z, ⟨?_, hb, fun i j a ds' es h1 _ _ _ => (dStart_ow h1).elim⟩⟩, fun i ds' a h1 _ => (dStart_ow h1).elim, hb⟩
      unfold L2.start dStart
      rw [r.length]
      exact Pd.app (start_rel (N := N) r) (rep_un _)
    rcases (hf ds d h).2 with e | ⟨rfl, δ, e⟩ | e
    · exact ⟨_, en, e, fun v H' s' r' => q v H' s' r'⟩
    · exact ⟨_, en, e, fun σ' H' en' => q .non H' en'.same (by rw [rp_non])⟩
    · exact ⟨_, en, e, fun p H' hp s' r' => q _ H' s' (r'.rp (fun a z => .inl z) (fun z => hb p z hp))⟩
/-- a def that gives back a new list or dict -/
def spN (K : PySem.W.Frag) (f : List D → Option D) : Sp := fun vs H Q _ => ∃ (B : BS) (ds : List D) (d : D), (∀ a, B a → H a ≠ none) ∧ Rps K H B ds vs ∧ f ds = some d ∧ ∀ p H', H p = none → Same H H' → RpO K H' (fun a => B a ∨ a = p) d p → Q (.ref p) H'
theorem okN {x qual : Str} {st : Stmt} {fa : Addr} {fd : FuncData} {N ps : List Str} {k : Nat} {f : List D → Option D} {G : Ds → Option Res} (F : Fun K x qual st fa fd) (S : FnScope N ps (defScope st))
    (body : ∀ (cdv : Value) (A : Around) (outer : List PySem.Env) (s : Shared) (H : Hp) (E : XK), Room k (A.deeper (envOfC qual (defScope st) s.heap.objs.size fa cdv)) → PSsD (cxOf CX0 P w K mg base N qual (defScope st) fa cdv A outer s H E).nox (defBody st) G)
    (hf : ∀ ds d, f ds = some d → ds.length = ps.length ∧ G (dStart N ds) = some (.rf d)) :
    FnOk P w K mg base CX0 (k + 1) fa fd ps (spN K f) := by
  refine F.ok S (fun vs H Q E ⟨B, ds, d, _, r, h, _⟩ => ?_) (fun cdv A outer s H vs Q E hr ⟨B, ds, d, hb, r, h, q⟩ => ?_)
  · rw [r.length]; exact (hf ds d h).1
  · refine ⟨_, body cdv A outer s H E hr H B (dStart N ds), ?_⟩
    have en : EnvS K H B H (L2.start N vs) (dStart N ds) := by
      refine ⟨Same.refl H, ⟨B, fun _ z => z, fun _ z => .inl z, ⟨?_, hb, fun i j a ds' es h1 _ _ _ => (dStart_ow h1).elim⟩⟩, fun i ds' a h1 _ => (dStart_ow h1).elim, hb⟩
      unfold L2.start dStart
      rw [r.length]
      exact Pd.app (start_rel (N := N) r) (rep_un _)
    exact ⟨_, en, (hf ds d h).2, fun p H' hp s' r' => q p H' hp s' r'⟩
end
end DL
namespace L2
open PySem PySem.Spec PyProof.Rows
section
variable {X : Cx}
/-! ### all -/
theorem bools_at : ∀ {bs : List Bool} {us : List Value} {i : Nat} {v : Value}, Vals (bs.map V.bl) us → us[i]? = some v → v = .bool (bs.getD i true)
  | [], _, _, _, r, e => by
    rw [List.map_nil] at r
    cases r
    simp at e
  | b :: bs, _, 0, v, r, e => by
    rw [List.map_cons] at r
    cases r with
    | cons r1 r2 => simp at e; subst e; exact r1
  | b :: bs, _, i + 1, v, r, e => by
    rw [List.map_cons] at r
    cases r with
    | cons r1 r2 => simpa using bools_at (i := i) r2 (by simpa using e)
theorem all_range (bs : List Bool) : (List.range bs.length).all (fun i => bs.getD i true) = bs.all id := by
  rw [Bool.eq_iff_iff, List.all_eq_true, List.all_eq_true]
  constructor
  · intro h b hb
    obtain ⟨i, hi, rfl⟩ := List.mem_iff_getElem.mp hb
    have := h i (List.mem_range.mpr hi)
    simpa [List.getD_eq_getElem?_getD, hi] using this
  · intro h i hi
    have hi' := List.mem_range.mp hi
    have := h bs[i] (List.getElem_mem hi')
    simpa [List.getD_eq_getElem?_getD, hi'] using this
theorem call_all (hc : X.calm = true) : CallR X (.builtin "all") (fun xs H Q => ∃ (p : Addr) (bs : List Bool), xs = [.ref p] ∧ SqL X.K H p (bs.map V.bl) ∧ Q (.bl (bs.all id)) H) := by
  intro pins s σ H xs us Q I rs h
  obtain ⟨p, bs, rfl, hq, q⟩ := h
  obtain ⟨u, rfl, ru⟩ := rs.one
  cases ru
  obtain ⟨its, rv, pl, hz⟩ := I.list hq
  refine call_all_walk (wpAny_pyIter_list pl.isList ?_)
  have hp : p ≠ s.heap.objs.size := by
    obtain ⟨o, n, e, _⟩ := pl
    exact Nat.ne_of_lt (Heap.lt_size e)
  refine ⟨_, _, _, _, _, _, fun i => bs.getD i true, rfl, Walks.list (A := X.A.in1) (I.ok.hd hc) s.heap.objs.size p hp its.toArray, ⟨⟨_, Heap.get?_push_size _ rfl, rfl, rfl⟩, pl.isList.push _⟩, ?_, ?_⟩
  · intro i v s' Q' E' hP hQ
    have e := bools_at rv (i := i) (v := v) (by simpa using hP)
    subst e
    exact wpAny_truthy_bool hQ
  · intro h' tk hk
    have e1 : its.toArray.size = bs.length := by
      have := rv.length
      simp at this
      simp [this]
    rw [e1, all_range]
    refine ⟨.bl (bs.all id), H, I.kept (t' := tk) fun b o e => ?_, rfl, q⟩
    refine hk b o ?_ (Heap.get?_push_of_some _ e)
    intro z
    have z' : b = s.heap.objs.size := by simpa using z
    subst z'
    exact absurd (Heap.lt_size e) (Nat.lt_irrefl _)
/-! ### join -/
theorem strs_are : ∀ {ys : List Str} {us : List Value}, Vals (ys.map V.str) us → StrsAre us ys
  | [], _, r => by rw [List.map_nil] at r; cases r; exact .nil
  | y :: ys, _, r => by
    rw [List.map_cons] at r
    cases r with
    | cons r1 r2 =>
      obtain ⟨t, e⟩ := r1
      subst e
      exact .cons y t (strs_are r2)
/-! ### slices of a text -/
theorem part_of {u : Value} {o : Option Int} (p : IsPart u o) : ∃ l : Option (Int × Tok), u = partValue l ∧ l.map (·.1) = o := by
  cases p with
  | none => exact ⟨none, rfl, rfl⟩
  | int i t => exact ⟨some (i, t), rfl, rfl⟩
theorem sl_str : SlR X (fun x lo hi H Q => ∃ z, x = .str z ∧ z.length ≤ sizeLine ∧ Q (.str (Txt.slice z lo hi)) H) := by
  intro pins s σ H x v vl vu lo hi sl Q I rx hs pl pu h
  obtain ⟨z, rfl, hz, q⟩ := h
  obtain ⟨t, rfl⟩ := rx
  obtain ⟨l, rfl, rfl⟩ := part_of pl
  obtain ⟨u, rfl, rfl⟩ := part_of pu
  refine ⟨"str", _, F.slot_str_getitem.lookup, typeIs_str _ _ _, wpAny_getItem_str_slice (l := l) (u := u) (st := none) ?_ rfl (post_val_or_str ⟨Nat.le_trans (Txt.slice_le z _ _) hz, fun t' k => ⟨.str _, H, I.tok k, ⟨t', rfl⟩, q⟩⟩)⟩
  obtain ⟨o, h1, h2, h3⟩ := hs
  exact ⟨o, h1, h2, h3⟩
end
end L2

namespace DL
open PySem PySem.Spec PyProof.Rows L2
/-! ### isinstance -/
def tyD : D → String
  | .non => "NoneType" | .bl _ => "bool" | .int _ => "int" | .str _ => "str" | .tup _ => "tuple" | .lst _ => "list" | .dct _ _ => "dict"
def okT (T : String) (f : D → Bool) : Prop := ∀ (K : PySem.W.Frag) (d : D), PySem.W.kitOne K (.type (tyD d)) (.type T) = some (f d)
theorem okT_int : okT "int" isInt := fun K d => by cases d <;> kernel_rfl
theorem okT_str : okT "str" isStr := fun K d => by cases d <;> kernel_rfl
theorem okT_bool : okT "bool" isBool := fun K d => by cases d <;> kernel_rfl
theorem okT_tuple : okT "tuple" isTup := fun K d => by cases d <;> kernel_rfl
section
variable {X : Cx}
theorem call_isi {T : String} {f : D → Bool} (hT : okT T f) : CallR X (.builtin "isinstance") (fun xs H Q => ∃ B d x, xs = [x, .ty T] ∧ Rp X.K H B d x ∧ Q (.bl (f d)) H) := by
  intro pins s σ H xs us Q I rs h
  obtain ⟨B, d, x, rfl, r, q⟩ := h
  obtain ⟨u, c, rfl, ru, rc⟩ := rs.two
  obtain rfl : c = Value.type T := rc
  have fin : ∀ tk, EP X pins σ Q (.bool (f d)) { s with toks := tk } := fun tk => ⟨.bl _, H, I.tok tk, rfl, q⟩
  have e := hT X.K d
  cases d with
  | non => rw [rp_non] at r; subst r; cases (show u = Value.none from ru); exact PySem.W.kia_one PySem.W.kitx_none I.kIn True.intro e (fun z => nomatch z) fin
  | bl y => rw [rp_bl] at r; subst r; cases (show u = Value.bool y from ru); exact PySem.W.kia_one PySem.W.kitx_bool I.kIn True.intro e (fun z => nomatch z) fin
  | int i => rw [rp_int] at r; subst r; obtain ⟨t, rfl⟩ := (show ∃ t, u = Value.int i t from ru); exact PySem.W.kia_one PySem.W.kitx_int I.kIn True.intro e (fun z => nomatch z) fin
  | str y => rw [rp_str] at r; subst r; obtain ⟨t, rfl⟩ := (show ∃ t, u = Value.str y t from ru); exact PySem.W.kia_one PySem.W.kitx_str I.kIn True.intro e (fun z => nomatch z) fin
  | tup ds =>
    rw [rp_tup] at r
    obtain ⟨a, xs, rfl, hq, _⟩ := r
    cases (show u = Value.ref a from ru)
    obtain ⟨its, _, p, _⟩ := I.tuple hq.to
    obtain ⟨o, h1, h2, _⟩ := p
    exact PySem.W.kia_one PySem.W.kitx_tuple I.kIn ⟨o, h1, h2⟩ e (fun z => nomatch z) fin
  | lst ds =>
    rw [rp_lst] at r
    obtain ⟨a, xs, rfl, hq, _⟩ := r
    cases (show u = Value.ref a from ru)
    obtain ⟨its, _, p, _⟩ := I.list hq.to
    obtain ⟨o, n, h1, h2, _⟩ := p
    exact PySem.W.kia_one PySem.W.kitx_list I.kIn ⟨o, h1, h2⟩ e (fun z => nomatch z) fin
  | dct ks ds =>
    rw [rp_dct] at r
    obtain ⟨a, xs, rfl, _, hq, _⟩ := r
    cases (show u = Value.ref a from ru)
    obtain ⟨_, _, vs, _, p⟩ := (show ObjOk X.prog X.w H s.heap a (.dK (ks.zip xs)) from I.hok a _ hq)
    obtain ⟨o, es, ep, h1, h2, _⟩ := p
    exact PySem.W.kia_one PySem.W.kitx_dict I.kIn ⟨o, h1, h2.1⟩ e (fun z => nomatch z) fin
theorem pd_isi {T : String} {f : D → Bool} {Tn : Str} {e : Expr} {g : Ds → Option D} {p p2 pos : Pos} (hT : okT T f) (hb : bootBuiltins Tn = some (.type T)) (hm : X.mg "isinstance" = none) (hmT : X.mg Tn = none) (h : PD X e g) (hg : Gl X "isinstance" := by rfl) (hgT : Gl X Tn := by rfl)
    (hn : Tn ≠ "__name__" := by decide) (hd : (Tn == ("__debug__" : Str)) = false := by decide)
    (he : starEach [e, .Name Tn p2] X.env = (false, eval e X.env) :: starEach [.Name Tn p2] X.env := by rfl) (he2 : starEach [.Name Tn p2] X.env = (false, eval (.Name Tn p2) X.env) :: starEach [] X.env := by rfl)
    (hpl : (backTo pos (starEach [.Name Tn p2] X.env)).any (·.1) = false := by rfl) :
    PD X (.Call (.Name "isinstance" p) [e, .Name Tn p2] [] pos) (isiG f g) :=
  .mk fun B δ => (pe_callB (call_isi hT) hg hm PyProof.Rows.boot_isinstance (pa_cons (h B δ) (pa_cons (pe_bltn (v := .ty T) hgT hmT hb rfl hn hd) pa_nil he2) he) (by decide) (by decide) he hpl).imp fun σ H Q ⟨d, en, h, k⟩ => by
    unfold isiG at h
    cases e1 : g δ with
    | none => rw [e1] at h; cases h
    | some x =>
      rw [e1] at h
      cases h
      exact ⟨x, en, e1, fun v H1 s1 r1 => ⟨B, x, v, rfl, r1, k _ H1 s1 (by rw [rp_bl])⟩⟩

/-! ### operations -/
theorem op2_ii {K : PySem.W.Frag} {C : Int → Int → Prop} [∀ i j, Decidable (C i j)] {g : Int → Int → V} {g' : Int → Int → D} (hg : ∀ i j H B, Rp K H B (g' i j) (g i j)) : Op2 K (rI C g) (ii fun i j => if C i j then some (g' i j) else none) := by
  intro H B x y dx dy d Q hb rx ry h k
  cases dx <;> cases dy <;> simp only [ii] at h <;> try cases h
  rename_i i j
  split at h
  · cases h
    rw [rp_int] at rx ry
    subst rx ry
    exact ⟨i, j, rfl, rfl, by assumption, k _ H (Same.refl H) (hg i j H B)⟩
  · cases h
theorem op2_i0 {K : PySem.W.Frag} {g : Int → Int → V} {g' : Int → Int → D} (hg : ∀ i j H B, Rp K H B (g' i j) (g i j)) : Op2 K (rI0 g) (ii fun i j => some (g' i j)) := by
  intro H B x y dx dy d Q hb rx ry h k
  cases dx <;> cases dy <;> simp only [ii] at h <;> try cases h
  rename_i i j
  rw [rp_int] at rx ry
  subst rx ry
  exact ⟨i, j, rfl, rfl, k _ H (Same.refl H) (hg i j H B)⟩
instance decDiv (i j : Int) : Decidable (CDiv i j) := inferInstanceAs (Decidable (0 < j ∧ j < 1073741824))
instance decPow (i j : Int) : Decidable (CPow i j) := inferInstanceAs (Decidable (0 ≤ j ∧ j ≤ 1000000 ∧ i.natAbs < 2 ^ 64))
instance decMul (i j : Int) : Decidable (CMul i j) := inferInstanceAs (Decidable ((-(2 ^ 64) < i ∧ i < 2 ^ 64) ∨ (-(2 ^ 64) < j ∧ j < 2 ^ 64)))
variable {e a b : Expr} {pos : Pos} {g ga gb : Ds → Option D}
theorem pd_sub (ha : PD X a ga) (hb : PD X b gb) : PD X (.BinOp a .Sub b pos) (o2 ga gb subD) := pd_op op_sub (op2_i0 (g' := fun i j => .int (i - j)) fun _ _ _ _ => by rw [rp_int]) ha hb
theorem pd_fdiv (ha : PD X a ga) (hb : PD X b gb) : PD X (.BinOp a .FloorDiv b pos) (o2 ga gb fdivD) := pd_op op_fdiv (op2_ii (C := CDiv) (g' := fun i j => .int (i / j)) fun _ _ _ _ => by rw [rp_int]) ha hb
theorem pd_mod (ha : PD X a ga) (hb : PD X b gb) : PD X (.BinOp a .Mod b pos) (o2 ga gb modD) := pd_op op_mod (op2_ii (C := fun _ j => 0 < j) (g' := fun i j => .int (i % j)) fun _ _ _ _ => by rw [rp_int]) ha hb
theorem pd_pow (ha : PD X a ga) (hb : PD X b gb) : PD X (.BinOp a .Pow b pos) (o2 ga gb powD) := pd_op op_pow (op2_ii (C := CPow) (g' := fun i j => .int (i ^ j.toNat)) fun _ _ _ _ => by rw [rp_int]) ha hb
end
end DL
namespace L2
open PySem PySem.Spec PyProof.Rows
section
variable {X : Cx}
/-- list + list, whatever they are -/
def rCatL (K : PySem.W.Frag) : R2 := fun x y H Q => ∃ l b xs zs, x = .ref l ∧ y = .ref b ∧ SqL K H l xs ∧ SqL K H b zs ∧ xs.length + zs.length ≤ sizeLine ∧ ∀ p, H p = none → Q (.ref p) (upd H p (.lst (xs ++ zs)))
theorem op_catL : OpR X (binaryOp .Add) (rCatL X.K) := by
  intro pins s σ H x y v u Q I rx ry h
  obtain ⟨l, b, xs, zs, rfl, rfl, hH, hB, hz, q⟩ := h
  cases rx
  cases ry
  obtain ⟨its, r, p1, z1⟩ := I.list hH
  obtain ⟨its2, r2, p2, z2⟩ := I.list hB
  obtain ⟨⟨cls, dd, data, sl⟩, ho, hc, n, hd⟩ := p1.isList
  obtain ⟨⟨cls2, dd2, data2, sl2⟩, ho2, hc2, n2, hd2⟩ := p2.isList
  simp only at hc hd hc2 hd2
  subst hc hd hc2 hd2
  have e : its.toArray ++ its2.toArray = (its ++ its2).toArray := by simp
  have hsz : its.toArray.size + its2.toArray.size ≤ sizeLine := by
    rw [List.size_toArray, List.size_toArray, ← r.length, ← r2.length]; exact hz
  refine concat_meets ⟨_, ho, rfl⟩ ⟨_, ho2, rfl⟩ noFill_list_add seq_list_add PySem.F.slot_list_add PySem.F.entry_list_add (PySem.F.args_list_add_2 _ _) (list_addW l b its.toArray its2.toArray n n2 dd dd2 sl sl2 hsz) ⟨ho, ho2, ?_⟩
  rw [e]
  exact ⟨.ref _, _, I.lnew (t' := s.toks) (r.append r2) (by rw [List.length_append]; exact hz), rfl, q _ I.fresh⟩
end
end L2
namespace DL
open PySem PySem.Spec PyProof.Rows L2
section
variable {X : Cx} {K : PySem.W.Frag} {e a b : Expr} {es : List Expr} {pos p : Pos} {g ga gb : Ds → Option D} {gA : Ds → Option (List D)}
theorem fresh_not {H : Hp} {B : BS} (hb : ∀ a, B a → H a ≠ none) {p : Addr} (h : H p = none) : ¬ B p := fun z => hb p z h
theorem rp_newL {H : Hp} {B : BS} {p : Addr} {ds : List D} {xs : List V} (hb : ∀ a, B a → H a ≠ none) (h : H p = none) (r : Rps K H B ds xs) : Rp K (upd H p (.lst xs)) B (.lst ds) (.ref p) := by
  rw [rp_lst]
  exact ⟨p, xs, rfl, .inl ⟨fresh_not hb h, .inl upd_same⟩, r.same (same_upd h)⟩
theorem rp_newT {H : Hp} {B : BS} {p : Addr} {ds : List D} {xs : List V} (hb : ∀ a, B a → H a ≠ none) (h : H p = none) (r : Rps K H B ds xs) : Rp K (upd H p (.tup xs)) B (.tup ds) (.ref p) := by
  rw [rp_tup]
  exact ⟨p, xs, rfl, .inl ⟨fresh_not hb h, .inl upd_same⟩, r.same (same_upd h)⟩
/-! ### comparisons -/
theorem op2_lt : Op2 K (rI0 fun i j => .bl (decide (i < j))) ltD := op2_i0 (g' := fun i j => .bl (decide (i < j))) fun _ _ _ _ => by rw [rp_bl]
theorem op2_le : Op2 K (rI0 fun i j => .bl (decide (i ≤ j))) leD := op2_i0 (g' := fun i j => .bl (decide (i ≤ j))) fun _ _ _ _ => by rw [rp_bl]
theorem op2_gt : Op2 K (rI0 fun i j => .bl (decide (j < i))) gtD := op2_i0 (g' := fun i j => .bl (decide (j < i))) fun _ _ _ _ => by rw [rp_bl]
theorem op2_ge : Op2 K (rI0 fun i j => .bl (decide (j ≤ i))) geD := op2_i0 (g' := fun i j => .bl (decide (j ≤ i))) fun _ _ _ _ => by rw [rp_bl]
theorem eqS_ok {H : Hp} {B : BS} {x y : V} {dx dy : D} {b : Bool} (rx : Rp K H B dx x) (ry : Rp K H B dy y) (h : eqS dx dy = some b) : scal x y = true ∧ decide (x = y) = b := by
  cases dx <;> cases dy <;> simp only [eqS] at h <;> try cases h
  all_goals
    simp only [rp_non, rp_bl, rp_int, rp_str] at rx ry
    subst rx ry
    refine ⟨rfl, ?_⟩
    simp
theorem op2_eq : Op2 K rEq eqD := by
  intro H B x y dx dy d Q hb rx ry h k
  unfold eqD at h
  cases e : eqS dx dy with
  | none => rw [e] at h; cases h
  | some b =>
    rw [e] at h
    cases h
    obtain ⟨h1, h2⟩ := eqS_ok rx ry e
    exact ⟨h1, by rw [h2]; exact k _ H (Same.refl H) (by rw [rp_bl])⟩
theorem op2_ne : Op2 K rNe neD := by
  intro H B x y dx dy d Q hb rx ry h k
  unfold neD at h
  cases e : eqS dx dy with
  | none => rw [e] at h; cases h
  | some b =>
    rw [e] at h
    cases h
    obtain ⟨h1, h2⟩ := eqS_ok rx ry e
    exact ⟨h1, by rw [h2]; exact k _ H (Same.refl H) (by rw [rp_bl])⟩
theorem op2_in : Op2 K (fun x y H Q => ∃ i j, x = .str i ∧ y = .str j ∧ Q (.bl (!(Builtin.Str.occurrences j i 0 j.length 1).isEmpty)) H) inD := by
  intro H B x y dx dy d Q hb rx ry h k
  cases dx <;> cases dy <;> simp only [inD] at h <;> try cases h
  rw [rp_str] at rx ry
  subst rx ry
  exact ⟨_, _, rfl, rfl, k _ H (Same.refl H) (by rw [rp_bl]; rfl)⟩
theorem op2_isN : Op2 K (fun x y H Q => y = .non ∧ Q (.bl (decide (x = .non))) H) isND := by
  intro H B x y dx dy d Q hb rx ry h k
  have hy : dy = .non := by cases dy <;> first | rfl | cases h
  subst hy
  cases h
  rw [rp_non] at ry
  refine ⟨ry, k _ H (Same.refl H) ?_⟩
  rw [rp_bl]
  cases dx <;> simp only [rp_non, rp_bl, rp_int, rp_str, rp_tup, rp_lst, rp_dct] at rx
  all_goals first
    | (subst rx; rfl)
    | (obtain ⟨a, xs, rfl, _⟩ := rx; rfl)

/-! ### places -/
theorem atI_eq {α : Type} (xs : List α) (i : Int) : L2.atI xs i = DL.atI xs i := rfl
theorem sIx_eq (n d : Nat) (o : Option Int) : HT.sIx n d o = sIx n d o := by cases o <;> rfl
theorem atI_rel {H : Hp} {B : BS} {ds : List D} {xs : List V} {i : Int} {d : D} (r : Rps K H B ds xs) (h : DL.atI ds i = some d) : ∃ v, L2.atI xs i = some v ∧ Rp K H B d v := by
  rw [atI_eq]
  unfold DL.atI at h ⊢
  rw [r.length]
  cases e : DL.ixN ds.length i with
  | none => rw [e] at h; cases h
  | some j =>
    rw [e] at h
    exact r.get h
theorem op2_ix : Op2 K (rIx K) ixD := by
  intro H B x y dx dy d Q hb rx ry h k
  cases dx <;> cases dy <;> simp only [ixD] at h <;> try cases h
  · split at h
    · rename_i hz
      rw [rp_str] at rx
      rw [rp_int] at ry
      subst rx ry
      obtain ⟨c, hc, rfl⟩ := Option.map_eq_some_iff.mp h
      exact .inr (.inr ⟨_, _, c, rfl, rfl, hz, hc, k _ H (Same.refl H) (by rw [rp_str])⟩)
    · cases h
  · rw [rp_tup] at rx
    rw [rp_int] at ry
    subst ry
    obtain ⟨a, xs, rfl, q, r⟩ := rx
    obtain ⟨v, hv, rv⟩ := atI_rel r h
    exact .inr (.inl ⟨a, xs, _, v, rfl, rfl, q.to, hv, k _ H (Same.refl H) rv⟩)
  · rw [rp_lst] at rx
    rw [rp_int] at ry
    subst ry
    obtain ⟨a, xs, rfl, q, r⟩ := rx
    obtain ⟨v, hv, rv⟩ := atI_rel r h
    exact .inl ⟨a, xs, _, v, rfl, rfl, q.to, hv, k _ H (Same.refl H) rv⟩
theorem pd_ix' (ha : PD X a ga) (hb : PD X b gb) (hs : PlainIx b := by exact fun _ _ => rfl) : PD X (.Subscript a b pos) (o2 ga gb ixD) := pd_ix ix_seq op2_ix ha hb hs

/-! ### slices -/
structure PDO (X : Cx) (e : Option Expr) (g : Ds → Option (Option Int)) : Prop where
  mk :: go : ∀ B δ, PO X e (fun σ H Q => ∃ o, Env X.K H B σ δ ∧ g δ = some o ∧ ∀ H', Same H H' → Q o H')
instance {X : Cx} {e : Option Expr} {g : Ds → Option (Option Int)} : CoeFun (PDO X e g) (fun _ => ∀ B δ, PO X e (fun σ H Q => ∃ o, Env X.K H B σ δ ∧ g δ = some o ∧ ∀ H', Same H H' → Q o H')) := ⟨PDO.go⟩
theorem pdo_none : PDO X none noneO := .mk fun B δ pins s σ H Q I ⟨o, en, h, k⟩ => by
  cases h
  exact po_none pins s σ H Q I (k H (Same.refl H))
theorem pdo_some (h : PD X e g) : PDO X (some e) (someO g) := .mk fun B δ pins s σ H Q I ⟨o, en, hq, k⟩ => by
  unfold someO at hq
  cases e1 : g δ with
  | none => rw [e1] at hq; cases hq
  | some d =>
    rw [e1] at hq
    cases d <;> simp [asI] at hq
    subst hq
    exact po_some (h B δ) pins s σ H Q I ⟨_, en, e1, fun v H' s' r => ⟨_, by rw [rp_int] at r; exact r, k H' s'⟩⟩
theorem cut_rel {H : Hp} {B : BS} {ds : List D} {xs : List V} (r : Rps K H B ds xs) (lo hi : Option Int) : Rps K H B (cutD ds lo hi) (cutV xs lo hi) := by
  unfold cutD cutV
  rw [r.length, sIx_eq, sIx_eq]
  exact (r.drop _).take _
/-! ### built-in functions -/
theorem rps_one {H : Hp} {B : BS} {d : D} {xs : List V} (h : Rps K H B [d] xs) : ∃ v, xs = [v] ∧ Rp K H B d v := by
  rw [rps_cons] at h
  obtain ⟨x, r, rfl, h1, h2⟩ := h
  rw [rps_nil] at h2
  subst h2
  exact ⟨x, rfl, h1⟩
theorem fn_len : FnR K (fun xs H Q => (∃ z, xs = [.str z] ∧ z.length ≤ sizeLine ∧ Q (.int z.length) H) ∨ ∃ p ys, xs = [.ref p] ∧ (SqL K H p ys ∨ SqT K H p ys) ∧ Q (.int ys.length) H) lenD := by
  intro H B xs ds d Q hb r h k
  unfold lenD at h
  split at h
  · split at h
    · cases h
      obtain ⟨v, rfl, r1⟩ := rps_one r
      rw [rp_str] at r1
      subst r1
      exact .inl ⟨_, rfl, by assumption, k _ H (Same.refl H) (by rw [rp_int])⟩
    · cases h
  · cases h
    obtain ⟨v, rfl, r1⟩ := rps_one r
    rw [rp_lst] at r1
    obtain ⟨a, ys, rfl, q, rr⟩ := r1
    exact .inr ⟨a, ys, rfl, .inl q.to, k _ H (Same.refl H) (by rw [rp_int, rr.length])⟩
  · cases h
    obtain ⟨v, rfl, r1⟩ := rps_one r
    rw [rp_tup] at r1
    obtain ⟨a, ys, rfl, q, rr⟩ := r1
    exact .inr ⟨a, ys, rfl, .inr q.to, k _ H (Same.refl H) (by rw [rp_int, rr.length])⟩
  · cases h
theorem pd_len (hm : X.mg "len" = none) (ha : PDA X [e] gA) (hg : Gl X "len" := by rfl) (he : starEach [e] X.env = (false, eval e X.env) :: starEach [] X.env := by rfl) (hpl : (backTo pos (starEach [] X.env)).any (·.1) = false := by rfl) :
    PD X (.Call (.Name "len" p) [e] [] pos) (oA gA lenD) := pd_callB (call_len_str.or call_len_seq) fn_len hm PySem.boot_len ha hg (by decide) (by decide) he hpl
theorem bools_rel {H : Hp} {B : BS} : ∀ {ds : List D} {xs : List V} {bs : List Bool}, Rps K H B ds xs → bools ds = some bs → xs = bs.map V.bl
  | [], _, _, r, h => by
    cases h
    rw [rps_nil] at r
    exact r
  | d :: ds, _, bs, r, h => by
    rw [rps_cons] at r
    obtain ⟨x, t, rfl, r1, r2⟩ := r
    cases d <;> simp only [bools] at h <;> try cases h
    obtain ⟨t', e, rfl⟩ := Option.map_eq_some_iff.mp h
    rw [rp_bl] at r1
    rw [r1, bools_rel r2 e]
    rfl
theorem fn_all : FnR K (fun xs H Q => ∃ (p : Addr) (bs : List Bool), xs = [.ref p] ∧ SqL K H p (bs.map V.bl) ∧ Q (.bl (bs.all id)) H) allD := by
  intro H B xs ds d Q hb r h k
  unfold allD at h
  split at h
  · obtain ⟨bs, e, rfl⟩ := Option.map_eq_some_iff.mp h
    obtain ⟨v, rfl, r1⟩ := rps_one r
    rw [rp_lst] at r1
    obtain ⟨a, ys, rfl, q, rr⟩ := r1
    have := bools_rel rr e
    subst this
    exact ⟨a, bs, rfl, q.to, k _ H (Same.refl H) (by rw [rp_bl])⟩
  · cases h
theorem fn_str : FnR K (fun xs H Q => ∃ i, xs = [.int i] ∧ i.natAbs.log2 < 1920 ∧ Q (.str (toString i)) H) strOfD := by
  intro H B xs ds d Q hb r h k
  unfold strOfD at h
  split at h
  · split at h
    · cases h
      obtain ⟨v, rfl, r1⟩ := rps_one r
      rw [rp_int] at r1
      subst r1
      exact ⟨_, rfl, by assumption, k _ H (Same.refl H) (by rw [rp_str])⟩
    · cases h
  · cases h
theorem strL_rel {H : Hp} {B : BS} : ∀ {ds : List D} {xs : List V} {bs : List Str}, Rps K H B ds xs → strL ds = some bs → xs = bs.map V.str
  | [], _, _, r, h => by
    cases h
    rw [rps_nil] at r
    exact r
  | d :: ds, _, bs, r, h => by
    rw [rps_cons] at r
    obtain ⟨x, t, rfl, r1, r2⟩ := r
    cases d <;> simp only [strL] at h <;> try cases h
    obtain ⟨t', e, rfl⟩ := Option.map_eq_some_iff.mp h
    rw [rp_str] at r1
    rw [r1, strL_rel r2 e]
    rfl
theorem fn_tup : FnR K (fun xs H Q => ∃ p ys, xs = [.ref p] ∧ ((SqL K H p ys ∧ ∀ l, H l = none → Q (.ref l) (upd H l (.tup ys))) ∨ (SqT K H p ys ∧ Q (.ref p) H))) tupOfD := by
  intro H B xs ds d Q hb r h k
  unfold tupOfD at h
  split at h
  · cases h
    obtain ⟨v, rfl, r1⟩ := rps_one r
    rw [rp_lst] at r1
    obtain ⟨a, ys, rfl, q, rr⟩ := r1
    exact ⟨a, ys, rfl, .inl ⟨q.to, fun l hl => k _ _ (same_upd hl) (rp_newT hb hl rr)⟩⟩
  · cases h
    obtain ⟨v, rfl, r1⟩ := rps_one r
    have r1' := r1
    rw [rp_tup] at r1
    obtain ⟨a, ys, rfl, q, rr⟩ := r1
    exact ⟨a, ys, rfl, .inr ⟨q.to, k _ H (Same.refl H) r1'⟩⟩
  · cases h
end
end DL
namespace DL
open PySem PySem.Spec PyProof.Rows L2
section
variable {X : Cx} {K : PySem.W.Frag} {e a b : Expr} {es : List Expr} {pos p : Pos} {g ga gb : Ds → Option D} {gA : Ds → Option (List D)}
theorem pd_neg (h : PD X a ga) : PD X (.UnaryOp .USub a pos) (unG negD ga) := .mk fun B δ => (pe_un un_neg (h B δ)).imp fun σ H Q ⟨d, en, h, k⟩ => by
  unfold unG at h
  cases e1 : ga δ with
  | none => rw [e1] at h; cases h
  | some x =>
    rw [e1] at h
    cases x <;> simp [negD] at h
    subst h
    exact ⟨_, en, e1, fun v H' s r => ⟨_, by rw [rp_int] at r; exact r, k _ H' s (by rw [rp_int])⟩⟩
theorem pd_dict0 : PD X (.Dict [] [] pos) (gc (.dct [] [])) := .mk fun B δ pins s σ H Q I ⟨d, en, h, k⟩ => by
  cases h
  have hb : sysModules < s.heap.objs.size := Nat.lt_trans (by decide) ((I.mod.glob.keeps I.bk).lt : mainGlobals < s.heap.objs.size)
  have hf : H s.heap.objs.size = none := I.hok.fresh (Nat.le_refl _)
  refine wpAny_Dict_empty ⟨.ref s.heap.objs.size, _, I.laid (a := s.heap.objs.size) (o := .dK []) (t' := s.toks) (fun _ _ q => Heap.get?_push_of_some _ q) (Nat.le_refl _)
    ⟨Nat.zero_le _, beq_eq_false_iff_ne.mpr (Ne.symm (Nat.ne_of_lt hb)), [], .nil, Heap.DictOf.new s.heap⟩, rfl, k _ _ (same_upd hf) ?_⟩
  rw [rp_dct]
  exact ⟨_, [], rfl, en.free hf, upd_same, rfl, by rw [rps_nil]⟩

/-- a def of the text, by its name -/
def FnD (P : Program) (w : World) (K : PySem.W.Frag) (mg : Str → Option Value) (base : Heap) (x : Str) (k : Nat) (ps : List Str) (f : List D → Option D) : Prop :=
  ∃ (fa : Addr) (fd : FuncData), FnOk P w K mg base CX0 k fa fd ps (spD K f) ∧ mg x = some (.ref fa) ∧ PySem.W.keepIn K (.ref fa) = true ∧ Binds K fd ps []
theorem pd_fn {k m : Nat} {ps : List Str} {x : Str} {f : List D → Option D} (C : FnD X.prog X.w X.K X.mg X.base x k ps f) (hr : Room m X.A) (hk : k ≤ m) (ha : PDA X (e :: es) gA) (hg : Gl X x := by rfl) (hdb : (x == ("__debug__" : Str)) = false := by decide)
    (he : starEach (e :: es) X.env = (false, eval e X.env) :: starEach es X.env := by rfl) (hpl : (backTo pos (starEach es X.env)).any (·.1) = false := by rfl) : PD X (.Call (.Name x p) (e :: es) [] pos) (oA gA f) := by
  obtain ⟨fa, fd, F, hm, kp, hb⟩ := C
  exact pd_call F (hr.mono hk) hm kp hb ha hg hdb he hpl
theorem pd_cmpD {sc scope : Scope} {elt iter tg : Expr} {ifs : List Expr} {N N' : List Str} {n : Nat} {caps : List Nat} {gi : Ds → Option (List D)} {idx : List Nat} {f : D → Ds → Option Ds} {gt : Ds → Option Bool} {ge : Ds → Option D}
    (ok : CompOk sc scope N N' n caps) (hidx : ∀ j ∈ idx, j < n) (hi : PID X tg iter gi)
    (hg : ∀ cl s H ex, PGD (cxComp X scope cl N' s H ex) tg idx f) (ht : ∀ cl s H ex, PFD (cxComp X scope cl N' s H ex) ifs gt) (he : ∀ cl s H ex, PD (cxComp X scope cl N' s H ex) elt ge)
    (hc : X.calm = true := by rfl) (hsc : X.env.scope = sc := by rfl) (hN : X.N = N := by rfl) (hs : ∀ x, foldedSetIterable iter X.env x = pure x := by intro _; rfl) :
    PD X (.ListComp elt [⟨tg, iter, ifs, 0⟩] scope pos) (compG n caps gi f gt ge) := pd_comp hc hsc (hN ▸ ok) hidx hi hg ht he hs
theorem psd_cmpD (i : Nat) {y : Str} {py spos : Pos} {sc scope : Scope} {elt iter tg : Expr} {ifs : List Expr} {N N' : List Str} {n : Nat} {caps : List Nat} {gi : Ds → Option (List D)} {idx : List Nat} {f : D → Ds → Option Ds} {gt : Ds → Option Bool} {ge : Ds → Option D}
    (hnd : N.Nodup) (ok : CompOk sc scope N N' n caps) (hidx : ∀ j ∈ idx, j < n) (hi : PID X tg iter gi)
    (hg : ∀ cl s H ex, PGD (cxComp X scope cl N' s H ex) tg idx f) (ht : ∀ cl s H ex, PFD (cxComp X scope cl N' s H ex) ifs gt) (he : ∀ cl s H ex, PD (cxComp X scope cl N' s H ex) elt ge)
    (hc : X.calm = true := by rfl) (hsc : X.env.scope = sc := by rfl) (hN : X.N = N := by rfl)
    (hiN : X.N[i]? = some y := by rfl) (hy : Loc X.env.scope y := by first | exact Or.inl rfl | exact Or.inr rfl)
    (hsw : swapsWith (.ListComp elt [⟨tg, iter, ifs, 0⟩] scope pos) (some (.Name y py)) spos.line X.env = pure true := by rfl)
    (hs : ∀ x, foldedSetIterable iter X.env x = pure x := by intro _; rfl)
    (hf : X.fn y = true ∨ X.env.scope.names.lookup y = some .local := by first | exact .inl rfl | exact .inr rfl | assumption) :
    PSD X (.Assign [.Name y py] (.ListComp elt [⟨tg, iter, ifs, 0⟩] scope pos) spos) (setD (gN i) (compG n caps gi f gt ge)) := psd_setComp i (hN ▸ hnd) hc hsc (hN ▸ ok) hidx hi hg ht he hiN hy hsw hs hf
end

end DL
namespace DL
open PySem PySem.Spec PyProof.Rows L2
/-! ### what is one's own -/
section
variable {K : PySem.W.Frag} {H H' : Hp} {B B' : BS} {σ σ' : St} {δ δ' : Ds}
theorem Gr.fresh {p : Addr} {o : HO} (h : H p = none) : Gr H (upd H p o) B (fun a => B a ∨ a = p) := fun b u n e => by
  have hb : b ≠ p := ne_of_none e h
  exact ⟨fun z => z.elim n hb, by rw [upd_ne hb]; exact e⟩
theorem Gr.own {a : Addr} {o : HO} (h : B a) : Gr H (upd H a o) B B := fun b u n e => ⟨n, by rw [upd_ne (fun z => n (by rw [z]; exact h))]; exact e⟩
theorem RpO.mono {d : D} {a : Addr} (s : ∀ o, H a = some o → H' a = some o) (g : Gr H H' B B') (h : RpO K H B d a) : RpO K H' B' d a := by
  cases d <;> try exact h.elim
  · obtain ⟨xs, e, r⟩ := h; exact ⟨xs, s _ e, r.mono g⟩
  · obtain ⟨xs, e, l, r⟩ := h; exact ⟨xs, s _ e, l, r.mono g⟩
theorem Pd.impI {α β : Type} {F G : α → β → Prop} : ∀ {l : List α} {m : List β}, (∀ (i : Nat) a b, l[i]? = some a → m[i]? = some b → F a b → G a b) → Paired F l m → Paired G l m
  | _, _, _, .nil => .nil
  | _, _, h, .cons r t => .cons (h 0 _ _ rfl rfl r) (Pd.impI (fun i a b e1 e2 => h (i + 1) a b (by simpa using e1) (by simpa using e2)) t)
theorem set_self {α : Type} : ∀ {l : List α} {i : Nat} {a : α}, l[i]? = some a → l.set i a = l
  | [], _, _, h => by simp at h
  | x :: l, 0, a, h => by simp at h; subst h; rfl
  | x :: l, i + 1, a, h => by rw [List.set_cons_succ, set_self (by simpa using h)]
theorem Pd.setR {α β : Type} {F : α → β → Prop} {a : α} {b : β} {i : Nat} (r : F a b) {l : List α} {m : List β} (e : l[i]? = some a) (h : Paired F l m) : Paired F l (m.set i b) := by
  have := Pd.set r i h
  rwa [set_self e] at this
theorem get_set {α : Type} {l : List α} {i j : Nat} {a b : α} (h : (l.set i a)[j]? = some b) : (i = j ∧ a = b ∧ j < l.length) ∨ (i ≠ j ∧ l[j]? = some b) := by
  by_cases e : i = j
  · subst e
    by_cases hl : i < l.length
    · rw [List.getElem?_set_self hl] at h
      exact .inl ⟨rfl, Option.some.inj h, hl⟩
    · rw [List.getElem?_eq_none (by simpa using hl)] at h; cases h
  · rw [List.getElem?_set_ne e] at h
    exact .inr ⟨e, h⟩
theorem Env.len (e : Env K H B σ δ) : σ.length = δ.length := Pd.len e.all
/-- an owned slot's object -/
theorem Env.at (e : Env K H B σ δ) {i : Nat} {d : D} (h : δ[i]? = some (.ow d)) : ∃ a, σ[i]? = some (some (.ref a)) ∧ B a ∧ RpO K H B d a := by
  obtain ⟨o, h1, a, rfl, hb, r⟩ := Pd.get e.all h
  exact ⟨a, h1, hb, r⟩
/-- an owned object is changed -/
theorem Env.mut (e : Env K H B σ δ) {i : Nat} {d0 d : D} {a : Addr} {o : HO} (hi : δ[i]? = some (.ow d0)) (hs : σ[i]? = some (some (.ref a))) (r : RpO K (upd H a o) B d a) : Env K (upd H a o) B σ (δ.set i (.ow d)) := by
  obtain ⟨a', h1, hb, _⟩ := e.at hi
  rw [hs] at h1
  cases h1
  refine ⟨?_, fun b z => ?_, fun j k b ds es h1 h2 h3 h4 => ?_⟩
  · -- slot by slot
    have h0 : Paired (fun (o' : Option V) (s : Sl) => SlR K (upd H a o) B o' s ∨ (∃ d, s = .ow d ∧ o' = some (.ref a))) σ δ := Pd.imp (fun o' s h => by
      cases s with
      | un => exact .inl trivial
      | sh d => obtain ⟨v, e, r⟩ := h; exact .inl ⟨v, e, r.mono (Gr.own hb)⟩
      | ow d =>
        obtain ⟨b, e, hb', r⟩ := h
        by_cases z : b = a
        · subst z; exact .inr ⟨d, rfl, e⟩
        · exact .inl ⟨b, e, hb', r.mono (fun o h => by rw [upd_ne z]; exact h) (Gr.own hb)⟩) e.all
    have h1 := Pd.setR (i := i) (b := Sl.ow d) (.inl ⟨a, rfl, hb, r⟩) hs h0
    refine Pd.impI (fun j o' s e1 e2 h => ?_) h1
    rcases h with h | ⟨d', rfl, rfl⟩
    · exact h
    · rcases get_set e2 with ⟨rfl, e3, _⟩ | ⟨hne, e3⟩
      · cases e3; exact ⟨a, rfl, hb, r⟩
      · exact absurd (e.own i j a d0 d' hi e3 hs e1) hne
  · by_cases z' : b = a
    · subst z'; rw [upd_same]; exact fun z => nomatch z
    · rw [upd_ne z']; exact e.bad b z
  · have q1 : ∃ d, δ[j]? = some (.ow d) := by
      rcases get_set h1 with ⟨rfl, _, _⟩ | ⟨_, h⟩
      · exact ⟨_, hi⟩
      · exact ⟨_, h⟩
    have q2 : ∃ d, δ[k]? = some (.ow d) := by
      rcases get_set h2 with ⟨rfl, _, _⟩ | ⟨_, h⟩
      · exact ⟨_, hi⟩
      · exact ⟨_, h⟩
    obtain ⟨d1, q1⟩ := q1
    obtain ⟨d2, q2⟩ := q2
    exact e.own j k b d1 d2 q1 q2 h3 h4
theorem EnvS.mut {H₀ : Hp} {B₀ : BS} (en : EnvS K H₀ B₀ H σ δ) (s : Same H H') (b1 : ∀ a, B₀ a → B a) (b2 : ∀ a, B a → B₀ a ∨ H₀ a = none) {i : Nat} {d0 d : D} {a : Addr} {o : HO} (hi : δ[i]? = some (.ow d0)) (hs : σ[i]? = some (some (.ref a)))
    (env : Env K (upd H' a o) B σ (δ.set i (.ow d))) : EnvS K H₀ B₀ (upd H' a o) σ (δ.set i (.ow d)) := by
  have h0 := en.fr i d0 a hi hs
  refine ⟨fun b u h => ?_, ⟨B, b1, b2, env⟩, fun j ds b h1 h2 => ?_, en.b0⟩
  · have : b ≠ a := fun z => by rw [z, h0] at h; cases h
    rw [upd_ne this]
    exact s _ _ (en.same b u h)
  · rcases get_set h1 with ⟨rfl, _, _⟩ | ⟨_, h⟩
    · rw [hs] at h2; cases h2; exact h0
    · exact en.fr j ds b h h2
/-- a new object becomes one's own -/
theorem EnvS.take {H₀ : Hp} {B₀ : BS} (en : EnvS K H₀ B₀ H σ δ) (b1 : ∀ a, B₀ a → B a) (b2 : ∀ a, B a → B₀ a ∨ H₀ a = none) (e : Env K H B σ δ) (i : Nat) {d : D} {p : Addr} (hp : H p = none) (s : Same H H')
    (r : RpO K H' (fun a => B a ∨ a = p) d p) : EnvS K H₀ B₀ H' (σ.set i (some (.ref p))) (δ.set i (.ow d)) := by
  have g : Gr H H' B (fun a => B a ∨ a = p) := fun b u n h => ⟨fun z => z.elim n (ne_of_none h hp), s _ _ h⟩
  have h0p : H₀ p = none := en.same.free hp
  have live : ∀ {j : Nat} {d' : D} {b : Addr}, δ[j]? = some (.ow d') → σ[j]? = some (some (.ref b)) → b ≠ p := fun {j d' b} h1 h2 => by
    obtain ⟨a, q1, q2, q3⟩ := e.at h1
    rw [h2] at q1; cases q1
    exact fun z => e.bad _ q2 (by rw [z]; exact hp)
  refine ⟨en.same.trans s, ⟨fun a => B a ∨ a = p, fun a z => .inl (b1 a z), fun a z => ?_, ?_, fun a z => ?_, fun j k a ds es h1 h2 h3 h4 => ?_⟩, fun j ds a h1 h2 => ?_, en.b0⟩
  · rcases z with z | rfl
    · exact b2 a z
    · exact .inr h0p
  · refine Pd.set ⟨p, rfl, .inr rfl, r⟩ i (Pd.imp (fun o sl h => ?_) e.all)
    cases sl with
    | un => trivial
    | sh d => obtain ⟨v, e, r⟩ := h; exact ⟨v, e, r.mono g⟩
    | ow d => obtain ⟨b, e, hb', r⟩ := h; exact ⟨b, e, .inl hb', r.mono (fun o h => s _ _ h) g⟩
  · rcases z with z | rfl
    · intro q
      cases h : H a with
      | none => exact e.bad a z h
      | some u => rw [s _ _ h] at q; cases q
    · exact r.live
  · rcases get_set h1 with ⟨rfl, _, _⟩ | ⟨n1, h1⟩
    · rcases get_set h2 with ⟨rfl, _, _⟩ | ⟨n2, h2⟩
      · rfl
      · rcases get_set h3 with ⟨_, e3, _⟩ | ⟨n3, _⟩
        · cases e3
          rw [List.getElem?_set_ne n2] at h4
          exact absurd rfl (live h2 h4)
        · exact absurd rfl n3
    · rcases get_set h2 with ⟨rfl, _, _⟩ | ⟨n2, h2⟩
      · rcases get_set h4 with ⟨_, e4, _⟩ | ⟨n4, _⟩
        · cases e4
          rw [List.getElem?_set_ne n1] at h3
          exact absurd rfl (live h1 h3)
        · exact absurd rfl n4
      · rw [List.getElem?_set_ne n1] at h3
        rw [List.getElem?_set_ne n2] at h4
        exact e.own j k a ds es h1 h2 h3 h4
  · rcases get_set h1 with ⟨rfl, _, _⟩ | ⟨n1, h1⟩
    · rcases get_set h2 with ⟨_, e3, _⟩ | ⟨n3, _⟩
      · cases e3; exact h0p
      · exact absurd rfl n3
    · rw [List.getElem?_set_ne n1] at h2
      exact en.fr j ds a h1 h2
/-- all that is one's own, given away -/
theorem Env.frz (e : Env K H B σ δ) : ∃ B' : BS, (∀ a, B' a → B a) ∧ (∀ a, B a → B' a ∨ ∃ (i : Nat) (d : D), δ[i]? = some (.ow d) ∧ σ[i]? = some (some (.ref a))) ∧ Env K H B' σ (DL.frz δ) := by
  refine ⟨fun a => B a ∧ ¬ ∃ (i : Nat) (d : D), δ[i]? = some (.ow d) ∧ σ[i]? = some (some (.ref a)), fun a z => z.1, fun a z => ?_, ?_, fun a z => e.bad a z.1, fun i j a ds es h1 _ _ _ => ?_⟩
  · by_cases q : ∃ (i : Nat) (d : D), δ[i]? = some (.ow d) ∧ σ[i]? = some (some (.ref a))
    · exact .inr q
    · exact .inl ⟨z, q⟩
  · have : Paired (fun o s => SlR K H (fun a => B a ∧ ¬ ∃ (i : Nat) (d : D), δ[i]? = some (.ow d) ∧ σ[i]? = some (some (.ref a))) o (frz1 s)) σ δ := Pd.impI (fun i o s e1 e2 h => by
      cases s with
      | un => trivial
      | sh d => obtain ⟨v, e, r⟩ := h; exact ⟨v, e, r.mono (Gr.less fun a z => z.1)⟩
      | ow d =>
        obtain ⟨a, rfl, hb, r⟩ := h
        exact ⟨_, rfl, r.rp (fun a z => z.1) fun z => z.2 ⟨i, d, e2, e1⟩⟩) e.all
    have mp : ∀ {l : St} {m : Ds} {F : Option V → Sl → Prop}, Paired (fun o s => F o (frz1 s)) l m → Paired F l (m.map frz1) := by
      intro l m F h
      induction h with
      | nil => exact .nil
      | cons r t ih => exact .cons r ih
    exact mp this
  · unfold DL.frz at h1
    rw [List.getElem?_map] at h1
    cases q : δ[i]? with
    | none => rw [q] at h1; cases h1
    | some s => rw [q] at h1; cases s <;> cases h1
theorem EnvS.frz {H₀ : Hp} {B₀ : BS} (en : EnvS K H₀ B₀ H σ δ) : EnvS K H₀ B₀ H σ (DL.frz δ) := by
  obtain ⟨B, b1, b2, env⟩ := en.ex
  obtain ⟨B', c1, c2, env'⟩ := env.frz
  refine ⟨en.same, ⟨B', fun a z => ?_, fun a z => b2 a (c1 a z), env'⟩, fun i ds a h1 _ => ?_, en.b0⟩
  · rcases c2 a (b1 a z) with q | ⟨i, d, q1, q2⟩
    · exact q
    · exact absurd (en.fr i d a q1 q2) (en.b0 a z)
  · unfold DL.frz at h1
    rw [List.getElem?_map] at h1
    cases q : δ[i]? with
    | none => rw [q] at h1; cases h1
    | some s => rw [q] at h1; cases s <;> cases h1
theorem Env.frzAt (e : Env K H B σ δ) (i : Nat) : ∃ B' : BS, (∀ a, B' a → B a) ∧ (∀ a, B a → B' a ∨ ∃ (d : D), δ[i]? = some (.ow d) ∧ σ[i]? = some (some (.ref a))) ∧ Env K H B' σ (DL.frzAt i δ) := by
  unfold DL.frzAt
  cases h : δ[i]? with
  | none => exact ⟨B, fun _ z => z, fun _ z => .inl z, e⟩
  | some s =>
    cases s with
    | un => dsimp only [frz1]; rw [set_self h]; exact ⟨B, fun _ z => z, fun _ z => .inl z, e⟩
    | sh d => dsimp only [frz1]; rw [set_self h]; exact ⟨B, fun _ z => z, fun _ z => .inl z, e⟩
    | ow d =>
      obtain ⟨a, h1, hb, r⟩ := e.at h
      refine ⟨fun b => B b ∧ b ≠ a, fun b z => z.1, fun b z => ?_, ?_, fun b z => e.bad b z.1, fun j k b ds es h1' h2' h3 h4 => ?_⟩
      · by_cases q : b = a
        · subst q; exact .inr ⟨d, rfl, h1⟩
        · exact .inl ⟨z, q⟩
      · have h0 : Paired (fun (o' : Option V) (s : Sl) => SlR K H (fun b => B b ∧ b ≠ a) o' s ∨ (∃ d, s = .ow d ∧ o' = some (.ref a))) σ δ := Pd.imp (fun o' s h => by
          cases s with
          | un => exact .inl trivial
          | sh d => obtain ⟨v, e, r⟩ := h; exact .inl ⟨v, e, r.mono (Gr.less fun a z => z.1)⟩
          | ow d =>
            obtain ⟨b, e, hb', r⟩ := h
            by_cases z : b = a
            · subst z; exact .inr ⟨d, rfl, e⟩
            · exact .inl ⟨b, e, ⟨hb', z⟩, r.mono (fun o h => h) (Gr.less fun a z => z.1)⟩) e.all
        have h2 := Pd.setR (i := i) (b := Sl.sh d) (.inl ⟨.ref a, rfl, r.rp (fun b z => z.1) fun z => z.2 rfl⟩) h1 h0
        refine Pd.impI (fun j o' s e1 e2 hh => ?_) h2
        rcases hh with hh | ⟨d', rfl, rfl⟩
        · exact hh
        · rcases get_set e2 with ⟨rfl, e3, _⟩ | ⟨hne, e3⟩
          · cases e3
          · exact absurd (e.own i j a d d' h e3 h1 e1) hne
      · rcases get_set h1' with ⟨_, q, _⟩ | ⟨_, q1⟩
        · cases q
        · rcases get_set h2' with ⟨_, q, _⟩ | ⟨_, q2⟩
          · cases q
          · exact e.own j k b ds es q1 q2 h3 h4
theorem EnvS.frzAt {H₀ : Hp} {B₀ : BS} (en : EnvS K H₀ B₀ H σ δ) (i : Nat) : EnvS K H₀ B₀ H σ (DL.frzAt i δ) := by
  obtain ⟨B, b1, b2, env⟩ := en.ex
  obtain ⟨B', c1, c2, env'⟩ := env.frzAt i
  refine ⟨en.same, ⟨B', fun a z => ?_, fun a z => b2 a (c1 a z), env'⟩, fun j ds a h1 h2 => ?_, en.b0⟩
  · rcases c2 a (b1 a z) with q | ⟨d, q1, q2⟩
    · exact q
    · exact absurd (en.fr i d a q1 q2) (en.b0 a z)
  · unfold DL.frzAt at h1
    cases q : δ[i]? with
    | none => rw [q] at h1; exact en.fr j ds a h1 h2
    | some s =>
      rw [q] at h1
      rcases get_set h1 with ⟨rfl, q', _⟩ | ⟨_, q1⟩
      · cases s <;> cases q'
      · exact en.fr j ds a q1 h2
theorem flat_rp {d : D} {v : V} (h : flat d = true) (r : Rp K H B d v) : Rp K H' B' d v := by
  cases d <;> simp [flat] at h
  · rw [rp_non] at r ⊢; exact r
  · rw [rp_bl] at r ⊢; exact r
  · rw [rp_int] at r ⊢; exact r
  · rw [rp_str] at r ⊢; exact r
end
/-! ### borrowing -/
section
variable {X : Cx} {e tg : Expr} {st : Stmt} {pos : Pos} {g : GE} {gt : GB} {G : GS}
theorem pd_bor (h : PD X e g) : PD X e (borE g) := .mk fun B δ pins s σ H Q I ⟨d, en, hq, k⟩ => by
  obtain ⟨B', c1, c2, en'⟩ := en.frz
  unfold borE at hq
  cases e1 : g (frz δ) with
  | none => rw [e1] at hq; cases hq
  | some x =>
    rw [e1] at hq
    by_cases hf : flat x = true
    · simp only [Option.bind_some, if_pos hf] at hq
      cases hq
      exact h B' (frz δ) pins s σ H Q I ⟨_, en', e1, fun v H' s' r => k v H' s' (flat_rp hf r)⟩
    · simp only [Option.bind_some, if_neg hf] at hq
      cases hq
theorem ptd_bor (h : PTD X e gt) : PTD X e (borB gt) := .mk fun B δ pins s σ H Q I ⟨d, en, hq, k⟩ => by
  obtain ⟨B', c1, c2, en'⟩ := en.frz
  exact h B' (frz δ) pins s σ H Q I ⟨d, en', hq, k⟩
theorem psd_retB (h : PD X e g) : PSD X (.Return (some e) pos) (retD (borA g)) := .mk fun H₀ B₀ δ pins s σ H D I ⟨r, en, hq, k⟩ =>
  psd_ret h H₀ B₀ (frz δ) pins s σ H D I ⟨r, en.frz, hq, k⟩
/-! ### new lists and dicts -/
theorem pdf_lst {es : List Expr} {gA : GA} (h : PDA X es gA) : PDF X (.List es pos) (lstG gA) :=
  .mk fun B δ => (pe_lst (h B δ)).imp fun σ H Q ⟨d, en, h, k⟩ => by
    unfold lstG at h
    cases e1 : gA δ with
    | none => rw [e1] at h; cases h
    | some ds =>
      rw [e1] at h
      by_cases hl : ds.length ≤ sizeLine
      · simp only [Option.bind_some, if_pos hl] at h
        cases h
        refine ⟨ds, en, e1, fun vs H1 s1 r1 => ⟨by rw [r1.length]; exact hl, fun p hp => k _ _ (s1.free hp) (s1.trans (same_upd hp)) ⟨vs, upd_same, r1.mono (Gr.fresh hp)⟩⟩⟩
      · simp only [Option.bind_some, if_neg hl] at h
        cases h
theorem pdf_dict0 : PDF X (.Dict [] [] pos) (gc (.dct [] [])) := .mk fun B δ => pe_dnewK.imp fun σ H Q ⟨d, en, h, k⟩ => by
  cases h
  exact fun p hp => k p _ hp (same_upd hp) ⟨[], upd_same, rfl, by rw [rps_nil]⟩
theorem psd_own (i : Nat) {x : Str} {px : Pos} (h : PDF X e g) (hN : X.N.Nodup) (hi : X.N[i]? = some x := by rfl) (hx : Loc X.env.scope x := by first | exact Or.inl rfl | exact Or.inr rfl)
    (hs : swapsWithSole [.Name x px] e pos.line X.env = pure false := by rfl) (hw : swappedStores [.Name x px] e X.env = pure none := by rfl)
    (h1 : (assignEach [.Name x px] X.env).map (·.2) = [assign (.Name x px) X.env] := by rfl)
    (hf : X.fn x = true ∨ X.env.scope.names.lookup x = some .local := by first | exact .inl rfl | exact .inr rfl | assumption) : PSD X (.Assign [.Name x px] e pos) (ownD i g) := .mk fun H₀ B₀ δ pins s σ H D I ⟨r, en, e1, k⟩ => by
  unfold ownD at e1
  obtain ⟨B, b1, b2, env⟩ := en.ex
  cases e2 : g δ with
  | none => rw [e2] at e1; cases e1
  | some d =>
    rw [e2] at e1
    cases e1
    exact ps_asg (h B δ) (pg_name (i := i) hN hi hx hf) hs hw h1 pins s σ H D I ⟨d, env, e2, fun p H' hp s' r => k _ H' (en.take b1 b2 env i hp s' r)⟩
end
end DL
namespace L2
open PySem PySem.Spec PyProof.Rows
open PySem.AutoSeq1 (wpAny_loadPart')
theorem extend_any (p : Addr) (xs : Array Value) (k : Nat) (q : Addr) (ys : Array Value) (m : Nat) (dq : Option Addr) (sq : Array (Option Value)) (h0 : ¬ (!xs.isEmpty && Builtin.List.listTooLong (xs.size + ys.size)) = true) (h1 : xs.size ≤ sizeLine) (h2 : xs.size + ys.size ≤ sizeLine + 1) :
    Meets (Builtin.«list.extend» ⟨[.ref p, .ref q], []⟩) (fun _ R s => s.heap.get? p = some { cls := .type "list", dict := none, data := .seq xs k, slots := #[] } ∧ s.heap.get? q = some { cls := .type "list", dict := dq, data := .seq ys m, slots := sq } ∧ R (.ok (.ret Value.none)) { s with heap := s.heap.update p (Obj.mapSeq fun z => z ++ ys) }) :=
  .of_wp fun prog w A R s h => by
    obtain ⟨hp, g, d, tk, os⟩ := s
    obtain ⟨hl, hb, h⟩ := h
    have f1 := AutoSeq1.idx_int
    have f2 := AutoSeq1.sub_tuple_tuple
    have f3 := AutoSeq1.sub_list_list
    have f4 := AutoSeq1.sub_tuple_list
    have f5 := AutoSeq1.sub_list_tuple
    have hz' : (xs ++ ys).size ≤ sizeLine + 1 := by rw [Array.size_append]; exact h2
    wp_walk using (wpAny_updateSeq hl rfl (hz := h1) (_hz' := hz')), wpAny_loadPart' hl, wpAny_loadPart' hb
    exact ⟨_, rfl, h⟩
section
variable {X : Cx}
/-- xs.extend(ys), ys whatever list -/
def rExtendL (K : PySem.W.Frag) : V → List V → Hp → VK → Prop := fun x vs H Q => ∃ l b xs zs, x = .ref l ∧ vs = [.ref b] ∧ H l = some (.lst xs) ∧ SqL K H b zs ∧ xs.length + zs.length ≤ sizeLine ∧ Q .non (upd H l (.lst (xs ++ zs)))
theorem mt_extendL : MtM X "list.extend" (rExtendL X.K) := by
  intro pins s σ H x vs v us Q I rx rv h
  obtain ⟨l, b, xs, zs, rfl, rfl, hH, hB, hz, q⟩ := h
  cases rx
  obtain ⟨u, rfl, ru⟩ := rv.one
  cases ru
  obtain ⟨z, its, n, r, hl, e⟩ := I.lstM hH
  obtain ⟨its2, r2, p2, z2⟩ := I.list hB
  obtain ⟨⟨cls2, dd2, data2, sl2⟩, ho2, hc2, n2, hd2⟩ := p2.isList
  simp only at hc2 hd2
  subst hc2 hd2
  have hl2 := r2.length
  have hsz : its.toArray.size + its2.toArray.size ≤ sizeLine := by rw [List.size_toArray, List.size_toArray]; omega
  have hlong : ¬ (!its.toArray.isEmpty && Builtin.List.listTooLong (its.toArray.size + its2.toArray.size)) = true := by
    rw [notLongL hsz, Bool.and_false]
    exact Bool.false_ne_true
  refine call_meets F.slot_list_extend ⟨_, e, rfl⟩ F.entry_list_extend (F.args_list_extend_2 _ _)
    (extend_any l its.toArray n b its2.toArray n2 dd2 sl2 hlong (by rw [List.size_toArray]; omega) (by omega)) ⟨e, ho2, ?_⟩
  refine ⟨.non, _, I.lset (its' := its ++ its2) hH e (by simp) (r.append r2) ?_, rfl, q⟩
  rw [List.length_append]
  omega
def rDPutS : V → V → V → Hp → (Hp → Prop) → Prop := fun o i v H Q => ∃ a H', o = .ref a ∧ DPut H a i v H' ∧ Q H'
theorem set_dict (hu : X.A.units + 1 < cLine) : PSet X rDPutS := by
  intro pins s σ H o i v ov iv u Q I ro ri rv h
  obtain ⟨a, H', rfl, g, q⟩ := h
  cases ro
  exact d_setItem hu I g ri rv fun s3 I3 => ⟨H', I3, q⟩
end
end L2
namespace DL
open PySem PySem.Spec PyProof.Rows L2
section
variable {K : PySem.W.Frag} {H H' : Hp} {B B' : BS} {σ σ' : St} {δ δ' : Ds}
theorem Rps.set : ∀ {ds : List D} {xs : List V} {d : D} {v : V} (j : Nat), Rps K H B ds xs → Rp K H B d v → Rps K H B (ds.set j d) (xs.set j v)
  | [], _, _, _, _, h, _ => by rw [rps_nil] at h; subst h; simp [rps_nil]
  | d :: ds, _, _, _, 0, h, r => by
    rw [rps_cons] at h
    obtain ⟨y, t, rfl, h1, h2⟩ := h
    rw [List.set_cons_zero, List.set_cons_zero, rps_cons]
    exact ⟨_, _, rfl, r, h2⟩
  | d :: ds, _, _, _, j + 1, h, r => by
    rw [rps_cons] at h
    obtain ⟨y, t, rfl, h1, h2⟩ := h
    rw [List.set_cons_succ, List.set_cons_succ, rps_cons]
    exact ⟨_, _, rfl, h1, Rps.set j h2 r⟩
theorem Rps.dropLast {ds : List D} {xs : List V} (h : Rps K H B ds xs) : Rps K H B ds.dropLast xs.dropLast := by
  rw [List.dropLast_eq_take, List.dropLast_eq_take, h.length]
  exact h.take _
theorem Rps.erase {ds : List D} {xs : List V} (j : Nat) (h : Rps K H B ds xs) : Rps K H B (ds.eraseIdx j) (xs.eraseIdx j) := by
  rw [List.eraseIdx_eq_take_drop_succ, List.eraseIdx_eq_take_drop_succ]
  exact Rps.append (h.take _) (h.drop _)
structure EnvV (K : PySem.W.Frag) (H₀ : Hp) (B₀ : BS) (H : Hp) (σ : St) (δ : Ds) (d : D) (v : V) : Prop where
  same : Same H₀ H
  ex : ∃ B : BS, (∀ a, B₀ a → B a) ∧ (∀ a, B a → B₀ a ∨ H₀ a = none) ∧ Env K H B σ δ ∧ Rp K H B d v
  fr : ∀ (i : Nat) (ds : D) (a : Addr), δ[i]? = some (.ow ds) → σ[i]? = some (some (.ref a)) → H₀ a = none
  b0 : ∀ a, B₀ a → H₀ a ≠ none
theorem EnvV.s {H₀ : Hp} {B₀ : BS} {d : D} {v : V} (h : EnvV K H₀ B₀ H σ δ d v) : EnvS K H₀ B₀ H σ δ := ⟨h.same, let ⟨B, b1, b2, e, _⟩ := h.ex; ⟨B, b1, b2, e⟩, h.fr, h.b0⟩
theorem EnvV.mk' {H₀ : Hp} {B₀ : BS} {d : D} {v : V} (h : EnvS K H₀ B₀ H σ δ) (b1 : ∀ a, B₀ a → B a) (b2 : ∀ a, B a → B₀ a ∨ H₀ a = none) (e : Env K H B σ δ) (r : Rp K H B d v) : EnvV K H₀ B₀ H σ δ d v := ⟨h.same, ⟨B, b1, b2, e, r⟩, h.fr, h.b0⟩
end
def tX (K : PySem.W.Frag) (H₀ : Hp) (B₀ : BS) (δ : Ds) (gx : GX) : TE := fun σ H Q => ∃ r, EnvS K H₀ B₀ H σ δ ∧ gx δ = some r ∧ ∀ v H', EnvV K H₀ B₀ H' σ r.2 r.1 v → Q v H'
structure PX (X : Cx) (e : Expr) (gx : GX) : Prop where
  mk :: go : ∀ H₀ B₀ δ, PE X e (tX X.K H₀ B₀ δ gx)
instance {X : Cx} {e : Expr} {gx : GX} : CoeFun (PX X e gx) (fun _ => ∀ H₀ B₀ δ, PE X e (tX X.K H₀ B₀ δ gx)) := ⟨PX.go⟩
def tTG (K : PySem.W.Frag) (H₀ : Hp) (B₀ : BS) (ft : D → Ds → Option Ds) (d : D) (δ : Ds) : TG := fun v σ H Q => ∃ δ', EnvV K H₀ B₀ H σ δ d v ∧ ft d δ = some δ' ∧ ∀ σ' H', EnvS K H₀ B₀ H' σ' δ' → Q σ' H'
structure PTG (X : Cx) (tg : Expr) (ft : D → Ds → Option Ds) : Prop where
  mk :: go : ∀ H₀ B₀ d δ, PG X tg (tTG X.K H₀ B₀ ft d δ)
instance {X : Cx} {tg : Expr} {ft : D → Ds → Option Ds} : CoeFun (PTG X tg ft) (fun _ => ∀ H₀ B₀ d δ, PG X tg (tTG X.K H₀ B₀ ft d δ)) := ⟨PTG.go⟩
section
variable {X : Cx} {e tg : Expr} {st : Stmt} {pos apos cpos px : Pos} {g : GE} {gt : GB} {G : GS} {x : Str}
theorem px_pure (h : PD X e g) : PX X e (pureX g) := .mk fun H₀ B₀ δ pins s σ H Q I ⟨r, en, e1, k⟩ => by
  unfold pureX at e1
  obtain ⟨B, b1, b2, env⟩ := en.ex
  cases e2 : g δ with
  | none => rw [e2] at e1; cases e1
  | some d =>
    rw [e2] at e1
    cases e1
    exact h B δ pins s σ H Q I ⟨d, env, e2, fun v H' s' r => k v H' (EnvV.mk' (en.grow s') b1 b2 (env.same s') r)⟩
theorem owL_eq {i : Nat} {δ : Ds} {ds : List D} (h : owL i δ = some ds) : δ[i]? = some (.ow (.lst ds)) := by
  unfold owL at h
  split at h
  · cases h; assumption
  · cases h
theorem owDc_eq {i : Nat} {δ : Ds} {r : List KeyD × List D} (h : owDc i δ = some r) : δ[i]? = some (.ow (.dct r.1 r.2)) := by
  unfold owDc at h
  split at h
  · cases h; assumption
  · cases h
theorem px_app (i : Nat) (h : PD X e g) (hN : X.N[i]? = some x := by rfl) (hv : Vis X.env.scope x := by first | exact Or.inl rfl | exact Or.inr (Or.inl rfl) | exact Or.inr (Or.inr rfl)) (hd : (x == ("__debug__" : Str)) = false := by decide) (hcd : (x == ("__classdict__" : Str)) = false := by decide)
    (hbase : attributeBase (.Name x px) "append" X.env (eval (.Name x px) X.env) = eval (.Name x px) X.env := by rfl)
    (hfew : ((backTo cpos (starEach [e] X.env)).all (fun x => !x.1) && (backToKw cpos (keywordEach [] X.env)).all (fun x => x.1.isSome)
      && decide (([e] : List Expr).length + ([] : List Keyword).length + (if ([] : List Keyword).isEmpty then 0 else 1) < 30)) = true := by rfl)
    (hline : (apos.endLine == cpos.line) = true := by rfl) (hs : starEach [e] X.env = (false, eval e X.env) :: starEach [] X.env := by rfl) (hplain : (backTo cpos (starEach [] X.env)).any (·.1) = false := by rfl) :
    PX X (.Call (.Attribute (.Name x px) "append" apos) [e] [] cpos) (appX i g) := .mk fun H₀ B₀ δ pins s σ H Q I ⟨r, en, e1, k⟩ => by
  unfold appX at e1
  obtain ⟨B, b1, b2, env⟩ := en.ex
  cases e2 : owL i δ with
  | none => rw [e2] at e1; cases e1
  | some ds =>
    cases e3 : g δ with
    | none => rw [e2, e3] at e1; cases e1
    | some d =>
      rw [e2, e3] at e1
      simp only [Option.bind_some] at e1
      split at e1
      · rename_i hz
        cases e1
        have hi := owL_eq e2
        obtain ⟨a, hs', hb, xs, hx, rx⟩ := env.at hi
        refine pe_bm PySem.F.plainAttrs_list PySem.F.slot_list_append PySem.F.type_list_append mt_append (pe_var (i := i) hN hv hd hcd) (pa_cons (h B δ) pa_nil hs) hbase hfew hline hs hplain pins s σ H Q I
          ⟨_, hs', .inl ⟨rfl, xs, .inl (.inl hx)⟩, d, env, e3, fun v H1 s1 r1 => ⟨a, xs, v, rfl, rfl, s1 _ _ hx, by rw [rx.length]; exact hz, ?_⟩⟩
        have env2 : Env X.K (upd H1 a (.lst (xs ++ [v]))) B σ (δ.set i (.ow (.lst (ds ++ [d])))) := (env.same s1).mut hi hs' ⟨_, upd_same, (Rps.snoc (rx.same s1) r1).mono (Gr.own hb)⟩
        exact k _ _ (EnvV.mk' (en.mut s1 b1 b2 hi hs' env2) b1 b2 env2 (by rw [rp_non]))
      · cases e1
theorem px_ext (i : Nat) (h : PD X e g) (hN : X.N[i]? = some x := by rfl) (hv : Vis X.env.scope x := by first | exact Or.inl rfl | exact Or.inr (Or.inl rfl) | exact Or.inr (Or.inr rfl)) (hd : (x == ("__debug__" : Str)) = false := by decide) (hcd : (x == ("__classdict__" : Str)) = false := by decide)
    (hbase : attributeBase (.Name x px) "extend" X.env (eval (.Name x px) X.env) = eval (.Name x px) X.env := by rfl)
    (hfew : ((backTo cpos (starEach [e] X.env)).all (fun x => !x.1) && (backToKw cpos (keywordEach [] X.env)).all (fun x => x.1.isSome)
      && decide (([e] : List Expr).length + ([] : List Keyword).length + (if ([] : List Keyword).isEmpty then 0 else 1) < 30)) = true := by rfl)
    (hline : (apos.endLine == cpos.line) = true := by rfl) (hs : starEach [e] X.env = (false, eval e X.env) :: starEach [] X.env := by rfl) (hplain : (backTo cpos (starEach [] X.env)).any (·.1) = false := by rfl) :
    PX X (.Call (.Attribute (.Name x px) "extend" apos) [e] [] cpos) (extX i g) := .mk fun H₀ B₀ δ pins s σ H Q I ⟨r, en, e1, k⟩ => by
  unfold extX at e1
  obtain ⟨B, b1, b2, env⟩ := en.ex
  cases e2 : owL i δ with
  | none => rw [e2] at e1; cases e1
  | some ds =>
    cases e3 : g δ with
    | none => rw [e2, e3] at e1; cases e1
    | some d =>
      rw [e2, e3] at e1
      simp only [Option.bind_some] at e1
      cases d <;> try cases e1
      rename_i es
      dsimp only at e1
      split at e1
      · rename_i hz
        cases e1
        have hi := owL_eq e2
        obtain ⟨a, hs', hb, xs, hx, rx⟩ := env.at hi
        refine pe_bm PySem.F.plainAttrs_list PySem.F.slot_list_extend PySem.F.type_list_extend mt_extendL (pe_var (i := i) hN hv hd hcd) (pa_cons (h B δ) pa_nil hs) hbase hfew hline hs hplain pins s σ H Q I
          ⟨_, hs', .inl ⟨rfl, xs, .inl (.inl hx)⟩, _, env, e3, fun v H1 s1 r1 => ?_⟩
        rw [rp_lst] at r1
        obtain ⟨b, zs, rfl, hq, rz⟩ := r1
        refine ⟨a, b, xs, zs, rfl, rfl, s1 _ _ hx, hq.to, by rw [rx.length, rz.length]; exact hz, ?_⟩
        have env2 : Env X.K (upd H1 a (.lst (xs ++ zs))) B σ (δ.set i (.ow (.lst (ds ++ es)))) := (env.same s1).mut hi hs' ⟨_, upd_same, (Rps.append (rx.same s1) rz).mono (Gr.own hb)⟩
        exact k _ _ (EnvV.mk' (en.mut s1 b1 b2 hi hs' env2) b1 b2 env2 (by rw [rp_non]))
      · cases e1
theorem px_pop (i : Nat) (hN : X.N[i]? = some x := by rfl) (hv : Vis X.env.scope x := by first | exact Or.inl rfl | exact Or.inr (Or.inl rfl) | exact Or.inr (Or.inr rfl)) (hd : (x == ("__debug__" : Str)) = false := by decide) (hcd : (x == ("__classdict__" : Str)) = false := by decide)
    (hbase : attributeBase (.Name x px) "pop" X.env (eval (.Name x px) X.env) = eval (.Name x px) X.env := by rfl) (hline : (apos.endLine == cpos.line) = true := by rfl) :
    PX X (.Call (.Attribute (.Name x px) "pop" apos) [] [] cpos) (popX i) := .mk fun H₀ B₀ δ pins s σ H Q I ⟨r, en, e1, k⟩ => by
  unfold popX at e1
  obtain ⟨B, b1, b2, env⟩ := en.ex
  cases e2 : owL i δ with
  | none => rw [e2] at e1; cases e1
  | some ds =>
    rw [e2] at e1
    simp only [Option.bind_some] at e1
    cases e3 : ds.getLast? with
    | none => rw [e3] at e1; cases e1
    | some d =>
      rw [e3] at e1
      cases e1
      have hi := owL_eq e2
      obtain ⟨a, hs', hb, xs, hx, rx⟩ := env.at hi
      rw [List.getLast?_eq_getElem?] at e3
      obtain ⟨y, hy, ry⟩ := rx.get e3
      refine pe_bm0 PySem.F.plainAttrs_list PySem.F.slot_list_pop PySem.F.type_list_pop mt_pop (pe_var (i := i) hN hv hd hcd) hbase hline pins s σ H Q I
        ⟨_, hs', .inl ⟨rfl, xs, .inl (.inl hx)⟩, a, xs, y, rfl, rfl, hx, by rw [rx.length]; exact hy, ?_⟩
      have env2 : Env X.K (upd H a (.lst xs.dropLast)) B σ (δ.set i (.ow (.lst ds.dropLast))) := env.mut hi hs' ⟨_, upd_same, rx.dropLast.mono (Gr.own hb)⟩
      exact k _ _ (EnvV.mk' (en.mut (Same.refl _) b1 b2 hi hs' env2) b1 b2 env2 (ry.mono (Gr.own hb)))
theorem px_popAt (i : Nat) (h : PD X e g) (hN : X.N[i]? = some x := by rfl) (hv : Vis X.env.scope x := by first | exact Or.inl rfl | exact Or.inr (Or.inl rfl) | exact Or.inr (Or.inr rfl)) (hd : (x == ("__debug__" : Str)) = false := by decide) (hcd : (x == ("__classdict__" : Str)) = false := by decide)
    (hbase : attributeBase (.Name x px) "pop" X.env (eval (.Name x px) X.env) = eval (.Name x px) X.env := by rfl)
    (hfew : ((backTo cpos (starEach [e] X.env)).all (fun x => !x.1) && (backToKw cpos (keywordEach [] X.env)).all (fun x => x.1.isSome)
      && decide (([e] : List Expr).length + ([] : List Keyword).length + (if ([] : List Keyword).isEmpty then 0 else 1) < 30)) = true := by rfl)
    (hline : (apos.endLine == cpos.line) = true := by rfl) (hs : starEach [e] X.env = (false, eval e X.env) :: starEach [] X.env := by rfl) (hplain : (backTo cpos (starEach [] X.env)).any (·.1) = false := by rfl) :
    PX X (.Call (.Attribute (.Name x px) "pop" apos) [e] [] cpos) (popAtX i g) := .mk fun H₀ B₀ δ pins s σ H Q I ⟨r, en, e1, k⟩ => by
  unfold popAtX at e1
  obtain ⟨B, b1, b2, env⟩ := en.ex
  cases e2 : owL i δ with
  | none => rw [e2] at e1; cases e1
  | some ds =>
    cases e3 : g δ with
    | none => rw [e2, e3] at e1; cases e1
    | some d =>
      rw [e2, e3] at e1
      simp only [Option.bind_some] at e1
      cases d <;> try cases e1
      rename_i kk
      dsimp only at e1
      split at e1
      · rename_i hz
        cases e4 : ds[kk.toNat]? with
        | none => rw [e4] at e1; cases e1
        | some dy =>
          rw [e4] at e1
          cases e1
          have hi := owL_eq e2
          obtain ⟨a, hs', hb, xs, hx, rx⟩ := env.at hi
          obtain ⟨y, hy, ry⟩ := rx.get e4
          have hn : xs.length ≤ sizeLine := (I.lstM hx).1
          have hl := line63
          have hxl := rx.length
          refine pe_bm PySem.F.plainAttrs_list PySem.F.slot_list_pop PySem.F.type_list_pop mt_popAt (pe_var (i := i) hN hv hd hcd) (pa_cons (h B δ) pa_nil hs) hbase hfew hline hs hplain pins s σ H Q I
            ⟨_, hs', .inl ⟨rfl, xs, .inl (.inl hx)⟩, _, env, e3, fun v H1 s1 r1 => ?_⟩
          rw [rp_int] at r1
          subst r1
          refine ⟨a, xs, kk, kk.toNat, y, rfl, rfl, s1 _ _ hx, by omega, by omega, seqIndex_of hz.1 (by rw [hxl]; exact hz.2), hy, ?_⟩
          have env2 : Env X.K (upd H1 a (.lst (xs.eraseIdx kk.toNat))) B σ (δ.set i (.ow (.lst (ds.eraseIdx kk.toNat)))) := (env.same s1).mut hi hs' ⟨_, upd_same, ((rx.same s1).erase _).mono (Gr.own hb)⟩
          exact k _ _ (EnvV.mk' (en.mut s1 b1 b2 hi hs' env2) b1 b2 env2 ((ry.same s1).mono (Gr.own hb)))
      · cases e1
/-! ### targets -/
theorem ptg_of {idx : List Nat} {f : D → Ds → Option Ds} (h : PGD X tg idx f) : PTG X tg f := .mk fun H₀ B₀ d δ pins s σ H v u Q I r ⟨δ', en, e1, k⟩ => by
  obtain ⟨B, b1, b2, env, rv⟩ := en.ex
  exact h B d δ pins s σ H v u Q I r ⟨δ', rv, env, e1, fun σ' w en' => k σ' H (en.s.wr b1 b2 (Same.refl _) w en')⟩
theorem ptg_set (i : Nat) (h : PD X e g) (hN : X.N[i]? = some x := by rfl) (hv : Vis X.env.scope x := by first | exact Or.inl rfl | exact Or.inr (Or.inl rfl) | exact Or.inr (Or.inr rfl)) (hd : (x == ("__debug__" : Str)) = false := by decide) (hcd : (x == ("__classdict__" : Str)) = false := by decide)
    (ha : ∀ v, assign (.Subscript (.Name x px) e pos) X.env v = (do
      let ov ← holding [v] (eval (.Name x px) X.env)
      let iv ← holding [v, ov] (eval e X.env)
      standAt pos
      holding [v, ov, iv] (setItem ov iv v)
      release [v, ov, iv] []) := by intro _; rfl) : PTG X (.Subscript (.Name x px) e pos) (setAt i g) := .mk fun H₀ B₀ d δ pins s σ H v u Q I r ⟨δ', en, e1, k⟩ => by
  unfold setAt at e1
  obtain ⟨B, b1, b2, env, rv⟩ := en.ex
  cases e2 : owL i δ with
  | none => rw [e2] at e1; cases e1
  | some ds =>
    cases e3 : g δ with
    | none => rw [e2, e3] at e1; cases e1
    | some dk =>
      rw [e2, e3] at e1
      simp only [Option.bind_some] at e1
      cases dk <;> try cases e1
      rename_i kk
      dsimp only at e1
      cases e4 : ixN ds.length kk with
      | none => rw [e4] at e1; cases e1
      | some j =>
        rw [e4] at e1
        cases e1
        have hi := owL_eq e2
        obtain ⟨a, hs', hb, xs, hx, rx⟩ := env.at hi
        refine pg_sub (pe_var (i := i) hN hv hd hcd) (h B δ) set_list ha pins s σ H v u Q I r ⟨_, hs', _, env, e3, fun iv H1 s1 r1 => ?_⟩
        rw [rp_int] at r1
        subst r1
        refine ⟨a, xs, kk, j, rfl, rfl, s1 _ _ hx, by rw [rx.length]; exact e4, ?_⟩
        have env2 : Env X.K (upd H1 a (.lst (xs.set j v))) B σ (δ.set i (.ow (.lst (ds.set j d)))) := (env.same s1).mut hi hs' ⟨_, upd_same, (Rps.set j (rx.same s1) (rv.same s1)).mono (Gr.own hb)⟩
        exact k _ _ (en.s.mut s1 b1 b2 hi hs' env2)
      
/-! ### statements -/
theorem psd_asgX {gx : GX} {ft : D → Ds → Option Ds} (h : PX X e gx) (hg : PTG X tg ft) (hs : swapsWithSole [tg] e pos.line X.env = pure false := by rfl) (hw : swappedStores [tg] e X.env = pure none := by rfl)
    (h1 : (assignEach [tg] X.env).map (·.2) = [assign tg X.env] := by rfl) : PSD X (.Assign [tg] e pos) (asgX gx ft) := .mk fun H₀ B₀ δ pins s σ H D I ⟨r, en, e1, k⟩ => by
  unfold asgX at e1
  cases e2 : gx δ with
  | none => rw [e2] at e1; cases e1
  | some q =>
    rw [e2] at e1
    simp only [Option.bind_some] at e1
    cases e3 : ft q.1 q.2 with
    | none => rw [e3] at e1; cases e1
    | some δ' =>
      rw [e3] at e1
      cases e1
      exact ps_asg (h H₀ B₀ δ) (hg H₀ B₀ q.1 q.2) hs hw h1 pins s σ H D I ⟨q, en, e2, fun v H' en' => ⟨δ', en', e3, fun σ' H'' en'' => k σ' H'' en''⟩⟩
theorem psd_exprX {gx : GX} (h : PX X e gx) (hs : swapsWith e none pos.line X.env = pure false := by rfl) : PSD X (.Expr e pos) (exprX gx) := .mk fun H₀ B₀ δ pins s σ H D I ⟨r, en, e1, k⟩ => by
  unfold exprX at e1
  cases e2 : gx δ with
  | none => rw [e2] at e1; cases e1
  | some q =>
    rw [e2] at e1
    cases e1
    exact ps_expr (h H₀ B₀ δ) hs pins s σ H D I ⟨q, en, e2, fun v H' en' => k σ H' en'.s⟩
theorem psd_while (n : Nat) {c : Expr} {body : List Stmt} (hp : PassesOwn (model X.prog X.w) X.A X.env X.xe) (hc : PTD X c gt) (hb : PSsD X body G) : PSD X (.While c body [] pos) (whileD gt G n) := .mk fun H₀ B₀ δ pins s σ H D I ⟨r, en, e1, k⟩ => by
  have hc' : PT X c (fun σ H Q => ∃ B δ, tDT X.K B δ gt σ H Q) := fun pins s σ H Q I ⟨B, δ, h⟩ => hc B δ pins s σ H Q I h
  have hb' : PSs X body (fun D σ H => ∃ δ, tDS X.K H₀ B₀ δ G D σ H) := fun pins s σ H D I ⟨δ, h⟩ => hb H₀ B₀ δ pins s σ H D I h
  refine ps_while hp hc' hb' pins s σ H D I ⟨fun m σ H => ∃ δ', EnvS X.K H₀ B₀ H σ δ' ∧ whileD gt G m δ' = some r, ⟨n, δ, en, e1⟩, ?_⟩
  rintro m σ1 H1 ⟨δ1, en1, e2⟩
  cases m with
  | zero => cases e2
  | succ m =>
    unfold whileD at e2
    obtain ⟨B, b1, b2, env⟩ := en1.ex
    cases e3 : gt δ1 with
    | none => rw [e3] at e2; cases e2
    | some t =>
      rw [e3] at e2
      refine ⟨B, δ1, t, env, e3, fun H2 s2 => ?_⟩
      cases t with
      | false =>
        rw [if_neg Bool.false_ne_true]
        cases e2
        exact k σ1 H2 (en1.grow s2)
      | true =>
        rw [if_pos rfl]
        dsimp only at e2
        refine ⟨fun σ' H' => ∃ δ', EnvS X.K H₀ B₀ H' σ' δ' ∧ whileD gt G m δ' = some r, fun σ' H' z => ⟨m, Nat.lt_succ_self m, z⟩, δ1, ?_⟩
        cases e4 : G δ1 with
        | none => rw [e4] at e2; cases e2
        | some rb =>
          rw [e4] at e2
          refine ⟨rb, en1.grow s2, e4, ?_⟩
          cases rb with
          | nx δn => exact fun σ' H' en' => ⟨δn, en', e2⟩
          | ct δn => exact fun σ' H' en' => ⟨δn, en', e2⟩
          | bk δn => cases e2; exact fun σ' H' en' => k σ' H' en'
          | rt d' => cases e2; exact fun v H' s' r' => k v H' s' r'
          | rf d' => cases e2; exact fun p H' hp s' r' => k p H' hp s' r'
/-- for (a, b) in .., (a, b) = .. -/
theorem pgd_tup2 (i j : Nat) {y : Str} {p2 p3 : Pos} {kk} (hN : X.N.Nodup) (hij : i ≠ j) (hc : X.calm = true := by rfl) (hi : X.N[i]? = some x := by rfl) (hj : X.N[j]? = some y := by rfl)
    (hx : Loc X.env.scope x := by first | exact Or.inl rfl | exact Or.inr rfl) (hy : Loc X.env.scope y := by first | exact Or.inl rfl | exact Or.inr rfl)
    (hf : X.fn x = true ∨ X.env.scope.names.lookup x = some .local := by first | exact .inl rfl | exact .inr rfl | assumption) (hf2 : X.fn y = true ∨ X.env.scope.names.lookup y = some .local := by first | exact .inl rfl | exact .inr rfl | assumption)
    (hs1 : (assignEach [.Name x p2, .Name y p3] X.env).map (·.2) = assign (.Name x p2) X.env :: (assignEach [.Name y p3] X.env).map (·.2) := by rfl) (hs2 : (assignEach [.Name y p3] X.env).map (·.2) = assign (.Name y p3) X.env :: (assignEach [] X.env).map (·.2) := by rfl)
    (hn : (assignEach [.Name x p2, .Name y p3] X.env).length = 2 := by rfl) (hst : (assignEach [.Name x p2, .Name y p3] X.env).findIdx? (·.1) = none := by rfl) :
    PGD X (.Tuple [.Name x p2, .Name y p3] kk pos) [i, j] (tup2 i j) := .mk fun B d δ => (pg_tup hc (pgs_cons (pg_name (i := i) hN hi hx hf) (pgs_cons (pg_name (i := j) hN hj hy hf2) pgs_nil hs2) hs1) hn hst).imp fun v σ H Q ⟨δ', r, en, e1, k⟩ => by
  unfold tup2 at e1
  split at e1
  · rename_i da db
    cases e1
    rw [rp_tup] at r
    obtain ⟨p, xs, rfl, hq, rs⟩ := r
    rw [rps_cons] at rs
    obtain ⟨va, t1, rfl, ra, rs⟩ := rs
    rw [rps_cons] at rs
    obtain ⟨vb, t2, rfl, rb, rs⟩ := rs
    rw [rps_nil] at rs
    subst rs
    refine ⟨p, _, rfl, hq.to, rfl, va, [vb], rfl, vb, [], rfl, rfl, k _ ?_ ((en.set i ra).set j rb)⟩
    refine ⟨by simp, fun q hq => ?_, fun q hq ds h => ?_⟩
    · have h1 : q ≠ i := fun z => hq (by rw [z]; exact List.mem_cons_self)
      have h2 : q ≠ j := fun z => hq (by rw [z]; exact List.mem_cons_of_mem _ List.mem_cons_self)
      rw [List.getElem?_set_ne (Ne.symm h2), List.getElem?_set_ne (Ne.symm h1), List.getElem?_set_ne (Ne.symm h2), List.getElem?_set_ne (Ne.symm h1)]
      exact ⟨rfl, rfl⟩
    · rcases get_set h with ⟨rfl, e3, _⟩ | ⟨n1, e3⟩
      · cases e3
      · rcases get_set e3 with ⟨rfl, e4, _⟩ | ⟨n2, e4⟩
        · cases e4
        · simp at hq
          rcases hq with z | z
          · exact n2 z.symm
          · exact n1 z.symm
  · cases e1
end
end DL
namespace HT
open PySem PyProof.Rows
section
variable {prog : Program} {w : World} {A : Around} {E : Value → Shared → Prop} {s : Shared}
/-- the whole of a tuple, sliced, is itself -/
theorem getItem_tuple_whole {t sl : Addr} {items : Array Value} {vl vu : Value} {lo hi : Option Int} {Q : Value → Shared → Prop} (ht : IsTup s.heap t items) (hs : s.heap.IsSliceOf sl vl vu .none) (pl : IsPart vl lo) (pu : IsPart vu hi)
    (hw : sIx items.size 0 lo = 0 ∧ sIx items.size items.size hi = items.size) (h : Q (.ref t) s) : wpAny (model prog w) A (getItem (.ref t) (.ref sl)) Q E s := by
  obtain ⟨os, hos, hcs, hds⟩ := id hs
  have hTs : s.TypeIs (.ref sl) "slice" := ⟨os, hos, hcs⟩
  unfold getItem
  try with_reducible refine wpAny_holding ?_
  first | refine wpAny_bind (wpAny_pure ?_) | skip
  refine wpAny_bind (wpAny_sequenceKey ht.typeIs (by decide) ?_)
  refine wpAny_bind (wpAny_callSpecial?_slot (name := Str.ofString "__getitem__") ht.typeIs PyProof.Rows.slot_tuple_getitem
    (wpAny_call_entry PyProof.Rows.slot_tuple_getitem ht.typeIs entry_tuple_getitem ?_ (args_tuple_getitem _ _)))
  show wpAny _ _ (Builtin.Tuple.tupleItemsOf (.ref t) >>= _) _ _ s
  refine wpAny_bind (tupleItemsOf_ ht ?_)
  refine wpAny_bind (wpAny_typeOf hTs ?_)
  rw [if_pos (by decide)]
  refine wpAny_bind (sliceApplied_gen hs pl pu ?_)
  have hyes : (((sIx items.size 0 lo : Nat) : Int) == 0 && (1 : Int) == 1 && (sIx items.size items.size hi - sIx items.size 0 lo) == items.size) = true := by
    rw [hw.1, hw.2]
    simp
  show wpAny _ _ (if (((sIx items.size 0 lo : Nat) : Int) == 0 && (1 : Int) == 1 && (sIx items.size items.size hi - sIx items.size 0 lo) == items.size) = true then _ else _) _ _ s
  rw [if_pos hyes]
  unfold Builtin.Tuple.tupleIsExact
  refine wpAny_bind (wpAny_bind (wpAny_typeOf ht.typeIs (wpAny_pure ?_)))
  rw [if_pos (by decide)]
  exact wpAny_bind (wpAny_rule (wpAny_pure ⟨_, rfl, wpAny_pure h⟩))
end
end HT
namespace L2
open PySem PySem.Spec PyProof.Rows
section
variable {X : Cx}
def rSlTW (K : PySem.W.Frag) : V → Option Int → Option Int → Hp → VK → Prop := fun x lo hi H Q => ∃ a xs, x = .ref a ∧ SqT K H a xs ∧ (HT.sIx xs.length 0 lo = 0 ∧ HT.sIx xs.length xs.length hi = xs.length) ∧ Q (.ref a) H
theorem sl_tupW : SlR X (rSlTW X.K) := by
  intro pins s σ H x v vl vu lo hi sl Q I rx hs pl pu h
  obtain ⟨a, xs, rfl, hx, hw, q⟩ := h
  cases rx
  obtain ⟨its, r, ht, hz⟩ := I.tuple hx
  have hlen : its.toArray.size = xs.length := by rw [List.size_toArray]; exact r.length.symm
  exact ⟨"tuple", _, PyProof.Rows.slot_tuple_getitem.lookup, ht.typeIs, HT.getItem_tuple_whole ht hs pl pu (by rw [hlen]; exact hw) ⟨.ref a, H, I, rfl, q⟩⟩
/-- () + t is t -/
def rCatT0 (K : PySem.W.Frag) : R2 := fun x y H Q => ∃ a b ys, x = .ref a ∧ y = .ref b ∧ SqT K H a [] ∧ SqT K H b ys ∧ Q (.ref b) H
theorem op_catT0 : OpR X (binaryOp .Add) (rCatT0 X.K) := by
  intro pins s σ H x y v u Q I rx ry h
  obtain ⟨a, b, ys, rfl, rfl, ha, hb, q⟩ := h
  cases rx
  cases ry
  obtain ⟨its, r1, p1, _⟩ := I.tuple ha
  obtain ⟨its2, r2, p2, _⟩ := I.tuple hb
  have e : its = [] := r1.zero
  subst e
  obtain ⟨⟨cls, dd, data, sl⟩, ho, hc, n, hd⟩ := id p1
  obtain ⟨⟨cls2, dd2, data2, sl2⟩, ho2, hc2, n2, hd2⟩ := id p2
  simp only at hc hd hc2 hd2
  subst hc hd hc2 hd2
  exact concat_meets ⟨_, ho, rfl⟩ ⟨_, ho2, rfl⟩ noFill_tuple_add seq_tuple_add PySem.F.slot_tuple_add PySem.F.entry_tuple_add (PySem.F.args_tuple_add_2 _ _)
    (tuple_addW0 a b _ its2.toArray n n2 dd dd2 sl sl2 rfl) ⟨ho, ho2, ⟨.ref b, H, I, rfl, q⟩⟩
/-- a text times an int -/
def repS (x : Str) (n : Int) : Str := ⟨(List.replicate n.toNat x.cps).foldl (· ++ ·) #[]⟩
def rMulS : R2 := fun x y H Q => ∃ z n, x = .str z ∧ y = .int n ∧ -(2 ^ 62) ≤ n ∧ n < 2 ^ 62 ∧ z.length * n.toNat ≤ sizeLine ∧ Q (.str (repS z n)) H
theorem op_mulS : OpR X (binaryOp .Mult) rMulS := by
  intro pins s σ H x y v u Q I rx ry h
  obtain ⟨z, n, rfl, rfl, h1, h2, hz, q⟩ := h
  obtain ⟨t, rfl⟩ := rx
  obtain ⟨t', rfl⟩ := ry
  have fin : ∀ t'' k, EP X pins σ Q (.str (repS z n) t'') { s with toks := k } := fun t'' k => ⟨.str _, H, I.tok k, ⟨t'', rfl⟩, q⟩
  have hsl : (sizeLine : Nat) < 2 ^ 40 := by decide
  have hdiv : ¬ n < 1 → ¬ ((z.length : Int) > (2 ^ 63 - 1) / n) := by
    intro hn
    have hn' : 0 < n := by omega
    have : (z.length : Int) * n ≤ 2 ^ 63 - 1 := by
      have e : n = (n.toNat : Int) := by omega
      rw [e]
      have : ((z.length * n.toNat : Nat) : Int) ≤ 2 ^ 40 := by exact_mod_cast (by omega : z.length * n.toNat ≤ 2 ^ 40)
      rw [Int.natCast_mul] at this
      omega
    exact Int.not_lt.mpr ((Int.le_ediv_iff_mul_le hn').mpr this)
  refine PySem.P.mul_str (by rw [decide_eq_false (by omega), decide_eq_false (by omega)]; rfl) (fun hn _ => hdiv hn) (fun _ _ => ?_) ?_
  · show decide (z.length * n.toNat > sizeLine) = false
    exact decide_eq_false (by omega)
  · by_cases hn : n < 1
    · rw [if_pos hn]
      have e : repS z n = Str.empty := by
        unfold repS
        rw [show n.toNat = 0 by omega]
        rfl
      refine ⟨by decide, ?_⟩
      rw [← e]
      exact fin _ _
    · rw [if_neg hn]
      by_cases h3 : (n == 1 || z.length == 0) = true
      · rw [if_pos h3]
        have e : repS z n = z := by
          rw [Bool.or_eq_true] at h3
          rcases h3 with h3 | h3
          · have : n = 1 := eq_of_beq h3
            subst this
            unfold repS
            show (⟨#[] ++ z.cps⟩ : Str) = z
            rw [Array.empty_append]
          · have h3 : z.length = 0 := eq_of_beq h3
            have hz0 : z.cps = #[] := Array.eq_empty_of_size_eq_zero h3
            have : ∀ k : Nat, (List.replicate k (#[] : Array Nat)).foldl (· ++ ·) #[] = #[] := by
              intro k
              induction k with
              | zero => rfl
              | succ k ih => rw [List.replicate_succ, List.foldl_cons]; exact ih
            unfold repS
            rw [hz0, this]
            cases z
            simp at hz0
            rw [hz0]
        have := fin t s.toks
        rw [e] at this
        exact this
      · rw [if_neg h3]
        have hl2 : ∀ (k : Nat) (acc : Array Nat), ((List.replicate k z.cps).foldl (· ++ ·) acc).size = acc.size + k * z.cps.size := by
          intro k
          induction k with
          | zero => intro acc; simp
          | succ k ih => intro acc; rw [List.replicate_succ, List.foldl_cons, ih, Array.size_append, Nat.succ_mul]; omega
        refine ⟨?_, fin _ _⟩
        show ((List.replicate n.toNat z.cps).foldl (· ++ ·) #[]).size ≤ _
        rw [hl2]
        have : z.length = z.cps.size := rfl
        rw [this, Nat.mul_comm] at hz
        simpa using hz
/-- a tuple times an int -/
theorem noFill_tup_mul : fillsNumberSlot (.type "tuple") "mul" = pure false :=
  PySem.fillsNumberSlot_seq (id := "tuple.__mul__") (r := some (.builtin "tuple.__rmul__")) PySem.F.slot_tuple_mul.lookup (by decide +kernel) PySem.F.slot_tuple_rmul.lookup (by decide +kernel)
theorem repeat_tup : seqRepeat? (.type "tuple") = pure (some (.builtin "tuple.__mul__")) := by
  unfold seqRepeat?
  rw [PySem.seqSlot_of (T := "tuple") (name := "__mul__") (id := "tuple.__mul__") PySem.F.slot_tuple_mul.lookup (by decide +kernel), PySem.seqSlot_of (T := "tuple") (name := "__rmul__") (id := "tuple.__rmul__") PySem.F.slot_tuple_rmul.lookup (by decide +kernel)]
  rfl
theorem rmul_int_tup (a : Int) (t : Tok) (l : Addr) (items : Array Value) (n : Nat) (dd : Option Addr) (sl : Array (Option Value)) :
    Meets (Builtin.«int.__rmul__» ⟨[.int a t, .ref l], []⟩) (fun _ R s => s.heap.get? l = some { cls := .type "tuple", dict := dd, data := .seq items n, slots := sl } ∧ R (.ok (.ret Value.notImplemented)) s) :=
  .of_wp fun prog w A R s h => by
    obtain ⟨hp, g, d, tk, os⟩ := s
    obtain ⟨hl, h⟩ := h
    wp_walk
    exact ⟨_, rfl, h⟩
theorem tup_mulW (l : Addr) (items : Array Value) (n : Nat) (dd : Option Addr) (sl : Array (Option Value)) (k : Int) (t : Tok) (h2 : 2 ≤ k) (h3 : k < 2 ^ 62) (he : items.isEmpty = false) (hsz : items.size * k.toNat ≤ sizeLine) :
    Meets (Builtin.«tuple.__mul__» ⟨[.ref l, .int k t], []⟩) (fun _ R s => s.heap.get? l = some { cls := .type "tuple", dict := dd, data := .seq items n, slots := sl } ∧ R (.ok (.ret (Value.ref s.heap.objs.size))) { s with heap := s.heap.push { cls := .type "tuple", data := .seq ((List.replicate k.toNat items).foldl (· ++ ·) #[]) } }) :=
  .of_wp fun prog w A R s h => by
    obtain ⟨hp, g, d, tk, os⟩ := s
    obtain ⟨hl, h⟩ := h
    have f1 := AutoSeq1.idx_int
    have c1 : ¬ ((decide (k < -(2 ^ 63 : Int)) || decide (k ≥ 2 ^ 63)) = true) := by
      rw [decide_eq_false (by omega), decide_eq_false (by omega)]; exact Bool.false_ne_true
    have c2 : ¬ ((items.isEmpty || k == 1) = true) := by
      rw [he, beq_eq_false_iff_ne.mpr (by omega)]; exact Bool.false_ne_true
    have c3 : ¬ ((decide (k ≤ 0) || items.isEmpty) = true) := by
      rw [he, decide_eq_false (by omega)]; exact Bool.false_ne_true
    have hk : ((items.size : Int) * k) = ((items.size * k.toNat : Nat) : Int) := by
      rw [Int.natCast_mul]; congr 1; omega
    have hb : (sizeLine : Nat) < 2 ^ 40 := by decide
    have c4 : ¬ ((items.size : Int) * k > (2 ^ 63 - 1) / 8) := by
      rw [hk]; omega
    have c5 : ¬ (Builtin.Tuple.tupleTooMany ((items.size : Int) * k) = true) := by
      rw [hk]
      unfold Builtin.Tuple.tupleTooMany
      simp only [decide_eq_true_eq]
      omega
    have hsz2 : ∀ (m : Nat) (acc : Array Value), ((List.replicate m items).foldl (· ++ ·) acc).size = acc.size + m * items.size := by
      intro m
      induction m with
      | zero => intro acc; simp
      | succ m ih => intro acc; rw [List.replicate_succ, List.foldl_cons, ih, Array.size_append, Nat.succ_mul]; omega
    have htake : sizeOk (.seq ((List.replicate k.toNat items).foldl (· ++ ·) #[])) := by
      show ((List.replicate k.toNat items).foldl (· ++ ·) #[]).size ≤ sizeLine
      rw [hsz2, Nat.mul_comm]
      simpa using hsz
    wp_walk
    rw [if_neg c1]
    show wpAny _ _ (Builtin.Tuple.tupleItemsOf (.ref l) >>= _) _ _ _
    refine wpAny_bind (tupleItemsOf_ ⟨_, hl, rfl, n, rfl⟩ ?_)
    dsimp only
    rw [if_neg c2, if_neg c3]
    rw [if_neg c4, if_neg c5]
    exact wpAny_bind (m := Builtin.Tuple.tupleExact _) (wpAny_newObj_type (wpAny_pure ⟨_, rfl, h⟩) htake)
def rMulT (K : PySem.W.Frag) : R2 := fun x y H Q => ∃ a xs k, x = .ref a ∧ y = .int k ∧ SqT K H a xs ∧ xs ≠ [] ∧ 2 ≤ k ∧ k < 2 ^ 62 ∧ xs.length * k.toNat ≤ sizeLine ∧ ∀ p, H p = none → Q (.ref p) (upd H p (.tup (List.replicate k.toNat xs).flatten))
theorem op_mulT : OpR X (binaryOp .Mult) (rMulT X.K) := by
  intro pins s σ H x y v u Q I rx ry h
  obtain ⟨a, xs, k, rfl, rfl, ha, hx, h2, h3, hz, q⟩ := h
  cases rx
  obtain ⟨t, rfl⟩ := ry
  obtain ⟨its, r1, p1, _⟩ := I.tuple ha
  obtain ⟨⟨cls, dd, data, sl⟩, ho, hc, n, hd⟩ := id p1
  simp only at hc hd
  subst hc hd
  have hl := r1.length
  have he : its.toArray.isEmpty = false := by
    cases its with
    | nil => exact absurd (r1.nil_iff.mp rfl) hx
    | cons a b => rfl
  have hlen : its.toArray.size * k.toNat ≤ sizeLine := by rw [List.size_toArray, ← hl]; exact hz
  have hnew : (List.replicate k.toNat its.toArray).foldl (· ++ ·) #[] = (List.replicate k.toNat its).flatten.toArray := by
    have := foldl_rep its k.toNat []
    rw [List.nil_append] at this
    exact this
  refine wpAny_binaryOp_repeat_ref (T := "tuple") (U := "int") (by decide) ⟨_, ho, rfl⟩ (fun s' => typeIs_int s' k t) noFill_tup_mul F.fills_int_mul F.slot_int_rmul repeat_tup F.slot_int_index.lookup
    (call_meets F.slot_int_rmul (typeIs_int s k t) F.entry_int_rmul (F.args_int_rmul_2 _ _) (rmul_int_tup k t a its.toArray n dd sl)
      ⟨ho, rfl, ⟨_, ho, rfl⟩, call_meets F.slot_tuple_mul ⟨_, ho, rfl⟩ F.entry_tuple_mul (F.args_tuple_mul_2 _ _) (tup_mulW a its.toArray n dd sl k t h2 h3 he hlen) ⟨ho, ?_⟩⟩)
  rw [hnew]
  refine ⟨.ref s.heap.objs.size, _, I.laid (t' := s.toks) (o := .tup (List.replicate k.toNat xs).flatten) (fun b ob q => Heap.get?_push_of_some _ q) (Nat.le_refl _) ?_, rfl, q _ (I.hok.fresh (Nat.le_refl _))⟩
  exact ⟨by rw [len_rep, Nat.mul_comm]; exact hz, _, r1.rep k.toNat, IsTup.new _ _⟩
end
end L2
namespace DL
open PySem PySem.Spec PyProof.Rows L2
/-! ### equality of data -/
mutual
theorem deq_refl : ∀ (d : D) (n : Nat), lean d n = true → deq d d = true
  | .non, _, _ => by unfold deq; rfl
  | .bl b, _, _ => by unfold deq; simp
  | .int b, _, _ => by unfold deq; simp
  | .str b, _, _ => by unfold deq; simp
  | .tup ds, 0, h => by unfold lean at h; cases h
  | .tup ds, n + 1, h => by unfold lean at h; unfold deq; exact deqs_refl ds n h
  | .lst ds, 0, h => by unfold lean at h; cases h
  | .lst ds, n + 1, h => by unfold lean at h; unfold deq; exact deqs_refl ds n h
  | .dct _ _, n, h => by unfold lean at h; cases h
theorem deqs_refl : ∀ (ds : List D) (n : Nat), leans ds n = true → deqs ds ds = true
  | [], _, _ => by unfold deqs; rfl
  | d :: ds, n, h => by
    unfold leans at h
    rw [Bool.and_eq_true] at h
    unfold deqs
    rw [deq_refl d n h.1, deqs_refl ds n h.2]
    rfl
end
theorem deqs_range : ∀ ds es : List D, deqs ds es = ((List.range (min ds.length es.length)).all (fun j => deq (ds.getD j .non) (es.getD j .non)) && ds.length == es.length)
  | [], [] => by unfold deqs; simp
  | [], _ :: _ => by unfold deqs; simp
  | _ :: _, [] => by unfold deqs; simp
  | d :: ds, e :: es => by
    unfold deqs
    rw [deqs_range ds es]
    have h1 : min (d :: ds).length (e :: es).length = min ds.length es.length + 1 := by simp only [List.length_cons]; omega
    rw [h1, List.range_succ_eq_map, List.all_cons, List.all_map]
    have h2 : ((d :: ds).length == (e :: es).length) = (ds.length == es.length) := by
      rw [Bool.eq_iff_iff]
      simp
    rw [h2, Bool.and_assoc]
    rfl
theorem leans_get : ∀ {ds : List D} {n j : Nat} {d : D}, leans ds n = true → ds[j]? = some d → lean d n = true
  | [], _, _, _, _, h => by simp at h
  | d :: ds, n, 0, _, h, e => by
    unfold leans at h
    rw [Bool.and_eq_true] at h
    simp at e; subst e; exact h.1
  | d :: ds, n, j + 1, _, h, e => by
    unfold leans at h
    rw [Bool.and_eq_true] at h
    exact leans_get (j := j) h.2 (by simpa using e)
section
variable {X : Cx} {pins : List (Addr × Obj)} {σ : St} {H : Hp} {s : Shared}
mutual
theorem Rp.inj (I : Inv X pins σ H s) {B B' : BS} : ∀ {d e : D} {n m : Nat} {v : V}, lean d n = true → lean e m = true → Rp X.K H B d v → Rp X.K H B' e v → d = e
  | .non, e, _, m, v, _, le, h, h' => by
    rw [rp_non] at h; subst h
    cases e with
    | non => rfl
    | bl b => rw [rp_bl] at h'; cases h'
    | int b => rw [rp_int] at h'; cases h'
    | str b => rw [rp_str] at h'; cases h'
    | tup b => rw [rp_tup] at h'; obtain ⟨_, _, z, _⟩ := h'; cases z
    | lst b => rw [rp_lst] at h'; obtain ⟨_, _, z, _⟩ := h'; cases z
    | dct a b => unfold lean at le; cases le
  | .bl c, e, _, m, v, _, le, h, h' => by
    rw [rp_bl] at h; subst h
    cases e with
    | non => rw [rp_non] at h'; cases h'
    | bl b => rw [rp_bl] at h'; cases h'; rfl
    | int b => rw [rp_int] at h'; cases h'
    | str b => rw [rp_str] at h'; cases h'
    | tup b => rw [rp_tup] at h'; obtain ⟨_, _, z, _⟩ := h'; cases z
    | lst b => rw [rp_lst] at h'; obtain ⟨_, _, z, _⟩ := h'; cases z
    | dct a b => unfold lean at le; cases le
  | .int c, e, _, m, v, _, le, h, h' => by
    rw [rp_int] at h; subst h
    cases e with
    | non => rw [rp_non] at h'; cases h'
    | bl b => rw [rp_bl] at h'; cases h'
    | int b => rw [rp_int] at h'; cases h'; rfl
    | str b => rw [rp_str] at h'; cases h'
    | tup b => rw [rp_tup] at h'; obtain ⟨_, _, z, _⟩ := h'; cases z
    | lst b => rw [rp_lst] at h'; obtain ⟨_, _, z, _⟩ := h'; cases z
    | dct a b => unfold lean at le; cases le
  | .str c, e, _, m, v, _, le, h, h' => by
    rw [rp_str] at h; subst h
    cases e with
    | non => rw [rp_non] at h'; cases h'
    | bl b => rw [rp_bl] at h'; cases h'
    | int b => rw [rp_int] at h'; cases h'
    | str b => rw [rp_str] at h'; cases h'; rfl
    | tup b => rw [rp_tup] at h'; obtain ⟨_, _, z, _⟩ := h'; cases z
    | lst b => rw [rp_lst] at h'; obtain ⟨_, _, z, _⟩ := h'; cases z
    | dct a b => unfold lean at le; cases le
  | .tup ds, e, 0, m, v, ld, _, _, _ => by unfold lean at ld; cases ld
  | .tup ds, e, n + 1, m, v, ld, le, h, h' => by
    rw [rp_tup] at h
    obtain ⟨a, xs, rfl, q, r⟩ := h
    unfold lean at ld
    cases e with
    | non => rw [rp_non] at h'; cases h'
    | bl b => rw [rp_bl] at h'; cases h'
    | int b => rw [rp_int] at h'; cases h'
    | str b => rw [rp_str] at h'; cases h'
    | tup es =>
      cases m with
      | zero => unfold lean at le; cases le
      | succ m =>
        unfold lean at le
        rw [rp_tup] at h'
        obtain ⟨a', ys, z, q', r'⟩ := h'
        cases z
        have := I.tuple_inj q.to q'.to
        subst this
        rw [Rps.inj I ld le r r']
    | lst es =>
      rw [rp_lst] at h'
      obtain ⟨a', ys, z, q', r'⟩ := h'
      cases z
      obtain ⟨_, _, ⟨o, e1, c1, _⟩, _⟩ := I.tuple q.to
      obtain ⟨_, _, p, _⟩ := I.list q'.to
      obtain ⟨o', e2, c2, _⟩ := p.isList
      rw [e1] at e2; cases e2
      rw [c1] at c2
      injection c2 with z
      exact absurd z (by decide)
    | dct a b => unfold lean at le; cases le
  | .lst ds, e, 0, m, v, ld, _, _, _ => by unfold lean at ld; cases ld
  | .lst ds, e, n + 1, m, v, ld, le, h, h' => by
    rw [rp_lst] at h
    obtain ⟨a, xs, rfl, q, r⟩ := h
    unfold lean at ld
    cases e with
    | non => rw [rp_non] at h'; cases h'
    | bl b => rw [rp_bl] at h'; cases h'
    | int b => rw [rp_int] at h'; cases h'
    | str b => rw [rp_str] at h'; cases h'
    | lst es =>
      cases m with
      | zero => unfold lean at le; cases le
      | succ m =>
        unfold lean at le
        rw [rp_lst] at h'
        obtain ⟨a', ys, z, q', r'⟩ := h'
        cases z
        have := I.list_inj q.to q'.to
        subst this
        rw [Rps.inj I ld le r r']
    | tup es =>
      rw [rp_tup] at h'
      obtain ⟨a', ys, z, q', r'⟩ := h'
      cases z
      obtain ⟨_, _, ⟨o, e1, c1, _⟩, _⟩ := I.tuple q'.to
      obtain ⟨_, _, p, _⟩ := I.list q.to
      obtain ⟨o', e2, c2, _⟩ := p.isList
      rw [e1] at e2; cases e2
      rw [c1] at c2
      injection c2 with z
      exact absurd z (by decide)
    | dct a b => unfold lean at le; cases le
  | .dct a b, e, n, m, v, ld, _, _, _ => by unfold lean at ld; cases ld
theorem Rps.inj (I : Inv X pins σ H s) {B B' : BS} : ∀ {ds es : List D} {n m : Nat} {xs : List V}, leans ds n = true → leans es m = true → Rps X.K H B ds xs → Rps X.K H B' es xs → ds = es
  | [], es, _, _, _, _, _, h, h' => by
    rw [rps_nil] at h; subst h
    have := h'.length
    cases es with
    | nil => rfl
    | cons a b => simp at this
  | d :: ds, es, n, m, _, ld, le, h, h' => by
    rw [rps_cons] at h
    obtain ⟨x, r, rfl, h1, h2⟩ := h
    cases es with
    | nil => rw [rps_nil] at h'; cases h'
    | cons e es =>
      rw [rps_cons] at h'
      obtain ⟨x', r', z, h1', h2'⟩ := h'
      cases z
      unfold leans at ld le
      rw [Bool.and_eq_true] at ld le
      rw [Rp.inj I ld.1 le.1 h1 h1', Rps.inj I ld.2 le.2 h2 h2']
end
/-- what stands behind data -/
theorem view (I : Inv X pins σ H s) {B : BS} {d : D} {n : Nat} {x : V} {u : Value} (l : lean d n = true) (h : Rp X.K H B d x) (r : RelV x u) :
    (d = .non ∧ u = .none) ∨ (∃ b, d = .bl b ∧ u = .bool b) ∨ (∃ i t, d = .int i ∧ u = .int i t) ∨ (∃ z t, d = .str z ∧ u = .str z t) ∨
    (∃ m ds a xs its, n = m + 1 ∧ leans ds m = true ∧ d = .tup ds ∧ x = .ref a ∧ u = .ref a ∧ Rps X.K H B ds xs ∧ Vals xs its ∧ s.heap.IsTuple a its.toArray) ∨
    (∃ m ds a xs its, n = m + 1 ∧ leans ds m = true ∧ d = .lst ds ∧ x = .ref a ∧ u = .ref a ∧ Rps X.K H B ds xs ∧ Vals xs its ∧ s.heap.IsList a its.toArray) := by
  cases d with
  | non => rw [rp_non] at h; subst h; exact .inl ⟨rfl, r⟩
  | bl b => rw [rp_bl] at h; subst h; exact .inr (.inl ⟨b, rfl, r⟩)
  | int i => rw [rp_int] at h; subst h; obtain ⟨t, e⟩ := r; exact .inr (.inr (.inl ⟨i, t, rfl, e⟩))
  | str z => rw [rp_str] at h; subst h; obtain ⟨t, e⟩ := r; exact .inr (.inr (.inr (.inl ⟨z, t, rfl, e⟩)))
  | tup ds =>
    cases n with
    | zero => unfold lean at l; cases l
    | succ m =>
      unfold lean at l
      rw [rp_tup] at h
      obtain ⟨a, xs, rfl, q, rr⟩ := h
      obtain ⟨its, rv, p, _⟩ := I.tuple q.to
      exact .inr (.inr (.inr (.inr (.inl ⟨m, ds, a, xs, its, rfl, l, rfl, rfl, r, rr, rv, p⟩))))
  | lst ds =>
    cases n with
    | zero => unfold lean at l; cases l
    | succ m =>
      unfold lean at l
      rw [rp_lst] at h
      obtain ⟨a, xs, rfl, q, rr⟩ := h
      obtain ⟨its, rv, p, _⟩ := I.list q.to
      exact .inr (.inr (.inr (.inr (.inr ⟨m, ds, a, xs, its, rfl, l, rfl, rfl, r, rr, rv, p.isList⟩))))
  | dct a b => unfold lean at l; cases l
theorem in1_units {A : Around} : A.in1.units = A.units + 1 := rfl
/-- the items' answers, of two rows of data -/
theorem items_eq {ds es : List D} {xs ys : List V} {us ws : List Value} {n m : Nat} {B B' : BS} {A : Around} (ld : leans ds n = true) (le : leans es m = true) (r1 : Rps X.K H B ds xs) (r2 : Rps X.K H B' es ys) (v1 : Vals xs us) (v2 : Vals ys ws)
    (ih : ∀ d e x y u w, lean d n = true → lean e m = true → Rp X.K H B d x → Rp X.K H B' e y → RelV x u → RelV y w → SeqAt.EqAt A s u w (deq d e)) :
    ∀ j (h1 : j < us.toArray.size) (h2 : j < ws.toArray.size), SeqAt.EqAt A s us.toArray[j] ws.toArray[j] (deq (ds.getD j .non) (es.getD j .non)) := by
  intro j h1 h2
  have l1 : j < ds.length := by rw [← r1.length, v1.length]; simpa using h1
  have l2 : j < es.length := by rw [← r2.length, v2.length]; simpa using h2
  obtain ⟨x, ex, rx⟩ := r1.get (List.getElem?_eq_getElem l1)
  obtain ⟨y, ey, ry⟩ := r2.get (List.getElem?_eq_getElem l2)
  obtain ⟨u, eu, ru⟩ := v1.get ex
  obtain ⟨w, ew, rw'⟩ := v2.get ey
  have hu : us.toArray[j] = u := by
    have : us[j]? = some u := eu
    simp at h1
    rw [List.getElem?_eq_getElem h1] at this
    simpa using Option.some.inj this
  have hw : ws.toArray[j] = w := by
    have : ws[j]? = some w := ew
    simp at h2
    rw [List.getElem?_eq_getElem h2] at this
    simpa using Option.some.inj this
  rw [hu, hw]
  have e1 : ds.getD j .non = ds[j] := by simp [List.getD_eq_getElem?_getD, l1]
  have e2 : es.getD j .non = es[j] := by simp [List.getD_eq_getElem?_getD, l2]
  rw [e1, e2]
  exact ih _ _ _ _ _ _ (leans_get ld (List.getElem?_eq_getElem l1)) (leans_get le (List.getElem?_eq_getElem l2)) rx ry ru rw'
set_option maxHeartbeats 0 in
theorem eqAt_D (I : Inv X pins σ H s) {B B' : BS} : ∀ (n m : Nat) (d e : D) (x y : V) (u w : Value) (A : Around), A.units + n < cLine → lean d n = true → lean e m = true → Rp X.K H B d x → Rp X.K H B' e y → RelV x u → RelV y w → SeqAt.EqAt A s u w (deq d e) := by
  intro n
  induction n with
  | zero =>
    intro m d e x y u w A hu ld le hx hy rx ry
    have hu' : A.units < cLine := by omega
    rcases view I ld hx rx with ⟨rfl, rfl⟩ | ⟨b, rfl, rfl⟩ | ⟨i, t, rfl, rfl⟩ | ⟨z, t, rfl, rfl⟩ | ⟨n', _, _, _, _, hn, _⟩ | ⟨n', _, _, _, _, hn, _⟩ <;> (try (exact absurd hn (by omega))) <;>
    rcases view I le hy ry with ⟨rfl, rfl⟩ | ⟨b', rfl, rfl⟩ | ⟨i', t', rfl, rfl⟩ | ⟨z', t', rfl, rfl⟩ | ⟨m', es, a', ys, its', rfl, le', rfl, rfl, rfl, rr', rv', p'⟩ | ⟨m', es, a', ys, its', rfl, le', rfl, rfl, rfl, rr', rv', p'⟩ <;>
    unfold deq <;>
    first
    | with_reducible exact SeqAt.EqAt.same _ | with_reducible exact SeqAt.EqAt.bool_bool _ _ | with_reducible exact SeqAt.EqAt.int_int _ _ _ _ | with_reducible exact SeqAt.EqAt.str_str _ _ _ _ | with_reducible exact SeqAt.EqAt.bool_int _ _ _ | with_reducible exact SeqAt.EqAt.int_bool _ _ _
    | with_reducible exact SeqAt.EqAt.none_bool _ | with_reducible exact SeqAt.EqAt.none_int _ _ | with_reducible exact SeqAt.EqAt.none_str _ _ | with_reducible exact SeqAt.EqAt.bool_none _ | with_reducible exact SeqAt.EqAt.bool_str _ _ _ | with_reducible exact SeqAt.EqAt.int_none _ _ | with_reducible exact SeqAt.EqAt.int_str _ _ _ _
    | with_reducible exact SeqAt.EqAt.str_none _ _ | with_reducible exact SeqAt.EqAt.str_bool _ _ _ | with_reducible exact SeqAt.EqAt.str_int _ _ _ _
    | with_reducible exact SeqAt.EqAt.none_list p' hu' | with_reducible exact SeqAt.EqAt.bool_list _ p' hu' | with_reducible exact SeqAt.EqAt.int_list _ _ p' hu' | with_reducible exact SeqAt.EqAt.str_list _ _ p' hu'
    | with_reducible exact SeqAt.EqAt.none_tuple p' hu' | with_reducible exact SeqAt.EqAt.bool_tuple _ p' hu' | with_reducible exact SeqAt.EqAt.int_tuple _ _ p' hu' | with_reducible exact SeqAt.EqAt.str_tuple _ _ p' hu'
  | succ n ih =>
    intro m d e x y u w A hu ld le hx hy rx ry
    have hu' : A.units < cLine := by omega
    have hin : A.in1.units + n < cLine := by rw [in1_units]; omega
    rcases view I ld hx rx with ⟨rfl, rfl⟩ | ⟨b, rfl, rfl⟩ | ⟨i, t, rfl, rfl⟩ | ⟨z, t, rfl, rfl⟩ | ⟨n', ds, a, xs, its, hn, ld', rfl, rfl, rfl, rr, rv, p⟩ | ⟨n', ds, a, xs, its, hn, ld', rfl, rfl, rfl, rr, rv, p⟩ <;>
    rcases view I le hy ry with ⟨rfl, rfl⟩ | ⟨b', rfl, rfl⟩ | ⟨i', t', rfl, rfl⟩ | ⟨z', t', rfl, rfl⟩ | ⟨m', es, a', ys, its', rfl, le', rfl, rfl, rfl, rr', rv', p'⟩ | ⟨m', es, a', ys, its', rfl, le', rfl, rfl, rfl, rr', rv', p'⟩
    case inr.inr.inr.inr.inl.inr.inr.inr.inr.inl =>
      cases hn
      by_cases hab : a = a'
      · subst hab
        have e : D.tup ds = D.tup es := Rp.inj I ld le hx hy
        rw [← e, deq_refl _ _ ld]
        exact SeqAt.EqAt.same _
      · refine SeqAt.EqAt.of_refs hab ?_
        have := SeqAt.RcAt.tuples (e := fun j => deq (ds.getD j .non) (es.getD j .non)) p p' hu' (items_eq ld' le' rr rr' rv rv' fun d e x y u w h1 h2 h3 h4 h5 h6 => ih m' d e x y u w A.in1 hin h1 h2 h3 h4 h5 h6)
        unfold deq
        rw [deqs_range]
        simpa [← rv.length, ← rv'.length, rr.length, rr'.length] using this
    case inr.inr.inr.inr.inr.inr.inr.inr.inr.inr =>
      cases hn
      by_cases hab : a = a'
      · subst hab
        have e : D.lst ds = D.lst es := Rp.inj I ld le hx hy
        rw [← e, deq_refl _ _ ld]
        exact SeqAt.EqAt.same _
      · refine SeqAt.EqAt.of_refs hab ?_
        have s1 : its.toArray.size = ds.length := by rw [List.size_toArray, ← rv.length, rr.length]
        have s2 : its'.toArray.size = es.length := by rw [List.size_toArray, ← rv'.length, rr'.length]
        unfold deq
        rw [deqs_range]
        by_cases hl : ds.length = es.length
        · have := SeqAt.RcAt.lists (e := fun j => deq (ds.getD j .non) (es.getD j .non)) p p' (by rw [s1, s2, hl]) hu' (items_eq ld' le' rr rr' rv rv' fun d e x y u w h1 h2 h3 h4 h5 h6 => ih m' d e x y u w A.in1 hin h1 h2 h3 h4 h5 h6)
          rw [s1] at this
          rw [hl] at this ⊢
          simpa using this
        · have := SeqAt.RcAt.lists_lengths (A := A) p p' (by rw [s1, s2]; simpa using hl) hu'
          rw [beq_eq_false_iff_ne.mpr hl, Bool.and_false]
          exact this
    all_goals
      unfold deq
      first
      | with_reducible exact SeqAt.EqAt.same _ | with_reducible exact SeqAt.EqAt.bool_bool _ _ | with_reducible exact SeqAt.EqAt.int_int _ _ _ _ | with_reducible exact SeqAt.EqAt.str_str _ _ _ _ | with_reducible exact SeqAt.EqAt.bool_int _ _ _ | with_reducible exact SeqAt.EqAt.int_bool _ _ _
      | with_reducible exact SeqAt.EqAt.none_bool _ | with_reducible exact SeqAt.EqAt.none_int _ _ | with_reducible exact SeqAt.EqAt.none_str _ _ | with_reducible exact SeqAt.EqAt.bool_none _ | with_reducible exact SeqAt.EqAt.bool_str _ _ _ | with_reducible exact SeqAt.EqAt.int_none _ _ | with_reducible exact SeqAt.EqAt.int_str _ _ _ _
      | with_reducible exact SeqAt.EqAt.str_none _ _ | with_reducible exact SeqAt.EqAt.str_bool _ _ _ | with_reducible exact SeqAt.EqAt.str_int _ _ _ _
      | with_reducible exact SeqAt.EqAt.none_list p' hu' | with_reducible exact SeqAt.EqAt.bool_list _ p' hu' | with_reducible exact SeqAt.EqAt.int_list _ _ p' hu' | with_reducible exact SeqAt.EqAt.str_list _ _ p' hu'
      | with_reducible exact SeqAt.EqAt.none_tuple p' hu' | with_reducible exact SeqAt.EqAt.bool_tuple _ p' hu' | with_reducible exact SeqAt.EqAt.int_tuple _ _ p' hu' | with_reducible exact SeqAt.EqAt.str_tuple _ _ p' hu'
      | with_reducible exact SeqAt.EqAt.list_none p hu' | with_reducible exact SeqAt.EqAt.list_bool _ p hu' | with_reducible exact SeqAt.EqAt.list_int _ _ p hu' | with_reducible exact SeqAt.EqAt.list_str _ _ p hu'
      | with_reducible exact SeqAt.EqAt.tuple_none p hu' | with_reducible exact SeqAt.EqAt.tuple_bool _ p hu' | with_reducible exact SeqAt.EqAt.tuple_int _ _ p hu' | with_reducible exact SeqAt.EqAt.tuple_str _ _ p hu'
      | with_reducible exact SeqAt.EqAt.list_tuple p p' hu' | with_reducible exact SeqAt.EqAt.tuple_list p p' hu'
end
end DL
namespace DL
open PySem PySem.Spec PyProof.Rows L2
section
variable {X : Cx} {pins : List (Addr × Obj)} {σ : St} {H : Hp} {s : Shared}
set_option maxHeartbeats 0 in
theorem rcAt_D (I : Inv X pins σ H s) {B B' : BS} (n m : Nat) (d e : D) (x y : V) (u w : Value) (A : Around) (hu : A.units + n < cLine) (ld : lean d n = true) (le : lean e m = true) (hx : Rp X.K H B d x) (hy : Rp X.K H B' e y) (rx : RelV x u) (ry : RelV y w) :
    SeqAt.RcAt A s u w (deq d e) ∧ SeqAt.RcNeAt A s u w (!deq d e) := by
  have hu' : A.units < cLine := by omega
  rcases view I ld hx rx with ⟨rfl, rfl⟩ | ⟨b, rfl, rfl⟩ | ⟨i, t, rfl, rfl⟩ | ⟨z, t, rfl, rfl⟩ | ⟨n', ds, a, xs, its, hn, ld', rfl, rfl, rfl, rr, rv, p⟩ | ⟨n', ds, a, xs, its, hn, ld', rfl, rfl, rfl, rr, rv, p⟩ <;>
  rcases view I le hy ry with ⟨rfl, rfl⟩ | ⟨b', rfl, rfl⟩ | ⟨i', t', rfl, rfl⟩ | ⟨z', t', rfl, rfl⟩ | ⟨m', es, a', ys, its', rfl, le', rfl, rfl, rfl, rr', rv', p'⟩ | ⟨m', es, a', ys, its', rfl, le', rfl, rfl, rfl, rr', rv', p'⟩
  case inr.inr.inr.inr.inl.inr.inr.inr.inr.inl =>
    subst hn
    have hin : A.in1.units + n' < cLine := by rw [in1_units]; omega
    have hit := items_eq (A := A.in1) ld' le' rr rr' rv rv' fun d e x y u w h1 h2 h3 h4 h5 h6 => eqAt_D I n' m' d e x y u w A.in1 hin h1 h2 h3 h4 h5 h6
    have q1 := SeqAt.RcAt.tuples (e := fun j => deq (ds.getD j .non) (es.getD j .non)) p p' hu' hit
    have q2 := SeqAt.RcNeAt.tuples (e := fun j => deq (ds.getD j .non) (es.getD j .non)) p p' hu' hit
    unfold deq
    rw [deqs_range]
    have s1 : its.toArray.size = ds.length := by rw [List.size_toArray, ← rv.length, rr.length]
    have s2 : its'.toArray.size = es.length := by rw [List.size_toArray, ← rv'.length, rr'.length]
    rw [s1, s2] at q1 q2
    exact ⟨q1, q2⟩
  case inr.inr.inr.inr.inr.inr.inr.inr.inr.inr =>
    subst hn
    have hin : A.in1.units + n' < cLine := by rw [in1_units]; omega
    have hit := items_eq (A := A.in1) ld' le' rr rr' rv rv' fun d e x y u w h1 h2 h3 h4 h5 h6 => eqAt_D I n' m' d e x y u w A.in1 hin h1 h2 h3 h4 h5 h6
    have s1 : its.toArray.size = ds.length := by rw [List.size_toArray, ← rv.length, rr.length]
    have s2 : its'.toArray.size = es.length := by rw [List.size_toArray, ← rv'.length, rr'.length]
    unfold deq
    rw [deqs_range]
    by_cases hl : ds.length = es.length
    · have q1 := SeqAt.RcAt.lists (e := fun j => deq (ds.getD j .non) (es.getD j .non)) p p' (by rw [s1, s2, hl]) hu' hit
      have q2 := SeqAt.RcNeAt.lists (e := fun j => deq (ds.getD j .non) (es.getD j .non)) p p' (by rw [s1, s2, hl]) hu' hit
      rw [s1] at q1 q2
      rw [hl] at q1 q2 ⊢
      simp only [Nat.min_self, beq_self_eq_true, Bool.and_true]
      exact ⟨q1, q2⟩
    · have q1 := SeqAt.RcAt.lists_lengths (A := A) p p' (by rw [s1, s2]; simpa using hl) hu'
      have q2 := SeqAt.RcNeAt.lists_lengths (A := A) p p' (by rw [s1, s2]; simpa using hl) hu'
      rw [beq_eq_false_iff_ne.mpr hl, Bool.and_false]
      exact ⟨q1, q2⟩
  all_goals
    unfold deq
    constructor
    · first
      | with_reducible exact SeqAt.RcAt.none_none | with_reducible exact SeqAt.RcAt.bool_bool _ _ | with_reducible exact SeqAt.RcAt.int_int _ _ _ _ | with_reducible exact SeqAt.RcAt.str_str _ _ _ _ | with_reducible exact SeqAt.RcAt.bool_int _ _ _ | with_reducible exact SeqAt.RcAt.int_bool _ _ _
      | with_reducible exact SeqAt.RcAt.none_bool _ | with_reducible exact SeqAt.RcAt.none_int _ _ | with_reducible exact SeqAt.RcAt.none_str _ _ | with_reducible exact SeqAt.RcAt.bool_none _ | with_reducible exact SeqAt.RcAt.bool_str _ _ _ | with_reducible exact SeqAt.RcAt.int_none _ _ | with_reducible exact SeqAt.RcAt.int_str _ _ _ _
      | with_reducible exact SeqAt.RcAt.str_none _ _ | with_reducible exact SeqAt.RcAt.str_bool _ _ _ | with_reducible exact SeqAt.RcAt.str_int _ _ _ _
      | with_reducible exact SeqAt.RcAt.none_list p' hu' | with_reducible exact SeqAt.RcAt.bool_list _ p' hu' | with_reducible exact SeqAt.RcAt.int_list _ _ p' hu' | with_reducible exact SeqAt.RcAt.str_list _ _ p' hu'
      | with_reducible exact SeqAt.RcAt.none_tuple p' hu' | with_reducible exact SeqAt.RcAt.bool_tuple _ p' hu' | with_reducible exact SeqAt.RcAt.int_tuple _ _ p' hu' | with_reducible exact SeqAt.RcAt.str_tuple _ _ p' hu'
      | with_reducible exact SeqAt.RcAt.list_none p hu' | with_reducible exact SeqAt.RcAt.list_bool _ p hu' | with_reducible exact SeqAt.RcAt.list_int _ _ p hu' | with_reducible exact SeqAt.RcAt.list_str _ _ p hu'
      | with_reducible exact SeqAt.RcAt.tuple_none p hu' | with_reducible exact SeqAt.RcAt.tuple_bool _ p hu' | with_reducible exact SeqAt.RcAt.tuple_int _ _ p hu' | with_reducible exact SeqAt.RcAt.tuple_str _ _ p hu'
      | with_reducible exact SeqAt.RcAt.list_tuple p p' hu' | with_reducible exact SeqAt.RcAt.tuple_list p p' hu'
    · try rw [Bool.not_false]
      try rw [Bool.not_true]
      first
      | with_reducible exact SeqAt.RcNeAt.none_none | with_reducible exact SeqAt.RcNeAt.bool_bool _ _ | with_reducible exact SeqAt.RcNeAt.int_int _ _ _ _ | with_reducible exact SeqAt.RcNeAt.str_str _ _ _ _ | with_reducible exact SeqAt.RcNeAt.bool_int _ _ _ | with_reducible exact SeqAt.RcNeAt.int_bool _ _ _
      | with_reducible exact SeqAt.RcNeAt.none_bool _ | with_reducible exact SeqAt.RcNeAt.none_int _ _ | with_reducible exact SeqAt.RcNeAt.none_str _ _ | with_reducible exact SeqAt.RcNeAt.bool_none _ | with_reducible exact SeqAt.RcNeAt.bool_str _ _ _ | with_reducible exact SeqAt.RcNeAt.int_none _ _ | with_reducible exact SeqAt.RcNeAt.int_str _ _ _ _
      | with_reducible exact SeqAt.RcNeAt.str_none _ _ | with_reducible exact SeqAt.RcNeAt.str_bool _ _ _ | with_reducible exact SeqAt.RcNeAt.str_int _ _ _ _
      | with_reducible exact SeqAt.RcNeAt.none_list p' hu' | with_reducible exact SeqAt.RcNeAt.bool_list _ p' hu' | with_reducible exact SeqAt.RcNeAt.int_list _ _ p' hu' | with_reducible exact SeqAt.RcNeAt.str_list _ _ p' hu'
      | with_reducible exact SeqAt.RcNeAt.none_tuple p' hu' | with_reducible exact SeqAt.RcNeAt.bool_tuple _ p' hu' | with_reducible exact SeqAt.RcNeAt.int_tuple _ _ p' hu' | with_reducible exact SeqAt.RcNeAt.str_tuple _ _ p' hu'
      | with_reducible exact SeqAt.RcNeAt.list_none p hu' | with_reducible exact SeqAt.RcNeAt.list_bool _ p hu' | with_reducible exact SeqAt.RcNeAt.list_int _ _ p hu' | with_reducible exact SeqAt.RcNeAt.list_str _ _ p hu'
      | with_reducible exact SeqAt.RcNeAt.tuple_none p hu' | with_reducible exact SeqAt.RcNeAt.tuple_bool _ p hu' | with_reducible exact SeqAt.RcNeAt.tuple_int _ _ p hu' | with_reducible exact SeqAt.RcNeAt.tuple_str _ _ p hu'
      | with_reducible exact SeqAt.RcNeAt.list_tuple p p' hu' | with_reducible exact SeqAt.RcNeAt.tuple_list p p' hu'
end
section
variable {X : Cx} {K : PySem.W.Frag} {e a b : Expr} {es : List Expr} {pos p : Pos} {g ga gb : Ds → Option D} {gA : Ds → Option (List D)}
def rEqX (K : PySem.W.Frag) (neg : Bool) : R2 := fun x y H Q => ∃ B B' dx dy, Rp K H B dx x ∧ Rp K H B' dy y ∧ lean dx 50 = true ∧ lean dy 50 = true ∧ Q (.bl (xor neg (deq dx dy))) H
theorem op_eqX (hu : X.A.units + 64 < cLine) : OpR X (compareOp .Eq) (rEqX X.K false) := by
  intro pins s σ H x y v u Q I rx ry h
  obtain ⟨B, B', dx, dy, hx, hy, lx, ly, q⟩ := h
  exact (rcAt_D I 50 50 dx dy x y v u X.A (by omega) lx ly hx hy rx ry).1 _ _ _ _ ⟨.bl _, H, I, rfl, by rw [Bool.false_xor] at q; exact q⟩
theorem op_neX (hu : X.A.units + 64 < cLine) : OpR X (compareOp .NotEq) (rEqX X.K true) := by
  intro pins s σ H x y v u Q I rx ry h
  obtain ⟨B, B', dx, dy, hx, hy, lx, ly, q⟩ := h
  exact (rcAt_D I 50 50 dx dy x y v u X.A (by omega) lx ly hx hy rx ry).2 _ _ _ _ ⟨.bl _, H, I, rfl, by rw [Bool.true_xor] at q; exact q⟩
theorem op2_eqX : Op2 K (rEqX K false) eqDD := by
  intro H B x y dx dy d Q hb rx ry h k
  unfold eqDD at h
  split at h
  · rename_i hl
    cases h
    exact ⟨B, B, dx, dy, rx, ry, hl.1, hl.2, k _ H (Same.refl H) (by rw [rp_bl, Bool.false_xor])⟩
  · cases h
theorem op2_neX : Op2 K (rEqX K true) neDD := by
  intro H B x y dx dy d Q hb rx ry h k
  unfold neDD at h
  split at h
  · rename_i hl
    cases h
    exact ⟨B, B, dx, dy, rx, ry, hl.1, hl.2, k _ H (Same.refl H) (by rw [rp_bl, Bool.true_xor])⟩
  · cases h
/-! ### + and * and slices in full -/
theorem op2_addA : Op2 K (fun x y H Q => rI0 (fun i j => .int (i + j)) x y H Q ∨ (∃ i j, x = .str i ∧ y = .str j ∧ i.length + j.length ≤ sizeLine ∧ Q (.str (i ++ j)) H) ∨ rCatL K x y H Q ∨ rCatT K x y H Q ∨ rCatT0 K x y H Q) addA := by
  intro H B x y dx dy d Q hb rx ry h k
  cases dx <;> cases dy <;> simp only [addA] at h <;> try cases h
  · rw [rp_int] at rx ry
    subst rx ry
    exact .inl ⟨_, _, rfl, rfl, k _ H (Same.refl H) (by rw [rp_int])⟩
  · split at h
    · cases h
      rw [rp_str] at rx ry
      subst rx ry
      exact .inr (.inl ⟨_, _, rfl, rfl, by assumption, k _ H (Same.refl H) (by rw [rp_str])⟩)
    · cases h
  · split at h
    · rename_i hz
      cases h
      have ry0 := ry
      have rx0 := rx
      rw [rp_tup] at rx ry
      obtain ⟨a, xs, rfl, q1, r1⟩ := rx
      obtain ⟨b, ys, rfl, q2, r2⟩ := ry
      by_cases he : xs = []
      · subst he
        have e : ‹List D› = ‹List D› := rfl
        have hn := r1.length
        simp at hn
        have hn' := List.length_eq_zero_iff.mp hn.symm
        subst hn'
        exact .inr (.inr (.inr (.inr ⟨a, b, ys, rfl, rfl, q1.to, q2.to, k _ H (Same.refl H) (by rw [List.nil_append]; exact ry0)⟩)))
      · refine .inr (.inr (.inr (.inl ⟨a, b, xs, ys, rfl, rfl, q1.to, q2.to, he, by rw [r1.length, r2.length]; exact hz, fun z => ?_, fun z p hp => k _ _ (same_upd hp) (rp_newT hb hp (r1.append r2))⟩)))
        subst z
        have hn := r2.length
        simp at hn
        have hn' := List.length_eq_zero_iff.mp hn.symm
        subst hn'
        exact k _ H (Same.refl H) (by rw [List.append_nil]; exact rx0)
    · cases h
  · split at h
    · rename_i hz
      cases h
      rw [rp_lst] at rx ry
      obtain ⟨a, xs, rfl, q1, r1⟩ := rx
      obtain ⟨b, ys, rfl, q2, r2⟩ := ry
      exact .inr (.inr (.inl ⟨a, b, xs, ys, rfl, rfl, q1.to, q2.to, by rw [r1.length, r2.length]; exact hz, fun p hp => k _ _ (same_upd hp) (rp_newL hb hp (r1.append r2))⟩))
    · cases h
theorem pd_addA (ha : PD X a ga) (hb : PD X b gb) : PD X (.BinOp a .Add b pos) (o2 ga gb addA) := pd_op (op_add.or (op_add_str.or (op_catL.or (op_catT.or op_catT0)))) op2_addA ha hb
theorem rps_rep {H : Hp} {B : BS} {ds : List D} {xs : List V} (h : Rps K H B ds xs) : ∀ k : Nat, Rps K H B (List.replicate k ds).flatten (List.replicate k xs).flatten
  | 0 => by simp [rps_nil]
  | k + 1 => by
    rw [List.replicate_succ, List.replicate_succ, List.flatten_cons, List.flatten_cons]
    exact h.append (rps_rep h k)
theorem op2_mulA : Op2 K (fun x y H Q => rI CMul (fun i j => .int (i * j)) x y H Q ∨ rMulS x y H Q ∨ rMulT K x y H Q) mulA := by
  intro H B x y dx dy d Q hb rx ry h k
  cases dx <;> cases dy <;> simp only [mulA] at h <;> try cases h
  · split at h
    · cases h
      rw [rp_int] at rx ry
      subst rx ry
      exact .inl ⟨_, _, rfl, rfl, by assumption, k _ H (Same.refl H) (by rw [rp_int])⟩
    · cases h
  · split at h
    · rename_i hz
      cases h
      rw [rp_str] at rx
      rw [rp_int] at ry
      subst rx ry
      exact .inr (.inl ⟨_, _, rfl, rfl, hz.1, hz.2.1, hz.2.2, k _ H (Same.refl H) (by rw [rp_str]; rfl)⟩)
    · cases h
  · split at h
    · rename_i hz
      cases h
      rw [rp_tup] at rx
      rw [rp_int] at ry
      subst ry
      obtain ⟨a, xs, rfl, q1, r1⟩ := rx
      refine .inr (.inr ⟨a, xs, _, rfl, rfl, q1.to, fun z => hz.1 ?_, hz.2.1, hz.2.2.1, by rw [r1.length]; exact hz.2.2.2, fun p hp => k _ _ (same_upd hp) (rp_newT hb hp (rps_rep r1 _))⟩)
      subst z
      have hn := r1.length
      simp at hn
      exact List.length_eq_zero_iff.mp hn.symm
    · cases h
theorem pd_mulA (ha : PD X a ga) (hb : PD X b gb) : PD X (.BinOp a .Mult b pos) (o2 ga gb mulA) := pd_op (op_mul.or (op_mulS.or op_mulT)) op2_mulA ha hb
theorem cut_whole {xs : List D} {lo hi : Option Int} (h : sIx xs.length 0 lo = 0 ∧ sIx xs.length xs.length hi = xs.length) : cutD xs lo hi = xs := by
  unfold cutD
  rw [h.1, h.2]
  simp
theorem pd_sliceA {lo hi : Option Expr} {gl gh : Ds → Option (Option Int)} {p2 : Pos} (he : PD X e g) (hl : PDO X lo gl) (hh : PDO X hi gh) :
    PD X (.Subscript e (.Slice lo hi none p2) pos) (slAG g gl gh) := .mk fun B δ =>
  (pe_slice (sl_str.or (sl_list.or (sl_tup.or sl_tupW))) (he B δ) (hl B δ) (hh B δ)).imp fun σ H Q ⟨d, en, h, k⟩ => by
    unfold slAG at h
    cases e1 : g δ with
    | none => rw [e1] at h; cases h
    | some x =>
      cases e2 : gl δ with
      | none => rw [e1, e2] at h; cases h
      | some l =>
        cases e3 : gh δ with
        | none => rw [e1, e2, e3] at h; cases h
        | some u =>
          rw [e1, e2, e3] at h
          simp only [Option.bind_some] at h
          refine ⟨x, en, e1, fun v H1 s1 r1 => ⟨l, en.same s1, (by first | exact e2 | rfl), fun H2 s2 => ⟨u, (en.same s1).same s2, (by first | exact e3 | rfl), fun H3 s3 => ?_⟩⟩⟩
          have S := (s1.trans s2).trans s3
          have r3 := (r1.same s2).same s3
          have hb := (((en.same s1).same s2).same s3).bad
          cases x <;> simp only [slA] at h <;> try cases h
          · split at h
            · cases h
              rw [rp_str] at r3
              exact .inl ⟨_, r3, by assumption, k _ H3 S (by rw [rp_str])⟩
            · cases h
          · have r4 := r3
            rw [rp_tup] at r3
            obtain ⟨a, xs, rfl, q, r⟩ := r3
            rename_i dxs
            by_cases hw : sIx dxs.length 0 l = 0 ∧ sIx dxs.length dxs.length u = dxs.length
            · refine .inr (.inr (.inr ⟨a, xs, rfl, q.to, by rw [r.length, sIx_eq, sIx_eq]; exact hw, k _ _ S ?_⟩))
              rw [cut_whole hw]
              exact r4
            · exact .inr (.inr (.inl ⟨a, xs, rfl, q.to, by rw [r.length, sIx_eq, sIx_eq]; exact hw, fun p hp => k _ _ (S.trans (same_upd hp)) (rp_newT hb hp (cut_rel r l u))⟩))
          · rw [rp_lst] at r3
            obtain ⟨a, xs, rfl, q, r⟩ := r3
            exact .inr (.inl ⟨a, xs, rfl, q.to, fun p hp => k _ _ (S.trans (same_upd hp)) (rp_newL hb hp (cut_rel r l u))⟩)
/-! ### more functions -/
theorem rps_two {H : Hp} {B : BS} {d d' : D} {xs : List V} (h : Rps K H B [d, d'] xs) : ∃ v v', xs = [v, v'] ∧ Rp K H B d v ∧ Rp K H B d' v' := by
  rw [rps_cons] at h
  obtain ⟨x, r, rfl, h1, h2⟩ := h
  obtain ⟨y, rfl, h3⟩ := rps_one h2
  exact ⟨x, y, rfl, h1, h3⟩
theorem fn_min : FnR K (fun xs H Q => ∃ i j, xs = [.int i, .int j] ∧ Q (.int (if j < i then j else i)) H) minD := by
  intro H B xs ds d Q hb r h k
  unfold minD at h
  split at h
  · cases h
    obtain ⟨v, v', rfl, r1, r2⟩ := rps_two r
    rw [rp_int] at r1 r2
    subst r1 r2
    exact ⟨_, _, rfl, k _ H (Same.refl H) (by rw [rp_int])⟩
  · cases h
theorem fn_list : FnR K (fun xs H Q => ∃ p ys, xs = [.ref p] ∧ (SqL K H p ys ∨ SqT K H p ys) ∧ ∀ l, H l = none → Q (.ref l) (upd H l (.lst ys))) lstOfD := by
  intro H B xs ds d Q hb r h k
  unfold lstOfD at h
  split at h
  · cases h
    obtain ⟨v, rfl, r1⟩ := rps_one r
    rw [rp_lst] at r1
    obtain ⟨a, ys, rfl, q, rr⟩ := r1
    exact ⟨a, ys, rfl, .inl q.to, fun l hl => k _ _ (same_upd hl) (rp_newL hb hl rr)⟩
  · cases h
    obtain ⟨v, rfl, r1⟩ := rps_one r
    rw [rp_tup] at r1
    obtain ⟨a, ys, rfl, q, rr⟩ := r1
    exact ⟨a, ys, rfl, .inr q.to, fun l hl => k _ _ (same_upd hl) (rp_newL hb hl rr)⟩
  · cases h
end
end DL
/-! A set made of a list of texts, and its length. -/
namespace SetS
open PySem PySem.Spec PyProof.Rows DL
theorem onceS_succ (ys : List Str) (y : Str) : onceS (ys ++ [y]) = insS (onceS ys) y := by unfold onceS; rw [List.foldl_append]; rfl
theorem onceS_le : ∀ (n : Nat) (ys : List Str), ys.length = n → (onceS ys).length ≤ n
  | 0, ys, h => by have := List.length_eq_zero_iff.mp h; subst this; exact Nat.le_refl _
  | n + 1, ys, h => by
    have hne : ys ≠ [] := fun z => by subst z; simp at h
    rw [← List.dropLast_concat_getLast hne, onceS_succ]
    have ih := onceS_le n ys.dropLast (by rw [List.length_dropLast, h]; rfl)
    unfold insS
    split
    · omega
    · rw [List.length_append, List.length_singleton]; omega
theorem strs_get : ∀ {us : List Value} {ys : List Str} {i : Nat} {v : Value}, StrsAre us ys → us[i]? = some v → ∃ y t, ys[i]? = some y ∧ v = .str y t
  | _, _, _, _, .nil, h => by simp at h
  | _, _, 0, v, .cons y t r, h => by simp at h; exact ⟨y, t, rfl, h.symm⟩
  | _, _, i + 1, v, .cons y t r, h => by
    obtain ⟨y', t', e1, e2⟩ := strs_get (i := i) r (by simpa using h)
    exact ⟨y', t', by simpa using e1, e2⟩
/-- the members after i items -/
def memS (ys : List Str) (k : Str) : Bool := hasS (onceS ys) k
theorem mem_step (ys : List Str) (y k : Str) : memS (ys ++ [y]) k = (memS ys k || decide (k = y)) := by
  unfold memS
  rw [onceS_succ]
  unfold insS
  by_cases h : hasS (onceS ys) y = true
  · rw [if_pos h]
    by_cases e : k = y
    · subst e; rw [h]; simp
    · simp [e]
  · rw [if_neg h]
    unfold hasS
    rw [List.any_append]
    by_cases e : k = y
    · subst e; simp
    · have : ¬ y = k := fun z => e z.symm
      simp [e, this]
theorem len_step (ys : List Str) (y : Str) : (onceS (ys ++ [y])).length = if memS ys y = true then (onceS ys).length else (onceS ys).length + 1 := by
  rw [onceS_succ]
  unfold insS memS
  split <;> simp
section
variable {prog : Program} {w : World} {A : Around} {R : Result → Shared → Prop} {I : Addr} {fp wr : List Addr} {G : Array GenState → Array GenState → Prop} {P : Nat → Value → Prop} {St : Nat → Shared → Prop}
/-- the loop that fills the set, item by item -/
theorem fill (ys : List Str) (W : WalksS prog w A.in1 I fp wr G ys.length P St) (C : Addr) (hC : C ∉ fp) (hv : ∀ i v, P i v → ∃ y t, ys[i]? = some y ∧ v = .str y t) (hb : ys.length + 1 < scanBound) :
    ∀ (k i : Nat) (s : Shared), ys.length - i = k → i ≤ ys.length → St i s → s.heap.SetOf (strKind prog w) C (memS (ys.take i)) (onceS (ys.take i)).length →
      (∀ s', Moved (C :: wr) G s s' → s'.heap.SetOf (strKind prog w) C (memS ys) (onceS ys).length → R (.ok (.ret .none)) s') →
      codeAny (model prog w) A (.builtin "set.update.loop" ⟨[.ref C, .ref I], []⟩) R s := by
  have hCw : C ∉ wr := fun h => hC (W.sub _ h)
  have sub : ∀ b ∈ wr, b ∈ C :: wr := fun b z => List.mem_cons_of_mem _ z
  have stays : ∀ {s s' : Shared} {S : Str → Bool} {n : Nat}, Moved wr G s s' → s.heap.SetOf (strKind prog w) C S n → s'.heap.SetOf (strKind prog w) C S n := fun {s s' S n} m h => by
    obtain ⟨o, es, ep, tb, e, rest⟩ := h
    exact ⟨o, es, ep, tb, m.heap C _ hCw e, rest⟩
  intro k
  induction k with
  | zero =>
    intro i s hk hi st hS hR
    obtain rfl : i = ys.length := by omega
    rw [List.take_length] at hS
    refine codeAny_builtin PyProof.Rows.F.entry_set_update_loop (by
      rw [Around.under_plainId PyProof.Rows.F.plain_set_update_loop _]
      exact wpAny_bind (W.done s _ _ st fun s' m => wpAny_pure (hR s' (m.mono sub) (stays m hS))))
  | succ k ih =>
    intro i s hk hi st hS hR
    have lt : i < ys.length := by omega
    refine codeAny_builtin PyProof.Rows.F.entry_set_update_loop (by
      rw [Around.under_plainId PyProof.Rows.F.plain_set_update_loop _]
      refine wpAny_bind (W.item i s _ _ lt st fun v s' hP st' m => ?_)
      obtain ⟨y, t, ey, rfl⟩ := hv i v hP
      have hS' := stays m hS
      show wpAny _ A.in1 (holding [Value.str y t] (setAdd C (.str y t)) >>= _) _ _ s'
      refine wpAny_bind (wpAny_holding (by
        unfold setAdd
        refine wpAny_holding (wpAny_bind ((strKind prog w).pyHash (k := y) (by exact decide_eq_true rfl) ?_))
        have room : (onceS (ys.take i)).length + 1 < scanBound := by
          have := onceS_le _ (ys.take i) rfl
          rw [List.length_take] at this
          omega
        refine wpAny_setAddHashed_of (knd := strKind prog w) (s := { s' with toks := s'.toks + 1 }) (k := y) (by exact decide_eq_true rfl) rfl hS' room fun h' hsb hS2 => ?_
        have tk : ys.take (i + 1) = ys.take i ++ [y] := by
          rw [List.take_add_one, ey]; rfl
        have hSi : h'.SetOf (strKind prog w) C (memS (ys.take (i + 1))) (onceS (ys.take (i + 1))).length := PyProof.Rows.SetOf_congr hS2 (fun k' => by rw [tk, mem_step]) (by rw [tk, len_step])
        refine wpAny_pure ⟨plainId_quiet PyProof.Rows.F.plain_set_update_loop _, ih (i + 1) _ (by omega) lt (W.frame _ s' _ _ st' (Nat.le_succ _) fun b hb o e => ?_) hSi fun s'' m2 hS3 => ?_⟩
        · rw [hsb.2 b (fun z : b = C => hC (by rw [← z]; exact hb))]; exact e
        · refine hR s'' (Moved.trans W.gtrans ((m.mono sub).then_heap (Nat.le_succ _) fun b o hb e => ?_) m2) hS3
          rw [hsb.2 b (fun z : b = C => hb (by rw [z]; exact List.mem_cons_self))]; exact e)))
end
section
variable {prog : Program} {w : World} {A : Around} {E : Value → Shared → Prop} {s : Shared}
abbrev new0 (led : Bool) : Obj := { cls := .type "set", dict := none, data := .set #[] 0 (.fresh 0 0 led) }
set_option maxHeartbeats 3200000 in
/-- set(a list of texts) -/
theorem call_set_texts {p : Addr} {its : Array Value} {ys : List Str} {Q : Value → Shared → Prop} (hh : A.handled = none) (hp : s.heap.IsList p its) (hy : StrsAre its.toList ys) (hb : ys.length + 1 < scanBound)
    (h : ∀ (h' : Heap) (tk : Nat), h'.SetOf (strKind prog w) s.heap.objs.size (memS ys) (onceS ys).length → (∀ b o, b < s.heap.objs.size → s.heap.get? b = some o → h'.get? b = some o) → Q (.ref s.heap.objs.size) { s with heap := h', toks := tk }) :
    wpAny (model prog w) A (call (.type "set") [.ref p]) Q E s := by
  have hlen : ys.length = its.size := by rw [← hy.length]; simp
  obtain ⟨c0, tl0, mro⟩ := PySem.F.called_set.mro
  have made := PySem.F.called_set.made
  have subt := PySem.F.called_set.sub
  refine wpAny_call (codeAny_of_tree (by
    show wpAny _ _ (callAny (.type "set") _) _ _ _
    refine wpAny_pure ⟨Code.quiet_builtin _ (by decide +kernel), codeAny_builtin PySem.F.entry_type_call (by
      rw [Around.under_plain (weight_type_call_type "set" [.ref p] []) rfl]
      have n1 := PySem.F.called_set.notType
      have n2 := PySem.F.called_set.canCreate
      have ct := PySem.F.typeCall_set_1 (.ref p)
      repeat (any_goals (first | assumption | wp_step))
      refine codeAny_mono (code_set_new_1 (.ref p) (E := E) (Q₁ := fun ob s1 => ∃ led : Bool, ob = .ref s.heap.objs.size ∧ s1 = { s with heap := s.heap.push (new0 led) }) fun led => ⟨led, rfl, rfl⟩) fun r1 s1 hr => ?_
      cases r1 with
      | error e => exact hr
      | ok f1 =>
        cases f1 with
        | ret ob =>
          obtain ⟨led, rfl, rfl⟩ := hr
          have gC : (s.heap.push (new0 led)).get? s.heap.objs.size = some (new0 led) := Heap.get?_push_size _ rfl
          have tC : Shared.TypeIs { s with heap := s.heap.push (new0 led) } (.ref s.heap.objs.size) "set" := ⟨_, gC, rfl⟩
          have li := PySem.F.called_set.init.lookup
          have bi := PySem.F.called_set.init.bind (.ref s.heap.objs.size)
          repeat (any_goals (first | assumption | wp_step))
          refine codeAny_mono (codeAny_call_builtin (R := wants (fun r s2 => r = .none ∧ ∃ h' tk, s2 = { s with heap := h', toks := tk } ∧ h'.SetOf (strKind prog w) s.heap.objs.size (memS ys) (onceS ys).length ∧
              (∀ b o, b < s.heap.objs.size → s.heap.get? b = some o → h'.get? b = some o)) E) PySem.F.called_set.init.plain PySem.F.entry_set_init (check_set_init_1 tC ?_)) fun r2 s2 hr2 => ?_
          · obtain ⟨op, gp, kp, np, dp⟩ := hp
            obtain ⟨pc, pd, pdt, ps⟩ := op
            simp only at kp dp
            subst kp; subst dp
            have gp' : (s.heap.push (new0 led)).get? p = some { cls := .type "list", dict := pd, data := .seq its np, slots := ps } := Heap.get?_push_of_some _ gp
            have s1 := PySem.F.sub_list_set
            have s2 := PySem.F.sub_list_frozenset
            have ne : (Value.type "list" == Value.type "dict") = false := by decide
            have hp1 : (s.heap.push (new0 led)).IsList p its := ⟨_, gp', rfl, np, rfl⟩
            unfold Builtin.«set.__init__» noKeywords Builtin.Frozenset.updateFrom
            generalize hPI : pyIter = PI
            wp_walk
            subst hPI
            have ltp : p < s.heap.objs.size := Heap.lt_size gp
            have hd3 : A.in1.in1.in1.handled = none := by simp [hh]
            have neI : p ≠ (s.heap.push (new0 led)).objs.size := by rw [Heap.size_push]; exact Nat.ne_of_lt (Nat.lt_succ_of_lt ltp)
            have notf : s.heap.objs.size ∉ [(s.heap.push (new0 led)).objs.size, p] := by
              rw [Heap.size_push]; simp only [List.mem_cons, List.mem_singleton, List.not_mem_nil, or_false, not_or]; exact ⟨Nat.ne_of_lt (Nat.lt_succ_self _), Nat.ne_of_gt ltp⟩
            have vals : ∀ (i : Nat) (v : Value), its[i]? = some v → ∃ y t, ys[i]? = some y ∧ v = .str y t := fun i v hv => by
              have hv' : its.toList[i]? = some v := by rw [Array.getElem?_toList]; exact hv
              exact strs_get hy hv'
            have Wk := (Walks.list hd3 (s.heap.push (new0 led)).objs.size p neI its).toS (prog := prog) (w := w)
            rw [← hlen] at Wk
            refine wpAny_pyIter_list hp1 (wpAny_bind (wpAny_runValue (fill ys Wk s.heap.objs.size notf vals hb (ys.length - 0) 0 _ (by omega) (Nat.zero_le _) ⟨⟨_, Heap.get?_push_size _ rfl, rfl, rfl⟩, (hp1.push _)⟩ ?c1 ?c2)))
            case c1 =>
              have g0 : ((s.heap.push (new0 led)).push { cls := .type "list_iterator", data := .fields #[.ref p, .int 0 0] }).get? s.heap.objs.size = some (new0 led) := Heap.get?_push_of_some _ gC
              exact PyProof.Rows.SetOf_congr ((PyProof.Rows.setObjOf_fresh (knd := strKind prog w) led).setOf g0 (by unfold scanBound; omega)) (fun _ => rfl) rfl
            case c2 =>
              intro s' m hS'
              obtain ⟨h', g', d', tk', os'⟩ := s'
              obtain rfl : g' = s.gens := m.gens
              obtain rfl : d' = s.drawn := m.drawn
              obtain rfl : os' = s.os := m.os
              show wpAny _ _ _ _ _ _
              refine wpAny_pure (wpAny_pure ⟨rfl, h', tk', rfl, hS', fun b o hb e => ?_⟩)
              refine m.heap b o ?_ (Heap.get?_push_of_some _ (Heap.get?_push_of_some _ e))
              simp only [List.mem_cons, List.mem_singleton, List.not_mem_nil, or_false, not_or]
              exact ⟨Nat.ne_of_lt hb, by rw [Heap.size_push]; exact Nat.ne_of_lt (Nat.lt_succ_of_lt hb)⟩
          · cases r2 with
            | error e => exact hr2
            | ok f2 =>
              cases f2 with
              | ret r =>
                obtain ⟨rfl, h', tk, rfl, hS', hk'⟩ := hr2
                repeat (any_goals (first | assumption | wp_step))
                exact h _ _ hS' hk'
              | _ => exact hr2.elim
        | _ => exact hr.elim)⟩))
end
end SetS
namespace DL
open PySem PySem.Spec PyProof.Rows L2
section
variable {X : Cx} {K : PySem.W.Frag} {e a b : Expr} {es : List Expr} {pos p pos2 p2 : Pos} {g ga gb : Ds → Option D} {gA : Ds → Option (List D)}
/-- len(set(e)), e a list of texts -/
theorem pe_lenSet {te : TE} (hc : X.calm = true) (hl : X.mg "len" = none) (hs : X.mg "set" = none) (he : PE X e te) (bs : bootBuiltins "set" = some (.type "set")) (hgl : Gl X "len" := by rfl) (hgs : Gl X "set" := by rfl)
    (e1 : starEach [.Call (.Name "set" p2) [e] [] pos2] X.env = (false, eval (.Call (.Name "set" p2) [e] [] pos2) X.env) :: starEach [] X.env := by rfl) (e2 : starEach [e] X.env = (false, eval e X.env) :: starEach [] X.env := by rfl)
    (h1 : (backTo pos (starEach [] X.env)).any (·.1) = false := by rfl) (h2 : (backTo pos2 (starEach [] X.env)).any (·.1) = false := by rfl) :
    PE X (.Call (.Name "len" p) [.Call (.Name "set" p2) [e] [] pos2] [] pos) (fun σ H Q => te σ H fun v H' => ∃ q ys, v = .ref q ∧ SqL X.K H' q (ys.map V.str) ∧ ys.length ≤ 4000 ∧ Q (.int (onceS ys).length) H') := by
  intro pins s σ H Q I h
  refine wpAny_Call_Name_kw (ld_blt I hgl hl PySem.boot_len ?_ (by decide) (by decide))
  refine PyProof.Rows.callWith_builtin1 ?_ e1 h1
  rw [e1]
  show wpAny _ _ (spliced ((false, eval (.Call (.Name "set" p2) [e] [] pos2) X.env) :: backTo pos (starEach [] X.env))) _ _ s
  refine Calls.spliced_cons ?_
  refine wpAny_Call_Name_kw (ld_blt I hgs hs bs ?_ (by decide) (by decide))
  refine PyProof.Rows.callWith_type1 ?_ e2 h2
  rw [e2]
  show wpAny _ _ (spliced ((false, eval e X.env) :: backTo pos2 (starEach [] X.env))) _ _ s
  refine Calls.spliced_cons (thn (he pins s σ H _ I h) fun u s1 ⟨v, H1, I1, r1, q, ys, ev, hq, hy, k⟩ => Calls.spliced_nil ?_)
  subst ev
  obtain rfl : u = Value.ref q := r1
  obtain ⟨its, rv, pl, _⟩ := I1.list hq
  refine SetS.call_set_texts (I1.ok.hd hc) pl.isList (by simpa using strs_are rv) (by show ys.length + 1 < 4096; omega) fun h' tk hS hk => Calls.spliced_nil ?_
  obtain ⟨o, els, ep, t, ho, hex, hd, hel, hmem, hb, hf, hn⟩ := hS
  refine PySem.call_len_set (s := { s1 with heap := h', toks := tk }) ho hex hd hf (by
    have := hb
    have z : scanBound = 4096 := rfl
    omega) ?_
  rw [hn]
  have I2 : Inv X pins σ H1 { s1 with heap := h', toks := tk + 1 + 1 } := I1.kept fun b o e => hk b o (Heap.lt_size e) e
  exact ⟨.int _, H1, I2, ⟨_, rfl⟩, k⟩
theorem b_set : bootBuiltins "set" = some (.type "set") := by decide +kernel
theorem pd_lenSet (hl : X.mg "len" = none) (hs : X.mg "set" = none) (he : PD X e g) (hc : X.calm = true := by rfl) (hgl : Gl X "len" := by rfl) (hgs : Gl X "set" := by rfl)
    (e1 : starEach [.Call (.Name "set" p2) [e] [] pos2] X.env = (false, eval (.Call (.Name "set" p2) [e] [] pos2) X.env) :: starEach [] X.env := by rfl) (e2 : starEach [e] X.env = (false, eval e X.env) :: starEach [] X.env := by rfl)
    (h1 : (backTo pos (starEach [] X.env)).any (·.1) = false := by rfl) (h2 : (backTo pos2 (starEach [] X.env)).any (·.1) = false := by rfl) :
    PD X (.Call (.Name "len" p) [.Call (.Name "set" p2) [e] [] pos2] [] pos) (oA (consA g nilA) lenSetD) := .mk fun B δ =>
  (pe_lenSet hc hl hs (he B δ) b_set hgl hgs e1 e2 h1 h2).imp fun σ H Q ⟨d, en, h, k⟩ => by
    unfold oA consA nilA at h
    cases e3 : g δ with
    | none => rw [e3] at h; cases h
    | some x =>
      rw [e3] at h
      simp only [Option.bind_some, Option.map_some] at h
      unfold lenSetD at h
      cases x <;> try cases h
      rename_i ds
      dsimp only at h
      cases e4 : strL ds with
      | none => rw [e4] at h; cases h
      | some ys =>
        rw [e4] at h
        simp only [Option.bind_some] at h
        split at h
        · rename_i hz
          cases h
          refine ⟨_, en, e3, fun v H' s r => ?_⟩
          rw [rp_lst] at r
          obtain ⟨q, xs, rfl, hq, rr⟩ := r
          have := strL_rel rr e4
          subst this
          exact ⟨q, ys, rfl, hq.to, hz, k _ H' s (by rw [rp_int])⟩
        · cases h
/-! ### x = [.. for ..], one's own -/
theorem psd_ownCmp (i : Nat) {y : Str} {tg : Expr} {py spos : Pos} {sc scope : Scope} {elt iter : Expr} {ifs : List Expr} {N N' : List Str} {n : Nat} {caps : List Nat} {gi : Ds → Option (List D)} {idx : List Nat} {f : D → Ds → Option Ds} {gt : Ds → Option Bool} {ge : Ds → Option D}
    (hnd : N.Nodup) (ok : CompOk sc scope N N' n caps) (hidx : ∀ j ∈ idx, j < n) (hi : PID X tg iter gi)
    (hg : ∀ cl s H ex, PGD (cxComp X scope cl N' s H ex) tg idx f) (ht : ∀ cl s H ex, PFD (cxComp X scope cl N' s H ex) ifs gt) (he : ∀ cl s H ex, PD (cxComp X scope cl N' s H ex) elt ge)
    (hc : X.calm = true := by rfl) (hsc : X.env.scope = sc := by rfl) (hN : X.N = N := by rfl)
    (hiN : X.N[i]? = some y := by rfl) (hy : Loc X.env.scope y := by first | exact Or.inl rfl | exact Or.inr rfl)
    (hsw : swapsWith (.ListComp elt [⟨tg, iter, ifs, 0⟩] scope pos) (some (.Name y py)) spos.line X.env = pure true := by rfl)
    (hs : ∀ x, foldedSetIterable iter X.env x = pure x := by intro _; rfl)
    (hf : X.fn y = true ∨ X.env.scope.names.lookup y = some .local := by first | exact .inl rfl | exact .inr rfl | assumption) :
    PSD X (.Assign [.Name y py] (.ListComp elt [⟨tg, iter, ifs, 0⟩] scope pos) spos) (ownD i (compG n caps gi f gt ge)) := .mk fun H₀ B₀ δ pins s σ H D I ⟨r, en, e1, k⟩ => by
  unfold ownD at e1
  obtain ⟨B, b1, b2, env⟩ := en.ex
  cases e2 : compG n caps gi f gt ge δ with
  | none => rw [e2] at e1; cases e1
  | some d =>
    rw [e2] at e1
    cases e1
    refine ps_setComp (i := i) (hN ▸ hnd) hiN hy hc hsc (hN ▸ ok) (hi B δ) (g := fun v σ H Q => ∃ B d δ, tDG X.K idx f B d δ v σ H Q) (tt := fun σ H Q => ∃ B δ, tDT X.K B δ gt σ H Q) (te := fun σ H Q => ∃ B δ, tD X.K B δ ge σ H Q)
      (fun cl s H ex pins s' σ H v u Q I r ⟨B, d, δ, h⟩ => hg cl s _ ex B d δ pins s' σ H v u Q I r h)
      (fun cl s H ex pins s' σ H Q I ⟨B, δ, h⟩ => ht cl s _ ex B δ pins s' σ H Q I h)
      (fun cl s H ex pins s' σ H Q I ⟨B, δ, h⟩ => he cl s _ ex B δ pins s' σ H Q I h) hsw hs hf pins s σ H D I (comp_read hidx ⟨d, env, e2, fun p H' hp s' r' => k _ H' (en.take b1 b2 env i hp s' r')⟩)
end
end DL
namespace DL
open PySem PySem.Spec PyProof.Rows L2
section
variable {X : Cx} {K : PySem.W.Frag} {e a b : Expr} {es : List Expr} {pos p pos2 p2 : Pos} {g ga gb : Ds → Option D} {gA : Ds → Option (List D)}
end
end DL
namespace DL
open PySem PySem.Spec PyProof.Rows L2
section
variable {X : Cx} {e : Expr} {es : List Expr} {pos p : Pos} {g : Ds → Option D} {gA : Ds → Option (List D)}
/-- a def that gives back a new list or dict, by its name -/
def FnN (P : Program) (w : World) (K : PySem.W.Frag) (mg : Str → Option Value) (base : Heap) (x : Str) (k : Nat) (ps : List Str) (f : List D → Option D) : Prop :=
  ∃ (fa : Addr) (fd : FuncData), FnOk P w K mg base CX0 k fa fd ps (spN K f) ∧ mg x = some (.ref fa) ∧ PySem.W.keepIn K (.ref fa) = true ∧ Binds K fd ps []
theorem pdf_fn {k m : Nat} {ps : List Str} {x : Str} {f : List D → Option D} (C : FnN X.prog X.w X.K X.mg X.base x k ps f) (hr : Room m X.A) (hk : k ≤ m) (ha : PDA X (e :: es) gA) (hg : Gl X x := by rfl) (hdb : (x == ("__debug__" : Str)) = false := by decide)
    (he : starEach (e :: es) X.env = (false, eval e X.env) :: starEach es X.env := by rfl) (hpl : (backTo pos (starEach es X.env)).any (·.1) = false := by rfl) : PDF X (.Call (.Name x p) (e :: es) [] pos) (oA gA f) := by
  obtain ⟨fa, fd, F, hm, kp, hb⟩ := C
  exact .mk fun B δ => (pe_call (E := E0) F (hr.mono hk) hg hm kp hb .nil pass0 (ha B δ) hdb he hpl).imp fun σ H Q h => by
    obtain ⟨d, en, h, k⟩ := h
    unfold oA at h
    cases e1 : gA δ with
    | none => rw [e1] at h; cases h
    | some ds =>
      rw [e1] at h
      refine ⟨ds, en, e1, fun vs H1 s1 r1 => ?_⟩
      show spN X.K f (vs ++ []) H1 Q E0
      rw [List.append_nil]
      exact ⟨B, ds, d, (en.same s1).bad, r1, h, fun p H' hp s r => k p H' (s1.free hp) (s1.trans s) r⟩
/-- the same def where its result is but read -/
theorem pd_fnN {k m : Nat} {ps : List Str} {x : Str} {f : List D → Option D} (C : FnN X.prog X.w X.K X.mg X.base x k ps f) (hr : Room m X.A) (hk : k ≤ m) (ha : PDA X (e :: es) gA) (hg : Gl X x := by rfl) (hdb : (x == ("__debug__" : Str)) = false := by decide)
    (he : starEach (e :: es) X.env = (false, eval e X.env) :: starEach es X.env := by rfl) (hpl : (backTo pos (starEach es X.env)).any (·.1) = false := by rfl) : PD X (.Call (.Name x p) (e :: es) [] pos) (oA gA f) := (pdf_fn C hr hk ha hg hdb he hpl).pd
theorem psd_retF (h : PDF X e g) : PSD X (.Return (some e) pos) (retF g) := .mk fun H₀ B₀ δ pins s σ H D I ⟨r, en, e1, k⟩ => by
  unfold retF at e1
  obtain ⟨B, b1, b2, env⟩ := en.ex
  cases e2 : g δ with
  | none => rw [e2] at e1; cases e1
  | some d =>
    rw [e2] at e1
    cases e1
    exact ps_ret (h B δ) pins s σ H D I ⟨d, env, e2, fun p H' hp s' r => k p H' (en.same.free hp) (en.same.trans s') (r.mono (fun o h => h) (Gr.less fun a z => z.imp (b1 a) id))⟩
theorem psd_retO (i : Nat) {x : Str} {px : Pos} (hN : X.N[i]? = some x := by rfl) (hv : Vis X.env.scope x := by first | exact Or.inl rfl | exact Or.inr (Or.inl rfl) | exact Or.inr (Or.inr rfl)) (hd : (x == ("__debug__" : Str)) = false := by decide) (hcd : (x == ("__classdict__" : Str)) = false := by decide) :
    PSD X (.Return (some (.Name x px)) pos) (retO i) := .mk fun H₀ B₀ δ pins s σ H D I ⟨r, en, e1, k⟩ => by
  unfold retO at e1
  obtain ⟨B, b1, b2, env⟩ := en.ex
  split at e1
  · rename_i d hi
    cases e1
    obtain ⟨a, hs, hb, ro⟩ := env.at hi
    exact ps_ret (pe_var (i := i) hN hv hd hcd) pins s σ H D I ⟨_, hs, k a H (en.fr i d a hi hs) en.same (ro.mono (fun o h => h) (Gr.less fun b z => z.elim (b1 b) fun q => by rw [q]; exact hb))⟩
  · cases e1
end
end DL
namespace DL
open PySem
/-! tuple(zip(a, b)) over data -/
@[simp] def zipTD : List D → Option D
  | [.lst ds, .lst es] => some (.tup ((ds.zip es).map fun p => .tup [p.1, p.2]))
  | _ => none
@[simp] def revD : List D → Option D
  | [.lst ds] => some (.lst ds.reverse)
  | _ => none
def enumD (ds : List D) : List D := (List.range ds.length).map fun (k : Nat) => .tup [.int (k : Int), ds.getD k .non]
def enumLD : List D → Option (List D)
  | [.lst ds] => some (enumD ds)
  | _ => none
def enumI (gA : GA) : GA := fun δ => (gA δ).bind enumLD
@[simp] def dictOfD : List D → Option D
  | [.dct ks ds] => some (.dct ks ds)
  | _ => none
def lrngD : List D → Option D
  | [.int j] => if -(2 ^ 62) ≤ j ∧ j ≤ 1000000 then some (.lst ((List.range j.toNat).map fun (k : Nat) => .int (k : Int))) else none
  | _ => none
@[simp] def asSeq : D → Option (List D)
  | .lst ds => some ds
  | .tup ds => some ds
  | _ => none
@[simp] def anyI (g : GE) : GA := fun δ => (g δ).bind asSeq
mutual
/-- neither lists nor dicts -/
def tree : D → Bool
  | .lst _ => false
  | .dct _ _ => false
  | .tup ds => trees ds
  | _ => true
def trees : List D → Bool
  | [] => true
  | d :: ds => tree d && trees ds
end
def borT (g : GE) : GE := fun δ => (g (frz δ)).bind fun d => if tree d = true then some d else none
theorem borT_of {g : GE} {δ : Ds} {d : D} (h : g (frz δ) = some d) (ht : tree d = true) : borT g δ = some d := by
  unfold borT
  rw [h, Option.bind_some, if_pos ht]
theorem rng1_of {gA : GA} {δ : Ds} {n : Int} (h : gA δ = some [.int n]) (h1 : -(2 ^ 62) ≤ n) (h2 : n < 2 ^ 62) : rng1I gA δ = some (rngD 0 n) := by
  unfold rng1I
  rw [h, Option.bind_some]
  simp only [rng1D]
  rw [if_pos ⟨h1, h2⟩]
theorem len_of {g : GE} {δ : Ds} {ds : List D} (h : g δ = some (.lst ds)) : oA (consA g nilA) lenD δ = some (.int (ds.length : Int)) := by
  rw [oA_of (cons_of h rfl)]
  rfl
theorem lenT_of {g : GE} {δ : Ds} {ds : List D} (h : g δ = some (.tup ds)) : oA (consA g nilA) lenD δ = some (.int (ds.length : Int)) := by
  rw [oA_of (cons_of h rfl)]
  rfl
end DL
/-! list(reversed(xs)). -/
namespace RevL
open PySem PySem.Spec PyProof.Rows
theorem lri_no_len : typeLookup (.type "list_reverseiterator") "__len__" = pure none := by rw [typeLookup_type, builtinLookup_eq_fast]; kernel_rfl
theorem lri_hint : typeLookup (.type "list_reverseiterator") "__length_hint__" = pure (some (.builtin "list_reverseiterator.__length_hint__")) := by rw [typeLookup_type, builtinLookup_eq_fast]; kernel_rfl
theorem sub_lri : isSubtype (.type "list_reverseiterator") (.type "list_reverseiterator") = pure true := by rw [isSubtype_type]; kernel_rfl
section
variable {prog : Program} {w : World} {A : Around} {s : Shared} {R : Result → Shared → Prop}
variable {I : Addr} {fp wr : List Addr} {G : Array GenState → Array GenState → Prop} {n : Nat} {P : Nat → Value → Prop} {St : Nat → Shared → Prop}
/-- a list takes all that a reverse iterator gives -/
theorem ext_rev (W : WalksS prog w A.in1 I fp wr G n P St) (hT : ∀ i s, St i s → s.TypeIs (.ref I) "list_reverseiterator") (C : Addr) (res : Value) (c0 : Nat) (st : St 0 s) (hC : C ∉ fp) (hI : I ∈ fp)
    (gC : s.heap.get? C = some { cls := .type "list", data := .seq #[] c0 })
    (hR : ∀ s' acc' c', Moved (C :: wr) G s s' → s'.heap.get? C = some { cls := .type "list", dict := none, data := .seq acc' c', slots := #[] } → ItemsOf P acc' n → R (.ok (.ret res)) s') (hn : n ≤ sizeLine) :
    wpAny (model prog w) A.in1 (Builtin.List.listExtendWith (.ref C) (.ref I) res)
      (fun fin s' => match fin with | .done f => R (.ok f) s' | .again c' => c'.quiet = true ∧ codeAny (model prog w) A c' R s') (fun e s' => R (.error e) s') s := by
  have ne : C ≠ I := fun e => hC (e ▸ hI)
  unfold Builtin.List.listExtendWith
  refine wpAny_bind (wpAny_typeOf (hT 0 _ st) (by
    have q1 : Builtin.List.listSameRef (.ref C) (.ref I) = false := by simp [Builtin.List.listSameRef, ne]
    have q2 : (Value.type "list_reverseiterator" == Value.type "list") = false := by decide
    have q3 : (Value.type "list_reverseiterator" == Value.type "tuple") = false := by decide
    simp only [q1, q2, q3, Bool.or_false, Bool.false_eq_true, if_false]
    refine wpAny_bind (W.self 0 _ _ _ st (wpAny_bind (wpAny_holding (by
      unfold Builtin.List.listLengthHint
      refine wpAny_bind (wpAny_specialOf (hT 0 _ st) lri_no_len (by
        show wpAny _ A.in1 (specialOf (Value.ref I) (Str.ofString "__length_hint__") >>= _) _ _ _
        refine wpAny_bind (wpAny_specialOf (hT 0 _ st) lri_hint ?_)
        refine wpAny_bind (wpAny_isInstance (hT 0 _ st) sub_lri ?_)
        rw [if_neg (by decide)]
        dsimp only
        rw [if_pos (by decide +kernel), if_neg (by decide)]
        refine wpAny_pure ?_
        rw [if_neg (by decide +kernel)]
        refine wpAny_pure ⟨plainId_quiet PySem.F.plain_extend_loop _, ?_⟩
        exact codeAny_extend_loopS W hn _ hC _ n 0 _ _ _ rfl (Nat.zero_le _) st gC (ItemsOf.nil P) fun s' acc' c' m e hacc => hR s' acc' c' m e hacc))))))))
theorem init_rev (W : WalksS prog w A.in1 I fp wr G n P St) (hT : ∀ i s, St i s → s.TypeIs (.ref I) "list_reverseiterator") (C : Addr) (st : St 0 s) (hC : C ∉ fp) (hI : I ∈ fp)
    (gC : s.heap.get? C = some { cls := .type "list", data := .seq #[] })
    (hR : ∀ s' acc' c', Moved (C :: wr) G s s' → s'.heap.get? C = some { cls := .type "list", dict := none, data := .seq acc' c', slots := #[] } → ItemsOf P acc' n → R (.ok (.ret .none)) s') (hn : n ≤ sizeLine) :
    wpAny (model prog w) A.in1 (Builtin.«list.__init__» ⟨[.ref C, .ref I], []⟩)
      (fun fin s' => match fin with | .done f => R (.ok f) s' | .again c' => c'.quiet = true ∧ codeAny (model prog w) A c' R s') (fun e s' => R (.error e) s') s := by
  show wpAny _ A.in1 (do let old ← Builtin.List.listItems (.ref C); Builtin.List.listUpdate (.ref C) (fun _ => #[]); letGo old.toList.reverse; Builtin.List.listExtendWith (.ref C) (.ref I) .none) _ _ s
  refine wpAny_bind (by
    unfold Builtin.List.listItems
    refine wpAny_bind (wpAny_seqItems gC rfl (wpAny_pure (by
      show wpAny _ A.in1 (updateSeq C (fun _ => #[]) >>= fun _ => letGo (#[] : Array Value).toList.reverse >>= fun _ => Builtin.List.listExtendWith (.ref C) (.ref I) .none) _ _ s
      have g2 := Heap.get?_update_self (Obj.mapSeq (fun _ => (#[] : Array Value))) gC rfl
      have oth : ∀ b o, b ≠ C → s.heap.get? b = some o → (s.heap.update C (Obj.mapSeq (fun _ => (#[] : Array Value)))).get? b = some o := fun b o hb e => (Heap.get?_update_other _ _ (Ne.symm hb)).trans e
      refine wpAny_bind (wpAny_updateSeq gC rfl (wpAny_bind (wpAny_letGo (ext_rev W hT C .none _ (W.frame 0 s _ s.toks st (Nat.le_refl _) fun b hb o e => oth b o (fun h => hC (h ▸ hb)) e) hC hI g2 (fun s' acc' c' m e hacc => ?_) hn))))
      exact hR s' acc' c' (Moved.trans W.gtrans ((Moved.refl W.grefl).then_heap (Nat.le_refl _) fun b o hb e => oth b o (fun h => hb (h ▸ List.mem_cons_self)) e) m) e hacc))))
end
section
variable {prog : Program} {w : World} {A : Around} {E : Value → Shared → Prop} {s : Shared}
variable {I : Addr} {fp wr : List Addr} {G : Array GenState → Array GenState → Prop} {n : Nat} {P : Nat → Value → Prop} {St : Nat → Shared → Prop}
theorem call_list_rev {Q : Value → Shared → Prop} (W : WalksS prog w A.in1.in1 I fp wr G n P St) (hT : ∀ i s, St i s → s.TypeIs (.ref I) "list_reverseiterator") (st : St 0 s) (hfp : ∀ b ∈ fp, b < s.heap.objs.size) (hI : I ∈ fp)
    (hQ : ∀ s' acc' c', Moved (s.heap.objs.size :: wr) G { s with heap := s.heap.push { cls := .type "list", data := .seq #[] } } s' →
      s'.heap.get? s.heap.objs.size = some { cls := .type "list", dict := none, data := .seq acc' c', slots := #[] } → ItemsOf P acc' n → Q (.ref s.heap.objs.size) s') (hn : n ≤ sizeLine) :
    wpAny (model prog w) A (call (.type "list") [.ref I]) Q E s := by
  have hC : s.heap.objs.size ∉ fp := fun z => Nat.lt_irrefl _ (hfp _ z)
  refine callType_codes (Q₁ := fun ob s1 => ob = .ref s.heap.objs.size ∧ s1 = { s with heap := s.heap.push { cls := .type "list", data := .seq #[] } }) PySem.F.called_list (PySem.F.typeCall_list_1 _) PySem.F.entry_list_init (code_list_new _ ⟨rfl, rfl⟩) fun ob s1 h1 => ?_
  obtain ⟨rfl, rfl⟩ := h1
  have gC : (s.heap.push { cls := .type "list", data := .seq #[] }).get? s.heap.objs.size = some { cls := .type "list", data := .seq #[] } := Heap.get?_push_size _ rfl
  exact ⟨⟨_, gC, rfl⟩, PySem.F.args_list_init_2 _ _, init_rev W hT _ (W.frame 0 s _ s.toks st (Nat.le_refl _) fun b _ o e => Heap.get?_push_of_some _ e) hC hI gC (fun s' acc' c' m e hacc => ⟨rfl, hQ s' acc' c' m e hacc⟩) hn⟩
/-- list(reversed(a list)) -/
theorem list_reversed {l : Addr} {its : Array Value} {Q : Value → Shared → Prop} (hh : A.handled = none) (hl : s.heap.IsList l its) (hz : its.size ≤ sizeLine)
    (h : ∀ (h' : Heap) (tk c : Nat) (a : Addr), s.heap.objs.size ≤ a → h'.get? a = some { cls := .type "list", dict := none, data := .seq its.reverse c, slots := #[] } → (∀ b o, s.heap.get? b = some o → h'.get? b = some o) → Q (.ref a) { s with heap := h', toks := tk }) :
    wpAny (model prog w) A (call (.type "reversed") [.ref l]) (fun v s1 => wpAny (model prog w) A (call (.type "list") [v]) Q E s1) E s := by
  refine call_reversed_list hl ?_
  obtain ⟨ol, gl, _, _⟩ := id hl
  have ltl : l < s.heap.objs.size := Heap.lt_size gl
  have hh2 : A.in1.in1.handled = none := by simp [hh]
  have Wk := (Walks.listRev (prog := prog) (w := w) hh2 s.heap.objs.size l (Nat.ne_of_lt ltl) its).toS
  refine call_list_rev Wk (fun i s x => x.2.1.typeIs) ⟨Nat.zero_le _, ⟨_, Heap.get?_push_size _ rfl, rfl, by
    show Data.fields #[.ref l, rawInt ((its.size : Int) - 1)] = _
    have z : (its.size : Int) - 1 - ((0 : Nat) : Int) = (its.size : Int) - 1 := by omega
    rw [z]⟩, hl.push _⟩ (fun b hb => ?_) (by simp) (fun s' acc' c' m e hacc => ?_) hz
  · show b < (s.heap.push _).objs.size
    rw [Heap.size_push]
    simp only [List.mem_cons, List.not_mem_nil, or_false] at hb
    rcases hb with rfl | rfl
    · exact Nat.lt_succ_self _
    · exact Nat.lt_succ_of_lt ltl
  · obtain ⟨h', g', d', tk', os'⟩ := s'
    obtain rfl : g' = s.gens := m.gens
    obtain rfl : d' = s.drawn := m.drawn
    obtain rfl : os' = s.os := m.os
    have ea : acc' = its.reverse := by
      apply Array.ext
      · rw [hacc.1, Array.size_reverse]
      · intro i h1 h2
        have q : its[its.size - 1 - i]? = some acc'[i] := hacc.2 i acc'[i] (Array.getElem?_eq_getElem h1)
        have hi : i < its.size := by rw [← hacc.1]; exact h1
        rw [Array.getElem?_eq_getElem (by omega)] at q
        rw [Array.getElem_reverse]
        exact (Option.some.inj q).symm
    subst ea
    have hsz : (s.heap.push (revObj l ((its.size : Int) - 1))).objs.size = s.heap.objs.size + 1 := Heap.size_push ..
    refine h h' tk' c' _ ?_ e fun b o eb => ?_
    · show s.heap.objs.size ≤ (s.heap.push _).objs.size
      rw [Heap.size_push]; exact Nat.le_succ _
    · have lb := Heap.lt_size eb
      refine m.heap b o ?_ (Heap.get?_push_of_some _ (Heap.get?_push_of_some _ eb))
      simp only [List.mem_cons, List.not_mem_nil, or_false, not_or]
      refine ⟨?_, Nat.ne_of_lt lb⟩
      show b ≠ (s.heap.push _).objs.size
      rw [Heap.size_push]; exact Nat.ne_of_lt (Nat.lt_succ_of_lt lb)
end
end RevL
namespace DL
open PySem PySem.Spec PyProof.Rows L2
theorem Rps.reverse {K : PySem.W.Frag} {H : Hp} {B : BS} : ∀ {ds : List D} {xs : List V}, Rps K H B ds xs → Rps K H B ds.reverse xs.reverse
  | [], _, h => by rw [rps_nil] at h; subst h; simp [rps_nil]
  | d :: ds, _, h => by
    rw [rps_cons] at h
    obtain ⟨x, r, rfl, h1, h2⟩ := h
    rw [List.reverse_cons, List.reverse_cons]
    exact Rps.snoc (Rps.reverse h2) h1
section
variable {X : Cx} {e : Expr} {pos p pos2 p2 : Pos} {g : Ds → Option D}
theorem b_reversed0 : bootBuiltins "reversed" = some (.type "reversed") := by decide +kernel
theorem b_list0 : bootBuiltins "list" = some (.type "list") := by decide +kernel
theorem pe_revL {te : TE} (hc : X.calm = true) (hl : X.mg "list" = none) (hs : X.mg "reversed" = none) (he : PE X e te) (hgl : Gl X "list" := by rfl) (hgs : Gl X "reversed" := by rfl)
    (e1 : starEach [.Call (.Name "reversed" p2) [e] [] pos2] X.env = (false, eval (.Call (.Name "reversed" p2) [e] [] pos2) X.env) :: starEach [] X.env := by rfl) (e2 : starEach [e] X.env = (false, eval e X.env) :: starEach [] X.env := by rfl)
    (h1 : (backTo pos (starEach [] X.env)).any (·.1) = false := by rfl) (h2 : (backTo pos2 (starEach [] X.env)).any (·.1) = false := by rfl) :
    PE X (.Call (.Name "list" p) [.Call (.Name "reversed" p2) [e] [] pos2] [] pos) (fun σ H Q => te σ H fun v H' => ∃ q xs, v = .ref q ∧ SqL X.K H' q xs ∧ ∀ l, H' l = none → Q (.ref l) (upd H' l (.lst xs.reverse))) := by
  intro pins s σ H Q I h
  refine wpAny_Call_Name_kw (ld_blt I hgl hl b_list0 ?_ (by decide) (by decide))
  refine PyProof.Rows.callWith_type1 ?_ e1 h1
  rw [e1]
  show wpAny _ _ (spliced ((false, eval (.Call (.Name "reversed" p2) [e] [] pos2) X.env) :: backTo pos (starEach [] X.env))) _ _ s
  refine Calls.spliced_cons ?_
  refine wpAny_Call_Name_kw (ld_blt I hgs hs b_reversed0 ?_ (by decide) (by decide))
  refine PyProof.Rows.callWith_type1 ?_ e2 h2
  rw [e2]
  show wpAny _ _ (spliced ((false, eval e X.env) :: backTo pos2 (starEach [] X.env))) _ _ s
  refine Calls.spliced_cons (thn (he pins s σ H _ I h) fun u s1 ⟨v, H1, I1, r1, q, xs, ev, hq, k⟩ => Calls.spliced_nil ?_)
  subst ev
  obtain rfl : u = Value.ref q := r1
  obtain ⟨its, rv, pl, hz⟩ := I1.list hq
  have hlen := rv.length
  refine thn (RevL.list_reversed (I1.ok.hd hc) pl.isList (by rw [List.size_toArray, ← hlen]; exact hz) (Q := EP X pins σ Q) (E := X.xe) fun h' tk c a ha ga hk => ?_) fun v s2 hv => Calls.spliced_nil hv
  have hf : H1 a = none := I1.hok.fresh ha
  refine ⟨.ref a, _, I1.laid (a := a) (o := .lst xs.reverse) (t' := tk) hk ha ?_, rfl, k a hf⟩
  exact ⟨by rw [List.length_reverse]; exact hz, its.reverse, c, rv.reverse, by rw [ga]; simp⟩
theorem pdf_revL (hl : X.mg "list" = none) (hs : X.mg "reversed" = none) (he : PD X e g) (hc : X.calm = true := by rfl) (hgl : Gl X "list" := by rfl) (hgs : Gl X "reversed" := by rfl)
    (e1 : starEach [.Call (.Name "reversed" p2) [e] [] pos2] X.env = (false, eval (.Call (.Name "reversed" p2) [e] [] pos2) X.env) :: starEach [] X.env := by rfl) (e2 : starEach [e] X.env = (false, eval e X.env) :: starEach [] X.env := by rfl)
    (h1 : (backTo pos (starEach [] X.env)).any (·.1) = false := by rfl) (h2 : (backTo pos2 (starEach [] X.env)).any (·.1) = false := by rfl) :
    PDF X (.Call (.Name "list" p) [.Call (.Name "reversed" p2) [e] [] pos2] [] pos) (oA (consA g nilA) revD) := .mk fun B δ =>
  (pe_revL hc hl hs (he B δ) hgl hgs e1 e2 h1 h2).imp fun σ H Q ⟨d, en, h, k⟩ => by
    unfold oA consA nilA at h
    cases e3 : g δ with
    | none => rw [e3] at h; cases h
    | some x =>
      rw [e3] at h
      simp only [Option.bind_some, Option.map_some] at h
      cases x <;> simp only [revD] at h <;> try cases h
      refine ⟨_, en, e3, fun v H1 s1 r => ?_⟩
      rw [rp_lst] at r
      obtain ⟨q, xs, rfl, hq, rr⟩ := r
      exact ⟨q, xs, rfl, hq.to, fun l hl => k l _ (s1.free hl) (s1.trans (same_upd hl)) ⟨_, upd_same, rr.reverse.mono (Gr.fresh hl)⟩⟩
end
end DL
namespace DL
open PySem PySem.Spec PyProof.Rows L2
/-! ### dicts -/
section
variable {K : PySem.W.Frag} {H : Hp} {B : BS}
theorem val_rel : ∀ {ks : List KeyD} {ds : List D} {xs : List V} {q : KeyD}, Rps K H B ds xs → (∀ d, getK ks ds q = some d → ∃ x, valV (ks.zip xs) q = some x ∧ Rp K H B d x) ∧ (ks.length = xs.length → (valV (ks.zip xs) q).isSome = hasK ks q)
  | [], ds, xs, q, h => by
    refine ⟨fun d e => ?_, fun _ => ?_⟩
    · unfold getK at e; cases e
    · rfl
  | k :: ks, [], xs, q, h => by
    rw [rps_nil] at h; subst h
    refine ⟨fun d e => ?_, fun z => ?_⟩
    · unfold getK at e; cases e
    · simp at z
  | k :: ks, d :: ds, xs, q, h => by
    rw [rps_cons] at h
    obtain ⟨x, r, rfl, h1, h2⟩ := h
    obtain ⟨i1, i2⟩ := val_rel (ks := ks) (q := q) h2
    by_cases e : k = q
    · subst e
      refine ⟨fun d' e' => ?_, fun _ => ?_⟩
      · unfold getK at e'
        rw [if_pos rfl] at e'
        cases e'
        exact ⟨x, valV_pos rfl, h1⟩
      · rw [List.zip_cons_cons, valV_pos rfl]
        unfold hasK
        simp
    · refine ⟨fun d' e' => ?_, fun z => ?_⟩
      · unfold getK at e'
        rw [if_neg e] at e'
        rw [List.zip_cons_cons, valV_neg e]
        exact i1 d' e'
      · rw [List.zip_cons_cons, valV_neg e, i2 (by simpa using z)]
        unfold hasK
        simp [e]
theorem any_zip : ∀ {ks : List KeyD} {xs : List V} {q : KeyD}, ks.length = xs.length → ((ks.zip xs).any fun kv => decide (kv.1 = q)) = hasK ks q
  | [], _, _, _ => rfl
  | k :: ks, [], _, h => by simp at h
  | k :: ks, x :: xs, q, h => by
    rw [List.zip_cons_cons, List.any_cons, any_zip (by simpa using h)]
    rfl
theorem put_zip {ks : List KeyD} {xs : List V} {q : KeyD} {v : V} (h : ks.length = xs.length) : ∃ ys, putK (ks.zip xs) q v = (putKs ks q).zip ys ∧ (putKs ks q).length = ys.length ∧ (hasK ks q = true → ys = (ks.zip xs).map fun p => if p.1 = q then v else p.2) ∧ (hasK ks q = false → ys = xs ++ [v]) := by
  unfold putK putKs
  rw [any_zip h]
  cases hk : hasK ks q with
  | true =>
    rw [if_pos rfl, if_pos rfl]
    refine ⟨(ks.zip xs).map fun p => if p.1 = q then v else p.2, ?_, by simp [h], fun _ => rfl, fun z => by cases z⟩
    clear hk
    induction ks generalizing xs with
    | nil => rfl
    | cons k ks ih =>
      cases xs with
      | nil => simp at h
      | cons x xs =>
        rw [List.zip_cons_cons, List.map_cons, List.map_cons, List.zip_cons_cons, ih (by simpa using h)]
        by_cases e : k = q <;> simp [e]
  | false =>
    rw [if_neg (by simp), if_neg (by simp)]
    refine ⟨xs ++ [v], ?_, by simp [h], fun z => (by cases z), fun _ => rfl⟩
    rw [List.zip_append h]
    rfl
theorem rps_putMap {q : KeyD} {d : D} {v : V} (hv : Rp K H B d v) : ∀ {ks : List KeyD} {ds : List D} {xs : List V}, Rps K H B ds xs → Rps K H B ((ks.zip ds).map fun p => if p.1 = q then d else p.2) ((ks.zip xs).map fun p => if p.1 = q then v else p.2)
  | [], _, _, _ => by simp [rps_nil]
  | k :: ks, [], xs, h => by rw [rps_nil] at h; subst h; simp [rps_nil]
  | k :: ks, d' :: ds, xs, h => by
    rw [rps_cons] at h
    obtain ⟨x, r, rfl, h1, h2⟩ := h
    rw [List.zip_cons_cons, List.zip_cons_cons, List.map_cons, List.map_cons, rps_cons]
    refine ⟨_, _, rfl, ?_, rps_putMap hv h2⟩
    by_cases e : k = q
    · simp only [e, if_true]; exact hv
    · simp only [e, if_false]; exact h1
end
section
variable {X : Cx} {e a b o : Expr} {es : List Expr} {pos p px : Pos} {g ga gb : Ds → Option D} {x : Str}
theorem key_v {K : PySem.W.Frag} {H : Hp} {B : BS} {d : D} {k : KeyD} {v : V} (h : asKey d = some k) (r : Rp K H B d v) : v = kV k := by
  cases d <;> simp [asKey] at h
  · subst h; rw [rp_int] at r; subst r; rfl
  · subst h; rw [rp_str] at r; subst r; rfl
theorem pd_dget (hu : X.A.units + 1 < cLine) (ha : PD X a ga) (hb : PD X b gb) (hs : NoSl b := by exact fun _ _ => rfl) : PD X (.Subscript a b pos) (o2 ga gb dgetD) := .mk fun B δ => (pe_dget hu (ha B δ) (hb B δ) hs).imp fun σ H Q ⟨d, en, h, k⟩ => by
  unfold o2 at h
  cases e1 : ga δ with
  | none => rw [e1] at h; cases h
  | some x =>
    cases e2 : gb δ with
    | none => rw [e1, e2] at h; cases h
    | some y =>
      rw [e1, e2] at h
      simp only [Option.bind_some] at h
      refine ⟨x, en, e1, fun v1 H1 s1 r1 => ⟨y, en.same s1, e2, fun v2 H2 s2 r2 => ?_⟩⟩
      cases x <;> simp only [dgetD] at h <;> try cases h
      rename_i ks ds
      cases e3 : asKey y with
      | none => rw [e3] at h; cases h
      | some q =>
        rw [e3] at h
        simp only [Option.bind_some] at h
        have r1 := r1.same s2
        rw [rp_dct] at r1
        obtain ⟨p, xs, rfl, _, hp, hl, rr⟩ := r1
        obtain ⟨v, hv, rv⟩ := (val_rel rr).1 d h
        have := key_v e3 r2
        subst this
        exact ⟨p, v, rfl, by rw [← hv]; exact DGet.k hp, k v H2 (s1.trans s2) rv⟩
theorem ptd_dnin (hu : X.A.units + 1 < cLine) (ha : PD X a ga) (hb : PD X b gb) (hm : behindInMarks .NotIn b = false := by first | rfl | with_unfolding_all rfl) : PTD X (.Compare a [.NotIn] [b] pos) (ob (o2 ga gb (inDctD true))) := .mk fun B δ => (pt_cmp (pc_dnotin hu (ha B δ) (hb B δ)) hm).imp fun σ H Q ⟨t, en, h, k⟩ => by
  unfold ob o2 at h
  cases e1 : ga δ with
  | none => rw [e1] at h; cases h
  | some x =>
    cases e2 : gb δ with
    | none => rw [e1, e2] at h; cases h
    | some y =>
      rw [e1, e2] at h
      simp only [Option.bind_some] at h
      refine ⟨x, en, e1, fun v1 H1 s1 r1 => ⟨y, en.same s1, e2, fun v2 H2 s2 r2 => ?_⟩⟩
      cases y <;> simp only [inDctD] at h <;> try cases h
      rename_i ks ds
      cases e3 : asKey x with
      | none => rw [e3] at h; cases h
      | some q =>
        rw [e3] at h
        simp only [Option.map_some, Option.bind_some, asB, Bool.true_xor] at h
        cases h
        rw [rp_dct] at r2
        obtain ⟨p, xs, rfl, _, hp, hl, rr⟩ := r2
        have := key_v e3 r1
        subst this
        refine ⟨p, _, rfl, DGet.k hp, _, rfl, ?_⟩
        rw [(val_rel rr).2 hl]
        exact k H2 (s1.trans s2)
theorem ptg_put (i : Nat) (hu : X.A.units + 1 < cLine) (h : PD X e g) (hN : X.N[i]? = some x := by rfl) (hv : Vis X.env.scope x := by first | exact Or.inl rfl | exact Or.inr (Or.inl rfl) | exact Or.inr (Or.inr rfl)) (hd : (x == ("__debug__" : Str)) = false := by decide) (hcd : (x == ("__classdict__" : Str)) = false := by decide)
    (ha : ∀ v, assign (.Subscript (.Name x px) e pos) X.env v = (do
      let ov ← holding [v] (eval (.Name x px) X.env)
      let iv ← holding [v, ov] (eval e X.env)
      standAt pos
      holding [v, ov, iv] (setItem ov iv v)
      release [v, ov, iv] []) := by intro _; rfl) : PTG X (.Subscript (.Name x px) e pos) (putAt i g) := .mk fun H₀ B₀ d δ pins s σ H v u Q I r ⟨δ', en, e1, k⟩ => by
  unfold putAt at e1
  obtain ⟨B, b1, b2, env, rv⟩ := en.ex
  cases e2 : owDc i δ with
  | none => rw [e2] at e1; cases e1
  | some pr =>
    cases e3 : g δ with
    | none => rw [e2, e3] at e1; cases e1
    | some dk =>
      rw [e2, e3] at e1
      simp only [Option.bind_some] at e1
      cases e4 : asKey dk with
      | none => rw [e4] at e1; cases e1
      | some q =>
        rw [e4] at e1
        simp only [Option.bind_some] at e1
        split at e1
        · rename_i hz
          cases e1
          have hi := owDc_eq e2
          obtain ⟨a, hs', hb, xs, hx, hl, rx⟩ := env.at hi
          refine pg_sub (pe_var (i := i) hN hv hd hcd) (h B δ) (set_dict hu) ha pins s σ H v u Q I r ⟨_, hs', _, env, e3, fun iv H1 s1 r1 => ?_⟩
          have := key_v e4 r1
          subst this
          obtain ⟨ys, hy, hyl, hy1, hy2⟩ := put_zip (q := q) (v := v) hl
          refine ⟨a, _, rfl, DPut.k (s1 _ _ hx) (by rw [List.length_zip, ← hl, Nat.min_self]; exact hz), ?_⟩
          have rr : Rps X.K H1 B (putDs pr.1 pr.2 q d) ys := by
            unfold putDs
            cases hk : hasK pr.1 q with
            | true => rw [if_pos rfl, hy1 hk]; exact rps_putMap (rv.same s1) (rx.same s1)
            | false => rw [if_neg (by simp), hy2 hk]; exact Rps.snoc (rx.same s1) (rv.same s1)
          rw [hy]
          have env2 : Env X.K (upd H1 a (.dK ((putKs pr.1 q).zip ys))) B σ (δ.set i (.ow (.dct (putKs pr.1 q) (putDs pr.1 pr.2 q d)))) := (env.same s1).mut hi hs' ⟨ys, upd_same, hyl, rr.mono (Gr.own hb)⟩
          exact k _ _ (en.s.mut s1 b1 b2 hi hs' env2)
        · cases e1
end
end DL
namespace L2
open PySem PySem.Spec PyProof.Rows
/-- a def of the text whose defaults stand in dV -/
structure FunV (K : PySem.W.Frag) (x qual : Str) (st : Stmt) (f : Addr) (fd : FuncData) (dV : Value) : Prop where
  ex : ∃ (oc : Value) (od : Option Addr) (kV doc pm : Value) (an : Option Addr) (cdv ct : Value) (osl : Array (Option Value)),
    fd = PySem.W.fnOf x qual (defArgs st) (defBody st) (defScope st) dV kV doc pm an cdv ct ∧ K.lookup f = some ⟨oc, od, .func fd, osl⟩ ∧ PySem.W.codeIn K cdv qual = true
  kp : PySem.W.keepIn K (.ref f) = true
section
variable {P : Program} {w : World} {K : PySem.W.Frag} {mg : Str → Option Value} {base : Heap}
theorem FunV.ok {x qual : Str} {st : Stmt} {f : Addr} {fd : FuncData} {dV : Value} {N ps : List Str} {k : Nat} {sp : Sp} (F : FunV K x qual st f fd dV) (S : FnScope N ps (defScope st)) (len : ∀ vs H Q E, sp vs H Q E → vs.length = ps.length)
    (hbody : ∀ (cdv : Value) (A : Around) (outer : List Env) (s : Shared) (H : Hp) (vs : List V) (Q : VK) (E : XK), Room k (A.deeper (envOfC qual (defScope st) s.heap.objs.size f cdv)) → sp vs H Q E →
      ∃ t, PSs (cxOf CX0 P w K mg base N qual (defScope st) f cdv A outer s H E).nox (defBody st) t ∧ t { nx := fun _ H' => Q .non H', rt := Q } (start N vs) H) : FnOk P w K mg base CX0 (k + 1) f fd ps sp := by
  obtain ⟨oc, od, kV, doc, pm, an, cdv, ct, osl, rfl, lk, hcd⟩ := F.ex
  refine fn_of lk hcd S len fun A outer s H vs Q E hr hsp => ?_
  obtain ⟨t, h, q⟩ := hbody cdv A outer s H vs Q E hr hsp
  exact ⟨t, h.nox, q⟩
theorem funV_mk {x qual : Str} {st : Stmt} {f : Addr} {oc : Value} {od an : Option Addr} {osl : Array (Option Value)} {dV kV doc pm cdv ct : Value} (l : K.lookup f = some ⟨oc, od, .func (PySem.W.fnOf x qual (defArgs st) (defBody st) (defScope st) dV kV doc pm an cdv ct), osl⟩)
    (c : PySem.W.codeIn K cdv qual = true) (k : PySem.W.keepIn K (.ref f) = true) : FunV K x qual st f (PySem.W.fnOf x qual (defArgs st) (defBody st) (defScope st) dV kV doc pm an cdv ct) dV := ⟨⟨oc, od, kV, doc, pm, an, cdv, ct, osl, rfl, l, c⟩, k⟩
end
end L2
namespace DL
open PySem PySem.Spec PyProof.Rows L2
section
variable {P : Program} {w : World} {K : PySem.W.Frag} {mg : Str → Option Value} {base : Heap}
theorem okDV {x qual : Str} {st : Stmt} {fa : Addr} {fd : FuncData} {N ps : List Str} {k : Nat} {f : List D → Option D} {G : Ds → Option Res} {dV : Value} (F : FunV K x qual st fa fd dV) (S : FnScope N ps (defScope st))
    (body : ∀ (cdv : Value) (A : Around) (outer : List PySem.Env) (s : Shared) (H : Hp) (E : XK), Room k (A.deeper (envOfC qual (defScope st) s.heap.objs.size fa cdv)) → PSsD (cxOf CX0 P w K mg base N qual (defScope st) fa cdv A outer s H E).nox (defBody st) G)
    (hf : ∀ ds d, f ds = some d → ds.length = ps.length ∧ (G (dStart N ds) = some (.rt d) ∨ (d = .non ∧ ∃ δ, G (dStart N ds) = some (.nx δ)) ∨ G (dStart N ds) = some (.rf d))) :
    FnOk P w K mg base CX0 (k + 1) fa fd ps (spD K f) := by
  refine F.ok S (fun vs H Q E ⟨B, ds, d, _, r, h, _⟩ => ?_) (fun cdv A outer s H vs Q E hr ⟨B, ds, d, hb, r, h, q⟩ => ?_)
  · rw [r.length]; exact (hf ds d h).1
  · refine ⟨_, body cdv A outer s H E hr H B (dStart N ds), ?_⟩
    have en : EnvS K H B H (L2.start N vs) (dStart N ds) := by
      refine ⟨Same.refl H, ⟨B, fun _ z => z, fun _ z => .inl z, ⟨?_, hb, fun i j a ds' es h1 _ _ _ => (dStart_ow h1).elim⟩⟩, fun i ds' a h1 _ => (dStart_ow h1).elim, hb⟩
      unfold L2.start dStart
      rw [r.length]
      exact Pd.app (start_rel (N := N) r) (rep_un _)
    rcases (hf ds d h).2 with e | ⟨rfl, δ, e⟩ | e
    · exact ⟨_, en, e, fun v H' s' r' => q v H' s' r'⟩
    · exact ⟨_, en, e, fun σ' H' en' => q .non H' en'.same (by rw [rp_non])⟩
    · exact ⟨_, en, e, fun p H' hp s' r' => q _ H' s' (r'.rp (fun a z => .inl z) (fun z => hb p z hp))⟩
theorem okNV {x qual : Str} {st : Stmt} {fa : Addr} {fd : FuncData} {N ps : List Str} {k : Nat} {f : List D → Option D} {G : Ds → Option Res} {dV : Value} (F : FunV K x qual st fa fd dV) (S : FnScope N ps (defScope st))
    (body : ∀ (cdv : Value) (A : Around) (outer : List PySem.Env) (s : Shared) (H : Hp) (E : XK), Room k (A.deeper (envOfC qual (defScope st) s.heap.objs.size fa cdv)) → PSsD (cxOf CX0 P w K mg base N qual (defScope st) fa cdv A outer s H E).nox (defBody st) G)
    (hf : ∀ ds d, f ds = some d → ds.length = ps.length ∧ G (dStart N ds) = some (.rf d)) :
    FnOk P w K mg base CX0 (k + 1) fa fd ps (spN K f) := by
  refine F.ok S (fun vs H Q E ⟨B, ds, d, _, r, h, _⟩ => ?_) (fun cdv A outer s H vs Q E hr ⟨B, ds, d, hb, r, h, q⟩ => ?_)
  · rw [r.length]; exact (hf ds d h).1
  · refine ⟨_, body cdv A outer s H E hr H B (dStart N ds), ?_⟩
    have en : EnvS K H B H (L2.start N vs) (dStart N ds) := by
      refine ⟨Same.refl H, ⟨B, fun _ z => z, fun _ z => .inl z, ⟨?_, hb, fun i j a ds' es h1 _ _ _ => (dStart_ow h1).elim⟩⟩, fun i ds' a h1 _ => (dStart_ow h1).elim, hb⟩
      unfold L2.start dStart
      rw [r.length]
      exact Pd.app (start_rel (N := N) r) (rep_un _)
    exact ⟨_, en, (hf ds d h).2, fun p H' hp s' r' => q p H' hp s' r'⟩
end
section
variable {X : Cx} {e a b : Expr} {es : List Expr} {pos p : Pos} {g ga gb : Ds → Option D} {gA : Ds → Option (List D)}
/-- a def called with its last parameters left to their defaults dd -/
def FnNd (P : Program) (w : World) (K : PySem.W.Frag) (mg : Str → Option Value) (base : Heap) (x : Str) (k : Nat) (ps : List Str) (f : List D → Option D) (dd : List D) : Prop :=
  ∃ (fa : Addr) (fd : FuncData) (us : List Value) (vs : List V), FnOk P w K mg base CX0 k fa fd ps (spN K f) ∧ mg x = some (.ref fa) ∧ PySem.W.keepIn K (.ref fa) = true ∧ Binds K fd ps us ∧ Vals vs us ∧ ∀ H B, Rps K H B dd vs
def FnDd (P : Program) (w : World) (K : PySem.W.Frag) (mg : Str → Option Value) (base : Heap) (x : Str) (k : Nat) (ps : List Str) (f : List D → Option D) (dd : List D) : Prop :=
  ∃ (fa : Addr) (fd : FuncData) (us : List Value) (vs : List V), FnOk P w K mg base CX0 k fa fd ps (spD K f) ∧ mg x = some (.ref fa) ∧ PySem.W.keepIn K (.ref fa) = true ∧ Binds K fd ps us ∧ Vals vs us ∧ ∀ H B, Rps K H B dd vs
theorem pdf_fnd {k m : Nat} {ps : List Str} {x : Str} {f : List D → Option D} {dd : List D} (C : FnNd X.prog X.w X.K X.mg X.base x k ps f dd) (hr : Room m X.A) (hk : k ≤ m) (ha : PDA X (e :: es) gA) (hg : Gl X x := by rfl) (hdb : (x == ("__debug__" : Str)) = false := by decide)
    (he : starEach (e :: es) X.env = (false, eval e X.env) :: starEach es X.env := by rfl) (hpl : (backTo pos (starEach es X.env)).any (·.1) = false := by rfl) : PDF X (.Call (.Name x p) (e :: es) [] pos) (oA gA fun ds => f (ds ++ dd)) := by
  obtain ⟨fa, fd, us, dvs, F, hm, kp, hb, hd, hr'⟩ := C
  exact .mk fun B δ => (pe_call (E := E0) F (hr.mono hk) hg hm kp hb hd pass0 (ha B δ) hdb he hpl).imp fun σ H Q h => by
    obtain ⟨d, en, h, k⟩ := h
    unfold oA at h
    cases e1 : gA δ with
    | none => rw [e1] at h; cases h
    | some ds =>
      rw [e1] at h
      refine ⟨ds, en, e1, fun vs H1 s1 r1 => ?_⟩
      exact ⟨B, ds ++ dd, d, (en.same s1).bad, r1.append (hr' H1 B), h, fun p H' hp s r => k p H' (s1.free hp) (s1.trans s) r⟩
theorem pd_fnNd {k m : Nat} {ps : List Str} {x : Str} {f : List D → Option D} {dd : List D} (C : FnNd X.prog X.w X.K X.mg X.base x k ps f dd) (hr : Room m X.A) (hk : k ≤ m) (ha : PDA X (e :: es) gA) (hg : Gl X x := by rfl) (hdb : (x == ("__debug__" : Str)) = false := by decide)
    (he : starEach (e :: es) X.env = (false, eval e X.env) :: starEach es X.env := by rfl) (hpl : (backTo pos (starEach es X.env)).any (·.1) = false := by rfl) : PD X (.Call (.Name x p) (e :: es) [] pos) (oA gA fun ds => f (ds ++ dd)) := (pdf_fnd C hr hk ha hg hdb he hpl).pd
theorem pd_fnd {k m : Nat} {ps : List Str} {x : Str} {f : List D → Option D} {dd : List D} (C : FnDd X.prog X.w X.K X.mg X.base x k ps f dd) (hr : Room m X.A) (hk : k ≤ m) (ha : PDA X (e :: es) gA) (hg : Gl X x := by rfl) (hdb : (x == ("__debug__" : Str)) = false := by decide)
    (he : starEach (e :: es) X.env = (false, eval e X.env) :: starEach es X.env := by rfl) (hpl : (backTo pos (starEach es X.env)).any (·.1) = false := by rfl) : PD X (.Call (.Name x p) (e :: es) [] pos) (oA gA fun ds => f (ds ++ dd)) := by
  obtain ⟨fa, fd, us, dvs, F, hm, kp, hb, hd, hr'⟩ := C
  exact .mk fun B δ => (pe_call (E := E0) F (hr.mono hk) hg hm kp hb hd pass0 (ha B δ) hdb he hpl).imp fun σ H Q h => by
    obtain ⟨d, en, h, k⟩ := h
    unfold oA at h
    cases e1 : gA δ with
    | none => rw [e1] at h; cases h
    | some ds =>
      rw [e1] at h
      refine ⟨ds, en, e1, fun vs H1 s1 r1 => ?_⟩
      exact ⟨B, ds ++ dd, d, (en.same s1).bad, r1.append (hr' H1 B), h, fun v H' s r => k v H' (s1.trans s) r⟩
theorem pdf_cmpD {sc scope : Scope} {elt iter tg : Expr} {ifs : List Expr} {N N' : List Str} {n : Nat} {caps : List Nat} {gi : Ds → Option (List D)} {idx : List Nat} {f : D → Ds → Option Ds} {gt : Ds → Option Bool} {ge : Ds → Option D}
    (ok : CompOk sc scope N N' n caps) (hidx : ∀ j ∈ idx, j < n) (hi : PID X tg iter gi)
    (hg : ∀ cl s H ex, PGD (cxComp X scope cl N' s H ex) tg idx f) (ht : ∀ cl s H ex, PFD (cxComp X scope cl N' s H ex) ifs gt) (he : ∀ cl s H ex, PD (cxComp X scope cl N' s H ex) elt ge)
    (hc : X.calm = true := by rfl) (hsc : X.env.scope = sc := by rfl) (hN : X.N = N := by rfl) (hs : ∀ x, foldedSetIterable iter X.env x = pure x := by intro _; rfl) :
    PDF X (.ListComp elt [⟨tg, iter, ifs, 0⟩] scope pos) (compG n caps gi f gt ge) := pdf_comp hc hsc (hN ▸ ok) hidx hi hg ht he hs
/-! ### in, of lists and tuples of flat things -/
theorem flat_v {K : PySem.W.Frag} {H : Hp} {B : BS} {d : D} {v : V} (h : flat d = true) (r : Rp K H B d v) : flatV v = true ∧ ∀ e u, flat e = true → Rp K H B e u → eqV v u = eqF d e := by
  cases d <;> simp [flat] at h
  · rw [rp_non] at r; subst r
    refine ⟨rfl, fun e u he ru => ?_⟩
    cases e <;> simp [flat] at he <;> simp only [rp_non, rp_bl, rp_int, rp_str] at ru <;> subst ru <;> rfl
  · rw [rp_bl] at r; subst r
    refine ⟨rfl, fun e u he ru => ?_⟩
    cases e <;> simp [flat] at he <;> simp only [rp_non, rp_bl, rp_int, rp_str] at ru <;> subst ru <;> rfl
  · rw [rp_int] at r; subst r
    refine ⟨rfl, fun e u he ru => ?_⟩
    cases e <;> simp [flat] at he <;> simp only [rp_non, rp_bl, rp_int, rp_str] at ru <;> subst ru <;> rfl
  · rw [rp_str] at r; subst r
    refine ⟨rfl, fun e u he ru => ?_⟩
    cases e <;> simp [flat] at he <;> simp only [rp_non, rp_bl, rp_int, rp_str] at ru <;> subst ru <;> rfl
theorem in_rel {K : PySem.W.Frag} {H : Hp} {B : BS} {d : D} {v : V} (h : flat d = true) (r : Rp K H B d v) : ∀ {ds : List D} {xs : List V}, ds.all flat = true → Rps K H B ds xs → xs.all flatV = true ∧ inV v xs = ds.any fun y => eqF y d
  | [], _, _, rs => by rw [rps_nil] at rs; subst rs; exact ⟨rfl, rfl⟩
  | e :: ds, _, ha, rs => by
    rw [rps_cons] at rs
    obtain ⟨x, t, rfl, r1, r2⟩ := rs
    rw [List.all_cons, Bool.and_eq_true] at ha
    obtain ⟨i1, i2⟩ := in_rel h r ha.2 r2
    obtain ⟨f1, f2⟩ := flat_v ha.1 r1
    refine ⟨by rw [List.all_cons, f1, i1]; rfl, ?_⟩
    unfold inV at i2 ⊢
    rw [List.any_cons, List.any_cons, f2 d v h r, i2]
theorem op2_inSeq {K : PySem.W.Frag} (neg : Bool) : Op2 K (rIn K neg) (inSeqD neg) := by
  intro H B x y dx dy d Q hb rx ry h k
  have key : ∀ (ds : List D) (xs : List V), Rps K H B ds xs → flat dx = true ∧ ds.all flat = true → d = .bl (xor neg (ds.any fun y => eqF y dx)) → ∀ p, y = .ref p → (SqL K H p xs ∨ SqT K H p xs) → rIn K neg x y H Q := by
    intro ds xs rs hf hd p hp hq
    obtain ⟨f1, f2⟩ := in_rel hf.1 rx hf.2 rs
    refine ⟨p, xs, hp, hq, (flat_v hf.1 rx).1, f1, k _ H (Same.refl H) ?_⟩
    rw [hd, rp_bl, f2]
    cases neg <;> simp
  cases dy <;> simp only [inSeqD] at h <;> try cases h
  · split at h
    · rename_i hf
      have hd := (Option.some.inj h).symm
      rw [rp_tup] at ry
      obtain ⟨p, xs, e, q, rs⟩ := ry
      exact key _ xs rs hf hd p e (.inr q.to)
    · cases h
  · split at h
    · rename_i hf
      have hd := (Option.some.inj h).symm
      rw [rp_lst] at ry
      obtain ⟨p, xs, e, q, rs⟩ := ry
      exact key _ xs rs hf hd p e (.inl q.to)
    · cases h
end
end DL
namespace DL
open PySem PySem.Spec PyProof.Rows L2
theorem pid_any {X : Cx} {tg e : Expr} {g : Ds → Option D} (h : PD X e g) : PID X tg e (anyI g) := .mk fun B δ pins s σ H R I ⟨items, en, e1, k⟩ => by
  unfold anyI at e1
  cases e2 : g δ with
  | none => rw [e2] at e1; cases e1
  | some d =>
    rw [e2] at e1
    simp only [Option.bind_some] at e1
    cases d <;> simp only [asSeq] at e1 <;> try cases e1
    · exact (pid_tup (tg := tg) h) B δ pins s σ H R I ⟨_, en, by unfold tupI; rw [e2]; rfl, k⟩
    · exact (pid_list (tg := tg) h) B δ pins s σ H R I ⟨_, en, by unfold lstI; rw [e2]; rfl, k⟩
end DL
namespace DL
open PySem
theorem us1 : ∀ {us : List Value}, us.length = 1 → ∃ a, us = [a]
  | [a], _ => ⟨a, rfl⟩
theorem us2 : ∀ {us : List Value}, us.length = 2 → ∃ a b, us = [a, b]
  | [a, b], _ => ⟨a, b, rfl⟩
end DL
/-! tuple(zip(a, b)): each pair is kept, so the zip's own tuple is not used again. -/
namespace ZipL
open PySem PySem.Spec PyProof.Rows
abbrev IsZ (h : Heap) (z TI TO a : Addr) (f : Bool) : Prop :=
  h.get? z = some { cls := .type "zip", dict := none, data := .fields #[rawInt a, .bool f, .bool false, .ref TI, .ref TO], slots := #[] }
section
variable {prog : Program} {w : World} {A : Around} {E : Value → Shared → Prop} {s : Shared}
theorem alive {a : Addr} {o : Obj} {Q : Option Obj → Shared → Prop} (ho : s.heap.get? a = some o) (h : Q (some o) s) : wpAny (model prog w) A (loadIfAlive a) Q E s := by
  have h' : Q (s.heap.get? a) s := by rw [ho]; exact h
  exact fun _ _ _ => h'
/-- the zip's own tuple is held: it is not free -/
theorem not_free {z TI TO a : Addr} {f : Bool} {oa : Obj} {Q : Bool → Shared → Prop} (hz : IsZ s.heap z TI TO a f) (ha : s.heap.get? a = some oa)
    (hQ : ∀ h', IsZ h' z TI TO a true → Heap.SameBut z s.heap h' → Q false { s with heap := h' }) : wpAny (model prog w) A (Builtin.SmallTypes.ownedTupleIsFree (.ref z)) Q E s := by
  unfold Builtin.SmallTypes.ownedTupleIsFree
  refine wpAny_bind (wpAny_field hz rfl (x := rawInt a) rfl ?_)
  show wpAny _ _ (loadIfAlive ((a : Int).toNat) >>= _) _ _ _
  rw [Int.toNat_natCast]
  refine wpAny_bind (alive ha ?_)
  simp only [Option.isNone_some, Bool.false_eq_true, if_false]
  refine wpAny_bind (wpAny_field hz rfl (x := .bool f) rfl ?_)
  cases f with
  | true =>
    rw [if_neg (show ¬ ((Value.bool true != Value.bool true) = true) from Bool.false_ne_true)]
    exact wpAny_pure (hQ _ hz (Heap.SameBut.refl _ _))
  | false =>
    rw [if_pos (show (Value.bool false != Value.bool true) = true from rfl)]
    exact wpAny_bind (wpAny_setField_rec hz (by simp) fun h3 he3 hs3 => wpAny_pure (hQ h3 he3 hs3))
theorem next_out {z TI TO i1 i2 l1 l2 a : Addr} {f : Bool} {oa : Obj} {k1 k2 : Nat} {xs ys : Array Value} {x y : Value} {Q : Value → Shared → Prop} (D : ZipApart z TI TO i1 i2 l1 l2)
    (hz : IsZ s.heap z TI TO a f) (ha : s.heap.get? a = some oa) (hTI : IsPair s.heap TI (.ref i1) (.ref i2))
    (h1 : s.heap.IsListIter i1 l1 k1) (h2 : s.heap.IsListIter i2 l2 k2) (hl1 : s.heap.IsList l1 xs) (hl2 : s.heap.IsList l2 ys) (hx : xs[k1]? = some x) (hy : ys[k2]? = some y)
    (hQ : ∀ h', IsZ h' z TI TO a true → h'.IsListIter i1 l1 (k1 + 1) → h'.IsListIter i2 l2 (k2 + 1) → IsPair h' s.heap.objs.size x y → h'.objs.size = s.heap.objs.size + 1 →
      (∀ c o, c ≠ z → c ≠ i1 → c ≠ i2 → s.heap.get? c = some o → h'.get? c = some o) → Q (.ref s.heap.objs.size) { s with heap := h' }) :
    wpAny (model prog w) A (Builtin.«zip.__next__» ⟨[.ref z], []⟩) (fun fin s' => ∃ v, fin = .done (.ret v) ∧ Q v s') E s := by
  show wpAny _ _ (field (.ref z) 2 >>= _) _ _ _
  refine wpAny_bind (wpAny_field hz rfl (x := .bool false) rfl ?_)
  show wpAny _ _ (field (.ref z) 3 >>= _) _ _ _
  refine wpAny_bind (wpAny_field hz rfl (x := .ref TI) rfl ?_)
  refine wpAny_bind (wpAny_seqItems hTI rfl ?_)
  show wpAny _ _ (Builtin.SmallTypes.ownedTupleIsFree (.ref z) >>= _) _ _ _
  refine wpAny_bind (not_free hz ha fun h₁ hz₁ hs₁ => ?_)
  simp only [Bool.false_eq_true, if_false]
  refine wpAny_bind ?_
  simp only [List.forIn_toArray, List.forIn_cons, List.forIn_nil]
  refine wpAny_bind (wpAny_bind (wpAny_holding ?_))
  show wpAny _ _ (Builtin.SmallTypes.nextOf (.ref i1) >>= _) _ _ _
  refine wpAny_bind (wpAny_nextOf_list_item (h1.extBut hs₁.extBut D.i1z) (hl1.extBut hs₁.extBut D.l1z) hx fun h₂ h1₂ hs₂ => wpAny_pure ?_)
  refine wpAny_pure ?_
  refine wpAny_bind (wpAny_bind (wpAny_holding ?_))
  show wpAny _ _ (Builtin.SmallTypes.nextOf (.ref i2) >>= _) _ _ _
  refine wpAny_bind (wpAny_nextOf_list_item ((h2.extBut hs₁.extBut D.i2z).extBut hs₂.extBut D.i12.symm) ((hl2.extBut hs₁.extBut D.l2z).extBut hs₂.extBut D.l2i1) hy fun h₄ h2₄ hs₄ => wpAny_pure ?_)
  refine wpAny_pure (wpAny_pure ?_)
  refine wpAny_bind (wpAny_newTuple (hsz := by show 2 ≤ sizeLine; decide) ?_)
  have hsz : h₄.objs.size = s.heap.objs.size := by rw [hs₄.1, hs₂.1, hs₁.1]
  have hz₄ : IsZ h₄ z TI TO a true := hs₄.extBut _ _ D.i2z.symm (hs₂.extBut _ _ D.i1z.symm hz₁)
  have hk₄ : ∀ c o, c ≠ z → c ≠ i1 → c ≠ i2 → s.heap.get? c = some o → h₄.get? c = some o := fun c o c1 c3 c4 e => hs₄.extBut _ _ c4 (hs₂.extBut _ _ c3 (hs₁.extBut _ _ c1 e))
  refine wpAny_pure ⟨_, rfl, ?_⟩
  show Q (.ref h₄.objs.size) _
  have hq := hQ (h₄.push { cls := .type "tuple", data := .seq #[x, y] }) (Heap.get?_push_of_some _ hz₄) ((h1₂.extBut hs₄.extBut D.i12).at fun o e => Heap.get?_push_of_some _ e) (h2₄.at fun o e => Heap.get?_push_of_some _ e)
    (by rw [← hsz]; exact Heap.get?_push_size _ rfl) (by rw [Heap.size_push, hsz]) fun c o c1 c3 c4 e => Heap.get?_push_of_some _ (hk₄ c o c1 c3 c4 e)
  rw [hsz]
  exact hq
theorem end_out {z TI TO i1 i2 l1 l2 a : Addr} {f : Bool} {oa : Obj} {k1 k2 : Nat} {xs ys : Array Value} {Q : Fin → Shared → Prop} (hh : A.handled = none) (D : ZipApart z TI TO i1 i2 l1 l2)
    (hz : IsZ s.heap z TI TO a f) (ha : s.heap.get? a = some oa) (hTI : IsPair s.heap TI (.ref i1) (.ref i2))
    (h1 : s.heap.IsListIter i1 l1 k1) (h2 : s.heap.IsListIter i2 l2 k2) (hl1 : s.heap.IsList l1 xs) (hl2 : s.heap.IsList l2 ys) (hend : xs[k1]? = none ∨ ys[k2]? = none)
    (hE : ∀ h' e, (∀ c o, c ≠ z → c ≠ i1 → c ≠ i2 → s.heap.get? c = some o → h'.get? c = some o) → (∃ o, h'.get? e = some o ∧ o.cls = .type "StopIteration") → E (.ref e) { s with heap := h' }) :
    wpAny (model prog w) A (Builtin.«zip.__next__» ⟨[.ref z], []⟩) Q E s := by
  show wpAny _ _ (field (.ref z) 2 >>= _) _ _ _
  refine wpAny_bind (wpAny_field hz rfl (x := .bool false) rfl ?_)
  show wpAny _ _ (field (.ref z) 3 >>= _) _ _ _
  refine wpAny_bind (wpAny_field hz rfl (x := .ref TI) rfl ?_)
  refine wpAny_bind (wpAny_seqItems hTI rfl ?_)
  show wpAny _ _ (Builtin.SmallTypes.ownedTupleIsFree (.ref z) >>= _) _ _ _
  refine wpAny_bind (not_free hz ha fun h₁ hz₁ hs₁ => ?_)
  simp only [Bool.false_eq_true, if_false]
  refine wpAny_bind ?_
  simp only [List.forIn_toArray, List.forIn_cons, List.forIn_nil]
  refine wpAny_bind (wpAny_bind (wpAny_holding ?_))
  show wpAny _ _ (Builtin.SmallTypes.nextOf (.ref i1) >>= _) _ _ _
  cases hx : xs[k1]? with
  | none =>
    refine wpAny_bind (wpAny_nextOf_list_end hh (h1.extBut hs₁.extBut D.i1z) (hl1.extBut hs₁.extBut D.l1z) hx fun h₂ e hs₂ he => ?_)
    exact hE h₂ e (fun c o c1 c3 _ x => hs₂ _ _ c3 (hs₁.extBut _ _ c1 x)) he
  | some x =>
    have hy : ys[k2]? = none := by rcases hend with h | h; rw [hx] at h; cases h; exact h
    refine wpAny_bind (wpAny_nextOf_list_item (h1.extBut hs₁.extBut D.i1z) (hl1.extBut hs₁.extBut D.l1z) hx fun h₂ h1₂ hs₂ => wpAny_pure ?_)
    refine wpAny_pure ?_
    refine wpAny_bind (wpAny_bind (wpAny_holding ?_))
    show wpAny _ _ (Builtin.SmallTypes.nextOf (.ref i2) >>= _) _ _ _
    refine wpAny_bind (wpAny_nextOf_list_end hh ((h2.extBut hs₁.extBut D.i2z).extBut hs₂.extBut D.i12.symm) ((hl2.extBut hs₁.extBut D.l2z).extBut hs₂.extBut D.l2i1) hy fun h₄ e hs₄ he => ?_)
    exact hE h₄ e (fun c o c1 c3 c4 x => hs₄ _ _ c4 (hs₂.extBut _ _ c3 (hs₁.extBut _ _ c1 x))) he
theorem pyNext_out {z TI TO i1 i2 l1 l2 a : Addr} {f : Bool} {oa : Obj} {k1 k2 : Nat} {xs ys : Array Value} {x y : Value} {Q : Option Value → Shared → Prop} (D : ZipApart z TI TO i1 i2 l1 l2)
    (hz : IsZ s.heap z TI TO a f) (ha : s.heap.get? a = some oa) (hTI : IsPair s.heap TI (.ref i1) (.ref i2))
    (h1 : s.heap.IsListIter i1 l1 k1) (h2 : s.heap.IsListIter i2 l2 k2) (hl1 : s.heap.IsList l1 xs) (hl2 : s.heap.IsList l2 ys) (hx : xs[k1]? = some x) (hy : ys[k2]? = some y)
    (hQ : ∀ h', IsZ h' z TI TO a true → h'.IsListIter i1 l1 (k1 + 1) → h'.IsListIter i2 l2 (k2 + 1) → IsPair h' s.heap.objs.size x y → h'.objs.size = s.heap.objs.size + 1 →
      (∀ c o, c ≠ z → c ≠ i1 → c ≠ i2 → s.heap.get? c = some o → h'.get? c = some o) → Q (some (.ref s.heap.objs.size)) { s with heap := h' }) :
    wpAny (model prog w) A (pyNext (.ref z)) Q E s := by
  have hT : s.TypeIs (.ref z) "zip" := ⟨_, hz, rfl⟩
  unfold pyNext
  exact wpAny_bind (wpAny_attempt (wpAny_callSpecial?_slot (name := Str.ofString "__next__") hT F.slot_zip_next
    (wpAny_call_entry F.slot_zip_next hT F.entry_zip_next
      (next_out D hz ha hTI h1 h2 hl1 hl2 hx hy fun h' a1 a3 a4 a5 a6 a7 => wpAny_pure (hQ h' a1 a3 a4 a5 a6 a7)) (F.args_zip_next_1 _))))
theorem pyNext_end_out {z TI TO i1 i2 l1 l2 a : Addr} {f : Bool} {oa : Obj} {k1 k2 : Nat} {xs ys : Array Value} {Q : Option Value → Shared → Prop} (hh : A.handled = none) (D : ZipApart z TI TO i1 i2 l1 l2)
    (hz : IsZ s.heap z TI TO a f) (ha : s.heap.get? a = some oa) (hTI : IsPair s.heap TI (.ref i1) (.ref i2))
    (h1 : s.heap.IsListIter i1 l1 k1) (h2 : s.heap.IsListIter i2 l2 k2) (hl1 : s.heap.IsList l1 xs) (hl2 : s.heap.IsList l2 ys) (hend : xs[k1]? = none ∨ ys[k2]? = none)
    (hQ : ∀ h', (∀ c o, c ≠ z → c ≠ i1 → c ≠ i2 → s.heap.get? c = some o → h'.get? c = some o) → Q none { s with heap := h' }) : wpAny (model prog w) A (pyNext (.ref z)) Q E s := by
  have hT : s.TypeIs (.ref z) "zip" := ⟨_, hz, rfl⟩
  unfold pyNext
  refine wpAny_bind (wpAny_attempt (wpAny_callSpecial?_slot (name := Str.ofString "__next__") hT F.slot_zip_next
    (wpAny_call_entry F.slot_zip_next hT F.entry_zip_next (end_out hh D hz ha hTI h1 h2 hl1 hl2 hend fun h' e hk he => ?_) (F.args_zip_next_1 _))))
  obtain ⟨o, ho, hc⟩ := he
  refine wpAny_bind (wpAny_isInstance (T := "StopIteration") (b := true) ⟨o, ho, hc⟩ isSubtype_stop ?_)
  exact wpAny_pure (hQ _ hk)
end

structure ZSt (h : Heap) (z TI TO i1 i2 l1 l2 S : Addr) (xs ys : Array Value) (i : Nat) : Prop where
  own : (i = 0 ∧ IsZip h z TI TO .none ∧ ∃ p q, IsPair h TO p q) ∨ ∃ a f oa, IsZ h z TI TO a f ∧ h.get? a = some oa ∧ a ≠ z ∧ a ≠ i1 ∧ a ≠ i2 ∧ a ≠ S
  hTI : IsPair h TI (.ref i1) (.ref i2)
  h1 : h.IsListIter i1 l1 i
  h2 : h.IsListIter i2 l2 i
  hl1 : h.IsList l1 xs
  hl2 : h.IsList l2 ys
structure ZLow (z TI TO i1 i2 l1 l2 S : Addr) : Prop where
  z : z < S
  TI : TI < S
  TO : TO < S
  i1 : i1 < S
  i2 : i2 < S
  l1 : l1 < S
  l2 : l2 < S
structure ZG (xs ys : Array Value) (S : Addr) (h : Heap) (as : List Addr) : Prop where
  rise : as.Pairwise (· < ·)
  above : ∀ a ∈ as, S < a
  pairs : ∀ (j : Nat) (a : Addr), as[j]? = some a → ∃ x y, xs[j]? = some x ∧ ys[j]? = some y ∧ IsPair h a x y
section
variable {prog : Program} {w : World} {A : Around} {E : Value → Shared → Prop} {s : Shared} {z TI TO i1 i2 l1 l2 S : Addr} {xs ys : Array Value} {h h' : Heap} {i : Nat}
theorem ZG.there {as : List Addr} (g : ZG xs ys S h as) {a : Addr} (ha : a ∈ as) : a < h.objs.size := by
  obtain ⟨j, hj⟩ := List.mem_iff_getElem?.mp ha
  obtain ⟨_, _, _, _, e⟩ := g.pairs j a hj
  exact Heap.lt_size e
theorem ZSt.keep (x : ZSt h z TI TO i1 i2 l1 l2 S xs ys i) (L : ZLow z TI TO i1 i2 l1 l2 S) (hk : ∀ b o, b ≠ S → h.get? b = some o → h'.get? b = some o) : ZSt h' z TI TO i1 i2 l1 l2 S xs ys i := by
  refine ⟨?_, hk _ _ (Nat.ne_of_lt L.TI) x.hTI, x.h1.at fun o e => hk _ o (Nat.ne_of_lt L.i1) e, x.h2.at fun o e => hk _ o (Nat.ne_of_lt L.i2) e, x.hl1.at fun o e => hk _ o (Nat.ne_of_lt L.l1) e, x.hl2.at fun o e => hk _ o (Nat.ne_of_lt L.l2) e⟩
  rcases x.own with ⟨e, hz, p, q, hp⟩ | ⟨a, f, oa, hz, ha, n1, n2, n3, n4⟩
  · exact .inl ⟨e, hk _ _ (Nat.ne_of_lt L.z) hz, p, q, hk _ _ (Nat.ne_of_lt L.TO) hp⟩
  · exact .inr ⟨a, f, oa, hk _ _ (Nat.ne_of_lt L.z) hz, hk _ _ n4 ha, n1, n2, n3, n4⟩
theorem zitem {x y : Value} {Q : Option Value → Shared → Prop} (D : ZipApart z TI TO i1 i2 l1 l2) (st : ZSt s.heap z TI TO i1 i2 l1 l2 S xs ys i) (hS : S < s.heap.objs.size) (hx : xs[i]? = some x) (hy : ys[i]? = some y)
    (hQ : ∀ h', ZSt h' z TI TO i1 i2 l1 l2 S xs ys (i + 1) → IsPair h' s.heap.objs.size x y → (∀ c o, c ≠ z → c ≠ TO → c ≠ i1 → c ≠ i2 → s.heap.get? c = some o → h'.get? c = some o) → Q (some (.ref s.heap.objs.size)) { s with heap := h' }) :
    wpAny (model prog w) A (pyNext (.ref z)) Q E s := by
  obtain ⟨o1, e1, _⟩ := id st.h1
  obtain ⟨o2, e2, _⟩ := id st.h2
  rcases st.own with ⟨rfl, hz, p, q, hp⟩ | ⟨a, f, oa, hz, ha, n1, n2, n3, n4⟩
  · refine wpAny_pyNext_zip_item D hz st.hTI hp st.h1 st.h2 st.hl1 st.hl2 hx hy fun h' a1 a2 a3 a4 a5 a6 hk => hQ h' ⟨.inr ⟨_, false, _, a1, a5, Nat.ne_of_gt (Heap.lt_size hz), Nat.ne_of_gt (Heap.lt_size e1), Nat.ne_of_gt (Heap.lt_size e2), Nat.ne_of_gt hS⟩, hk _ _ D.TIz D.TITO D.TIi1 D.TIi2 st.hTI, a3, a4,
      st.hl1.at fun o e => hk _ o D.l1z D.l1TO D.l1i1 D.l1i2 e, st.hl2.at fun o e => hk _ o D.l2z D.l2TO D.l2i1 D.l2i2 e⟩ a5 hk
  · refine pyNext_out D hz ha st.hTI st.h1 st.h2 st.hl1 st.hl2 hx hy fun h' a1 a3 a4 a5 a6 hk => hQ h' ⟨.inr ⟨a, true, oa, a1, hk _ _ n1 n2 n3 ha, n1, n2, n3, n4⟩, hk _ _ D.TIz D.TIi1 D.TIi2 st.hTI, a3, a4,
      st.hl1.at fun o e => hk _ o D.l1z D.l1i1 D.l1i2 e, st.hl2.at fun o e => hk _ o D.l2z D.l2i1 D.l2i2 e⟩ a5 fun c o c1 _ c3 c4 e => hk c o c1 c3 c4 e
theorem zdone {Q : Option Value → Shared → Prop} (hh : A.handled = none) (D : ZipApart z TI TO i1 i2 l1 l2) (st : ZSt s.heap z TI TO i1 i2 l1 l2 S xs ys i) (hend : xs[i]? = none ∨ ys[i]? = none)
    (hQ : ∀ h', (∀ c o, c ≠ z → c ≠ TO → c ≠ i1 → c ≠ i2 → s.heap.get? c = some o → h'.get? c = some o) → Q none { s with heap := h' }) : wpAny (model prog w) A (pyNext (.ref z)) Q E s := by
  rcases st.own with ⟨rfl, hz, p, q, hp⟩ | ⟨a, f, oa, hz, ha, n1, n2, n3, n4⟩
  · exact wpAny_pyNext_zip_end hh D hz st.hTI hp st.h1 st.h2 st.hl1 st.hl2 hend hQ
  · exact pyNext_end_out hh D hz ha st.hTI st.h1 st.h2 st.hl1 st.hl2 hend fun h' hk => hQ h' fun c o c1 _ c3 c4 e => hk c o c1 c3 c4 e
end
section
variable {prog : Program} {w : World} {A : Around} {s : Shared} {R : Result → Shared → Prop} {z TI TO i1 i2 l1 l2 S lo : Addr} {xs ys : Array Value} {h₁ : Heap}
theorem zloop (hh : A.handled = none) (D : ZipApart z TI TO i1 i2 l1 l2) (L : ZLow z TI TO i1 i2 l1 l2 S) (hlo : lo ≤ z ∧ lo ≤ TO ∧ lo ≤ i1 ∧ lo ≤ i2) (hn : min xs.size ys.size ≤ sizeLine) (res : Value)
    (hR : ∀ h' tk acc c as, (∀ b o, b < lo → h₁.get? b = some o → h'.get? b = some o) → h'.get? S = some { cls := .type "list", dict := none, data := .seq acc c, slots := #[] } → as.length = min xs.size ys.size → ZG xs ys S h' as →
      acc.toList = as.map Value.ref → R (.ok (.ret res)) { s with heap := h', toks := tk }) :
    ∀ (k i : Nat) (h : Heap) (tk c : Nat) (acc : Array Value) (as : List Addr), min xs.size ys.size - i = k → i ≤ min xs.size ys.size → ZSt h z TI TO i1 i2 l1 l2 S xs ys i → (∀ b o, b < lo → h₁.get? b = some o → h.get? b = some o) →
      h.get? S = some { cls := .type "list", dict := none, data := .seq acc c, slots := #[] } → acc.toList = as.map Value.ref → as.length = i → ZG xs ys S h as →
      codeAny (model prog w) A (.builtin "list.extend.loop" ⟨[.ref S, .ref z, res], []⟩) R { s with heap := h, toks := tk } := by
  have hz0 := hlo.1
  have loS : lo < S := Nat.lt_of_le_of_lt hlo.1 L.z
  have lk : ∀ (h h' : Heap), (∀ c o, c ≠ z → c ≠ TO → c ≠ i1 → c ≠ i2 → h.get? c = some o → h'.get? c = some o) → ∀ b o, b < lo → h.get? b = some o → h'.get? b = some o := fun h h' hk b o hb e =>
    hk b o (Nat.ne_of_lt (Nat.lt_of_lt_of_le hb hlo.1)) (Nat.ne_of_lt (Nat.lt_of_lt_of_le hb hlo.2.1)) (Nat.ne_of_lt (Nat.lt_of_lt_of_le hb hlo.2.2.1)) (Nat.ne_of_lt (Nat.lt_of_lt_of_le hb hlo.2.2.2)) e
  have hk4 : ∀ (h h' : Heap), (∀ c o, c ≠ z → c ≠ TO → c ≠ i1 → c ≠ i2 → h.get? c = some o → h'.get? c = some o) → ∀ b o, S ≤ b → h.get? b = some o → h'.get? b = some o := fun h h' hk b o hb e =>
    hk b o (Nat.ne_of_gt (Nat.lt_of_lt_of_le L.z hb)) (Nat.ne_of_gt (Nat.lt_of_lt_of_le L.TO hb)) (Nat.ne_of_gt (Nat.lt_of_lt_of_le L.i1 hb)) (Nat.ne_of_gt (Nat.lt_of_lt_of_le L.i2 hb)) e
  intro k
  induction k with
  | zero =>
    intro i h tk c acc as hk hi hst hkeep hS hacc hal hG
    have hend : xs[i]? = none ∨ ys[i]? = none := by
      rcases Nat.le_total xs.size ys.size with q | q
      · exact .inl (Array.getElem?_eq_none (by omega))
      · exact .inr (Array.getElem?_eq_none (by omega))
    refine codeAny_builtin F.entry_extend_loop ?_
    rw [Around.under_plainId F.plain_extend_loop _]
    show wpAny _ A.in1 (pyNext (.ref z) >>= _) _ _ _
    refine wpAny_bind (zdone (s := { s with heap := h, toks := tk }) (A := A.in1) hh D hst hend fun h' he => ?_)
    refine wpAny_pure (hR h' tk acc c as (fun b o h1 e => lk h h' he b o h1 (hkeep b o h1 e)) (hk4 h h' he S _ (Nat.le_refl _) hS) (by omega) ⟨hG.rise, hG.above, fun j a hj => ?_⟩ hacc)
    obtain ⟨x, y, e1, e2, e3⟩ := hG.pairs j a hj
    exact ⟨x, y, e1, e2, hk4 h h' he a _ (Nat.le_of_lt (hG.above a (List.mem_of_getElem? hj))) e3⟩
  | succ k ih =>
    intro i h tk c acc as hk hi hst hkeep hS hacc hal hG
    have hlt : i < min xs.size ys.size := by omega
    have hix : i < xs.size := Nat.lt_of_lt_of_le hlt (Nat.min_le_left ..)
    have hiy : i < ys.size := Nat.lt_of_lt_of_le hlt (Nat.min_le_right ..)
    have hsz : acc.size = i := by rw [← Array.length_toList, hacc, List.length_map, hal]
    have hSl : S < h.objs.size := Heap.lt_size hS
    refine codeAny_builtin F.entry_extend_loop ?_
    rw [Around.under_plainId F.plain_extend_loop _]
    show wpAny _ A.in1 (pyNext (.ref z) >>= _) _ _ _
    refine wpAny_bind (zitem (s := { s with heap := h, toks := tk }) D hst hSl (Array.getElem?_eq_getElem hix) (Array.getElem?_eq_getElem hiy) fun h' hst' ht hkp => ?_)
    dsimp only at ht hkp ⊢
    have hS' := hk4 h h' hkp S _ (Nat.le_refl _) hS
    have up : ∀ b o, b ≠ S → h'.get? b = some o → (h'.update S (Obj.mapSeq (·.push (Value.ref h.objs.size)))).get? b = some o := fun b o hb e => (Heap.get?_update_other _ _ (Ne.symm hb)).trans e
    show wpAny _ A.in1 (updateSeq S (·.push (Value.ref h.objs.size)) >>= _) _ _ _
    refine wpAny_bind ?_
    refine wpAny_updateSeq hS' rfl (wpAny_pure ⟨plainId_quiet F.plain_extend_loop _, ih (i + 1) _ tk _ (acc.push (Value.ref h.objs.size)) (as ++ [h.objs.size]) (by omega) hlt (hst'.keep L up)
      (fun b o h1 e => up b o (Nat.ne_of_lt (Nat.lt_trans h1 loS)) (lk h h' hkp b o h1 (hkeep b o h1 e))) (Heap.get?_update_self _ hS' rfl) (by rw [Array.toList_push, hacc, List.map_append]; rfl) (by rw [List.length_append, hal]; rfl) ⟨?_, ?_, ?_⟩⟩) (by rw [hsz]; omega) (by show (acc.push (Value.ref h.objs.size)).size ≤ sizeLine + 1; rw [Array.size_push, hsz]; omega)
    · refine List.pairwise_append.mpr ⟨hG.rise, List.pairwise_singleton _ _, fun a ha b hb => ?_⟩
      rw [List.mem_singleton.mp hb]
      exact hG.there ha
    · intro a ha
      rcases List.mem_append.mp ha with ha | ha
      · exact hG.above a ha
      · rw [List.mem_singleton.mp ha]; exact hSl
    · intro j b hj
      rcases Nat.lt_trichotomy j as.length with h1 | h1 | h1
      · rw [List.getElem?_append_left h1] at hj
        obtain ⟨x', y', e1, e2, e3⟩ := hG.pairs j b hj
        have hb := hG.above b (List.mem_of_getElem? hj)
        exact ⟨x', y', e1, e2, up b _ (Nat.ne_of_gt hb) (hk4 h h' hkp b _ (Nat.le_of_lt hb) e3)⟩
      · subst h1
        have hb : h.objs.size = b := by simpa using hj
        subst hb
        exact ⟨_, _, by rw [hal]; exact Array.getElem?_eq_getElem hix, by rw [hal]; exact Array.getElem?_eq_getElem hiy, up _ _ (Nat.ne_of_gt hSl) ht⟩
      · have hnone : (as ++ [h.objs.size])[j]? = none := List.getElem?_eq_none (by rw [List.length_append, List.length_singleton]; omega)
        rw [hnone] at hj; cases hj
end
theorem zip_no_len : typeLookup (.type "zip") "__len__" = pure none := by rw [typeLookup_type, builtinLookup_eq_fast]; kernel_rfl
theorem zip_no_hint : typeLookup (.type "zip") "__length_hint__" = pure none := by rw [typeLookup_type, builtinLookup_eq_fast]; kernel_rfl
section
variable {prog : Program} {w : World} {A : Around} {E : Value → Shared → Prop} {s : Shared} {z TI TO i1 i2 l1 l2 lo : Addr} {xs ys : Array Value}
/-- what a walk through a zip leaves -/
def ZEnd (xs ys : Array Value) (lo : Addr) (s : Shared) (h' : Heap) (as : List Addr) : Prop :=
  (∀ b o, b < lo → s.heap.get? b = some o → h'.get? b = some o) ∧ as.length = min xs.size ys.size ∧ ZG xs ys s.heap.objs.size h' as
theorem collect_zip {Q : List Value → Shared → Prop} (hh : A.handled = none) (D : ZipApart z TI TO i1 i2 l1 l2) (hlo : lo ≤ z ∧ lo ≤ TO ∧ lo ≤ i1 ∧ lo ≤ i2)
    (st : ∀ S, S ≠ z → S ≠ i1 → S ≠ i2 → ZSt s.heap z TI TO i1 i2 l1 l2 S xs ys 0) (hn : min xs.size ys.size ≤ sizeLine) (L : ZLow z TI TO i1 i2 l1 l2 s.heap.objs.size)
    (hT : s.TypeIs (.ref z) "zip") (hI : ∃ f0, IsZip s.heap z TI TO f0)
    (hQ : ∀ h' tk as, ZEnd xs ys lo s h' as → s.heap.objs.size < h'.objs.size → Q (as.map Value.ref) { s with heap := h', toks := tk }) : wpAny (model prog w) A (collect (.ref z)) Q E s := by
  have hSz : s.heap.objs.size ≠ z := Nat.ne_of_gt L.z
  obtain ⟨f0, hI⟩ := hI
  unfold collect
  refine wpAny_bind (wpAny_runValue (codeAny_builtin F.entry_proto_collect ?_))
  rw [Around.under_plainId F.plain_proto_collect _]
  show wpAny _ A.in1 (newList [] >>= fun l => again (.builtin "list.__iadd__" ⟨[l, .ref z], []⟩)) _ _ s
  refine wpAny_bind (wpAny_newObj_type ?_)
  refine wpAny_pure ⟨plainId_quiet F.plain_list_iadd _, codeAny_builtin F.entry_list_iadd ?_⟩
  rw [Around.under_plainId F.plain_list_iadd _]
  have hS₁ : (s.heap.push { cls := .type "list", data := .seq ([] : List Value).toArray }).get? s.heap.objs.size = some { cls := .type "list", data := .seq ([] : List Value).toArray } := Heap.get?_push_size _ rfl
  have hz₁ := Heap.get?_push_of_some { cls := .type "list", data := .seq ([] : List Value).toArray } hI
  have hT₁ : Shared.TypeIs { s with heap := s.heap.push { cls := .type "list", data := .seq ([] : List Value).toArray } } (.ref z) "zip" := ⟨_, hz₁, rfl⟩
  show wpAny _ A.in1 (Builtin.List.listExtendWith (.ref s.heap.objs.size) (.ref z) (.ref s.heap.objs.size)) _ _ _
  unfold Builtin.List.listExtendWith
  refine wpAny_bind (wpAny_typeOf hT₁ ?_)
  have h1 : Builtin.List.listSameRef (.ref s.heap.objs.size) (.ref z) = false := by simp [Builtin.List.listSameRef, hSz]
  have h2 : (Value.type "zip" == Value.type "list") = false := by decide
  have h3 : (Value.type "zip" == Value.type "tuple") = false := by decide
  simp only [h1, h2, h3, Bool.or_false, Bool.false_eq_true, if_false]
  refine wpAny_bind (wpAny_pyIter_zip (s := { s with heap := s.heap.push { cls := .type "list", data := .seq ([] : List Value).toArray } }) hz₁ ?_)
  refine wpAny_bind (wpAny_holding ?_)
  unfold Builtin.List.listLengthHint
  refine wpAny_bind (wpAny_specialOf hT₁ zip_no_len ?_)
  show wpAny _ A.in1 (specialOf (Value.ref z) (Str.ofString "__length_hint__") >>= _) _ _ _
  refine wpAny_bind (wpAny_specialOf hT₁ zip_no_hint ?_)
  refine wpAny_pure ?_
  show wpAny _ A.in1 (rule "list.extend.makes-room" >>= fun _ => Builtin.List.listTouch (.ref s.heap.objs.size) >>= fun _ =>
    again (.builtin "list.extend.loop" ⟨[.ref s.heap.objs.size, .ref z, .ref s.heap.objs.size], []⟩)) _ _ _
  refine wpAny_bind (wpAny_rule ?_)
  refine wpAny_bind ?_
  show wpAny _ A.in1 (updateSeq s.heap.objs.size (·.push .none) >>= fun _ => updateSeq s.heap.objs.size (·.pop)) _ _ _
  refine wpAny_bind (wpAny_updateSeq hS₁ rfl ?_)
  have hS₂ := Heap.get?_update_self (Obj.mapSeq (·.push Value.none)) hS₁ rfl
  refine wpAny_updateSeq hS₂ rfl ?_
  have hS₃ := Heap.get?_update_self (Obj.mapSeq (·.pop)) hS₂ rfl
  have oth : ∀ b o, b ≠ s.heap.objs.size → s.heap.get? b = some o →
      (((s.heap.push { cls := .type "list", data := .seq ([] : List Value).toArray }).update s.heap.objs.size (Obj.mapSeq (·.push Value.none))).update s.heap.objs.size (Obj.mapSeq (·.pop))).get? b = some o :=
    fun b o hb e => (Heap.get?_update_other _ _ (Ne.symm hb)).trans ((Heap.get?_update_other _ _ (Ne.symm hb)).trans (Heap.get?_push_of_some _ e))
  refine wpAny_pure ⟨plainId_quiet F.plain_extend_loop _, zloop (s := s) (lo := lo) (h₁ := s.heap) hh D L hlo hn _ (fun h' tk acc c as hk hS' hl hG hacc => ?_) _ 0 _ s.toks _ #[] [] rfl (Nat.zero_le _)
    ((st _ hSz (Nat.ne_of_gt L.i1) (Nat.ne_of_gt L.i2)).keep L oth) (fun b o hb e => oth b o (Nat.ne_of_lt (Heap.lt_size e)) e) hS₃ rfl rfl ⟨List.Pairwise.nil, (fun _ ha => nomatch ha), (fun j a hj => by simp at hj)⟩⟩
  show wpAny _ A (load s.heap.objs.size >>= _) _ _ _
  refine wpAny_bind (wpAny_load hS' ?_)
  refine wpAny_pure ?_
  have := hQ h' tk as ⟨hk, hl, hG⟩ (Heap.lt_size hS')
  rw [← hacc] at this
  exact this
end
end ZipL
namespace ZipL
open PySem PySem.Spec PyProof.Rows
section
variable {prog : Program} {w : World} {A : Around} {E : Value → Shared → Prop} {s : Shared} {z TI TO i1 i2 l1 l2 lo : Addr} {xs ys : Array Value}
theorem code_tuple_new_zip {Q₁ : Value → Shared → Prop} (hh : A.handled = none) (D : ZipApart z TI TO i1 i2 l1 l2) (hlo : lo ≤ z ∧ lo ≤ TO ∧ lo ≤ i1 ∧ lo ≤ i2)
    (st : ∀ S, S ≠ z → S ≠ i1 → S ≠ i2 → ZSt s.heap z TI TO i1 i2 l1 l2 S xs ys 0) (hn : min xs.size ys.size ≤ sizeLine) (L : ZLow z TI TO i1 i2 l1 l2 s.heap.objs.size)
    (hT : s.TypeIs (.ref z) "zip") (hI : ∃ f0, IsZip s.heap z TI TO f0)
    (h : ∀ h' tk as, ZEnd xs ys lo s h' as → s.heap.objs.size < h'.objs.size → Q₁ (.ref h'.objs.size) { s with heap := h'.push { cls := .type "tuple", data := .seq (as.map Value.ref).toArray }, toks := tk }) :
    codeAny (model prog w) A (.call (.builtin "tuple.__new__") ⟨[.type "tuple", .ref z], []⟩) (wants Q₁ E) s := by
  refine codeAny_of_tree ?_
  show wpAny _ A.in1 (do checkBuiltinCall "tuple.__new__" ⟨[.type "tuple", .ref z], []⟩; again (.builtin "tuple.__new__" ⟨[.type "tuple", .ref z], []⟩)) _ _ s
  refine wpAny_bind (wpAny_of_eq (F.newCall_tuple_1 _) (wpAny_pure ⟨plainId_quiet F.plain_tuple_new _, codeAny_builtin F.entry_tuple_new ?_⟩))
  rw [Around.under_plainId F.plain_tuple_new _]
  have hsub := sub_tuple_self
  have hinit := init_tuple_lookup
  have hmh := madeHere_tuple
  have hh1 : A.in1.handled = none := by simp [hh]
  wp_walk using wpAny_typeOf hT, collect_zip (lo := lo) hh1 D hlo st hn L hT hI
  intro h' tk as hz hlt
  show wpAny _ _ (Builtin.Tuple.tupleExact (as.map Value.ref).toArray >>= fun v => ret v) _ _ _
  unfold Builtin.Tuple.tupleExact
  refine wpAny_bind (wpAny_newObj_type ?_ (by show (as.map Value.ref).toArray.size ≤ sizeLine; rw [List.size_toArray, List.length_map, hz.2.1]; exact hn))
  exact wpAny_pure (h h' tk as hz hlt)
/-- tuple(zip(a list, a list)) -/
theorem tuple_zip {Q : Value → Shared → Prop} (hh : A.handled = none) (hl1 : s.heap.IsList l1 xs) (hl2 : s.heap.IsList l2 ys) (hn : min xs.size ys.size ≤ sizeLine)
    (h : ∀ (h' : Heap) (tk : Nat) (as : List Addr) (t : Addr), (∀ b o, s.heap.get? b = some o → h'.get? b = some o) → as.length = min xs.size ys.size → (∀ a ∈ as, s.heap.objs.size ≤ a ∧ a < t) → as.Nodup → s.heap.objs.size ≤ t →
      (∀ (j : Nat) (a : Addr), as[j]? = some a → ∃ x y, xs[j]? = some x ∧ ys[j]? = some y ∧ IsPair h' a x y) → h'.get? t = some { cls := .type "tuple", data := .seq (as.map Value.ref).toArray } → Q (.ref t) { s with heap := h', toks := tk }) :
    wpAny (model prog w) A (call (.type "zip") [.ref l1, .ref l2]) (fun v s1 => wpAny (model prog w) A (call (.type "tuple") [v]) Q E s1) E s := by
  have a1 : l1 < s.heap.objs.size := by obtain ⟨_, e, _⟩ := hl1; exact Heap.lt_size e
  have a2 : l2 < s.heap.objs.size := by obtain ⟨_, e, _⟩ := hl2; exact Heap.lt_size e
  refine call_zip_2 hl1 hl2 fun h1 hz hTI hTO hi1 hi2 hsz hk => ?_
  have hl1' : h1.IsList l1 xs := hl1.at fun o e => hk _ o e
  have hl2' : h1.IsList l2 ys := hl2.at fun o e => hk _ o e
  have H : ∀ k, k < 5 → s.heap.objs.size + k < h1.objs.size := fun k hk => by rw [hsz]; exact Nat.add_lt_add_left hk _
  refine callType_codes (Q₁ := fun obj s₁ => s₁.TypeIs obj "tuple" ∧ Q obj s₁) F.called_tuple (F.typeCall_tuple_1 _) F.entry_object_init
    (code_tuple_new_zip (lo := s.heap.objs.size) (xs := xs) (ys := ys) (by simp [hh]) (zipApart_new a1 a2) ⟨Nat.le_add_right _ 4, Nat.le_add_right _ 3, Nat.le_refl _, Nat.le_add_right _ 1⟩ (fun S n1 n2 n3 => ⟨.inl ⟨rfl, hz, _, _, hTO⟩, hTI, hi1, hi2, hl1', hl2'⟩) hn
      ⟨H 4 (by decide), H 2 (by decide), H 3 (by decide), H 0 (by decide), H 1 (by decide), Nat.lt_trans a1 (H 0 (by decide)), Nat.lt_trans a2 (H 0 (by decide))⟩
      ⟨_, hz, rfl⟩ ⟨_, hz⟩ fun h' tk as ze hlt => ⟨⟨_, Heap.get?_push_size _ rfl, rfl⟩, ?_⟩) fun obj s₁ h₁ => ?_
  · obtain ⟨k1, k2, g⟩ := ze
    refine h (h'.push _) tk as h'.objs.size (fun b o e => Heap.get?_push_of_some _ (k1 b o (Heap.lt_size e) (hk b o e))) k2 (fun a ha => ⟨?_, g.there ha⟩) (g.rise.imp fun h => Nat.ne_of_lt h) ?_ (fun j a hj => ?_) (Heap.get?_push_size _ rfl)
    · exact Nat.le_of_lt (Nat.lt_trans (H 0 (by decide)) (g.above a ha))
    · exact Nat.le_of_lt (Nat.lt_trans (H 0 (by decide)) hlt)
    · obtain ⟨x, y, e1, e2, e3⟩ := g.pairs j a hj
      exact ⟨x, y, e1, e2, Heap.get?_push_of_some _ e3⟩
  · exact ⟨h₁.1, F.args_object_init_2 obj _, object_init_meets F.called_tuple.init.lookup F.called_tuple.made (by decide) prog w A.in1 _ s₁ ⟨h₁.1, rfl, h₁.2⟩⟩
end
end ZipL
namespace L2
open PySem PySem.Spec PyProof.Rows
/-- many new objects -/
def updL (H : Hp) : List (Addr × HO) → Hp
  | [] => H
  | p :: l => upd (updL H l) p.1 p.2
theorem updL_off {H : Hp} {b : Addr} : ∀ {l : List (Addr × HO)}, (∀ p ∈ l, p.1 ≠ b) → updL H l b = H b
  | [], _ => rfl
  | p :: l, h => by
    show upd (updL H l) p.1 p.2 b = _
    rw [upd_ne (Ne.symm (h p List.mem_cons_self)), updL_off fun q hq => h q (List.mem_cons_of_mem _ hq)]
theorem updL_some {H : Hp} {b : Addr} {u : HO} : ∀ {l : List (Addr × HO)}, updL H l b = some u → (∃ p ∈ l, p.1 = b ∧ p.2 = u) ∨ H b = some u
  | [], e => .inr e
  | p :: l, e => by
    by_cases h : b = p.1
    · subst h
      have e' : upd (updL H l) p.1 p.2 p.1 = some u := e
      rw [upd_same] at e'
      exact .inl ⟨p, List.mem_cons_self, rfl, Option.some.inj e'⟩
    · have e' : upd (updL H l) p.1 p.2 b = some u := e
      rw [upd_ne h] at e'
      rcases updL_some e' with ⟨q, hq, x⟩ | x
      · exact .inl ⟨q, List.mem_cons_of_mem _ hq, x⟩
      · exact .inr x
theorem updL_mem {H : Hp} : ∀ {l : List (Addr × HO)}, (l.map Prod.fst).Nodup → ∀ p ∈ l, updL H l p.1 = some p.2
  | [], _, p, h => nomatch h
  | q :: l, n, p, h => by
    rw [List.map_cons, List.nodup_cons] at n
    show upd (updL H l) q.1 q.2 p.1 = _
    rcases List.mem_cons.mp h with rfl | h
    · rw [upd_same]
    · rw [upd_ne (fun z => n.1 (by rw [← z]; exact List.mem_map_of_mem h)), updL_mem n.2 p h]
section
variable {X : Cx} {pins : List (Addr × Obj)} {σ : List (Option V)} {H : Hp} {s : Shared} {h' : Heap}
theorem Inv.laidL {l : List (Addr × HO)} {t' : Nat} (I : Inv X pins σ H s) (k : ∀ b u, s.heap.get? b = some u → h'.get? b = some u)
    (hl : ∀ p ∈ l, s.heap.objs.size ≤ p.1 ∧ ∃ xs, p.2 = .tup xs ∧ ObjOk X.prog X.w H h' p.1 (.tup xs)) : Inv X pins σ (updL H l) { s with heap := h', toks := t' } := by
  have low : ∀ b, b < s.heap.objs.size → updL H l b = H b := fun b hb => updL_off fun p hp z => by
    have := (hl p hp).1
    rw [z] at this
    exact Nat.lt_irrefl _ (Nat.lt_of_lt_of_le hb this)
  refine I.un ⟨fun b u q _ _ _ => k b u q, fun b u q _ _ _ => ⟨u.slots, k b u q⟩, fun b u q n _ => by rw [low b (Heap.lt_size q)]; exact n, fun b u q _ => ⟨u, k b u q⟩, fun b xs q => by rw [low b (I.hok.lt q)]; exact q,
    fun b u xs q => by rw [low b (I.hok.lt q)]; exact q, fun b ps q => ⟨#[], by rw [low b (I.hok.lt q), q]; simp⟩⟩ fun b u e => ?_
  rcases updL_some e with ⟨p, hp, rfl, rfl⟩ | e'
  · obtain ⟨_, xs, ex, ok⟩ := hl p hp
    rw [ex]
    exact ok
  · exact (I.hok b u e').stay (fun c v _ q => k c v q) (fun c q => by rw [low c (I.hok.lt q)]; exact q) fun c xs q => by rw [low c (I.hok.lt q)]; exact q
end
/-- f1(f2(values)) -/
def CallR2 (X : Cx) (f1 f2 : Value) (r : List V → Hp → VK → Prop) : Prop :=
  ∀ (pins : List (Addr × Obj)) (s : Shared) (σ : St) (H : Hp) (xs : List V) (us : List Value) (Q : VK), Inv X pins σ H s → Vals xs us → r xs H Q →
    wpAny (model X.prog X.w) X.A (call f2 us) (fun v s1 => wpAny (model X.prog X.w) X.A (call f1 [v]) (EP X pins σ Q) X.xe s1) X.xe s
section
variable {X : Cx} {e : Expr} {es : List Expr} {pos p pos2 p2 : Pos} {x1 x2 : Str} {T1 T2 : String} {r : List V → Hp → VK → Prop} {t : TA}
theorem pe_nestTT (hc : CallR2 X (.type T1) (.type T2) r) (hg1 : Gl X x1) (hg2 : Gl X x2) (hm1 : X.mg x1 = none) (hm2 : X.mg x2 = none) (hv1 : bootBuiltins x1 = some (.type T1)) (hv2 : bootBuiltins x2 = some (.type T2)) (ha : PA X (e :: es) t)
    (hn1 : x1 ≠ "__name__" := by decide) (hd1 : (x1 == ("__debug__" : Str)) = false := by decide) (hn2 : x2 ≠ "__name__" := by decide) (hd2 : (x2 == ("__debug__" : Str)) = false := by decide)
    (e1 : starEach [.Call (.Name x2 p2) (e :: es) [] pos2] X.env = (false, eval (.Call (.Name x2 p2) (e :: es) [] pos2) X.env) :: starEach [] X.env := by rfl) (h1 : (backTo pos (starEach [] X.env)).any (·.1) = false := by rfl)
    (he : starEach (e :: es) X.env = (false, eval e X.env) :: starEach es X.env := by rfl) (hpl : (backTo pos2 (starEach es X.env)).any (·.1) = false := by rfl) :
    PE X (.Call (.Name x1 p) [.Call (.Name x2 p2) (e :: es) [] pos2] [] pos) (tCB r t) := by
  intro pins s σ H Q I h
  refine wpAny_Call_Name_kw (ld_blt I hg1 hm1 hv1 ?_ hn1 hd1)
  refine PyProof.Rows.callWith_type1 ?_ e1 h1
  rw [e1]
  show wpAny _ _ (spliced ((false, eval (.Call (.Name x2 p2) (e :: es) [] pos2) X.env) :: backTo pos (starEach [] X.env))) _ _ s
  refine Calls.spliced_cons ?_
  refine wpAny_Call_Name_kw (ld_blt I hg2 hm2 hv2 ?_ hn2 hd2)
  refine PyProof.Rows.callWith_type1 (thn (ha pos2 pins s σ H _ I h) fun us s1 ⟨vs, H1, I1, r1, q1⟩ => ?_) he hpl
  exact thn (hc pins s1 σ H1 vs us Q I1 r1 q1) fun v s2 hv => Calls.spliced_nil hv
end
end L2
namespace DL
open PySem PySem.Spec PyProof.Rows L2
section
variable {X : Cx} {e : Expr} {es : List Expr} {pos p pos2 p2 : Pos} {x1 x2 : Str} {T1 T2 : String} {r : List V → Hp → VK → Prop} {gA : Ds → Option (List D)} {f : List D → Option D}
theorem pd_nestTT (hc : CallR2 X (.type T1) (.type T2) r) (hf : FnR X.K r f) (hm1 : X.mg x1 = none) (hm2 : X.mg x2 = none) (hv1 : bootBuiltins x1 = some (.type T1)) (hv2 : bootBuiltins x2 = some (.type T2)) (ha : PDA X (e :: es) gA) (hg1 : Gl X x1 := by rfl) (hg2 : Gl X x2 := by rfl)
    (hn1 : x1 ≠ "__name__" := by decide) (hd1 : (x1 == ("__debug__" : Str)) = false := by decide) (hn2 : x2 ≠ "__name__" := by decide) (hd2 : (x2 == ("__debug__" : Str)) = false := by decide)
    (e1 : starEach [.Call (.Name x2 p2) (e :: es) [] pos2] X.env = (false, eval (.Call (.Name x2 p2) (e :: es) [] pos2) X.env) :: starEach [] X.env := by rfl) (h1 : (backTo pos (starEach [] X.env)).any (·.1) = false := by rfl)
    (he : starEach (e :: es) X.env = (false, eval e X.env) :: starEach es X.env := by rfl) (hpl : (backTo pos2 (starEach es X.env)).any (·.1) = false := by rfl) :
    PD X (.Call (.Name x1 p) [.Call (.Name x2 p2) (e :: es) [] pos2] [] pos) (oA gA f) :=
  .mk fun B δ => (pe_nestTT hc hg1 hg2 hm1 hm2 hv1 hv2 (ha B δ) hn1 hd1 hn2 hd2 e1 h1 he hpl).imp fun σ H Q h => oA_red hf h
end
def zipUp : List Addr → List (V × V) → List (Addr × HO)
  | a :: as, p :: ps => (a, .tup [p.1, p.2]) :: zipUp as ps
  | _, _ => []
theorem zipUp_fst : ∀ {as : List Addr} {ps : List (V × V)}, as.length = ps.length → (zipUp as ps).map Prod.fst = as
  | [], [], _ => rfl
  | [], _ :: _, h => by simp at h
  | _ :: _, [], h => by simp at h
  | a :: as, p :: ps, h => by
    show a :: (zipUp as ps).map Prod.fst = _
    rw [zipUp_fst (by simpa using h)]
theorem zipUp_mem : ∀ {as : List Addr} {ps : List (V × V)} {q : Addr × HO}, q ∈ zipUp as ps → ∃ (j : Nat) (p : V × V), as[j]? = some q.1 ∧ ps[j]? = some p ∧ q.2 = .tup [p.1, p.2]
  | [], _, q, h => by simp [zipUp] at h
  | _ :: _, [], q, h => by simp [zipUp] at h
  | a :: as, p :: ps, q, h => by
    rcases List.mem_cons.mp h with rfl | h
    · exact ⟨0, p, rfl, rfl, rfl⟩
    · obtain ⟨j, p', h1, h2, h3⟩ := zipUp_mem h
      exact ⟨j + 1, p', by simpa using h1, by simpa using h2, h3⟩
def rZipT (K : PySem.W.Frag) : List V → Hp → VK → Prop := fun vs H Q => ∃ q1 q2 xs ys, vs = [.ref q1, .ref q2] ∧ SqL K H q1 xs ∧ SqL K H q2 ys ∧
  ∀ (t : Addr) (as : List Addr), as.length = (xs.zip ys).length → as.Nodup → t ∉ as → H t = none → (∀ a ∈ as, H a = none) → Q (.ref t) (updL H ((t, .tup (as.map V.ref)) :: zipUp as (xs.zip ys)))
theorem vals_refs : ∀ as : List Addr, Vals (as.map V.ref) (as.map Value.ref)
  | [] => .nil
  | a :: as => .cons rfl (vals_refs as)
theorem call_tuple_zip {X : Cx} (hc : X.calm = true := by rfl) : CallR2 X (.type "tuple") (.type "zip") (rZipT X.K) := by
  intro pins s σ H vs us Q I r h
  obtain ⟨q1, q2, xs, ys, rfl, h1, h2, k⟩ := h
  cases r with
  | cons r1 r =>
    cases r with
    | cons r2 r =>
      cases r
      obtain rfl := r1
      obtain rfl := r2
      obtain ⟨us1, v1, p1, z1⟩ := I.list h1
      obtain ⟨us2, v2, p2, z2⟩ := I.list h2
      have l1 := v1.length
      have l2 := v2.length
      refine ZipL.tuple_zip (I.ok.hd hc) p1.isList p2.isList (by rw [List.size_toArray, List.size_toArray]; omega) fun h' tk as t hk hl ha hnd ht hp gt => ?_
      rw [List.size_toArray, List.size_toArray] at hl
      have hl' : as.length = (xs.zip ys).length := by rw [List.length_zip, hl]; omega
      refine ⟨.ref t, _, I.laidL (t' := tk) hk fun p hp' => ?_, rfl, k t as hl' hnd (fun z => Nat.lt_irrefl _ (ha t z).2) (I.hok.fresh ht) fun a h => I.hok.fresh (ha a h).1⟩
      rcases List.mem_cons.mp hp' with rfl | hp'
      · refine ⟨ht, _, rfl, ?_, as.map Value.ref, vals_refs as, ⟨_, gt, rfl, _, rfl⟩⟩
        rw [List.length_map, hl]; omega
      · obtain ⟨j, ⟨x, y⟩, e1, e2, e3⟩ := zipUp_mem hp'
        obtain ⟨u, w, f1, f2, f3⟩ := hp j p.1 e1
        have hz := List.getElem?_zip_eq_some.mp e2
        obtain ⟨u', g1, g2⟩ := v1.get hz.1
        obtain ⟨w', g3, g4⟩ := v2.get hz.2
        have eu : u' = u := by
          have : us1.toArray[j]? = some u' := by simpa using g1
          rw [f1] at this; exact (Option.some.inj this).symm
        have ew : w' = w := by
          have : us2.toArray[j]? = some w' := by simpa using g3
          rw [f2] at this; exact (Option.some.inj this).symm
        subst eu; subst ew
        exact ⟨(ha p.1 (List.mem_of_getElem? e1)).1, _, e3, (by show 2 ≤ sizeLine; decide), [u', w'], .cons g2 (.cons g4 .nil), ⟨_, f3, rfl, _, rfl⟩⟩
theorem rps_zipUp {K : PySem.W.Frag} {H : Hp} {B : BS} : ∀ {ds es : List D} {xs ys : List V} {as : List Addr}, Rps K H B ds xs → Rps K H B es ys → as.length = (xs.zip ys).length → (∀ p ∈ zipUp as (xs.zip ys), H p.1 = some p.2 ∧ ¬ B p.1) →
    Rps K H B ((ds.zip es).map fun p => D.tup [p.1, p.2]) (as.map V.ref)
  | [], es, xs, ys, as, r1, r2, hl, h => by
    rw [rps_nil] at r1; subst r1
    simp at hl; subst hl
    simp [rps_nil]
  | d :: ds, [], xs, ys, as, r1, r2, hl, h => by
    rw [rps_nil] at r2; subst r2
    simp at hl; subst hl
    simp [rps_nil]
  | d :: ds, e :: es, xs, ys, as, r1, r2, hl, h => by
    rw [rps_cons] at r1 r2
    obtain ⟨x, xs', rfl, a1, a2⟩ := r1
    obtain ⟨y, ys', rfl, b1, b2⟩ := r2
    cases as with
    | nil => simp at hl
    | cons a as =>
      have h0 := h (a, .tup [x, y]) List.mem_cons_self
      rw [List.zip_cons_cons, List.map_cons, List.map_cons, rps_cons]
      refine ⟨_, _, rfl, ?_, rps_zipUp a2 b2 (by simpa using hl) fun p hp => h p (List.mem_cons_of_mem _ hp)⟩
      rw [rp_tup]
      refine ⟨a, [x, y], rfl, .inl ⟨h0.2, .inl h0.1⟩, ?_⟩
      rw [rps_cons]
      refine ⟨_, _, rfl, a1, ?_⟩
      rw [rps_cons]
      exact ⟨_, _, rfl, b1, by rw [rps_nil]⟩
theorem fn_tupZip {K : PySem.W.Frag} : FnR K (rZipT K) zipTD := by
  intro H B xs ds d Q bad r h k
  unfold zipTD at h
  split at h <;> try cases h
  rename_i ds es
  rw [rps_cons] at r
  obtain ⟨x, r', rfl, r1, r⟩ := r
  rw [rps_cons] at r
  obtain ⟨y, r', rfl, r2, r⟩ := r
  rw [rps_nil] at r; subst r
  rw [rp_lst] at r1 r2
  obtain ⟨q1, us, rfl, s1, t1⟩ := r1
  obtain ⟨q2, ws, rfl, s2, t2⟩ := r2
  refine ⟨q1, q2, us, ws, rfl, s1.to, s2.to, fun t as hl hnd ht ft fa => ?_⟩
  have hfst : (((t, HO.tup (as.map V.ref)) :: zipUp as (us.zip ws)).map Prod.fst) = t :: as := by rw [List.map_cons, zipUp_fst hl]
  have hN : (((t, HO.tup (as.map V.ref)) :: zipUp as (us.zip ws)).map Prod.fst).Nodup := by rw [hfst]; exact List.nodup_cons.mpr ⟨ht, hnd⟩
  have fr : ∀ p ∈ ((t, HO.tup (as.map V.ref)) :: zipUp as (us.zip ws)), H p.1 = none := fun p hp => by
    have : p.1 ∈ t :: as := by rw [← hfst]; exact List.mem_map_of_mem hp
    rcases List.mem_cons.mp this with e | e
    · rw [e]; exact ft
    · exact fa _ e
  have sm : Same H (updL H ((t, HO.tup (as.map V.ref)) :: zipUp as (us.zip ws))) := fun b u e => by
    rw [updL_off fun p hp z => by rw [← z, fr p hp] at e; cases e]; exact e
  have nb : ∀ p ∈ ((t, HO.tup (as.map V.ref)) :: zipUp as (us.zip ws)), ¬ B p.1 := fun p hp z => bad _ z (fr p hp)
  refine k _ _ sm ?_
  rw [rp_tup]
  refine ⟨t, as.map V.ref, rfl, .inl ⟨nb _ List.mem_cons_self, .inl (updL_mem hN _ List.mem_cons_self)⟩, rps_zipUp (t1.same sm) (t2.same sm) hl fun p hp => ⟨updL_mem hN p (List.mem_cons_of_mem _ hp), nb p (List.mem_cons_of_mem _ hp)⟩⟩
end DL
/-! Walks over zip(a, b) and enumerate(a) with two names; dict(a dict); list(range(n)). -/
namespace L2
open PySem PySem.Spec PyProof.Rows
section
variable {X : Cx} {pins : List (Addr × Obj)} {σ : List (Option V)} {H : Hp} {s : Shared} {h' : Heap}
/-- records of ours have turned -/
theorem Inv.turnedL {t' : Nat} {fp : List Addr} (I : Inv X pins σ H s) (hf : ∀ b ∈ fp, FpOk X pins H b) (k : ∀ b o, b ∉ fp → s.heap.get? b = some o → h'.get? b = some o) : Inv X pins σ H { s with heap := h', toks := t' } := by
  have nit : ∀ b u, H b = some u → b ∉ fp := fun b u e z => by rw [(hf b z).1] at e; cases e
  refine I.step (g' := s.gens) (d' := s.drawn) (ch := fp) (fun b hb => ⟨(hf b hb).2.2.2.1, (hf b hb).2.1, (hf b hb).2.2.2.2.1, (hf b hb).2.2.2.2.2⟩) (fun b o _ _ hc e _ => k b o hc e) (fun b o _ _ hc e _ => ⟨o.slots, k b o hc e⟩) (fun _ _ _ _ n => n)
    (fun b o hc e => ⟨o, k b o hc e⟩) (fun _ _ e => e) (fun _ _ _ e => e) (fun b ps e => ⟨#[], by rw [e]; simp⟩) (fun m hm => ?_) (fun b u e => ?_) I.bare
  · obtain ⟨o, es, ep, ho, r⟩ := hm
    exact ⟨o, es, ep, k _ o (fun z => (hf _ z).2.1 rfl) ho, r⟩
  · refine (I.hok b u e).stay (fun c v hc q => k c v ?_ q) (fun _ q => q) fun _ _ q => q
    rcases hc with z | z
    · rw [z]; exact nit b u e
    · exact nit c _ z
/-- .. and a new pair lies behind them -/
theorem Inv.turnedNew {t' : Nat} {fp : List Addr} {x y : V} {u w : Value} (I : Inv X pins σ H s) (hf : ∀ b ∈ fp, FpOk X pins H b) (rx : RelV x u) (ry : RelV y w) (hlt : ∀ b ∈ fp, b < s.heap.objs.size)
    (hob : h'.get? s.heap.objs.size = some { cls := .type "tuple", data := .seq #[u, w] }) (k : ∀ b o, b ∉ fp → s.heap.get? b = some o → h'.get? b = some o) :
    Inv X pins σ (upd H s.heap.objs.size (.tup [x, y])) { s with heap := h', toks := t' } ∧ ∀ b ∈ fp, upd H s.heap.objs.size (.tup [x, y]) b = none := by
  have ne : ∀ b ∈ fp, b ≠ s.heap.objs.size := fun b hb => Nat.ne_of_lt (hlt b hb)
  have fr : ∀ b ∈ fp, upd H s.heap.objs.size (.tup [x, y]) b = none := fun b hb => by rw [upd_ne (ne b hb)]; exact (hf b hb).1
  have I1 : Inv X pins σ (upd H s.heap.objs.size (.tup [x, y])) { s with heap := s.heap.push { cls := .type "tuple", data := .seq #[u, w] }, toks := t' } :=
    I.laid (fun b o e => Heap.get?_push_of_some _ e) (Nat.le_refl _) ⟨(by show 2 ≤ sizeLine; decide), [u, w], .cons rx (.cons ry .nil), ⟨_, Heap.get?_push_size _ rfl, rfl, _, rfl⟩⟩
  refine ⟨Inv.turnedL (s := { s with heap := s.heap.push { cls := .type "tuple", data := .seq #[u, w] }, toks := t' }) (t' := t') (fp := fp) I1 (fun b hb => ⟨fr b hb, (hf b hb).2⟩) fun b o hb e => ?_, fr⟩
  rcases Heap.get?_push_cases e with ⟨rfl, rfl⟩ | e
  · exact hob
  · exact k b o hb e
end
/-- number and thing of a list -/
def Ite (K : PySem.W.Frag) (a : Addr) : It :=
  ⟨fun i H => ∃ xs x, SqL K H a xs ∧ xs[i]? = some x,
   fun i H v H' => ∃ t x, v = .ref t ∧ H t = none ∧ H' = upd H t (.tup [.int (i : Int), x]) ∧ ∀ xs, SqL K H a xs → xs[i]? = some x,
   fun i H => ∃ xs, SqL K H a xs ∧ xs.length ≤ i⟩
theorem turn_enum {P : Program} {w : World} {K : PySem.W.Frag} {elts : List Expr} {x1} {pos : Pos} {e it a : Addr} (hei : e ≠ it) : Turn P w K (.Tuple elts x1 pos) (Ite K a) [e, it] e
    (fun i h => (∃ old, IsEnum h e it i old) ∧ h.IsListIter it a i) where
  mem := by simp
  obj := fun i h st c hc => by
    obtain ⟨⟨old, he⟩, ⟨o1, e1, c1, d1⟩⟩ := st
    simp only [List.mem_cons, List.not_mem_nil, or_false] at hc
    rcases hc with rfl | rfl
    · exact ⟨_, he, fun v z => nomatch z⟩
    · exact ⟨_, e1, fun v z => by rw [d1] at z; cases z⟩
  keep := fun i h h' st k => by
    obtain ⟨⟨old, he⟩, h1⟩ := st
    exact ⟨⟨old, k e (by simp) _ he⟩, h1.at fun o x => k it (by simp) o x⟩
  item := by
    intro X hP hw hK hc i pins s σ H E I hf st hg
    subst hP hw hK
    obtain ⟨⟨old, he⟩, h1⟩ := st
    obtain ⟨xs, x, hq, hx⟩ := hg
    obtain ⟨us, rv, p1, z1⟩ := I.list hq
    obtain ⟨u, hu, ru⟩ := rv.get hx
    refine wpAny_pyNext_enum_item he h1 p1.isList (x := u) (by simpa using hu) hei fun h' a1 a2 a3 a4 hk => ?_
    refine ⟨_, rfl, wpAny_letOwnedTupleGo_enum (s := { s with heap := h', toks := s.toks + 1 }) a1 fun h'' b1 hs => ?_⟩
    have le := Heap.lt_size he
    obtain ⟨o1, e1, _⟩ := id h1
    have l1 := Heap.lt_size e1
    obtain ⟨I1, fr⟩ := I.turnedNew (h' := h'') (t' := s.toks + 1) (fp := [e, it]) (x := .int (i : Int)) (u := .int i s.toks) hf ⟨_, rfl⟩ ru (fun c hc => by
      simp only [List.mem_cons, List.not_mem_nil, or_false] at hc
      rcases hc with rfl | rfl <;> assumption) ((hs.2 _ (Nat.ne_of_gt le)).trans a3) (fun c o hc x => by
      simp only [List.mem_cons, List.not_mem_nil, or_false, not_or] at hc
      exact (hs.2 _ hc.1).trans (hk c o hc.1 hc.2 x))
    exact ⟨.ref s.heap.objs.size, _, I1, rfl, ⟨_, x, rfl, I.hok.fresh (Nat.le_refl _), rfl, fun ys hy => by rw [I.list_inj hy hq]; exact hx⟩, ⟨⟨_, by simpa using b1⟩, a2.at fun o y => (hs.2 it hei.symm).trans y⟩, fr⟩
  done := by
    intro X hP hw hK hc i pins s σ H E I hf st hg
    subst hP hw hK
    obtain ⟨⟨old, he⟩, h1⟩ := st
    obtain ⟨xs, hq, hend⟩ := hg
    obtain ⟨us, rv, p1, z1⟩ := I.list hq
    have l1 := rv.length
    refine wpAny_pyNext_enum_end (I.ok.hd hc) he h1 p1.isList (by simp; omega) fun h' hk => ⟨rfl, I.turnedL (t' := s.toks) (fp := [e, it]) hf fun c o hc x => ?_⟩
    simp only [List.mem_cons, List.not_mem_nil, or_false, not_or] at hc
    exact hk c o hc.2 x
  self := fun _ _ _ _ _ st h => by
    obtain ⟨⟨old, he⟩, _⟩ := st
    exact wpAny_pyIter_enum he h
section
variable {X : Cx} {elts : List Expr} {x1 : Nat} {tpos : Pos}
theorem boot_enum : bootBuiltins "enumerate" = some (.type "enumerate") := by decide +kernel
def iEnum (K : PySem.W.Frag) (ta : TA) : TI := fun σ H R => ta σ H fun vs H1 => ∃ a, vs = [.ref a] ∧ (∃ xs, SqL K H1 a xs) ∧ R (Ite K a) H1
theorem pi_enum {a : Expr} {ta : TA} {p pos : Pos} (hg : Gl X "enumerate") (hm : X.mg "enumerate" = none) (ha : PA X [a] ta) (hs : starEach [a] X.env = [(false, eval a X.env)] := by rfl) :
    PI X (.Tuple elts x1 tpos) (.Call (.Name "enumerate" p) [a] [] pos) (iEnum X.K ta) := by
  intro pins s σ H R I h
  refine Call_ (ld_blt I hg hm boot_enum (PyProof.Rows.callWith_type1 (thn (ha pos pins s σ H _ I h) fun us s1 ⟨vs, H1, I1, r1, q1⟩ => ?_) hs rfl))
  obtain ⟨qa, e, ⟨xs, h1⟩, q⟩ := q1
  subst e
  cases r1 with
  | cons r rr =>
    cases rr
    obtain rfl := r
    obtain ⟨us1, v1, p1, z1⟩ := I1.list h1
    refine call_enumerate_list p1.isList fun h' hz hi1 hsz hk => ?_
    refine wpAny_pyIter_enum (s := { s1 with heap := h' }) hz ?_
    refine ⟨_, _, _, _, H1, rfl, I1.kept (t' := s1.toks) hk, turn_enum (Nat.ne_of_gt (Nat.lt_succ_self _)), ⟨⟨_, hz⟩, hi1⟩, fun b hb => ?_, q⟩
    simp only [List.mem_cons, List.not_mem_nil, or_false] at hb
    rcases hb with rfl | rfl
    · exact I1.fpOk (Nat.le_add_right _ 1) (I1.hok.fresh (Nat.le_add_right _ 1))
    · exact I1.fpOk (Nat.le_refl _) (I1.hok.fresh (Nat.le_refl _))
end
end L2
namespace DL
open PySem PySem.Spec PyProof.Rows L2
section
variable {X : Cx} {elts : List Expr} {x1 : Nat} {tpos : Pos} {a b : Expr} {p pos : Pos} {gA : Ds → Option (List D)}
theorem rp_pair {K : PySem.W.Frag} {H : Hp} {B : BS} {t : Addr} {x y : V} {d e : D} (hn : ¬ B t) (ht : H t = some (.tup [x, y])) (r1 : Rp K H B d x) (r2 : Rp K H B e y) : Rp K H B (.tup [d, e]) (.ref t) := by
  rw [rp_tup]
  refine ⟨t, [x, y], rfl, .inl ⟨hn, .inl ht⟩, ?_⟩
  rw [rps_cons]
  refine ⟨_, _, rfl, r1, ?_⟩
  rw [rps_cons]
  exact ⟨_, _, rfl, r2, by rw [rps_nil]⟩
theorem pid_enum (hm : X.mg "enumerate" = none) (ha : PDA X [a] gA) (hg : Gl X "enumerate" := by rfl) (hs : starEach [a] X.env = [(false, eval a X.env)] := by rfl) :
    PID X (.Tuple elts x1 tpos) (.Call (.Name "enumerate" p) [a] [] pos) (enumI gA) := .mk fun B δ => L2.PI.imp (pi_enum hg hm (ha B δ) hs) fun σ H R ⟨items, en, e1, k⟩ => by
  unfold enumI at e1
  cases e2 : gA δ with
  | none => rw [e2] at e1; cases e1
  | some ds =>
    rw [e2] at e1
    simp only [Option.bind_some] at e1
    unfold enumLD at e1
    split at e1 <;> try cases e1
    rename_i ds
    refine ⟨_, en, e2, fun vs H' s' r => ?_⟩
    rw [rps_cons] at r
    obtain ⟨x, t, rfl, r1, r⟩ := r
    rw [rps_nil] at r; subst r
    rw [rp_lst] at r1
    obtain ⟨q1, us, rfl, s1, t1⟩ := r1
    have hlen : (enumD ds).length = us.length := by unfold enumD; simp [t1.length]
    refine ⟨q1, rfl, ⟨us, s1.to⟩, k _ H' s' ⟨fun i H2 g2 hi => ?_, fun i H2 v H3 g2 y hi => ?_, fun i H2 g2 hi => ?_⟩⟩
    · rw [hlen] at hi
      exact ⟨us, us[i], (s1.mono g2).to, by simp [hi]⟩
    · obtain ⟨t, x, rfl, ht, rfl, hx⟩ := y
      rw [hlen, t1.length] at hi
      obtain ⟨x', e4, rx⟩ := t1.get (i := i) (List.getElem?_eq_getElem hi)
      have ex := hx us (s1.mono g2).to
      rw [e4] at ex
      cases ex
      refine ⟨same_upd ht, .tup [.int (i : Int), ds[i]], by unfold enumD; simp [hi], fun B' gB hb => ?_⟩
      exact rp_pair (fun z => hb t z ht) upd_same (by rw [rp_int]) (rx.mono gB)
    · rw [hlen] at hi
      exact ⟨us, (s1.mono g2).to, hi⟩
end
/-! what is borrowed and gives a tree -/
section
variable {K : PySem.W.Frag} {H : Hp} {B B' : BS}
mutual
theorem tree_rp (hB : ∀ a, B a → B' a ∨ (∃ xs, H a = some (.lst xs)) ∨ ∃ kvs, H a = some (.dK kvs)) : ∀ (d : D) (v : V), tree d = true → Rp K H B' d v → Rp K H B d v
  | .non, v, _, r => by rw [rp_non] at r ⊢; exact r
  | .bl _, v, _, r => by rw [rp_bl] at r ⊢; exact r
  | .int _, v, _, r => by rw [rp_int] at r ⊢; exact r
  | .str _, v, _, r => by rw [rp_str] at r ⊢; exact r
  | .lst _, v, h, _ => by unfold tree at h; cases h
  | .dct _ _, v, h, _ => by unfold tree at h; cases h
  | .tup ds, v, h, r => by
    unfold tree at h
    rw [rp_tup] at r ⊢
    obtain ⟨a, xs, rfl, q, rs⟩ := r
    refine ⟨a, xs, rfl, ?_, trees_rp hB ds xs h rs⟩
    rcases q with ⟨n, q⟩ | q
    · refine .inl ⟨fun z => ?_, q⟩
      rcases hB a z with z | ⟨ys, z⟩ | ⟨ys, z⟩
      · exact n z
      · rcases q with q | ⟨o, q⟩ <;> (rw [z] at q; cases q)
      · rcases q with q | ⟨o, q⟩ <;> (rw [z] at q; cases q)
    · exact .inr q
theorem trees_rp (hB : ∀ a, B a → B' a ∨ (∃ xs, H a = some (.lst xs)) ∨ ∃ kvs, H a = some (.dK kvs)) : ∀ (ds : List D) (vs : List V), trees ds = true → Rps K H B' ds vs → Rps K H B ds vs
  | [], vs, _, r => by rw [rps_nil] at r ⊢; exact r
  | d :: ds, vs, h, r => by
    unfold trees at h
    rw [Bool.and_eq_true] at h
    rw [rps_cons] at r ⊢
    obtain ⟨x, t, rfl, r1, r2⟩ := r
    exact ⟨x, t, rfl, tree_rp hB d x h.1 r1, trees_rp hB ds t h.2 r2⟩
end
end
theorem pd_borT {X : Cx} {e : Expr} {g : GE} (h : PD X e g) : PD X e (borT g) := .mk fun B δ pins s σ H Q I ⟨d, en, hq, k⟩ => by
  obtain ⟨B', c1, c2, en'⟩ := en.frz
  unfold borT at hq
  cases e1 : g (frz δ) with
  | none => rw [e1] at hq; cases hq
  | some x =>
    rw [e1] at hq
    by_cases hf : tree x = true
    · simp only [Option.bind_some, if_pos hf] at hq
      cases hq
      refine h B' (frz δ) pins s σ H Q I ⟨_, en', e1, fun v H' s' r => k v H' s' (tree_rp (fun a z => ?_) _ _ hf r)⟩
      rcases c2 a z with q | ⟨i, d', h1, h2⟩
      · exact .inl q
      · obtain ⟨o, h3, a', e4, _, ro⟩ := Pd.get en.all h1
        rw [h2] at h3
        cases h3
        cases e4
        cases d' <;> try exact ro.elim
        · obtain ⟨xs, e5, _⟩ := ro; exact .inr (.inl ⟨xs, s' _ _ e5⟩)
        · obtain ⟨xs, e5, _⟩ := ro; exact .inr (.inr ⟨_, s' _ _ e5⟩)
    · simp only [Option.bind_some, if_neg hf] at hq
      cases hq
/-! dict(a dict) -/
section
variable {X : Cx} {K : PySem.W.Frag} {e : Expr} {pos p : Pos} {g : Ds → Option D}
def rDictOf : List V → Hp → VK → Prop := fun vs H Q => ∃ a kvs, vs = [.ref a] ∧ H a = some (.dK kvs) ∧ ∀ l, H l = none → Q (.ref l) (upd H l (.dK kvs))
theorem call_dict_of {X : Cx} : CallR X (.type "dict") rDictOf := by
  intro pins s σ H vs us Q I r h
  obtain ⟨a, kvs, rfl, ha, k⟩ := h
  cases r with
  | cons r rr =>
    cases rr
    obtain rfl := r
    obtain ⟨hz, hS, ws, rv, m⟩ : kvs.length ≤ sizeLine ∧ (a == sysModules) = false ∧ ∃ vs, KV kvs vs ∧ s.heap.DictOf (mixKind X.prog X.w) a vs := I.hok a _ ha
    have hl : kvs.length = ws.length := Paired.length rv
    have hb : sysModules < s.heap.objs.size := Nat.lt_trans (by decide) ((I.mod.glob.keeps I.bk).lt : mainGlobals < s.heap.objs.size)
    refine kt_call_dict hS m (by rw [← hl]; exact hz) fun h' hd hs => ?_
    have hf : H s.heap.objs.size = none := I.hok.fresh (Nat.le_refl _)
    refine ⟨.ref s.heap.objs.size, _, I.laid (a := s.heap.objs.size) (o := .dK kvs) (t' := s.toks) (fun b o q => (hs.2 b (Nat.ne_of_lt (Heap.lt_size q))).trans (Heap.get?_push_of_some _ q)) (Nat.le_refl _)
      ⟨hz, beq_eq_false_iff_ne.mpr (Ne.symm (Nat.ne_of_lt hb)), ws, rv, hd⟩, rfl, k _ hf⟩
theorem pdf_dictOf (hm : X.mg "dict" = none) (hv : bootBuiltins "dict" = some (.type "dict")) (ha : PD X e g) (hg : Gl X "dict" := by rfl)
    (he : starEach [e] X.env = (false, eval e X.env) :: starEach [] X.env := by rfl) (hpl : (backTo pos (starEach [] X.env)).any (·.1) = false := by rfl) :
    PDF X (.Call (.Name "dict" p) [e] [] pos) (oA (consA g nilA) dictOfD) := .mk fun B δ => (pe_callTy call_dict_of hg hm hv (pa_cons (ha B δ) pa_nil he) (by decide) (by decide) he hpl).imp fun σ H Q ⟨d, en, h, k⟩ => by
  unfold oA consA nilA at h
  cases e1 : g δ with
  | none => rw [e1] at h; cases h
  | some x =>
    rw [e1] at h
    simp only [Option.bind_some, Option.map_some] at h
    refine ⟨x, en, e1, fun v H1 s1 r1 => ?_⟩
    cases x <;> simp only [dictOfD] at h <;> try cases h
    rw [rp_dct] at r1
    obtain ⟨q, xs, rfl, nq, hq, hl, rr⟩ := r1
    exact ⟨q, _, rfl, hq, fun l hl' => k l _ (s1.free hl') (s1.trans (same_upd hl')) ⟨xs, upd_same, hl, rr.mono (Gr.fresh hl')⟩⟩
end
/-! list(range(n)) -/
section
variable {X : Cx} {e : Expr} {pos p pos2 p2 : Pos} {gA : Ds → Option (List D)}
def rLRange : List V → Hp → VK → Prop := fun vs H Q => ∃ j : Int, vs = [.int j] ∧ -(2 ^ 62) ≤ j ∧ j ≤ 1000000 ∧ ∀ l, H l = none → Q (.ref l) (upd H l (.lst ((List.range j.toNat).map fun (k : Nat) => V.int (k : Int))))
theorem call_list_rng {X : Cx} (hc : X.calm = true := by rfl) : CallR2 X (.type "list") (.type "range") rLRange := by
  intro pins s σ H vs us Q I r h
  obtain ⟨j, rfl, h1, h2, k⟩ := h
  cases r with
  | cons r rr =>
    cases rr
    obtain ⟨t, rfl⟩ := r
    refine call_range_1 ?_
    have hsz : Builtin.Range.rangeSize 0 j 1 = (j.toNat : Nat) := by rw [rangeSize_one]; split <;> omega
    have zl : (1000000 : Nat) ≤ sizeLine := by decide
    refine call_list_range (s := { s with heap := s.heap.push { cls := .type "range", data := .fields #[.int 0 s.toks, .int j t, .int 1 (s.toks + 1)] }, toks := s.toks + 1 + 1 }) (n := j.toNat) (I.ok.hd hc) (IsRange.new ..) (small_one (by omega) (by omega) h1 (by omega)) hsz (by
      have : (1000000 : Nat) ≤ 2 ^ 24 := by decide
      omega) fun h' tk acc c hk ha hi => ?_
    have hS : (s.heap.push { cls := .type "range", data := .fields #[.int 0 s.toks, .int j t, .int 1 (s.toks + 1)] }).objs.size = s.heap.objs.size + 1 := Heap.size_push ..
    have ha : h'.get? (s.heap.objs.size + 1) = some { cls := .type "list", dict := none, data := .seq acc c, slots := #[] } := by rw [← hS]; exact ha
    have hf : H (s.heap.objs.size + 1) = none := I.hok.fresh (Nat.le_succ _)
    show EP X pins σ Q (.ref (s.heap.push _).objs.size) _
    rw [hS]
    refine ⟨.ref (s.heap.objs.size + 1), _, I.laid (a := s.heap.objs.size + 1) (o := .lst ((List.range j.toNat).map fun (k : Nat) => V.int (k : Int))) (t' := tk) (fun b o q => hk b o (Heap.get?_push_of_some _ q)) (Nat.le_succ _) ⟨by rw [List.length_map, List.length_range]; omega, acc.toList, c, ?_, by rw [ha]⟩, rfl, k _ hf⟩
    have key : ∀ (l : List Value) (m : Nat), (∀ i v, l[i]? = some v → ∃ t, v = Value.int ((m + i : Nat) : Int) t) → Vals ((List.range' m l.length).map fun (k : Nat) => V.int (k : Int)) l := by
      intro l
      induction l with
      | nil => intro m _; exact .nil
      | cons v l ih =>
        intro m h
        obtain ⟨t0, e0⟩ := h 0 v rfl
        rw [List.length_cons, List.range'_succ, List.map_cons]
        refine .cons ⟨t0, by simpa using e0⟩ (ih (m + 1) fun i w hw => ?_)
        obtain ⟨t1, e1⟩ := h (i + 1) w (by simpa using hw)
        exact ⟨t1, by rw [e1]; congr 2; omega⟩
    have hlen : acc.toList.length = j.toNat := by rw [Array.length_toList]; exact hi.1
    have := key acc.toList 0 (fun i v hv => by
      obtain ⟨t0, e0⟩ := hi.2 i v (by simpa using hv)
      exact ⟨t0, by rw [e0]; congr 1; omega⟩)
    rw [hlen, ← List.range_eq_range'] at this
    exact this
theorem pdf_lrange (hm1 : X.mg "list" = none) (hm2 : X.mg "range" = none) (ha : PDA X [e] gA) (hc : X.calm = true := by rfl) (hg1 : Gl X "list" := by rfl) (hg2 : Gl X "range" := by rfl)
    (e1 : starEach [.Call (.Name "range" p2) [e] [] pos2] X.env = (false, eval (.Call (.Name "range" p2) [e] [] pos2) X.env) :: starEach [] X.env := by rfl) (h1 : (backTo pos (starEach [] X.env)).any (·.1) = false := by rfl)
    (he : starEach [e] X.env = (false, eval e X.env) :: starEach [] X.env := by rfl) (hpl : (backTo pos2 (starEach [] X.env)).any (·.1) = false := by rfl) :
    PDF X (.Call (.Name "list" p) [.Call (.Name "range" p2) [e] [] pos2] [] pos) (oA gA lrngD) := .mk fun B δ => (pe_nestTT (call_list_rng hc) hg1 hg2 hm1 hm2 b_list0 boot_range (ha B δ) (by decide) (by decide) (by decide) (by decide) e1 h1 he hpl).imp fun σ H Q ⟨d, en, h, k⟩ => by
  unfold oA at h
  cases e3 : gA δ with
  | none => rw [e3] at h; cases h
  | some ds =>
    rw [e3] at h
    simp only [Option.bind_some] at h
    unfold lrngD at h
    split at h <;> try cases h
    rename_i j
    split at h <;> try cases h
    rename_i hj
    refine ⟨_, en, e3, fun vs H1 s1 r => ?_⟩
    rw [rps_cons] at r
    obtain ⟨x, t, rfl, r1, r⟩ := r
    rw [rps_nil] at r; subst r
    rw [rp_int] at r1; subst r1
    refine ⟨j, rfl, hj.1, hj.2, fun l hl => k l _ (s1.free hl) (s1.trans (same_upd hl)) ⟨_, upd_same, ?_⟩⟩
    have : ∀ (l : List Nat) (H : Hp) (B : BS), Rps X.K H B (l.map fun (k : Nat) => D.int (k : Int)) (l.map fun (k : Nat) => V.int (k : Int)) := by
      intro l H B
      induction l with
      | nil => simp [rps_nil]
      | cons a l ih => rw [List.map_cons, List.map_cons, rps_cons]; exact ⟨_, _, rfl, by rw [rp_int], ih⟩
    exact this _ _ _
end
end DL
namespace W
open PySem DL
def m_is_whole : List D → Option D
  | [d] => some (.bl (isInt d && !isBool d))
  | _ => none
def G_is_whole : GS := (seqD (retD (andG (isiG isInt (gv 0)) (notG (isiG isBool (gv 0)))))
  nilD)
theorem hf_is_whole (ds : List D) (d : D) (h : m_is_whole ds = some d) : ds.length = 1 ∧ G_is_whole (dStart ["thing"] ds) = some (.rt d) := by
  unfold m_is_whole at h
  split at h
  · cases h
    refine ⟨rfl, ?_⟩
    rename_i x
    cases x <;> rfl
  · cases h
def hasAll (x s : Str) : Bool := x.cps.toList.all fun c => decide (c ∈ s.cps.toList)
def m_is_spelled : List D → Option D
  | [.str x, .str s, .int m] => if x.length ≤ sizeLine then some (.bl (decide ((x.length : Int) ≤ m) && hasAll x s)) else none
  | [_, .str _, .int _] => some (.bl false)
  | _ => none
def G_is_spelled : GS := (seqD (retD (andG (isiG isStr (gv 0)) (andG (o2 (oA (consA (gv 0) nilA) lenD) (gv 2) leD) (oA (consA (compG 1 [1] (strI (gv 0)) (gN 0) noT (o2 (gv 0) (gv 1) inD)) nilA) allD))))
  nilD)
theorem comp_in (x s : Str) : compD (gN 0) noT (o2 (gv 0) (gv 1) inD) [.un, .sh (.str s)] (signs x) = some (x.cps.toList.map fun c => .bl (decide (c ∈ s.cps.toList))) := by
  have h := compD_map (f := gN 0) (gt := noT) (ge := o2 (gv 0) (gv 1) inD) (δ := [.un, .sh (.str s)]) (fun d => match d with | .str c => .bl (inS c s) | _ => .non) (items := signs x) (fun d hd => by
    obtain ⟨c, _, rfl⟩ := List.mem_map.mp hd
    exact ⟨[.sh (.str ⟨#[c]⟩), .sh (.str s)], rfl, rfl, rfl⟩)
  rw [h]
  unfold signs
  rw [List.map_map]
  congr 1
  refine List.map_congr_left fun c _ => ?_
  show D.bl (inS ⟨#[c]⟩ s) = _
  rw [inS_one]
theorem hf_is_spelled (ds : List D) (d : D) (h : m_is_spelled ds = some d) : ds.length = 3 ∧ G_is_spelled (dStart ["thing", "signs", "most"] ds) = some (.rt d) := by
  unfold m_is_spelled at h
  split at h
  · split at h
    · rename_i x s m hz
      cases h
      refine ⟨rfl, ?_⟩
      have hs : (signs x).length ≤ sizeLine := by unfold signs; rw [List.length_map]; exact hz
      have e1 := comp_in x s
      unfold G_is_spelled
      simp only [dStart, seqD, retD, andG, isiG, gv, ob, asB, o2, oA, consA, nilA, lenD, leD, ii, hz, hs, strI, asSigns, compG, dComp, capSl, allD, isStr, nilD, List.map, List.length, List.replicate, List.append, if_true, Option.bind_some, Option.map_some, List.getElem?_cons_zero, List.getElem?_cons_succ, List.append_nil, List.nil_append, List.cons_append, e1, bools_map]
      by_cases hm : (x.length : Int) ≤ m
      · simp [hm, hasAll]
      · simp [hm]
    · cases h
  · cases h
    refine ⟨rfl, ?_⟩
    rename_i y _ _ hn
    cases y <;> first | rfl | exact (hn _ rfl).elim | exact (hn _ _ rfl).elim | exact (hn _ _ _ rfl).elim
  · cases h
def nameS : Str := "0123456789abcdefghijklmnopqrstuvwxyz"
def wordS : Str := " 0123456789abcdefghijklmnopqrstuvwxyz"
def isName (x : Str) : Bool := (decide ((x.length : Int) ≤ 8) && hasAll x nameS) && decide (0 < (x.length : Int))
def isWord (x : Str) : Bool := decide ((x.length : Int) ≤ 20) && hasAll x wordS
def m_is_name : List D → Option D
  | [.str x] => if x.length ≤ sizeLine then some (.bl (isName x)) else none
  | [_] => some (.bl false)
  | _ => none
def G_is_name : GS := (seqD (retD (andG (oA (consA (gv 0) (consA (gc (.str "0123456789abcdefghijklmnopqrstuvwxyz")) (consA (gc (.int 8)) nilA))) m_is_spelled) (o2 (oA (consA (gv 0) nilA) lenD) (gc (.int 0)) gtD)))
  nilD)
theorem hf_is_name (ds : List D) (d : D) (h : m_is_name ds = some d) : ds.length = 1 ∧ G_is_name (dStart ["thing"] ds) = some (.rt d) := by
  unfold m_is_name at h
  split at h
  · split at h
    · rename_i x hz
      cases h
      refine ⟨rfl, ?_⟩
      unfold G_is_name
      have e1 : m_is_spelled [.str x, .str nameS, .int 8] = some (.bl (decide ((x.length : Int) ≤ 8) && hasAll x nameS)) := by
        exact if_pos hz
      have e2 : ("0123456789abcdefghijklmnopqrstuvwxyz" : Str) = nameS := rfl
      cases hb : (decide ((x.length : Int) ≤ 8) && hasAll x nameS) <;> simp [e1, e2, hb, hz, isName]
    · cases h
  · cases h
    refine ⟨rfl, ?_⟩
    rename_i y hn
    cases y <;> first | rfl | exact (hn _ rfl).elim
  · cases h
def m_is_word : List D → Option D
  | [.str x] => if x.length ≤ sizeLine then some (.bl (isWord x)) else none
  | [_] => some (.bl false)
  | _ => none
def G_is_word : GS := (seqD (retD (oA (consA (gv 0) (consA (gc (.str " 0123456789abcdefghijklmnopqrstuvwxyz")) (consA (gc (.int 20)) nilA))) m_is_spelled))
  nilD)
theorem hf_is_word (ds : List D) (d : D) (h : m_is_word ds = some d) : ds.length = 1 ∧ G_is_word (dStart ["thing"] ds) = some (.rt d) := by
  unfold m_is_word at h
  split at h
  · split at h
    · rename_i x hz
      cases h
      refine ⟨rfl, ?_⟩
      unfold G_is_word
      have e1 : m_is_spelled [.str x, .str wordS, .int 20] = some (.bl (decide ((x.length : Int) ≤ 20) && hasAll x wordS)) := by
        exact if_pos hz
      have e2 : (" 0123456789abcdefghijklmnopqrstuvwxyz" : Str) = wordS := rfl
      simp [e1, e2, isWord]
    · cases h
  · cases h
    refine ⟨rfl, ?_⟩
    rename_i y hn
    cases y <;> first | rfl | exact (hn _ rfl).elim
  · cases h
def marks (x : D) (m : Str) : Bool := match x with
  | .str y => decide (y = m)
  | _ => false
def m_is_marked : List D → Option D
  | [.tup xs, .str m, .int c] => match xs with
    | x :: r => some (.bl (decide (((r.length + 1 : Nat) : Int) = c) && marks x m))
    | [] => if (0 : Int) = c then none else some (.bl false)
  | [_, .str _, .int _] => some (.bl false)
  | _ => none
def G_is_marked : GS := (seqD (retD (andG (isiG isTup (gv 0)) (andG (o2 (oA (consA (gv 0) nilA) lenD) (gv 2) eqD) (andG (isiG isStr (o2 (gv 0) (gc (.int 0)) ixD)) (o2 (o2 (gv 0) (gc (.int 0)) ixD) (gv 1) eqD)))))
  nilD)
theorem hf_is_marked (ds : List D) (d : D) (h : m_is_marked ds = some d) : ds.length = 3 ∧ G_is_marked (dStart ["thing", "mark", "count"] ds) = some (.rt d) := by
  unfold m_is_marked at h
  split at h
  · rename_i xs m c
    cases xs with
    | nil =>
      dsimp only at h
      split at h
      · cases h
      · rename_i hc
        cases h
        refine ⟨rfl, ?_⟩
        simp [G_is_marked, hc]
    | cons x r =>
      cases h
      refine ⟨rfl, ?_⟩
      by_cases hc : ((r.length + 1 : Nat) : Int) = c
      · have hx : atI (x :: r) 0 = some x := by simp [atI, ixN]
        cases x <;> simp [G_is_marked, hc, hx, marks] <;> simp_all
      · have hc' : ¬ ((r.length : Int) + 1 = c) := by simpa using hc
        simp [G_is_marked, hc']
  · cases h
    refine ⟨rfl, ?_⟩
    rename_i y _ _ hn
    cases y <;> first | rfl | exact (hn _ rfl).elim | exact (hn _ _ rfl).elim | exact (hn _ _ _ rfl).elim
  · cases h
def m_is_link : List D → Option D
  | [.tup [x, .int i]] => some (.bl (marks x "at" && decide (0 ≤ i)))
  | [_] => some (.bl false)
  | _ => none
def G_is_link : GS := (seqD (retD (andG (oA (consA (gv 0) (consA (gc (.str "at")) (consA (gc (.int 2)) nilA))) m_is_marked) (andG (oA (consA (o2 (gv 0) (gc (.int 1)) ixD) nilA) m_is_whole) (o2 (o2 (gv 0) (gc (.int 1)) ixD) (gc (.int 0)) geD))))
  nilD)
theorem hf_is_link (ds : List D) (d : D) (h : m_is_link ds = some d) : ds.length = 1 ∧ G_is_link (dStart ["thing"] ds) = some (.rt d) := by
  have key : ∀ x : D, ∃ b, m_is_link [x] = some (.bl b) ∧ G_is_link (dStart ["thing"] [x]) = some (.rt (.bl b)) := by
    intro x
    cases x with
    | tup xs =>
      match xs with
      | [] => exact ⟨false, rfl, rfl⟩
      | [x] => exact ⟨false, rfl, by simp [G_is_link, m_is_marked]⟩
      | [x, y] =>
        have e1 : m_is_marked [.tup [x, y], .str "at", .int 2] = some (.bl (marks x "at")) := by simp [m_is_marked]
        have e2 : atI [x, y] 1 = some y := rfl
        cases hm : marks x "at" with
        | false =>
          refine ⟨false, ?_, by simp [G_is_link, e1, hm]⟩
          cases y <;> simp [m_is_link, hm]
        | true =>
          cases y with
          | int i => exact ⟨decide (0 ≤ i), by simp [m_is_link, hm], by simp [G_is_link, e1, hm, e2, m_is_whole]⟩
          | _ => exact ⟨false, by simp [m_is_link], by simp [G_is_link, e1, hm, e2, m_is_whole]⟩
      | x :: y :: z :: r =>
        refine ⟨false, by simp [m_is_link], ?_⟩
        have : ¬ ((r.length : Int) + 1 + 1 + 1 = 2) := by omega
        simp [G_is_link, m_is_marked, this]
    | _ => exact ⟨false, rfl, rfl⟩
  match ds, h with
  | [x], h =>
    obtain ⟨b, h1, h2⟩ := key x
    rw [h1] at h
    cases h
    exact ⟨rfl, h2⟩
  | x :: y :: r, h => simp [m_is_link] at h
def m_is_value : List D → Option D
  | [.non] => some (.bl true)
  | [.int _] => some (.bl true)
  | [.tup xs] => m_is_link [.tup xs]
  | [_] => some (.bl false)
  | _ => none
def G_is_value : GS := (seqD (retD (orG (o2 (gv 0) (gc .non) isND) (orG (oA (consA (gv 0) nilA) m_is_whole) (oA (consA (gv 0) nilA) m_is_link))))
  nilD)
theorem hf_is_value (ds : List D) (d : D) (h : m_is_value ds = some d) : ds.length = 1 ∧ G_is_value (dStart ["thing"] ds) = some (.rt d) := by
  match ds, h with
  | [x], h =>
    refine ⟨rfl, ?_⟩
    cases x with
    | tup xs =>
      have h' : m_is_link [.tup xs] = some d := h
      have e1 : m_is_whole [.tup xs] = some (.bl false) := rfl
      simp [G_is_value, e1, h']
    | non => cases h; rfl
    | int i => cases h; rfl
    | bl b => cases h; rfl
    | str x => cases h; rfl
    | lst x => cases h; rfl
    | dct x y => cases h; rfl
  | x :: y :: r, h => simp [m_is_value] at h
def G_is_tuple : GS := (seqD (retD (andG (isiG isTup (gv 0)) (o2 (oA (consA (gv 0) nilA) lenD) (gv 1) leD)))
  nilD)
def N_is_tuple : List Str := ["thing", "most"]
def m_is_tuple : List D → Option D := mkF 2 N_is_tuple G_is_tuple
def G_is_values : GS := (seqD (retD (andG (oA (consA (gv 0) (consA (gc (.int 12)) nilA)) m_is_tuple) (oA (consA (compG 1 [] (tupI (gv 0)) (gN 0) noT (oA (consA (gv 0) nilA) m_is_value)) nilA) allD)))
  nilD)
def N_is_values : List Str := ["thing"]
def m_is_values : List D → Option D := mkF 1 N_is_values G_is_values
def G_is_pair : GS := (seqD (retD (andG (isiG isTup (gv 0)) (andG (o2 (oA (consA (gv 0) nilA) lenD) (gc (.int 2)) eqD) (andG (oA (consA (o2 (gv 0) (gc (.int 0)) ixD) nilA) m_is_name) (oA (consA (o2 (gv 0) (gc (.int 1)) ixD) nilA) m_is_value)))))
  nilD)
def N_is_pair : List Str := ["thing"]
def m_is_pair : List D → Option D := mkF 1 N_is_pair G_is_pair
def G_is_pairs : GS := (seqD (ifD (tOrG (tNotG (ob (oA (consA (gv 0) (consA (gc (.int 12)) nilA)) m_is_tuple))) (tNotG (ob (oA (consA (compG 1 [] (tupI (gv 0)) (gN 0) noT (oA (consA (gv 0) nilA) m_is_pair)) nilA) allD))))
  (seqD (retD (gc (.bl false)))
  nilD)
  nilD)
  (seqD (retD (o2 (oA (consA (compG 1 [] (tupI (gv 0)) (gN 0) noT (o2 (gv 0) (gc (.int 0)) ixD)) nilA) lenSetD) (oA (consA (gv 0) nilA) lenD) eqD))
  nilD))
def N_is_pairs : List Str := ["thing"]
def m_is_pairs : List D → Option D := mkF 1 N_is_pairs G_is_pairs
def G_is_part : GS := (seqD (ifD (ob (oA (consA (gv 0) (consA (gc (.str "text")) (consA (gc (.int 2)) nilA))) m_is_marked))
  (seqD (retD (oA (consA (o2 (gv 0) (gc (.int 1)) ixD) nilA) m_is_word))
  nilD)
  nilD)
  (seqD (ifD (ob (oA (consA (gv 0) (consA (gc (.str "row")) (consA (gc (.int 2)) nilA))) m_is_marked))
  (seqD (retD (oA (consA (o2 (gv 0) (gc (.int 1)) ixD) nilA) m_is_values))
  nilD)
  nilD)
  (seqD (ifD (ob (oA (consA (gv 0) (consA (gc (.str "table")) (consA (gc (.int 2)) nilA))) m_is_marked))
  (seqD (retD (oA (consA (o2 (gv 0) (gc (.int 1)) ixD) nilA) m_is_pairs))
  nilD)
  nilD)
  (seqD (retD (andG (oA (consA (gv 0) (consA (gc (.str "record")) (consA (gc (.int 3)) nilA))) m_is_marked) (andG (oA (consA (o2 (gv 0) (gc (.int 1)) ixD) nilA) m_is_name) (oA (consA (o2 (gv 0) (gc (.int 2)) ixD) nilA) m_is_pairs))))
  nilD))))
def N_is_part : List Str := ["thing"]
def m_is_part : List D → Option D := mkF 1 N_is_part G_is_part
def G_values : GS := (seqD (ifD (ob (o2 (o2 (gv 0) (gc (.int 0)) ixD) (gc (.str "text")) eqD))
  (seqD (retD (lstG nilA))
  nilD)
  nilD)
  (seqD (ifD (ob (o2 (o2 (gv 0) (gc (.int 0)) ixD) (gc (.str "row")) eqD))
  (seqD (retD (oA (consA (o2 (gv 0) (gc (.int 1)) ixD) nilA) lstOfD))
  nilD)
  nilD)
  (seqD (retD (compG 1 [] (tupI (o2 (gv 0) (unG negD (gc (.int 1))) ixD)) (gN 0) noT (o2 (gv 0) (gc (.int 1)) ixD)))
  nilD)))
def N_values : List Str := ["part"]
def m_values : List D → Option D := mkF 1 N_values G_values
def G_links : GS := (seqD (retD (compG 1 [] (lstI (oA (consA (gv 0) nilA) m_values)) (gN 0) (ob (isiG isTup (gv 0))) (o2 (gv 0) (gc (.int 1)) ixD)))
  nilD)
def N_links : List Str := ["part"]
def m_links : List D → Option D := mkF 1 N_links G_links
def G_links_lead : GS := (seqD (forG (tupI (gv 0)) (gN 1)
  (seqD (forG (lstI (oA (consA (gv 1) nilA) m_links)) (gN 2)
  (seqD (ifD (ob (o2 (gv 2) (oA (consA (gv 0) nilA) lenD) geD))
  (seqD (retD (gc (.bl false)))
  nilD)
  nilD)
  nilD))
  nilD))
  (seqD (retD (gc (.bl true)))
  nilD))
def N_links_lead : List Str := ["web", "part", "k"]
def m_links_lead : List D → Option D := mkF 1 N_links_lead G_links_lead
def G_pair_names : GS := (seqD (ifD (tOrG (ob (o2 (o2 (gv 0) (gc (.int 0)) ixD) (gc (.str "text")) eqD)) (ob (o2 (o2 (gv 0) (gc (.int 0)) ixD) (gc (.str "row")) eqD)))
  (seqD (retD (lstG nilA))
  nilD)
  nilD)
  (seqD (retD (compG 1 [] (tupI (o2 (gv 0) (unG negD (gc (.int 1))) ixD)) (gN 0) noT (o2 (gv 0) (gc (.int 0)) ixD)))
  nilD))
def N_pair_names : List Str := ["part"]
def m_pair_names : List D → Option D := mkF 1 N_pair_names G_pair_names
def G_count_names : GS := (seqD (ownD 1 (lstG nilA))
  (seqD (forG (tupI (gv 0)) (gN 2)
  (seqD (exprX (extX 1 (oA (consA (gv 2) nilA) m_pair_names)))
  (seqD (ifD (ob (o2 (o2 (gv 2) (gc (.int 0)) ixD) (gc (.str "record")) eqD))
  (seqD (exprX (appX 1 (o2 (gv 2) (gc (.int 1)) ixD)))
  nilD)
  nilD)
  nilD)))
  (seqD (retD (borA (oA (consA (gv 1) nilA) lenSetD)))
  nilD)))
def N_count_names : List Str := ["web", "names", "part"]
def m_count_names : List D → Option D := mkF 1 N_count_names G_count_names
def G_is_web : GS := (seqD (ifD (tOrG (tNotG (ob (oA (consA (gv 0) (consA (gc (.int 60)) nilA)) m_is_tuple))) (ob (o2 (oA (consA (gv 0) nilA) lenD) (gc (.int 0)) eqD)))
  (seqD (retD (gc (.bl false)))
  nilD)
  nilD)
  (seqD (ifD (tNotG (ob (oA (consA (compG 1 [] (tupI (gv 0)) (gN 0) noT (oA (consA (gv 0) nilA) m_is_part)) nilA) allD)))
  (seqD (retD (gc (.bl false)))
  nilD)
  nilD)
  (seqD (retD (andG (oA (consA (gv 0) nilA) m_links_lead) (o2 (oA (consA (gv 0) nilA) m_count_names) (gc (.int 60)) leD)))
  nilD)))
def N_is_web : List Str := ["thing"]
def m_is_web : List D → Option D := mkF 1 N_is_web G_is_web
end W
namespace W
open PySem DL
/-! ### what is_part tells -/
theorem tuple_t (ds : List D) (m : Int) : m_is_tuple [.tup ds, .int m] = some (.bl (decide ((ds.length : Int) ≤ m))) := by
  simp [m_is_tuple, mkF, N_is_tuple, G_is_tuple]
def valB : D → Bool
  | .non => true
  | .int _ => true
  | .tup [x, .int i] => marks x "at" && decide (0 ≤ i)
  | _ => false
theorem value_b (d : D) : m_is_value [d] = some (.bl (valB d)) := by
  cases d with
  | tup xs =>
    match xs with
    | [] => rfl
    | [x] => rfl
    | [x, y] => cases y <;> rfl
    | x :: y :: z :: r => simp [m_is_value, m_is_link, valB]
  | _ => rfl
theorem comp_vals (ds : List D) : compD (gN 0) noT (oA (consA (gv 0) nilA) m_is_value) [.un] ds = some (ds.map fun d => .bl (valB d)) :=
  compD_map (fun d => .bl (valB d)) fun d _ => ⟨[.sh d], rfl, rfl, value_b d⟩
theorem values_t (ds : List D) (hl : ds.length ≤ sizeLine) : m_is_values [.tup ds] = some (.bl (decide ((ds.length : Int) ≤ 12) && ds.all valB)) := by
  have e1 := comp_vals ds
  have e2 := tuple_t ds 12
  have e3 := bools_map valB ds
  by_cases h : (ds.length : Int) ≤ 12
  · simp [m_is_values, mkF, N_is_values, G_is_values, e1, e2, e3, hl, h]
  · simp [m_is_values, mkF, N_is_values, G_is_values, e2, h]
def nameB : D → Bool
  | .str x => isName x
  | _ => false
/-- a text not too long -/
def okS : D → Prop
  | .str x => x.length ≤ sizeLine
  | _ => True
theorem name_b (d : D) (h : okS d) : m_is_name [d] = some (.bl (nameB d)) := by
  cases d <;> first | rfl | exact if_pos h
def pairB : D → Bool
  | .tup [n, v] => nameB n && valB v
  | _ => false
def okP : D → Prop
  | .tup (n :: _) => okS n
  | _ => True
theorem pair_b (d : D) (h : okP d) : m_is_pair [d] = some (.bl (pairB d)) := by
  cases d with
  | tup xs =>
    match xs, h with
    | [], _ => rfl
    | [x], h => simp [m_is_pair, mkF, N_is_pair, G_is_pair, pairB]
    | [x, y], h =>
      have e1 := name_b x h
      have e2 := value_b y
      have a0 : atI [x, y] 0 = some x := rfl
      have a1 : atI [x, y] 1 = some y := rfl
      cases hn : nameB x <;> simp [m_is_pair, mkF, N_is_pair, G_is_pair, pairB, e1, e2, a0, a1, hn]
    | x :: y :: z :: r, h =>
      have : ¬ ((r.length : Int) + 1 + 1 + 1 = 2) := by omega
      simp [m_is_pair, mkF, N_is_pair, G_is_pair, pairB, this]
  | _ => rfl
def fstS : D → Str
  | .tup (.str n :: _) => n
  | _ => ""
theorem comp_pairs (ds : List D) (h : ∀ d ∈ ds, okP d) : compD (gN 0) noT (oA (consA (gv 0) nilA) m_is_pair) [.un] ds = some (ds.map fun d => .bl (pairB d)) :=
  compD_map (fun d => .bl (pairB d)) fun d hd => ⟨[.sh d], rfl, rfl, pair_b d (h d hd)⟩
theorem comp_firsts (ds : List D) (h : ds.all pairB = true) : compD (gN 0) noT (o2 (gv 0) (gc (.int 0)) ixD) [.un] ds = some (ds.map fun d => .str (fstS d)) :=
  compD_map (fun d => .str (fstS d)) fun d hd => by
    refine ⟨[.sh d], rfl, rfl, ?_⟩
    have hp := List.all_eq_true.mp h d hd
    cases d with
    | tup xs =>
      match xs, hp with
      | [n, v], hp =>
        cases n with
        | str x => rfl
        | _ => simp [pairB, nameB] at hp
    | _ => simp [pairB] at hp
theorem pairs_t (ds : List D) (hl : ds.length ≤ sizeLine) (h : ∀ d ∈ ds, okP d) :
    m_is_pairs [.tup ds] = some (.bl (decide ((ds.length : Int) ≤ 12) && ds.all pairB && decide (((onceS (ds.map fstS)).length : Int) = (ds.length : Int)))) := by
  have e1 := comp_pairs ds h
  have e2 := tuple_t ds 12
  have e3 := bools_map pairB ds
  by_cases hz : (ds.length : Int) ≤ 12
  · cases ha : ds.all pairB with
    | false =>
      have ha' : (ds.map pairB).all id = false := by rw [List.all_map]; exact ha
      simp [m_is_pairs, mkF, N_is_pairs, G_is_pairs, e1, e2, e3, hl, hz, ha']
    | true =>
      have ha' : (ds.map pairB).all id = true := by rw [List.all_map]; exact ha
      have e4 := comp_firsts ds ha
      have e5 := strs_map fstS ds
      have e6 : (ds.map fstS).length ≤ 4000 := by rw [List.length_map]; omega
      simp only [List.length_map] at e6
      simp [m_is_pairs, mkF, N_is_pairs, G_is_pairs, e1, e2, e3, e4, e5, e6, hl, hz, ha']
  · simp [m_is_pairs, mkF, N_is_pairs, G_is_pairs, e2, hz]
/-! ### each once -/
theorem hasS_mem (l : List Str) (y : Str) : hasS l y = true ↔ y ∈ l := by
  unfold hasS
  rw [List.any_eq_true]
  constructor
  · rintro ⟨z, hz, e⟩
    have := of_decide_eq_true e
    subst this; exact hz
  · intro h; exact ⟨y, h, decide_eq_true rfl⟩
theorem foldl_ins : ∀ (ys acc : List Str), (ys.foldl insS acc).length ≤ acc.length + ys.length ∧ ((ys.foldl insS acc).length = acc.length + ys.length ↔ ys.Nodup ∧ ∀ y ∈ ys, y ∉ acc)
  | [], acc => by simp
  | y :: ys, acc => by
    rw [List.foldl_cons]
    unfold insS
    by_cases h : hasS acc y = true
    · rw [if_pos h]
      have ih := foldl_ins ys acc
      unfold insS at ih
      have hm := (hasS_mem acc y).mp h
      refine ⟨by rw [List.length_cons]; omega, ?_⟩
      constructor
      · intro e; rw [List.length_cons] at e; omega
      · rintro ⟨_, h2⟩; exact absurd hm (h2 y List.mem_cons_self)
    · rw [if_neg h]
      have ih := foldl_ins ys (acc ++ [y])
      unfold insS at ih
      have hm : y ∉ acc := fun z => h ((hasS_mem acc y).mpr z)
      rw [List.length_append, List.length_singleton] at ih
      refine ⟨by rw [List.length_cons]; omega, ?_⟩
      rw [List.length_cons]
      constructor
      · intro e
        obtain ⟨h1, h2⟩ := ih.2.mp (by omega)
        refine ⟨List.nodup_cons.mpr ⟨fun z => h2 y z (by simp), h1⟩, fun z hz => ?_⟩
        rcases List.mem_cons.mp hz with rfl | hz
        · exact hm
        · exact fun q => h2 z hz (by simp [q])
      · rintro ⟨h1, h2⟩
        obtain ⟨h3, h4⟩ := List.nodup_cons.mp h1
        have := ih.2.mpr ⟨h4, fun z hz q => by
          rcases List.mem_append.mp q with q | q
          · exact h2 z (List.mem_cons_of_mem _ hz) q
          · have := List.mem_singleton.mp q
            subst this; exact h3 hz⟩
        omega
theorem once_iff (ys : List Str) : (onceS ys).length = ys.length ↔ ys.Nodup := by
  have := (foldl_ins ys []).2
  unfold onceS
  simpa using this
/-! ### is_part of tuples -/
theorem part_text (w : D) : m_is_part [.tup [.str "text", w]] = m_is_word [w] := by
  have e1 : m_is_marked [.tup [.str "text", w], .str "text", .int 2] = some (.bl true) := rfl
  have a1 : atI [D.str "text", w] 1 = some w := rfl
  cases h : m_is_word [w] <;> simp [m_is_part, mkF, N_is_part, G_is_part, e1, a1, h]
theorem part_row (w : D) : m_is_part [.tup [.str "row", w]] = m_is_values [w] := by
  have e1 : m_is_marked [.tup [.str "row", w], .str "text", .int 2] = some (.bl false) := by simp [m_is_marked, marks]; decide
  have e2 : m_is_marked [.tup [.str "row", w], .str "row", .int 2] = some (.bl true) := rfl
  have a1 : atI [D.str "row", w] 1 = some w := rfl
  cases h : m_is_values [w] <;> simp [m_is_part, mkF, N_is_part, G_is_part, e1, e2, a1, h]
theorem part_table (w : D) : m_is_part [.tup [.str "table", w]] = m_is_pairs [w] := by
  have e1 : m_is_marked [.tup [.str "table", w], .str "text", .int 2] = some (.bl false) := by simp [m_is_marked, marks]; decide
  have e2 : m_is_marked [.tup [.str "table", w], .str "row", .int 2] = some (.bl false) := by simp [m_is_marked, marks]; decide
  have e3 : m_is_marked [.tup [.str "table", w], .str "table", .int 2] = some (.bl true) := rfl
  have a1 : atI [D.str "table", w] 1 = some w := rfl
  cases h : m_is_pairs [w] <;> simp [m_is_part, mkF, N_is_part, G_is_part, e1, e2, e3, a1, h]
theorem part_record (c w : D) (hc : okS c) : m_is_part [.tup [.str "record", c, w]] = if nameB c = true then m_is_pairs [w] else some (.bl false) := by
  have e1 : m_is_marked [.tup [.str "record", c, w], .str "text", .int 2] = some (.bl false) := by simp [m_is_marked]
  have e2 : m_is_marked [.tup [.str "record", c, w], .str "row", .int 2] = some (.bl false) := by simp [m_is_marked]
  have e3 : m_is_marked [.tup [.str "record", c, w], .str "table", .int 2] = some (.bl false) := by simp [m_is_marked]
  have e4 : m_is_marked [.tup [.str "record", c, w], .str "record", .int 3] = some (.bl true) := rfl
  have a1 : atI [D.str "record", c, w] 1 = some c := rfl
  have a2 : atI [D.str "record", c, w] 2 = some w := rfl
  have e5 := name_b c hc
  cases hn : nameB c
  · simp [m_is_part, mkF, N_is_part, G_is_part, e1, e2, e3, e4, e5, a1, a2, hn]
  · cases h : m_is_pairs [w] <;> simp [m_is_part, mkF, N_is_part, G_is_part, e1, e2, e3, e4, e5, a1, a2, hn, h]
end W
/-! Parts and webs, as data, and what the program tells of them. -/
namespace W
open PySem DL
inductive Pt where
  | text (w : Str) | row (vs : List D) | table (ps : List (Str × D)) | rcd (c : Str) (ps : List (Str × D))
def pr (p : Str × D) : D := .tup [.str p.1, p.2]
def Pt.d : Pt → D
  | .text w => .tup [.str "text", .str w]
  | .row vs => .tup [.str "row", .tup vs]
  | .table ps => .tup [.str "table", .tup (ps.map pr)]
  | .rcd c ps => .tup [.str "record", .str c, .tup (ps.map pr)]
def Pt.vals : Pt → List D
  | .text _ => []
  | .row vs => vs
  | .table ps => ps.map (·.2)
  | .rcd _ ps => ps.map (·.2)
def Pt.pnames : Pt → List Str
  | .text _ => []
  | .row _ => []
  | .table ps => ps.map (·.1)
  | .rcd _ ps => ps.map (·.1)
def Pt.cls : Pt → List Str
  | .rcd c _ => [c]
  | _ => []
def Pt.all (p : Pt) : List Str := p.pnames ++ p.cls
/-- a link's number -/
def lk : D → Option Int
  | .tup [_, .int i] => some i
  | _ => none
def Pt.links (p : Pt) : List Int := p.vals.filterMap lk
structure PsOk (ps : List (Str × D)) : Prop where
  len : ps.length ≤ 12
  names : ∀ p ∈ ps, isName p.1 = true
  vals : ∀ p ∈ ps, valB p.2 = true
  nd : (ps.map (·.1)).Nodup
def Pt.Ok : Pt → Prop
  | .text w => isWord w = true
  | .row vs => vs.length ≤ 12 ∧ ∀ v ∈ vs, valB v = true
  | .table ps => PsOk ps
  | .rcd c ps => isName c = true ∧ PsOk ps
theorem name_short {n : Str} (h : isName n = true) : n.length ≤ 8 := by
  unfold isName at h
  simp only [Bool.and_eq_true, decide_eq_true_eq] at h
  omega
theorem name_line {n : Str} (h : isName n = true) : n.length ≤ sizeLine := Nat.le_trans (name_short h) (by decide)
theorem word_line {n : Str} (h : isWord n = true) : n.length ≤ sizeLine := by
  unfold isWord at h
  simp only [Bool.and_eq_true, decide_eq_true_eq] at h
  have : (20 : Nat) ≤ sizeLine := by decide
  omega
theorem PsOk.pairs {ps : List (Str × D)} (h : PsOk ps) : m_is_pairs [.tup (ps.map pr)] = some (.bl true) := by
  have hl : (ps.map pr).length ≤ sizeLine := by rw [List.length_map]; exact Nat.le_trans h.len (by decide)
  rw [pairs_t _ hl (fun d hd => by
    obtain ⟨p, hp, rfl⟩ := List.mem_map.mp hd
    exact name_line (h.names p hp))]
  have h1 : (((ps.map pr).length : Int) ≤ 12) := by have := h.len; rw [List.length_map]; omega
  have h2 : (ps.map pr).all pairB = true := List.all_eq_true.mpr fun d hd => by
    obtain ⟨p, hp, rfl⟩ := List.mem_map.mp hd
    simp [pr, pairB, nameB, h.names p hp, h.vals p hp]
  have h3 : (onceS ((ps.map pr).map fstS)).length = (ps.map pr).length := by
    have e : (ps.map pr).map fstS = ps.map (·.1) := by rw [List.map_map]; rfl
    rw [e, List.length_map]
    have := (once_iff (ps.map (·.1))).mpr h.nd
    rwa [List.length_map] at this
  rw [h2, h3, decide_eq_true h1]
  simp
theorem Pt.Ok.part {p : Pt} (h : p.Ok) : m_is_part [p.d] = some (.bl true) := by
  cases p with
  | text w =>
    show m_is_part [.tup [.str "text", .str w]] = _
    rw [part_text]
    show (if w.length ≤ sizeLine then _ else _) = _
    rw [if_pos (word_line h), show isWord w = true from h]
  | row vs =>
    show m_is_part [.tup [.str "row", .tup vs]] = _
    have hl : vs.length ≤ 12 := h.1
    rw [part_row, values_t _ (Nat.le_trans hl (by decide)), List.all_eq_true.mpr h.2, decide_eq_true (by omega)]
    rfl
  | table ps =>
    show m_is_part [.tup [.str "table", .tup (ps.map pr)]] = _
    rw [part_table]
    exact PsOk.pairs h
  | rcd c ps =>
    show m_is_part [.tup [.str "record", .str c, .tup (ps.map pr)]] = _
    rw [part_record (.str c) _ (name_line h.1), if_pos (show nameB (.str c) = true from h.1)]
    exact h.2.pairs
/-! ### values, links, names -/
theorem comp_snd (ps : List (Str × D)) : compD (gN 0) noT (o2 (gv 0) (gc (.int 1)) ixD) [.un] (ps.map pr) = some (ps.map (·.2)) := by
  rw [compD_map (fun d => match d with | .tup [_, v] => v | _ => .non) (fun d hd => by
    obtain ⟨p, hp, rfl⟩ := List.mem_map.mp hd
    exact ⟨[.sh (pr p)], rfl, rfl, rfl⟩), List.map_map]
  rfl
theorem comp_fst (ps : List (Str × D)) : compD (gN 0) noT (o2 (gv 0) (gc (.int 0)) ixD) [.un] (ps.map pr) = some ((ps.map (·.1)).map .str) := by
  rw [compD_map (fun d => .str (fstS d)) (fun d hd => by
    obtain ⟨p, hp, rfl⟩ := List.mem_map.mp hd
    exact ⟨[.sh (pr p)], rfl, rfl, rfl⟩), List.map_map, List.map_map]
  rfl
def Pt.few (p : Pt) : Prop := p.vals.length ≤ sizeLine
theorem Pt.Ok.few {p : Pt} (h : p.Ok) : p.few := by
  have z : (12 : Nat) ≤ sizeLine := by decide
  cases p with
  | text w => exact Nat.zero_le _
  | row vs => exact Nat.le_trans h.1 z
  | table ps => exact Nat.le_trans (by show (ps.map _).length ≤ 12; rw [List.length_map]; exact PsOk.len h) z
  | rcd c ps => exact Nat.le_trans (by show (ps.map _).length ≤ 12; rw [List.length_map]; exact h.2.len) z
theorem values_ok (p : Pt) (h : p.few) : m_values [p.d] = some (.lst p.vals) := by
  cases p with
  | text w => kernel_rfl
  | row vs =>
    refine mkF_rt rfl (seq_to (δ' := [.sh (Pt.row vs).d]) (by rw [if_f (by kernel_rfl)]; rfl) (seq_rt (by rw [if_t (by kernel_rfl)]; rfl)))
  | table ps =>
    refine mkF_rt rfl (seq_to (δ' := [.sh (Pt.table ps).d]) (by rw [if_f (by kernel_rfl)]; rfl) (seq_to (δ' := [.sh (Pt.table ps).d]) (by rw [if_f (by kernel_rfl)]; rfl) (seq_rt (ret_of ?_))))
    exact comp_of (items := ps.map pr) rfl (by have : (ps.map (·.2)).length ≤ sizeLine := h; simpa using this) (comp_snd ps)
  | rcd c ps =>
    refine mkF_rt rfl (seq_to (δ' := [.sh (Pt.rcd c ps).d]) (by rw [if_f (by kernel_rfl)]; rfl) (seq_to (δ' := [.sh (Pt.rcd c ps).d]) (by rw [if_f (by kernel_rfl)]; rfl) (seq_rt (ret_of ?_))))
    exact comp_of (items := ps.map pr) rfl (by have : (ps.map (·.2)).length ≤ sizeLine := h; simpa using this) (comp_snd ps)
theorem pair_names_ok (p : Pt) (h : p.few) : m_pair_names [p.d] = some (.lst (p.pnames.map .str)) := by
  cases p with
  | text w => kernel_rfl
  | row vs => kernel_rfl
  | table ps =>
    refine mkF_rt rfl (seq_to (δ' := [.sh (Pt.table ps).d]) (by rw [if_f (by kernel_rfl)]; rfl) (seq_rt (ret_of ?_)))
    exact comp_of (items := ps.map pr) rfl (by have : (ps.map (·.2)).length ≤ sizeLine := h; simpa using this) (comp_fst ps)
  | rcd c ps =>
    refine mkF_rt rfl (seq_to (δ' := [.sh (Pt.rcd c ps).d]) (by rw [if_f (by kernel_rfl)]; rfl) (seq_rt (ret_of ?_)))
    exact comp_of (items := ps.map pr) rfl (by have : (ps.map (·.2)).length ≤ sizeLine := h; simpa using this) (comp_fst ps)
/-- values are values -/
def Pt.sane (p : Pt) : Prop := p.few ∧ ∀ v ∈ p.vals, valB v = true
theorem Pt.Ok.sane {p : Pt} (h : p.Ok) : p.sane := by
  refine ⟨h.few, fun v hv => ?_⟩
  cases p with
  | text w => cases hv
  | row vs => exact h.2 v hv
  | table ps => obtain ⟨p, hp, rfl⟩ := List.mem_map.mp hv; exact PsOk.vals h p hp
  | rcd c ps => obtain ⟨p, hp, rfl⟩ := List.mem_map.mp hv; exact h.2.vals p hp
theorem val_cases {v : D} (h : valB v = true) : v = .non ∨ (∃ i, v = .int i) ∨ ∃ i, v = .tup [.str "at", .int i] ∧ 0 ≤ i := by
  cases v with
  | non => exact .inl rfl
  | int i => exact .inr (.inl ⟨i, rfl⟩)
  | tup xs =>
    match xs, h with
    | [x, .int i], h =>
      simp only [valB, Bool.and_eq_true, decide_eq_true_eq] at h
      cases x <;> simp [marks] at h
      exact .inr (.inr ⟨i, by rw [h.1], h.2⟩)
  | _ => cases h
theorem links_ok (p : Pt) (h : p.sane) : m_links [p.d] = some (.lst (p.links.map .int)) := by
  have hf := h.1
  refine mkF_rt rfl (seq_rt (ret_of ?_))
  refine comp_of (items := p.vals) (by
    unfold lstI
    rw [oA_of (ds := [p.d]) rfl, values_ok p hf]
    rfl) hf ?_
  have hd : dComp 1 [] (dStart N_links [p.d]) = [.un] := rfl
  rw [hd, compD_filter isTup (fun d => match lk d with | some i => .int i | none => .non) (fun v hv => by
    rcases val_cases (h.2 v hv) with rfl | ⟨i, rfl⟩ | ⟨i, rfl, _⟩
    · exact ⟨[.sh .non], rfl, rfl, fun z => by cases z⟩
    · exact ⟨[.sh (.int i)], rfl, rfl, fun z => by cases z⟩
    · exact ⟨[.sh (.tup [.str "at", .int i])], rfl, rfl, fun _ => rfl⟩)]
  have key : ∀ vs : List D, (∀ v ∈ vs, valB v = true) → (vs.filter isTup).map (fun d => match lk d with | some i => D.int i | none => D.non) = (vs.filterMap lk).map D.int := by
    intro vs hv
    induction vs with
    | nil => rfl
    | cons v vs ih =>
      have ih := ih fun u hu => hv u (List.mem_cons_of_mem _ hu)
      rcases val_cases (hv v List.mem_cons_self) with rfl | ⟨i, rfl⟩ | ⟨i, rfl, _⟩
      · exact ih
      · exact ih
      · show D.int i :: (vs.filter isTup).map _ = D.int i :: (vs.filterMap lk).map .int
        rw [ih]
  exact congrArg some (key p.vals h.2)
/-- for part in web: for k in links(part) -/
def InnerL : GS := (seqD (ifD (ob (o2 (gv 2) (oA (consA (gv 0) nilA) lenD) geD))
  (seqD (retD (gc (.bl false)))
  nilD)
  nilD)
  nilD)
theorem inner_lead (n : Nat) (ds : List D) (hn : ds.length = n) (a : Sl) : ∀ (ks : List Int) (s : Sl), (∀ k ∈ ks, k < n) → ∃ s', forD (gN 2) InnerL (ks.map .int) [.sh (.tup ds), a, s] = some (.nx [.sh (.tup ds), a, s'])
  | [], s, _ => ⟨s, rfl⟩
  | k :: ks, s, h => by
    obtain ⟨s', e⟩ := inner_lead n ds hn a ks (.sh (.int k)) fun q hq => h q (List.mem_cons_of_mem _ hq)
    refine ⟨s', ?_⟩
    rw [List.map_cons, for_cons (δ1 := [.sh (.tup ds), a, .sh (.int k)]) (δ2 := [.sh (.tup ds), a, .sh (.int k)]) rfl (by
      refine seq_to (δ' := [.sh (.tup ds), a, .sh (.int k)]) (by
        rw [if_f (by
          have := h k List.mem_cons_self
          show some (decide ((ds.length : Int) ≤ k)) = _
          rw [decide_eq_false (by omega)])]
        rfl) rfl)]
    exact e
def OuterL : GS := (seqD (forG (lstI (oA (consA (gv 1) nilA) m_links)) (gN 2) InnerL) nilD)
theorem outer_iter (p : Pt) (h : p.sane) (a s : Sl) : lstI (oA (consA (gv 1) nilA) m_links) [a, .sh p.d, s] = some (p.links.map .int) := by
  unfold lstI
  rw [oA_of (ds := [p.d]) rfl, links_ok p h]
  rfl
theorem outer_lead (n : Nat) (ds : List D) (hn : ds.length = n) : ∀ (ps : List Pt) (a s : Sl), (∀ p ∈ ps, p.sane ∧ ∀ k ∈ p.links, k < n) → ∃ a' s', forD (gN 1) OuterL (ps.map Pt.d) [.sh (.tup ds), a, s] = some (.nx [.sh (.tup ds), a', s'])
  | [], a, s, _ => ⟨a, s, rfl⟩
  | p :: ps, a, s, h => by
    obtain ⟨hs, hk⟩ := h p List.mem_cons_self
    obtain ⟨s1, e1⟩ := inner_lead n ds hn (.sh p.d) p.links s hk
    obtain ⟨a', s', e2⟩ := outer_lead n ds hn ps (.sh p.d) s1 fun q hq => h q (List.mem_cons_of_mem _ hq)
    refine ⟨a', s', ?_⟩
    rw [List.map_cons, for_cons (G := OuterL) (δ1 := [.sh (.tup ds), .sh p.d, s]) (δ2 := [.sh (.tup ds), .sh p.d, s1]) rfl (seq_to (for_of (outer_iter p hs _ _) e1) rfl)]
    exact e2
theorem lead_ok (ps : List Pt) (h : ∀ p ∈ ps, p.sane ∧ ∀ k ∈ p.links, k < ps.length) : m_links_lead [.tup (ps.map Pt.d)] = some (.bl true) := by
  obtain ⟨a', s', e⟩ := outer_lead ps.length (ps.map Pt.d) (by simp) ps .un .un h
  exact mkF_rt rfl (seq_to (for_of (items := ps.map Pt.d) rfl e) rfl)
/-! ### names counted -/
def BodyC : GS := (seqD (exprX (extX 1 (oA (consA (gv 2) nilA) m_pair_names)))
  (seqD (ifD (ob (o2 (o2 (gv 2) (gc (.int 0)) ixD) (gc (.str "record")) eqD))
  (seqD (exprX (appX 1 (o2 (gv 2) (gc (.int 1)) ixD)))
  nilD)
  nilD)
  nilD))
theorem pn_len {p : Pt} (h : p.Ok) : p.pnames.length ≤ 12 := by
  cases p with
  | text w => exact Nat.zero_le _
  | row vs => exact Nat.zero_le _
  | table ps => show (ps.map _).length ≤ 12; rw [List.length_map]; exact PsOk.len h
  | rcd c ps => show (ps.map _).length ≤ 12; rw [List.length_map]; exact h.2.len
theorem bodyC_ok (p : Pt) (h : p.Ok) (a : Sl) (acc : List Str) (hz : acc.length ≤ 10000) : BodyC [a, .ow (.lst (acc.map .str)), .sh p.d] = some (.nx [a, .ow (.lst ((acc ++ p.all).map .str)), .sh p.d]) := by
  have z : (10000 : Nat) + 100 ≤ sizeLine := by decide
  have hl := pn_len h
  have e1 : exprX (extX 1 (oA (consA (gv 2) nilA) m_pair_names)) [a, .ow (.lst (acc.map .str)), .sh p.d] = some (.nx [a, .ow (.lst ((acc ++ p.pnames).map .str)), .sh p.d]) := by
    unfold exprX extX
    rw [oA_of (ds := [p.d]) rfl, pair_names_ok p h.few]
    show Option.map _ (if (acc.map D.str).length + (p.pnames.map D.str).length ≤ sizeLine then _ else _) = _
    rw [if_pos (by rw [List.length_map, List.length_map]; omega), List.map_append]
    rfl
  refine seq_to e1 ?_
  cases p with
  | rcd c ps =>
    refine seq_to (δ' := [a, .ow (.lst ((acc ++ (Pt.rcd c ps).all).map .str)), .sh (Pt.rcd c ps).d]) (by
      rw [if_t (by kernel_rfl)]
      refine seq_to (δ' := [a, .ow (.lst ((acc ++ (Pt.rcd c ps).all).map .str)), .sh (Pt.rcd c ps).d]) ?_ rfl
      unfold exprX appX
      have e2 : o2 (gv 2) (gc (.int 1)) ixD [a, .ow (.lst ((acc ++ (Pt.rcd c ps).pnames).map .str)), .sh (Pt.rcd c ps).d] = some (.str c) := rfl
      rw [e2]
      show Option.map _ (if ((acc ++ (Pt.rcd c ps).pnames).map D.str).length < sizeLine then _ else _) = _
      rw [if_pos (by rw [List.length_map, List.length_append]; omega)]
      have e3 : (acc ++ (Pt.rcd c ps).all).map D.str = (acc ++ (Pt.rcd c ps).pnames).map D.str ++ [.str c] := by
        unfold Pt.all
        rw [← List.append_assoc, List.map_append]
        rfl
      rw [e3]
      rfl) rfl
  | text w =>
    refine seq_to (δ' := [a, .ow (.lst ((acc ++ (Pt.text w).all).map .str)), .sh (Pt.text w).d]) (by
      rw [if_f (by kernel_rfl)]; rfl) rfl
  | row vs =>
    refine seq_to (δ' := [a, .ow (.lst ((acc ++ (Pt.row vs).all).map .str)), .sh (Pt.row vs).d]) (by
      rw [if_f (by kernel_rfl)]; rfl) rfl
  | table ps =>
    refine seq_to (δ' := [a, .ow (.lst ((acc ++ (Pt.table ps).all).map .str)), .sh (Pt.table ps).d]) (by
      rw [if_f (by kernel_rfl)]
      unfold Pt.all Pt.cls
      rw [List.append_nil]
      rfl) rfl
theorem all_len {p : Pt} (h : p.Ok) : p.all.length ≤ 13 := by
  have := pn_len h
  unfold Pt.all
  rw [List.length_append]
  have : p.cls.length ≤ 1 := by cases p <;> simp [Pt.cls]
  omega
theorem loopC_ok (a : Sl) : ∀ (ps : List Pt) (acc : List Str) (s : Sl), (∀ p ∈ ps, p.Ok) → acc.length + 13 * ps.length ≤ 10000 → ∃ s', forD (gN 2) BodyC (ps.map Pt.d) [a, .ow (.lst (acc.map .str)), s] = some (.nx [a, .ow (.lst ((acc ++ ps.flatMap Pt.all).map .str)), s'])
  | [], acc, s, _, _ => ⟨s, by rw [List.flatMap_nil, List.append_nil]; rfl⟩
  | p :: ps, acc, s, h, hz => by
    rw [List.length_cons] at hz
    have hp := h p List.mem_cons_self
    have hl := all_len hp
    obtain ⟨s', e⟩ := loopC_ok a ps (acc ++ p.all) (.sh p.d) (fun q hq => h q (List.mem_cons_of_mem _ hq)) (by rw [List.length_append]; omega)
    refine ⟨s', ?_⟩
    rw [List.map_cons, for_cons (δ1 := [a, .ow (.lst (acc.map .str)), .sh p.d]) rfl (bodyC_ok p hp a acc (by omega)), e, List.flatMap_cons, List.append_assoc]
theorem flat_len : ∀ (ps : List Pt), (∀ p ∈ ps, p.Ok) → (ps.flatMap Pt.all).length ≤ 13 * ps.length
  | [], _ => Nat.le_refl _
  | p :: ps, h => by
    rw [List.flatMap_cons, List.length_append, List.length_cons]
    have := all_len (h p List.mem_cons_self)
    have := flat_len ps fun q hq => h q (List.mem_cons_of_mem _ hq)
    omega
theorem count_ok (ps : List Pt) (h : ∀ p ∈ ps, p.Ok) (hz : ps.length ≤ 300) : m_count_names [.tup (ps.map Pt.d)] = some (.int (onceS (ps.flatMap Pt.all)).length) := by
  obtain ⟨s', e⟩ := loopC_ok (.sh (.tup (ps.map Pt.d))) ps [] .un h (by simp; omega)
  rw [List.nil_append] at e
  have hl := flat_len ps h
  have e3 : strL ((ps.flatMap Pt.all).map D.str) = some (ps.flatMap Pt.all) := by
    have := strs_map id (ps.flatMap Pt.all)
    simpa using this
  refine mkF_rt rfl (seq_to (δ' := [.sh (.tup (ps.map Pt.d)), .ow (.lst []), .un]) rfl (seq_to (for_of (items := ps.map Pt.d) rfl e) (seq_rt (ret_of ?_))))
  show lenSetD [.lst ((ps.flatMap Pt.all).map D.str)] = _
  unfold lenSetD
  dsimp only
  rw [e3, Option.bind_some, if_pos (by omega)]
/-! ### webs -/
theorem comp_parts (ds : List D) (f : D → Bool) (h : ∀ d ∈ ds, m_is_part [d] = some (.bl (f d))) : compD (gN 0) noT (oA (consA (gv 0) nilA) m_is_part) [.un] ds = some (ds.map fun d => .bl (f d)) :=
  compD_map (fun d => .bl (f d)) fun d hd => ⟨[.sh d], rfl, rfl, h d hd⟩
theorem web_step (ds : List D) (h0 : ds ≠ []) (hl : ds.length ≤ 60) (f : D → Bool) (h : ∀ d ∈ ds, m_is_part [d] = some (.bl (f d))) (r : Bool)
    (hr : ds.all f = true → ∃ b, m_links_lead [.tup ds] = some (.bl b) ∧ (b = true → ∃ n : Nat, m_count_names [.tup ds] = some (.int n) ∧ decide ((n : Int) ≤ 60) = r) ∧ (b = false → r = false)) (hf : ds.all f = false → r = false) : m_is_web [.tup ds] = some (.bl r) := by
  have e1 := tuple_t ds 60
  rw [decide_eq_true (by omega)] at e1
  have hne : ¬ ((ds.length : Int) = 0) := by
    intro z; exact h0 (List.length_eq_zero_iff.mp (by omega))
  have hall : ob (oA (consA (compG 1 [] (tupI (gv 0)) (gN 0) noT (oA (consA (gv 0) nilA) m_is_part)) nilA) allD) [.sh (.tup ds)] = some (ds.all f) := by
    unfold ob
    rw [oA_of (ds := [.lst (ds.map fun d => .bl (f d))]) (cons_of (comp_of (items := ds) rfl (Nat.le_trans hl (by decide)) (comp_parts ds f h)) rfl)]
    show ((bools (ds.map fun d => .bl (f d))).map fun bs => D.bl (bs.all id)).bind asB = _
    rw [bools_map]
    show some ((ds.map f).all id) = _
    rw [List.all_map]
    rfl
  refine mkF_rt rfl (seq_to (δ' := [.sh (.tup ds)]) (by
    rw [if_f (by
      unfold tOrG tNotG
      have q1 : ob (oA (consA (gv 0) (consA (gc (.int 60)) nilA)) m_is_tuple) [.sh (.tup ds)] = some true := by
        unfold ob
        rw [oA_of (ds := [.tup ds, .int 60]) rfl, e1]
        rfl
      have q2 : ob (o2 (oA (consA (gv 0) nilA) lenD) (gc (.int 0)) eqD) [.sh (.tup ds)] = some false := by
        show some (decide ((ds.length : Int) = 0)) = _
        rw [decide_eq_false hne]
      show ((ob (oA (consA (gv 0) (consA (gc (.int 60)) nilA)) m_is_tuple) [.sh (.tup ds)]).map (!·)).bind _ = _
      rw [q1]
      exact q2)]
    rfl) ?_)
  cases ha : ds.all f with
  | false =>
    refine seq_rt ?_
    rw [if_t (by unfold tNotG; rw [hall, ha]; rfl), hf ha]
    rfl
  | true =>
    refine seq_to (δ' := [.sh (.tup ds)]) (by rw [if_f (by unfold tNotG; rw [hall, ha]; rfl)]; rfl) (seq_rt (ret_of ?_))
    obtain ⟨b, hb, hb1, hb2⟩ := hr ha
    unfold andG ob
    rw [oA_of (ds := [.tup ds]) rfl, hb]
    cases b with
    | false => rw [hb2 rfl]; rfl
    | true =>
      obtain ⟨n, hn, hd⟩ := hb1 rfl
      show o2 (oA (consA (gv 0) nilA) m_count_names) (gc (.int 60)) leD [.sh (.tup ds)] = _
      rw [o2_of (x := .int n) (y := .int 60) (by rw [oA_of (ds := [.tup ds]) rfl]; exact hn) rfl, ← hd]
      rfl
theorem all_ok (ps : List Pt) (h : ∀ p ∈ ps, p.Ok) : ∀ d ∈ ps.map Pt.d, m_is_part [d] = some (.bl ((fun _ => true) d)) := fun d hd => by
  obtain ⟨p, hp, rfl⟩ := List.mem_map.mp hd
  exact (h p hp).part
structure WebOk (ps : List Pt) : Prop where
  ne : ps ≠ []
  len : ps.length ≤ 60
  ok : ∀ p ∈ ps, p.Ok
  lead : ∀ p ∈ ps, ∀ k ∈ p.links, k < ps.length
  few : (onceS (ps.flatMap Pt.all)).length ≤ 60
theorem WebOk.web {ps : List Pt} (h : WebOk ps) : m_is_web [.tup (ps.map Pt.d)] = some (.bl true) := by
  have := h.len
  refine web_step _ (by simpa using h.ne) (by simpa using h.len) (fun _ => true) (all_ok ps h.ok) true (fun _ => ⟨true, lead_ok ps fun p hp => ⟨(h.ok p hp).sane, h.lead p hp⟩, fun _ => ⟨_, count_ok ps h.ok (by omega), decide_eq_true (by have := h.few; omega)⟩, fun z => by cases z⟩) (fun z => ?_)
  rw [List.all_eq_true.mpr fun _ _ => rfl] at z
  cases z
end W
namespace W
open PySem DL
/-! ### names -/
def signS : Str := "abcdefghijklmnopqrstuvwxyz0123456789"
def cg (i : Int) : Nat := signS.cps.toList.getD i.toNat 0
/-- the signs but for the drawn place -/
def base (x : Int) : List Nat := (List.range (1 + x % 8).toNat).map fun (j : Nat) => cg ((x / ((j : Int) + 3) + (j : Int) * (j : Int)) % 36)
/-! ### the names are names, and unlike -/
/-! ### how many unlike ones -/
theorem nodup_sub : ∀ {l m : List Str}, l.Nodup → (∀ a ∈ l, a ∈ m) → l.length ≤ m.length
  | [], m, _, _ => Nat.zero_le _
  | a :: l, m, h, hs => by
    obtain ⟨h1, h2⟩ := List.nodup_cons.mp h
    have ha := hs a List.mem_cons_self
    obtain ⟨m1, m2, rfl⟩ := List.append_of_mem ha
    have := nodup_sub (m := m1 ++ m2) h2 fun b hb => by
      have := hs b (List.mem_cons_of_mem _ hb)
      rcases List.mem_append.mp this with q | q
      · exact List.mem_append.mpr (.inl q)
      · rcases List.mem_cons.mp q with rfl | q
        · exact absurd hb h1
        · exact List.mem_append.mpr (.inr q)
    simp only [List.length_append, List.length_cons] at this ⊢
    omega
theorem once_nodup : ∀ (ys acc : List Str), acc.Nodup → (ys.foldl insS acc).Nodup ∧ ∀ a ∈ ys.foldl insS acc, a ∈ acc ∨ a ∈ ys
  | [], acc, h => ⟨h, fun a ha => .inl ha⟩
  | y :: ys, acc, h => by
    rw [List.foldl_cons]
    have hi : (insS acc y).Nodup ∧ ∀ a ∈ insS acc y, a ∈ acc ∨ a = y := by
      unfold insS
      by_cases q : hasS acc y = true
      · rw [if_pos q]; exact ⟨h, fun a ha => .inl ha⟩
      · rw [if_neg q]
        have hm : y ∉ acc := fun z => q ((hasS_mem acc y).mpr z)
        refine ⟨List.nodup_append.mpr ⟨h, by simp, ?_⟩, fun a ha => ?_⟩
        · intro a ha b hb e
          have := List.mem_singleton.mp hb
          subst this; subst e; exact hm ha
        · rcases List.mem_append.mp ha with z | z
          · exact .inl z
          · exact .inr (List.mem_singleton.mp z)
    obtain ⟨q1, q2⟩ := once_nodup ys _ hi.1
    refine ⟨q1, fun a ha => ?_⟩
    rcases q2 a ha with z | z
    · rcases hi.2 a z with z | rfl
      · exact .inl z
      · exact .inr List.mem_cons_self
    · exact .inr (List.mem_cons_of_mem _ z)
theorem once_le (ys L : List Str) (h : ∀ y ∈ ys, y ∈ L) : (onceS ys).length ≤ L.length := by
  obtain ⟨h1, h2⟩ := once_nodup ys [] List.nodup_nil
  exact nodup_sub h1 fun a ha => by
    rcases h2 a ha with z | z
    · cases z
    · exact h a z
end W
/-! Parts: values, names, heads, other values; equality of data. -/
namespace Pn
open PySem DL W
def G_pair_names : GS := (seqD (ifD (tOrG (ob (o2 (o2 (gv 0) (gc (.int 0)) ixD) (gc (.str "text")) eqD)) (ob (o2 (o2 (gv 0) (gc (.int 0)) ixD) (gc (.str "row")) eqD)))
  (seqD (retF (lstG nilA))
  nilD)
  nilD)
  (seqD (retF (compG 1 [] (tupI (o2 (gv 0) (unG negD (gc (.int 1))) ixD)) (gN 0) noT (o2 (gv 0) (gc (.int 0)) ixD)))
  nilD))
def N_pair_names : List Str := ["part"]
def m_pair_names : List D → Option D := mkN 1 N_pair_names G_pair_names
def G_values : GS := (seqD (ifD (ob (o2 (o2 (gv 0) (gc (.int 0)) ixD) (gc (.str "text")) eqD))
  (seqD (retF (lstG nilA))
  nilD)
  nilD)
  (seqD (ifD (ob (o2 (o2 (gv 0) (gc (.int 0)) ixD) (gc (.str "row")) eqD))
  (seqD (retF (oA (consA (o2 (gv 0) (gc (.int 1)) ixD) nilA) lstOfD))
  nilD)
  nilD)
  (seqD (retF (compG 1 [] (tupI (o2 (gv 0) (unG negD (gc (.int 1))) ixD)) (gN 0) noT (o2 (gv 0) (gc (.int 1)) ixD)))
  nilD)))
def N_values : List Str := ["part"]
def m_values : List D → Option D := mkN 1 N_values G_values
def G_with_values : GS := (seqD (ifD (ob (o2 (o2 (gv 0) (gc (.int 0)) ixD) (gc (.str "text")) eqD))
  (seqD (retD (gv 0))
  nilD)
  nilD)
  (seqD (ifD (ob (o2 (o2 (gv 0) (gc (.int 0)) ixD) (gc (.str "row")) eqD))
  (seqD (retD (tupG (consA (gc (.str "row")) (consA (oA (consA (gv 1) nilA) tupOfD) nilA))))
  nilD)
  nilD)
  (seqD (setD (gN 2) (oA (consA (oA (consA (gv 0) nilA) m_pair_names) (consA (gv 1) nilA)) zipTD))
  (seqD (ifD (ob (o2 (o2 (gv 0) (gc (.int 0)) ixD) (gc (.str "table")) eqD))
  (seqD (retD (tupG (consA (gc (.str "table")) (consA (gv 2) nilA))))
  nilD)
  nilD)
  (seqD (retD (tupG (consA (gc (.str "record")) (consA (o2 (gv 0) (gc (.int 1)) ixD) (consA (gv 2) nilA)))))
  nilD)))))
def N_with_values : List Str := ["part", "some", "pairs"]
def m_with_values : List D → Option D := mkF 2 N_with_values G_with_values
theorem values_ok (p : Pt) (h : p.few) : m_values [p.d] = some (.lst p.vals) := by
  cases p with
  | text w => kernel_rfl
  | row vs =>
    refine mkN_rf rfl (seq_to (δ' := [.sh (Pt.row vs).d]) (by rw [if_f (by kernel_rfl)]; rfl) (seq_rf (by rw [if_t (by kernel_rfl)]; rfl)))
  | table ps =>
    refine mkN_rf rfl (seq_to (δ' := [.sh (Pt.table ps).d]) (by rw [if_f (by kernel_rfl)]; rfl) (seq_to (δ' := [.sh (Pt.table ps).d]) (by rw [if_f (by kernel_rfl)]; rfl) (seq_rf (retF_of ?_))))
    exact comp_of (items := ps.map pr) rfl (by have : (ps.map (·.2)).length ≤ sizeLine := h; simpa using this) (comp_snd ps)
  | rcd c ps =>
    refine mkN_rf rfl (seq_to (δ' := [.sh (Pt.rcd c ps).d]) (by rw [if_f (by kernel_rfl)]; rfl) (seq_to (δ' := [.sh (Pt.rcd c ps).d]) (by rw [if_f (by kernel_rfl)]; rfl) (seq_rf (retF_of ?_))))
    exact comp_of (items := ps.map pr) rfl (by have : (ps.map (·.2)).length ≤ sizeLine := h; simpa using this) (comp_snd ps)
theorem pair_names_ok (p : Pt) (h : p.few) : m_pair_names [p.d] = some (.lst (p.pnames.map .str)) := by
  cases p with
  | text w => kernel_rfl
  | row vs => kernel_rfl
  | table ps =>
    refine mkN_rf rfl (seq_to (δ' := [.sh (Pt.table ps).d]) (by rw [if_f (by kernel_rfl)]; rfl) (seq_rf (retF_of ?_)))
    exact comp_of (items := ps.map pr) rfl (by have : (ps.map (·.2)).length ≤ sizeLine := h; simpa using this) (comp_fst ps)
  | rcd c ps =>
    refine mkN_rf rfl (seq_to (δ' := [.sh (Pt.rcd c ps).d]) (by rw [if_f (by kernel_rfl)]; rfl) (seq_rf (retF_of ?_)))
    exact comp_of (items := ps.map pr) rfl (by have : (ps.map (·.2)).length ≤ sizeLine := h; simpa using this) (comp_fst ps)
def hd : Pt → D
  | .text w => .tup [.str "text", .str w]
  | .row vs => .tup [.str "row", .int vs.length]
  | .table ps => .tup [.str "table", .tup ((ps.map (·.1)).map .str)]
  | .rcd c ps => .tup [.str "record", .str c, .tup ((ps.map (·.1)).map .str)]
def put : Pt → List D → Pt
  | .text w, _ => .text w
  | .row _, vs => .row vs
  | .table ps, vs => .table ((ps.map (·.1)).zip vs)
  | .rcd c ps, vs => .rcd c ((ps.map (·.1)).zip vs)
theorem zip_pr (ns : List Str) (vs : List D) : zipTD [.lst (ns.map .str), .lst vs] = some (.tup ((ns.zip vs).map pr)) := by
  simp only [zipTD]
  rw [List.zip_map_left, List.map_map]
  rfl
theorem with_ok (p : Pt) (h : p.few) (vs : List D) : m_with_values [p.d, .lst vs] = some (put p vs).d := by
  have e := pair_names_ok p h
  cases p with
  | text w => kernel_rfl
  | row us => kernel_rfl
  | table ps =>
    refine mkF_rt rfl (seq_to (δ' := [.sh (Pt.table ps).d, .sh (.lst vs), .un]) (by rw [if_f (by kernel_rfl)]; rfl) (seq_to (δ' := [.sh (Pt.table ps).d, .sh (.lst vs), .un]) (by rw [if_f (by kernel_rfl)]; rfl) (seq_to (set_of (d := .tup (((ps.map (·.1)).zip vs).map pr)) ?_) (seq_rt ?_))))
    · rw [oA_of (cons_of (by rw [oA_of (ds := [(Pt.table ps).d]) rfl]; exact e) (cons_of rfl rfl))]
      exact zip_pr _ _
    · rw [if_t (by kernel_rfl)]
      rfl
  | rcd c ps =>
    refine mkF_rt rfl (seq_to (δ' := [.sh (Pt.rcd c ps).d, .sh (.lst vs), .un]) (by rw [if_f (by kernel_rfl)]; rfl) (seq_to (δ' := [.sh (Pt.rcd c ps).d, .sh (.lst vs), .un]) (by rw [if_f (by kernel_rfl)]; rfl) (seq_to (set_of (d := .tup (((ps.map (·.1)).zip vs).map pr)) ?_)
      (seq_to (δ' := [.sh (Pt.rcd c ps).d, .sh (.lst vs), .sh (.tup (((ps.map (·.1)).zip vs).map pr))]) (by rw [if_f (by kernel_rfl)]; rfl) ?_))))
    · rw [oA_of (cons_of (by rw [oA_of (ds := [(Pt.rcd c ps).d]) rfl]; exact e) (cons_of rfl rfl))]
      exact zip_pr _ _
    · rfl
/-! ### equality of data -/
theorem leans_of {l : List D} {n : Nat} (h : ∀ d ∈ l, lean d n = true) : leans l n = true := by
  induction l with
  | nil => unfold leans; rfl
  | cons d l ih =>
    unfold leans
    rw [h d List.mem_cons_self, ih fun e he => h e (List.mem_cons_of_mem _ he)]
    rfl
theorem lean_val {v : D} (h : valB v = true) (n : Nat) : lean v (n + 1) = true := by
  rcases val_cases h with rfl | ⟨i, rfl⟩ | ⟨i, rfl, _⟩
  · unfold lean; rfl
  · unfold lean; rfl
  · unfold lean; exact leans_of fun d hd => by
      simp only [List.mem_cons, List.not_mem_nil, or_false] at hd
      rcases hd with rfl | rfl <;> (unfold lean; rfl)
theorem lean_str (s : Str) (n : Nat) : lean (.str s) n = true := by unfold lean; rfl
theorem lean_tup {l : List D} {n : Nat} (h : ∀ d ∈ l, lean d n = true) : lean (.tup l) (n + 1) = true := by unfold lean; exact leans_of h
theorem lean_pt (p : Pt) (h : ∀ v ∈ p.vals, valB v = true) (n : Nat) : lean p.d (n + 4) = true := by
  have prs : ∀ ps : List (Str × D), (∀ v ∈ ps.map (·.2), valB v = true) → lean (.tup (ps.map pr)) (n + 3) = true := fun ps hv => lean_tup fun d hd => by
    obtain ⟨q, hq, rfl⟩ := List.mem_map.mp hd
    refine lean_tup fun e he => ?_
    simp only [List.mem_cons, List.not_mem_nil, or_false] at he
    rcases he with rfl | rfl
    · exact lean_str _ _
    · exact lean_val (hv q.2 (List.mem_map.mpr ⟨q, hq, rfl⟩)) n
  cases p with
  | text w =>
      refine lean_tup fun d hd => ?_
      simp only [List.mem_cons, List.not_mem_nil, or_false] at hd
      rcases hd with rfl | rfl <;> exact lean_str _ _
  | row vs =>
      refine lean_tup fun d hd => ?_
      simp only [List.mem_cons, List.not_mem_nil, or_false] at hd
      rcases hd with rfl | rfl
      · exact lean_str _ _
      · exact lean_tup fun v hv => lean_val (h v hv) (n + 1)
  | table ps =>
      refine lean_tup fun d hd => ?_
      simp only [List.mem_cons, List.not_mem_nil, or_false] at hd
      rcases hd with rfl | rfl
      · exact lean_str _ _
      · exact prs ps h
  | rcd c ps =>
      refine lean_tup fun d hd => ?_
      simp only [List.mem_cons, List.not_mem_nil, or_false] at hd
      rcases hd with rfl | rfl | rfl
      · exact lean_str _ _
      · exact lean_str _ _
      · exact prs ps h
mutual
theorem deq_self : ∀ (d : D) (n : Nat), lean d n = true → deq d d = true
  | .non, _, _ => by unfold deq; rfl
  | .bl b, _, _ => by unfold deq; simp
  | .int b, _, _ => by unfold deq; simp
  | .str b, _, _ => by unfold deq; simp
  | .tup ds, 0, h => by unfold lean at h; cases h
  | .tup ds, n + 1, h => by unfold lean at h; unfold deq; exact deqs_self ds n h
  | .lst ds, 0, h => by unfold lean at h; cases h
  | .lst ds, n + 1, h => by unfold lean at h; unfold deq; exact deqs_self ds n h
  | .dct _ _, n, h => by unfold lean at h; cases h
theorem deqs_self : ∀ (ds : List D) (n : Nat), leans ds n = true → deqs ds ds = true
  | [], _, _ => by unfold deqs; rfl
  | d :: ds, n, h => by
    unfold leans at h
    rw [Bool.and_eq_true] at h
    unfold deqs
    rw [deq_self d n h.1, deqs_self ds n h.2]
    rfl
end
mutual
/-- neither truths nor dicts -/
def nb : D → Bool
  | .bl _ => false
  | .dct _ _ => false
  | .tup xs => nbs xs
  | .lst xs => nbs xs
  | _ => true
def nbs : List D → Bool
  | [] => true
  | x :: xs => nb x && nbs xs
end
/-- data that are alike just where they are equal -/
structure Pl (d : D) : Prop where
  le : lean d 50 = true
  nb : nb d = true
theorem eq_t {d : D} (h : lean d 50 = true) : eqDD d d = some (.bl true) := by
  unfold eqDD
  rw [if_pos ⟨h, h⟩, deq_self d 50 h]
theorem ne_f {d : D} (h : lean d 50 = true) : neDD d d = some (.bl false) := by
  unfold neDD
  rw [if_pos ⟨h, h⟩, deq_self d 50 h]
  rfl
/-! ### names that differ at a place -/
end Pn
namespace K6
open PySem DL W
def G_with_values : GS := (seqD (ifD (ob (o2 (o2 (gv 0) (gc (.int 0)) ixD) (gc (.str "text")) eqD))
  (seqD (retD (gv 0))
  nilD)
  nilD)
  (seqD (ifD (ob (o2 (o2 (gv 0) (gc (.int 0)) ixD) (gc (.str "row")) eqD))
  (seqD (retD (tupG (consA (gc (.str "row")) (consA (oA (consA (gv 1) nilA) tupOfD) nilA))))
  nilD)
  nilD)
  (seqD (setD (gN 2) (oA (consA (oA (consA (gv 0) nilA) m_pair_names) (consA (gv 1) nilA)) zipTD))
  (seqD (ifD (ob (o2 (o2 (gv 0) (gc (.int 0)) ixD) (gc (.str "table")) eqD))
  (seqD (retD (tupG (consA (gc (.str "table")) (consA (gv 2) nilA))))
  nilD)
  nilD)
  (seqD (retD (tupG (consA (gc (.str "record")) (consA (o2 (gv 0) (gc (.int 1)) ixD) (consA (gv 2) nilA)))))
  nilD)))))
def N_with_values : List Str := ["part", "some", "pairs"]
def m_with_values : List D → Option D := mkF 2 N_with_values G_with_values
def G_met_but : GS := (seqD (ownD 3 (lstG nilA))
  (seqD (ownD 4 (oA (consA (gv 2) nilA) dictOfD))
  (seqD (ownD 5 (lstG (consA (gv 1) nilA)))
  (seqD (whileD (ob (o2 (borE (oA (consA (gv 5) nilA) lenD)) (gc (.int 0)) gtD))
  (seqD (asgX (popX 5) (gN 6))
  (seqD (ifD (borB (ob (o2 (gv 6) (gv 4) (inDctD true))))
  (seqD (asgX (pureX (gc (.bl true))) (putAt 4 (gv 6)))
  (seqD (exprX (appX 3 (gv 6)))
  (seqD (exprX (extX 5 (oA (consA (oA (consA (o2 (gv 0) (gv 6) ixD) nilA) m_links) nilA) revD)))
  nilD)))
  nilD)
  nilD)) 100000)
  (seqD (retO 3)
  nilD)))))
def N_met_but : List Str := ["web", "k", "left", "order", "seen", "waiting", "part"]
def m_met_but : List D → Option D := mkN 3 N_met_but G_met_but
def G_met : GS := (seqD (retF (oA (consA (gv 0) (consA (gv 1) (consA (gc (.dct [] [])) nilA))) m_met_but))
  nilD)
def N_met : List Str := ["web", "k"]
def m_met : List D → Option D := mkN 2 N_met G_met
def G_relinked : GS := (seqD (setD (gN 2) (compG 1 [1] (lstI (oA (consA (gv 0) nilA) m_values)) (gN 0) noT (ifG (ob (isiG isTup (gv 0))) (tupG (consA (gc (.str "at")) (consA (o2 (gv 1) (o2 (gv 0) (gc (.int 1)) ixD) dgetD) nilA))) (gv 0))))
  (seqD (retD (oA (consA (gv 0) (consA (gv 2) nilA)) m_with_values))
  nilD))
def N_relinked : List Str := ["part", "numbers", "some"]
def m_relinked : List D → Option D := mkF 2 N_relinked G_relinked
def G_drawn : GS := (seqD (setD (gN 2) (oA (consA (gv 0) (consA (gv 1) nilA)) m_met))
  (seqD (ownD 3 (gc (.dct [] [])))
  (seqD (forG (enumI (consA (gv 2) nilA)) (tup2 4 5)
  (seqD (asgX (pureX (gv 4)) (putAt 3 (gv 5)))
  nilD))
  (seqD (retD (borA (oA (consA (compG 1 [0, 3] (lstI (gv 2)) (gN 0) noT (oA (consA (o2 (gv 1) (gv 0) ixD) (consA (gv 2) nilA)) m_relinked)) nilA) tupOfD)))
  nilD))))
def N_drawn : List Str := ["web", "k", "order", "numbers", "number", "part"]
def m_drawn : List D → Option D := mkF 2 N_drawn G_drawn
def G__law_cell_at : GS := (seqD (ifD (ob (o2 (gv 1) (oA (consA (gv 0) nilA) lenD) ltD))
  (seqD (retD (o2 (gv 0) (gv 1) ixD))
  nilD)
  nilD)
  (seqD (retD (gc (.int 0)))
  nilD))
def N__law_cell_at : List Str := ["_law_script", "_law_k"]
def m__law_cell_at : List D → Option D := mkF 2 N__law_cell_at G__law_cell_at
def G__law_mixed : GS := (seqD (setD (gN 2) (o2 (oA (consA (gv 0) (consA (o2 (gc (.int 2)) (o2 (gc (.int 2)) (gv 1) mulA) addA) nilA)) m__law_cell_at) (gc (.int 1000000007)) modD))
  (seqD (setD (gN 3) (o2 (oA (consA (gv 0) (consA (o2 (gc (.int 3)) (o2 (gc (.int 2)) (gv 1) mulA) addA) nilA)) m__law_cell_at) (gc (.int 1000000007)) modD))
  (seqD (retD (o2 (o2 (o2 (o2 (o2 (gv 2) (gc (.int 48271)) mulA) (o2 (gv 3) (gc (.int 16807)) mulA) addA) (o2 (o2 (gc (.int 41)) (gv 1) mulA) (gv 1) mulA) addA) (o2 (gc (.int 13)) (gv 1) mulA) addA) (gc (.int 1000003)) modD))
  nilD)))
def N__law_mixed : List Str := ["_law_script", "_law_k", "_law_a", "_law_b"]
def m__law_mixed : List D → Option D := mkF 2 N__law_mixed G__law_mixed
def G__law_value : GS := (seqD (ifD (ob (o2 (o2 (gv 0) (gc (.int 5)) modD) (gc (.int 0)) eqD))
  (seqD (retD (gc .non))
  nilD)
  nilD)
  (seqD (ifD (ob (o2 (o2 (gv 0) (gc (.int 5)) modD) (gc (.int 1)) eqD))
  (seqD (retD (o2 (lstG (consA (o2 (o2 (o2 (gv 0) (gc (.int 5)) fdivD) (gc (.int 41)) modD) (gc (.int 20)) subD) (consA (o2 (o2 (gc (.int 10)) (gc (.int 50)) powD) (gv 0) addA) nilA))) (o2 (o2 (gv 0) (gc (.int 205)) fdivD) (gc (.int 2)) modD) ixD))
  nilD)
  nilD)
  (seqD (retD (tupG (consA (gc (.str "at")) (consA (o2 (o2 (gv 0) (gc (.int 5)) fdivD) (gv 1) modD) nilA))))
  nilD)))
def N__law_value : List Str := ["_law_x", "_law_many"]
def m__law_value : List D → Option D := mkF 2 N__law_value G__law_value
def G__law_part : GS := (seqD (setD (gN 2) (o2 (o2 (gv 0) (gc (.int 4)) fdivD) (gc (.int 6)) modD))
  (seqD (ifD (ob (o2 (o2 (o2 (gv 0) (gc (.int 24)) fdivD) (gc (.int 9)) modD) (gc (.int 1)) eqD))
  (seqD (setD (gN 2) (gc (.int 12)))
  nilD)
  nilD)
  (seqD (setD (gN 3) (compG 1 [0, 1] (rng1I (consA (gv 2) nilA)) (gN 0) noT (oA (consA (o2 (o2 (gv 1) (o2 (gv 0) (gc (.int 2)) addA) fdivD) (o2 (o2 (gc (.int 5)) (gv 0) mulA) (gv 0) mulA) addA) (consA (gv 2) nilA)) m__law_value)))
  (seqD (setD (gN 4) (oA (consA (compG 1 [0, 3] (rng1I (consA (gv 2) nilA)) (gN 0) noT (tupG (consA (o2 (gc (.str "n")) (oA (consA (o2 (o2 (o2 (gv 1) (gc (.int 7)) fdivD) (gv 0) addA) (gc (.int 13)) modD) nilA) strOfD) addA) (consA (o2 (gv 2) (gv 0) ixD) nilA)))) nilA) tupOfD))
  (seqD (ifD (tAndG (ob (o2 (o2 (gv 0) (gc (.int 4)) modD) (gc (.int 0)) eqD)) (ob (o2 (o2 (o2 (gv 0) (gc (.int 97)) fdivD) (gc (.int 3)) modD) (gc (.int 0)) eqD)))
  (seqD (retD (tupG (consA (gc (.str "text")) (consA (slAG (o2 (gc (.str "ab 9z")) (gc (.int 4)) mulA) noneO (someO (o2 (o2 (gv 0) (gc (.int 4)) fdivD) (gc (.int 21)) modD))) nilA))))
  nilD)
  nilD)
  (seqD (ifD (ob (o2 (o2 (gv 0) (gc (.int 4)) modD) (gc (.int 2)) eqD))
  (seqD (retD (tupG (consA (gc (.str "table")) (consA (gv 4) nilA))))
  nilD)
  nilD)
  (seqD (ifD (ob (o2 (o2 (gv 0) (gc (.int 4)) modD) (gc (.int 3)) eqD))
  (seqD (retD (tupG (consA (gc (.str "record")) (consA (o2 (gc (.str "c")) (oA (consA (o2 (gv 0) (gc (.int 5)) modD) nilA) strOfD) addA) (consA (gv 4) nilA)))))
  nilD)
  nilD)
  (seqD (retD (tupG (consA (gc (.str "row")) (consA (oA (consA (gv 3) nilA) tupOfD) nilA))))
  nilD))))))))
def N__law_part : List Str := ["_law_x", "_law_many", "_law_n", "_law_some", "_law_pairs"]
def m__law_part : List D → Option D := mkF 2 N__law_part G__law_part
def G__law_web : GS := (seqD (setD (gN 1) (o2 (oA (consA (gv 0) (consA (gc (.int 0)) nilA)) m__law_cell_at) (gc (.int 1000003)) modD))
  (seqD (setD (gN 2) (o2 (gc (.int 1)) (o2 (o2 (gv 1) (gc (.int 8)) fdivD) (gc (.int 9)) modD) addA))
  (seqD (ifD (ob (o2 (o2 (o2 (gv 1) (gc (.int 72)) fdivD) (gc (.int 4)) modD) (gc (.int 1)) eqD))
  (seqD (setD (gN 2) (o2 (gc (.int 59)) (o2 (o2 (gv 1) (gc (.int 288)) fdivD) (gc (.int 2)) modD) addA))
  nilD)
  nilD)
  (seqD (retD (oA (consA (compG 1 [0, 2] (rng1I (consA (gv 2) nilA)) (gN 0) noT (oA (consA (oA (consA (gv 1) (consA (gv 0) nilA)) m__law_mixed) (consA (gv 2) nilA)) m__law_part)) nilA) tupOfD))
  nilD))))
def N__law_web : List Str := ["_law_script", "_law_first", "_law_many"]
def m__law_web : List D → Option D := mkF 1 N__law_web G__law_web
def G__law_led_value : GS := (seqD (ifD (ob (isiG isTup (gv 0)))
  (seqD (retD (tupG (consA (gc (.str "at")) (consA (o2 (gv 1) (o2 (gv 0) (gc (.int 1)) ixD) dgetD) nilA))))
  nilD)
  nilD)
  (seqD (retD (gv 0))
  nilD))
def N__law_led_value : List Str := ["_law_value_here", "_law_places"]
def m__law_led_value : List D → Option D := mkF 2 N__law_led_value G__law_led_value
def G__law_led : GS := (seqD (ifD (ob (o2 (o2 (gv 0) (gc (.int 0)) ixD) (gc (.str "text")) eqD))
  (seqD (retD (gv 0))
  nilD)
  nilD)
  (seqD (ifD (ob (o2 (o2 (gv 0) (gc (.int 0)) ixD) (gc (.str "row")) eqD))
  (seqD (retD (tupG (consA (gc (.str "row")) (consA (oA (consA (compG 1 [1] (tupI (o2 (gv 0) (gc (.int 1)) ixD)) (gN 0) noT (oA (consA (gv 0) (consA (gv 1) nilA)) m__law_led_value)) nilA) tupOfD) nilA))))
  nilD)
  nilD)
  (seqD (setD (gN 2) (compG 2 [1] (tupI (o2 (gv 0) (unG negD (gc (.int 1))) ixD)) (tup2 0 1) noT (tupG (consA (gv 0) (consA (oA (consA (gv 1) (consA (gv 2) nilA)) m__law_led_value) nilA)))))
  (seqD (retD (o2 (slAG (gv 0) noneO (someO (unG negD (gc (.int 1))))) (tupG (consA (oA (consA (gv 2) nilA) tupOfD) nilA)) addA))
  nilD))))
def N__law_led : List Str := ["_law_part_here", "_law_places", "_law_pairs"]
def m__law_led : List D → Option D := mkF 2 N__law_led G__law_led
def G__law_goals : GS := (seqD (ifD (ob (o2 (o2 (gv 0) (gc (.int 0)) ixD) (gc (.str "text")) eqD))
  (seqD (retF (lstG nilA))
  nilD)
  nilD)
  (seqD (setD (gN 1) (o2 (gv 0) (unG negD (gc (.int 1))) ixD))
  (seqD (ifD (ob (o2 (o2 (gv 0) (gc (.int 0)) ixD) (gc (.str "row")) neD))
  (seqD (setD (gN 1) (compG 2 [] (tupI (o2 (gv 0) (unG negD (gc (.int 1))) ixD)) (tup2 0 1) noT (gv 1)))
  nilD)
  nilD)
  (seqD (retF (compG 1 [] (anyI (gv 1)) (gN 0) (ob (isiG isTup (gv 0))) (o2 (gv 0) (gc (.int 1)) ixD)))
  nilD))))
def N__law_goals : List Str := ["_law_part_here", "_law_some"]
def m__law_goals : List D → Option D := mkN 1 N__law_goals G__law_goals
def G__law_order : GS := (seqD (ownD 2 (lstG (consA (gv 1) nilA)))
  (seqD (ownD 3 (lstG (consA (tupG (consA (gv 1) (consA (gc (.int 0)) nilA))) nilA)))
  (seqD (whileD (ob (o2 (borE (oA (consA (gv 3) nilA) lenD)) (gc (.int 0)) gtD))
  (seqD (asgX (popX 3) (tup2 4 5))
  (seqD (setD (gN 6) (oA (consA (o2 (gv 0) (gv 4) ixD) nilA) m__law_goals))
  (seqD (ifD (ob (o2 (gv 5) (oA (consA (gv 6) nilA) lenD) ltD))
  (seqD (exprX (appX 3 (tupG (consA (gv 4) (consA (o2 (gv 5) (gc (.int 1)) addA) nilA)))))
  (seqD (ifD (borB (ob (o2 (o2 (gv 6) (gv 5) ixD) (gv 2) (inSeqD true))))
  (seqD (exprX (appX 2 (o2 (gv 6) (gv 5) ixD)))
  (seqD (exprX (appX 3 (tupG (consA (o2 (gv 6) (gv 5) ixD) (consA (gc (.int 0)) nilA)))))
  nilD))
  nilD)
  nilD))
  nilD)
  nilD))) 100000)
  (seqD (retO 2)
  nilD))))
def N__law_order : List Str := ["_law_web_here", "_law_start", "_law_order_here", "_law_pile", "_law_at", "_law_next_one", "_law_goals_here"]
def m__law_order : List D → Option D := mkN 2 N__law_order G__law_order
def G__law_due : GS := (seqD (setD (gN 2) (oA (consA (gv 0) (consA (gv 1) nilA)) m__law_order))
  (seqD (ownD 3 (gc (.dct [] [])))
  (seqD (forG (rng1I (consA (oA (consA (gv 2) nilA) lenD) nilA)) (gN 4)
  (seqD (asgX (pureX (gv 4)) (putAt 3 (o2 (gv 2) (gv 4) ixD)))
  nilD))
  (seqD (retD (borA (oA (consA (compG 1 [0, 3] (lstI (gv 2)) (gN 0) noT (oA (consA (o2 (gv 1) (gv 0) ixD) (consA (gv 2) nilA)) m__law_led)) nilA) tupOfD)))
  nilD))))
def N__law_due : List Str := ["_law_web_here", "_law_start", "_law_order_here", "_law_places", "_law_k"]
def m__law_due : List D → Option D := mkF 2 N__law_due G__law_due
def G__law_shuffled : GS := (seqD (setD (gN 2) (oA (consA (gv 0) nilA) lenD))
  (seqD (setD (gN 3) (oA (consA (gc (.int 60)) (consA (o2 (gv 2) (o2 (gv 1) (gc (.int 5)) modD) addA) nilA)) minD))
  (seqD (ownD 4 (oA (consA (gv 3) nilA) lrngD))
  (seqD (ownD 5 (gc (.dct [] [])))
  (seqD (forG (rng1I (consA (gv 2) nilA)) (gN 6)
  (seqD (asgX (popAtX 4 (o2 (o2 (gv 1) (o2 (gv 6) (gc (.int 3)) addA) fdivD) (borE (oA (consA (gv 4) nilA) lenD)) modD)) (putAt 5 (gv 6)))
  nilD))
  (seqD (ownD 7 (compG 1 [1, 3] (rng1I (consA (gv 3) nilA)) (gN 0) noT (tupG (consA (gc (.str "row")) (consA (tupG (consA (tupG (consA (gc (.str "at")) (consA (o2 (o2 (gv 1) (gv 0) addA) (gv 2) modD) nilA))) (consA (gv 0) nilA))) nilA)))))
  (seqD (forG (rng1I (consA (gv 2) nilA)) (gN 6)
  (seqD (asgX (pureX (borT (oA (consA (o2 (gv 0) (gv 6) ixD) (consA (gv 5) nilA)) m__law_led))) (setAt 7 (borE (o2 (gv 5) (gv 6) dgetD))))
  nilD))
  (seqD (retD (borA (tupG (consA (oA (consA (gv 7) nilA) tupOfD) (consA (gv 5) nilA)))))
  nilD))))))))
def N__law_shuffled : List Str := ["_law_web_here", "_law_x", "_law_many", "_law_whole", "_law_left", "_law_places", "_law_k", "_law_parts"]
def m__law_shuffled : List D → Option D := mkF 2 N__law_shuffled G__law_shuffled
def G_law : GS := (seqD (setD (gN 1) (oA (consA (gv 0) nilA) m__law_web))
  (seqD (setD (gN 2) (o2 (oA (consA (gv 0) (consA (gc (.int 1)) nilA)) m__law_cell_at) (gc (.int 1000003)) modD))
  (seqD (forG (tupI (tupG (consA (gc (.int 0)) (consA (o2 (gv 2) (oA (consA (gv 1) nilA) lenD) modD) nilA)))) (gN 3)
  (seqD (setD (gN 4) (oA (consA (gv 1) (consA (gv 3) nilA)) m__law_due))
  (seqD (setD (gN 5) (oA (consA (gv 1) (consA (gv 3) nilA)) m_drawn))
  (seqD (ifD (tOrG (tNotG (ob (isiG isTup (gv 5)))) (tOrG (ob (o2 (gv 5) (gv 4) neDD)) (tOrG (tNotG (ob (oA (consA (gv 5) nilA) m_is_web))) (ob (o2 (oA (consA (gv 5) nilA) fun ds => m_drawn (ds ++ [(.int 0)])) (gv 4) neDD)))))
  (seqD (retD (gc (.bl false)))
  nilD)
  nilD)
  (seqD (ifD (ob (o2 (oA (consA (gv 5) nilA) fun ds => m_met (ds ++ [(.int 0)])) (oA (consA (oA (consA (gv 4) nilA) lenD) nilA) lrngD) neDD))
  (seqD (retD (gc (.bl false)))
  nilD)
  nilD)
  (seqD (asgX (pureX (oA (consA (gv 1) (consA (o2 (gv 2) (gc (.int 60)) fdivD) nilA)) m__law_shuffled)) (tup2 6 7))
  (seqD (ifD (tOrG (ob (o2 (oA (consA (gv 6) (consA (o2 (gv 7) (gv 3) dgetD) nilA)) m_drawn) (gv 4) neDD)) (ob (o2 (gv 1) (oA (consA (gv 0) nilA) m__law_web) neDD)))
  (seqD (retD (gc (.bl false)))
  nilD)
  nilD)
  nilD)))))))
  (seqD (retD (o2 (oA (consA (gv 1) nilA) fun ds => m_drawn (ds ++ [(.int 0)])) (oA (consA (gv 1) (consA (gc (.int 0)) nilA)) m__law_due) eqDD))
  nilD))))
def N_law : List Str := ["_law_script", "_law_web_here", "_law_first", "_law_start", "_law_due_here", "_law_found", "_law_other", "_law_places"]
def m_law : List D → Option D := mkF 1 N_law G_law
end K6
namespace K6
open PySem DL W
theorem lk_filter (vs : List D) (hv : ∀ v ∈ vs, valB v = true) : compD (gN 0) (ob (isiG isTup (gv 0))) (o2 (gv 0) (gc (.int 1)) ixD) [.un] vs = some ((vs.filterMap lk).map .int) := by
  rw [compD_filter isTup (fun d => match lk d with | some i => .int i | none => .non) (fun v hv' => by
    rcases val_cases (hv v hv') with rfl | ⟨i, rfl⟩ | ⟨i, rfl, _⟩
    · exact ⟨[.sh .non], rfl, rfl, fun z => by cases z⟩
    · exact ⟨[.sh (.int i)], rfl, rfl, fun z => by cases z⟩
    · exact ⟨[.sh (.tup [.str "at", .int i])], rfl, rfl, fun _ => rfl⟩)]
  congr 1
  induction vs with
  | nil => rfl
  | cons v vs ih =>
    have ih := ih fun u hu => hv u (List.mem_cons_of_mem _ hu)
    rcases val_cases (hv v List.mem_cons_self) with rfl | ⟨i, rfl⟩ | ⟨i, rfl, _⟩
    · exact ih
    · exact ih
    · show D.int i :: (vs.filter isTup).map _ = D.int i :: (vs.filterMap lk).map .int
      rw [ih]
theorem comp_snd2 (ps : List (Str × D)) : compD (tup2 0 1) noT (gv 1) [.un, .un] (ps.map pr) = some (ps.map (·.2)) := by
  rw [compD_map (fun d => match d with | .tup [_, v] => v | _ => .non) (fun d hd => by
    obtain ⟨p, hp, rfl⟩ := List.mem_map.mp hd
    exact ⟨[.sh (.str p.1), .sh p.2], rfl, rfl, rfl⟩), List.map_map]
  rfl
theorem goals_ok (p : Pt) (h : p.sane) : m__law_goals [p.d] = some (.lst (p.links.map .int)) := by
  have hf := h.1
  cases p with
  | text w => kernel_rfl
  | row vs =>
    refine mkN_rf rfl (seq_to (δ' := [.sh (Pt.row vs).d, .un]) (by rw [if_f (by kernel_rfl)]; rfl) (seq_to (δ' := [.sh (Pt.row vs).d, .sh (.tup vs)]) (set_of rfl) (seq_to (δ' := [.sh (Pt.row vs).d, .sh (.tup vs)]) (by rw [if_f (by kernel_rfl)]; rfl) (seq_rf (retF_of ?_)))))
    exact comp_of (items := vs) rfl hf (lk_filter vs h.2)
  | table ps =>
    have hl : (ps.map pr).length ≤ sizeLine := by have : (ps.map (·.2)).length ≤ sizeLine := hf; simpa using this
    refine mkN_rf rfl (seq_to (δ' := [.sh (Pt.table ps).d, .un]) (by rw [if_f (by kernel_rfl)]; rfl) (seq_to (δ' := [.sh (Pt.table ps).d, .sh (.tup (ps.map pr))]) (set_of rfl) (seq_to (δ' := [.sh (Pt.table ps).d, .sh (.lst (ps.map (·.2)))]) (by
      rw [if_t (by kernel_rfl)]
      exact seq_to (set_of (comp_of (items := ps.map pr) rfl hl (comp_snd2 ps))) rfl) (seq_rf (retF_of ?_)))))
    exact comp_of (items := (Pt.table ps).vals) rfl hf (lk_filter _ h.2)
  | rcd c ps =>
    have hl : (ps.map pr).length ≤ sizeLine := by have : (ps.map (·.2)).length ≤ sizeLine := hf; simpa using this
    refine mkN_rf rfl (seq_to (δ' := [.sh (Pt.rcd c ps).d, .un]) (by rw [if_f (by kernel_rfl)]; rfl) (seq_to (δ' := [.sh (Pt.rcd c ps).d, .sh (.tup (ps.map pr))]) (set_of rfl) (seq_to (δ' := [.sh (Pt.rcd c ps).d, .sh (.lst (ps.map (·.2)))]) (by
      rw [if_t (by kernel_rfl)]
      exact seq_to (set_of (comp_of (items := ps.map pr) rfl hl (comp_snd2 ps))) rfl) (seq_rf (retF_of ?_)))))
    exact comp_of (items := (Pt.rcd c ps).vals) rfl hf (lk_filter _ h.2)
/-! ### the walk, of numbers alone -/
inductive Dfs (adj : Nat → List Nat) : Nat → List Nat → List Nat → List Nat → Prop
  | nil (o : List Nat) : Dfs adj 0 o [] o
  | skip {c : Nat} {o T r : List Nat} {x : Nat} : x ∈ o → Dfs adj c o T r → Dfs adj (c + 1) o (x :: T) r
  | visit {c : Nat} {o T r : List Nat} {x : Nat} : x ∉ o → (adj x ++ T).length + o.length ≤ 10000 → Dfs adj c (o ++ [x]) (adj x ++ T) r → Dfs adj (c + 1) o (x :: T) r
theorem nodup_subN : ∀ {l m : List Nat}, l.Nodup → (∀ a ∈ l, a ∈ m) → l.length ≤ m.length
  | [], m, _, _ => Nat.zero_le _
  | a :: l, m, h, hs => by
    obtain ⟨h1, h2⟩ := List.nodup_cons.mp h
    obtain ⟨m1, m2, rfl⟩ := List.append_of_mem (hs a List.mem_cons_self)
    have := nodup_subN (m := m1 ++ m2) h2 fun b hb => by
      have := hs b (List.mem_cons_of_mem _ hb)
      rcases List.mem_append.mp this with q | q
      · exact List.mem_append.mpr (.inl q)
      · rcases List.mem_cons.mp q with rfl | q
        · exact absurd hb h1
        · exact List.mem_append.mpr (.inr q)
    simp only [List.length_append, List.length_cons] at this ⊢
    omega
theorem dfs_ex (adj : Nat → List Nat) (n : Nat) (hn : n ≤ 60) (ha : ∀ i, i < n → (adj i).length ≤ 12 ∧ ∀ j ∈ adj i, j < n) : ∀ (M : Nat) (o T : List Nat), T.length + 13 * (n - o.length) ≤ M → M ≤ 5000 → o.Nodup → (∀ x ∈ o, x < n) → (∀ x ∈ T, x < n) →
    ∃ c r, Dfs adj c o T r ∧ c ≤ M ∧ r.Nodup ∧ (∀ x ∈ r, x < n) ∧ o.length ≤ r.length := by
  intro M
  induction M with
  | zero =>
    intro o T hM hM2 ho hon hT
    have : T = [] := List.length_eq_zero_iff.mp (by omega)
    subst this
    exact ⟨0, o, .nil o, Nat.le_refl _, ho, hon, Nat.le_refl _⟩
  | succ M ih =>
    intro o T hM hM2 ho hon hT
    cases T with
    | nil => exact ⟨0, o, .nil o, Nat.zero_le _, ho, hon, Nat.le_refl _⟩
    | cons x T =>
      rw [List.length_cons] at hM
      by_cases hx : x ∈ o
      · obtain ⟨c, r, h1, h2, h3⟩ := ih o T (by omega) (by omega) ho hon fun y hy => hT y (List.mem_cons_of_mem _ hy)
        exact ⟨c + 1, r, .skip hx h1, by omega, h3⟩
      · have hxn := hT x List.mem_cons_self
        obtain ⟨hl, hj⟩ := ha x hxn
        have hnd : (o ++ [x]).Nodup := List.nodup_append.mpr ⟨ho, by simp, fun a ha b hb e => by
          have := List.mem_singleton.mp hb
          subst this; subst e; exact hx ha⟩
        have hin : ∀ y ∈ o ++ [x], y < n := fun y hy => by
          rcases List.mem_append.mp hy with z | z
          · exact hon y z
          · have := List.mem_singleton.mp z; subst this; exact hxn
        have hlen : (o ++ [x]).length ≤ n := by
          have := nodup_subN hnd (m := List.range n) fun y hy => List.mem_range.mpr (hin y hy)
          rwa [List.length_range] at this
        rw [List.length_append, List.length_singleton] at hlen
        obtain ⟨c, r, h1, h2, h3, h4, h5⟩ := ih (o ++ [x]) (adj x ++ T) (by simp only [List.length_append, List.length_singleton]; omega) (by omega) hnd hin (fun y hy => by
          rcases List.mem_append.mp hy with z | z
          · exact hj y z
          · exact hT y (List.mem_cons_of_mem _ z))
        refine ⟨c + 1, r, .visit hx (by rw [List.length_append]; omega) h1, by omega, h3, h4, ?_⟩
        rw [List.length_append] at h5
        omega
end K6
namespace K6
open PySem DL W
def nd (l : List Nat) : List D := l.map fun (i : Nat) => D.int (i : Int)
def kd (l : List Nat) : List KeyD := l.map fun (i : Nat) => Sum.inl (i : Int)
def td (l : List Nat) : List D := l.map fun _ => .bl true
theorem nd_app (a b : List Nat) : nd (a ++ b) = nd a ++ nd b := by unfold nd; rw [List.map_append]
theorem nd_rev (a : List Nat) : (nd a).reverse = nd a.reverse := by unfold nd; rw [List.map_reverse]
theorem nd_len (a : List Nat) : (nd a).length = a.length := by simp [nd]
theorem has_kd (o : List Nat) (x : Nat) : hasK (kd o) (.inl (x : Int)) = decide (x ∈ o) := by
  unfold hasK kd
  rw [List.any_map]
  rw [Bool.eq_iff_iff, List.any_eq_true, decide_eq_true_eq]
  constructor
  · rintro ⟨y, hy, e⟩
    have e := of_decide_eq_true e
    injection e with e
    have : y = x := by omega
    subst this; exact hy
  · intro h; exact ⟨x, h, decide_eq_true rfl⟩
/-- what of a web is asked -/
structure Adj (Wb : List D) (n : Nat) (adj : Nat → List Nat) : Prop where
  len : Wb.length = n
  few : n ≤ 60
  ok : ∀ i, i < n → ∃ d, Wb[i]? = some d ∧ m_links [d] = some (.lst (nd (adj i))) ∧ m__law_goals [d] = some (.lst (nd (adj i))) ∧ (adj i).length ≤ 12 ∧ ∀ j ∈ adj i, j < n
theorem Adj.at {Wb : List D} {n : Nat} {adj : Nat → List Nat} (h : Adj Wb n adj) {i : Nat} (hi : i < n) : ∃ d, ixD (.tup Wb) (.int (i : Int)) = some d ∧ m_links [d] = some (.lst (nd (adj i))) ∧ m__law_goals [d] = some (.lst (nd (adj i))) := by
  obtain ⟨d, h1, h2, h3, _⟩ := h.ok i hi
  refine ⟨d, ?_, h2, h3⟩
  show atI Wb (i : Int) = _
  rw [atI_in (by omega) (by rw [h.len]; omega) .non, Int.toNat_natCast, List.getD_eq_getElem?_getD, h1]
  rfl
def MT : GB := (ob (o2 (borE (oA (consA (gv 5) nilA) lenD)) (gc (.int 0)) gtD))
def MB : GS := (seqD (asgX (popX 5) (gN 6))
  (seqD (ifD (borB (ob (o2 (gv 6) (gv 4) (inDctD true))))
  (seqD (asgX (pureX (gc (.bl true))) (putAt 4 (gv 6)))
  (seqD (exprX (appX 3 (gv 6)))
  (seqD (exprX (extX 5 (oA (consA (oA (consA (o2 (gv 0) (gv 6) ixD) nilA) m_links) nilA) revD)))
  nilD)))
  nilD)
  nilD))
def ms (Wb : List D) (k l : Sl) (o T : List Nat) (s : Sl) : Ds := [.sh (.tup Wb), k, l, .ow (.lst (nd o)), .ow (.dct (kd o) (td o)), .ow (.lst (nd T.reverse)), s]
theorem mt_ok (Wb : List D) (k l s : Sl) (o T : List Nat) : MT (ms Wb k l o T s) = some (decide (0 < T.length)) := by
  have e : borE (oA (consA (gv 5) nilA) lenD) (ms Wb k l o T s) = some (.int (T.length : Int)) := by
    show some (D.int ((nd T.reverse).length : Int)) = _
    rw [nd_len, List.length_reverse]
  unfold MT ob
  rw [o2_of (x := .int (T.length : Int)) (y := .int 0) e rfl]
  show some (decide ((0 : Int) < (T.length : Int))) = _
  congr 1
  rw [decide_eq_decide]
  omega
theorem mpop (Wb : List D) (k l s : Sl) (o T : List Nat) (x : Nat) : asgX (popX 5) (gN 6) (ms Wb k l o (x :: T) s) = some (.nx (ms Wb k l o T (.sh (.int (x : Int))))) := by
  have e1 : owL 5 (ms Wb k l o (x :: T) s) = some (nd (x :: T).reverse) := rfl
  have e2 : nd (x :: T).reverse = nd T.reverse ++ [.int (x : Int)] := by rw [List.reverse_cons, nd_app]; rfl
  unfold asgX popX
  rw [e1, Option.bind_some, e2, List.getLast?_concat, List.dropLast_concat]
  rfl
theorem mtest (Wb : List D) (k l : Sl) (o T : List Nat) (x : Nat) : borB (ob (o2 (gv 6) (gv 4) (inDctD true))) (ms Wb k l o T (.sh (.int (x : Int)))) = some (decide (x ∉ o)) := by
  show some (xor true (hasK (kd o) (.inl (x : Int)))) = _
  rw [has_kd, Bool.true_xor]
  congr 1
  by_cases h : x ∈ o <;> simp [h]
theorem met_while {Wb : List D} {n : Nat} {adj : Nat → List Nat} (hA : Adj Wb n adj) (k l : Sl) : ∀ {c : Nat} {o T r : List Nat}, Dfs adj c o T r → (∀ x ∈ T, x < n) → o.length + T.length ≤ 10001 → ∀ (m : Nat) (s : Sl), c < m → ∃ s', whileD MT MB m (ms Wb k l o T s) = some (.nx (ms Wb k l r [] s')) := by
  intro c o T r h
  induction h with
  | nil o =>
    intro _ _ m s hm
    cases m with
    | zero => omega
    | succ m =>
      refine ⟨s, ?_⟩
      unfold whileD
      rw [mt_ok]
      rfl
  | @skip c o T r x hx hd ih =>
    intro hT hl m s hm
    cases m with
    | zero => omega
    | succ m =>
      rw [List.length_cons] at hl
      obtain ⟨s', e⟩ := ih (fun y hy => hT y (List.mem_cons_of_mem _ hy)) (by omega) m (.sh (.int (x : Int))) (by omega)
      refine ⟨s', ?_⟩
      have eb : MB (ms Wb k l o (x :: T) s) = some (.nx (ms Wb k l o T (.sh (.int (x : Int))))) :=
        seq_to (mpop Wb k l s o T x) (seq_to (δ' := ms Wb k l o T (.sh (.int (x : Int)))) (by rw [if_f (by rw [mtest]; simp [hx])]; rfl) rfl)
      unfold whileD
      rw [mt_ok, decide_eq_true (by simp)]
      dsimp only
      rw [eb]
      exact e
  | @visit c o T r x hx hz hd ih =>
    intro hT hl m s hm
    cases m with
    | zero => omega
    | succ m =>
      have hxn := hT x List.mem_cons_self
      obtain ⟨d, hd1, hd2, _⟩ := hA.at hxn
      obtain ⟨_, _, _, _, hal, haj⟩ := hA.ok x hxn
      have zs : (20000 : Nat) ≤ sizeLine := by decide
      rw [List.length_append] at hz
      obtain ⟨s', e⟩ := ih (fun y hy => by
        rcases List.mem_append.mp hy with q | q
        · exact haj y q
        · exact hT y (List.mem_cons_of_mem _ q)) (by simp only [List.length_append, List.length_singleton]; omega) m (.sh (.int (x : Int))) (by omega)
      refine ⟨s', ?_⟩
      have p1 : asgX (pureX (gc (.bl true))) (putAt 4 (gv 6)) (ms Wb k l o T (.sh (.int (x : Int)))) = some (.nx [.sh (.tup Wb), k, l, .ow (.lst (nd o)), .ow (.dct (kd (o ++ [x])) (td (o ++ [x]))), .ow (.lst (nd T.reverse)), .sh (.int (x : Int))]) := by
        have hk : hasK (kd o) (.inl (x : Int)) = false := by rw [has_kd, decide_eq_false hx]
        have e1 : putKs (kd o) (.inl (x : Int)) = kd (o ++ [x]) := by
          unfold putKs; rw [hk, if_neg (by simp)]; unfold kd; rw [List.map_append]; rfl
        have e2 : putDs (kd o) (td o) (.inl (x : Int)) (.bl true) = td (o ++ [x]) := by
          unfold putDs; rw [hk, if_neg (by simp)]; unfold td; rw [List.map_append]; rfl
        unfold asgX pureX
        show ((if (kd o).length < sizeLine then some ([.sh (.tup Wb), k, l, .ow (.lst (nd o)), Sl.ow (.dct (putKs (kd o) (.inl (x : Int))) (putDs (kd o) (td o) (.inl (x : Int)) (.bl true))), .ow (.lst (nd T.reverse)), .sh (.int (x : Int))]) else none).map Res.nx) = _
        rw [if_pos (by unfold kd; rw [List.length_map]; omega), e1, e2]
        rfl
      have p2 : exprX (appX 3 (gv 6)) [.sh (.tup Wb), k, l, .ow (.lst (nd o)), .ow (.dct (kd (o ++ [x])) (td (o ++ [x]))), .ow (.lst (nd T.reverse)), .sh (.int (x : Int))] = some (.nx [.sh (.tup Wb), k, l, .ow (.lst (nd (o ++ [x]))), .ow (.dct (kd (o ++ [x])) (td (o ++ [x]))), .ow (.lst (nd T.reverse)), .sh (.int (x : Int))]) := by
        unfold exprX appX
        show Option.map _ (if (nd o).length < sizeLine then _ else _) = _
        rw [if_pos (by rw [nd_len]; omega), nd_app]
        rfl
      have p3 : exprX (extX 5 (oA (consA (oA (consA (o2 (gv 0) (gv 6) ixD) nilA) m_links) nilA) revD)) [.sh (.tup Wb), k, l, .ow (.lst (nd (o ++ [x]))), .ow (.dct (kd (o ++ [x])) (td (o ++ [x]))), .ow (.lst (nd T.reverse)), .sh (.int (x : Int))] = some (.nx (ms Wb k l (o ++ [x]) (adj x ++ T) (.sh (.int (x : Int))))) := by
        have ev : oA (consA (oA (consA (o2 (gv 0) (gv 6) ixD) nilA) m_links) nilA) revD [.sh (.tup Wb), k, l, .ow (.lst (nd (o ++ [x]))), .ow (.dct (kd (o ++ [x])) (td (o ++ [x]))), .ow (.lst (nd T.reverse)), .sh (.int (x : Int))] = some (.lst (nd (adj x).reverse)) := by
          rw [oA_of (ds := [.lst (nd (adj x))]) (cons_of (d := .lst (nd (adj x))) (by
            rw [oA_of (ds := [d]) (cons_of (d := d) (by rw [o2_of (x := .tup Wb) (y := .int (x : Int)) rfl rfl]; exact hd1) rfl)]
            exact hd2) rfl)]
          show some (D.lst (nd (adj x)).reverse) = _
          rw [nd_rev]
        unfold exprX extX
        rw [ev]
        show Option.map _ (if (nd T.reverse).length + (nd (adj x).reverse).length ≤ sizeLine then _ else _) = _
        rw [if_pos (by rw [nd_len, nd_len, List.length_reverse, List.length_reverse]; omega), ← nd_app, ← List.reverse_append]
        rfl
      have eb : MB (ms Wb k l o (x :: T) s) = some (.nx (ms Wb k l (o ++ [x]) (adj x ++ T) (.sh (.int (x : Int))))) :=
        seq_to (mpop Wb k l s o T x) (seq_to (δ' := ms Wb k l (o ++ [x]) (adj x ++ T) (.sh (.int (x : Int)))) (by
          rw [if_t (by rw [mtest]; simp [hx])]
          exact seq_to p1 (seq_to p2 (seq_to p3 rfl))) rfl)
      unfold whileD
      rw [mt_ok, decide_eq_true (by simp)]
      dsimp only
      rw [eb]
      exact e
/-- met -/
theorem met_ok {Wb : List D} {n : Nat} {adj : Nat → List Nat} (hA : Adj Wb n adj) (x : Nat) {c : Nat} {r : List Nat} (h : Dfs adj c [x] (adj x) r) (hx : x < n) (hc : c ≤ 5000) : m_met [.tup Wb, .int (x : Int)] = some (.lst (nd r)) := by
  obtain ⟨_, _, _, _, hal, haj⟩ := hA.ok x hx
  have h0 : Dfs adj (c + 1) [] [x] r := .visit (by simp) (by simp; omega) (by simpa using h)
  obtain ⟨s', e⟩ := met_while hA (.sh (.int (x : Int))) (.sh (.dct [] [])) h0 (fun y hy => by have := List.mem_singleton.mp hy; subst this; exact hx) (by simp) 100000 .un (by omega)
  have hb : m_met_but [.tup Wb, .int (x : Int), .dct [] []] = some (.lst (nd r)) :=
    mkN_rf rfl (seq_to (δ' := [.sh (.tup Wb), .sh (.int (x : Int)), .sh (.dct [] []), .ow (.lst []), .un, .un, .un]) rfl (seq_to (δ' := [.sh (.tup Wb), .sh (.int (x : Int)), .sh (.dct [] []), .ow (.lst []), .ow (.dct [] []), .un, .un]) rfl (seq_to (δ' := ms Wb (.sh (.int (x : Int))) (.sh (.dct [] [])) [] [x] .un) rfl (seq_to e (seq_rf rfl)))))
  exact mkN_rf rfl (seq_rf (retF_of (by rw [oA_of (ds := [.tup Wb, .int (x : Int), .dct [] []]) rfl]; exact hb)))
end K6
namespace K6
open PySem DL W
def fd (f : Nat × Nat) : D := .tup [.int (f.1 : Int), .int (f.2 : Int)]
def todo (adj : Nat → List Nat) (fr : List (Nat × Nat)) : List Nat := fr.reverse.flatMap fun f => (adj f.1).drop f.2
theorem todo_snoc (adj : Nat → List Nat) (fr : List (Nat × Nat)) (a j : Nat) : todo adj (fr ++ [(a, j)]) = (adj a).drop j ++ todo adj fr := by
  unfold todo
  rw [List.reverse_append]
  rfl
def DT : GB := (ob (o2 (borE (oA (consA (gv 3) nilA) lenD)) (gc (.int 0)) gtD))
def DB : GS := (seqD (asgX (popX 3) (tup2 4 5))
  (seqD (setD (gN 6) (oA (consA (o2 (gv 0) (gv 4) ixD) nilA) m__law_goals))
  (seqD (ifD (ob (o2 (gv 5) (oA (consA (gv 6) nilA) lenD) ltD))
  (seqD (exprX (appX 3 (tupG (consA (gv 4) (consA (o2 (gv 5) (gc (.int 1)) addA) nilA)))))
  (seqD (ifD (borB (ob (o2 (o2 (gv 6) (gv 5) ixD) (gv 2) (inSeqD true))))
  (seqD (exprX (appX 2 (o2 (gv 6) (gv 5) ixD)))
  (seqD (exprX (appX 3 (tupG (consA (o2 (gv 6) (gv 5) ixD) (consA (gc (.int 0)) nilA)))))
  nilD))
  nilD)
  nilD))
  nilD)
  nilD)))
def ds (Wb : List D) (k : Sl) (o : List Nat) (fr : List (Nat × Nat)) (s4 s5 s6 : Sl) : Ds := [.sh (.tup Wb), k, .ow (.lst (nd o)), .ow (.lst (fr.map fd)), s4, s5, s6]
theorem dt_ok (Wb : List D) (k s4 s5 s6 : Sl) (o : List Nat) (fr : List (Nat × Nat)) : DT (ds Wb k o fr s4 s5 s6) = some (decide (0 < fr.length)) := by
  have e : borE (oA (consA (gv 3) nilA) lenD) (ds Wb k o fr s4 s5 s6) = some (.int (fr.length : Int)) := by
    show some (D.int ((fr.map fd).length : Int)) = _
    rw [List.length_map]
  unfold DT ob
  rw [o2_of (x := .int (fr.length : Int)) (y := .int 0) e rfl]
  show some (decide ((0 : Int) < (fr.length : Int))) = _
  congr 1
  rw [decide_eq_decide]
  omega
theorem in_nd (o : List Nat) (x : Nat) : inSeqD true (.int (x : Int)) (.lst (nd o)) = some (.bl (decide (x ∉ o))) := by
  have h1 : (nd o).all flat = true := List.all_eq_true.mpr fun d hd => by
    obtain ⟨i, _, rfl⟩ := List.mem_map.mp hd; rfl
  have h2 : ((nd o).any fun y => eqF y (.int (x : Int))) = decide (x ∈ o) := by
    unfold nd
    rw [List.any_map, Bool.eq_iff_iff, List.any_eq_true, decide_eq_true_eq]
    constructor
    · rintro ⟨y, hy, e⟩
      have e : ((y : Int) == (x : Int)) = true := e
      have : y = x := by have := eq_of_beq e; omega
      subst this; exact hy
    · intro h; exact ⟨x, h, by show ((x : Int) == (x : Int)) = true; simp⟩
  simp only [inSeqD]
  rw [if_pos ⟨rfl, h1⟩, h2, Bool.true_xor]
  congr 2
  by_cases h : x ∈ o <;> simp [h]
theorem app_ow {i : Nat} {g : GE} {δ : Ds} {l : List D} {d : D} (h1 : owL i δ = some l) (h2 : g δ = some d) (h3 : l.length < sizeLine) : exprX (appX i g) δ = some (.nx (δ.set i (.ow (.lst (l ++ [d]))))) := by
  unfold exprX appX
  rw [h1, h2]
  simp only [Option.bind_some]
  rw [if_pos h3]
  rfl
theorem due_while {Wb : List D} {n : Nat} {adj : Nat → List Nat} (hA : Adj Wb n adj) (k : Sl) : ∀ (N c : Nat) (o T r : List Nat) (fr : List (Nat × Nat)), 2 * c + fr.length ≤ N → N ≤ 15000 → Dfs adj c o T r → T = todo adj fr → (∀ f ∈ fr, f.1 < n) → o.length ≤ 10001 → ∀ (m : Nat) (s4 s5 s6 : Sl), N < m →
    ∃ t4 t5 t6, whileD DT DB m (ds Wb k o fr s4 s5 s6) = some (.nx (ds Wb k r [] t4 t5 t6)) := by
  have zs : (20000 : Nat) ≤ sizeLine := by decide
  have z2 : 2 ≤ sizeLine := by decide
  intro N
  induction N with
  | zero =>
    intro c o T r fr hN _ h hT _ _ m s4 s5 s6 hm
    have hfr : fr = [] := List.length_eq_zero_iff.mp (by omega)
    subst hfr
    have : T = [] := hT
    subst this
    cases h
    cases m with
    | zero => omega
    | succ m =>
      refine ⟨s4, s5, s6, ?_⟩
      unfold whileD
      rw [dt_ok]
      rfl
  | succ N ih =>
    intro c o T r fr hN hN2 h hT hf ho m s4 s5 s6 hm
    cases m with
    | zero => omega
    | succ m =>
      by_cases hne : fr = []
      · subst hne
        have : T = [] := hT
        subst this
        cases h
        refine ⟨s4, s5, s6, ?_⟩
        unfold whileD
        rw [dt_ok]
        rfl
      · obtain ⟨fr', f, hfe⟩ : ∃ fr' f, fr = fr' ++ [f] := ⟨fr.dropLast, fr.getLast hne, (List.dropLast_concat_getLast hne).symm⟩
        obtain ⟨a, j⟩ := f
        subst hfe
        have han : a < n := hf (a, j) (by simp)
        have hf' : ∀ f ∈ fr', f.1 < n := fun f hf'' => hf f (List.mem_append.mpr (.inl hf''))
        obtain ⟨d, hd1, _, hd3⟩ := hA.at han
        obtain ⟨_, _, _, _, hal, haj⟩ := hA.ok a han
        rw [List.length_append, List.length_singleton] at hN
        rw [todo_snoc] at hT
        -- the first two steps
        have q1 : asgX (popX 3) (tup2 4 5) (ds Wb k o (fr' ++ [(a, j)]) s4 s5 s6) = some (.nx (ds Wb k o fr' (.sh (.int (a : Int))) (.sh (.int (j : Int))) s6)) := by
          have e1 : owL 3 (ds Wb k o (fr' ++ [(a, j)]) s4 s5 s6) = some ((fr' ++ [(a, j)]).map fd) := rfl
          unfold asgX popX
          rw [e1, Option.bind_some, List.map_append, List.map_cons, List.map_nil, List.getLast?_concat, List.dropLast_concat]
          rfl
        have q2 : setD (gN 6) (oA (consA (o2 (gv 0) (gv 4) ixD) nilA) m__law_goals) (ds Wb k o fr' (.sh (.int (a : Int))) (.sh (.int (j : Int))) s6) = some (.nx (ds Wb k o fr' (.sh (.int (a : Int))) (.sh (.int (j : Int))) (.sh (.lst (nd (adj a)))))) :=
          set_of (by
            rw [oA_of (ds := [d]) (cons_of (d := d) (by rw [o2_of (x := .tup Wb) (y := .int (a : Int)) rfl rfl]; exact hd1) rfl)]
            exact hd3)
        have q3 : ob (o2 (gv 5) (oA (consA (gv 6) nilA) lenD) ltD) (ds Wb k o fr' (.sh (.int (a : Int))) (.sh (.int (j : Int))) (.sh (.lst (nd (adj a))))) = some (decide (j < (adj a).length)) := by
          show some (decide ((j : Int) < ((nd (adj a)).length : Int))) = _
          rw [nd_len]
          congr 1
          rw [decide_eq_decide]
          omega
        have go : ∀ δ', DB (ds Wb k o (fr' ++ [(a, j)]) s4 s5 s6) = some (.nx δ') → (∃ t4 t5 t6, whileD DT DB m δ' = some (.nx (ds Wb k r [] t4 t5 t6))) → ∃ t4 t5 t6, whileD DT DB (m + 1) (ds Wb k o (fr' ++ [(a, j)]) s4 s5 s6) = some (.nx (ds Wb k r [] t4 t5 t6)) := by
          rintro δ' eb ⟨t4, t5, t6, e⟩
          refine ⟨t4, t5, t6, ?_⟩
          conv => lhs; unfold whileD
          rw [dt_ok, decide_eq_true (by simp)]
          dsimp only
          rw [eb]
          exact e
        by_cases hj : j < (adj a).length
        · have hdrop : (adj a).drop j = (adj a)[j] :: (adj a).drop (j + 1) := List.drop_eq_getElem_cons hj
          obtain ⟨g, hg⟩ : ∃ g, g = (adj a)[j] := ⟨_, rfl⟩
          rw [hdrop, ← hg, List.cons_append] at hT
          have hgn : g < n := by rw [hg]; exact haj _ (List.getElem_mem hj)
          have gix : ixD (.lst (nd (adj a))) (.int (j : Int)) = some (.int (g : Int)) := by
            show atI (nd (adj a)) (j : Int) = _
            rw [atI_in (by omega) (by rw [nd_len]; omega) .non, Int.toNat_natCast, hg]
            unfold nd
            simp [List.getD_eq_getElem?_getD, hj]
          have q4 : exprX (appX 3 (tupG (consA (gv 4) (consA (o2 (gv 5) (gc (.int 1)) addA) nilA)))) (ds Wb k o fr' (.sh (.int (a : Int))) (.sh (.int (j : Int))) (.sh (.lst (nd (adj a))))) = some (.nx (ds Wb k o (fr' ++ [(a, j + 1)]) (.sh (.int (a : Int))) (.sh (.int (j : Int))) (.sh (.lst (nd (adj a)))))) := by
            refine (app_ow (l := fr'.map fd) (d := fd (a, j + 1)) rfl (tup_of rfl z2) (by rw [List.length_map]; omega)).trans ?_
            unfold ds
            rw [List.map_append]
            rfl
          have q5 : borB (ob (o2 (o2 (gv 6) (gv 5) ixD) (gv 2) (inSeqD true))) (ds Wb k o (fr' ++ [(a, j + 1)]) (.sh (.int (a : Int))) (.sh (.int (j : Int))) (.sh (.lst (nd (adj a))))) = some (decide (g ∉ o)) := by
            unfold borB ob
            rw [o2_of (x := .int (g : Int)) (y := .lst (nd o)) (by rw [o2_of (x := .lst (nd (adj a))) (y := .int (j : Int)) rfl rfl]; exact gix) rfl, in_nd]
            rfl
          rw [hT] at h
          cases h with
          | skip hin h' =>
            refine go _ (seq_to q1 (seq_to q2 (seq_to (δ' := ds Wb k o (fr' ++ [(a, j + 1)]) (.sh (.int (a : Int))) (.sh (.int (j : Int))) (.sh (.lst (nd (adj a))))) (by
              rw [if_t (by rw [q3, decide_eq_true hj])]
              exact seq_to q4 (seq_to (δ' := ds Wb k o (fr' ++ [(a, j + 1)]) (.sh (.int (a : Int))) (.sh (.int (j : Int))) (.sh (.lst (nd (adj a))))) (by rw [if_f (by rw [q5]; simp [hin])]; rfl) rfl)) rfl))) ?_
            refine ih _ o _ r (fr' ++ [(a, j + 1)]) ?_ (by omega) h' (by rw [todo_snoc]) (fun f hf2 => ?_) ho m _ _ _ (by omega)
            · rw [List.length_append, List.length_singleton]; omega
            · rcases List.mem_append.mp hf2 with z | z
              · exact hf' f z
              · have := List.mem_singleton.mp z; subst this; exact han
          | visit hin hz h' =>
            have q6 : exprX (appX 2 (o2 (gv 6) (gv 5) ixD)) (ds Wb k o (fr' ++ [(a, j + 1)]) (.sh (.int (a : Int))) (.sh (.int (j : Int))) (.sh (.lst (nd (adj a))))) = some (.nx (ds Wb k (o ++ [g]) (fr' ++ [(a, j + 1)]) (.sh (.int (a : Int))) (.sh (.int (j : Int))) (.sh (.lst (nd (adj a)))))) := by
              refine (app_ow (l := nd o) (d := .int (g : Int)) rfl (by rw [o2_of (x := .lst (nd (adj a))) (y := .int (j : Int)) rfl rfl]; exact gix) (by rw [nd_len]; omega)).trans ?_
              unfold ds
              rw [nd_app]
              rfl
            have q7 : exprX (appX 3 (tupG (consA (o2 (gv 6) (gv 5) ixD) (consA (gc (.int 0)) nilA)))) (ds Wb k (o ++ [g]) (fr' ++ [(a, j + 1)]) (.sh (.int (a : Int))) (.sh (.int (j : Int))) (.sh (.lst (nd (adj a))))) = some (.nx (ds Wb k (o ++ [g]) (fr' ++ [(a, j + 1)] ++ [(g, 0)]) (.sh (.int (a : Int))) (.sh (.int (j : Int))) (.sh (.lst (nd (adj a)))))) := by
              refine (app_ow (l := (fr' ++ [(a, j + 1)]).map fd) (d := fd (g, 0)) rfl (tup_of (cons_of (d := .int (g : Int)) (by rw [o2_of (x := .lst (nd (adj a))) (y := .int (j : Int)) rfl rfl]; exact gix) rfl) z2) (by rw [List.length_map, List.length_append, List.length_singleton]; omega)).trans ?_
              unfold ds
              rw [List.map_append (l₁ := fr' ++ [(a, j + 1)])]
              rfl
            refine go _ (seq_to q1 (seq_to q2 (seq_to (δ' := ds Wb k (o ++ [g]) (fr' ++ [(a, j + 1)] ++ [(g, 0)]) (.sh (.int (a : Int))) (.sh (.int (j : Int))) (.sh (.lst (nd (adj a))))) (by
              rw [if_t (by rw [q3, decide_eq_true hj])]
              exact seq_to q4 (seq_to (δ' := ds Wb k (o ++ [g]) (fr' ++ [(a, j + 1)] ++ [(g, 0)]) (.sh (.int (a : Int))) (.sh (.int (j : Int))) (.sh (.lst (nd (adj a))))) (by
                rw [if_t (by rw [q5]; simp [hin])]
                exact seq_to q6 (seq_to q7 rfl)) rfl)) rfl))) ?_
            refine ih _ (o ++ [g]) _ r (fr' ++ [(a, j + 1)] ++ [(g, 0)]) ?_ (by omega) h' (by rw [todo_snoc, todo_snoc, List.drop_zero]) (fun f hf2 => ?_) (by rw [List.length_append, List.length_singleton]; omega) m _ _ _ (by omega)
            · rw [List.length_append, List.length_append, List.length_singleton, List.length_singleton]; omega
            · rcases List.mem_append.mp hf2 with z | z
              · rcases List.mem_append.mp z with z | z
                · exact hf' f z
                · have := List.mem_singleton.mp z; subst this; exact han
              · have := List.mem_singleton.mp z; subst this; exact hgn
        · have hdrop : (adj a).drop j = [] := List.drop_eq_nil_of_le (by omega)
          rw [hdrop, List.nil_append] at hT
          refine go _ (seq_to q1 (seq_to q2 (seq_to (δ' := ds Wb k o fr' (.sh (.int (a : Int))) (.sh (.int (j : Int))) (.sh (.lst (nd (adj a))))) (by rw [if_f (by rw [q3, decide_eq_false hj])]; rfl) rfl))) ?_
          exact ih c o T r fr' (by omega) (by omega) h hT hf' ho m _ _ _ (by omega)
theorem due_ok {Wb : List D} {n : Nat} {adj : Nat → List Nat} (hA : Adj Wb n adj) (x : Nat) {c : Nat} {r : List Nat} (h : Dfs adj c [x] (adj x) r) (hx : x < n) (hc : c ≤ 5000) : m__law_order [.tup Wb, .int (x : Int)] = some (.lst (nd r)) := by
  obtain ⟨t4, t5, t6, e⟩ := due_while hA (.sh (.int (x : Int))) (2 * c + 1) c [x] (adj x) r [(x, 0)] (Nat.le_refl _) (by omega) h (by unfold todo; simp) (fun f hf => by have := List.mem_singleton.mp hf; subst this; exact hx) (by simp) 100000 .un .un .un (by omega)
  exact mkN_rf rfl (seq_to (δ' := [.sh (.tup Wb), .sh (.int (x : Int)), .ow (.lst (nd [x])), .un, .un, .un, .un]) rfl (seq_to (δ' := ds Wb (.sh (.int (x : Int))) [x] [(x, 0)] .un .un .un) rfl (seq_to e (seq_rf rfl))))
end K6
namespace K6
open PySem DL W
/-! ### the walk: what it leaves, and the walk of a web numbered otherwise -/
theorem dfs_facts {adj : Nat → List Nat} : ∀ {c : Nat} {o T r : List Nat}, Dfs adj c o T r → (∀ i ∈ o, ∀ j ∈ adj i, j ∈ o ∨ j ∈ T) → (∃ s, r = o ++ s) ∧ (∀ t ∈ T, t ∈ r) ∧ ∀ i ∈ r, ∀ j ∈ adj i, j ∈ r := by
  intro c o T r h
  induction h with
  | nil o => exact fun hc => ⟨⟨[], by simp⟩, (fun t ht => nomatch ht), fun i hi j hj => (hc i hi j hj).elim id fun z => nomatch z⟩
  | @skip c o T r x hx hd ih =>
    intro hc
    obtain ⟨⟨s, hs⟩, h2, h3⟩ := ih fun i hi j hj => (hc i hi j hj).elim .inl fun z => by
      rcases List.mem_cons.mp z with rfl | z
      · exact .inl hx
      · exact .inr z
    refine ⟨⟨s, hs⟩, fun t ht => ?_, h3⟩
    rcases List.mem_cons.mp ht with rfl | ht
    · rw [hs]; exact List.mem_append.mpr (.inl hx)
    · exact h2 t ht
  | @visit c o T r x hx hz hd ih =>
    intro hc
    obtain ⟨⟨s, hs⟩, h2, h3⟩ := ih fun i hi j hj => by
      rcases List.mem_append.mp hi with hi | hi
      · rcases hc i hi j hj with z | z
        · exact .inl (List.mem_append.mpr (.inl z))
        · rcases List.mem_cons.mp z with rfl | z
          · exact .inl (List.mem_append.mpr (.inr List.mem_cons_self))
          · exact .inr (List.mem_append.mpr (.inr z))
      · have := List.mem_singleton.mp hi
        subst this
        exact .inr (List.mem_append.mpr (.inl hj))
    refine ⟨⟨[x] ++ s, by rw [hs, List.append_assoc]⟩, fun t ht => ?_, h3⟩
    rcases List.mem_cons.mp ht with rfl | ht
    · rw [hs]; simp
    · exact h2 t (List.mem_append.mpr (.inr ht))
theorem dfs_map {adj adj' : Nat → List Nat} {f : Nat → Nat} (S : Nat → Prop) (hinj : ∀ a b, S a → S b → f a = f b → a = b) (hadj : ∀ i, S i → adj' (f i) = (adj i).map f) (hcl : ∀ i, S i → ∀ j ∈ adj i, S j) :
    ∀ {c : Nat} {o T r : List Nat}, Dfs adj c o T r → (∀ i ∈ o, S i) → (∀ i ∈ T, S i) → Dfs adj' c (o.map f) (T.map f) (r.map f) := by
  intro c o T r h
  induction h with
  | nil o => exact fun _ _ => .nil _
  | @skip c o T r x hx hd ih =>
    intro ho hT
    rw [List.map_cons]
    exact .skip (List.mem_map_of_mem hx) (ih ho fun i hi => hT i (List.mem_cons_of_mem _ hi))
  | @visit c o T r x hx hz hd ih =>
    intro ho hT
    have sx := hT x List.mem_cons_self
    rw [List.map_cons]
    have e1 : adj' (f x) ++ T.map f = (adj x ++ T).map f := by rw [hadj x sx, List.map_append]
    refine .visit (fun z => ?_) (by rw [e1, List.length_map, List.length_map]; exact hz) ?_
    · obtain ⟨y, hy, e⟩ := List.mem_map.mp z
      exact hx (by rw [← hinj y x (ho y hy) sx e]; exact hy)
    · have := ih (fun i hi => by
        rcases List.mem_append.mp hi with q | q
        · exact ho i q
        · have := List.mem_singleton.mp q; subst this; exact sx) fun i hi => by
        rcases List.mem_append.mp hi with q | q
        · exact hcl x sx i q
        · exact hT i (List.mem_cons_of_mem _ q)
      rw [e1]
      rw [List.map_append] at this
      exact this
/-! ### links led on -/
def lkm (f : Nat → Nat) (v : D) : D := match lk v with
  | some k => .tup [.str "at", .int (f k.toNat : Int)]
  | none => v
def rel (f : Nat → Nat) (p : Pt) : Pt := Pn.put p (p.vals.map (lkm f))
theorem lkm_at (f : Nat → Nat) (i : Int) : lkm f (.tup [.str "at", .int i]) = .tup [.str "at", .int (f i.toNat : Int)] := rfl
theorem zip_snd' : ∀ (a : List Str) (v : List D), a.length = v.length → (a.zip v).map Prod.snd = v
  | [], [], _ => rfl
  | [], _ :: _, h => by simp at h
  | _ :: _, [], h => by simp at h
  | a :: as, v :: vs, h => by simp [zip_snd' as vs (by simpa using h)]
theorem zip_fst' : ∀ (a : List Str) (v : List D), a.length = v.length → (a.zip v).map Prod.fst = a
  | [], [], _ => rfl
  | [], _ :: _, h => by simp at h
  | _ :: _, [], h => by simp at h
  | a :: as, v :: vs, h => by simp [zip_fst' as vs (by simpa using h)]
theorem put_vals (p : Pt) (vs : List D) (h : vs.length = p.vals.length) : (Pn.put p vs).vals = vs := by
  cases p with
  | text w => have : vs = [] := List.eq_nil_of_length_eq_zero h; rw [this]; rfl
  | row us => rfl
  | table ps => exact zip_snd' _ _ (by rw [List.length_map]; have : vs.length = (ps.map (·.2)).length := h; rw [this, List.length_map])
  | rcd c ps => exact zip_snd' _ _ (by rw [List.length_map]; have : vs.length = (ps.map (·.2)).length := h; rw [this, List.length_map])
theorem put_put (p : Pt) (vs us : List D) (h : vs.length = p.vals.length) : Pn.put (Pn.put p vs) us = Pn.put p us := by
  cases p with
  | text w => rfl
  | row us => rfl
  | table ps =>
    show Pt.table _ = Pt.table _
    rw [zip_fst' _ _ (by rw [List.length_map]; have : vs.length = (ps.map (·.2)).length := h; rw [this, List.length_map])]
  | rcd c ps =>
    show Pt.rcd _ _ = Pt.rcd _ _
    rw [zip_fst' _ _ (by rw [List.length_map]; have : vs.length = (ps.map (·.2)).length := h; rw [this, List.length_map])]
theorem rel_vals (f : Nat → Nat) (p : Pt) : (rel f p).vals = p.vals.map (lkm f) := put_vals p _ (by simp)
theorem rel_links (f : Nat → Nat) (p : Pt) (h : ∀ v ∈ p.vals, valB v = true) : (rel f p).links = p.links.map fun k => (f k.toNat : Int) := by
  unfold Pt.links
  rw [rel_vals]
  generalize p.vals = vs at h
  induction vs with
  | nil => rfl
  | cons v vs ih =>
    have ih := ih fun u hu => h u (List.mem_cons_of_mem _ hu)
    rcases val_cases (h v List.mem_cons_self) with rfl | ⟨i, rfl⟩ | ⟨i, rfl, _⟩
    · exact ih
    · exact ih
    · rw [List.map_cons, lkm_at]
      show ((f i.toNat : Nat) : Int) :: (vs.map (lkm f)).filterMap lk = ((f i.toNat : Nat) : Int) :: (vs.filterMap lk).map _
      rw [ih]
theorem rel_valB (f : Nat → Nat) (p : Pt) (h : ∀ v ∈ p.vals, valB v = true) : ∀ v ∈ (rel f p).vals, valB v = true := by
  rw [rel_vals]
  intro v hv
  obtain ⟨u, hu, rfl⟩ := List.mem_map.mp hv
  rcases val_cases (h u hu) with rfl | ⟨i, rfl⟩ | ⟨i, rfl, _⟩
  · rfl
  · rfl
  · rw [lkm_at]; simp [valB]; decide +kernel
theorem rel_rel (f g : Nat → Nat) (p : Pt) (h : ∀ v ∈ p.vals, valB v = true) : rel g (rel f p) = rel (fun i => g (f i)) p := by
  unfold rel
  have e : (Pn.put p (p.vals.map (lkm f))).vals = p.vals.map (lkm f) := put_vals p _ (by simp)
  rw [e, put_put _ _ _ (by simp), List.map_map]
  congr 1
  refine List.map_congr_left fun v hv => ?_
  rcases val_cases (h v hv) with rfl | ⟨i, rfl⟩ | ⟨i, rfl, _⟩
  · rfl
  · rfl
  · show lkm g (lkm f _) = _
    rw [lkm_at, lkm_at, lkm_at, Int.toNat_natCast]
theorem links_mem {p : Pt} {i : Int} (hv : D.tup [.str "at", .int i] ∈ p.vals) : i ∈ p.links := List.mem_filterMap.mpr ⟨_, hv, rfl⟩
theorem rel_congr {f g : Nat → Nat} (p : Pt) (h : ∀ v ∈ p.vals, valB v = true) (hf : ∀ k ∈ p.links, f k.toNat = g k.toNat) : rel f p = rel g p := by
  unfold rel
  congr 1
  refine List.map_congr_left fun v hv => ?_
  rcases val_cases (h v hv) with rfl | ⟨i, rfl⟩ | ⟨i, rfl, _⟩
  · rfl
  · rfl
  · rw [lkm_at, lkm_at, hf i (links_mem hv)]
/-! ### dicts of numbers -/
theorem get_nn : ∀ (ks vs : List Nat) (j : Nat), ks.length = vs.length → j ∈ ks → getK (kd ks) (nd vs) (.inl (j : Int)) = some (.int ((vs.getD (ks.idxOf j) 0 : Nat) : Int))
  | [], vs, j, _, h => nomatch h
  | k :: ks, [], j, h, _ => by simp at h
  | k :: ks, v :: vs, j, hl, h => by
    show getK (.inl (k : Int) :: kd ks) (.int (v : Int) :: nd vs) (.inl (j : Int)) = _
    unfold getK
    by_cases e : k = j
    · subst e
      rw [if_pos rfl]
      simp
    · rw [if_neg (by intro z; injection z with z; omega), get_nn ks vs j (by simpa using hl) (by
        rcases List.mem_cons.mp h with z | z
        · exact absurd z.symm e
        · exact z)]
      rw [List.idxOf_cons, show (k == j) = false by simpa using e]
      simp
end K6
namespace K6
open PySem DL W
structure G5 (p : Pt) (m : Int) : Prop where
  len : p.vals.length ≤ 12
  val : ∀ v ∈ p.vals, valB v = true
  lks : ∀ k ∈ p.links, k < m
structure W5 (ps : List Pt) : Prop where
  ne : 0 < ps.length
  len : ps.length ≤ 60
  ok : ∀ p ∈ ps, G5 p (ps.length : Int)
/-! ### the web as numbers -/
def pat (ps : List Pt) (i : Nat) : Pt := ps.getD i (.text "")
def adjOf (ps : List Pt) (i : Nat) : List Nat := ((pat ps i).links).map Int.toNat
theorem links_nn {p : Pt} (h : ∀ v ∈ p.vals, valB v = true) : ∀ k ∈ p.links, 0 ≤ k := fun k hk => by
  obtain ⟨v, hv, e⟩ := List.mem_filterMap.mp hk
  rcases val_cases (h v hv) with rfl | ⟨i, rfl⟩ | ⟨i, rfl, h0⟩
  · cases e
  · cases e
  · have := Option.some.inj e
    omega
theorem pat_mem {ps : List Pt} {i : Nat} (hi : i < ps.length) : pat ps i ∈ ps := by
  have e : pat ps i = ps[i] := by simp [pat, List.getD_eq_getElem?_getD, hi]
  rw [e]; exact List.getElem_mem hi
theorem pat_get {ps : List Pt} {i : Nat} (hi : i < ps.length) : ps[i]? = some (pat ps i) := by simp [pat, List.getD_eq_getElem?_getD, hi]
theorem W5.at {ps : List Pt} (h : W5 ps) {i : Nat} (hi : i < ps.length) : G5 (pat ps i) (ps.length : Int) := h.ok _ (pat_mem hi)
theorem G5.sane {p : Pt} {m : Int} (h : G5 p m) : p.sane := ⟨Nat.le_trans h.len (by decide), h.val⟩
theorem W5.adj {ps : List Pt} (h : W5 ps) : Adj (ps.map Pt.d) ps.length (adjOf ps) where
  len := by simp
  few := h.len
  ok := fun i hi => by
    have hp := h.at hi
    have hs := hp.sane
    have hnn := links_nn hp.val
    have en : (pat ps i).links.map D.int = nd (adjOf ps i) := by
      unfold adjOf nd
      rw [List.map_map]
      refine List.map_congr_left fun k hk => ?_
      have := hnn k hk
      show D.int k = D.int ((k.toNat : Nat) : Int)
      congr 1
      omega
    refine ⟨(pat ps i).d, by rw [List.getElem?_map, pat_get hi]; rfl, by rw [links_ok _ hs, en], by rw [goals_ok _ hs, en], ?_, fun j hj => ?_⟩
    · unfold adjOf
      rw [List.length_map]
      exact Nat.le_trans (List.length_filterMap_le _ _) hp.len
    · unfold adjOf at hj
      obtain ⟨k, hk, rfl⟩ := List.mem_map.mp hj
      have := hp.lks k hk
      have := hnn k hk
      omega
/-! ### relinked, led -/
theorem with_ok (p : Pt) (h : p.few) (vs : List D) : m_with_values [p.d, .lst vs] = some (Pn.put p vs).d := by
  have e := pair_names_ok p h
  cases p with
  | text w => kernel_rfl
  | row us => kernel_rfl
  | table ps =>
    refine mkF_rt rfl (seq_to (δ' := [.sh (Pt.table ps).d, .sh (.lst vs), .un]) (by rw [if_f (by kernel_rfl)]; rfl) (seq_to (δ' := [.sh (Pt.table ps).d, .sh (.lst vs), .un]) (by rw [if_f (by kernel_rfl)]; rfl) (seq_to (set_of (d := .tup (((ps.map (·.1)).zip vs).map pr)) ?_) (seq_rt ?_))))
    · rw [oA_of (cons_of (by rw [oA_of (ds := [(Pt.table ps).d]) rfl]; exact e) (cons_of rfl rfl))]
      exact Pn.zip_pr _ _
    · rw [if_t (by kernel_rfl)]
      rfl
  | rcd c ps =>
    refine mkF_rt rfl (seq_to (δ' := [.sh (Pt.rcd c ps).d, .sh (.lst vs), .un]) (by rw [if_f (by kernel_rfl)]; rfl) (seq_to (δ' := [.sh (Pt.rcd c ps).d, .sh (.lst vs), .un]) (by rw [if_f (by kernel_rfl)]; rfl) (seq_to (set_of (d := .tup (((ps.map (·.1)).zip vs).map pr)) ?_)
      (seq_to (δ' := [.sh (Pt.rcd c ps).d, .sh (.lst vs), .sh (.tup (((ps.map (·.1)).zip vs).map pr))]) (by rw [if_f (by kernel_rfl)]; rfl) ?_))))
    · rw [oA_of (cons_of (by rw [oA_of (ds := [(Pt.rcd c ps).d]) rfl]; exact e) (cons_of rfl rfl))]
      exact Pn.zip_pr _ _
    · rfl
/-- the dict leads the part's links by f -/
def Leads (ks : List KeyD) (ds : List D) (f : Nat → Nat) (p : Pt) : Prop := ∀ k ∈ p.links, dgetD (.dct ks ds) (.int k) = some (.int ((f k.toNat : Nat) : Int))
theorem relinked_ok (p : Pt) (hs : p.sane) {ks : List KeyD} {ds : List D} {f : Nat → Nat} (h : Leads ks ds f p) : m_relinked [p.d, .dct ks ds] = some (rel f p).d := by
  have z2 : 2 ≤ sizeLine := by decide
  refine mkF_rt rfl (seq_to (set_of (d := .lst (p.vals.map (lkm f))) (comp_of (items := p.vals) (by
    unfold lstI
    rw [oA_of (ds := [p.d]) rfl, values_ok p hs.1]
    rfl) hs.1 ?_)) (seq_rt (ret_of ?_)))
  · refine compD_map (lkm f) fun v hv => ?_
    rcases val_cases (hs.2 v hv) with rfl | ⟨i, rfl⟩ | ⟨i, rfl, _⟩
    · exact ⟨[.sh .non, .sh (.dct ks ds)], rfl, rfl, rfl⟩
    · exact ⟨[.sh (.int i), .sh (.dct ks ds)], rfl, rfl, rfl⟩
    · refine ⟨[.sh (.tup [.str "at", .int i]), .sh (.dct ks ds)], rfl, rfl, ?_⟩
      rw [lkm_at]
      show tupG (consA (gc (.str "at")) (consA (o2 (gv 1) (o2 (gv 0) (gc (.int 1)) ixD) dgetD) nilA)) [.sh (.tup [.str "at", .int i]), .sh (.dct ks ds)] = _
      refine tup_of (cons_of rfl (cons_of (d := .int ((f i.toNat : Nat) : Int)) ?_ rfl)) z2
      rw [o2_of (x := .dct ks ds) (y := .int i) rfl rfl]
      exact h i (links_mem hv)
  · rw [oA_of (ds := [p.d, .lst (p.vals.map (lkm f))]) rfl]
    exact with_ok p hs.1 _
theorem ledv_ok (v : D) (hv : valB v = true) {ks : List KeyD} {ds : List D} {f : Nat → Nat} (h : ∀ i, v = .tup [.str "at", .int i] → dgetD (.dct ks ds) (.int i) = some (.int ((f i.toNat : Nat) : Int))) : m__law_led_value [v, .dct ks ds] = some (lkm f v) := by
  have z2 : 2 ≤ sizeLine := by decide
  rcases val_cases hv with rfl | ⟨i, rfl⟩ | ⟨i, rfl, _⟩
  · exact mkF_rt rfl (seq_to (δ' := [.sh .non, .sh (.dct ks ds)]) rfl (seq_rt rfl))
  · exact mkF_rt rfl (seq_to (δ' := [.sh (.int i), .sh (.dct ks ds)]) rfl (seq_rt rfl))
  · rw [lkm_at]
    refine mkF_rt rfl (seq_rt ?_)
    rw [if_t rfl]
    refine seq_rt (ret_of (tup_of (cons_of rfl (cons_of (d := .int ((f i.toNat : Nat) : Int)) ?_ rfl)) z2))
    rw [o2_of (x := .dct ks ds) (y := .int i) rfl rfl]
    exact h i rfl
theorem zip_map2 (f : D → D) : ∀ ps : List (Str × D), ps.map (fun p => pr (p.1, f p.2)) = ((ps.map (·.1)).zip ((ps.map (·.2)).map f)).map pr
  | [] => rfl
  | p :: ps => by simp [zip_map2 f ps]
theorem led_ok (p : Pt) (hs : p.sane) {ks : List KeyD} {ds : List D} {f : Nat → Nat} (h : Leads ks ds f p) : m__law_led [p.d, .dct ks ds] = some (rel f p).d := by
  have z2 : 2 ≤ sizeLine := by decide
  have hlv : ∀ v ∈ p.vals, m__law_led_value [v, .dct ks ds] = some (lkm f v) := fun v hv => ledv_ok v (hs.2 v hv) fun i e => by subst e; exact h i (links_mem hv)
  have pairs : ∀ (ps : List (Str × D)) (a : Sl), (ps.map (·.2)).length ≤ sizeLine → (∀ v ∈ ps.map (·.2), m__law_led_value [v, .dct ks ds] = some (lkm f v)) → ∀ x : D, o2 (gc x) (gc (.int (-1))) ixD [] = some (.tup (ps.map pr)) →
      compG 2 [1] (tupI (o2 (gv 0) (unG negD (gc (.int 1))) ixD)) (tup2 0 1) noT (tupG (consA (gv 0) (consA (oA (consA (gv 1) (consA (gv 2) nilA)) m__law_led_value) nilA))) [.sh x, .sh (.dct ks ds), a] = some (.lst (((ps.map (·.1)).zip ((ps.map (·.2)).map (lkm f))).map pr)) := by
    intro ps a hl hv x hx
    refine comp_of (items := ps.map pr) ?_ (by simpa using hl) ?_
    · unfold tupI
      rw [o2_of (x := x) (y := .int (-1)) rfl rfl, show ixD x (.int (-1)) = some (.tup (ps.map pr)) from hx]
      rfl
    · rw [← zip_map2]
      have e := compD_map (f := tup2 0 1) (gt := noT) (ge := tupG (consA (gv 0) (consA (oA (consA (gv 1) (consA (gv 2) nilA)) m__law_led_value) nilA))) (δ := [.un, .un, .sh (.dct ks ds)]) (fun d => match d with | .tup [a, v] => .tup [a, lkm f v] | _ => .non) (items := ps.map pr) fun d hd => by
        obtain ⟨q, hq, rfl⟩ := List.mem_map.mp hd
        refine ⟨[.sh (.str q.1), .sh q.2, .sh (.dct ks ds)], rfl, rfl, ?_⟩
        refine tup_of (cons_of rfl (cons_of (d := lkm f q.2) ?_ rfl)) z2
        rw [oA_of (ds := [q.2, .dct ks ds]) rfl]
        exact hv q.2 (List.mem_map.mpr ⟨q, hq, rfl⟩)
      show compD _ _ _ [.un, .un, .sh (.dct ks ds)] _ = _
      rw [e, List.map_map]
      rfl
  cases p with
  | text w => kernel_rfl
  | row vs =>
    refine mkF_rt rfl (seq_to (δ' := [.sh (Pt.row vs).d, .sh (.dct ks ds), .un]) (by rw [if_f (by kernel_rfl)]; rfl) (seq_rt ?_))
    rw [if_t (by kernel_rfl)]
    refine seq_rt (ret_of (tup_of (cons_of (d := .str "row") rfl (cons_of (d := .tup (vs.map (lkm f))) ?_ rfl)) z2))
    rw [oA_of (ds := [.lst (vs.map (lkm f))]) (cons_of (comp_of (items := vs) rfl hs.1 (compD_map (lkm f) fun v hv => ⟨[.sh v, .sh (.dct ks ds)], rfl, rfl, by rw [oA_of (ds := [v, .dct ks ds]) rfl]; exact hlv v hv⟩)) rfl)]
    rfl
  | table ps =>
    refine mkF_rt rfl (seq_to (δ' := [.sh (Pt.table ps).d, .sh (.dct ks ds), .un]) (by rw [if_f (by kernel_rfl)]; rfl) (seq_to (δ' := [.sh (Pt.table ps).d, .sh (.dct ks ds), .un]) (by rw [if_f (by kernel_rfl)]; rfl) (seq_to (set_of (pairs ps .un hs.1 hlv _ rfl)) (seq_rt (ret_of ?_)))))
    rw [o2_of (x := .tup [.str "table"]) (y := .tup [.tup (((ps.map (·.1)).zip ((ps.map (·.2)).map (lkm f))).map pr)]) rfl (tup_of (cons_of rfl rfl) (by show 1 ≤ sizeLine; decide))]
    rfl
  | rcd c ps =>
    refine mkF_rt rfl (seq_to (δ' := [.sh (Pt.rcd c ps).d, .sh (.dct ks ds), .un]) (by rw [if_f (by kernel_rfl)]; rfl) (seq_to (δ' := [.sh (Pt.rcd c ps).d, .sh (.dct ks ds), .un]) (by rw [if_f (by kernel_rfl)]; rfl) (seq_to (set_of (pairs ps .un hs.1 hlv _ rfl)) (seq_rt (ret_of ?_)))))
    rw [o2_of (x := .tup [.str "record", .str c]) (y := .tup [.tup (((ps.map (·.1)).zip ((ps.map (·.2)).map (lkm f))).map pr)]) rfl (tup_of (cons_of rfl rfl) (by show 1 ≤ sizeLine; decide))]
    rfl
end K6
namespace K6
open PySem DL W
theorem put_new (o vs : List Nat) (x v : Nat) (hx : x ∉ o) : putKs (kd o) (.inl (x : Int)) = kd (o ++ [x]) ∧ putDs (kd o) (nd vs) (.inl (x : Int)) (.int (v : Int)) = nd (vs ++ [v]) := by
  have hk : hasK (kd o) (.inl (x : Int)) = false := by rw [has_kd, decide_eq_false hx]
  constructor
  · unfold putKs; rw [hk, if_neg (by simp)]; unfold kd; rw [List.map_append]; rfl
  · unfold putDs; rw [hk, if_neg (by simp)]; unfold nd; rw [List.map_append]; rfl
theorem kd_len (a : List Nat) : (kd a).length = a.length := by simp [kd]
/-- a walk of a web -/
structure Wk (ps : List Pt) (x : Nat) (r : List Nat) : Prop where
  lt : x < ps.length
  dfs : ∃ c, Dfs (adjOf ps) c [x] (adjOf ps x) r ∧ c ≤ 5000
  nd : r.Nodup
  inn : ∀ i ∈ r, i < ps.length
  cl : ∀ i ∈ r, ∀ j ∈ adjOf ps i, j ∈ r
  hd : ∃ s, r = x :: s
theorem Wk.len {ps : List Pt} {x : Nat} {r : List Nat} (h : Wk ps x r) : r.length ≤ ps.length := by
  have := nodup_subN (m := List.range ps.length) h.nd fun a ha => List.mem_range.mpr (h.inn a ha)
  simpa using this
theorem wk_ex {ps : List Pt} (h : W5 ps) (x : Nat) (hx : x < ps.length) : ∃ r, Wk ps x r := by
  have hA := h.adj
  have ha : ∀ i, i < ps.length → (adjOf ps i).length ≤ 12 ∧ ∀ j ∈ adjOf ps i, j < ps.length := fun i hi => by
    obtain ⟨_, _, _, _, h1, h2⟩ := hA.ok i hi
    exact ⟨h1, h2⟩
  have hl := h.len
  obtain ⟨c, r, h1, h2, h3, h4, _⟩ := dfs_ex (adjOf ps) ps.length h.len ha 1000 [x] (adjOf ps x) (by have := (ha x hx).1; simp only [List.length_singleton]; omega) (by omega) (by simp) (fun y hy => by have := List.mem_singleton.mp hy; subst this; exact hx) (ha x hx).2
  obtain ⟨⟨s, hs⟩, _, f3⟩ := dfs_facts h1 fun i hi j hj => by
    have := List.mem_singleton.mp hi
    subst this
    exact .inr hj
  exact ⟨r, hx, ⟨c, h1, by omega⟩, h3, h4, f3, s, hs⟩
theorem Wk.met {ps : List Pt} (h5 : W5 ps) {x : Nat} {r : List Nat} (h : Wk ps x r) : m_met [.tup (ps.map Pt.d), .int (x : Int)] = some (.lst (K6.nd r)) := by
  obtain ⟨c, h1, h2⟩ := h.dfs
  exact met_ok h5.adj x h1 h.lt h2
theorem Wk.order {ps : List Pt} (h5 : W5 ps) {x : Nat} {r : List Nat} (h : Wk ps x r) : m__law_order [.tup (ps.map Pt.d), .int (x : Int)] = some (.lst (K6.nd r)) := by
  obtain ⟨c, h1, h2⟩ := h.dfs
  exact due_ok h5.adj x h1 h.lt h2
def dw (ps : List Pt) (r : List Nat) : List Pt := r.map fun i => rel (fun j => r.idxOf j) (pat ps i)
theorem Wk.leads {ps : List Pt} (h5 : W5 ps) {x : Nat} {r : List Nat} (h : Wk ps x r) {i : Nat} (hi : i ∈ r) : Leads (kd r) (K6.nd (List.range r.length)) (fun j => r.idxOf j) (pat ps i) := fun k hk => by
  have hp := h5.at (h.inn i hi)
  have h0 := links_nn hp.val k hk
  have hm : k.toNat ∈ r := h.cl i hi _ (List.mem_map.mpr ⟨k, hk, rfl⟩)
  have e : ((k.toNat : Nat) : Int) = k := by omega
  show (asKey (.int k)).bind (fun q => getK (kd r) (K6.nd (List.range r.length)) q) = _
  have g := get_nn r (List.range r.length) k.toNat (by simp) hm
  rw [e] at g
  have hlt : r.idxOf k.toNat < r.length := List.idxOf_lt_length_of_mem hm
  show getK (kd r) (K6.nd (List.range r.length)) (.inl k) = _
  rw [g]
  simp [List.getD_eq_getElem?_getD, hlt]
theorem dw_comp {ps : List Pt} (h5 : W5 ps) {x : Nat} {r : List Nat} (h : Wk ps x r) (m : List D → Option D) (hm : ∀ (p : Pt), p.sane → ∀ {ks : List KeyD} {ds : List D} {f : Nat → Nat}, Leads ks ds f p → m [p.d, .dct ks ds] = some (rel f p).d) (a b c d : Sl) (cs : Ds) :
    oA (consA (compG 1 [0, 3] (lstI (gv 2)) (gN 0) noT (oA (consA (o2 (gv 1) (gv 0) ixD) (consA (gv 2) nilA)) m)) nilA) tupOfD (.sh (.tup (ps.map Pt.d)) :: a :: .sh (.lst (K6.nd r)) :: .sh (.dct (kd r) (K6.nd (List.range r.length))) :: cs) = some (.tup ((dw ps r).map Pt.d)) := by
  have zl : (60 : Nat) ≤ sizeLine := by decide
  have hl := h.len
  have hl5 := h5.len
  rw [oA_of (ds := [.lst ((dw ps r).map Pt.d)]) (cons_of (comp_of (items := K6.nd r) rfl (by rw [nd_len]; omega) ?_) rfl)]
  · rfl
  · show compD _ _ _ [.un, .sh (.tup (ps.map Pt.d)), .sh (.dct (kd r) (K6.nd (List.range r.length)))] _ = _
    rw [compD_map (fun d => match d with | .int i => (rel (fun j => r.idxOf j) (pat ps i.toNat)).d | _ => .non) fun d hd => ?_]
    · unfold dw K6.nd
      rw [List.map_map, List.map_map]
      rfl
    · obtain ⟨i, hi, rfl⟩ := List.mem_map.mp hd
      have hin := h.inn i hi
      refine ⟨[.sh (.int (i : Int)), .sh (.tup (ps.map Pt.d)), .sh (.dct (kd r) (K6.nd (List.range r.length)))], rfl, rfl, ?_⟩
      rw [oA_of (ds := [(pat ps i).d, .dct (kd r) (K6.nd (List.range r.length))]) (cons_of (by
        rw [o2_of (x := .tup (ps.map Pt.d)) (y := .int (i : Int)) rfl rfl]
        show atI (ps.map Pt.d) (i : Int) = _
        rw [atI_in (by omega) (by rw [List.length_map]; omega) .non, Int.toNat_natCast, List.getD_eq_getElem?_getD, List.getElem?_map, pat_get hin]
        rfl) (cons_of rfl rfl))]
      exact hm _ (h5.at hin).sane (h.leads h5 hi)
def DrB : GS := (seqD (asgX (pureX (gv 4)) (putAt 3 (gv 5)))
  nilD)
theorem take_snoc (r : List Nat) (j : Nat) (h : j < r.length) : r.take (j + 1) = r.take j ++ [r[j]] := (List.take_append_getElem h).symm
theorem not_take {r : List Nat} (hn : r.Nodup) {j : Nat} (h : j < r.length) : r[j] ∉ r.take j := fun z => by
  have e : r = r.take j ++ r.drop j := (List.take_append_drop j r).symm
  rw [e, List.nodup_append] at hn
  refine hn.2.2 _ z _ ?_ rfl
  rw [List.drop_eq_getElem_cons h]
  exact List.mem_cons_self
theorem drawn_ok {ps : List Pt} (h5 : W5 ps) {x : Nat} {r : List Nat} (h : Wk ps x r) : m_drawn [.tup (ps.map Pt.d), .int (x : Int)] = some (.tup ((dw ps r).map Pt.d)) := by
  have zl : (60 : Nat) < sizeLine := by decide
  have hl := h.len
  have hl5 := h5.len
  obtain ⟨δ', l1, l2⟩ := forD_inv (f := tup2 4 5) (G := DrB) (fun i δ => ∃ s4 s5, δ = [.sh (.tup (ps.map Pt.d)), .sh (.int (x : Int)), .sh (.lst (K6.nd r)), .ow (.dct (kd (r.take i)) (K6.nd (List.range i))), s4, s5]) (enumD (K6.nd r)) 0
    [.sh (.tup (ps.map Pt.d)), .sh (.int (x : Int)), .sh (.lst (K6.nd r)), .ow (.dct [] []), .un, .un] (by
    rintro j d δ hj ⟨s4, s5, rfl⟩
    rw [Nat.zero_add]
    have hjl : j < r.length := by
      have := (List.getElem?_eq_some_iff.mp hj).1
      unfold enumD at this
      simpa [nd_len] using this
    have hd : d = .tup [.int (j : Int), .int ((r[j] : Nat) : Int)] := by
      have e : (enumD (K6.nd r))[j]? = some (.tup [.int (j : Int), .int ((r[j] : Nat) : Int)]) := by
        unfold enumD K6.nd
        simp [hjl, List.getD_eq_getElem?_getD]
      rw [e] at hj
      exact (Option.some.inj hj).symm
    subst hd
    obtain ⟨q1, q2⟩ := put_new (r.take j) (List.range j) r[j] j (not_take h.nd hjl)
    refine ⟨_, _, rfl, ?_, .sh (.int (j : Int)), .sh (.int ((r[j] : Nat) : Int)), rfl⟩
    refine seq_to (δ' := [.sh (.tup (ps.map Pt.d)), .sh (.int (x : Int)), .sh (.lst (K6.nd r)), .ow (.dct (kd (r.take (j + 1))) (K6.nd (List.range (j + 1)))), .sh (.int (j : Int)), .sh (.int ((r[j] : Nat) : Int))]) ?_ rfl
    unfold asgX pureX
    show ((if (kd (r.take j)).length < sizeLine then some ([.sh (.tup (ps.map Pt.d)), .sh (.int (x : Int)), .sh (.lst (K6.nd r)), Sl.ow (.dct (putKs (kd (r.take j)) (.inl ((r[j] : Nat) : Int))) (putDs (kd (r.take j)) (K6.nd (List.range j)) (.inl ((r[j] : Nat) : Int)) (.int (j : Int)))), .sh (.int (j : Int)), .sh (.int ((r[j] : Nat) : Int))]) else none).map Res.nx) = _
    rw [if_pos (by rw [kd_len, List.length_take]; omega), q1, q2, take_snoc r j hjl, List.range_succ]
    rfl) ⟨_, _, rfl⟩
  obtain ⟨s4, s5, rfl⟩ := l2
  have hlen : (enumD (K6.nd r)).length = r.length := by unfold enumD; simp [nd_len]
  rw [hlen, Nat.zero_add, List.take_length] at l1
  refine mkF_rt rfl (seq_to (set_of (d := .lst (K6.nd r)) (by rw [oA_of (ds := [.tup (ps.map Pt.d), .int (x : Int)]) rfl]; exact h.met h5)) ?_)
  refine seq_to (δ' := [.sh (.tup (ps.map Pt.d)), .sh (.int (x : Int)), .sh (.lst (K6.nd r)), .ow (.dct [] []), .un, .un]) rfl ?_
  refine seq_to (for_of (items := enumD (K6.nd r)) rfl l1) (seq_rt (ret_of ?_))
  exact dw_comp h5 h m_relinked (fun p hp => relinked_ok p hp) _ .un .un .un _
def DuB : GS := (seqD (asgX (pureX (gv 4)) (putAt 3 (o2 (gv 2) (gv 4) ixD)))
  nilD)
theorem due_web {ps : List Pt} (h5 : W5 ps) {x : Nat} {r : List Nat} (h : Wk ps x r) : m__law_due [.tup (ps.map Pt.d), .int (x : Int)] = some (.tup ((dw ps r).map Pt.d)) := by
  have zl : (60 : Nat) < sizeLine := by decide
  have hl := h.len
  have hl5 := h5.len
  obtain ⟨δ', l1, l2⟩ := forD_inv (f := gN 4) (G := DuB) (fun i δ => ∃ s4, δ = [.sh (.tup (ps.map Pt.d)), .sh (.int (x : Int)), .sh (.lst (K6.nd r)), .ow (.dct (kd (r.take i)) (K6.nd (List.range i))), s4]) (rngD 0 (r.length : Int)) 0
    [.sh (.tup (ps.map Pt.d)), .sh (.int (x : Int)), .sh (.lst (K6.nd r)), .ow (.dct [] []), .un] (by
    rintro j d δ hj ⟨s4, rfl⟩
    rw [Nat.zero_add]
    obtain ⟨hjl', rfl⟩ := rng_get hj
    have hjl : j < r.length := by omega
    obtain ⟨q1, q2⟩ := put_new (r.take j) (List.range j) r[j] j (not_take h.nd hjl)
    refine ⟨_, _, rfl, ?_, .sh (.int (j : Int)), rfl⟩
    refine seq_to (δ' := [.sh (.tup (ps.map Pt.d)), .sh (.int (x : Int)), .sh (.lst (K6.nd r)), .ow (.dct (kd (r.take (j + 1))) (K6.nd (List.range (j + 1)))), .sh (.int (j : Int))]) ?_ rfl
    have ix : o2 (gv 2) (gv 4) ixD [.sh (.tup (ps.map Pt.d)), .sh (.int (x : Int)), .sh (.lst (K6.nd r)), .ow (.dct (kd (r.take j)) (K6.nd (List.range j))), .sh (.int (j : Int))] = some (.int ((r[j] : Nat) : Int)) := by
      rw [o2_of (x := .lst (K6.nd r)) (y := .int (j : Int)) rfl rfl]
      show atI (K6.nd r) (j : Int) = _
      rw [atI_in (by omega) (by rw [nd_len]; omega) .non, Int.toNat_natCast]
      unfold K6.nd
      simp [List.getD_eq_getElem?_getD, hjl]
    unfold asgX pureX
    show (putAt 3 (o2 (gv 2) (gv 4) ixD) (.int (j : Int)) [.sh (.tup (ps.map Pt.d)), .sh (.int (x : Int)), .sh (.lst (K6.nd r)), .ow (.dct (kd (r.take j)) (K6.nd (List.range j))), .sh (.int (j : Int))]).map Res.nx = _
    unfold DL.putAt
    rw [ix]
    show ((if (kd (r.take j)).length < sizeLine then some ([.sh (.tup (ps.map Pt.d)), .sh (.int (x : Int)), .sh (.lst (K6.nd r)), Sl.ow (.dct (putKs (kd (r.take j)) (.inl ((r[j] : Nat) : Int))) (putDs (kd (r.take j)) (K6.nd (List.range j)) (.inl ((r[j] : Nat) : Int)) (.int (j : Int)))), .sh (.int (j : Int))]) else none).map Res.nx) = _
    rw [if_pos (by rw [kd_len, List.length_take]; omega), q1, q2, take_snoc r j hjl, List.range_succ]
    rfl) ⟨_, rfl⟩
  obtain ⟨s4, rfl⟩ := l2
  have hlen : (rngD 0 (r.length : Int)).length = r.length := by rw [rng_len]; omega
  rw [hlen, Nat.zero_add, List.take_length] at l1
  refine mkF_rt rfl (seq_to (set_of (d := .lst (K6.nd r)) (by rw [oA_of (ds := [.tup (ps.map Pt.d), .int (x : Int)]) rfl]; exact h.order h5)) ?_)
  refine seq_to (δ' := [.sh (.tup (ps.map Pt.d)), .sh (.int (x : Int)), .sh (.lst (K6.nd r)), .ow (.dct [] []), .un]) rfl ?_
  refine seq_to (for_of (items := rngD 0 (r.length : Int)) (rng1_of (cons_of (by rw [len_of (ds := K6.nd r) rfl, nd_len]) rfl) (by omega) (by omega)) l1) (seq_rt (ret_of ?_))
  exact dw_comp h5 h m__law_led (fun p hp => led_ok p hp) _ .un .un .un _
end K6
namespace K6
open PySem DL W
theorem idx_map {f : Nat → Nat} : ∀ (r : List Nat) (j : Nat), (∀ a ∈ r, f a = f j → a = j) → (r.map f).idxOf (f j) = r.idxOf j
  | [], j, _ => rfl
  | a :: r, j, h => by
    rw [List.map_cons, List.idxOf_cons, List.idxOf_cons]
    by_cases e : a = j
    · subst e; simp
    · rw [show (a == j) = false by simpa using e, show (f a == f j) = false by
        simp only [beq_eq_false_iff_ne, ne_eq]
        exact fun z => e (h a List.mem_cons_self z)]
      simp only [cond_false]
      rw [idx_map r j fun b hb => h b (List.mem_cons_of_mem _ hb)]
theorem idx_get {r : List Nat} (hn : r.Nodup) (i : Nat) (h : i < r.length) : r.idxOf r[i] = i :=
  (List.getElem_inj hn).mp (List.getElem_idxOf (List.idxOf_lt_length_of_mem (List.getElem_mem h)))
theorem idx_range : ∀ (m k : Nat), k < m → (List.range m).idxOf k = k := fun m k h => by
  have hn : (List.range m).Nodup := List.nodup_range
  have hk : k < (List.range m).length := by simpa using h
  have e : (List.range m)[k] = k := by simp
  have := idx_get hn k hk
  rw [e] at this
  exact this
theorem map_idx {r : List Nat} (hn : r.Nodup) : r.map (fun j => r.idxOf j) = List.range r.length := by
  refine List.ext_getElem (by simp) fun i h1 h2 => ?_
  simp only [List.length_map] at h1
  rw [List.getElem_map, idx_get hn i h1]
  simp
theorem G5.rel {p : Pt} {n : Int} (h : G5 p n) {f : Nat → Nat} {m : Nat} (hf : ∀ k ∈ p.links, f k.toNat < m) : G5 (K6.rel f p) (m : Int) where
  len := by rw [rel_vals, List.length_map]; exact h.len
  val := rel_valB f p h.val
  lks := by
    rw [rel_links f p h.val]
    intro k hk
    obtain ⟨k', hk', rfl⟩ := List.mem_map.mp hk
    have := hf k' hk'
    omega
theorem adj_rel {p : Pt} (h : ∀ v ∈ p.vals, valB v = true) (f : Nat → Nat) : ((rel f p).links).map Int.toNat = ((p.links).map Int.toNat).map f := by
  rw [rel_links f p h, List.map_map, List.map_map]
  refine List.map_congr_left fun k _ => ?_
  simp
section
variable {ps : List Pt} {x : Nat} {r : List Nat}
theorem dw_len : (dw ps r).length = r.length := by simp [dw]
theorem Wk.ne (h : Wk ps x r) : 0 < r.length := by obtain ⟨s, e⟩ := h.hd; rw [e]; simp
theorem Wk.w5 (h5 : W5 ps) (h : Wk ps x r) : W5 (dw ps r) where
  ne := by rw [dw_len]; exact h.ne
  len := by rw [dw_len]; exact Nat.le_trans h.len h5.len
  ok := fun p hp => by
    obtain ⟨i, hi, rfl⟩ := List.mem_map.mp hp
    rw [dw_len]
    exact (h5.at (h.inn i hi)).rel fun k hk => List.idxOf_lt_length_of_mem (h.cl i hi _ (List.mem_map.mpr ⟨k, hk, rfl⟩))
theorem dw_at (hi : x ∈ r) : pat (dw ps r) (r.idxOf x) = rel (fun j => r.idxOf j) (pat ps x) := by
  have hl := List.idxOf_lt_length_of_mem hi
  have e : r[r.idxOf x]'hl = x := List.getElem_idxOf hl
  unfold dw
  conv => lhs; unfold pat
  rw [List.getD_eq_getElem?_getD, List.getElem?_map, List.getElem?_eq_getElem hl, e]
  rfl
/-- a web numbered otherwise (by f), and perhaps more parts -/
structure Oth (ps os : List Pt) (S : Nat → Prop) (f : Nat → Nat) : Prop where
  w5 : W5 os
  cl : ∀ i, S i → ∀ j ∈ adjOf ps i, S j
  inn : ∀ i, S i → i < ps.length ∧ f i < os.length
  inj : ∀ a b, S a → S b → f a = f b → a = b
  at' : ∀ i, S i → pat os (f i) = rel f (pat ps i)
theorem Oth.adj {os : List Pt} {S : Nat → Prop} {f : Nat → Nat} (h5 : W5 ps) (o : Oth ps os S f) (i : Nat) (hi : S i) : adjOf os (f i) = (adjOf ps i).map f := by
  unfold adjOf
  rw [o.at' i hi]
  exact adj_rel (h5.at (o.inn i hi).1).val f
theorem Oth.wk {os : List Pt} {S : Nat → Prop} {f : Nat → Nat} (h5 : W5 ps) (o : Oth ps os S f) (h : Wk ps x r) (hr : ∀ i ∈ r, S i) : Wk os (f x) (r.map f) := by
  obtain ⟨s, hs⟩ := h.hd
  have sx : S x := hr x (by rw [hs]; exact List.mem_cons_self)
  obtain ⟨c, h1, h2⟩ := h.dfs
  have hm := dfs_map (adj' := adjOf os) S o.inj (o.adj h5) o.cl h1 (fun i hi => by have := List.mem_singleton.mp hi; subst this; exact sx) (o.cl x sx)
  rw [List.map_cons, List.map_nil, ← o.adj h5 x sx] at hm
  refine ⟨(o.inn x sx).2, ⟨c, hm, h2⟩, ?_, fun i hi => ?_, fun i hi j hj => ?_, s.map f, by rw [hs]; rfl⟩
  · refine List.nodup_iff_pairwise_ne.mpr (List.pairwise_map.mpr ?_)
    refine List.Pairwise.imp_of_mem ?_ h.nd
    intro a b ha hb hab e
    exact hab (o.inj a b (hr a ha) (hr b hb) e)
  · obtain ⟨k, hk, rfl⟩ := List.mem_map.mp hi
    exact (o.inn k (hr k hk)).2
  · obtain ⟨k, hk, rfl⟩ := List.mem_map.mp hi
    rw [o.adj h5 k (hr k hk)] at hj
    obtain ⟨l, hl, rfl⟩ := List.mem_map.mp hj
    exact List.mem_map_of_mem (h.cl k hk l hl)
theorem Oth.dw {os : List Pt} {S : Nat → Prop} {f : Nat → Nat} (h5 : W5 ps) (o : Oth ps os S f) (h : Wk ps x r) (hr : ∀ i ∈ r, S i) : K6.dw os (r.map f) = K6.dw ps r := by
  unfold K6.dw
  rw [List.map_map]
  refine List.map_congr_left fun i hi => ?_
  have hp := h5.at (h.inn i hi)
  show rel (fun j => (r.map f).idxOf j) (pat os (f i)) = _
  rw [o.at' i (hr i hi), rel_rel _ _ _ hp.val]
  refine rel_congr _ hp.val fun k hk => ?_
  have hm : k.toNat ∈ r := h.cl i hi _ (List.mem_map.mpr ⟨k, hk, rfl⟩)
  exact idx_map r k.toNat fun a ha e => o.inj a _ (hr a ha) (hr _ hm) e
/-- the drawn web is the web numbered by the walk -/
theorem Wk.oth (h5 : W5 ps) (h : Wk ps x r) : Oth ps (K6.dw ps r) (fun i => i ∈ r) (fun j => r.idxOf j) where
  w5 := h.w5 h5
  cl := fun i hi j hj => h.cl i hi j hj
  inn := fun i hi => ⟨h.inn i hi, by rw [dw_len]; exact List.idxOf_lt_length_of_mem hi⟩
  inj := fun a b ha hb e => by
    have h1 := List.getElem_idxOf (List.idxOf_lt_length_of_mem ha)
    have h2 := List.getElem_idxOf (List.idxOf_lt_length_of_mem hb)
    have e' : r.idxOf a = r.idxOf b := e
    rw [← h1, ← h2]
    congr 1
  at' := fun i hi => dw_at hi
theorem Wk.again (h5 : W5 ps) (h : Wk ps x r) : Wk (K6.dw ps r) 0 (List.range r.length) ∧ K6.dw (K6.dw ps r) (List.range r.length) = K6.dw ps r := by
  have o := h.oth h5
  have h1 := o.wk h5 h fun _ z => z
  have h2 := o.dw h5 h fun _ z => z
  obtain ⟨s, hs⟩ := h.hd
  have e0 : r.idxOf x = 0 := by rw [hs]; simp
  rw [map_idx h.nd] at h1 h2
  have h1 : Wk (K6.dw ps r) (r.idxOf x) (List.range r.length) := h1
  rw [e0] at h1
  exact ⟨h1, h2⟩
end
end K6
namespace K6
open PySem DL W
/-! ### the web in another order -/
theorem er_map (f : Nat → D) : ∀ (l : List Nat) (t : Nat), (l.map f).eraseIdx t = (l.eraseIdx t).map f
  | [], _ => by simp
  | a :: l, 0 => by simp
  | a :: l, t + 1 => by simp [er_map f l t]
theorem er_perm : ∀ (l : List Nat) (t : Nat) (h : t < l.length), (l[t] :: l.eraseIdx t).Perm l
  | a :: l, 0, _ => by simp
  | a :: l, t + 1, h => by
    simp only [List.getElem_cons_succ, List.eraseIdx_cons_succ]
    exact (List.Perm.swap a _ _).trans ((er_perm l t (by simpa using h)).cons a)
def S1 : GS := (seqD (asgX (popAtX 4 (o2 (o2 (gv 1) (o2 (gv 6) (gc (.int 3)) addA) fdivD) (borE (oA (consA (gv 4) nilA) lenD)) modD)) (DL.putAt 5 (gv 6)))
  nilD)
theorem s1_ok (w : Sl) (x : Int) (a b : Sl) (L P : List Nat) (k : Nat) (c : Sl) (hk : P.length = k) (hk60 : k < 60) (hL : 0 < L.length) (hL60 : L.length ≤ 60) : ∃ t : Nat, ∃ ht : t < L.length,
    S1 [w, .sh (.int x), a, b, .ow (.lst (nd L)), .ow (.dct (kd (List.range k)) (nd P)), .sh (.int (k : Int)), c] = some (.nx [w, .sh (.int x), a, b, .ow (.lst (nd (L.eraseIdx t))), .ow (.dct (kd (List.range (k + 1))) (nd (P ++ [L[t]]))), .sh (.int (k : Int)), c]) := by
  have zl : (100 : Nat) < sizeLine := by decide
  obtain ⟨t, ht⟩ : ∃ t : Nat, (t : Int) = x / ((k : Int) + 3) % (L.length : Int) := ⟨(x / ((k : Int) + 3) % (L.length : Int)).toNat, by
    have := Int.emod_nonneg (x / ((k : Int) + 3)) (by omega : (L.length : Int) ≠ 0)
    omega⟩
  have htl : t < L.length := by
    have := Int.emod_lt_of_pos (x / ((k : Int) + 3)) (by omega : (0 : Int) < L.length)
    omega
  refine ⟨t, htl, ?_⟩
  have hix : o2 (o2 (gv 1) (o2 (gv 6) (gc (.int 3)) addA) fdivD) (borE (oA (consA (gv 4) nilA) lenD)) modD [w, .sh (.int x), a, b, .ow (.lst (nd L)), .ow (.dct (kd (List.range k)) (nd P)), .sh (.int (k : Int)), c] = some (.int (t : Int)) := by
    rw [o2_of (x := .int (x / ((k : Int) + 3))) (y := .int (L.length : Int)) (by
      rw [o2_of (x := .int x) (y := .int ((k : Int) + 3)) rfl rfl]
      simp only [fdivD, ii]
      rw [if_pos (by omega)]) (by
      show some (D.int ((nd L).length : Int)) = _
      rw [nd_len])]
    simp only [modD, ii]
    rw [if_pos (by omega), ht]
  obtain ⟨q1, q2⟩ := put_new (List.range k) P k L[t] (by simp)
  have ex : (nd L).eraseIdx t = nd (L.eraseIdx t) := by unfold nd; exact er_map _ _ _
  have gx : (nd L)[t]? = some (.int ((L[t] : Nat) : Int)) := by unfold nd; simp [htl]
  refine seq_to ?_ rfl
  unfold asgX popAtX
  rw [hix]
  show Option.bind (if 0 ≤ (t : Int) ∧ (t : Int) < (nd L).length then ((nd L)[(t : Int).toNat]?).map fun d => (d, [w, .sh (.int x), a, b, Sl.ow (.lst ((nd L).eraseIdx (t : Int).toNat)), .ow (.dct (kd (List.range k)) (nd P)), .sh (.int (k : Int)), c]) else none) _ = _
  rw [if_pos ⟨by omega, by rw [nd_len]; omega⟩, Int.toNat_natCast, gx, ex]
  show ((if (kd (List.range k)).length < sizeLine then some ([w, .sh (.int x), a, b, Sl.ow (.lst (nd (L.eraseIdx t))), Sl.ow (.dct (putKs (kd (List.range k)) (.inl (k : Int))) (putDs (kd (List.range k)) (nd P) (.inl (k : Int)) (.int ((L[t] : Nat) : Int)))), .sh (.int (k : Int)), c]) else none).map Res.nx) = _
  rw [if_pos (by rw [kd_len, List.length_range]; omega), q1, q2, List.range_succ]
  rfl
/-- what was drawn and what is left -/
structure Prm (m : Nat) (P L : List Nat) : Prop where
  nd : (P ++ L).Nodup
  lt : ∀ i ∈ P ++ L, i < m
  len : P.length + L.length = m
theorem Prm.next {m : Nat} {P L : List Nat} (h : Prm m P L) (t : Nat) (ht : t < L.length) : Prm m (P ++ [L[t]]) (L.eraseIdx t) := by
  have pm : (P ++ [L[t]] ++ L.eraseIdx t).Perm (P ++ L) := by
    rw [List.append_assoc]
    refine List.Perm.append_left P ?_
    exact er_perm L t ht
  refine ⟨pm.nodup_iff.mpr h.nd, fun i hi => h.lt i (pm.mem_iff.mp hi), ?_⟩
  have := pm.length_eq
  have := h.len
  simp only [List.length_append, List.length_singleton] at *
  omega
theorem s1_loop (w : Sl) (x : Int) (a b c s : Sl) (n m : Nat) (hn : n ≤ 60) (hm : m ≤ 60) (hnm : n ≤ m) : ∃ P L s', P.length = n ∧ Prm m P L ∧
    forD (gN 6) S1 (rngD 0 (n : Int)) [w, .sh (.int x), a, b, .ow (.lst (nd (List.range m))), .ow (.dct [] []), s, c] = some (.nx [w, .sh (.int x), a, b, .ow (.lst (nd L)), .ow (.dct (kd (List.range n)) (nd P)), s', c]) := by
  obtain ⟨δ', l1, P, L, s', h1, h2, rfl⟩ := forD_inv (f := gN 6) (G := S1) (fun i δ => ∃ P L s', P.length = i ∧ Prm m P L ∧ δ = [w, .sh (.int x), a, b, .ow (.lst (nd L)), .ow (.dct (kd (List.range i)) (nd P)), s', c]) (rngD 0 (n : Int)) 0
    [w, .sh (.int x), a, b, .ow (.lst (nd (List.range m))), .ow (.dct [] []), s, c] (by
    rintro j d δ hj ⟨P, L, s', h1, h2, rfl⟩
    rw [Nat.zero_add] at h1 ⊢
    obtain ⟨hjl', rfl⟩ := rng_get hj
    have hlen := h2.len
    obtain ⟨t, ht, e⟩ := s1_ok w x a b L P j c h1 (by omega) (by omega) (by omega)
    exact ⟨_, _, rfl, e, P ++ [L[t]], L.eraseIdx t, .sh (.int (j : Int)), by simp [h1], h2.next t ht, rfl⟩) ⟨[], List.range m, s, rfl, ⟨by simpa using List.nodup_range, fun i hi => by simpa using hi, by simp⟩, rfl⟩
  have hlen : (rngD 0 (n : Int)).length = n := by rw [rng_len]; omega
  rw [hlen, Nat.zero_add] at l1 h1
  exact ⟨P, L, s', h1, h2, l1⟩
def qrow (x : Int) (m : Nat) (j : Nat) : Pt := .row [.tup [.str "at", .int ((x + (j : Int)) % (m : Int))], .int (j : Int)]
def osAt (ps : List Pt) (x : Int) (m : Nat) (P : List Nat) (i j : Nat) : Pt := if j ∈ P.take i then rel (fun k => P.getD k 0) (pat ps (P.idxOf j)) else qrow x m j
def osL (ps : List Pt) (x : Int) (m : Nat) (P : List Nat) (i : Nat) : List Pt := (List.range m).map (osAt ps x m P i)
theorem trees_of {l : List D} (h : ∀ d ∈ l, tree d = true) : trees l = true := by
  induction l with
  | nil => unfold trees; rfl
  | cons d l ih =>
    unfold trees
    rw [h d List.mem_cons_self, ih fun e he => h e (List.mem_cons_of_mem _ he)]
    rfl
theorem tree_tup {l : List D} (h : ∀ d ∈ l, tree d = true) : tree (.tup l) = true := by unfold tree; exact trees_of h
theorem tree_str (s : Str) : tree (.str s) = true := by unfold tree; rfl
theorem tree_val {v : D} (h : valB v = true) : tree v = true := by
  rcases val_cases h with rfl | ⟨i, rfl⟩ | ⟨i, rfl, _⟩
  · unfold tree; rfl
  · unfold tree; rfl
  · exact tree_tup fun d hd => by
      simp only [List.mem_cons, List.not_mem_nil, or_false] at hd
      rcases hd with rfl | rfl <;> (unfold tree; rfl)
theorem tree_pt (p : Pt) (h : ∀ v ∈ p.vals, valB v = true) : tree p.d = true := by
  have prs : ∀ ps : List (Str × D), (∀ v ∈ ps.map (·.2), valB v = true) → tree (.tup (ps.map pr)) = true := fun ps hv => tree_tup fun d hd => by
    obtain ⟨q, hq, rfl⟩ := List.mem_map.mp hd
    refine tree_tup fun e he => ?_
    simp only [List.mem_cons, List.not_mem_nil, or_false] at he
    rcases he with rfl | rfl
    · exact tree_str _
    · exact tree_val (hv q.2 (List.mem_map.mpr ⟨q, hq, rfl⟩))
  cases p with
  | text w => exact tree_tup fun d hd => by simp only [List.mem_cons, List.not_mem_nil, or_false] at hd; rcases hd with rfl | rfl <;> exact tree_str _
  | row vs =>
      refine tree_tup fun d hd => ?_
      simp only [List.mem_cons, List.not_mem_nil, or_false] at hd
      rcases hd with rfl | rfl
      · exact tree_str _
      · exact tree_tup fun v hv => tree_val (h v hv)
  | table ps =>
      refine tree_tup fun d hd => ?_
      simp only [List.mem_cons, List.not_mem_nil, or_false] at hd
      rcases hd with rfl | rfl
      · exact tree_str _
      · exact prs ps h
  | rcd c ps =>
      refine tree_tup fun d hd => ?_
      simp only [List.mem_cons, List.not_mem_nil, or_false] at hd
      rcases hd with rfl | rfl | rfl
      · exact tree_str _
      · exact tree_str _
      · exact prs ps h
theorem get_pl (n : Nat) (P : List Nat) (hP : P.length = n) (j : Nat) (hj : j < n) : dgetD (.dct (kd (List.range n)) (nd P)) (.int (j : Int)) = some (.int ((P.getD j 0 : Nat) : Int)) := by
  show getK (kd (List.range n)) (nd P) (.inl (j : Int)) = _
  rw [get_nn (List.range n) P j (by simp [hP]) (List.mem_range.mpr hj), idx_range n j hj]
def S2 : GS := (seqD (asgX (pureX (borT (oA (consA (o2 (gv 0) (gv 6) ixD) (consA (gv 5) nilA)) m__law_led))) (setAt 7 (borE (o2 (gv 5) (gv 6) dgetD))))
  nilD)
theorem os_set (ps : List Pt) (x : Int) (m : Nat) (P : List Nat) (i : Nat) (hi : i < P.length) (hn : P.Nodup) (hm : P[i] < m) : (osL ps x m P i).set P[i] (rel (fun k => P.getD k 0) (pat ps i)) = osL ps x m P (i + 1) := by
  unfold osL
  refine List.ext_getElem (by simp) fun j h1 h2 => ?_
  simp only [List.length_set, List.length_map, List.length_range] at h1
  rw [List.getElem_set]
  split
  · rename_i e
    subst e
    simp only [List.getElem_map, List.getElem_range]
    unfold osAt
    rw [if_pos (by rw [take_snoc P i hi]; exact List.mem_append.mpr (.inr (List.mem_singleton.mpr rfl))), idx_get hn i hi]
  · rename_i e
    simp only [List.getElem_map, List.getElem_range]
    unfold osAt
    have : j ∈ P.take (i + 1) ↔ j ∈ P.take i := by
      rw [take_snoc P i hi, List.mem_append, List.mem_singleton]
      exact ⟨fun h => h.elim id fun z => absurd z.symm e, .inl⟩
    by_cases hj : j ∈ P.take i
    · rw [if_pos hj, if_pos (this.mpr hj)]
    · rw [if_neg hj, if_neg (fun z => hj (this.mp z))]
theorem s2_ok {ps : List Pt} (h5 : W5 ps) (x : Int) (m : Nat) (hm : m ≤ 60) (P : List Nat) (hP : P.length = ps.length) (hn : P.Nodup) (hlt : ∀ i ∈ P, i < m) (k : Nat) (hk : k < ps.length) (a b c d : Sl) :
    S2 [.sh (.tup (ps.map Pt.d)), a, b, c, d, .ow (.dct (kd (List.range ps.length)) (nd P)), .sh (.int (k : Int)), .ow (.lst ((osL ps x m P k).map Pt.d))] =
    some (.nx [.sh (.tup (ps.map Pt.d)), a, b, c, d, .ow (.dct (kd (List.range ps.length)) (nd P)), .sh (.int (k : Int)), .ow (.lst ((osL ps x m P (k + 1)).map Pt.d))]) := by
  have hp := h5.at hk
  have hkP : k < P.length := by omega
  have hlm : P[k] < m := hlt _ (List.getElem_mem hkP)
  have hld : Leads (kd (List.range ps.length)) (nd P) (fun k => P.getD k 0) (pat ps k) := fun q hq => by
    have h0 := links_nn hp.val q hq
    have h1 := hp.lks q hq
    have e : ((q.toNat : Nat) : Int) = q := by omega
    have g := get_pl ps.length P hP q.toNat (by omega)
    rw [e] at g
    exact g
  have tr := rel_valB (fun k => P.getD k 0) (pat ps k) hp.val
  have e1 : borT (oA (consA (o2 (gv 0) (gv 6) ixD) (consA (gv 5) nilA)) m__law_led) [.sh (.tup (ps.map Pt.d)), a, b, c, d, .ow (.dct (kd (List.range ps.length)) (nd P)), .sh (.int (k : Int)), .ow (.lst ((osL ps x m P k).map Pt.d))] = some (rel (fun k => P.getD k 0) (pat ps k)).d := by
    refine borT_of ?_ (tree_pt _ tr)
    show oA _ _ [.sh (.tup (ps.map Pt.d)), frz1 a, frz1 b, frz1 c, frz1 d, .sh (.dct (kd (List.range ps.length)) (nd P)), .sh (.int (k : Int)), .sh (.lst ((osL ps x m P k).map Pt.d))] = _
    rw [oA_of (ds := [(pat ps k).d, .dct (kd (List.range ps.length)) (nd P)]) (cons_of (by
      rw [o2_of (x := .tup (ps.map Pt.d)) (y := .int (k : Int)) rfl rfl]
      show atI (ps.map Pt.d) (k : Int) = _
      rw [atI_in (by omega) (by rw [List.length_map]; omega) .non, Int.toNat_natCast, List.getD_eq_getElem?_getD, List.getElem?_map, pat_get hk]
      rfl) (cons_of rfl rfl))]
    exact led_ok _ hp.sane hld
  have e2 : borE (o2 (gv 5) (gv 6) dgetD) [.sh (.tup (ps.map Pt.d)), a, b, c, d, .ow (.dct (kd (List.range ps.length)) (nd P)), .sh (.int (k : Int)), .ow (.lst ((osL ps x m P k).map Pt.d))] = some (.int ((P[k] : Nat) : Int)) := by
    unfold borE
    have : o2 (gv 5) (gv 6) dgetD (frz [.sh (.tup (ps.map Pt.d)), a, b, c, d, .ow (.dct (kd (List.range ps.length)) (nd P)), .sh (.int (k : Int)), .ow (.lst ((osL ps x m P k).map Pt.d))]) = some (.int ((P[k] : Nat) : Int)) := by
      rw [o2_of (x := .dct (kd (List.range ps.length)) (nd P)) (y := .int (k : Int)) rfl rfl, get_pl ps.length P hP k hk]
      simp [List.getD_eq_getElem?_getD, hkP]
    rw [this]
    rfl
  refine seq_to ?_ rfl
  unfold asgX pureX
  rw [e1]
  show (setAt 7 (borE (o2 (gv 5) (gv 6) dgetD)) (rel (fun k => P.getD k 0) (pat ps k)).d [.sh (.tup (ps.map Pt.d)), a, b, c, d, .ow (.dct (kd (List.range ps.length)) (nd P)), .sh (.int (k : Int)), .ow (.lst ((osL ps x m P k).map Pt.d))]).map Res.nx = _
  unfold setAt
  rw [e2]
  have hl : ((osL ps x m P k).map Pt.d).length = m := by simp [osL]
  have hix : ixN ((osL ps x m P k).map Pt.d).length ((P[k] : Nat) : Int) = some P[k] := by
    unfold ixN
    rw [if_pos (by omega), if_pos (by rw [hl]; omega), Int.toNat_natCast]
  show ((ixN ((osL ps x m P k).map Pt.d).length ((P[k] : Nat) : Int)).map fun j => [.sh (.tup (ps.map Pt.d)), a, b, c, d, .ow (.dct (kd (List.range ps.length)) (nd P)), .sh (.int (k : Int)), Sl.ow (.lst (((osL ps x m P k).map Pt.d).set j (rel (fun k => P.getD k 0) (pat ps k)).d))]).map Res.nx = _
  rw [hix, Option.map_some, Option.map_some, ← List.map_set, os_set ps x m P k hkP hn hlm]
theorem s2_loop {ps : List Pt} (h5 : W5 ps) (x : Int) (m : Nat) (hm : m ≤ 60) (P : List Nat) (hP : P.length = ps.length) (hn : P.Nodup) (hlt : ∀ i ∈ P, i < m) (a b c d s : Sl) : ∃ s',
    forD (gN 6) S2 (rngD 0 (ps.length : Int)) [.sh (.tup (ps.map Pt.d)), a, b, c, d, .ow (.dct (kd (List.range ps.length)) (nd P)), s, .ow (.lst ((osL ps x m P 0).map Pt.d))] =
    some (.nx [.sh (.tup (ps.map Pt.d)), a, b, c, d, .ow (.dct (kd (List.range ps.length)) (nd P)), s', .ow (.lst ((osL ps x m P ps.length).map Pt.d))]) := by
  obtain ⟨δ', l1, s', rfl⟩ := forD_inv (f := gN 6) (G := S2) (fun i δ => ∃ s', δ = [.sh (.tup (ps.map Pt.d)), a, b, c, d, .ow (.dct (kd (List.range ps.length)) (nd P)), s', .ow (.lst ((osL ps x m P i).map Pt.d))]) (rngD 0 (ps.length : Int)) 0
    [.sh (.tup (ps.map Pt.d)), a, b, c, d, .ow (.dct (kd (List.range ps.length)) (nd P)), s, .ow (.lst ((osL ps x m P 0).map Pt.d))] (by
    rintro j d' δ hj ⟨s', rfl⟩
    rw [Nat.zero_add]
    obtain ⟨hjl', rfl⟩ := rng_get hj
    exact ⟨_, _, rfl, s2_ok h5 x m hm P hP hn hlt j (by omega) a b c d, .sh (.int (j : Int)), rfl⟩) ⟨s, rfl⟩
  have hlen : (rngD 0 (ps.length : Int)).length = ps.length := by rw [rng_len]; omega
  rw [hlen, Nat.zero_add] at l1
  exact ⟨s', l1⟩
theorem shuffled_ok {ps : List Pt} (h5 : W5 ps) (x : Int) (hx : 0 ≤ x) : ∃ (P : List Nat) (os : List Pt), m__law_shuffled [.tup (ps.map Pt.d), .int x] = some (.tup [.tup (os.map Pt.d), .dct (kd (List.range ps.length)) (nd P)]) ∧ P.length = ps.length ∧ Oth ps os (fun i => i < ps.length) (fun k => P.getD k 0) := by
  have h60 := h5.len
  have hne := h5.ne
  have zl : (100 : Nat) ≤ sizeLine := by decide
  obtain ⟨m, hm⟩ : ∃ m : Nat, (m : Int) = min 60 ((ps.length : Int) + x % 5) := ⟨(min 60 ((ps.length : Int) + x % 5)).toNat, by omega⟩
  have hm60 : m ≤ 60 := by omega
  have hnm : ps.length ≤ m := by omega
  obtain ⟨P, L, s', hP, hpm, l1⟩ := s1_loop (.sh (.tup (ps.map Pt.d))) x (.sh (.int (ps.length : Int))) (.sh (.int (m : Int))) .un .un ps.length m h60 hm60 hnm
  have hn : P.Nodup := (List.nodup_append.mp hpm.nd).1
  have hlt : ∀ i ∈ P, i < m := fun i hi => hpm.lt i (List.mem_append.mpr (.inl hi))
  obtain ⟨s'', l2⟩ := s2_loop h5 x m hm60 P hP hn hlt (.sh (.int x)) (.sh (.int (ps.length : Int))) (.sh (.int (m : Int))) (.ow (.lst (nd L))) s'
  refine ⟨P, osL ps x m P ps.length, ?_, hP, ?_⟩
  · refine mkF_rt rfl (seq_to (set_of (d := .int (ps.length : Int)) (by rw [lenT_of (ds := ps.map Pt.d) rfl, List.length_map])) ?_)
    refine seq_to (set_of (d := .int (m : Int)) (by
      rw [oA_of (ds := [.int 60, .int ((ps.length : Int) + x % 5)]) rfl]
      simp only [minD]
      congr 2
      split <;> omega)) ?_
    refine seq_to (δ' := [.sh (.tup (ps.map Pt.d)), .sh (.int x), .sh (.int (ps.length : Int)), .sh (.int (m : Int)), .ow (.lst (nd (List.range m))), .un, .un, .un]) (by
      unfold ownD
      rw [oA_of (ds := [.int (m : Int)]) rfl]
      have : lrngD [.int (m : Int)] = some (.lst (nd (List.range m))) := by
        show (if -(2 ^ 62) ≤ (m : Int) ∧ (m : Int) ≤ 1000000 then some (D.lst ((List.range (m : Int).toNat).map fun (k : Nat) => D.int (k : Int))) else none) = _
        rw [if_pos (by omega), Int.toNat_natCast]
        rfl
      rw [this]
      rfl) ?_
    refine seq_to (δ' := [.sh (.tup (ps.map Pt.d)), .sh (.int x), .sh (.int (ps.length : Int)), .sh (.int (m : Int)), .ow (.lst (nd (List.range m))), .ow (.dct [] []), .un, .un]) rfl ?_
    refine seq_to (for_of (items := rngD 0 (ps.length : Int)) (rng1_of (cons_of rfl rfl) (by omega) (by omega)) l1) ?_
    refine seq_to (δ' := [.sh (.tup (ps.map Pt.d)), .sh (.int x), .sh (.int (ps.length : Int)), .sh (.int (m : Int)), .ow (.lst (nd L)), .ow (.dct (kd (List.range ps.length)) (nd P)), s', .ow (.lst ((osL ps x m P 0).map Pt.d))]) (by
      unfold ownD
      rw [comp_of (items := rngD 0 (m : Int)) (out := (osL ps x m P 0).map Pt.d) (rng1_of (cons_of rfl rfl) (by omega) (by omega)) (by rw [rng_len]; omega) (by
        have q := comp_rng (gt := noT) (ge := (tupG (consA (gc (.str "row")) (consA (tupG (consA (tupG (consA (gc (.str "at")) (consA (o2 (o2 (gv 1) (gv 0) addA) (gv 2) modD) nilA))) (consA (gv 0) nilA))) nilA)))) (δ := [.un, .sh (.int x), .sh (.int (m : Int))]) (n := (m : Int)) (fun j => (qrow x m j).d) (fun j hj => ⟨[.sh (.int (j : Int)), .sh (.int x), .sh (.int (m : Int))], rfl, rfl, by
          refine tup_of (cons_of rfl (cons_of (tup_of (cons_of (tup_of (cons_of rfl (cons_of (d := .int ((x + (j : Int)) % (m : Int))) ?_ rfl)) (by show 2 ≤ sizeLine; omega)) (cons_of rfl rfl)) (by show 2 ≤ sizeLine; omega)) rfl)) (by show 2 ≤ sizeLine; omega)
          rw [o2_of (x := .int (x + (j : Int))) (y := .int (m : Int)) rfl rfl]
          simp only [modD, ii]
          rw [if_pos (by omega)]⟩)
        rw [Int.toNat_natCast] at q
        have e : (osL ps x m P 0).map Pt.d = (List.range m).map fun j => (qrow x m j).d := by
          unfold osL osAt
          rw [List.map_map]
          refine List.map_congr_left fun j _ => ?_
          simp
        rw [e]
        exact q)]
      rfl) ?_
    refine seq_to (for_of (items := rngD 0 (ps.length : Int)) (rng1_of (cons_of rfl rfl) (by omega) (by omega)) l2) ?_
    refine seq_rt (ret_of ?_)
    show tupG _ [.sh (.tup (ps.map Pt.d)), .sh (.int x), .sh (.int (ps.length : Int)), .sh (.int (m : Int)), .sh (.lst (nd L)), .sh (.dct (kd (List.range ps.length)) (nd P)), frz1 s'', .sh (.lst ((osL ps x m P ps.length).map Pt.d))] = _
    exact tup_of (cons_of (by rw [oA_of (ds := [.lst ((osL ps x m P ps.length).map Pt.d)]) rfl]; rfl) (cons_of rfl rfl)) (by show 2 ≤ sizeLine; omega)
  · have hol : (osL ps x m P ps.length).length = m := by simp [osL]
    have hat : ∀ j, j < m → pat (osL ps x m P ps.length) j = osAt ps x m P ps.length j := fun j hj => by
      unfold pat osL
      simp [List.getD_eq_getElem?_getD, hj]
    have hg : ∀ (i : Nat) (hi : i < ps.length), P.getD i 0 = P[i]'(by omega) := fun (i : Nat) (hi : i < ps.length) => by simp [List.getD_eq_getElem?_getD, show i < P.length by omega]
    have hpt : P.take ps.length = P := List.take_of_length_le (by omega)
    refine ⟨⟨by rw [hol]; omega, by rw [hol]; exact hm60, fun p hp => ?_⟩, fun i hi j hj => ?_, fun i hi => ⟨hi, ?_⟩, fun a b ha hb e => ?_, fun i hi => ?_⟩
    · obtain ⟨j, hj, rfl⟩ := List.mem_map.mp hp
      have hj := List.mem_range.mp hj
      rw [hol]
      unfold osAt
      rw [hpt]
      split
      · rename_i hjP
        have hil := List.idxOf_lt_length_of_mem hjP
        have hp := h5.at (i := P.idxOf j) (by omega)
        refine hp.rel fun k hk => ?_
        have h0 := links_nn hp.val k hk
        have h1 := hp.lks k hk
        have hk2 : k.toNat < ps.length := by omega
        rw [hg _ hk2]
        exact hlt _ (List.getElem_mem _)
      · have hb : 0 ≤ (x + (j : Int)) % (m : Int) ∧ (x + (j : Int)) % (m : Int) < m := ⟨Int.emod_nonneg _ (by omega), Int.emod_lt_of_pos _ (by omega)⟩
        refine ⟨by show 2 ≤ 12; decide, fun v hv => ?_, fun k hk => ?_⟩
        · have hv : v ∈ [D.tup [.str "at", .int ((x + (j : Int)) % (m : Int))], D.int (j : Int)] := hv
          simp only [List.mem_cons, List.not_mem_nil, or_false] at hv
          rcases hv with rfl | rfl
          · simp [valB, hb.1]; decide +kernel
          · rfl
        · have hk : k ∈ [(x + (j : Int)) % (m : Int)] := hk
          have := List.mem_singleton.mp hk
          omega
    · obtain ⟨_, _, _, _, _, h2⟩ := h5.adj.ok i hi
      exact h2 j hj
    · rw [hol]
      show P.getD i 0 < m
      rw [hg i hi]
      exact hlt _ (List.getElem_mem _)
    · have e' : P.getD a 0 = P.getD b 0 := e
      rw [hg a ha, hg b hb] at e'
      exact (List.getElem_inj hn).mp e'
    · have hi : i < ps.length := hi
      have hlm : P[i]'(by omega) < m := hlt _ (List.getElem_mem _)
      show pat _ (P.getD i 0) = _
      rw [hg i hi, hat _ hlm]
      unfold osAt
      rw [hpt, if_pos (List.getElem_mem _), idx_get hn i (by omega)]
end K6
namespace K6
open PySem DL W
theorem cell_ok (ns : List Int) (k : Int) (h0 : 0 ≤ k) : ∃ z, m__law_cell_at [.lst (ns.map .int), .int k] = some (.int z) := by
  by_cases h : k < ns.length
  · have hlt : k.toNat < ns.length := by omega
    refine ⟨ns[k.toNat], mkF_rt rfl (seq_rt ?_)⟩
    rw [if_t (by
      show some (decide (k < (((ns.map D.int).length : Nat) : Int))) = _
      rw [decide_eq_true (by rw [List.length_map]; exact h)])]
    refine seq_rt (ret_of ?_)
    show atI (ns.map D.int) k = _
    rw [atI_in h0 (by rw [List.length_map]; exact h) .non]
    simp [List.getD_eq_getElem?_getD, hlt]
  · refine ⟨0, mkF_rt rfl (seq_to (δ' := [.sh (.lst (ns.map .int)), .sh (.int k)]) ?_ rfl)⟩
    rw [if_f (by
      show some (decide (k < (((ns.map D.int).length : Nat) : Int))) = _
      rw [decide_eq_false (by rw [List.length_map]; exact h)])]
    rfl
theorem mul_r (i j : Int) (h : -(2 ^ 64) < j ∧ j < 2 ^ 64) : mulA (.int i) (.int j) = some (.int (i * j)) := by simp only [mulA]; rw [if_pos (.inr h)]
theorem mixed_ok (ns : List Int) (k : Int) (h0 : 0 ≤ k) (h1 : k ≤ 1000) : ∃ x, 0 ≤ x ∧ m__law_mixed [.lst (ns.map .int), .int k] = some (.int x) := by
  obtain ⟨a, ea⟩ := cell_ok ns (2 + 2 * k) (by omega)
  obtain ⟨b, eb⟩ := cell_ok ns (3 + 2 * k) (by omega)
  refine ⟨((a % 1000000007) * 48271 + (b % 1000000007) * 16807 + 41 * k * k + 13 * k) % 1000003, Int.emod_nonneg _ (by decide), mkF_rt rfl (seq_to (set_of (d := .int (a % 1000000007)) ?_) (seq_to (set_of (d := .int (b % 1000000007)) ?_) (seq_rt (ret_of ?_))))⟩
  · rw [o2_of (x := .int a) (y := .int 1000000007) (by
      rw [oA_of (ds := [.lst (ns.map .int), .int (2 + 2 * k)]) (cons_of rfl (cons_of (d := .int (2 + 2 * k)) (by
        rw [o2_of (x := .int 2) (y := .int (2 * k)) rfl (by rw [o2_of (x := .int 2) (y := .int k) rfl rfl]; exact mul_r _ _ (by omega))]
        rfl) rfl))]
      exact ea) rfl]
    rfl
  · rw [o2_of (x := .int b) (y := .int 1000000007) (by
      rw [oA_of (ds := [.lst (ns.map .int), .int (3 + 2 * k)]) (cons_of rfl (cons_of (d := .int (3 + 2 * k)) (by
        rw [o2_of (x := .int 3) (y := .int (2 * k)) rfl (by rw [o2_of (x := .int 2) (y := .int k) rfl rfl]; exact mul_r _ _ (by omega))]
        rfl) rfl))]
      exact eb) rfl]
    rfl
  · rw [o2_of (x := .int ((a % 1000000007) * 48271 + (b % 1000000007) * 16807 + 41 * k * k + 13 * k)) (y := .int 1000003) (by
      rw [o2_of (x := .int ((a % 1000000007) * 48271 + (b % 1000000007) * 16807 + 41 * k * k)) (y := .int (13 * k)) (by
        rw [o2_of (x := .int ((a % 1000000007) * 48271 + (b % 1000000007) * 16807)) (y := .int (41 * k * k)) (by
          rw [o2_of (x := .int ((a % 1000000007) * 48271)) (y := .int ((b % 1000000007) * 16807)) (by rw [o2_of (x := .int (a % 1000000007)) (y := .int 48271) rfl rfl]; exact mul_r _ _ (by omega)) (by rw [o2_of (x := .int (b % 1000000007)) (y := .int 16807) rfl rfl]; exact mul_r _ _ (by omega))]
          rfl) (by
          rw [o2_of (x := .int (41 * k)) (y := .int k) (by rw [o2_of (x := .int 41) (y := .int k) rfl rfl]; exact mul_r _ _ (by omega)) rfl]; exact mul_r _ _ (by omega))]
        rfl) (by rw [o2_of (x := .int 13) (y := .int k) rfl rfl]; exact mul_r _ _ (by omega))]
      rfl) rfl]
    rfl
def lawVal (x m : Int) : D := if x % 5 = 0 then .non else if x % 5 = 1 then .int (if x / 205 % 2 = 0 then x / 5 % 41 - 20 else 10 ^ 50 + x) else .tup [.str "at", .int (x / 5 % m)]
theorem pow50 : powD (.int 10) (.int 50) = some (.int (10 ^ 50)) := by kernel_rfl
theorem val_ok (x m : Int) (hm : 0 < m) : m__law_value [.int x, .int m] = some (lawVal x m) := by
  unfold lawVal
  have e : ∀ k : Int, ob (o2 (o2 (gv 0) (gc (.int 5)) modD) (gc (.int k)) eqD) [.sh (.int x), .sh (.int m)] = some (decide (x % 5 = k)) := fun k => rfl
  have z2 : 2 ≤ sizeLine := by decide
  refine mkF_rt rfl ?_
  show G__law_value [.sh (.int x), .sh (.int m)] = _
  by_cases h0 : x % 5 = 0
  · rw [if_pos h0]
    exact seq_rt (by rw [if_t (by rw [e, decide_eq_true h0])]; rfl)
  · rw [if_neg h0]
    refine seq_to (δ' := [.sh (.int x), .sh (.int m)]) (by rw [if_f (by rw [e, decide_eq_false h0])]; rfl) ?_
    by_cases h1 : x % 5 = 1
    · rw [if_pos h1]
      refine seq_rt ?_
      rw [if_t (by rw [e, decide_eq_true h1])]
      refine seq_rt (ret_of ?_)
      rw [o2_of (x := .lst [.int (x / 5 % 41 - 20), .int (10 ^ 50 + x)]) (y := .int (x / 205 % 2)) (lst_of (cons_of rfl (cons_of (d := .int (10 ^ 50 + x)) (by
        rw [o2_of (x := .int (10 ^ 50)) (y := .int x) (by rw [o2_of (x := .int 10) (y := .int 50) rfl rfl]; exact pow50) rfl]
        rfl) rfl)) z2) rfl]
      by_cases h : x / 205 % 2 = 0
      · rw [if_pos h, h]; rfl
      · have h' : x / 205 % 2 = 1 := by omega
        rw [if_neg h, h']; rfl
    · rw [if_neg h1]
      refine seq_to (δ' := [.sh (.int x), .sh (.int m)]) (by rw [if_f (by rw [e, decide_eq_false h1])]; rfl) (seq_rt (ret_of (tup_of (cons_of rfl (cons_of (d := .int (x / 5 % m)) ?_ rfl)) z2)))
      rw [o2_of (x := .int (x / 5)) (y := .int m) rfl rfl]
      simp only [modD, ii]
      rw [if_pos hm]
theorem val_val (x m : Int) (hm : 0 < m) : valB (lawVal x m) = true := by
  unfold lawVal
  split
  · rfl
  · split
    · rfl
    · have : 0 ≤ x / 5 % m := Int.emod_nonneg _ (by omega)
      simp [valB, marks, this]
theorem val_lk (x m k : Int) (hm : 0 < m) (h : lk (lawVal x m) = some k) : k < m := by
  unfold lawVal at h
  split at h
  · cases h
  · split at h
    · cases h
    · have := Option.some.inj h
      rw [← this]
      exact Int.emod_lt_of_pos _ hm

/-! ### a part -/
def nOf (x : Int) : Int := if x / 24 % 9 = 1 then 12 else x / 4 % 6
theorem nOf_b (x : Int) : 0 ≤ nOf x ∧ nOf x ≤ 12 := by unfold nOf; split <;> omega
def nmS (x : Int) (j : Nat) : Str := ("n" : Str) ++ (toString ((x / 7 + (j : Int)) % 13) : String)
def clS (v : Int) : Str := ("c" : Str) ++ (toString v : String)
def valsL (x m : Int) : List D := (List.range (nOf x).toNat).map fun (j : Nat) => lawVal (x / ((j : Int) + 2) + 5 * (j : Int) * (j : Int)) m
def pairsL (x m : Int) : List (Str × D) := (List.range (nOf x).toNat).map fun (j : Nat) => (nmS x j, lawVal (x / ((j : Int) + 2) + 5 * (j : Int) * (j : Int)) m)
def wordOf (x : Int) : Str := Txt.slice (repD "ab 9z" 4) none (some (x / 4 % 21))
def partOf (x m : Int) : Pt := if x % 4 = 0 ∧ x / 97 % 3 = 0 then .text (wordOf x) else if x % 4 = 2 then .table (pairsL x m) else if x % 4 = 3 then .rcd (clS (x % 5)) (pairsL x m) else .row (valsL x m)
theorem valsL_len (x m : Int) : (valsL x m).length = (nOf x).toNat := by unfold valsL; simp
theorem num_len : ∀ j : Nat, j < 13 → (Str.ofString (toString (j : Int))).length ≤ 2 := by decide +kernel
theorem num_str (i : Int) (h0 : 0 ≤ i) (h1 : i < 13) : strOfD [.int i] = some (.str (toString i : String)) := by
  show (if i.natAbs.log2 < 1920 then _ else _) = _
  rw [if_pos]
  by_cases hz : i.natAbs = 0
  · rw [hz]; decide
  · exact (Nat.log2_lt hz).mpr (Nat.lt_of_lt_of_le (by omega : i.natAbs < 2 ^ 4) (by decide +kernel))
theorem lead_str (a : Str) (ha : a.length = 1) (i : Int) (h0 : 0 ≤ i) (h1 : i < 13) : addA (.str a) (.str (toString i : String)) = some (.str (a ++ (toString i : String))) := by
  have := num_len i.toNat (by omega)
  have e : ((i.toNat : Nat) : Int) = i := by omega
  rw [e] at this
  exact if_pos (Nat.le_trans (Nat.add_le_add_left this _) (by rw [ha]; decide))
theorem part_ok (x m : Int) (h0 : 0 ≤ x) (hm : 0 < m) : m__law_part [.int x, .int m] = some (partOf x m).d := by
  have hb := nOf_b x
  have hr : rng1D [.int (nOf x)] = some (rngD 0 (nOf x)) := by simp only [rng1D]; rw [if_pos (by omega)]
  have hlen : (rngD 0 (nOf x)).length ≤ sizeLine := by
    rw [rng_len]
    have : (12 : Nat) ≤ sizeLine := by decide
    omega
  have z2 : 2 ≤ sizeLine := by decide
  have z3 : 3 ≤ sizeLine := by decide
  refine mkF_rt rfl ?_
  show G__law_part [.sh (.int x), .sh (.int m), .un, .un, .un] = _
  refine seq_to (set_of (d := .int (x / 4 % 6)) rfl) ?_
  refine seq_to (δ' := [.sh (.int x), .sh (.int m), .sh (.int (nOf x)), .un, .un]) ?_ ?_
  · unfold nOf
    by_cases h : x / 24 % 9 = 1
    · rw [if_t (by show some (decide (x / 24 % 9 = 1)) = _; rw [decide_eq_true h]), if_pos h]; rfl
    · rw [if_f (by show some (decide (x / 24 % 9 = 1)) = _; rw [decide_eq_false h]), if_neg h]; rfl
  refine seq_to (δ' := [.sh (.int x), .sh (.int m), .sh (.int (nOf x)), .sh (.lst (valsL x m)), .un]) (set_of (d := .lst (valsL x m)) (comp_of (items := rngD 0 (nOf x)) hr hlen (comp_rng _ fun k hk => ⟨[.sh (.int (k : Int)), .sh (.int x), .sh (.int m)], rfl, rfl, ?_⟩))) ?_
  · rw [oA_of (ds := [.int (x / ((k : Int) + 2) + 5 * (k : Int) * (k : Int)), .int m]) (cons_of (d := .int (x / ((k : Int) + 2) + 5 * (k : Int) * (k : Int))) (by
      rw [o2_of (x := .int (x / ((k : Int) + 2))) (y := .int (5 * (k : Int) * (k : Int))) (by
        rw [o2_of (x := .int x) (y := .int ((k : Int) + 2)) rfl rfl]
        simp only [fdivD, ii]; rw [if_pos (by omega)]) (by
        rw [o2_of (x := .int (5 * (k : Int))) (y := .int (k : Int)) (by rw [o2_of (x := .int 5) (y := .int (k : Int)) rfl rfl]; exact mul_r _ _ (by omega)) rfl]; exact mul_r _ _ (by omega))]
      rfl) rfl)]
    exact val_ok _ _ hm
  refine seq_to (δ' := [.sh (.int x), .sh (.int m), .sh (.int (nOf x)), .sh (.lst (valsL x m)), .sh (.tup ((pairsL x m).map pr))]) (set_of (d := .tup ((pairsL x m).map pr)) (by
    rw [oA_of (ds := [.lst ((pairsL x m).map pr)]) (cons_of (d := .lst ((pairsL x m).map pr)) (comp_of (items := rngD 0 (nOf x)) hr hlen (by
      unfold pairsL
      rw [List.map_map]
      exact comp_rng _ fun k hk => ⟨[.sh (.int (k : Int)), .sh (.int x), .sh (.lst (valsL x m))], rfl, rfl, by
        refine tup_of (cons_of (d := .str (nmS x k)) ?_ (cons_of (d := lawVal (x / ((k : Int) + 2) + 5 * (k : Int) * (k : Int)) m) ?_ rfl)) z2
        · rw [o2_of (x := .str "n") (y := .str (toString ((x / 7 + (k : Int)) % 13) : String)) rfl (by rw [oA_of (ds := [.int ((x / 7 + (k : Int)) % 13)]) rfl]; exact num_str _ (by omega) (by omega))]
          exact lead_str "n" (by decide +kernel) _ (by omega) (by omega)
        · rw [o2_of (x := .lst (valsL x m)) (y := .int (k : Int)) rfl rfl]
          show atI (valsL x m) (k : Int) = _
          rw [atI_in (by omega) (by rw [valsL_len]; omega) .non, Int.toNat_natCast]
          unfold valsL
          rw [getD_map_range _ _ _ _ (by omega)]⟩)) rfl)]
    rfl)) ?_
  have e : ∀ k : Int, ob (o2 (o2 (gv 0) (gc (.int 4)) modD) (gc (.int k)) eqD) [.sh (.int x), .sh (.int m), .sh (.int (nOf x)), .sh (.lst (valsL x m)), .sh (.tup ((pairsL x m).map pr))] = some (decide (x % 4 = k)) := fun k => rfl
  have st : ∀ (k : Int) (A : GS) (h : ¬ x % 4 = k), ifD (ob (o2 (o2 (gv 0) (gc (.int 4)) modD) (gc (.int k)) eqD)) A nilD [.sh (.int x), .sh (.int m), .sh (.int (nOf x)), .sh (.lst (valsL x m)), .sh (.tup ((pairsL x m).map pr))] = some (.nx [.sh (.int x), .sh (.int m), .sh (.int (nOf x)), .sh (.lst (valsL x m)), .sh (.tup ((pairsL x m).map pr))]) := fun k A h => by rw [if_f (by rw [e, decide_eq_false h])]; rfl
  have e97 : ob (o2 (o2 (o2 (gv 0) (gc (.int 97)) fdivD) (gc (.int 3)) modD) (gc (.int 0)) eqD) [.sh (.int x), .sh (.int m), .sh (.int (nOf x)), .sh (.lst (valsL x m)), .sh (.tup ((pairsL x m).map pr))] = some (decide (x / 97 % 3 = 0)) := rfl
  have ta : tAndG (ob (o2 (o2 (gv 0) (gc (.int 4)) modD) (gc (.int 0)) eqD)) (ob (o2 (o2 (o2 (gv 0) (gc (.int 97)) fdivD) (gc (.int 3)) modD) (gc (.int 0)) eqD)) [.sh (.int x), .sh (.int m), .sh (.int (nOf x)), .sh (.lst (valsL x m)), .sh (.tup ((pairsL x m).map pr))] = some (decide (x % 4 = 0 ∧ x / 97 % 3 = 0)) := by
    unfold tAndG
    rw [e, e97]
    by_cases a : x % 4 = 0 <;> by_cases b : x / 97 % 3 = 0 <;> simp [a, b]
  unfold partOf
  by_cases c0 : x % 4 = 0 ∧ x / 97 % 3 = 0
  · rw [if_pos c0]
    have w1 : (repD "ab 9z" 4).length ≤ sizeLine := by decide +kernel
    have w2 : -(2 ^ 62) ≤ (4 : Int) ∧ (4 : Int) < 2 ^ 62 ∧ ("ab 9z" : Str).length * (4 : Int).toNat ≤ sizeLine := by decide +kernel
    have e2 : mulA (.str "ab 9z") (.int 4) = some (.str (repD "ab 9z" 4)) := by simp only [mulA]; rw [if_pos w2]
    refine seq_rt (by
      rw [if_t (by rw [ta, decide_eq_true c0])]
      exact seq_rt (ret_of (tup_of (cons_of (d := .str "text") (ds := [.str (wordOf x)]) rfl (cons_of (d := .str (wordOf x)) (by
        unfold slAG
        rw [o2_of (x := .str "ab 9z") (y := .int 4) rfl rfl, e2]
        show slA (.str (repD "ab 9z" 4)) none (some (x / 4 % 21)) = _
        simp only [slA]; rw [if_pos w1]; rfl) rfl)) z2)))
  · rw [if_neg c0]
    refine seq_to (δ' := [.sh (.int x), .sh (.int m), .sh (.int (nOf x)), .sh (.lst (valsL x m)), .sh (.tup ((pairsL x m).map pr))]) (by rw [if_f (by rw [ta, decide_eq_false c0])]; rfl) ?_
    by_cases c1 : x % 4 = 2
    · rw [if_pos c1]
      exact seq_rt (by
        rw [if_t (by rw [e, decide_eq_true c1])]
        exact seq_rt (ret_of (tup_of (cons_of (d := .str "table") (ds := [.tup ((pairsL x m).map pr)]) rfl (cons_of rfl rfl)) z2)))
    · rw [if_neg c1]
      refine seq_to (st 2 _ c1) ?_
      by_cases c2 : x % 4 = 3
      · rw [if_pos c2]
        exact seq_rt (by
          rw [if_t (by rw [e, decide_eq_true c2])]
          exact seq_rt (ret_of (tup_of (cons_of (d := .str "record") (ds := [.str (clS (x % 5)), .tup ((pairsL x m).map pr)]) rfl (cons_of (by
            rw [o2_of (x := .str "c") (y := .str (toString (x % 5) : String)) rfl (by rw [oA_of (ds := [.int (x % 5)]) rfl]; exact num_str _ (by omega) (by omega))]
            exact lead_str "c" (by decide +kernel) _ (by omega) (by omega)) (cons_of rfl rfl))) z3)))
      · rw [if_neg c2]
        exact seq_to (st 3 _ c2) (seq_rt (ret_of (tup_of (cons_of (d := .str "row") (ds := [.tup (valsL x m)]) rfl (cons_of rfl rfl)) z2)))
theorem part_good (x m : Int) (h0 : 0 ≤ x) (hm : 0 < m) : G5 (partOf x m) m := by
  have hb := nOf_b x
  have hv : ∀ v ∈ valsL x m, valB v = true := fun v hv => by obtain ⟨j, _, rfl⟩ := List.mem_map.mp hv; exact val_val _ _ hm
  have hl : (valsL x m).length ≤ 12 := by rw [valsL_len]; omega
  have lks : ∀ k ∈ (valsL x m).filterMap lk, k < m := fun k hk => by
    obtain ⟨v, hv, e⟩ := List.mem_filterMap.mp hk
    obtain ⟨j, _, rfl⟩ := List.mem_map.mp hv
    exact val_lk _ _ _ hm e
  have snd : (pairsL x m).map (·.2) = valsL x m := by unfold pairsL valsL; rw [List.map_map]; rfl
  unfold partOf
  split
  · exact ⟨Nat.zero_le _, fun v hv => (by cases hv), fun k hk => (by cases hk)⟩
  · split
    · refine ⟨?_, ?_, ?_⟩
      · show ((pairsL x m).map (·.2)).length ≤ 12; rw [snd]; exact hl
      · show ∀ v ∈ (pairsL x m).map (·.2), _; rw [snd]; exact hv
      · show ∀ k ∈ ((pairsL x m).map (·.2)).filterMap lk, _; rw [snd]; exact lks
    · split
      · refine ⟨?_, ?_, ?_⟩
        · show ((pairsL x m).map (·.2)).length ≤ 12; rw [snd]; exact hl
        · show ∀ v ∈ (pairsL x m).map (·.2), _; rw [snd]; exact hv
        · show ∀ k ∈ ((pairsL x m).map (·.2)).filterMap lk, _; rw [snd]; exact lks
      · exact ⟨hl, hv, lks⟩
end K6
namespace K6
open PySem DL W
/-! ### the parts are parts, their names few -/
def nS (k : Nat) : Str := ("n" : Str) ++ (toString (k : Int) : String)
def cS (k : Nat) : Str := ("c" : Str) ++ (toString (k : Int) : String)
theorem nS_name : ∀ k : Nat, k < 13 → isName (nS k) = true := by decide +kernel
theorem cS_name : ∀ k : Nat, k < 5 → isName (cS k) = true := by decide +kernel
theorem nS_inj : ∀ a : Nat, a < 13 → ∀ b : Nat, b < 13 → nS a = nS b → a = b := by decide +kernel
theorem word_ok : ∀ b : Nat, b < 21 → isWord (Txt.slice (repD "ab 9z" 4) none (some (b : Int))) = true := by decide +kernel
def NL : List Str := (List.range 13).map nS ++ (List.range 5).map cS
theorem nmS_eq (x : Int) (j : Nat) : nmS x j = nS ((x / 7 + (j : Int)) % 13).toNat := by
  unfold nmS nS
  rw [show ((((x / 7 + (j : Int)) % 13).toNat : Nat) : Int) = (x / 7 + (j : Int)) % 13 by omega]
theorem clS_eq (v : Int) (h : 0 ≤ v) : clS v = cS v.toNat := by
  unfold clS cS
  rw [show ((v.toNat : Nat) : Int) = v by omega]
theorem pairs_ok (x m : Int) (hm : 0 < m) : PsOk (pairsL x m) := by
  have hb := nOf_b x
  refine ⟨by unfold pairsL; simp; omega, fun p hp => ?_, fun p hp => ?_, ?_⟩
  · obtain ⟨j, _, rfl⟩ := List.mem_map.mp hp
    show isName (nmS x j) = true
    rw [nmS_eq]
    exact nS_name _ (by omega)
  · obtain ⟨j, _, rfl⟩ := List.mem_map.mp hp
    exact val_val _ _ hm
  · unfold pairsL
    rw [List.map_map]
    refine List.nodup_iff_pairwise_ne.mpr (List.pairwise_map.mpr ?_)
    refine List.Pairwise.imp_of_mem ?_ (List.nodup_range (n := (nOf x).toNat))
    intro a b ha hb' hab e
    have ha := List.mem_range.mp ha
    have hb' := List.mem_range.mp hb'
    have e : nmS x a = nmS x b := e
    rw [nmS_eq, nmS_eq] at e
    have := nS_inj _ (by omega) _ (by omega) e
    omega
theorem part_Ok (x m : Int) (h0 : 0 ≤ x) (hm : 0 < m) : (partOf x m).Ok ∧ ∀ s ∈ (partOf x m).all, s ∈ NL := by
  have hp := pairs_ok x m hm
  have hg := part_good x m h0 hm
  have hn : ∀ s ∈ (pairsL x m).map (·.1), s ∈ NL := fun s hs => by
    obtain ⟨p, hp, rfl⟩ := List.mem_map.mp hs
    obtain ⟨j, _, rfl⟩ := List.mem_map.mp hp
    show nmS x j ∈ NL
    rw [nmS_eq]
    exact List.mem_append.mpr (.inl (List.mem_map.mpr ⟨_, List.mem_range.mpr (by omega), rfl⟩))
  have hc : isName (clS (x % 5)) = true ∧ clS (x % 5) ∈ NL := by
    rw [clS_eq _ (by omega)]
    exact ⟨cS_name _ (by omega), List.mem_append.mpr (.inr (List.mem_map.mpr ⟨_, List.mem_range.mpr (by omega), rfl⟩))⟩
  unfold partOf at hg ⊢
  split
  · refine ⟨?_, fun s hs => by cases hs⟩
    have := word_ok (x / 4 % 21).toNat (by omega)
    rw [show (((x / 4 % 21).toNat : Nat) : Int) = x / 4 % 21 by omega] at this
    exact this
  · split
    · exact ⟨hp, fun s hs => hn s (by simpa [Pt.all, Pt.pnames, Pt.cls] using hs)⟩
    · split
      · refine ⟨⟨hc.1, hp⟩, fun s hs => ?_⟩
        rcases List.mem_append.mp hs with z | z
        · exact hn s z
        · have := List.mem_singleton.mp z
          rw [this]; exact hc.2
      · rename_i c0 c1 c2
        rw [if_neg c0, if_neg c1, if_neg c2] at hg
        exact ⟨⟨hg.len, hg.val⟩, fun s hs => by cases hs⟩
theorem rel_Ok (f : Nat → Nat) (p : Pt) (h : p.Ok) : (rel f p).Ok := by
  have hv := rel_valB f p h.sane.2
  have key : ∀ (ps : List (Str × D)) (vs : List D), PsOk ps → vs.length = ps.length → (∀ v ∈ vs, valB v = true) → PsOk ((ps.map (·.1)).zip vs) := fun ps vs hp hl hv => by
    refine ⟨by rw [List.length_zip, List.length_map]; have := hp.len; omega, fun q hq => ?_, fun q hq => hv _ (List.of_mem_zip hq).2, ?_⟩
    · obtain ⟨r, hr, e⟩ := List.mem_map.mp (List.of_mem_zip hq).1
      rw [← e]
      exact hp.names r hr
    · rw [zip_fst' _ _ (by rw [List.length_map, hl])]
      exact hp.nd
  rw [rel_vals] at hv
  cases p with
  | text w => exact h
  | row vs => exact ⟨by have : vs.length ≤ 12 := h.1; show (vs.map (lkm f)).length ≤ 12; rw [List.length_map]; exact this, hv⟩
  | table ps => exact key ps _ h (by rw [List.length_map]; exact List.length_map ..) hv
  | rcd c ps => exact ⟨h.1, key ps _ h.2 (by rw [List.length_map]; exact List.length_map ..) hv⟩
theorem rel_all (f : Nat → Nat) (p : Pt) : (rel f p).all = p.all := by
  cases p with
  | text w => rfl
  | row vs => rfl
  | table ps =>
    show ((ps.map (·.1)).zip ((ps.map (·.2)).map (lkm f))).map (·.1) ++ [] = ps.map (·.1) ++ []
    rw [zip_fst' _ _ (by simp)]
  | rcd c ps =>
    show ((ps.map (·.1)).zip ((ps.map (·.2)).map (lkm f))).map (·.1) ++ [c] = ps.map (·.1) ++ [c]
    rw [zip_fst' _ _ (by simp)]
structure W6 (ps : List Pt) : Prop where
  w5 : W5 ps
  ok : ∀ p ∈ ps, p.Ok
  nm : ∀ p ∈ ps, ∀ s ∈ p.all, s ∈ NL
theorem Wk.webOk {ps : List Pt} {x : Nat} {r : List Nat} (h6 : W6 ps) (h : Wk ps x r) : WebOk (K6.dw ps r) := by
  have w := h.w5 h6.w5
  have hne := h.ne
  have hl : (K6.dw ps r).length = r.length := dw_len
  refine ⟨fun z => ?_, w.len, fun p hp => ?_, fun p hp k hk => (w.ok p hp).lks k hk, ?_⟩
  · rw [z] at hl
    simp at hl
    omega
  · obtain ⟨i, hi, rfl⟩ := List.mem_map.mp hp
    exact rel_Ok _ _ (h6.ok _ (pat_mem (h.inn i hi)))
  · refine Nat.le_trans (once_le _ NL fun y hy => ?_) (by unfold NL; simp)
    obtain ⟨p, hp, hy⟩ := List.mem_flatMap.mp hy
    obtain ⟨i, hi, rfl⟩ := List.mem_map.mp hp
    rw [rel_all] at hy
    exact h6.nm _ (pat_mem (h.inn i hi)) y hy
theorem web_ok (ns : List Int) : ∃ ps : List Pt, m__law_web [.lst (ns.map .int)] = some (.tup (ps.map Pt.d)) ∧ W6 ps := by
  obtain ⟨c0, e0⟩ := cell_ok ns 0 (by omega)
  obtain ⟨f, hf⟩ : ∃ f : Int, f = c0 % 1000003 := ⟨_, rfl⟩
  have hf0 : 0 ≤ f := by omega
  have s1 : setD (gN 1) (o2 (oA (consA (gv 0) (consA (gc (.int 0)) nilA)) m__law_cell_at) (gc (.int 1000003)) modD) [.sh (.lst (ns.map .int)), .un, .un] = some (.nx [.sh (.lst (ns.map .int)), .sh (.int f), .un]) := set_of (by
    rw [o2_of (x := .int c0) (y := .int 1000003) (by rw [oA_of (ds := [.lst (ns.map .int), .int 0]) rfl]; exact e0) rfl, hf]
    rfl)
  obtain ⟨m, hm⟩ : ∃ m : Int, m = if f / 72 % 4 = 1 then 59 + f / 288 % 2 else 1 + f / 8 % 9 := ⟨_, rfl⟩
  have hmb : 1 ≤ m ∧ m ≤ 60 := by rw [hm]; split <;> omega
  have hx : ∀ k : Nat, ∃ x, 0 ≤ x ∧ ((k : Int) ≤ 1000 → m__law_mixed [.lst (ns.map .int), .int (k : Int)] = some (.int x)) := fun k => by
    by_cases h : (k : Int) ≤ 1000
    · obtain ⟨x, h1, h2⟩ := mixed_ok ns (k : Int) (by omega) h
      exact ⟨x, h1, fun _ => h2⟩
    · exact ⟨0, by omega, fun z => absurd z h⟩
  obtain ⟨X, hX⟩ := Classical.axiomOfChoice hx
  have hpl : ((List.range m.toNat).map fun k => partOf (X k) m).length = m.toNat := by simp
  refine ⟨(List.range m.toNat).map fun k => partOf (X k) m, mkF_rt rfl (seq_to s1 ?_), ⟨by rw [hpl]; omega, by rw [hpl]; omega, fun p hp => ?_⟩, fun p hp => ?_, fun p hp => ?_⟩
  · refine seq_to (set_of (d := .int (1 + f / 8 % 9)) rfl) ?_
    refine seq_to (δ' := [.sh (.lst (ns.map .int)), .sh (.int f), .sh (.int m)]) (by
      by_cases h : f / 72 % 4 = 1
      · rw [if_t (by show some (decide (f / 72 % 4 = 1)) = _; rw [decide_eq_true h]), hm, if_pos h]; rfl
      · rw [if_f (by show some (decide (f / 72 % 4 = 1)) = _; rw [decide_eq_false h]), hm, if_neg h]; rfl) ?_
    have hr : rng1D [.int m] = some (rngD 0 m) := by simp only [rng1D]; rw [if_pos (by omega)]
    have hlen : (rngD 0 m).length ≤ sizeLine := by
      rw [rng_len]
      have : (60 : Nat) ≤ sizeLine := by decide
      omega
    refine seq_rt (ret_of ?_)
    rw [oA_of (ds := [.lst (((List.range m.toNat).map fun k => partOf (X k) m).map Pt.d)]) (cons_of (comp_of (items := rngD 0 m) hr hlen (by
      rw [List.map_map]
      exact comp_rng _ fun k hk => ⟨[.sh (.int (k : Int)), .sh (.lst (ns.map .int)), .sh (.int m)], rfl, rfl, by
        rw [oA_of (ds := [.int (X k), .int m]) (cons_of (d := .int (X k)) (by
          rw [oA_of (ds := [.lst (ns.map .int), .int (k : Int)]) rfl]
          exact (hX k).2 (by omega)) rfl)]
        exact part_ok _ _ (hX k).1 (by omega)⟩)) rfl)]
    rfl
  · obtain ⟨k, _, rfl⟩ := List.mem_map.mp hp
    rw [hpl, show ((m.toNat : Nat) : Int) = m by omega]
    exact part_good _ _ (hX k).1 (by omega)
  · obtain ⟨k, _, rfl⟩ := List.mem_map.mp hp
    exact (part_Ok _ _ (hX k).1 (by omega)).1
  · obtain ⟨k, _, rfl⟩ := List.mem_map.mp hp
    exact (part_Ok _ _ (hX k).1 (by omega)).2
end K6
namespace K6
open PySem DL W
theorem ob_ne {ga gb : GE} {δ : Ds} {x y : D} {b : Bool} (h1 : ga δ = some x) (h2 : gb δ = some y) (h : neDD x y = some (.bl b)) : ob (o2 ga gb neDD) δ = some b := by
  show (o2 ga gb neDD δ).bind asB = _
  rw [o2_of h1 h2, h]; rfl
theorem or_f {g1 g2 : GB} {δ : Ds} (h1 : g1 δ = some false) (h2 : g2 δ = some false) : tOrG g1 g2 δ = some false := by
  unfold tOrG
  rw [h1]
  exact h2
theorem lean_web {ps : List Pt} (h : W5 ps) : lean (.tup (ps.map Pt.d)) 50 = true := Pn.lean_tup fun d hd => by
  obtain ⟨p, hp, rfl⟩ := List.mem_map.mp hd
  exact Pn.lean_pt p (h.ok p hp).val 45
theorem lean_nd (l : List Nat) : lean (.lst (nd l)) 50 = true := by
  unfold lean
  exact Pn.leans_of fun d hd => by obtain ⟨i, _, rfl⟩ := List.mem_map.mp hd; unfold lean; rfl
def Turn : GS := (seqD (setD (gN 4) (oA (consA (gv 1) (consA (gv 3) nilA)) m__law_due))
  (seqD (setD (gN 5) (oA (consA (gv 1) (consA (gv 3) nilA)) m_drawn))
  (seqD (ifD (tOrG (tNotG (ob (isiG isTup (gv 5)))) (tOrG (ob (o2 (gv 5) (gv 4) neDD)) (tOrG (tNotG (ob (oA (consA (gv 5) nilA) m_is_web))) (ob (o2 (oA (consA (gv 5) nilA) fun ds => m_drawn (ds ++ [(.int 0)])) (gv 4) neDD)))))
  (seqD (retD (gc (.bl false)))
  nilD)
  nilD)
  (seqD (ifD (ob (o2 (oA (consA (gv 5) nilA) fun ds => m_met (ds ++ [(.int 0)])) (oA (consA (oA (consA (gv 4) nilA) lenD) nilA) lrngD) neDD))
  (seqD (retD (gc (.bl false)))
  nilD)
  nilD)
  (seqD (asgX (pureX (oA (consA (gv 1) (consA (o2 (gv 2) (gc (.int 60)) fdivD) nilA)) m__law_shuffled)) (tup2 6 7))
  (seqD (ifD (tOrG (ob (o2 (oA (consA (gv 6) (consA (o2 (gv 7) (gv 3) dgetD) nilA)) m_drawn) (gv 4) neDD)) (ob (o2 (gv 1) (oA (consA (gv 0) nilA) m__law_web) neDD)))
  (seqD (retD (gc (.bl false)))
  nilD)
  nilD)
  nilD))))))
theorem turn_ok (ns : List Int) {ps : List Pt} (hw : m__law_web [.lst (ns.map .int)] = some (.tup (ps.map Pt.d))) (h6 : W6 ps) (f : Int) (hf : 0 ≤ f) (x : Nat) (hx : x < ps.length) (s4 s5 s6 s7 : Sl) : ∃ t4 t5 t6 t7,
    Turn [.sh (.lst (ns.map .int)), .sh (.tup (ps.map Pt.d)), .sh (.int f), .sh (.int (x : Int)), s4, s5, s6, s7] = some (.nx [.sh (.lst (ns.map .int)), .sh (.tup (ps.map Pt.d)), .sh (.int f), .sh (.int (x : Int)), t4, t5, t6, t7]) := by
  have h5 := h6.w5
  obtain ⟨r, h⟩ := wk_ex h5 x hx
  have w5d := h.w5 h5
  obtain ⟨ha, he⟩ := h.again h5
  obtain ⟨P, os, hs, hP, ho⟩ := shuffled_ok h5 (f / 60) (by omega)
  have hko := ho.wk h5 h h.inn
  have hdo := ho.dw h5 h h.inn
  have e0 : ((0 : Nat) : Int) = 0 := rfl
  refine ⟨.sh (.tup ((K6.dw ps r).map Pt.d)), .sh (.tup ((K6.dw ps r).map Pt.d)), .sh (.tup (os.map Pt.d)), .sh (.dct (kd (List.range ps.length)) (K6.nd P)), ?_⟩
  unfold Turn
  refine seq_to (set_of (d := .tup ((K6.dw ps r).map Pt.d)) (by rw [oA_of (ds := [.tup (ps.map Pt.d), .int (x : Int)]) rfl]; exact due_web h5 h)) ?_
  refine seq_to (set_of (d := .tup ((K6.dw ps r).map Pt.d)) (by rw [oA_of (ds := [.tup (ps.map Pt.d), .int (x : Int)]) rfl]; exact drawn_ok h5 h)) ?_
  have ne := Pn.ne_f (lean_web w5d)
  have d0 : m_drawn [.tup ((K6.dw ps r).map Pt.d), .int 0] = some (.tup ((K6.dw ps r).map Pt.d)) := by
    have := drawn_ok w5d ha
    rw [he, e0] at this
    exact this
  refine seq_to (δ' := [.sh (.lst (ns.map .int)), .sh (.tup (ps.map Pt.d)), .sh (.int f), .sh (.int (x : Int)), .sh (.tup ((K6.dw ps r).map Pt.d)), .sh (.tup ((K6.dw ps r).map Pt.d)), s6, s7]) (by
    rw [if_f (or_f rfl (or_f (ob_ne rfl rfl ne) (or_f (by
      have e : oA (consA (gv 5) nilA) m_is_web [.sh (.lst (ns.map .int)), .sh (.tup (ps.map Pt.d)), .sh (.int f), .sh (.int (x : Int)), .sh (.tup ((K6.dw ps r).map Pt.d)), .sh (.tup ((K6.dw ps r).map Pt.d)), s6, s7] = some (.bl true) := by
        rw [oA_of (ds := [.tup ((K6.dw ps r).map Pt.d)]) rfl]
        exact (h.webOk h6).web
      show Option.map _ (Option.bind (oA (consA (gv 5) nilA) m_is_web [.sh (.lst (ns.map .int)), .sh (.tup (ps.map Pt.d)), .sh (.int f), .sh (.int (x : Int)), .sh (.tup ((K6.dw ps r).map Pt.d)), .sh (.tup ((K6.dw ps r).map Pt.d)), s6, s7]) asB) = _
      rw [e]
      rfl) (ob_ne (x := .tup ((K6.dw ps r).map Pt.d)) (by rw [oA_of (ds := [.tup ((K6.dw ps r).map Pt.d)]) rfl]; exact d0) rfl ne))))]
    rfl) ?_
  refine seq_to (δ' := [.sh (.lst (ns.map .int)), .sh (.tup (ps.map Pt.d)), .sh (.int f), .sh (.int (x : Int)), .sh (.tup ((K6.dw ps r).map Pt.d)), .sh (.tup ((K6.dw ps r).map Pt.d)), s6, s7]) (by
    rw [if_f (ob_ne (x := .lst (K6.nd (List.range r.length))) (y := .lst (K6.nd (List.range r.length))) (by
      rw [oA_of (ds := [.tup ((K6.dw ps r).map Pt.d)]) rfl]
      have := ha.met w5d
      rw [e0] at this
      exact this) (by
      rw [oA_of (ds := [.int (r.length : Int)]) (cons_of (by rw [lenT_of (ds := (K6.dw ps r).map Pt.d) rfl, List.length_map, dw_len]) rfl)]
      show (if -(2 ^ 62) ≤ (r.length : Int) ∧ (r.length : Int) ≤ 1000000 then some (D.lst ((List.range (r.length : Int).toNat).map fun (k : Nat) => D.int (k : Int))) else none) = _
      rw [if_pos (by have := h.len; have := h5.len; omega), Int.toNat_natCast]
      rfl) (Pn.ne_f (lean_nd _)))]
    rfl) ?_
  refine seq_to (δ' := [.sh (.lst (ns.map .int)), .sh (.tup (ps.map Pt.d)), .sh (.int f), .sh (.int (x : Int)), .sh (.tup ((K6.dw ps r).map Pt.d)), .sh (.tup ((K6.dw ps r).map Pt.d)), .sh (.tup (os.map Pt.d)), .sh (.dct (kd (List.range ps.length)) (K6.nd P))]) (by
    unfold asgX pureX
    rw [oA_of (ds := [.tup (ps.map Pt.d), .int (f / 60)]) rfl, hs]
    rfl) ?_
  refine seq_to (δ' := [.sh (.lst (ns.map .int)), .sh (.tup (ps.map Pt.d)), .sh (.int f), .sh (.int (x : Int)), .sh (.tup ((K6.dw ps r).map Pt.d)), .sh (.tup ((K6.dw ps r).map Pt.d)), .sh (.tup (os.map Pt.d)), .sh (.dct (kd (List.range ps.length)) (K6.nd P))]) (by
    rw [if_f (or_f (ob_ne (x := .tup ((K6.dw ps r).map Pt.d)) (by
      rw [oA_of (ds := [.tup (os.map Pt.d), .int ((P.getD x 0 : Nat) : Int)]) (cons_of rfl (cons_of (by
        rw [o2_of (x := .dct (kd (List.range ps.length)) (K6.nd P)) (y := .int (x : Int)) rfl rfl]
        exact get_pl ps.length P hP x hx) rfl))]
      have := drawn_ok ho.w5 hko
      rw [hdo] at this
      exact this) rfl ne) (ob_ne (x := .tup (ps.map Pt.d)) (y := .tup (ps.map Pt.d)) rfl (by
      rw [oA_of (ds := [.lst (ns.map .int)]) rfl]; exact hw) (Pn.ne_f (lean_web h5))))]
    rfl) ?_
  rfl
theorem law_true (ns : List Int) (hl : ns.length ≤ 63) : m_law [.lst (ns.map .int)] = some (.bl true) := by
  obtain ⟨ps, hw, h6⟩ := web_ok ns
  have h5 := h6.w5
  have hne := h5.ne
  obtain ⟨c, hc⟩ := cell_ok ns 1 (by omega)
  obtain ⟨f, hf⟩ : ∃ f : Int, f = c % 1000003 := ⟨_, rfl⟩
  have hf0 : 0 ≤ f := by omega
  obtain ⟨y, hy⟩ : ∃ y : Nat, (y : Int) = f % (ps.length : Int) := ⟨(f % (ps.length : Int)).toNat, by
    have := Int.emod_nonneg f (by omega : (ps.length : Int) ≠ 0)
    omega⟩
  have hyl : y < ps.length := by
    have := Int.emod_lt_of_pos f (by omega : (0 : Int) < ps.length)
    omega
  obtain ⟨t4, t5, t6, t7, e1⟩ := turn_ok ns hw h6 f hf0 0 hne .un .un .un .un
  obtain ⟨u4, u5, u6, u7, e2⟩ := turn_ok ns hw h6 f hf0 y hyl t4 t5 t6 t7
  have e0 : ((0 : Nat) : Int) = 0 := rfl
  rw [e0] at e1
  obtain ⟨r, h⟩ := wk_ex h5 0 hne
  have hd := drawn_ok h5 h
  have hu := due_web h5 h
  rw [e0] at hd hu
  refine mkF_rt rfl (seq_to (set_of (d := .tup (ps.map Pt.d)) (by rw [oA_of (ds := [.lst (ns.map .int)]) rfl]; exact hw)) ?_)
  refine seq_to (set_of (d := .int f) (by
    rw [o2_of (x := .int c) (y := .int 1000003) (by rw [oA_of (ds := [.lst (ns.map .int), .int 1]) rfl]; exact hc) rfl, hf]
    rfl)) ?_
  refine seq_to (δ' := [.sh (.lst (ns.map .int)), .sh (.tup (ps.map Pt.d)), .sh (.int f), .sh (.int (y : Int)), u4, u5, u6, u7]) (for_of (items := [.int 0, .int (y : Int)]) (by
    unfold tupI
    rw [tup_of (ds := [.int 0, .int (y : Int)]) (cons_of rfl (cons_of (by
      rw [o2_of (x := .int f) (y := .int (ps.length : Int)) rfl (by rw [lenT_of (ds := ps.map Pt.d) rfl, List.length_map])]
      simp only [modD, ii]
      rw [if_pos (by omega), hy]) rfl)) (by show 2 ≤ sizeLine; decide)]
    rfl) ?_) ?_
  · refine (for_cons (G := Turn) (δ1 := [.sh (.lst (ns.map .int)), .sh (.tup (ps.map Pt.d)), .sh (.int f), .sh (.int 0), .un, .un, .un, .un]) rfl e1).trans ?_
    refine (for_cons (G := Turn) (δ1 := [.sh (.lst (ns.map .int)), .sh (.tup (ps.map Pt.d)), .sh (.int f), .sh (.int (y : Int)), t4, t5, t6, t7]) rfl e2).trans ?_
    rfl
  · refine seq_rt (ret_of ?_)
    rw [o2_of (x := .tup ((K6.dw ps r).map Pt.d)) (y := .tup ((K6.dw ps r).map Pt.d)) (by rw [oA_of (ds := [.tup (ps.map Pt.d)]) rfl]; exact hd) (by rw [oA_of (ds := [.tup (ps.map Pt.d), .int 0]) rfl]; exact hu)]
    exact Pn.eq_t (lean_web (h.w5 h5))
end K6
namespace K6
open PySem L2 DL W
def top (i : Nat) : Stmt := PySem.Challenge.pw_graphpack_k06_whole_drawn_webs.main.body.getD i (.Pass ⟨0, 0, 0, 0⟩)
theorem b_all : bootBuiltins "all" = some (.builtin "all") := by decide +kernel
theorem b_bool : bootBuiltins "bool" = some (.type "bool") := by decide +kernel
theorem b_dict : bootBuiltins "dict" = some (.type "dict") := by decide +kernel
theorem b_enumerate : bootBuiltins "enumerate" = some (.type "enumerate") := by decide +kernel
theorem b_int : bootBuiltins "int" = some (.type "int") := by decide +kernel
theorem b_list : bootBuiltins "list" = some (.type "list") := by decide +kernel
theorem b_min : bootBuiltins "min" = some (.builtin "min") := by decide +kernel
theorem b_reversed : bootBuiltins "reversed" = some (.type "reversed") := by decide +kernel
theorem b_str : bootBuiltins "str" = some (.type "str") := by decide +kernel
theorem b_tuple : bootBuiltins "tuple" = some (.type "tuple") := by decide +kernel
theorem b_zip : bootBuiltins "zip" = some (.type "zip") := by decide +kernel
structure Txt (mg : Str → Option Value) : Prop where
  b_all : mg "all" = none
  b_bool : mg "bool" = none
  b_dict : mg "dict" = none
  b_enumerate : mg "enumerate" = none
  b_int : mg "int" = none
  b_isinstance : mg "isinstance" = none
  b_len : mg "len" = none
  b_list : mg "list" = none
  b_min : mg "min" = none
  b_range : mg "range" = none
  b_reversed : mg "reversed" = none
  b_set : mg "set" = none
  b_str : mg "str" = none
  b_tuple : mg "tuple" = none
  b_zip : mg "zip" = none
  c_MOST_NAMES : ∃ t, mg "MOST_NAMES" = some (.int 60 t)
  c_MOST_NAME_SIGNS : ∃ t, mg "MOST_NAME_SIGNS" = some (.int 8 t)
  c_MOST_PARTS : ∃ t, mg "MOST_PARTS" = some (.int 60 t)
  c_MOST_VALUES : ∃ t, mg "MOST_VALUES" = some (.int 12 t)
  c_MOST_WORD_SIGNS : ∃ t, mg "MOST_WORD_SIGNS" = some (.int 20 t)
  c_NAME_SIGNS : ∃ t, mg "NAME_SIGNS" = some (.str "0123456789abcdefghijklmnopqrstuvwxyz" t)
  c_WORD_SIGNS : ∃ t, mg "WORD_SIGNS" = some (.str " 0123456789abcdefghijklmnopqrstuvwxyz" t)
section
variable {P : Program} {w : World} {K : PySem.W.Frag} {mg : Str → Option Value} {base : Heap}
theorem sc_is_whole : FnScope ["thing"] ["thing"] (defScope (top 8)) := ⟨rfl, rfl, rfl, by decide +kernel, rfl, by decide +kernel, by decide +kernel⟩
set_option maxHeartbeats 0 in
theorem ok_is_whole {fa : Addr} {fd : FuncData} (F : Fun K "is_whole" "is_whole" (top 8) fa fd) (T : Txt mg)  : FnOk P w K mg base CX0 1 fa fd ["thing"] (spD K m_is_whole) :=
  okD (k := 0) (G := G_is_whole) F sc_is_whole (fun cdv A outer s H E hr => (pssd_cons (psd_ret (pd_and (pd_isi okT_int b_int T.b_isinstance T.b_int (pd_var 0)) (pd_one (pd_not (pd_isi okT_bool b_bool T.b_isinstance T.b_bool (pd_var 0))))))
      pssd_nil)) (fun ds d h => ⟨(hf_is_whole ds d h).1, .inl (hf_is_whole ds d h).2⟩)
theorem sc_is_spelled : FnScope ["thing", "signs", "most"] ["thing", "signs", "most"] (defScope (top 9)) := ⟨rfl, rfl, rfl, by decide +kernel, rfl, by decide +kernel, by decide +kernel⟩
set_option maxHeartbeats 0 in
theorem ok_is_spelled {fa : Addr} {fd : FuncData} (F : Fun K "is_spelled" "is_spelled" (top 9) fa fd) (T : Txt mg)  : FnOk P w K mg base CX0 1 fa fd ["thing", "signs", "most"] (spD K m_is_spelled) :=
  okD (k := 0) (G := G_is_spelled) F sc_is_spelled (fun cdv A outer s H E hr => (pssd_cons (psd_ret (pd_and (pd_isi okT_str b_str T.b_isinstance T.b_str (pd_var 0)) (pd_and (pd_cmp op_le op2_le (pd_len T.b_len (pda_cons (pd_var 0) pda_nil)) (pd_var 2)) (pd_one (pd_callB (call_all rfl) fn_all T.b_all b_all (pda_cons (pd_cmpD (sc := defScope (top 9)) (N := ["thing", "signs", "most"]) (N' := ["sign", "signs"]) (n := 1) (caps := [1]) ⟨rfl, by decide +kernel, by decide +kernel, by decide +kernel, by decide +kernel, rfl, by decide +kernel⟩ (by decide) (pid_str (pd_var 0)) (fun cl s H ex => pgd_name 0 (by decide +kernel : (["sign", "signs"] : List Str).Nodup)) (fun cl s H ex => pfd_nil) (fun cl s H ex => (pd_cmp op_in_str op2_in (pd_var 0) (pd_var 1)))) pda_nil))))))
      pssd_nil)) (fun ds d h => ⟨(hf_is_spelled ds d h).1, .inl (hf_is_spelled ds d h).2⟩)
theorem sc_is_name : FnScope ["thing"] ["thing"] (defScope (top 10)) := ⟨rfl, rfl, rfl, by decide +kernel, rfl, by decide +kernel, by decide +kernel⟩
set_option maxHeartbeats 0 in
theorem ok_is_name {fa : Addr} {fd : FuncData} (F : Fun K "is_name" "is_name" (top 10) fa fd) (T : Txt mg) (C_is_spelled : FnD P w K mg base "is_spelled" 1 ["thing", "signs", "most"] m_is_spelled) : FnOk P w K mg base CX0 2 fa fd ["thing"] (spD K m_is_name) :=
  okD (k := 1) (G := G_is_name) F sc_is_name (fun cdv A outer s H E hr => (pssd_cons (psd_ret (pd_and (pd_fn C_is_spelled hr (by decide) (pda_cons (pd_var 0) (pda_cons (pd_gstr T.c_NAME_SIGNS) (pda_cons (pd_gint T.c_MOST_NAME_SIGNS) pda_nil)))) (pd_one (pd_cmp op_gt op2_gt (pd_len T.b_len (pda_cons (pd_var 0) pda_nil)) pd_int))))
      pssd_nil)) (fun ds d h => ⟨(hf_is_name ds d h).1, .inl (hf_is_name ds d h).2⟩)
theorem sc_is_word : FnScope ["thing"] ["thing"] (defScope (top 11)) := ⟨rfl, rfl, rfl, by decide +kernel, rfl, by decide +kernel, by decide +kernel⟩
set_option maxHeartbeats 0 in
theorem ok_is_word {fa : Addr} {fd : FuncData} (F : Fun K "is_word" "is_word" (top 11) fa fd) (T : Txt mg) (C_is_spelled : FnD P w K mg base "is_spelled" 1 ["thing", "signs", "most"] m_is_spelled) : FnOk P w K mg base CX0 2 fa fd ["thing"] (spD K m_is_word) :=
  okD (k := 1) (G := G_is_word) F sc_is_word (fun cdv A outer s H E hr => (pssd_cons (psd_ret (pd_fn C_is_spelled hr (by decide) (pda_cons (pd_var 0) (pda_cons (pd_gstr T.c_WORD_SIGNS) (pda_cons (pd_gint T.c_MOST_WORD_SIGNS) pda_nil)))))
      pssd_nil)) (fun ds d h => ⟨(hf_is_word ds d h).1, .inl (hf_is_word ds d h).2⟩)
theorem sc_is_marked : FnScope ["thing", "mark", "count"] ["thing", "mark", "count"] (defScope (top 12)) := ⟨rfl, rfl, rfl, by decide +kernel, rfl, by decide +kernel, by decide +kernel⟩
set_option maxHeartbeats 0 in
theorem ok_is_marked {fa : Addr} {fd : FuncData} (F : Fun K "is_marked" "is_marked" (top 12) fa fd) (T : Txt mg)  : FnOk P w K mg base CX0 1 fa fd ["thing", "mark", "count"] (spD K m_is_marked) :=
  okD (k := 0) (G := G_is_marked) F sc_is_marked (fun cdv A outer s H E hr => (pssd_cons (psd_ret (pd_and (pd_isi okT_tuple b_tuple T.b_isinstance T.b_tuple (pd_var 0)) (pd_and (pd_cmp op_eq op2_eq (pd_len T.b_len (pda_cons (pd_var 0) pda_nil)) (pd_var 2)) (pd_and (pd_isi okT_str b_str T.b_isinstance T.b_str (pd_ix' (pd_var 0) pd_int)) (pd_one (pd_cmp op_eq op2_eq (pd_ix' (pd_var 0) pd_int) (pd_var 1)))))))
      pssd_nil)) (fun ds d h => ⟨(hf_is_marked ds d h).1, .inl (hf_is_marked ds d h).2⟩)
theorem sc_is_link : FnScope ["thing"] ["thing"] (defScope (top 13)) := ⟨rfl, rfl, rfl, by decide +kernel, rfl, by decide +kernel, by decide +kernel⟩
set_option maxHeartbeats 0 in
theorem ok_is_link {fa : Addr} {fd : FuncData} (F : Fun K "is_link" "is_link" (top 13) fa fd) (T : Txt mg) (C_is_marked : FnD P w K mg base "is_marked" 1 ["thing", "mark", "count"] m_is_marked) (C_is_whole : FnD P w K mg base "is_whole" 1 ["thing"] m_is_whole) : FnOk P w K mg base CX0 2 fa fd ["thing"] (spD K m_is_link) :=
  okD (k := 1) (G := G_is_link) F sc_is_link (fun cdv A outer s H E hr => (pssd_cons (psd_ret (pd_and (pd_fn C_is_marked hr (by decide) (pda_cons (pd_var 0) (pda_cons pd_str (pda_cons pd_int pda_nil)))) (pd_and (pd_fn C_is_whole hr (by decide) (pda_cons (pd_ix' (pd_var 0) pd_int) pda_nil)) (pd_one (pd_cmp op_ge op2_ge (pd_ix' (pd_var 0) pd_int) pd_int)))))
      pssd_nil)) (fun ds d h => ⟨(hf_is_link ds d h).1, .inl (hf_is_link ds d h).2⟩)
theorem sc_is_value : FnScope ["thing"] ["thing"] (defScope (top 14)) := ⟨rfl, rfl, rfl, by decide +kernel, rfl, by decide +kernel, by decide +kernel⟩
set_option maxHeartbeats 0 in
theorem ok_is_value {fa : Addr} {fd : FuncData} (F : Fun K "is_value" "is_value" (top 14) fa fd) (T : Txt mg) (C_is_link : FnD P w K mg base "is_link" 2 ["thing"] m_is_link) (C_is_whole : FnD P w K mg base "is_whole" 1 ["thing"] m_is_whole) : FnOk P w K mg base CX0 3 fa fd ["thing"] (spD K m_is_value) :=
  okD (k := 2) (G := G_is_value) F sc_is_value (fun cdv A outer s H E hr => (pssd_cons (psd_ret (pd_or (pd_cmp op_isN op2_isN (pd_var 0) pd_non) (pd_or (pd_fn C_is_whole hr (by decide) (pda_cons (pd_var 0) pda_nil)) (pd_one (pd_fn C_is_link hr (by decide) (pda_cons (pd_var 0) pda_nil))))))
      pssd_nil)) (fun ds d h => ⟨(hf_is_value ds d h).1, .inl (hf_is_value ds d h).2⟩)
theorem sc_is_tuple : FnScope ["thing", "most"] ["thing", "most"] (defScope (top 15)) := ⟨rfl, rfl, rfl, by decide +kernel, rfl, by decide +kernel, by decide +kernel⟩
set_option maxHeartbeats 0 in
theorem ok_is_tuple {fa : Addr} {fd : FuncData} (F : Fun K "is_tuple" "is_tuple" (top 15) fa fd) (T : Txt mg)  : FnOk P w K mg base CX0 1 fa fd ["thing", "most"] (spD K m_is_tuple) :=
  okD (k := 0) (G := G_is_tuple) F sc_is_tuple (fun cdv A outer s H E hr => (pssd_cons (psd_ret (pd_and (pd_isi okT_tuple b_tuple T.b_isinstance T.b_tuple (pd_var 0)) (pd_one (pd_cmp op_le op2_le (pd_len T.b_len (pda_cons (pd_var 0) pda_nil)) (pd_var 1)))))
      pssd_nil)) (fun ds d h => mkF_ok h)
theorem sc_is_values : FnScope ["thing"] ["thing"] (defScope (top 16)) := ⟨rfl, rfl, rfl, by decide +kernel, rfl, by decide +kernel, by decide +kernel⟩
set_option maxHeartbeats 0 in
theorem ok_is_values {fa : Addr} {fd : FuncData} (F : Fun K "is_values" "is_values" (top 16) fa fd) (T : Txt mg) (C_is_tuple : FnD P w K mg base "is_tuple" 1 ["thing", "most"] m_is_tuple) (C_is_value : FnD P w K mg base "is_value" 3 ["thing"] m_is_value) : FnOk P w K mg base CX0 4 fa fd ["thing"] (spD K m_is_values) :=
  okD (k := 3) (G := G_is_values) F sc_is_values (fun cdv A outer s H E hr => (pssd_cons (psd_ret (pd_and (pd_fn C_is_tuple hr (by decide) (pda_cons (pd_var 0) (pda_cons (pd_gint T.c_MOST_VALUES) pda_nil))) (pd_one (pd_callB (call_all rfl) fn_all T.b_all b_all (pda_cons (pd_cmpD (sc := defScope (top 16)) (N := ["thing"]) (N' := ["value"]) (n := 1) (caps := []) ⟨rfl, by decide +kernel, by decide +kernel, by decide +kernel, by decide +kernel, rfl, by decide +kernel⟩ (by decide) (pid_tup (pd_var 0)) (fun cl s H ex => pgd_name 0 (by decide +kernel : (["value"] : List Str).Nodup)) (fun cl s H ex => pfd_nil) (fun cl s H ex => (pd_fn C_is_value hr (by decide) (pda_cons (pd_var 0) pda_nil)))) pda_nil)))))
      pssd_nil)) (fun ds d h => mkF_ok h)
theorem sc_is_pair : FnScope ["thing"] ["thing"] (defScope (top 17)) := ⟨rfl, rfl, rfl, by decide +kernel, rfl, by decide +kernel, by decide +kernel⟩
set_option maxHeartbeats 0 in
theorem ok_is_pair {fa : Addr} {fd : FuncData} (F : Fun K "is_pair" "is_pair" (top 17) fa fd) (T : Txt mg) (C_is_name : FnD P w K mg base "is_name" 2 ["thing"] m_is_name) (C_is_value : FnD P w K mg base "is_value" 3 ["thing"] m_is_value) : FnOk P w K mg base CX0 4 fa fd ["thing"] (spD K m_is_pair) :=
  okD (k := 3) (G := G_is_pair) F sc_is_pair (fun cdv A outer s H E hr => (pssd_cons (psd_ret (pd_and (pd_isi okT_tuple b_tuple T.b_isinstance T.b_tuple (pd_var 0)) (pd_and (pd_cmp op_eq op2_eq (pd_len T.b_len (pda_cons (pd_var 0) pda_nil)) pd_int) (pd_and (pd_fn C_is_name hr (by decide) (pda_cons (pd_ix' (pd_var 0) pd_int) pda_nil)) (pd_one (pd_fn C_is_value hr (by decide) (pda_cons (pd_ix' (pd_var 0) pd_int) pda_nil)))))))
      pssd_nil)) (fun ds d h => mkF_ok h)
theorem sc_is_pairs : FnScope ["thing"] ["thing"] (defScope (top 18)) := ⟨rfl, rfl, rfl, by decide +kernel, rfl, by decide +kernel, by decide +kernel⟩
set_option maxHeartbeats 0 in
theorem ok_is_pairs {fa : Addr} {fd : FuncData} (F : Fun K "is_pairs" "is_pairs" (top 18) fa fd) (T : Txt mg) (C_is_pair : FnD P w K mg base "is_pair" 4 ["thing"] m_is_pair) (C_is_tuple : FnD P w K mg base "is_tuple" 1 ["thing", "most"] m_is_tuple) : FnOk P w K mg base CX0 5 fa fd ["thing"] (spD K m_is_pairs) :=
  okD (k := 4) (G := G_is_pairs) F sc_is_pairs (fun cdv A outer s H E hr => (pssd_cons (psd_if (PWD.pt (pwd_or (ptd_not (ptd_val (pd_fn C_is_tuple hr (by decide) (pda_cons (pd_var 0) (pda_cons (pd_gint T.c_MOST_VALUES) pda_nil))))) (pwd_or1 (ptd_not (ptd_val (pd_callB (call_all rfl) fn_all T.b_all b_all (pda_cons (pd_cmpD (sc := defScope (top 18)) (N := ["thing"]) (N' := ["pair"]) (n := 1) (caps := []) ⟨rfl, by decide +kernel, by decide +kernel, by decide +kernel, by decide +kernel, rfl, by decide +kernel⟩ (by decide) (pid_tup (pd_var 0)) (fun cl s H ex => pgd_name 0 (by decide +kernel : (["pair"] : List Str).Nodup)) (fun cl s H ex => pfd_nil) (fun cl s H ex => (pd_fn C_is_pair hr (by decide) (pda_cons (pd_var 0) pda_nil)))) pda_nil)))))))
      (pssd_cons (psd_ret pd_bl)
      pssd_nil)
      pssd_nil)
      (pssd_cons (psd_ret (pd_cmp op_eq op2_eq (pd_lenSet T.b_len T.b_set (pd_cmpD (sc := defScope (top 18)) (N := ["thing"]) (N' := ["pair"]) (n := 1) (caps := []) ⟨rfl, by decide +kernel, by decide +kernel, by decide +kernel, by decide +kernel, rfl, by decide +kernel⟩ (by decide) (pid_tup (pd_var 0)) (fun cl s H ex => pgd_name 0 (by decide +kernel : (["pair"] : List Str).Nodup)) (fun cl s H ex => pfd_nil) (fun cl s H ex => (pd_ix' (pd_var 0) pd_int)))) (pd_len T.b_len (pda_cons (pd_var 0) pda_nil))))
      pssd_nil))) (fun ds d h => mkF_ok h)
theorem sc_is_part : FnScope ["thing"] ["thing"] (defScope (top 19)) := ⟨rfl, rfl, rfl, by decide +kernel, rfl, by decide +kernel, by decide +kernel⟩
set_option maxHeartbeats 0 in
theorem ok_is_part {fa : Addr} {fd : FuncData} (F : Fun K "is_part" "is_part" (top 19) fa fd) (T : Txt mg) (C_is_marked : FnD P w K mg base "is_marked" 1 ["thing", "mark", "count"] m_is_marked) (C_is_name : FnD P w K mg base "is_name" 2 ["thing"] m_is_name) (C_is_pairs : FnD P w K mg base "is_pairs" 5 ["thing"] m_is_pairs) (C_is_values : FnD P w K mg base "is_values" 4 ["thing"] m_is_values) (C_is_word : FnD P w K mg base "is_word" 2 ["thing"] m_is_word) : FnOk P w K mg base CX0 6 fa fd ["thing"] (spD K m_is_part) :=
  okD (k := 5) (G := G_is_part) F sc_is_part (fun cdv A outer s H E hr => (pssd_cons (psd_if (ptd_val (pd_fn C_is_marked hr (by decide) (pda_cons (pd_var 0) (pda_cons pd_str (pda_cons pd_int pda_nil)))))
      (pssd_cons (psd_ret (pd_fn C_is_word hr (by decide) (pda_cons (pd_ix' (pd_var 0) pd_int) pda_nil)))
      pssd_nil)
      pssd_nil)
      (pssd_cons (psd_if (ptd_val (pd_fn C_is_marked hr (by decide) (pda_cons (pd_var 0) (pda_cons pd_str (pda_cons pd_int pda_nil)))))
      (pssd_cons (psd_ret (pd_fn C_is_values hr (by decide) (pda_cons (pd_ix' (pd_var 0) pd_int) pda_nil)))
      pssd_nil)
      pssd_nil)
      (pssd_cons (psd_if (ptd_val (pd_fn C_is_marked hr (by decide) (pda_cons (pd_var 0) (pda_cons pd_str (pda_cons pd_int pda_nil)))))
      (pssd_cons (psd_ret (pd_fn C_is_pairs hr (by decide) (pda_cons (pd_ix' (pd_var 0) pd_int) pda_nil)))
      pssd_nil)
      pssd_nil)
      (pssd_cons (psd_ret (pd_and (pd_fn C_is_marked hr (by decide) (pda_cons (pd_var 0) (pda_cons pd_str (pda_cons pd_int pda_nil)))) (pd_and (pd_fn C_is_name hr (by decide) (pda_cons (pd_ix' (pd_var 0) pd_int) pda_nil)) (pd_one (pd_fn C_is_pairs hr (by decide) (pda_cons (pd_ix' (pd_var 0) pd_int) pda_nil))))))
      pssd_nil))))) (fun ds d h => mkF_ok h)
theorem sc_is_web : FnScope ["thing"] ["thing"] (defScope (top 20)) := ⟨rfl, rfl, rfl, by decide +kernel, rfl, by decide +kernel, by decide +kernel⟩
set_option maxHeartbeats 0 in
theorem ok_is_web {fa : Addr} {fd : FuncData} (F : Fun K "is_web" "is_web" (top 20) fa fd) (T : Txt mg) (C_count_names : FnD P w K mg base "count_names" 2 ["web"] m_count_names) (C_is_part : FnD P w K mg base "is_part" 6 ["thing"] m_is_part) (C_is_tuple : FnD P w K mg base "is_tuple" 1 ["thing", "most"] m_is_tuple) (C_links_lead : FnD P w K mg base "links_lead" 3 ["web"] m_links_lead) : FnOk P w K mg base CX0 7 fa fd ["thing"] (spD K m_is_web) :=
  okD (k := 6) (G := G_is_web) F sc_is_web (fun cdv A outer s H E hr => (pssd_cons (psd_if (PWD.pt (pwd_or (ptd_not (ptd_val (pd_fn C_is_tuple hr (by decide) (pda_cons (pd_var 0) (pda_cons (pd_gint T.c_MOST_PARTS) pda_nil))))) (pwd_or1 (ptd_cmp op_eq op2_eq (pd_len T.b_len (pda_cons (pd_var 0) pda_nil)) pd_int))))
      (pssd_cons (psd_ret pd_bl)
      pssd_nil)
      pssd_nil)
      (pssd_cons (psd_if (ptd_not (ptd_val (pd_callB (call_all rfl) fn_all T.b_all b_all (pda_cons (pd_cmpD (sc := defScope (top 20)) (N := ["thing"]) (N' := ["part"]) (n := 1) (caps := []) ⟨rfl, by decide +kernel, by decide +kernel, by decide +kernel, by decide +kernel, rfl, by decide +kernel⟩ (by decide) (pid_tup (pd_var 0)) (fun cl s H ex => pgd_name 0 (by decide +kernel : (["part"] : List Str).Nodup)) (fun cl s H ex => pfd_nil) (fun cl s H ex => (pd_fn C_is_part hr (by decide) (pda_cons (pd_var 0) pda_nil)))) pda_nil))))
      (pssd_cons (psd_ret pd_bl)
      pssd_nil)
      pssd_nil)
      (pssd_cons (psd_ret (pd_and (pd_fn C_links_lead hr (by decide) (pda_cons (pd_var 0) pda_nil)) (pd_one (pd_cmp op_le op2_le (pd_fn C_count_names hr (by decide) (pda_cons (pd_var 0) pda_nil)) (pd_gint T.c_MOST_NAMES)))))
      pssd_nil)))) (fun ds d h => mkF_ok h)
theorem sc_links_lead : FnScope ["web", "part", "k"] ["web"] (defScope (top 21)) := ⟨rfl, rfl, rfl, by decide +kernel, rfl, by decide +kernel, by decide +kernel⟩
set_option maxHeartbeats 0 in
theorem ok_links_lead {fa : Addr} {fd : FuncData} (F : Fun K "links_lead" "links_lead" (top 21) fa fd) (T : Txt mg) (C_links : FnD P w K mg base "links" 2 ["part"] m_links) : FnOk P w K mg base CX0 3 fa fd ["web"] (spD K m_links_lead) :=
  okD (k := 2) (G := G_links_lead) F sc_links_lead (fun cdv A outer s H E hr => (pssd_cons (psd_for PassesOwn.never rfl (pid_tup (pd_var 0)) (pgd_name 1 sc_links_lead.nd)
      (pssd_cons (psd_for PassesOwn.never rfl (pid_list (pd_fn C_links hr (by decide) (pda_cons (pd_var 1) pda_nil))) (pgd_name 2 sc_links_lead.nd)
      (pssd_cons (psd_if (ptd_cmp op_ge op2_ge (pd_var 2) (pd_len T.b_len (pda_cons (pd_var 0) pda_nil)))
      (pssd_cons (psd_ret pd_bl)
      pssd_nil)
      pssd_nil)
      pssd_nil))
      pssd_nil))
      (pssd_cons (psd_ret pd_bl)
      pssd_nil))) (fun ds d h => mkF_ok h)
theorem sc_pair_names : FnScope ["part"] ["part"] (defScope (top 22)) := ⟨rfl, rfl, rfl, by decide +kernel, rfl, by decide +kernel, by decide +kernel⟩
set_option maxHeartbeats 0 in
theorem ok_pair_names {fa : Addr} {fd : FuncData} (F : Fun K "pair_names" "pair_names" (top 22) fa fd) (T : Txt mg)  : FnOk P w K mg base CX0 1 fa fd ["part"] (spD K m_pair_names) :=
  okD (k := 0) (G := G_pair_names) F sc_pair_names (fun cdv A outer s H E hr => (pssd_cons (psd_if (PWD.pt (pwd_or (ptd_cmp op_eq op2_eq (pd_ix' (pd_var 0) pd_int) pd_str) (pwd_or1 (ptd_cmp op_eq op2_eq (pd_ix' (pd_var 0) pd_int) pd_str))))
      (pssd_cons (psd_ret (pd_lst pda_nil))
      pssd_nil)
      pssd_nil)
      (pssd_cons (psd_ret (pd_cmpD (sc := defScope (top 22)) (N := ["part"]) (N' := ["pair"]) (n := 1) (caps := []) ⟨rfl, by decide +kernel, by decide +kernel, by decide +kernel, by decide +kernel, rfl, by decide +kernel⟩ (by decide) (pid_tup (pd_ix' (pd_var 0) (pd_neg pd_int))) (fun cl s H ex => pgd_name 0 (by decide +kernel : (["pair"] : List Str).Nodup)) (fun cl s H ex => pfd_nil) (fun cl s H ex => (pd_ix' (pd_var 0) pd_int))))
      pssd_nil))) (fun ds d h => mkF_ok h)
theorem sc_count_names : FnScope ["web", "names", "part"] ["web"] (defScope (top 23)) := ⟨rfl, rfl, rfl, by decide +kernel, rfl, by decide +kernel, by decide +kernel⟩
set_option maxHeartbeats 0 in
theorem ok_count_names {fa : Addr} {fd : FuncData} (F : Fun K "count_names" "count_names" (top 23) fa fd) (T : Txt mg) (C_pair_names : FnD P w K mg base "pair_names" 1 ["part"] m_pair_names) : FnOk P w K mg base CX0 2 fa fd ["web"] (spD K m_count_names) :=
  okD (k := 1) (G := G_count_names) F sc_count_names (fun cdv A outer s H E hr => (pssd_cons (psd_own 1 (pdf_lst pda_nil) sc_count_names.nd)
      (pssd_cons (psd_for PassesOwn.never rfl (pid_tup (pd_var 0)) (pgd_name 2 sc_count_names.nd)
      (pssd_cons (psd_exprX (px_ext 1 (pd_fn C_pair_names hr (by decide) (pda_cons (pd_var 2) pda_nil))))
      (pssd_cons (psd_if (ptd_cmp op_eq op2_eq (pd_ix' (pd_var 2) pd_int) pd_str)
      (pssd_cons (psd_exprX (px_app 1 (pd_ix' (pd_var 2) pd_int)))
      pssd_nil)
      pssd_nil)
      pssd_nil)))
      (pssd_cons (psd_retB (pd_lenSet T.b_len T.b_set (pd_var 1)))
      pssd_nil)))) (fun ds d h => mkF_ok h)
theorem sc_values : FnScope ["part"] ["part"] (defScope (top 24)) := ⟨rfl, rfl, rfl, by decide +kernel, rfl, by decide +kernel, by decide +kernel⟩
set_option maxHeartbeats 0 in
theorem ok_values {fa : Addr} {fd : FuncData} (F : Fun K "values" "values" (top 24) fa fd) (T : Txt mg)  : FnOk P w K mg base CX0 1 fa fd ["part"] (spD K m_values) :=
  okD (k := 0) (G := G_values) F sc_values (fun cdv A outer s H E hr => (pssd_cons (psd_if (ptd_cmp op_eq op2_eq (pd_ix' (pd_var 0) pd_int) pd_str)
      (pssd_cons (psd_ret (pd_lst pda_nil))
      pssd_nil)
      pssd_nil)
      (pssd_cons (psd_if (ptd_cmp op_eq op2_eq (pd_ix' (pd_var 0) pd_int) pd_str)
      (pssd_cons (psd_ret (pd_callTy call_list_of fn_list T.b_list b_list (pda_cons (pd_ix' (pd_var 0) pd_int) pda_nil)))
      pssd_nil)
      pssd_nil)
      (pssd_cons (psd_ret (pd_cmpD (sc := defScope (top 24)) (N := ["part"]) (N' := ["pair"]) (n := 1) (caps := []) ⟨rfl, by decide +kernel, by decide +kernel, by decide +kernel, by decide +kernel, rfl, by decide +kernel⟩ (by decide) (pid_tup (pd_ix' (pd_var 0) (pd_neg pd_int))) (fun cl s H ex => pgd_name 0 (by decide +kernel : (["pair"] : List Str).Nodup)) (fun cl s H ex => pfd_nil) (fun cl s H ex => (pd_ix' (pd_var 0) pd_int))))
      pssd_nil)))) (fun ds d h => mkF_ok h)
theorem sc_with_values : FnScope ["part", "some", "pairs"] ["part", "some"] (defScope (top 25)) := ⟨rfl, rfl, rfl, by decide +kernel, rfl, by decide +kernel, by decide +kernel⟩
set_option maxHeartbeats 0 in
theorem ok_with_values {fa : Addr} {fd : FuncData} (F : Fun K "with_values" "with_values" (top 25) fa fd) (T : Txt mg) (C_pair_names : FnD P w K mg base "pair_names" 1 ["part"] m_pair_names) : FnOk P w K mg base CX0 2 fa fd ["part", "some"] (spD K m_with_values) :=
  okD (k := 1) (G := G_with_values) F sc_with_values (fun cdv A outer s H E hr => (pssd_cons (psd_if (ptd_cmp op_eq op2_eq (pd_ix' (pd_var 0) pd_int) pd_str)
      (pssd_cons (psd_ret (pd_var 0))
      pssd_nil)
      pssd_nil)
      (pssd_cons (psd_if (ptd_cmp op_eq op2_eq (pd_ix' (pd_var 0) pd_int) pd_str)
      (pssd_cons (psd_ret (pd_tup (pda_cons pd_str (pda_cons (pd_callTy call_tuple_of fn_tup T.b_tuple b_tuple (pda_cons (pd_var 1) pda_nil)) pda_nil))))
      pssd_nil)
      pssd_nil)
      (pssd_cons (psd_asg (pd_nestTT call_tuple_zip fn_tupZip T.b_tuple T.b_zip b_tuple b_zip (pda_cons (pd_fn C_pair_names hr (by decide) (pda_cons (pd_var 0) pda_nil)) (pda_cons (pd_var 1) pda_nil))) (pgd_name 2 sc_with_values.nd))
      (pssd_cons (psd_if (ptd_cmp op_eq op2_eq (pd_ix' (pd_var 0) pd_int) pd_str)
      (pssd_cons (psd_ret (pd_tup (pda_cons pd_str (pda_cons (pd_var 2) pda_nil))))
      pssd_nil)
      pssd_nil)
      (pssd_cons (psd_ret (pd_tup (pda_cons pd_str (pda_cons (pd_ix' (pd_var 0) pd_int) (pda_cons (pd_var 2) pda_nil)))))
      pssd_nil)))))) (fun ds d h => mkF_ok h)
theorem sc_links : FnScope ["part"] ["part"] (defScope (top 26)) := ⟨rfl, rfl, rfl, by decide +kernel, rfl, by decide +kernel, by decide +kernel⟩
set_option maxHeartbeats 0 in
theorem ok_links {fa : Addr} {fd : FuncData} (F : Fun K "links" "links" (top 26) fa fd) (T : Txt mg) (C_values : FnD P w K mg base "values" 1 ["part"] m_values) : FnOk P w K mg base CX0 2 fa fd ["part"] (spD K m_links) :=
  okD (k := 1) (G := G_links) F sc_links (fun cdv A outer s H E hr => (pssd_cons (psd_ret (pd_cmpD (sc := defScope (top 26)) (N := ["part"]) (N' := ["value"]) (n := 1) (caps := []) ⟨rfl, by decide +kernel, by decide +kernel, by decide +kernel, by decide +kernel, rfl, by decide +kernel⟩ (by decide) (pid_list (pd_fn C_values hr (by decide) (pda_cons (pd_var 0) pda_nil))) (fun cl s H ex => pgd_name 0 (by decide +kernel : (["value"] : List Str).Nodup)) (fun cl s H ex => (pfd_one (ptd_val (pd_isi okT_tuple b_tuple T.b_isinstance T.b_tuple (pd_var 0))))) (fun cl s H ex => (pd_ix' (pd_var 0) pd_int))))
      pssd_nil)) (fun ds d h => mkF_ok h)
theorem sc_met : FnScope ["web", "k"] ["web", "k"] (defScope (top 27)) := ⟨rfl, rfl, rfl, by decide +kernel, rfl, by decide +kernel, by decide +kernel⟩
set_option maxHeartbeats 0 in
theorem ok_met {fa : Addr} {fd : FuncData} {dV : Value} (F : FunV K "met" "met" (top 27) fa fd dV) (T : Txt mg) (C_met_but : FnN P w K mg base "met_but" 3 ["web", "k", "left"] m_met_but) : FnOk P w K mg base CX0 4 fa fd ["web", "k"] (spN K m_met) :=
  okNV (k := 3) (G := G_met) F sc_met (fun cdv A outer s H E hr => (pssd_cons (psd_retF (pdf_fn C_met_but hr (by decide) (pda_cons (pd_var 0) (pda_cons (pd_var 1) (pda_cons pd_dict0 pda_nil)))))
      pssd_nil)) (fun ds d h => mkN_ok h)
theorem sc_met_but : FnScope ["web", "k", "left", "order", "seen", "waiting", "part"] ["web", "k", "left"] (defScope (top 28)) := ⟨rfl, rfl, rfl, by decide +kernel, rfl, by decide +kernel, by decide +kernel⟩
set_option maxHeartbeats 0 in
theorem ok_met_but {fa : Addr} {fd : FuncData} (F : Fun K "met_but" "met_but" (top 28) fa fd) (T : Txt mg) (C_links : FnD P w K mg base "links" 2 ["part"] m_links) : FnOk P w K mg base CX0 3 fa fd ["web", "k", "left"] (spN K m_met_but) :=
  okN (k := 2) (G := G_met_but) F sc_met_but (fun cdv A outer s H E hr => (pssd_cons (psd_own 3 (pdf_lst pda_nil) sc_met_but.nd)
      (pssd_cons (psd_own 4 (pdf_dictOf T.b_dict b_dict (pd_var 2)) sc_met_but.nd)
      (pssd_cons (psd_own 5 (pdf_lst (pda_cons (pd_var 1) pda_nil)) sc_met_but.nd)
      (pssd_cons (psd_while 100000 PassesOwn.never (ptd_cmp op_gt op2_gt (pd_bor (pd_len T.b_len (pda_cons (pd_var 5) pda_nil))) pd_int)
      (pssd_cons (psd_asgX (px_pop 5) (ptg_of (pgd_name 6 sc_met_but.nd)))
      (pssd_cons (psd_if (ptd_bor (ptd_dnin (hu_of hr) (pd_var 6) (pd_var 4)))
      (pssd_cons (psd_asgX (px_pure pd_bl) (ptg_put 4 (hu_of hr) (pd_var 6)))
      (pssd_cons (psd_exprX (px_app 3 (pd_var 6)))
      (pssd_cons (psd_exprX (px_ext 5 (PDF.pd (pdf_revL T.b_list T.b_reversed (pd_fn C_links hr (by decide) (pda_cons (pd_ix' (pd_var 0) (pd_var 6)) pda_nil))))))
      pssd_nil)))
      pssd_nil)
      pssd_nil)))
      (pssd_cons (psd_retO 3)
      pssd_nil)))))) (fun ds d h => mkN_ok h)
theorem sc_relinked : FnScope ["part", "numbers", "some"] ["part", "numbers"] (defScope (top 29)) := ⟨rfl, rfl, rfl, by decide +kernel, rfl, by decide +kernel, by decide +kernel⟩
set_option maxHeartbeats 0 in
theorem ok_relinked {fa : Addr} {fd : FuncData} (F : Fun K "relinked" "relinked" (top 29) fa fd) (T : Txt mg) (C_values : FnD P w K mg base "values" 1 ["part"] m_values) (C_with_values : FnD P w K mg base "with_values" 2 ["part", "some"] m_with_values) : FnOk P w K mg base CX0 3 fa fd ["part", "numbers"] (spD K m_relinked) :=
  okD (k := 2) (G := G_relinked) F sc_relinked (fun cdv A outer s H E hr => (pssd_cons (psd_cmpD 2 sc_relinked.nd (sc := defScope (top 29)) (N := ["part", "numbers", "some"]) (N' := ["value", "numbers"]) (n := 1) (caps := [1]) ⟨rfl, by decide +kernel, by decide +kernel, by decide +kernel, by decide +kernel, rfl, by decide +kernel⟩ (by decide) (pid_list (pd_fn C_values hr (by decide) (pda_cons (pd_var 0) pda_nil))) (fun cl s H ex => pgd_name 0 (by decide +kernel : (["value", "numbers"] : List Str).Nodup)) (fun cl s H ex => pfd_nil) (fun cl s H ex => (pd_if (ptd_val (pd_isi okT_tuple b_tuple T.b_isinstance T.b_tuple (pd_var 0))) (pd_tup (pda_cons pd_str (pda_cons (pd_dget (hu_of hr) (pd_var 1) (pd_ix' (pd_var 0) pd_int)) pda_nil))) (pd_var 0))))
      (pssd_cons (psd_ret (pd_fn C_with_values hr (by decide) (pda_cons (pd_var 0) (pda_cons (pd_var 2) pda_nil))))
      pssd_nil))) (fun ds d h => mkF_ok h)
theorem sc_drawn : FnScope ["web", "k", "order", "numbers", "number", "part"] ["web", "k"] (defScope (top 30)) := ⟨rfl, rfl, rfl, by decide +kernel, rfl, by decide +kernel, by decide +kernel⟩
set_option maxHeartbeats 0 in
theorem ok_drawn {fa : Addr} {fd : FuncData} {dV : Value} (F : FunV K "drawn" "drawn" (top 30) fa fd dV) (T : Txt mg) (C_met : FnN P w K mg base "met" 4 ["web", "k"] m_met) (C_relinked : FnD P w K mg base "relinked" 3 ["part", "numbers"] m_relinked) : FnOk P w K mg base CX0 5 fa fd ["web", "k"] (spD K m_drawn) :=
  okDV (k := 4) (G := G_drawn) F sc_drawn (fun cdv A outer s H E hr => (pssd_cons (psd_asg (pd_fnN C_met hr (by decide) (pda_cons (pd_var 0) (pda_cons (pd_var 1) pda_nil))) (pgd_name 2 sc_drawn.nd))
      (pssd_cons (psd_own 3 pdf_dict0 sc_drawn.nd)
      (pssd_cons (psd_for PassesOwn.never rfl (pid_enum T.b_enumerate (pda_cons (pd_var 2) pda_nil)) (pgd_tup2 4 5 sc_drawn.nd (by decide))
      (pssd_cons (psd_asgX (px_pure (pd_var 4)) (ptg_put 3 (hu_of hr) (pd_var 5)))
      pssd_nil))
      (pssd_cons (psd_retB (pd_callTy call_tuple_of fn_tup T.b_tuple b_tuple (pda_cons (pd_cmpD (sc := defScope (top 30)) (N := ["web", "k", "order", "numbers", "number", "part"]) (N' := ["part", "web", "numbers"]) (n := 1) (caps := [0, 3]) ⟨rfl, by decide +kernel, by decide +kernel, by decide +kernel, by decide +kernel, rfl, by decide +kernel⟩ (by decide) (pid_list (pd_var 2)) (fun cl s H ex => pgd_name 0 (by decide +kernel : (["part", "web", "numbers"] : List Str).Nodup)) (fun cl s H ex => pfd_nil) (fun cl s H ex => (pd_fn C_relinked hr (by decide) (pda_cons (pd_ix' (pd_var 1) (pd_var 0)) (pda_cons (pd_var 2) pda_nil))))) pda_nil)))
      pssd_nil))))) (fun ds d h => mkF_ok h)
theorem sc__law_cell_at : FnScope ["_law_script", "_law_k"] ["_law_script", "_law_k"] (defScope (top 32)) := ⟨rfl, rfl, rfl, by decide +kernel, rfl, by decide +kernel, by decide +kernel⟩
set_option maxHeartbeats 0 in
theorem ok__law_cell_at {fa : Addr} {fd : FuncData} (F : Fun K "_law_cell_at" "_law_cell_at" (top 32) fa fd) (T : Txt mg)  : FnOk P w K mg base CX0 1 fa fd ["_law_script", "_law_k"] (spD K m__law_cell_at) :=
  okD (k := 0) (G := G__law_cell_at) F sc__law_cell_at (fun cdv A outer s H E hr => (pssd_cons (psd_if (ptd_cmp op_lt op2_lt (pd_var 1) (pd_len T.b_len (pda_cons (pd_var 0) pda_nil)))
      (pssd_cons (psd_ret (pd_ix' (pd_var 0) (pd_var 1)))
      pssd_nil)
      pssd_nil)
      (pssd_cons (psd_ret pd_int)
      pssd_nil))) (fun ds d h => mkF_ok h)
theorem sc__law_mixed : FnScope ["_law_script", "_law_k", "_law_a", "_law_b"] ["_law_script", "_law_k"] (defScope (top 33)) := ⟨rfl, rfl, rfl, by decide +kernel, rfl, by decide +kernel, by decide +kernel⟩
set_option maxHeartbeats 0 in
theorem ok__law_mixed {fa : Addr} {fd : FuncData} (F : Fun K "_law_mixed" "_law_mixed" (top 33) fa fd) (T : Txt mg) (C__law_cell_at : FnD P w K mg base "_law_cell_at" 1 ["_law_script", "_law_k"] m__law_cell_at) : FnOk P w K mg base CX0 2 fa fd ["_law_script", "_law_k"] (spD K m__law_mixed) :=
  okD (k := 1) (G := G__law_mixed) F sc__law_mixed (fun cdv A outer s H E hr => (pssd_cons (psd_asg (pd_mod (pd_fn C__law_cell_at hr (by decide) (pda_cons (pd_var 0) (pda_cons (pd_addA pd_int (pd_mulA pd_int (pd_var 1))) pda_nil))) pd_int) (pgd_name 2 sc__law_mixed.nd))
      (pssd_cons (psd_asg (pd_mod (pd_fn C__law_cell_at hr (by decide) (pda_cons (pd_var 0) (pda_cons (pd_addA pd_int (pd_mulA pd_int (pd_var 1))) pda_nil))) pd_int) (pgd_name 3 sc__law_mixed.nd))
      (pssd_cons (psd_ret (pd_mod (pd_addA (pd_addA (pd_addA (pd_mulA (pd_var 2) pd_int) (pd_mulA (pd_var 3) pd_int)) (pd_mulA (pd_mulA pd_int (pd_var 1)) (pd_var 1))) (pd_mulA pd_int (pd_var 1))) pd_int))
      pssd_nil)))) (fun ds d h => mkF_ok h)
theorem sc__law_value : FnScope ["_law_x", "_law_many"] ["_law_x", "_law_many"] (defScope (top 34)) := ⟨rfl, rfl, rfl, by decide +kernel, rfl, by decide +kernel, by decide +kernel⟩
set_option maxHeartbeats 0 in
theorem ok__law_value {fa : Addr} {fd : FuncData} (F : Fun K "_law_value" "_law_value" (top 34) fa fd) (T : Txt mg)  : FnOk P w K mg base CX0 1 fa fd ["_law_x", "_law_many"] (spD K m__law_value) :=
  okD (k := 0) (G := G__law_value) F sc__law_value (fun cdv A outer s H E hr => (pssd_cons (psd_if (ptd_cmp op_eq op2_eq (pd_mod (pd_var 0) pd_int) pd_int)
      (pssd_cons (psd_ret pd_non)
      pssd_nil)
      pssd_nil)
      (pssd_cons (psd_if (ptd_cmp op_eq op2_eq (pd_mod (pd_var 0) pd_int) pd_int)
      (pssd_cons (psd_ret (pd_ix' (pd_lst (pda_cons (pd_sub (pd_mod (pd_fdiv (pd_var 0) pd_int) pd_int) pd_int) (pda_cons (pd_addA (pd_pow pd_int pd_int) (pd_var 0)) pda_nil))) (pd_mod (pd_fdiv (pd_var 0) pd_int) pd_int)))
      pssd_nil)
      pssd_nil)
      (pssd_cons (psd_ret (pd_tup (pda_cons pd_str (pda_cons (pd_mod (pd_fdiv (pd_var 0) pd_int) (pd_var 1)) pda_nil))))
      pssd_nil)))) (fun ds d h => mkF_ok h)
theorem sc__law_part : FnScope ["_law_x", "_law_many", "_law_n", "_law_some", "_law_pairs"] ["_law_x", "_law_many"] (defScope (top 35)) := ⟨rfl, rfl, rfl, by decide +kernel, rfl, by decide +kernel, by decide +kernel⟩
set_option maxHeartbeats 0 in
theorem ok__law_part {fa : Addr} {fd : FuncData} (F : Fun K "_law_part" "_law_part" (top 35) fa fd) (T : Txt mg) (C__law_value : FnD P w K mg base "_law_value" 1 ["_law_x", "_law_many"] m__law_value) : FnOk P w K mg base CX0 2 fa fd ["_law_x", "_law_many"] (spD K m__law_part) :=
  okD (k := 1) (G := G__law_part) F sc__law_part (fun cdv A outer s H E hr => (pssd_cons (psd_asg (pd_mod (pd_fdiv (pd_var 0) pd_int) pd_int) (pgd_name 2 sc__law_part.nd))
      (pssd_cons (psd_if (ptd_cmp op_eq op2_eq (pd_mod (pd_fdiv (pd_var 0) pd_int) pd_int) pd_int)
      (pssd_cons (psd_asg pd_int (pgd_name 2 sc__law_part.nd))
      pssd_nil)
      pssd_nil)
      (pssd_cons (psd_asg (pd_cmpD (sc := defScope (top 35)) (N := ["_law_x", "_law_many", "_law_n", "_law_some", "_law_pairs"]) (N' := ["_law_j", "_law_x", "_law_many"]) (n := 1) (caps := [0, 1]) ⟨rfl, by decide +kernel, by decide +kernel, by decide +kernel, by decide +kernel, rfl, by decide +kernel⟩ (by decide) (pid_range1 T.b_range (pda_cons (pd_var 2) pda_nil)) (fun cl s H ex => pgd_name 0 (by decide +kernel : (["_law_j", "_law_x", "_law_many"] : List Str).Nodup)) (fun cl s H ex => pfd_nil) (fun cl s H ex => (pd_fn C__law_value hr (by decide) (pda_cons (pd_addA (pd_fdiv (pd_var 1) (pd_addA (pd_var 0) pd_int)) (pd_mulA (pd_mulA pd_int (pd_var 0)) (pd_var 0))) (pda_cons (pd_var 2) pda_nil))))) (pgd_name 3 sc__law_part.nd))
      (pssd_cons (psd_asg (pd_callTy call_tuple_of fn_tup T.b_tuple b_tuple (pda_cons (pd_cmpD (sc := defScope (top 35)) (N := ["_law_x", "_law_many", "_law_n", "_law_some", "_law_pairs"]) (N' := ["_law_j", "_law_x", "_law_some"]) (n := 1) (caps := [0, 3]) ⟨rfl, by decide +kernel, by decide +kernel, by decide +kernel, by decide +kernel, rfl, by decide +kernel⟩ (by decide) (pid_range1 T.b_range (pda_cons (pd_var 2) pda_nil)) (fun cl s H ex => pgd_name 0 (by decide +kernel : (["_law_j", "_law_x", "_law_some"] : List Str).Nodup)) (fun cl s H ex => pfd_nil) (fun cl s H ex => (pd_tup (pda_cons (pd_addA pd_str (pd_callTy call_str_int fn_str T.b_str b_str (pda_cons (pd_mod (pd_addA (pd_fdiv (pd_var 1) pd_int) (pd_var 0)) pd_int) pda_nil))) (pda_cons (pd_ix' (pd_var 2) (pd_var 0)) pda_nil))))) pda_nil)) (pgd_name 4 sc__law_part.nd))
      (pssd_cons (psd_if (PWD.pt (pwd_and (ptd_cmp op_eq op2_eq (pd_mod (pd_var 0) pd_int) pd_int) (pwd_and1 (ptd_cmp op_eq op2_eq (pd_mod (pd_fdiv (pd_var 0) pd_int) pd_int) pd_int))))
      (pssd_cons (psd_ret (pd_tup (pda_cons pd_str (pda_cons (pd_sliceA (pd_mulA pd_str pd_int) pdo_none (pdo_some (pd_mod (pd_fdiv (pd_var 0) pd_int) pd_int))) pda_nil))))
      pssd_nil)
      pssd_nil)
      (pssd_cons (psd_if (ptd_cmp op_eq op2_eq (pd_mod (pd_var 0) pd_int) pd_int)
      (pssd_cons (psd_ret (pd_tup (pda_cons pd_str (pda_cons (pd_var 4) pda_nil))))
      pssd_nil)
      pssd_nil)
      (pssd_cons (psd_if (ptd_cmp op_eq op2_eq (pd_mod (pd_var 0) pd_int) pd_int)
      (pssd_cons (psd_ret (pd_tup (pda_cons pd_str (pda_cons (pd_addA pd_str (pd_callTy call_str_int fn_str T.b_str b_str (pda_cons (pd_mod (pd_var 0) pd_int) pda_nil))) (pda_cons (pd_var 4) pda_nil)))))
      pssd_nil)
      pssd_nil)
      (pssd_cons (psd_ret (pd_tup (pda_cons pd_str (pda_cons (pd_callTy call_tuple_of fn_tup T.b_tuple b_tuple (pda_cons (pd_var 3) pda_nil)) pda_nil))))
      pssd_nil))))))))) (fun ds d h => mkF_ok h)
theorem sc__law_web : FnScope ["_law_script", "_law_first", "_law_many"] ["_law_script"] (defScope (top 36)) := ⟨rfl, rfl, rfl, by decide +kernel, rfl, by decide +kernel, by decide +kernel⟩
set_option maxHeartbeats 0 in
theorem ok__law_web {fa : Addr} {fd : FuncData} (F : Fun K "_law_web" "_law_web" (top 36) fa fd) (T : Txt mg) (C__law_cell_at : FnD P w K mg base "_law_cell_at" 1 ["_law_script", "_law_k"] m__law_cell_at) (C__law_mixed : FnD P w K mg base "_law_mixed" 2 ["_law_script", "_law_k"] m__law_mixed) (C__law_part : FnD P w K mg base "_law_part" 2 ["_law_x", "_law_many"] m__law_part) : FnOk P w K mg base CX0 3 fa fd ["_law_script"] (spD K m__law_web) :=
  okD (k := 2) (G := G__law_web) F sc__law_web (fun cdv A outer s H E hr => (pssd_cons (psd_asg (pd_mod (pd_fn C__law_cell_at hr (by decide) (pda_cons (pd_var 0) (pda_cons pd_int pda_nil))) pd_int) (pgd_name 1 sc__law_web.nd))
      (pssd_cons (psd_asg (pd_addA pd_int (pd_mod (pd_fdiv (pd_var 1) pd_int) pd_int)) (pgd_name 2 sc__law_web.nd))
      (pssd_cons (psd_if (ptd_cmp op_eq op2_eq (pd_mod (pd_fdiv (pd_var 1) pd_int) pd_int) pd_int)
      (pssd_cons (psd_asg (pd_addA pd_int (pd_mod (pd_fdiv (pd_var 1) pd_int) pd_int)) (pgd_name 2 sc__law_web.nd))
      pssd_nil)
      pssd_nil)
      (pssd_cons (psd_ret (pd_callTy call_tuple_of fn_tup T.b_tuple b_tuple (pda_cons (pd_cmpD (sc := defScope (top 36)) (N := ["_law_script", "_law_first", "_law_many"]) (N' := ["_law_k", "_law_script", "_law_many"]) (n := 1) (caps := [0, 2]) ⟨rfl, by decide +kernel, by decide +kernel, by decide +kernel, by decide +kernel, rfl, by decide +kernel⟩ (by decide) (pid_range1 T.b_range (pda_cons (pd_var 2) pda_nil)) (fun cl s H ex => pgd_name 0 (by decide +kernel : (["_law_k", "_law_script", "_law_many"] : List Str).Nodup)) (fun cl s H ex => pfd_nil) (fun cl s H ex => (pd_fn C__law_part hr (by decide) (pda_cons (pd_fn C__law_mixed hr (by decide) (pda_cons (pd_var 1) (pda_cons (pd_var 0) pda_nil))) (pda_cons (pd_var 2) pda_nil))))) pda_nil)))
      pssd_nil))))) (fun ds d h => mkF_ok h)
theorem sc__law_led_value : FnScope ["_law_value_here", "_law_places"] ["_law_value_here", "_law_places"] (defScope (top 37)) := ⟨rfl, rfl, rfl, by decide +kernel, rfl, by decide +kernel, by decide +kernel⟩
set_option maxHeartbeats 0 in
theorem ok__law_led_value {fa : Addr} {fd : FuncData} (F : Fun K "_law_led_value" "_law_led_value" (top 37) fa fd) (T : Txt mg)  : FnOk P w K mg base CX0 1 fa fd ["_law_value_here", "_law_places"] (spD K m__law_led_value) :=
  okD (k := 0) (G := G__law_led_value) F sc__law_led_value (fun cdv A outer s H E hr => (pssd_cons (psd_if (ptd_val (pd_isi okT_tuple b_tuple T.b_isinstance T.b_tuple (pd_var 0)))
      (pssd_cons (psd_ret (pd_tup (pda_cons pd_str (pda_cons (pd_dget (hu_of hr) (pd_var 1) (pd_ix' (pd_var 0) pd_int)) pda_nil))))
      pssd_nil)
      pssd_nil)
      (pssd_cons (psd_ret (pd_var 0))
      pssd_nil))) (fun ds d h => mkF_ok h)
theorem sc__law_led : FnScope ["_law_part_here", "_law_places", "_law_pairs"] ["_law_part_here", "_law_places"] (defScope (top 38)) := ⟨rfl, rfl, rfl, by decide +kernel, rfl, by decide +kernel, by decide +kernel⟩
set_option maxHeartbeats 0 in
theorem ok__law_led {fa : Addr} {fd : FuncData} (F : Fun K "_law_led" "_law_led" (top 38) fa fd) (T : Txt mg) (C__law_led_value : FnD P w K mg base "_law_led_value" 1 ["_law_value_here", "_law_places"] m__law_led_value) : FnOk P w K mg base CX0 2 fa fd ["_law_part_here", "_law_places"] (spD K m__law_led) :=
  okD (k := 1) (G := G__law_led) F sc__law_led (fun cdv A outer s H E hr => (pssd_cons (psd_if (ptd_cmp op_eq op2_eq (pd_ix' (pd_var 0) pd_int) pd_str)
      (pssd_cons (psd_ret (pd_var 0))
      pssd_nil)
      pssd_nil)
      (pssd_cons (psd_if (ptd_cmp op_eq op2_eq (pd_ix' (pd_var 0) pd_int) pd_str)
      (pssd_cons (psd_ret (pd_tup (pda_cons pd_str (pda_cons (pd_callTy call_tuple_of fn_tup T.b_tuple b_tuple (pda_cons (pd_cmpD (sc := defScope (top 38)) (N := ["_law_part_here", "_law_places", "_law_pairs"]) (N' := ["_law_value_here", "_law_places"]) (n := 1) (caps := [1]) ⟨rfl, by decide +kernel, by decide +kernel, by decide +kernel, by decide +kernel, rfl, by decide +kernel⟩ (by decide) (pid_tup (pd_ix' (pd_var 0) pd_int)) (fun cl s H ex => pgd_name 0 (by decide +kernel : (["_law_value_here", "_law_places"] : List Str).Nodup)) (fun cl s H ex => pfd_nil) (fun cl s H ex => (pd_fn C__law_led_value hr (by decide) (pda_cons (pd_var 0) (pda_cons (pd_var 1) pda_nil))))) pda_nil)) pda_nil))))
      pssd_nil)
      pssd_nil)
      (pssd_cons (psd_cmpD 2 sc__law_led.nd (sc := defScope (top 38)) (N := ["_law_part_here", "_law_places", "_law_pairs"]) (N' := ["_law_name", "_law_value_here", "_law_places"]) (n := 2) (caps := [1]) ⟨rfl, by decide +kernel, by decide +kernel, by decide +kernel, by decide +kernel, rfl, by decide +kernel⟩ (by decide) (pid_tup (pd_ix' (pd_var 0) (pd_neg pd_int))) (fun cl s H ex => pgd_tup2 0 1 (by decide +kernel : (["_law_name", "_law_value_here", "_law_places"] : List Str).Nodup) (by decide)) (fun cl s H ex => pfd_nil) (fun cl s H ex => (pd_tup (pda_cons (pd_var 0) (pda_cons (pd_fn C__law_led_value hr (by decide) (pda_cons (pd_var 1) (pda_cons (pd_var 2) pda_nil))) pda_nil)))))
      (pssd_cons (psd_ret (pd_addA (pd_sliceA (pd_var 0) pdo_none (pdo_some (pd_neg pd_int))) (pd_tup (pda_cons (pd_callTy call_tuple_of fn_tup T.b_tuple b_tuple (pda_cons (pd_var 2) pda_nil)) pda_nil))))
      pssd_nil))))) (fun ds d h => mkF_ok h)
theorem sc__law_goals : FnScope ["_law_part_here", "_law_some"] ["_law_part_here"] (defScope (top 39)) := ⟨rfl, rfl, rfl, by decide +kernel, rfl, by decide +kernel, by decide +kernel⟩
set_option maxHeartbeats 0 in
theorem ok__law_goals {fa : Addr} {fd : FuncData} (F : Fun K "_law_goals" "_law_goals" (top 39) fa fd) (T : Txt mg)  : FnOk P w K mg base CX0 1 fa fd ["_law_part_here"] (spN K m__law_goals) :=
  okN (k := 0) (G := G__law_goals) F sc__law_goals (fun cdv A outer s H E hr => (pssd_cons (psd_if (ptd_cmp op_eq op2_eq (pd_ix' (pd_var 0) pd_int) pd_str)
      (pssd_cons (psd_retF (pdf_lst pda_nil))
      pssd_nil)
      pssd_nil)
      (pssd_cons (psd_asg (pd_ix' (pd_var 0) (pd_neg pd_int)) (pgd_name 1 sc__law_goals.nd))
      (pssd_cons (psd_if (ptd_cmp op_ne op2_ne (pd_ix' (pd_var 0) pd_int) pd_str)
      (pssd_cons (psd_cmpD 1 sc__law_goals.nd (sc := defScope (top 39)) (N := ["_law_part_here", "_law_some"]) (N' := ["_law_name", "_law_value_here"]) (n := 2) (caps := []) ⟨rfl, by decide +kernel, by decide +kernel, by decide +kernel, by decide +kernel, rfl, by decide +kernel⟩ (by decide) (pid_tup (pd_ix' (pd_var 0) (pd_neg pd_int))) (fun cl s H ex => pgd_tup2 0 1 (by decide +kernel : (["_law_name", "_law_value_here"] : List Str).Nodup) (by decide)) (fun cl s H ex => pfd_nil) (fun cl s H ex => (pd_var 1)))
      pssd_nil)
      pssd_nil)
      (pssd_cons (psd_retF (pdf_cmpD (sc := defScope (top 39)) (N := ["_law_part_here", "_law_some"]) (N' := ["_law_value_here"]) (n := 1) (caps := []) ⟨rfl, by decide +kernel, by decide +kernel, by decide +kernel, by decide +kernel, rfl, by decide +kernel⟩ (by decide) (pid_any (pd_var 1)) (fun cl s H ex => pgd_name 0 (by decide +kernel : (["_law_value_here"] : List Str).Nodup)) (fun cl s H ex => (pfd_one (ptd_val (pd_isi okT_tuple b_tuple T.b_isinstance T.b_tuple (pd_var 0))))) (fun cl s H ex => (pd_ix' (pd_var 0) pd_int))))
      pssd_nil))))) (fun ds d h => mkN_ok h)
theorem sc__law_order : FnScope ["_law_web_here", "_law_start", "_law_order_here", "_law_pile", "_law_at", "_law_next_one", "_law_goals_here"] ["_law_web_here", "_law_start"] (defScope (top 40)) := ⟨rfl, rfl, rfl, by decide +kernel, rfl, by decide +kernel, by decide +kernel⟩
set_option maxHeartbeats 0 in
theorem ok__law_order {fa : Addr} {fd : FuncData} (F : Fun K "_law_order" "_law_order" (top 40) fa fd) (T : Txt mg) (C__law_goals : FnN P w K mg base "_law_goals" 1 ["_law_part_here"] m__law_goals) : FnOk P w K mg base CX0 2 fa fd ["_law_web_here", "_law_start"] (spN K m__law_order) :=
  okN (k := 1) (G := G__law_order) F sc__law_order (fun cdv A outer s H E hr => (pssd_cons (psd_own 2 (pdf_lst (pda_cons (pd_var 1) pda_nil)) sc__law_order.nd)
      (pssd_cons (psd_own 3 (pdf_lst (pda_cons (pd_tup (pda_cons (pd_var 1) (pda_cons pd_int pda_nil))) pda_nil)) sc__law_order.nd)
      (pssd_cons (psd_while 100000 PassesOwn.never (ptd_cmp op_gt op2_gt (pd_bor (pd_len T.b_len (pda_cons (pd_var 3) pda_nil))) pd_int)
      (pssd_cons (psd_asgX (px_pop 3) (ptg_of (pgd_tup2 4 5 sc__law_order.nd (by decide))))
      (pssd_cons (psd_asg (pd_fnN C__law_goals hr (by decide) (pda_cons (pd_ix' (pd_var 0) (pd_var 4)) pda_nil)) (pgd_name 6 sc__law_order.nd))
      (pssd_cons (psd_if (ptd_cmp op_lt op2_lt (pd_var 5) (pd_len T.b_len (pda_cons (pd_var 6) pda_nil)))
      (pssd_cons (psd_exprX (px_app 3 (pd_tup (pda_cons (pd_var 4) (pda_cons (pd_addA (pd_var 5) pd_int) pda_nil)))))
      (pssd_cons (psd_if (ptd_bor (ptd_cmp op_notIn_seq (op2_inSeq true) (pd_ix' (pd_var 6) (pd_var 5)) (pd_var 2)))
      (pssd_cons (psd_exprX (px_app 2 (pd_ix' (pd_var 6) (pd_var 5))))
      (pssd_cons (psd_exprX (px_app 3 (pd_tup (pda_cons (pd_ix' (pd_var 6) (pd_var 5)) (pda_cons pd_int pda_nil)))))
      pssd_nil))
      pssd_nil)
      pssd_nil))
      pssd_nil)
      pssd_nil))))
      (pssd_cons (psd_retO 2)
      pssd_nil))))) (fun ds d h => mkN_ok h)
theorem sc__law_due : FnScope ["_law_web_here", "_law_start", "_law_order_here", "_law_places", "_law_k"] ["_law_web_here", "_law_start"] (defScope (top 41)) := ⟨rfl, rfl, rfl, by decide +kernel, rfl, by decide +kernel, by decide +kernel⟩
set_option maxHeartbeats 0 in
theorem ok__law_due {fa : Addr} {fd : FuncData} (F : Fun K "_law_due" "_law_due" (top 41) fa fd) (T : Txt mg) (C__law_led : FnD P w K mg base "_law_led" 2 ["_law_part_here", "_law_places"] m__law_led) (C__law_order : FnN P w K mg base "_law_order" 2 ["_law_web_here", "_law_start"] m__law_order) : FnOk P w K mg base CX0 3 fa fd ["_law_web_here", "_law_start"] (spD K m__law_due) :=
  okD (k := 2) (G := G__law_due) F sc__law_due (fun cdv A outer s H E hr => (pssd_cons (psd_asg (pd_fnN C__law_order hr (by decide) (pda_cons (pd_var 0) (pda_cons (pd_var 1) pda_nil))) (pgd_name 2 sc__law_due.nd))
      (pssd_cons (psd_own 3 pdf_dict0 sc__law_due.nd)
      (pssd_cons (psd_for PassesOwn.never rfl (pid_range1 T.b_range (pda_cons (pd_len T.b_len (pda_cons (pd_var 2) pda_nil)) pda_nil)) (pgd_name 4 sc__law_due.nd)
      (pssd_cons (psd_asgX (px_pure (pd_var 4)) (ptg_put 3 (hu_of hr) (pd_ix' (pd_var 2) (pd_var 4))))
      pssd_nil))
      (pssd_cons (psd_retB (pd_callTy call_tuple_of fn_tup T.b_tuple b_tuple (pda_cons (pd_cmpD (sc := defScope (top 41)) (N := ["_law_web_here", "_law_start", "_law_order_here", "_law_places", "_law_k"]) (N' := ["_law_at", "_law_web_here", "_law_places"]) (n := 1) (caps := [0, 3]) ⟨rfl, by decide +kernel, by decide +kernel, by decide +kernel, by decide +kernel, rfl, by decide +kernel⟩ (by decide) (pid_list (pd_var 2)) (fun cl s H ex => pgd_name 0 (by decide +kernel : (["_law_at", "_law_web_here", "_law_places"] : List Str).Nodup)) (fun cl s H ex => pfd_nil) (fun cl s H ex => (pd_fn C__law_led hr (by decide) (pda_cons (pd_ix' (pd_var 1) (pd_var 0)) (pda_cons (pd_var 2) pda_nil))))) pda_nil)))
      pssd_nil))))) (fun ds d h => mkF_ok h)
theorem sc__law_shuffled : FnScope ["_law_web_here", "_law_x", "_law_many", "_law_whole", "_law_left", "_law_places", "_law_k", "_law_parts"] ["_law_web_here", "_law_x"] (defScope (top 42)) := ⟨rfl, rfl, rfl, by decide +kernel, rfl, by decide +kernel, by decide +kernel⟩
set_option maxHeartbeats 0 in
theorem ok__law_shuffled {fa : Addr} {fd : FuncData} (F : Fun K "_law_shuffled" "_law_shuffled" (top 42) fa fd) (T : Txt mg) (C__law_led : FnD P w K mg base "_law_led" 2 ["_law_part_here", "_law_places"] m__law_led) : FnOk P w K mg base CX0 3 fa fd ["_law_web_here", "_law_x"] (spD K m__law_shuffled) :=
  okD (k := 2) (G := G__law_shuffled) F sc__law_shuffled (fun cdv A outer s H E hr => (pssd_cons (psd_asg (pd_len T.b_len (pda_cons (pd_var 0) pda_nil)) (pgd_name 2 sc__law_shuffled.nd))
      (pssd_cons (psd_asg (pd_callB (call_min2 rfl) fn_min T.b_min b_min (pda_cons pd_int (pda_cons (pd_addA (pd_var 2) (pd_mod (pd_var 1) pd_int)) pda_nil))) (pgd_name 3 sc__law_shuffled.nd))
      (pssd_cons (psd_own 4 (pdf_lrange T.b_list T.b_range (pda_cons (pd_var 3) pda_nil)) sc__law_shuffled.nd)
      (pssd_cons (psd_own 5 pdf_dict0 sc__law_shuffled.nd)
      (pssd_cons (psd_for PassesOwn.never rfl (pid_range1 T.b_range (pda_cons (pd_var 2) pda_nil)) (pgd_name 6 sc__law_shuffled.nd)
      (pssd_cons (psd_asgX (px_popAt 4 (pd_mod (pd_fdiv (pd_var 1) (pd_addA (pd_var 6) pd_int)) (pd_bor (pd_len T.b_len (pda_cons (pd_var 4) pda_nil))))) (ptg_put 5 (hu_of hr) (pd_var 6)))
      pssd_nil))
      (pssd_cons (psd_ownCmp 7 sc__law_shuffled.nd (sc := defScope (top 42)) (N := ["_law_web_here", "_law_x", "_law_many", "_law_whole", "_law_left", "_law_places", "_law_k", "_law_parts"]) (N' := ["_law_j", "_law_x", "_law_whole"]) (n := 1) (caps := [1, 3]) ⟨rfl, by decide +kernel, by decide +kernel, by decide +kernel, by decide +kernel, rfl, by decide +kernel⟩ (by decide) (pid_range1 T.b_range (pda_cons (pd_var 3) pda_nil)) (fun cl s H ex => pgd_name 0 (by decide +kernel : (["_law_j", "_law_x", "_law_whole"] : List Str).Nodup)) (fun cl s H ex => pfd_nil) (fun cl s H ex => (pd_tup (pda_cons pd_str (pda_cons (pd_tup (pda_cons (pd_tup (pda_cons pd_str (pda_cons (pd_mod (pd_addA (pd_var 1) (pd_var 0)) (pd_var 2)) pda_nil))) (pda_cons (pd_var 0) pda_nil))) pda_nil)))))
      (pssd_cons (psd_for PassesOwn.never rfl (pid_range1 T.b_range (pda_cons (pd_var 2) pda_nil)) (pgd_name 6 sc__law_shuffled.nd)
      (pssd_cons (psd_asgX (px_pure (pd_borT (pd_fn C__law_led hr (by decide) (pda_cons (pd_ix' (pd_var 0) (pd_var 6)) (pda_cons (pd_var 5) pda_nil))))) (ptg_set 7 (pd_bor (pd_dget (hu_of hr) (pd_var 5) (pd_var 6)))))
      pssd_nil))
      (pssd_cons (psd_retB (pd_tup (pda_cons (pd_callTy call_tuple_of fn_tup T.b_tuple b_tuple (pda_cons (pd_var 7) pda_nil)) (pda_cons (pd_var 5) pda_nil))))
      pssd_nil))))))))) (fun ds d h => mkF_ok h)
theorem sc_law : FnScope ["_law_script", "_law_web_here", "_law_first", "_law_start", "_law_due_here", "_law_found", "_law_other", "_law_places"] ["_law_script"] (defScope (top 43)) := ⟨rfl, rfl, rfl, by decide +kernel, rfl, by decide +kernel, by decide +kernel⟩
set_option maxHeartbeats 0 in
theorem ok_law {fa : Addr} {fd : FuncData} (F : Fun K "law" "law" (top 43) fa fd) (T : Txt mg) (C__law_cell_at : FnD P w K mg base "_law_cell_at" 1 ["_law_script", "_law_k"] m__law_cell_at) (C__law_due : FnD P w K mg base "_law_due" 3 ["_law_web_here", "_law_start"] m__law_due) (C__law_shuffled : FnD P w K mg base "_law_shuffled" 3 ["_law_web_here", "_law_x"] m__law_shuffled) (C__law_web : FnD P w K mg base "_law_web" 3 ["_law_script"] m__law_web) (C_drawn : FnD P w K mg base "drawn" 5 ["web", "k"] m_drawn) (C_is_web : FnD P w K mg base "is_web" 7 ["thing"] m_is_web) (Cd_drawn : FnDd P w K mg base "drawn" 5 ["web", "k"] m_drawn [(.int 0)]) (Cd_met : FnNd P w K mg base "met" 4 ["web", "k"] m_met [(.int 0)]) : FnOk P w K mg base CX0 8 fa fd ["_law_script"] (spD K m_law) :=
  okD (k := 7) (G := G_law) F sc_law (fun cdv A outer s H E hr => (pssd_cons (psd_asg (pd_fn C__law_web hr (by decide) (pda_cons (pd_var 0) pda_nil)) (pgd_name 1 sc_law.nd))
      (pssd_cons (psd_asg (pd_mod (pd_fn C__law_cell_at hr (by decide) (pda_cons (pd_var 0) (pda_cons pd_int pda_nil))) pd_int) (pgd_name 2 sc_law.nd))
      (pssd_cons (psd_for PassesOwn.never rfl (pid_tup (pd_tup (pda_cons pd_int (pda_cons (pd_mod (pd_var 2) (pd_len T.b_len (pda_cons (pd_var 1) pda_nil))) pda_nil)))) (pgd_name 3 sc_law.nd)
      (pssd_cons (psd_asg (pd_fn C__law_due hr (by decide) (pda_cons (pd_var 1) (pda_cons (pd_var 3) pda_nil))) (pgd_name 4 sc_law.nd))
      (pssd_cons (psd_asg (pd_fn C_drawn hr (by decide) (pda_cons (pd_var 1) (pda_cons (pd_var 3) pda_nil))) (pgd_name 5 sc_law.nd))
      (pssd_cons (psd_if (PWD.pt (pwd_or (ptd_not (ptd_val (pd_isi okT_tuple b_tuple T.b_isinstance T.b_tuple (pd_var 5)))) (pwd_or (ptd_cmp (op_neX hr.units) op2_neX (pd_var 5) (pd_var 4)) (pwd_or (ptd_not (ptd_val (pd_fn C_is_web hr (by decide) (pda_cons (pd_var 5) pda_nil)))) (pwd_or1 (ptd_cmp (op_neX hr.units) op2_neX (pd_fnd Cd_drawn hr (by decide) (pda_cons (pd_var 5) pda_nil)) (pd_var 4)))))))
      (pssd_cons (psd_ret pd_bl)
      pssd_nil)
      pssd_nil)
      (pssd_cons (psd_if (ptd_cmp (op_neX hr.units) op2_neX (pd_fnNd Cd_met hr (by decide) (pda_cons (pd_var 5) pda_nil)) (PDF.pd (pdf_lrange T.b_list T.b_range (pda_cons (pd_len T.b_len (pda_cons (pd_var 4) pda_nil)) pda_nil))))
      (pssd_cons (psd_ret pd_bl)
      pssd_nil)
      pssd_nil)
      (pssd_cons (psd_asgX (px_pure (pd_fn C__law_shuffled hr (by decide) (pda_cons (pd_var 1) (pda_cons (pd_fdiv (pd_var 2) pd_int) pda_nil)))) (ptg_of (pgd_tup2 6 7 sc_law.nd (by decide))))
      (pssd_cons (psd_if (PWD.pt (pwd_or (ptd_cmp (op_neX hr.units) op2_neX (pd_fn C_drawn hr (by decide) (pda_cons (pd_var 6) (pda_cons (pd_dget (hu_of hr) (pd_var 7) (pd_var 3)) pda_nil))) (pd_var 4)) (pwd_or1 (ptd_cmp (op_neX hr.units) op2_neX (pd_var 1) (pd_fn C__law_web hr (by decide) (pda_cons (pd_var 0) pda_nil))))))
      (pssd_cons (psd_ret pd_bl)
      pssd_nil)
      pssd_nil)
      pssd_nil)))))))
      (pssd_cons (psd_ret (pd_cmp (op_eqX hr.units) op2_eqX (pd_fnd Cd_drawn hr (by decide) (pda_cons (pd_var 1) pda_nil)) (pd_fn C__law_due hr (by decide) (pda_cons (pd_var 1) (pda_cons pd_int pda_nil)))))
      pssd_nil))))) (fun ds d h => mkF_ok h)
end
set_option maxHeartbeats 0 in
theorem all_mk {l : PySem.W.OpenLaw} {w : World} {K : PySem.W.Frag} {h : Heap} {mg : Str → Option Value} {fa : Addr} (X : K.In h) (G : h.Ns mainGlobals mg) (hfa : mg "law" = some (.ref fa))
    {f0 f1 f2 f3 f4 f5 f6 f7 f8 f9 f10 f11 f12 f13 f14 f15 f16 f17 f18 f19 f20 f21 f22 f23 f24 f25 f26 f27 f28 f29 f30 f31 f32 f33 f34 : Addr}
    {od0 an0 od1 an1 od2 an2 od3 an3 od4 an4 od5 an5 od6 an6 od7 an7 od8 an8 od9 an9 od10 an10 od11 an11 od12 an12 od13 an13 od14 an14 od15 an15 od16 an16 od17 an17 od18 an18 od19 an19 od20 an20 od21 an21 od22 an22 od23 an23 od24 an24 od25 an25 od26 an26 od27 an27 od28 an28 od29 an29 od30 an30 od31 an31 od32 an32 od33 an33 od34 an34 : Option Addr} {sl0 sl1 sl2 sl3 sl4 sl5 sl6 sl7 sl8 sl9 sl10 sl11 sl12 sl13 sl14 sl15 sl16 sl17 sl18 sl19 sl20 sl21 sl22 sl23 sl24 sl25 sl26 sl27 sl28 sl29 sl30 sl31 sl32 sl33 sl34 : Array (Option Value)} {oc0 kV0 dc0 pm0 cd0 ct0 oc1 kV1 dc1 pm1 cd1 ct1 oc2 kV2 dc2 pm2 cd2 ct2 oc3 kV3 dc3 pm3 cd3 ct3 oc4 kV4 dc4 pm4 cd4 ct4 oc5 kV5 dc5 pm5 cd5 ct5 oc6 kV6 dc6 pm6 cd6 ct6 oc7 kV7 dc7 pm7 cd7 ct7 oc8 kV8 dc8 pm8 cd8 ct8 oc9 kV9 dc9 pm9 cd9 ct9 oc10 kV10 dc10 pm10 cd10 ct10 oc11 kV11 dc11 pm11 cd11 ct11 oc12 kV12 dc12 pm12 cd12 ct12 oc13 kV13 dc13 pm13 cd13 ct13 oc14 kV14 dc14 pm14 cd14 ct14 oc15 kV15 dc15 pm15 cd15 ct15 oc16 kV16 dc16 pm16 cd16 ct16 oc17 kV17 dc17 pm17 cd17 ct17 oc18 kV18 dc18 pm18 cd18 ct18 oc19 kV19 dc19 pm19 cd19 ct19 oc20 kV20 dc20 pm20 cd20 ct20 oc21 kV21 dc21 pm21 cd21 ct21 oc22 kV22 dc22 pm22 cd22 ct22 oc23 kV23 dc23 pm23 cd23 ct23 oc24 kV24 dc24 pm24 cd24 ct24 oc25 kV25 dc25 pm25 cd25 ct25 oc26 kV26 dc26 pm26 cd26 ct26 oc27 kV27 dc27 pm27 cd27 ct27 oc28 kV28 dc28 pm28 cd28 ct28 oc29 kV29 dc29 pm29 cd29 ct29 oc30 kV30 dc30 pm30 cd30 ct30 oc31 kV31 dc31 pm31 cd31 ct31 oc32 kV32 dc32 pm32 cd32 ct32 oc33 kV33 dc33 pm33 cd33 ct33 oc34 kV34 dc34 pm34 cd34 ct34 : Value}
    {t_MOST_NAMES t_MOST_NAME_SIGNS t_MOST_PARTS t_MOST_VALUES t_MOST_WORD_SIGNS t_NAME_SIGNS t_WORD_SIGNS : Tok}
    (a0 : PySem.W.nsIn K mainGlobals "is_whole" = some (some (.ref f0))) (l0 : K.lookup f0 = some ⟨oc0, od0, .func (PySem.W.fnOf "is_whole" "is_whole" (defArgs (top 8)) (defBody (top 8)) (defScope (top 8)) .none kV0 dc0 pm0 an0 cd0 ct0), sl0⟩) (c0 : PySem.W.codeIn K cd0 "is_whole" = true) (k0 : PySem.W.keepIn K (.ref f0) = true)
    (a1 : PySem.W.nsIn K mainGlobals "is_spelled" = some (some (.ref f1))) (l1 : K.lookup f1 = some ⟨oc1, od1, .func (PySem.W.fnOf "is_spelled" "is_spelled" (defArgs (top 9)) (defBody (top 9)) (defScope (top 9)) .none kV1 dc1 pm1 an1 cd1 ct1), sl1⟩) (c1 : PySem.W.codeIn K cd1 "is_spelled" = true) (k1 : PySem.W.keepIn K (.ref f1) = true)
    (a2 : PySem.W.nsIn K mainGlobals "is_name" = some (some (.ref f2))) (l2 : K.lookup f2 = some ⟨oc2, od2, .func (PySem.W.fnOf "is_name" "is_name" (defArgs (top 10)) (defBody (top 10)) (defScope (top 10)) .none kV2 dc2 pm2 an2 cd2 ct2), sl2⟩) (c2 : PySem.W.codeIn K cd2 "is_name" = true) (k2 : PySem.W.keepIn K (.ref f2) = true)
    (a3 : PySem.W.nsIn K mainGlobals "is_word" = some (some (.ref f3))) (l3 : K.lookup f3 = some ⟨oc3, od3, .func (PySem.W.fnOf "is_word" "is_word" (defArgs (top 11)) (defBody (top 11)) (defScope (top 11)) .none kV3 dc3 pm3 an3 cd3 ct3), sl3⟩) (c3 : PySem.W.codeIn K cd3 "is_word" = true) (k3 : PySem.W.keepIn K (.ref f3) = true)
    (a4 : PySem.W.nsIn K mainGlobals "is_marked" = some (some (.ref f4))) (l4 : K.lookup f4 = some ⟨oc4, od4, .func (PySem.W.fnOf "is_marked" "is_marked" (defArgs (top 12)) (defBody (top 12)) (defScope (top 12)) .none kV4 dc4 pm4 an4 cd4 ct4), sl4⟩) (c4 : PySem.W.codeIn K cd4 "is_marked" = true) (k4 : PySem.W.keepIn K (.ref f4) = true)
    (a5 : PySem.W.nsIn K mainGlobals "is_link" = some (some (.ref f5))) (l5 : K.lookup f5 = some ⟨oc5, od5, .func (PySem.W.fnOf "is_link" "is_link" (defArgs (top 13)) (defBody (top 13)) (defScope (top 13)) .none kV5 dc5 pm5 an5 cd5 ct5), sl5⟩) (c5 : PySem.W.codeIn K cd5 "is_link" = true) (k5 : PySem.W.keepIn K (.ref f5) = true)
    (a6 : PySem.W.nsIn K mainGlobals "is_value" = some (some (.ref f6))) (l6 : K.lookup f6 = some ⟨oc6, od6, .func (PySem.W.fnOf "is_value" "is_value" (defArgs (top 14)) (defBody (top 14)) (defScope (top 14)) .none kV6 dc6 pm6 an6 cd6 ct6), sl6⟩) (c6 : PySem.W.codeIn K cd6 "is_value" = true) (k6 : PySem.W.keepIn K (.ref f6) = true)
    (a7 : PySem.W.nsIn K mainGlobals "is_tuple" = some (some (.ref f7))) (l7 : K.lookup f7 = some ⟨oc7, od7, .func (PySem.W.fnOf "is_tuple" "is_tuple" (defArgs (top 15)) (defBody (top 15)) (defScope (top 15)) .none kV7 dc7 pm7 an7 cd7 ct7), sl7⟩) (c7 : PySem.W.codeIn K cd7 "is_tuple" = true) (k7 : PySem.W.keepIn K (.ref f7) = true)
    (a8 : PySem.W.nsIn K mainGlobals "is_values" = some (some (.ref f8))) (l8 : K.lookup f8 = some ⟨oc8, od8, .func (PySem.W.fnOf "is_values" "is_values" (defArgs (top 16)) (defBody (top 16)) (defScope (top 16)) .none kV8 dc8 pm8 an8 cd8 ct8), sl8⟩) (c8 : PySem.W.codeIn K cd8 "is_values" = true) (k8 : PySem.W.keepIn K (.ref f8) = true)
    (a9 : PySem.W.nsIn K mainGlobals "is_pair" = some (some (.ref f9))) (l9 : K.lookup f9 = some ⟨oc9, od9, .func (PySem.W.fnOf "is_pair" "is_pair" (defArgs (top 17)) (defBody (top 17)) (defScope (top 17)) .none kV9 dc9 pm9 an9 cd9 ct9), sl9⟩) (c9 : PySem.W.codeIn K cd9 "is_pair" = true) (k9 : PySem.W.keepIn K (.ref f9) = true)
    (a10 : PySem.W.nsIn K mainGlobals "is_pairs" = some (some (.ref f10))) (l10 : K.lookup f10 = some ⟨oc10, od10, .func (PySem.W.fnOf "is_pairs" "is_pairs" (defArgs (top 18)) (defBody (top 18)) (defScope (top 18)) .none kV10 dc10 pm10 an10 cd10 ct10), sl10⟩) (c10 : PySem.W.codeIn K cd10 "is_pairs" = true) (k10 : PySem.W.keepIn K (.ref f10) = true)
    (a11 : PySem.W.nsIn K mainGlobals "is_part" = some (some (.ref f11))) (l11 : K.lookup f11 = some ⟨oc11, od11, .func (PySem.W.fnOf "is_part" "is_part" (defArgs (top 19)) (defBody (top 19)) (defScope (top 19)) .none kV11 dc11 pm11 an11 cd11 ct11), sl11⟩) (c11 : PySem.W.codeIn K cd11 "is_part" = true) (k11 : PySem.W.keepIn K (.ref f11) = true)
    (a12 : PySem.W.nsIn K mainGlobals "is_web" = some (some (.ref f12))) (l12 : K.lookup f12 = some ⟨oc12, od12, .func (PySem.W.fnOf "is_web" "is_web" (defArgs (top 20)) (defBody (top 20)) (defScope (top 20)) .none kV12 dc12 pm12 an12 cd12 ct12), sl12⟩) (c12 : PySem.W.codeIn K cd12 "is_web" = true) (k12 : PySem.W.keepIn K (.ref f12) = true)
    (a13 : PySem.W.nsIn K mainGlobals "links_lead" = some (some (.ref f13))) (l13 : K.lookup f13 = some ⟨oc13, od13, .func (PySem.W.fnOf "links_lead" "links_lead" (defArgs (top 21)) (defBody (top 21)) (defScope (top 21)) .none kV13 dc13 pm13 an13 cd13 ct13), sl13⟩) (c13 : PySem.W.codeIn K cd13 "links_lead" = true) (k13 : PySem.W.keepIn K (.ref f13) = true)
    (a14 : PySem.W.nsIn K mainGlobals "pair_names" = some (some (.ref f14))) (l14 : K.lookup f14 = some ⟨oc14, od14, .func (PySem.W.fnOf "pair_names" "pair_names" (defArgs (top 22)) (defBody (top 22)) (defScope (top 22)) .none kV14 dc14 pm14 an14 cd14 ct14), sl14⟩) (c14 : PySem.W.codeIn K cd14 "pair_names" = true) (k14 : PySem.W.keepIn K (.ref f14) = true)
    (a15 : PySem.W.nsIn K mainGlobals "count_names" = some (some (.ref f15))) (l15 : K.lookup f15 = some ⟨oc15, od15, .func (PySem.W.fnOf "count_names" "count_names" (defArgs (top 23)) (defBody (top 23)) (defScope (top 23)) .none kV15 dc15 pm15 an15 cd15 ct15), sl15⟩) (c15 : PySem.W.codeIn K cd15 "count_names" = true) (k15 : PySem.W.keepIn K (.ref f15) = true)
    (a16 : PySem.W.nsIn K mainGlobals "values" = some (some (.ref f16))) (l16 : K.lookup f16 = some ⟨oc16, od16, .func (PySem.W.fnOf "values" "values" (defArgs (top 24)) (defBody (top 24)) (defScope (top 24)) .none kV16 dc16 pm16 an16 cd16 ct16), sl16⟩) (c16 : PySem.W.codeIn K cd16 "values" = true) (k16 : PySem.W.keepIn K (.ref f16) = true)
    (a17 : PySem.W.nsIn K mainGlobals "with_values" = some (some (.ref f17))) (l17 : K.lookup f17 = some ⟨oc17, od17, .func (PySem.W.fnOf "with_values" "with_values" (defArgs (top 25)) (defBody (top 25)) (defScope (top 25)) .none kV17 dc17 pm17 an17 cd17 ct17), sl17⟩) (c17 : PySem.W.codeIn K cd17 "with_values" = true) (k17 : PySem.W.keepIn K (.ref f17) = true)
    (a18 : PySem.W.nsIn K mainGlobals "links" = some (some (.ref f18))) (l18 : K.lookup f18 = some ⟨oc18, od18, .func (PySem.W.fnOf "links" "links" (defArgs (top 26)) (defBody (top 26)) (defScope (top 26)) .none kV18 dc18 pm18 an18 cd18 ct18), sl18⟩) (c18 : PySem.W.codeIn K cd18 "links" = true) (k18 : PySem.W.keepIn K (.ref f18) = true)
    {T19 : Addr} {tc19 : Value} {td19 : Option Addr} {tn19 : Nat} {ts19 : Array (Option Value)} {tt19_0 : Tok}
    (a19 : PySem.W.nsIn K mainGlobals "met" = some (some (.ref f19))) (l19 : K.lookup f19 = some ⟨oc19, od19, .func (PySem.W.fnOf "met" "met" (defArgs (top 27)) (defBody (top 27)) (defScope (top 27)) (.ref T19) kV19 dc19 pm19 an19 cd19 ct19), sl19⟩) (c19 : PySem.W.codeIn K cd19 "met" = true) (k19 : PySem.W.keepIn K (.ref f19) = true)
    (t19 : K.lookup T19 = some ⟨tc19, td19, .seq #[.int 0 tt19_0] tn19, ts19⟩)
    (a20 : PySem.W.nsIn K mainGlobals "met_but" = some (some (.ref f20))) (l20 : K.lookup f20 = some ⟨oc20, od20, .func (PySem.W.fnOf "met_but" "met_but" (defArgs (top 28)) (defBody (top 28)) (defScope (top 28)) .none kV20 dc20 pm20 an20 cd20 ct20), sl20⟩) (c20 : PySem.W.codeIn K cd20 "met_but" = true) (k20 : PySem.W.keepIn K (.ref f20) = true)
    (a21 : PySem.W.nsIn K mainGlobals "relinked" = some (some (.ref f21))) (l21 : K.lookup f21 = some ⟨oc21, od21, .func (PySem.W.fnOf "relinked" "relinked" (defArgs (top 29)) (defBody (top 29)) (defScope (top 29)) .none kV21 dc21 pm21 an21 cd21 ct21), sl21⟩) (c21 : PySem.W.codeIn K cd21 "relinked" = true) (k21 : PySem.W.keepIn K (.ref f21) = true)
    {T22 : Addr} {tc22 : Value} {td22 : Option Addr} {tn22 : Nat} {ts22 : Array (Option Value)} {tt22_0 : Tok}
    (a22 : PySem.W.nsIn K mainGlobals "drawn" = some (some (.ref f22))) (l22 : K.lookup f22 = some ⟨oc22, od22, .func (PySem.W.fnOf "drawn" "drawn" (defArgs (top 30)) (defBody (top 30)) (defScope (top 30)) (.ref T22) kV22 dc22 pm22 an22 cd22 ct22), sl22⟩) (c22 : PySem.W.codeIn K cd22 "drawn" = true) (k22 : PySem.W.keepIn K (.ref f22) = true)
    (t22 : K.lookup T22 = some ⟨tc22, td22, .seq #[.int 0 tt22_0] tn22, ts22⟩)
    (a23 : PySem.W.nsIn K mainGlobals "_law_cell_at" = some (some (.ref f23))) (l23 : K.lookup f23 = some ⟨oc23, od23, .func (PySem.W.fnOf "_law_cell_at" "_law_cell_at" (defArgs (top 32)) (defBody (top 32)) (defScope (top 32)) .none kV23 dc23 pm23 an23 cd23 ct23), sl23⟩) (c23 : PySem.W.codeIn K cd23 "_law_cell_at" = true) (k23 : PySem.W.keepIn K (.ref f23) = true)
    (a24 : PySem.W.nsIn K mainGlobals "_law_mixed" = some (some (.ref f24))) (l24 : K.lookup f24 = some ⟨oc24, od24, .func (PySem.W.fnOf "_law_mixed" "_law_mixed" (defArgs (top 33)) (defBody (top 33)) (defScope (top 33)) .none kV24 dc24 pm24 an24 cd24 ct24), sl24⟩) (c24 : PySem.W.codeIn K cd24 "_law_mixed" = true) (k24 : PySem.W.keepIn K (.ref f24) = true)
    (a25 : PySem.W.nsIn K mainGlobals "_law_value" = some (some (.ref f25))) (l25 : K.lookup f25 = some ⟨oc25, od25, .func (PySem.W.fnOf "_law_value" "_law_value" (defArgs (top 34)) (defBody (top 34)) (defScope (top 34)) .none kV25 dc25 pm25 an25 cd25 ct25), sl25⟩) (c25 : PySem.W.codeIn K cd25 "_law_value" = true) (k25 : PySem.W.keepIn K (.ref f25) = true)
    (a26 : PySem.W.nsIn K mainGlobals "_law_part" = some (some (.ref f26))) (l26 : K.lookup f26 = some ⟨oc26, od26, .func (PySem.W.fnOf "_law_part" "_law_part" (defArgs (top 35)) (defBody (top 35)) (defScope (top 35)) .none kV26 dc26 pm26 an26 cd26 ct26), sl26⟩) (c26 : PySem.W.codeIn K cd26 "_law_part" = true) (k26 : PySem.W.keepIn K (.ref f26) = true)
    (a27 : PySem.W.nsIn K mainGlobals "_law_web" = some (some (.ref f27))) (l27 : K.lookup f27 = some ⟨oc27, od27, .func (PySem.W.fnOf "_law_web" "_law_web" (defArgs (top 36)) (defBody (top 36)) (defScope (top 36)) .none kV27 dc27 pm27 an27 cd27 ct27), sl27⟩) (c27 : PySem.W.codeIn K cd27 "_law_web" = true) (k27 : PySem.W.keepIn K (.ref f27) = true)
    (a28 : PySem.W.nsIn K mainGlobals "_law_led_value" = some (some (.ref f28))) (l28 : K.lookup f28 = some ⟨oc28, od28, .func (PySem.W.fnOf "_law_led_value" "_law_led_value" (defArgs (top 37)) (defBody (top 37)) (defScope (top 37)) .none kV28 dc28 pm28 an28 cd28 ct28), sl28⟩) (c28 : PySem.W.codeIn K cd28 "_law_led_value" = true) (k28 : PySem.W.keepIn K (.ref f28) = true)
    (a29 : PySem.W.nsIn K mainGlobals "_law_led" = some (some (.ref f29))) (l29 : K.lookup f29 = some ⟨oc29, od29, .func (PySem.W.fnOf "_law_led" "_law_led" (defArgs (top 38)) (defBody (top 38)) (defScope (top 38)) .none kV29 dc29 pm29 an29 cd29 ct29), sl29⟩) (c29 : PySem.W.codeIn K cd29 "_law_led" = true) (k29 : PySem.W.keepIn K (.ref f29) = true)
    (a30 : PySem.W.nsIn K mainGlobals "_law_goals" = some (some (.ref f30))) (l30 : K.lookup f30 = some ⟨oc30, od30, .func (PySem.W.fnOf "_law_goals" "_law_goals" (defArgs (top 39)) (defBody (top 39)) (defScope (top 39)) .none kV30 dc30 pm30 an30 cd30 ct30), sl30⟩) (c30 : PySem.W.codeIn K cd30 "_law_goals" = true) (k30 : PySem.W.keepIn K (.ref f30) = true)
    (a31 : PySem.W.nsIn K mainGlobals "_law_order" = some (some (.ref f31))) (l31 : K.lookup f31 = some ⟨oc31, od31, .func (PySem.W.fnOf "_law_order" "_law_order" (defArgs (top 40)) (defBody (top 40)) (defScope (top 40)) .none kV31 dc31 pm31 an31 cd31 ct31), sl31⟩) (c31 : PySem.W.codeIn K cd31 "_law_order" = true) (k31 : PySem.W.keepIn K (.ref f31) = true)
    (a32 : PySem.W.nsIn K mainGlobals "_law_due" = some (some (.ref f32))) (l32 : K.lookup f32 = some ⟨oc32, od32, .func (PySem.W.fnOf "_law_due" "_law_due" (defArgs (top 41)) (defBody (top 41)) (defScope (top 41)) .none kV32 dc32 pm32 an32 cd32 ct32), sl32⟩) (c32 : PySem.W.codeIn K cd32 "_law_due" = true) (k32 : PySem.W.keepIn K (.ref f32) = true)
    (a33 : PySem.W.nsIn K mainGlobals "_law_shuffled" = some (some (.ref f33))) (l33 : K.lookup f33 = some ⟨oc33, od33, .func (PySem.W.fnOf "_law_shuffled" "_law_shuffled" (defArgs (top 42)) (defBody (top 42)) (defScope (top 42)) .none kV33 dc33 pm33 an33 cd33 ct33), sl33⟩) (c33 : PySem.W.codeIn K cd33 "_law_shuffled" = true) (k33 : PySem.W.keepIn K (.ref f33) = true)
    (a34 : PySem.W.nsIn K mainGlobals "law" = some (some (.ref f34))) (l34 : K.lookup f34 = some ⟨oc34, od34, .func (PySem.W.fnOf "law" "law" (defArgs (top 43)) (defBody (top 43)) (defScope (top 43)) .none kV34 dc34 pm34 an34 cd34 ct34), sl34⟩) (c34 : PySem.W.codeIn K cd34 "law" = true) (k34 : PySem.W.keepIn K (.ref f34) = true)
    (z_all : PySem.W.nsIn K mainGlobals "all" = some none)
    (z_bool : PySem.W.nsIn K mainGlobals "bool" = some none)
    (z_dict : PySem.W.nsIn K mainGlobals "dict" = some none)
    (z_enumerate : PySem.W.nsIn K mainGlobals "enumerate" = some none)
    (z_int : PySem.W.nsIn K mainGlobals "int" = some none)
    (z_isinstance : PySem.W.nsIn K mainGlobals "isinstance" = some none)
    (z_len : PySem.W.nsIn K mainGlobals "len" = some none)
    (z_list : PySem.W.nsIn K mainGlobals "list" = some none)
    (z_min : PySem.W.nsIn K mainGlobals "min" = some none)
    (z_range : PySem.W.nsIn K mainGlobals "range" = some none)
    (z_reversed : PySem.W.nsIn K mainGlobals "reversed" = some none)
    (z_set : PySem.W.nsIn K mainGlobals "set" = some none)
    (z_str : PySem.W.nsIn K mainGlobals "str" = some none)
    (z_tuple : PySem.W.nsIn K mainGlobals "tuple" = some none)
    (z_zip : PySem.W.nsIn K mainGlobals "zip" = some none)
    (y_MOST_NAMES : PySem.W.nsIn K mainGlobals "MOST_NAMES" = some (some (.int 60 t_MOST_NAMES)))
    (y_MOST_NAME_SIGNS : PySem.W.nsIn K mainGlobals "MOST_NAME_SIGNS" = some (some (.int 8 t_MOST_NAME_SIGNS)))
    (y_MOST_PARTS : PySem.W.nsIn K mainGlobals "MOST_PARTS" = some (some (.int 60 t_MOST_PARTS)))
    (y_MOST_VALUES : PySem.W.nsIn K mainGlobals "MOST_VALUES" = some (some (.int 12 t_MOST_VALUES)))
    (y_MOST_WORD_SIGNS : PySem.W.nsIn K mainGlobals "MOST_WORD_SIGNS" = some (some (.int 20 t_MOST_WORD_SIGNS)))
    (y_NAME_SIGNS : PySem.W.nsIn K mainGlobals "NAME_SIGNS" = some (some (.str "0123456789abcdefghijklmnopqrstuvwxyz" t_NAME_SIGNS)))
    (y_WORD_SIGNS : PySem.W.nsIn K mainGlobals "WORD_SIGNS" = some (some (.str " 0123456789abcdefghijklmnopqrstuvwxyz" t_WORD_SIGNS)))
    : ∃ fd : FuncData, (∀ (s : Shared) (v : Value), BindsTo s fd ⟨[v], []⟩ [("_law_script", v)]) ∧ ∀ base : Heap, K.In base → base.Ns mainGlobals mg → FnOk l.prog w K mg base CX0 8 fa fd ["_law_script"] (spD K m_law) := by
  have e := hfa.symm.trans (PySem.W.mg_of X G a34)
  cases e
  have T : Txt mg := ⟨PySem.W.mg_none_of X G z_all, PySem.W.mg_none_of X G z_bool, PySem.W.mg_none_of X G z_dict, PySem.W.mg_none_of X G z_enumerate, PySem.W.mg_none_of X G z_int, PySem.W.mg_none_of X G z_isinstance, PySem.W.mg_none_of X G z_len, PySem.W.mg_none_of X G z_list, PySem.W.mg_none_of X G z_min, PySem.W.mg_none_of X G z_range, PySem.W.mg_none_of X G z_reversed, PySem.W.mg_none_of X G z_set, PySem.W.mg_none_of X G z_str, PySem.W.mg_none_of X G z_tuple, PySem.W.mg_none_of X G z_zip, ⟨_, PySem.W.mg_of X G y_MOST_NAMES⟩, ⟨_, PySem.W.mg_of X G y_MOST_NAME_SIGNS⟩, ⟨_, PySem.W.mg_of X G y_MOST_PARTS⟩, ⟨_, PySem.W.mg_of X G y_MOST_VALUES⟩, ⟨_, PySem.W.mg_of X G y_MOST_WORD_SIGNS⟩, ⟨_, PySem.W.mg_of X G y_NAME_SIGNS⟩, ⟨_, PySem.W.mg_of X G y_WORD_SIGNS⟩⟩
  have F0 := fun_mk (st := top 8) l0 c0 k0
  have F1 := fun_mk (st := top 9) l1 c1 k1
  have F2 := fun_mk (st := top 10) l2 c2 k2
  have F3 := fun_mk (st := top 11) l3 c3 k3
  have F4 := fun_mk (st := top 12) l4 c4 k4
  have F5 := fun_mk (st := top 13) l5 c5 k5
  have F6 := fun_mk (st := top 14) l6 c6 k6
  have F7 := fun_mk (st := top 15) l7 c7 k7
  have F8 := fun_mk (st := top 16) l8 c8 k8
  have F9 := fun_mk (st := top 17) l9 c9 k9
  have F10 := fun_mk (st := top 18) l10 c10 k10
  have F11 := fun_mk (st := top 19) l11 c11 k11
  have F12 := fun_mk (st := top 20) l12 c12 k12
  have F13 := fun_mk (st := top 21) l13 c13 k13
  have F14 := fun_mk (st := top 22) l14 c14 k14
  have F15 := fun_mk (st := top 23) l15 c15 k15
  have F16 := fun_mk (st := top 24) l16 c16 k16
  have F17 := fun_mk (st := top 25) l17 c17 k17
  have F18 := fun_mk (st := top 26) l18 c18 k18
  have F19 := funV_mk (st := top 27) l19 c19 k19
  have F20 := fun_mk (st := top 28) l20 c20 k20
  have F21 := fun_mk (st := top 29) l21 c21 k21
  have F22 := funV_mk (st := top 30) l22 c22 k22
  have F23 := fun_mk (st := top 32) l23 c23 k23
  have F24 := fun_mk (st := top 33) l24 c24 k24
  have F25 := fun_mk (st := top 34) l25 c25 k25
  have F26 := fun_mk (st := top 35) l26 c26 k26
  have F27 := fun_mk (st := top 36) l27 c27 k27
  have F28 := fun_mk (st := top 37) l28 c28 k28
  have F29 := fun_mk (st := top 38) l29 c29 k29
  have F30 := fun_mk (st := top 39) l30 c30 k30
  have F31 := fun_mk (st := top 40) l31 c31 k31
  have F32 := fun_mk (st := top 41) l32 c32 k32
  have F33 := fun_mk (st := top 42) l33 c33 k33
  have F34 := fun_mk (st := top 43) l34 c34 k34
  refine ⟨PySem.W.fnOf "law" "law" (defArgs (top 43)) (defBody (top 43)) (defScope (top 43)) .none kV34 dc34 pm34 an34 cd34 ct34, fun s v => .of_eq rfl, fun base _ _ => ?_⟩
  have C_is_whole : FnD l.prog w K mg base "is_whole" 1 ["thing"] m_is_whole := ⟨f0, _, ok_is_whole F0 T , PySem.W.mg_of X G a0, k0, F0.binds (ps := ["thing"]) fun _ _ _ _ _ _ us hl => match us, hl with | [_], _ => rfl⟩
  have C_is_spelled : FnD l.prog w K mg base "is_spelled" 1 ["thing", "signs", "most"] m_is_spelled := ⟨f1, _, ok_is_spelled F1 T , PySem.W.mg_of X G a1, k1, F1.binds (ps := ["thing", "signs", "most"]) fun _ _ _ _ _ _ us hl => match us, hl with | [_, _, _], _ => rfl⟩
  have C_is_marked : FnD l.prog w K mg base "is_marked" 1 ["thing", "mark", "count"] m_is_marked := ⟨f4, _, ok_is_marked F4 T , PySem.W.mg_of X G a4, k4, F4.binds (ps := ["thing", "mark", "count"]) fun _ _ _ _ _ _ us hl => match us, hl with | [_, _, _], _ => rfl⟩
  have C_is_tuple : FnD l.prog w K mg base "is_tuple" 1 ["thing", "most"] m_is_tuple := ⟨f7, _, ok_is_tuple F7 T , PySem.W.mg_of X G a7, k7, F7.binds (ps := ["thing", "most"]) fun _ _ _ _ _ _ us hl => match us, hl with | [_, _], _ => rfl⟩
  have C_pair_names : FnD l.prog w K mg base "pair_names" 1 ["part"] m_pair_names := ⟨f14, _, ok_pair_names F14 T , PySem.W.mg_of X G a14, k14, F14.binds (ps := ["part"]) fun _ _ _ _ _ _ us hl => match us, hl with | [_], _ => rfl⟩
  have C_values : FnD l.prog w K mg base "values" 1 ["part"] m_values := ⟨f16, _, ok_values F16 T , PySem.W.mg_of X G a16, k16, F16.binds (ps := ["part"]) fun _ _ _ _ _ _ us hl => match us, hl with | [_], _ => rfl⟩
  have C__law_cell_at : FnD l.prog w K mg base "_law_cell_at" 1 ["_law_script", "_law_k"] m__law_cell_at := ⟨f23, _, ok__law_cell_at F23 T , PySem.W.mg_of X G a23, k23, F23.binds (ps := ["_law_script", "_law_k"]) fun _ _ _ _ _ _ us hl => match us, hl with | [_, _], _ => rfl⟩
  have C__law_value : FnD l.prog w K mg base "_law_value" 1 ["_law_x", "_law_many"] m__law_value := ⟨f25, _, ok__law_value F25 T , PySem.W.mg_of X G a25, k25, F25.binds (ps := ["_law_x", "_law_many"]) fun _ _ _ _ _ _ us hl => match us, hl with | [_, _], _ => rfl⟩
  have C__law_led_value : FnD l.prog w K mg base "_law_led_value" 1 ["_law_value_here", "_law_places"] m__law_led_value := ⟨f28, _, ok__law_led_value F28 T , PySem.W.mg_of X G a28, k28, F28.binds (ps := ["_law_value_here", "_law_places"]) fun _ _ _ _ _ _ us hl => match us, hl with | [_, _], _ => rfl⟩
  have C__law_goals : FnN l.prog w K mg base "_law_goals" 1 ["_law_part_here"] m__law_goals := ⟨f30, _, ok__law_goals F30 T , PySem.W.mg_of X G a30, k30, F30.binds (ps := ["_law_part_here"]) fun _ _ _ _ _ _ us hl => match us, hl with | [_], _ => rfl⟩
  have C_is_name : FnD l.prog w K mg base "is_name" 2 ["thing"] m_is_name := ⟨f2, _, ok_is_name F2 T C_is_spelled, PySem.W.mg_of X G a2, k2, F2.binds (ps := ["thing"]) fun _ _ _ _ _ _ us hl => match us, hl with | [_], _ => rfl⟩
  have C_is_word : FnD l.prog w K mg base "is_word" 2 ["thing"] m_is_word := ⟨f3, _, ok_is_word F3 T C_is_spelled, PySem.W.mg_of X G a3, k3, F3.binds (ps := ["thing"]) fun _ _ _ _ _ _ us hl => match us, hl with | [_], _ => rfl⟩
  have C_is_link : FnD l.prog w K mg base "is_link" 2 ["thing"] m_is_link := ⟨f5, _, ok_is_link F5 T C_is_marked C_is_whole, PySem.W.mg_of X G a5, k5, F5.binds (ps := ["thing"]) fun _ _ _ _ _ _ us hl => match us, hl with | [_], _ => rfl⟩
  have C_count_names : FnD l.prog w K mg base "count_names" 2 ["web"] m_count_names := ⟨f15, _, ok_count_names F15 T C_pair_names, PySem.W.mg_of X G a15, k15, F15.binds (ps := ["web"]) fun _ _ _ _ _ _ us hl => match us, hl with | [_], _ => rfl⟩
  have C_with_values : FnD l.prog w K mg base "with_values" 2 ["part", "some"] m_with_values := ⟨f17, _, ok_with_values F17 T C_pair_names, PySem.W.mg_of X G a17, k17, F17.binds (ps := ["part", "some"]) fun _ _ _ _ _ _ us hl => match us, hl with | [_, _], _ => rfl⟩
  have C_links : FnD l.prog w K mg base "links" 2 ["part"] m_links := ⟨f18, _, ok_links F18 T C_values, PySem.W.mg_of X G a18, k18, F18.binds (ps := ["part"]) fun _ _ _ _ _ _ us hl => match us, hl with | [_], _ => rfl⟩
  have C__law_mixed : FnD l.prog w K mg base "_law_mixed" 2 ["_law_script", "_law_k"] m__law_mixed := ⟨f24, _, ok__law_mixed F24 T C__law_cell_at, PySem.W.mg_of X G a24, k24, F24.binds (ps := ["_law_script", "_law_k"]) fun _ _ _ _ _ _ us hl => match us, hl with | [_, _], _ => rfl⟩
  have C__law_part : FnD l.prog w K mg base "_law_part" 2 ["_law_x", "_law_many"] m__law_part := ⟨f26, _, ok__law_part F26 T C__law_value, PySem.W.mg_of X G a26, k26, F26.binds (ps := ["_law_x", "_law_many"]) fun _ _ _ _ _ _ us hl => match us, hl with | [_, _], _ => rfl⟩
  have C__law_led : FnD l.prog w K mg base "_law_led" 2 ["_law_part_here", "_law_places"] m__law_led := ⟨f29, _, ok__law_led F29 T C__law_led_value, PySem.W.mg_of X G a29, k29, F29.binds (ps := ["_law_part_here", "_law_places"]) fun _ _ _ _ _ _ us hl => match us, hl with | [_, _], _ => rfl⟩
  have C__law_order : FnN l.prog w K mg base "_law_order" 2 ["_law_web_here", "_law_start"] m__law_order := ⟨f31, _, ok__law_order F31 T C__law_goals, PySem.W.mg_of X G a31, k31, F31.binds (ps := ["_law_web_here", "_law_start"]) fun _ _ _ _ _ _ us hl => match us, hl with | [_, _], _ => rfl⟩
  have C_is_value : FnD l.prog w K mg base "is_value" 3 ["thing"] m_is_value := ⟨f6, _, ok_is_value F6 T C_is_link C_is_whole, PySem.W.mg_of X G a6, k6, F6.binds (ps := ["thing"]) fun _ _ _ _ _ _ us hl => match us, hl with | [_], _ => rfl⟩
  have C_links_lead : FnD l.prog w K mg base "links_lead" 3 ["web"] m_links_lead := ⟨f13, _, ok_links_lead F13 T C_links, PySem.W.mg_of X G a13, k13, F13.binds (ps := ["web"]) fun _ _ _ _ _ _ us hl => match us, hl with | [_], _ => rfl⟩
  have C_met_but : FnN l.prog w K mg base "met_but" 3 ["web", "k", "left"] m_met_but := ⟨f20, _, ok_met_but F20 T C_links, PySem.W.mg_of X G a20, k20, F20.binds (ps := ["web", "k", "left"]) fun _ _ _ _ _ _ us hl => match us, hl with | [_, _, _], _ => rfl⟩
  have C_relinked : FnD l.prog w K mg base "relinked" 3 ["part", "numbers"] m_relinked := ⟨f21, _, ok_relinked F21 T C_values C_with_values, PySem.W.mg_of X G a21, k21, F21.binds (ps := ["part", "numbers"]) fun _ _ _ _ _ _ us hl => match us, hl with | [_, _], _ => rfl⟩
  have C__law_web : FnD l.prog w K mg base "_law_web" 3 ["_law_script"] m__law_web := ⟨f27, _, ok__law_web F27 T C__law_cell_at C__law_mixed C__law_part, PySem.W.mg_of X G a27, k27, F27.binds (ps := ["_law_script"]) fun _ _ _ _ _ _ us hl => match us, hl with | [_], _ => rfl⟩
  have C__law_due : FnD l.prog w K mg base "_law_due" 3 ["_law_web_here", "_law_start"] m__law_due := ⟨f32, _, ok__law_due F32 T C__law_led C__law_order, PySem.W.mg_of X G a32, k32, F32.binds (ps := ["_law_web_here", "_law_start"]) fun _ _ _ _ _ _ us hl => match us, hl with | [_, _], _ => rfl⟩
  have C__law_shuffled : FnD l.prog w K mg base "_law_shuffled" 3 ["_law_web_here", "_law_x"] m__law_shuffled := ⟨f33, _, ok__law_shuffled F33 T C__law_led, PySem.W.mg_of X G a33, k33, F33.binds (ps := ["_law_web_here", "_law_x"]) fun _ _ _ _ _ _ us hl => match us, hl with | [_, _], _ => rfl⟩
  have C_is_values : FnD l.prog w K mg base "is_values" 4 ["thing"] m_is_values := ⟨f8, _, ok_is_values F8 T C_is_tuple C_is_value, PySem.W.mg_of X G a8, k8, F8.binds (ps := ["thing"]) fun _ _ _ _ _ _ us hl => match us, hl with | [_], _ => rfl⟩
  have C_is_pair : FnD l.prog w K mg base "is_pair" 4 ["thing"] m_is_pair := ⟨f9, _, ok_is_pair F9 T C_is_name C_is_value, PySem.W.mg_of X G a9, k9, F9.binds (ps := ["thing"]) fun _ _ _ _ _ _ us hl => match us, hl with | [_], _ => rfl⟩
  have C_met : FnN l.prog w K mg base "met" 4 ["web", "k"] m_met := ⟨f19, _, ok_met F19 T C_met_but, PySem.W.mg_of X G a19, k19, fun s us X hl => match us, hl with | [_, _], _ => PySem.W.binds_K X rfl t19 rfl rfl rfl⟩
  have Cd_met : FnNd l.prog w K mg base "met" 4 ["web", "k"] m_met [(.int 0)] := ⟨f19, _, [.int 0 tt19_0], [.int 0], ok_met F19 T C_met_but, PySem.W.mg_of X G a19, k19, fun s us X hl => by obtain ⟨u0, rfl⟩ := us1 (show us.length = 1 by rw [List.length_append] at hl; simpa using hl); exact PySem.W.binds_K X rfl t19 rfl rfl rfl, by repeat (first | exact .nil | refine .cons (by first | exact ⟨_, rfl⟩ | rfl) ?_), fun H B => by simp [rps_cons, rps_nil, rp_int, rp_non]⟩
  have C_is_pairs : FnD l.prog w K mg base "is_pairs" 5 ["thing"] m_is_pairs := ⟨f10, _, ok_is_pairs F10 T C_is_pair C_is_tuple, PySem.W.mg_of X G a10, k10, F10.binds (ps := ["thing"]) fun _ _ _ _ _ _ us hl => match us, hl with | [_], _ => rfl⟩
  have C_drawn : FnD l.prog w K mg base "drawn" 5 ["web", "k"] m_drawn := ⟨f22, _, ok_drawn F22 T C_met C_relinked, PySem.W.mg_of X G a22, k22, fun s us X hl => match us, hl with | [_, _], _ => PySem.W.binds_K X rfl t22 rfl rfl rfl⟩
  have Cd_drawn : FnDd l.prog w K mg base "drawn" 5 ["web", "k"] m_drawn [(.int 0)] := ⟨f22, _, [.int 0 tt22_0], [.int 0], ok_drawn F22 T C_met C_relinked, PySem.W.mg_of X G a22, k22, fun s us X hl => by obtain ⟨u0, rfl⟩ := us1 (show us.length = 1 by rw [List.length_append] at hl; simpa using hl); exact PySem.W.binds_K X rfl t22 rfl rfl rfl, by repeat (first | exact .nil | refine .cons (by first | exact ⟨_, rfl⟩ | rfl) ?_), fun H B => by simp [rps_cons, rps_nil, rp_int, rp_non]⟩
  have C_is_part : FnD l.prog w K mg base "is_part" 6 ["thing"] m_is_part := ⟨f11, _, ok_is_part F11 T C_is_marked C_is_name C_is_pairs C_is_values C_is_word, PySem.W.mg_of X G a11, k11, F11.binds (ps := ["thing"]) fun _ _ _ _ _ _ us hl => match us, hl with | [_], _ => rfl⟩
  have C_is_web : FnD l.prog w K mg base "is_web" 7 ["thing"] m_is_web := ⟨f12, _, ok_is_web F12 T C_count_names C_is_part C_is_tuple C_links_lead, PySem.W.mg_of X G a12, k12, F12.binds (ps := ["thing"]) fun _ _ _ _ _ _ us hl => match us, hl with | [_], _ => rfl⟩
  exact ok_law F34 T C__law_cell_at C__law_due C__law_shuffled C__law_web C_drawn C_is_web Cd_drawn Cd_met
theorem rps_ints {K : PySem.W.Frag} {H : Hp} {B : BS} : ∀ ns : List Int, Rps K H B (ns.map D.int) (ns.map V.int)
  | [] => by rw [List.map_nil, List.map_nil, rps_nil]
  | n :: ns => by
    rw [List.map_cons, List.map_cons, rps_cons]
    exact ⟨_, _, rfl, by rw [rp_int], rps_ints ns⟩
theorem start_law {K : PySem.W.Frag} {H : Hp} {a : Addr} {ns : List Int} (hS : SqL K H a (ns.map V.int)) (hm : m_law [.lst (ns.map .int)] = some (.bl true)) : spD K m_law [.ref a] H (fun v _ => v = .bl true) fun _ _ _ => False := by
  refine ⟨fun _ => False, [.lst (ns.map .int)], .bl true, fun _ z => z.elim, ?_, hm, fun v H' _ r => by rw [rp_bl] at r; exact r⟩
  rw [rps_cons]
  refine ⟨_, [], rfl, ?_, by rw [rps_nil]⟩
  rw [rp_lst]
  refine ⟨a, ns.map V.int, rfl, ?_, rps_ints ns⟩
  rcases hS with h | h
  · exact .inl ⟨fun z => z, h⟩
  · exact .inr (.inr h)
end K6
open PySem PySem.W PyProof.Rows
set_option maxRecDepth 100000 in
set_option maxHeartbeats 0 in
theorem PySem.Challenge.cw_graphpack_k06_whole_drawn_webs_holds : PySem.Challenge.rw_graphpack_k06_whole_drawn_webs.Holds := by
  w_on; o_law; k_head; (case hw => w_witness2)
  k_fill
  refine L2.walk_ofK (l := PySem.Challenge.rw_graphpack_k06_whole_drawn_webs) (n := 63) (k := 8) (x := "_law_script") (CX := L2.CX0) (sp := fun K => DL.spD K K6.m_law) rfl (by decide) rfl ⟨rfl, by decide, by decide⟩ (fun w h Y => PySem.W.kIn_of Y) ?F ?S ?C
  case F =>
    intro w mg fa h KX G hmg
    refine' K6.all_mk KX G hmg ?a0 ?l0 ?c0 ?k0 ?a1 ?l1 ?c1 ?k1 ?a2 ?l2 ?c2 ?k2 ?a3 ?l3 ?c3 ?k3 ?a4 ?l4 ?c4 ?k4 ?a5 ?l5 ?c5 ?k5 ?a6 ?l6 ?c6 ?k6 ?a7 ?l7 ?c7 ?k7 ?a8 ?l8 ?c8 ?k8 ?a9 ?l9 ?c9 ?k9 ?a10 ?l10 ?c10 ?k10 ?a11 ?l11 ?c11 ?k11 ?a12 ?l12 ?c12 ?k12 ?a13 ?l13 ?c13 ?k13 ?a14 ?l14 ?c14 ?k14 ?a15 ?l15 ?c15 ?k15 ?a16 ?l16 ?c16 ?k16 ?a17 ?l17 ?c17 ?k17 ?a18 ?l18 ?c18 ?k18 ?a19 ?l19 ?c19 ?k19 ?t19 ?a20 ?l20 ?c20 ?k20 ?a21 ?l21 ?c21 ?k21 ?a22 ?l22 ?c22 ?k22 ?t22 ?a23 ?l23 ?c23 ?k23 ?a24 ?l24 ?c24 ?k24 ?a25 ?l25 ?c25 ?k25 ?a26 ?l26 ?c26 ?k26 ?a27 ?l27 ?c27 ?k27 ?a28 ?l28 ?c28 ?k28 ?a29 ?l29 ?c29 ?k29 ?a30 ?l30 ?c30 ?k30 ?a31 ?l31 ?c31 ?k31 ?a32 ?l32 ?c32 ?k32 ?a33 ?l33 ?c33 ?k33 ?a34 ?l34 ?c34 ?k34 ?z_all ?z_bool ?z_dict ?z_enumerate ?z_int ?z_isinstance ?z_len ?z_list ?z_min ?z_range ?z_reversed ?z_set ?z_str ?z_tuple ?z_zip ?y_MOST_NAMES ?y_MOST_NAME_SIGNS ?y_MOST_PARTS ?y_MOST_VALUES ?y_MOST_WORD_SIGNS ?y_NAME_SIGNS ?y_WORD_SIGNS
    (case a0 => k_is)
    (case l0 => k_is)
    (case c0 => k_is)
    (case k0 => k_is)
    (case a1 => k_is)
    (case l1 => k_is)
    (case c1 => k_is)
    (case k1 => k_is)
    (case a2 => k_is)
    (case l2 => k_is)
    (case c2 => k_is)
    (case k2 => k_is)
    (case a3 => k_is)
    (case l3 => k_is)
    (case c3 => k_is)
    (case k3 => k_is)
    (case a4 => k_is)
    (case l4 => k_is)
    (case c4 => k_is)
    (case k4 => k_is)
    (case a5 => k_is)
    (case l5 => k_is)
    (case c5 => k_is)
    (case k5 => k_is)
    (case a6 => k_is)
    (case l6 => k_is)
    (case c6 => k_is)
    (case k6 => k_is)
    (case a7 => k_is)
    (case l7 => k_is)
    (case c7 => k_is)
    (case k7 => k_is)
    (case a8 => k_is)
    (case l8 => k_is)
    (case c8 => k_is)
    (case k8 => k_is)
    (case a9 => k_is)
    (case l9 => k_is)
    (case c9 => k_is)
    (case k9 => k_is)
    (case a10 => k_is)
    (case l10 => k_is)
    (case c10 => k_is)
    (case k10 => k_is)
    (case a11 => k_is)
    (case l11 => k_is)
    (case c11 => k_is)
    (case k11 => k_is)
    (case a12 => k_is)
    (case l12 => k_is)
    (case c12 => k_is)
    (case k12 => k_is)
    (case a13 => k_is)
    (case l13 => k_is)
    (case c13 => k_is)
    (case k13 => k_is)
    (case a14 => k_is)
    (case l14 => k_is)
    (case c14 => k_is)
    (case k14 => k_is)
    (case a15 => k_is)
    (case l15 => k_is)
    (case c15 => k_is)
    (case k15 => k_is)
    (case a16 => k_is)
    (case l16 => k_is)
    (case c16 => k_is)
    (case k16 => k_is)
    (case a17 => k_is)
    (case l17 => k_is)
    (case c17 => k_is)
    (case k17 => k_is)
    (case a18 => k_is)
    (case l18 => k_is)
    (case c18 => k_is)
    (case k18 => k_is)
    (case a19 => k_is)
    (case l19 => k_is)
    (case c19 => k_is)
    (case k19 => k_is)
    (case t19 => k_is)
    (case a20 => k_is)
    (case l20 => k_is)
    (case c20 => k_is)
    (case k20 => k_is)
    (case a21 => k_is)
    (case l21 => k_is)
    (case c21 => k_is)
    (case k21 => k_is)
    (case a22 => k_is)
    (case l22 => k_is)
    (case c22 => k_is)
    (case k22 => k_is)
    (case t22 => k_is)
    (case a23 => k_is)
    (case l23 => k_is)
    (case c23 => k_is)
    (case k23 => k_is)
    (case a24 => k_is)
    (case l24 => k_is)
    (case c24 => k_is)
    (case k24 => k_is)
    (case a25 => k_is)
    (case l25 => k_is)
    (case c25 => k_is)
    (case k25 => k_is)
    (case a26 => k_is)
    (case l26 => k_is)
    (case c26 => k_is)
    (case k26 => k_is)
    (case a27 => k_is)
    (case l27 => k_is)
    (case c27 => k_is)
    (case k27 => k_is)
    (case a28 => k_is)
    (case l28 => k_is)
    (case c28 => k_is)
    (case k28 => k_is)
    (case a29 => k_is)
    (case l29 => k_is)
    (case c29 => k_is)
    (case k29 => k_is)
    (case a30 => k_is)
    (case l30 => k_is)
    (case c30 => k_is)
    (case k30 => k_is)
    (case a31 => k_is)
    (case l31 => k_is)
    (case c31 => k_is)
    (case k31 => k_is)
    (case a32 => k_is)
    (case l32 => k_is)
    (case c32 => k_is)
    (case k32 => k_is)
    (case a33 => k_is)
    (case l33 => k_is)
    (case c33 => k_is)
    (case k33 => k_is)
    (case a34 => k_is)
    (case l34 => k_is)
    (case c34 => k_is)
    (case k34 => k_is)
    (case z_all => k_is)
    (case z_bool => k_is)
    (case z_dict => k_is)
    (case z_enumerate => k_is)
    (case z_int => k_is)
    (case z_isinstance => k_is)
    (case z_len => k_is)
    (case z_list => k_is)
    (case z_min => k_is)
    (case z_range => k_is)
    (case z_reversed => k_is)
    (case z_set => k_is)
    (case z_str => k_is)
    (case z_tuple => k_is)
    (case z_zip => k_is)
    (case y_MOST_NAMES => k_is)
    (case y_MOST_NAME_SIGNS => k_is)
    (case y_MOST_PARTS => k_is)
    (case y_MOST_VALUES => k_is)
    (case y_MOST_WORD_SIGNS => k_is)
    (case y_NAME_SIGNS => k_is)
    (case y_WORD_SIGNS => k_is)
  case S => exact fun K H a ns hl hO hS => K6.start_law hS (K6.law_true ns hl)
  case C => exact fun _ _ _ _ z => z
#print axioms PySem.Challenge.cw_graphpack_k06_whole_drawn_webs_holds
