import PyProof.Rows.All
import Wide.All
import OpenK.AllK
import Wide.FinOn
import Lean
import PyProof.EqAt
import PyProof.EqKinds
import PyProof.TupleCall
import PyProof.NeKinds
import PyProof.Rows.SetFrom
import KE.KRevIter
import PyProof.ZipIter
import PyProof.TupleOfGen
import PyProof.Rows.ZipGen
import PyProof.EnumMake
import PyProof.EnumFor
import PyProof.ListRange
import PyProof.LayNew
import KE.KDictOf
import KE.KIntText
import KE.IntTextLaws
import PyProof.StrCalls2
import PyProof.Rows.StrNews2
import PyProof.StrLawsTight
import PyProof.ListMulRight
import PyProof.AttrMissHeap
import PySem.Challenge.RW_graphpack_k25_numbers_in_bytes
set_option Elab.async false
set_option linter.all false
set_option maxRecDepth 100000
/-! THE HAND LAYER, for ints, bools, texts, own classes, LISTS and tuples (index, slices, in, append, pop ..), calls, loops. Paste it whole ahead of your own text; what your proof does not reach may be deleted. -/
namespace L2
open PySem PySem.Spec PyProof.Rows

/-- a key: an int or a str -/
abbrev Key := Sum Int Str
def keyIs : Key → Value → Bool
  | .inl k, v => Value.isInt k v
  | .inr x, v => Value.isStrOf x v
def keyH (w : World) : Key → Int
  | .inl k => hashInt k
  | .inr x => hashStr w x
theorem keyIs_shape : ∀ {k : Key} {v : Value}, keyIs k v = true → (∃ i t, k = Sum.inl i ∧ v = Value.int i t) ∨ (∃ x t, k = Sum.inr x ∧ v = Value.str x t)
  | .inl i, v, h => by
    obtain ⟨t, e⟩ := Value.isInt_shape (k := i) (v := v) h
    exact .inl ⟨i, t, rfl, e⟩
  | .inr x, v, h => by
    obtain ⟨t, e⟩ := Value.isStrOf_shape (x := x) (v := v) h
    exact .inr ⟨x, t, rfl, e⟩
theorem key_ll (a b : Int) : decide ((Sum.inl a : Key) = Sum.inl b) = (a == b) := by
  by_cases e : a = b
  · subst e; simp
  · have h : ¬ (Sum.inl a : Key) = Sum.inl b := fun q => e (Sum.inl.inj q)
    rw [decide_eq_false h]
    exact (beq_eq_false_iff_ne.mpr e).symm
theorem key_rr (a b : Str) : decide ((Sum.inr a : Key) = Sum.inr b) = decide (a = b) := by
  by_cases e : a = b
  · subst e; simp
  · have h : ¬ (Sum.inr a : Key) = Sum.inr b := fun q => e (Sum.inr.inj q)
    rw [decide_eq_false h, decide_eq_false e]
theorem key_lr (a : Int) (b : Str) : decide ((Sum.inl a : Key) = Sum.inr b) = false := decide_eq_false (fun q => nomatch q)
theorem key_rl (a : Str) (b : Int) : decide ((Sum.inr a : Key) = Sum.inl b) = false := decide_eq_false (fun q => nomatch q)

def mixKind (prog : Program) (w : World) : PySem.KeyKind prog w Key where
  is := keyIs
  hash := keyH w
  inj := fun v a b ha hb => by
    rcases keyIs_shape ha with ⟨i, t, rfl, rfl⟩ | ⟨x, t, rfl, rfl⟩
    · rcases keyIs_shape hb with ⟨j, u, rfl, e⟩ | ⟨y, u, rfl, e⟩
      · injection e with e1 _; rw [e1]
      · exact nomatch e
    · rcases keyIs_shape hb with ⟨j, u, rfl, e⟩ | ⟨y, u, rfl, e⟩
      · exact nomatch e
      · injection e with e1 _; rw [e1]
  byValue := fun k v h => by
    rcases keyIs_shape h with ⟨i, t, rfl, rfl⟩ | ⟨x, t, rfl, rfl⟩ <;> rfl
  pyHash := fun hv h => by
    rcases keyIs_shape hv with ⟨i, t, rfl, rfl⟩ | ⟨x, t, rfl, rfl⟩
    · exact wpAny_pyHash_int h
    · exact wpAny_pyHash_str h
  eqBool := fun hu hv h => by
    rcases keyIs_shape hu with ⟨i, t, rfl, rfl⟩ | ⟨x, t, rfl, rfl⟩
    · rcases keyIs_shape hv with ⟨j, u, rfl, rfl⟩ | ⟨y, u, rfl, rfl⟩
      · rw [key_ll] at h; exact wpAny_eqBool_int h
      · rw [key_lr] at h; exact SeqAt.EqAt.int_str i t y u _ _ _ _ h
    · rcases keyIs_shape hv with ⟨j, u, rfl, rfl⟩ | ⟨y, u, rfl, rfl⟩
      · rw [key_rl] at h; exact SeqAt.EqAt.str_int x t j u _ _ _ _ h
      · rw [key_rr] at h; exact wpAny_eqBool_str h
  «strs» := fun k x t v h => by
    rcases keyIs_shape h with ⟨i, u, rfl, e⟩ | ⟨y, u, rfl, e⟩
    · exact nomatch e
    · injection e with e1 _
      subst e1
      cases v <;> rfl

end L2

namespace L2
open PySem PySem.Spec PyProof.Rows

/-- a value, without the heap -/
inductive V where
  | non | bl (b : Bool) | int (i : Int) | str (x : Str) | byt (b : Array UInt8) | flt (b : UInt64) | ref (a : Addr) | ty (n : String)
  deriving DecidableEq

def RelV : V → Value → Prop
  | .non, u => u = Value.none
  | .bl b, u => u = Value.bool b
  | .int i, u => ∃ t, u = Value.int i t
  | .str x, u => ∃ t, u = Value.str x t
  | .byt b, u => ∃ t, u = Value.bytes b t
  | .flt b, u => ∃ t, u = Value.float b t
  | .ref a, u => u = Value.ref a
  | .ty n, u => u = Value.type n

abbrev Vals : List V → List Value → Prop := Paired RelV
theorem Vals.length {xs : List V} {us : List Value} (r : Vals xs us) : xs.length = us.length := Paired.length r
theorem Vals.get : ∀ {xs : List V} {us : List Value} {i : Nat} {x : V}, Vals xs us → xs[i]? = some x → ∃ u, us[i]? = some u ∧ RelV x u
  | _, _, _, _, .nil, e => by simp at e
  | _, _, 0, _, .cons r _, e => by simp at e; subst e; exact ⟨_, rfl, r⟩
  | _, _, i + 1, x, .cons _ t, e => by
    obtain ⟨u, h1, h2⟩ := Vals.get (i := i) (x := x) t (by simpa using e)
    exact ⟨u, by simpa using h1, h2⟩
theorem Vals.set {x : V} {u : Value} (r : RelV x u) : ∀ {xs : List V} {us : List Value} (i : Nat), Vals xs us → Vals (xs.set i x) (us.set i u)
  | _, _, _, .nil => .nil
  | _, _, 0, .cons _ t => .cons r t
  | _, _, i + 1, .cons q t => .cons q (Vals.set r i t)
theorem Vals.append : ∀ {xs ys : List V} {us ws : List Value}, Vals xs us → Vals ys ws → Vals (xs ++ ys) (us ++ ws)
  | _, _, _, _, .nil, s => s
  | _, _, _, _, .cons r t, s => .cons r (Vals.append t s)
theorem Vals.take : ∀ {xs : List V} {us : List Value} (n : Nat), Vals xs us → Vals (xs.take n) (us.take n)
  | _, _, 0, _ => .nil
  | _, _, _ + 1, .nil => .nil
  | _, _, n + 1, .cons r t => .cons r (Vals.take n t)
theorem Vals.drop : ∀ {xs : List V} {us : List Value} (n : Nat), Vals xs us → Vals (xs.drop n) (us.drop n)
  | _, _, 0, r => r
  | _, _, _ + 1, .nil => .nil
  | _, _, n + 1, .cons _ t => Vals.drop n t
def RelO : Option V → Option Value → Prop
  | some v, some u => RelV v u
  | none, none => True
  | _, _ => False
def KV {κ : Type} : List (κ × V) → List (κ × Value) → Prop := Paired fun (p : κ × V) (q : κ × Value) => p.1 = q.1 ∧ RelV p.2 q.2

/-- a key of a dict (00_mix): an int or a text -/
def kV : Key → V
  | .inl i => .int i
  | .inr x => .str x

/-- what stands at a tracked address -/
inductive HO where
  /-- a list -/
  | lst (xs : List V)
  /-- a tuple (never changes) -/
  | tup (xs : List V)
  /-- a dict whose keys are ints and texts; one whose keys are tuples of ints and texts (the empty one is both) -/
  | dK (kvs : List (Key × V)) | dT (kvs : List (List Key × V))
  /-- a set of ints: its members, its size -/
  | set (S : Int → Bool) (n : Nat)
  /-- an instance of the class at C, its dict at dx, its attributes -/
  | ins (C dx : Addr) (fs : List (Str × V))
  /-- the dict of the instance at x -/
  | own (x : Addr)
  /-- the dict of an exception -/
  | xd (fs : List (Str × V))
  /-- a bound method, f of x -/
  | met (f x : Addr)
  /-- a range object lo, lo + 1, .. below hi -/
  | rng (lo hi : Int)
  /-- a thing that is known to the object (the script; a dict while a loop walks it): read, never written while it is so -/
  | frz (o : Obj) (u : HO)
  /-- a code object's table -/
  | tbl (ps : Array Value)
  /-- any other thing, by what is true of its one object (a def of one's own: SetO a S n := HO.ext fun h => ..) -/
  | ext (φ : Heap → Prop)

abbrev Hp := Addr → Option HO
def upd (H : Hp) (a : Addr) (o : HO) : Hp := fun b => if b = a then some o else H b
theorem upd_same {H : Hp} {a : Addr} {o : HO} : upd H a o a = some o := by unfold upd; rw [if_pos rfl]
theorem upd_ne {H : Hp} {a b : Addr} {o : HO} (h : b ≠ a) : upd H a o b = H b := by unfold upd; rw [if_neg h]
theorem ne_of_none {H : Hp} {a b : Addr} {o : HO} (h : H a = some o) (h' : H b = none) : a ≠ b := by
  intro e; subst e; rw [h] at h'; cases h'

section
variable (P : Program) (w : World)
def ObjOk (H : Hp) (h : Heap) (a : Addr) : HO → Prop
  | .lst xs => xs.length ≤ sizeLine ∧ ∃ (its : List Value) (n : Nat), Vals xs its ∧ h.get? a = some { cls := .type "list", data := .seq its.toArray n }
  | .tup xs => xs.length ≤ sizeLine ∧ ∃ its : List Value, Vals xs its ∧ IsTup h a its.toArray
  | .dK kvs => kvs.length ≤ sizeLine ∧ (a == sysModules) = false ∧ ∃ vs, KV kvs vs ∧ h.DictOf (mixKind P w) a vs
  | .dT kvs => kvs.length ≤ sizeLine ∧ (a == sysModules) = false ∧ ∃ xs : List (List Key × Addr × Value),
      Paired (fun (p : List Key × V) (q : List Key × Addr × Value) => p.1 = q.1 ∧ H q.2.1 = some (.tup (p.1.map kV)) ∧ RelV p.2 q.2.2) kvs xs ∧
      ∃ o es ep, h.get? a = some o ∧ o.ExactDict ∧ o.data = .dict es ep ∧ es.toList = xs.map (entryOfKey (tupleKind (mixKind P w))) ∧ (xs.map (·.1)).Nodup
  | .set S n => h.SetOf (intKind P w) a S n
  | .ins C dx fs => H dx = some (.own a) ∧ fs.length ≤ 1000 ∧ dx ≠ a ∧ h.get? a = some (PySem.W.instObj C dx) ∧
      ∃ mA, h.Ns1 dx mA ∧ (∀ f, RelO (fs.lookup f) (mA f)) ∧ PySem.Within mA (fs.map (·.1))
  | .own _ => ∃ o, h.get? a = some o
  | .xd fs => ∃ mA, h.Ns1 a mA ∧ ∀ f, RelO (fs.lookup f) (mA f)
  | .rng lo hi => ∃ t u v, h.get? a = some { cls := .type "range", data := .fields #[.int lo t, .int hi u, .int 1 v] }
  | .frz o u => h.get? a = some o ∧ ObjOk H h a u
  | .tbl ps => h.get? a = some { cls := .none, data := .fields ps }
  | .met f x => h.get? a = some (PySem.W.methodObj (.ref f) (.ref x))
  | .ext φ => φ h ∧ (∃ o, h.get? a = some o) ∧ ∀ h1 h2 : Heap, φ h1 → (∀ o, h1.get? a = some o → h2.get? a = some o) → φ h2
/-- the abstract heap is held -/
def HOk (H : Hp) (h : Heap) : Prop := ∀ a o, H a = some o → ObjOk P w H h a o
end

section
variable {P : Program} {w : World} {H H' : Hp} {h h' : Heap} {a : Addr} {o : HO}
theorem ObjOk.lt (x : ObjOk P w H h a o) : a < h.objs.size := by
  cases o with
  | lst xs => obtain ⟨_, _, _, _, e⟩ := x; exact Heap.lt_size e
  | tup xs => obtain ⟨_, _, _, p⟩ := x; exact p.lt
  | dK kvs => obtain ⟨_, _, _, _, o, _, _, e, _⟩ := x; exact Heap.lt_size e
  | dT kvs => obtain ⟨_, _, _, _, o, _, _, e, _⟩ := x; exact Heap.lt_size e
  | set S n => obtain ⟨o, _, _, _, e, _⟩ := x; exact Heap.lt_size e
  | ins C dx fs => obtain ⟨_, _, _, e, _⟩ := x; exact Heap.lt_size e
  | own y => obtain ⟨_, e⟩ := x; exact Heap.lt_size e
  | xd fs => obtain ⟨_, ⟨_, _, _, e, _⟩, _⟩ := x; exact Heap.lt_size e
  | rng lo hi => obtain ⟨_, _, _, e⟩ := x; exact Heap.lt_size e
  | frz ob u => obtain ⟨e, _⟩ := x; exact Heap.lt_size e
  | tbl ps => exact Heap.lt_size (show h.get? a = some _ from x)
  | met f y => exact Heap.lt_size (show h.get? a = some _ from x)
  | ext φ => obtain ⟨_, ⟨_, e⟩, _⟩ := x; exact Heap.lt_size e
theorem Paired.mapP {α β : Type} {F G : α → β → Prop} : ∀ {l₁ : List α} {l₂ : List β}, Paired F l₁ l₂ → (∀ a b, F a b → G a b) → Paired G l₁ l₂
  | _, _, .nil, _ => .nil
  | _, _, .cons r t, f => .cons (f _ _ r) (Paired.mapP t f)
/-- what an object's description leans on: its own object, its own dict, the tuples -/
theorem ObjOk.stay (x : ObjOk P w H h a o) (k : ∀ b u, (b = a ∨ H b = some (.own a)) → h.get? b = some u → h'.get? b = some u)
    (ho : ∀ b, H b = some (.own a) → H' b = some (.own a)) (ht : ∀ b xs, H b = some (.tup xs) → H' b = some (.tup xs)) : ObjOk P w H' h' a o := by
  induction o with
  | lst xs => obtain ⟨z, its, n, r, e⟩ := x; exact ⟨z, its, n, r, k _ _ (.inl rfl) e⟩
  | tup xs => obtain ⟨z, its, r, ob, e, c⟩ := x; exact ⟨z, its, r, ob, k _ _ (.inl rfl) e, c⟩
  | dK kvs => obtain ⟨z, y, vs, r, ob, es, ep, e, c⟩ := x; exact ⟨z, y, vs, r, ob, es, ep, k _ _ (.inl rfl) e, c⟩
  | dT kvs =>
    obtain ⟨z, y, xs, r, ob, es, ep, e, c⟩ := x
    exact ⟨z, y, xs, Paired.mapP r fun p q z => ⟨z.1, ht _ _ z.2.1, z.2.2⟩, ob, es, ep, k _ _ (.inl rfl) e, c⟩
  | set S n => obtain ⟨ob, es, ep, t, e, c⟩ := x; exact ⟨ob, es, ep, t, k _ _ (.inl rfl) e, c⟩
  | ins C dx fs =>
    obtain ⟨d, z, ne, e, mA, ⟨od, es, ep, e2, c⟩, r⟩ := x
    exact ⟨ho _ d, z, ne, k _ _ (.inl rfl) e, mA, ⟨od, es, ep, k _ _ (.inr d) e2, c⟩, r⟩
  | own y => obtain ⟨ob, e⟩ := x; exact ⟨ob, k _ _ (.inl rfl) e⟩
  | xd fs => obtain ⟨mA, ⟨od, es, ep, e, c⟩, r⟩ := x; exact ⟨mA, ⟨od, es, ep, k _ _ (.inl rfl) e, c⟩, r⟩
  | rng lo hi => obtain ⟨t, u, v, e⟩ := x; exact ⟨t, u, v, k _ _ (.inl rfl) e⟩
  | frz ob u ih => obtain ⟨e, q⟩ := x; exact ⟨k _ _ (.inl rfl) e, ih q⟩
  | tbl ps =>
    have e : h.get? a = some { cls := .none, data := .fields ps } := x
    show h'.get? a = some { cls := .none, data := .fields ps }
    exact k a _ (.inl rfl) e
  | met f y =>
    have e : h.get? a = some (PySem.W.methodObj (.ref f) (.ref y)) := x
    show h'.get? a = some (PySem.W.methodObj (.ref f) (.ref y))
    exact k a _ (.inl rfl) e
  | ext φ => obtain ⟨p, ⟨o, e⟩, st⟩ := x; exact ⟨st _ _ p fun o q => k _ _ (.inl rfl) q, ⟨o, k _ _ (.inl rfl) e⟩, st⟩
theorem HOk.lt (x : HOk P w H h) (e : H a = some o) : a < h.objs.size := (x a o e).lt
theorem HOk.fresh (x : HOk P w H h) (e : h.objs.size ≤ a) : H a = none := by
  cases q : H a with
  | none => rfl
  | some u => exact absurd (Nat.lt_of_lt_of_le (x.lt q) e) (Nat.lt_irrefl _)
/-- every object of the heap is kept -/
theorem HOk.kept (x : HOk P w H h) (k : ∀ b u, h.get? b = some u → h'.get? b = some u) : HOk P w H h' := fun a o e =>
  (x a o e).stay (fun b u _ q => k b u q) (fun _ q => q) fun _ _ q => q
/-- a new object is laid and tracked -/
theorem HOk.laid (x : HOk P w H h) (k : ∀ b u, h.get? b = some u → h'.get? b = some u) (hp : h.objs.size ≤ a) (new : ObjOk P w (upd H a o) h' a o) : HOk P w (upd H a o) h' := fun b u e => by
  have hn := x.fresh hp
  by_cases hb : b = a
  · subst hb; rw [upd_same] at e; cases e; exact new
  · rw [upd_ne hb] at e
    exact (x b u e).stay (fun c v _ q => k c v q) (fun c q => by rw [upd_ne (ne_of_none q hn)]; exact q) fun c xs q => by rw [upd_ne (ne_of_none q hn)]; exact q
end

/-- what may be read as u: it is u, or a known u -/
def Rd (H : Hp) (a : Addr) (u : HO) : Prop := H a = some u ∨ ∃ o, H a = some (.frz o u)
theorem Rd.of {H : Hp} {a : Addr} {u : HO} (h : H a = some u) : Rd H a u := .inl h
theorem Rd.ok {P : Program} {w : World} {H : Hp} {h : Heap} {a : Addr} {u : HO} (r : Rd H a u) (x : HOk P w H h) : ObjOk P w H h a u := by
  rcases r with r | ⟨o, r⟩
  · exact x a u r
  · obtain ⟨_, q⟩ := x a _ r
    exact q
/-- what may be written -/
def Mut : Option HO → Prop
  | some (.lst _) => True
  | some (.dK _) => True
  | some (.dT _) => True
  | some (.set _ _) => True
  | some (.ins _ _ _) => True
  | some (.ext _) => True
  | _ => False
section
variable {P : Program} {w : World} {H : Hp} {h h' : Heap} {x e : Addr} {o' : HO}
/-- the object at e is changed: x itself, or the dict of the instance x -/
theorem HOk.write (ok : HOk P w H h) (mu : Mut (H x)) (he : e = x ∨ H e = some (.own x)) (k : ∀ b u, b ≠ e → h.get? b = some u → h'.get? b = some u) (heo : ∃ u, h'.get? e = some u)
    (new : ObjOk P w (upd H x o') h' x o') : HOk P w (upd H x o') h' := fun b u q => by
  have nown : ∀ c y, H c = some (.own y) → c ≠ x := fun c y r z => by subst z; rw [r] at mu; exact mu
  have ntup : ∀ c xs, H c = some (.tup xs) → c ≠ x := fun c xs r z => by subst z; rw [r] at mu; exact mu
  by_cases hb : b = x
  · subst hb; rw [upd_same] at q; cases q; exact new
  · rw [upd_ne hb] at q
    by_cases hbe : b = e
    · have q' : H b = some (.own x) := by
        rcases he with z | z
        · exact absurd (hbe.trans z) hb
        · rw [hbe]; exact z
      rw [q] at q'; cases q'
      obtain ⟨v, hv⟩ := heo
      exact ⟨v, by rw [hbe]; exact hv⟩
    · refine (ok b u q).stay (fun c v hc r => k c v ?_ r) (fun c r => by rw [upd_ne (nown c b r)]; exact r) fun c xs r => by rw [upd_ne (ntup c xs r)]; exact r
      rcases hc with rfl | hc
      · exact hbe
      · rintro rfl
        rcases he with z | z
        · exact nown c b hc z
        · rw [hc] at z; cases z; exact hb rfl
end

/-! ### kept unless tracked; of the frames at fs (the callers') the slots may change (an exception that passes writes there); of the records at ex (iterators) nothing is said -/
structure Un (fs ex : List Addr) (H H' : Hp) (h h' : Heap) : Prop where
  keep : ∀ b o, h.get? b = some o → H b = none → b ∉ fs → b ∉ ex → h'.get? b = some o
  slot : ∀ b o, h.get? b = some o → H b = none → b ∈ fs → b ∉ ex → ∃ sl, h'.get? b = some { o with slots := sl }
  free : ∀ b o, h.get? b = some o → H b = none → b ∉ ex → H' b = none
  there : ∀ b o, h.get? b = some o → b ∉ ex → ∃ o', h'.get? b = some o'
  tups : ∀ b xs, H b = some (.tup xs) → H' b = some (.tup xs)
  frzs : ∀ b o u, H b = some (.frz o u) → H' b = some (.frz o u)
  tbls : ∀ b ps, H b = some (.tbl ps) → ∃ more, H' b = some (.tbl (ps ++ more))
section
variable {fs fs' ex ex' : List Addr} {H H1 H2 : Hp} {h h1 h2 h' : Heap} {a x e : Addr} {o : HO}
theorem Un.any (u : Un fs ex H H1 h h1) {b : Addr} {ob : Obj} (q : h.get? b = some ob) (n : H b = none) (hx : b ∉ ex) : ∃ sl, h1.get? b = some { ob with slots := sl } := by
  by_cases hb : b ∈ fs
  · exact u.slot b ob q n hb hx
  · exact ⟨ob.slots, u.keep b ob q n hb hx⟩
theorem Un.trans (a : Un fs ex H H1 h h1) (b : Un fs ex H1 H2 h1 h2) : Un fs ex H H2 h h2 where
  keep := fun c ob q n hc hx => b.keep c ob (a.keep c ob q n hc hx) (a.free c ob q n hx) hc hx
  slot := fun c ob q n hc hx => by
    obtain ⟨sl, e1⟩ := a.slot c ob q n hc hx
    obtain ⟨sl', e2⟩ := b.slot c _ e1 (a.free c ob q n hx) hc hx
    exact ⟨sl', e2⟩
  free := fun c ob q n hx => by
    obtain ⟨o', e1⟩ := a.there c ob q hx
    exact b.free c o' e1 (a.free c ob q n hx) hx
  there := fun c ob q hx => by
    obtain ⟨o', e1⟩ := a.there c ob q hx
    exact b.there c o' e1 hx
  tups := fun c xs q => b.tups c xs (a.tups c xs q)
  frzs := fun c ob xs q => b.frzs c ob xs (a.frzs c ob xs q)
  tbls := fun c ps q => by
    obtain ⟨m1, e1⟩ := a.tbls c ps q
    obtain ⟨m2, e2⟩ := b.tbls c _ e1
    exact ⟨m1 ++ m2, by rw [e2, Array.append_assoc]⟩
theorem Un.kept (k : ∀ b u, h.get? b = some u → h'.get? b = some u) : Un fs ex H H h h' :=
  ⟨fun b ob q _ _ _ => k b ob q, fun b ob q _ _ _ => ⟨ob.slots, k b ob q⟩, fun _ _ _ n _ => n, fun b ob q _ => ⟨ob, k b ob q⟩, fun _ _ q => q, fun _ _ _ q => q, fun _ ps q => ⟨#[], by rw [q]; simp⟩⟩
theorem Un.refl : Un fs ex H H h h := Un.kept fun _ _ q => q
theorem Un.laid (k : ∀ b u, h.get? b = some u → h'.get? b = some u) (hp : h.objs.size ≤ a) (hn : H a = none) : Un fs ex H (upd H a o) h h' where
  keep := fun b u q _ _ _ => k b u q
  slot := fun b u q _ _ _ => ⟨u.slots, k b u q⟩
  free := fun b u q n _ => by rw [upd_ne (Nat.ne_of_lt (Nat.lt_of_lt_of_le (Heap.lt_size q) hp))]; exact n
  there := fun b u q _ => ⟨u, k b u q⟩
  tups := fun b xs q => by rw [upd_ne (ne_of_none q hn)]; exact q
  frzs := fun b u xs q => by rw [upd_ne (ne_of_none q hn)]; exact q
  tbls := fun b ps q => ⟨#[], by rw [upd_ne (ne_of_none q hn), q]; simp⟩
theorem Un.write (mu : Mut (H x)) (he : e = x ∨ H e = some (.own x)) (k : ∀ b u, b ≠ e → h.get? b = some u → h'.get? b = some u) (heo : ∃ u, h'.get? e = some u) : Un fs ex H (upd H x o) h h' := by
  have hx : ∀ b, H b = none → b ≠ x := fun b n z => by subst z; rw [n] at mu; exact mu
  have hb : ∀ b, H b = none → b ≠ e := fun b n z => by
    subst z
    rcases he with r | r
    · exact hx b n r
    · rw [n] at r; cases r
  have hm : ∀ b u, H b = some u → ¬ Mut (some u) → b ≠ x := fun b u q nm z => by subst z; rw [q] at mu; exact nm mu
  refine ⟨fun b u q n _ _ => k b u (hb b n) q, fun b u q n _ _ => ⟨u.slots, k b u (hb b n) q⟩, fun b u q n _ => by rw [upd_ne (hx b n)]; exact n, fun b u q _ => ?_,
    fun b xs q => by rw [upd_ne (hm b _ q fun z => z)]; exact q, fun b u xs q => by rw [upd_ne (hm b _ q fun z => z)]; exact q, fun b ps q => ⟨#[], by rw [upd_ne (hm b _ q fun z => z), q]; simp⟩⟩
  by_cases hbe : b = e
  · subst hbe; exact heo
  · exact ⟨u, k b u hbe q⟩
theorem Un.mono (u : Un fs ex H H1 h h1) (hs : ∀ b ∈ fs, b ∈ fs') (hx : ∀ b ∈ ex, b ∈ ex') : Un fs' ex' H H1 h h1 :=
  ⟨fun b ob q n hb he => u.keep b ob q n (fun z => hb (hs b z)) fun z => he (hx b z), fun _ _ q n _ he => u.any q n fun z => he (hx _ z), fun b ob q n he => u.free b ob q n fun z => he (hx b z), fun b ob q he => u.there b ob q fun z => he (hx b z), u.tups, u.frzs, u.tbls⟩
end

/-! ### the heap without what is tracked -/
def trk (h : Heap) (H : Hp) : List Addr := (List.range h.objs.size).filter fun a => (H a).isSome
def hidT (h : Heap) (H : Hp) : Heap := PySem.W.hideAll h (trk h H)
theorem hidT_size (h : Heap) (H : Hp) : (hidT h H).objs.size = h.objs.size := PySem.W.hideAll_size _ _
theorem hidT_get {h : Heap} {H : Hp} {b : Addr} {o : Obj} (e : h.get? b = some o) (n : H b = none) : (hidT h H).get? b = some o :=
  PySem.W.hideAll_get _ e fun hm => by
    have q : (H b).isSome = true := (List.mem_filter.mp hm).2
    rw [n] at q; simp at q
theorem of_hidT {h : Heap} {H : Hp} {b : Addr} {o : Obj} (e : (hidT h H).get? b = some o) : h.get? b = some o ∧ H b = none := by
  have e' : h.get? b = some o := PySem.W.of_hideAll (trk h H) e
  refine ⟨e', ?_⟩
  cases q : H b with
  | none => rfl
  | some x =>
    have hm : b ∈ trk h H := List.mem_filter.mpr ⟨List.mem_range.mpr (Heap.lt_size e'), by simp [q]⟩
    have z : (hidT h H).get? b = none := PySem.W.hideAll_none (trk h H) hm
    rw [z] at e; cases e

/-! ### OpenK's ledger, filled with every new object but one -/
def allNews (g h : Heap) (L : Addr) : List (Addr × Obj) := (List.range h.objs.size).filterMap fun a => if a = L ∨ (g.get? a).isSome = true then none else (h.get? a).map fun o => (a, o)
def rest (g h : Heap) (L d : Addr) : List (Addr × Obj) := (allNews g h L).filter fun p => decide (p.1 ≠ d)
end L2

namespace L2
open PySem PySem.Spec PyProof.Rows

/-- the module's facts, over the base: the heap at the law's entry without what is tracked there -/
structure Mod (K : PySem.W.Frag) (mg : Str → Option Value) (base : Heap) : Prop where
  kin : K.In base
  glob : base.Ns mainGlobals mg
  blt : ∃ mb, base.Ns builtinsNs mb ∧ ∀ x : Str, x ≠ "__name__" → mb x = bootBuiltins x
  nolimit : base.NoLimit

/-- the context: a def's body (or a comprehension's block) running. base: fixed through the whole law; s₀, H₀: the entry; outer: the frames whose slots others may change (a def's callers); stack: all frames that run;
   ex: iterators that were made ahead of the entry and are walked here (a comprehension's); fn: the names whose cells were made at the entry (a def: all; a comprehension's block: its own); calm: not within an except suite; pn: pins that every state bears; xe: what is wanted of an exception that leaves the code -/
structure Cx where
  prog : Program
  w : World
  K : PySem.W.Frag
  mg : Str → Option Value
  base : Heap
  A : Around
  N : List Str
  s₀ : Shared
  H₀ : Hp
  env : Env
  outer : List Env
  stack : List Env
  ex : List Addr
  fn : Str → Bool
  calm : Bool
  pn : List (Addr × Obj)
  xe : Value → Shared → Prop
/-- the callers' frames -/
def frs (l : List Env) : List Addr := l.filterMap (·.frame)
abbrev Cx.fs (X : Cx) : List Addr := frs X.outer

def Vis (sc : Scope) (x : Str) : Prop := sc.names.lookup x = some .local ∨ sc.names.lookup x = some .cell ∨ sc.names.lookup x = some .free
def Loc (sc : Scope) (x : Str) : Prop := sc.names.lookup x = some .local ∨ sc.names.lookup x = some .cell
def Look (env : Env) (h : Heap) (m : Str → Option Value) (x : Str) (u : Value) : Prop :=
  (env.kindOf x = some .local ∧ m x = some u) ∨ ((env.kindOf x = some .cell ∨ env.kindOf x = some .free) ∧ ∃ c, env.cells.lookup x = some c ∧ h.IsCell c (some u))

structure Cx.Ok (X : Cx) : Prop where
  mod : Mod X.K X.mg X.base
  kind : X.env.scope.kind = .function
  glob : X.env.globals = mainGlobals
  blt : X.env.builtins = builtinsNs
  above : X.s₀.heap.objs.size ≤ X.env.locals
  inj : ∀ x y c, X.env.cells.lookup x = some c → X.env.cells.lookup y = some c → x = y
  has : ∀ x, (X.env.kindOf x = some .cell ∨ X.env.kindOf x = some .free) → ∃ c, X.env.cells.lookup x = some c
  cab : ∀ x c, X.fn x = true → X.env.cells.lookup x = some c → X.s₀.heap.objs.size ≤ c
  hd : X.calm = true → X.A.handled = none
  frames : X.A.frames = some X.stack
  stk : X.stack = X.outer ∨ (X.stack = X.env :: X.outer ∧ X.env.frame = some X.env.locals)
  exf : ∀ b ∈ X.ex, b ≠ X.env.locals ∧ ∀ x c, X.env.cells.lookup x = some c → c ≠ b
  bs : ∀ b o, X.base.get? b = some o → X.s₀.heap.get? b = some o ∧ X.H₀ b = none
  bsz : X.base.objs.size ≤ X.s₀.heap.objs.size
  noex : ∀ b o, X.base.get? b = some o → b ∉ X.ex
  exfs : ∀ b ∈ X.ex, b ∉ X.fs
  funs : X.s₀.heap.FunFrames X.base X.outer
  frf : ∀ b ∈ X.fs, X.H₀ b = none

structure Inv (X : Cx) (pins : List (Addr × Obj)) (σ : List (Option V)) (H : Hp) (s : Shared) : Prop where
  ok : X.Ok
  os : s.os = X.s₀.os
  bare : AllBare s.gens
  base : Un X.fs X.ex X.H₀ H X.s₀.heap s.heap
  loc : ∃ m, s.heap.Ns X.env.locals m ∧ ∀ (i : Nat) (x : Str) (v : V), X.N[i]? = some x → σ[i]? = some (some v) → Vis X.env.scope x → ∃ u, RelV v u ∧ Look X.env s.heap m x u
  cell : ∀ x c, X.env.cells.lookup x = some c → ∃ v, s.heap.IsCell c v
  free : H X.env.locals = none
  freeC : ∀ x c, X.env.cells.lookup x = some c → H c = none
  pin : ∀ p ∈ X.pn ++ pins, s.heap.get? p.1 = some p.2 ∧ H p.1 = none ∧ p.1 ≠ X.env.locals ∧ p.1 ∉ X.fs ∧ ∀ v, p.2.data ≠ .cell v
  hok : HOk X.prog X.w H s.heap
  len : σ.length = X.N.length

section
variable {X : Cx} {pins : List (Addr × Obj)} {σ : List (Option V)} {H H' : Hp} {s : Shared} {h' : Heap}

theorem Cx.Ok.nofr (ok : X.Ok) {b : Addr} {o : Obj} (e : X.base.get? b = some o) : b ∉ X.fs := fun hb => by
  have := (ok.funs.mem hb).1
  rw [e] at this; cases this
theorem Inv.bs (I : Inv X pins σ H s) : ∀ b o, X.base.get? b = some o → s.heap.get? b = some o ∧ H b = none := fun b o e =>
  ⟨I.base.keep b o (I.ok.bs b o e).1 (I.ok.bs b o e).2 (I.ok.nofr e) (I.ok.noex b o e), I.base.free b o (I.ok.bs b o e).1 (I.ok.bs b o e).2 (I.ok.noex b o e)⟩
theorem Inv.bk (I : Inv X pins σ H s) : ∀ b o, X.base.get? b = some o → s.heap.get? b = some o := fun b o e => (I.bs b o e).1
theorem Inv.mod (I : Inv X pins σ H s) : Mod X.K X.mg X.base := I.ok.mod
theorem Inv.kIn (I : Inv X pins σ H s) : X.K.In s.heap := I.ok.mod.kin.keeps I.bk
theorem Inv.nolimit (I : Inv X pins σ H s) : s.heap.NoLimit := I.ok.mod.nolimit.keeps I.bk
/-- the frame over the base: for OpenK's rules (K.In X.base is I.mod.kin) -/
theorem Inv.fr (I : Inv X pins σ H s) : ∃ m, Fr X.base X.env.locals s.heap m :=
  let ⟨m, hn, _⟩ := I.loc
  ⟨m, hn, I.bk, Nat.le_trans I.ok.bsz I.ok.above⟩
theorem Inv.lt (I : Inv X pins σ H s) : X.env.locals < s.heap.objs.size := let ⟨_, hn, _⟩ := I.loc; hn.lt
theorem Inv.sz (I : Inv X pins σ H s) : X.s₀.heap.objs.size ≤ s.heap.objs.size := Nat.le_trans I.ok.above (Nat.le_of_lt I.lt)
theorem Inv.nofs (I : Inv X pins σ H s) {a : Addr} (h : s.heap.objs.size ≤ a) : a ∉ X.fs := fun hb => by
  obtain ⟨_, o, ho, _⟩ := I.ok.funs.mem hb
  exact absurd (Nat.lt_of_lt_of_le (Heap.lt_size ho) (Nat.le_trans I.sz h)) (Nat.lt_irrefl _)
theorem Inv.cne (I : Inv X pins σ H s) : ∀ x c, X.env.cells.lookup x = some c → c ≠ X.env.locals := fun x c e z => by
  obtain ⟨v, o, ho, hd⟩ := I.cell x c e
  obtain ⟨m, ⟨o', es, ep, ho', hd', _⟩, _⟩ := I.loc
  rw [z, ho'] at ho; cases ho; rw [hd'] at hd; cases hd
theorem Inv.funs (I : Inv X pins σ H s) : s.heap.FunFrames X.base X.outer := by
  have all : ∀ (l : List Env), (∀ b ∈ frs l, b ∈ X.fs) → X.s₀.heap.FunFrames X.base l → s.heap.FunFrames X.base l := by
    intro l
    induction l with
    | nil => intro _ _; trivial
    | cons env r ih =>
      intro hs hl
      obtain ⟨hk, ⟨L, o, hf, hn, ho, hd⟩, hr⟩ := hl
      have hL : L ∈ X.fs := hs L (by unfold frs; rw [List.filterMap_cons, hf]; exact List.mem_cons_self)
      obtain ⟨sl, e⟩ := I.base.slot L o ho (I.ok.frf L hL) hL fun z => I.ok.exfs L z hL
      exact ⟨hk, ⟨L, _, hf, hn, e, hd⟩, ih (fun b hb => hs b (by unfold frs; rw [List.filterMap_cons, hf]; exact List.mem_cons_of_mem _ hb)) hr⟩
  exact all X.outer (fun _ hb => hb) I.ok.funs

/-- the frames that run, for a call -/
theorem Inv.stack (I : Inv X pins σ H s) : s.heap.FunFrames X.base X.stack := by
  rcases I.ok.stk with e | ⟨e, hf⟩
  · rw [e]; exact I.funs
  · rw [e]
    obtain ⟨m, hn, _⟩ := I.loc
    refine .cons (by rw [I.ok.kind]; decide) hf hn ?_ I.funs
    exact Heap.get?_none_of_le (Nat.le_trans I.ok.bsz I.ok.above)
theorem Inv.stkSub (I : Inv X pins σ H s) : ∀ b ∈ frs X.stack, b ∈ X.env.locals :: X.fs := fun b hb => by
  rcases I.ok.stk with e | ⟨e, hf⟩
  · rw [e] at hb; exact List.mem_cons_of_mem _ hb
  · rw [e] at hb
    unfold frs at hb
    rw [List.filterMap_cons, hf] at hb
    exact hb
theorem Inv.stkFree (I : Inv X pins σ H s) : ∀ b ∈ frs X.stack, H b = none := fun b hb => by
  rcases List.mem_cons.mp (I.stkSub b hb) with e | hb
  · rw [e]; exact I.free
  · obtain ⟨_, o, ho, _⟩ := I.ok.funs.mem hb
    exact I.base.free b o ho (I.ok.frf b hb) fun z => I.ok.exfs b z hb

/-- THE STEP: the untracked objects but the frame and the records at ch are kept (the callers' frames up to slots), the frame's map is kept, the new abstract heap is held -/
theorem Inv.step {g' : Array GenState} {t' : Nat} {d' : Drawn} {ch : List Addr} (I : Inv X pins σ H s)
    (hch : ∀ b ∈ ch, (b ∈ X.ex ∨ X.s₀.heap.objs.size ≤ b) ∧ b ≠ X.env.locals ∧ (∀ x c, X.env.cells.lookup x = some c → c ≠ b) ∧ ∀ p ∈ X.pn ++ pins, p.1 ≠ b)
    (keep : ∀ b o, b ≠ X.env.locals → b ∉ X.fs → b ∉ ch → s.heap.get? b = some o → H b = none → h'.get? b = some o)
    (slot : ∀ b o, b ≠ X.env.locals → b ∈ X.fs → b ∉ ch → s.heap.get? b = some o → H b = none → ∃ sl, h'.get? b = some { o with slots := sl }) (free : ∀ b o, b ∉ ch → s.heap.get? b = some o → H b = none → H' b = none)
    (there : ∀ b o, b ∉ ch → s.heap.get? b = some o → ∃ o', h'.get? b = some o')
    (tups : ∀ b xs, H b = some (.tup xs) → H' b = some (.tup xs)) (frzs : ∀ b o u, H b = some (.frz o u) → H' b = some (.frz o u)) (tbls : ∀ b ps, H b = some (.tbl ps) → ∃ more, H' b = some (.tbl (ps ++ more)))
    (ns : ∀ m, s.heap.Ns X.env.locals m → h'.Ns X.env.locals m) (hok : HOk X.prog X.w H' h') (hg : AllBare g') :
    Inv X pins σ H' { s with heap := h', gens := g', drawn := d', toks := t' } := by
  have neL : ∀ b o, X.s₀.heap.get? b = some o → b ≠ X.env.locals := fun b o e => Nat.ne_of_lt (Nat.lt_of_lt_of_le (Heap.lt_size e) I.ok.above)
  have neC : ∀ b o, X.s₀.heap.get? b = some o → b ∉ X.ex → b ∉ ch := fun b o e hx hb => by
    rcases (hch b hb).1 with z | z
    · exact hx z
    · exact absurd (Nat.lt_of_lt_of_le (Heap.lt_size e) z) (Nat.lt_irrefl _)
  have cellK : ∀ x c, X.env.cells.lookup x = some c → ∀ v, s.heap.IsCell c v → h'.IsCell c v := fun x c e v ⟨o, ho, hd⟩ => by
    have nch : c ∉ ch := fun z => (hch c z).2.2.1 x c e rfl
    by_cases hc : c ∈ X.fs
    · obtain ⟨sl, q⟩ := slot c o (I.cne x c e) hc nch ho (I.freeC x c e)
      exact ⟨_, q, hd⟩
    · exact ⟨o, keep c o (I.cne x c e) hc nch ho (I.freeC x c e), hd⟩
  refine ⟨I.ok, I.os, hg, ⟨fun b o e n hb hx => ?_, fun b o e n hb hx => ?_, fun b o e n hx => ?_, fun b o e hx => ?_, fun b xs e => tups b xs (I.base.tups b xs e), fun b o xs e => frzs b o xs (I.base.frzs b o xs e), fun b ps e => ?_⟩, ?_, fun x c e => ?_, ?_, fun x c e => ?_, fun p hp => ?_, hok, I.len⟩
  · exact keep b o (neL b o e) hb (neC b o e hx) (I.base.keep b o e n hb hx) (I.base.free b o e n hx)
  · obtain ⟨sl, e1⟩ := I.base.slot b o e n hb hx
    obtain ⟨sl', e2⟩ := slot b _ (neL b o e) hb (neC b o e hx) e1 (I.base.free b o e n hx)
    exact ⟨sl', e2⟩
  · obtain ⟨o', e1⟩ := I.base.there b o e hx
    exact free b o' (neC b o e hx) e1 (I.base.free b o e n hx)
  · obtain ⟨o', e1⟩ := I.base.there b o e hx
    exact there b o' (neC b o e hx) e1
  · obtain ⟨m1, e1⟩ := I.base.tbls b ps e
    obtain ⟨m2, e2⟩ := tbls b _ e1
    exact ⟨m1 ++ m2, by rw [e2, Array.append_assoc]⟩
  · obtain ⟨m, hn, hl⟩ := I.loc
    refine ⟨m, ns m hn, fun i x v e1 e2 e3 => ?_⟩
    obtain ⟨u, r, l⟩ := hl i x v e1 e2 e3
    refine ⟨u, r, ?_⟩
    rcases l with l | ⟨k, c, e, z⟩
    · exact .inl l
    · exact .inr ⟨k, c, e, cellK x c e _ z⟩
  · obtain ⟨v, z⟩ := I.cell x c e
    exact ⟨v, cellK x c e v z⟩
  · obtain ⟨m, ⟨o, _, _, ho, _⟩, _⟩ := I.loc
    exact free _ o (fun z => (hch _ z).2.1 rfl) ho I.free
  · obtain ⟨v, o, ho, hd⟩ := I.cell x c e
    exact free c o (fun z => (hch c z).2.2.1 x c e rfl) ho (I.freeC x c e)
  · obtain ⟨e, n, ne, nf, d⟩ := I.pin p hp
    have nch : p.1 ∉ ch := fun z => (hch p.1 z).2.2.2 p hp rfl
    exact ⟨keep p.1 p.2 ne nf nch e n, free p.1 p.2 nch e n, ne, nf, d⟩
/-- .. where the frame's own object is kept too -/
theorem Inv.un {t' : Nat} (I : Inv X pins σ H s) (u : Un X.fs [] H H' s.heap h') (hok : HOk X.prog X.w H' h') : Inv X pins σ H' { s with heap := h', toks := t' } := by
  obtain ⟨m, ⟨o, es, ep, ho, r⟩, _⟩ := id I.loc
  obtain ⟨sl, hL⟩ := u.any ho I.free (by simp)
  exact I.step (g' := s.gens) (d' := s.drawn) (ch := []) (fun _ z => nomatch z) (fun b o _ hb _ e n => u.keep b o e n hb (by simp)) (fun b o _ hb _ e n => u.slot b o e n hb (by simp)) (fun b o _ e n => u.free b o e n (by simp)) (fun b o _ e => u.there b o e (by simp)) u.tups u.frzs u.tbls (fun m' hm => by
    obtain ⟨o', es', ep', ho', r'⟩ := hm
    rw [ho] at ho'; cases ho'
    exact ⟨_, es', ep', hL, r'⟩) hok I.bare
/-- behind a call (or a comprehension's block): the slots of this frame may have changed too, the records at ch may have turned -/
theorem Inv.call {g' : Array GenState} {t' : Nat} {d' : Drawn} {ch : List Addr} (I : Inv X pins σ H s) (u : Un (frs X.stack) ch H H' s.heap h') (hok : HOk X.prog X.w H' h') (hg : AllBare g')
    (hch : ∀ b ∈ ch, (b ∈ X.ex ∨ X.s₀.heap.objs.size ≤ b) ∧ b ≠ X.env.locals ∧ (∀ x c, X.env.cells.lookup x = some c → c ≠ b) ∧ ∀ p ∈ X.pn ++ pins, p.1 ≠ b) :
    Inv X pins σ H' { s with heap := h', gens := g', drawn := d', toks := t' } := by
  obtain ⟨m, ⟨o, es, ep, ho, r⟩, _⟩ := id I.loc
  obtain ⟨sl, hL⟩ := u.any ho I.free fun z => (hch _ z).2.1 rfl
  exact I.step (ch := ch) hch (fun b o hL hb hc e n => u.keep b o e n (fun z => (List.mem_cons.mp (I.stkSub b z)).elim hL hb) hc) (fun b o _ _ hc e n => u.any e n hc) (fun b o hc e n => u.free b o e n hc) (fun b o hc e => u.there b o e hc) u.tups u.frzs u.tbls (fun m' hm => by
    obtain ⟨o', es', ep', ho', r'⟩ := hm
    rw [ho] at ho'; cases ho'
    exact ⟨_, es', ep', hL, r'⟩) hok hg
/-- an untracked record of ours (an iterator) has turned -/
theorem Inv.turned {t' : Nat} {it : Addr} (I : Inv X pins σ H s) (k : ∀ b o, b ≠ it → s.heap.get? b = some o → h'.get? b = some o) (hn : H it = none) (hL : it ≠ X.env.locals)
    (h1 : it ∈ X.ex ∨ X.s₀.heap.objs.size ≤ it) (h2 : ∀ x c, X.env.cells.lookup x = some c → c ≠ it) (h3 : ∀ p ∈ X.pn ++ pins, p.1 ≠ it) : Inv X pins σ H { s with heap := h', toks := t' } := by
  have nit : ∀ b u, H b = some u → b ≠ it := fun b u e z => by rw [z, hn] at e; cases e
  refine I.step (g' := s.gens) (d' := s.drawn) (ch := [it]) (fun b hb => ?_) (fun b o _ _ hc e _ => k b o (fun z => hc (by simp [z])) e) (fun b o _ _ hc e _ => ⟨o.slots, k b o (fun z => hc (by simp [z])) e⟩) (fun _ _ _ _ n => n)
    (fun b o hc e => ⟨o, k b o (fun z => hc (by simp [z])) e⟩) (fun _ _ e => e) (fun _ _ _ e => e) (fun b ps e => ⟨#[], by rw [e]; simp⟩) (fun m hm => ?_) (fun b u e => ?_) I.bare
  · have e : b = it := by simpa using hb
    subst e
    exact ⟨h1, hL, h2, h3⟩
  · obtain ⟨o, es, ep, ho, r⟩ := hm
    exact ⟨o, es, ep, k _ o (Ne.symm hL) ho, r⟩
  · refine (I.hok b u e).stay (fun c v hc q => k c v ?_ q) (fun _ q => q) fun _ _ q => q
    rcases hc with z | z
    · rw [z]; exact nit b u e
    · exact nit c _ z
theorem Inv.tok (I : Inv X pins σ H s) (t : Nat) : Inv X pins σ H { s with toks := t } := I.un (h' := s.heap) (t' := t) Un.refl I.hok
/-- all objects kept -/
theorem Inv.kept {t' : Nat} (I : Inv X pins σ H s) (k : ∀ b u, s.heap.get? b = some u → h'.get? b = some u) : Inv X pins σ H { s with heap := h', toks := t' } := I.un (Un.kept k) (I.hok.kept k)
/-- a new object laid and tracked -/
theorem Inv.laid {a : Addr} {o : HO} {t' : Nat} (I : Inv X pins σ H s) (k : ∀ b u, s.heap.get? b = some u → h'.get? b = some u) (hp : s.heap.objs.size ≤ a) (new : ObjOk X.prog X.w (upd H a o) h' a o) :
    Inv X pins σ (upd H a o) { s with heap := h', toks := t' } := I.un (Un.laid k hp (I.hok.fresh hp)) (I.hok.laid k hp new)
/-- an object written -/
theorem Inv.write {x e : Addr} {o : HO} {t' : Nat} (I : Inv X pins σ H s) (mu : Mut (H x)) (he : e = x ∨ H e = some (.own x)) (k : ∀ b u, b ≠ e → s.heap.get? b = some u → h'.get? b = some u) (heo : ∃ u, h'.get? e = some u)
    (new : ObjOk X.prog X.w (upd H x o) h' x o) : Inv X pins σ (upd H x o) { s with heap := h', toks := t' } := I.un (Un.write mu he k heo) (I.hok.write mu he k heo new)
theorem Inv.pins_of {pins' : List (Addr × Obj)} (I : Inv X pins σ H s) (h : ∀ p ∈ pins', s.heap.get? p.1 = some p.2 ∧ H p.1 = none ∧ p.1 ≠ X.env.locals ∧ p.1 ∉ X.fs ∧ ∀ v, p.2.data ≠ .cell v) : Inv X pins' σ H s :=
  ⟨I.ok, I.os, I.bare, I.base, I.loc, I.cell, I.free, I.freeC, fun p hp => (List.mem_append.mp hp).elim (fun z => I.pin p (List.mem_append_left _ z)) (h p), I.hok, I.len⟩

theorem nodup_ix {N : List Str} (hN : N.Nodup) {i j : Nat} {x : Str} (a : N[i]? = some x) (b : N[j]? = some x) : i = j := by
  obtain ⟨h1, e1⟩ := List.getElem?_eq_some_iff.mp a
  obtain ⟨h2, e2⟩ := List.getElem?_eq_some_iff.mp b
  exact (List.getElem_inj hN).mp (e1.trans e2.symm)

/-- a name is stored; what changed -/
theorem store_ok2 {M : Model} {A : Around} {E : Value → Shared → Prop} {i : Nat} {x : Str} {v : V} {u : Value} {Q : Unit → Shared → Prop} (I : Inv X pins σ H s) (hN : X.N.Nodup) (hi : X.N[i]? = some x) (hx : Loc X.env.scope x) (r : RelV v u)
    (h : ∀ s', Inv X pins (σ.set i (some v)) H s' → (∃ a, Heap.SameBut a s.heap s'.heap ∧ (a = X.env.locals ∨ X.env.cells.lookup x = some a)) → Q () s') (hf : X.fn x = true ∨ X.env.scope.names.lookup x = some .local := by first | exact .inl rfl | exact .inr rfl | assumption) : wpAny M A (storeName X.env x u) Q E s := by
  obtain ⟨m, hn, hl⟩ := id I.loc
  have hcls : (X.env.scope.kind == .class || (X.env.scope.kind == .module && X.env.locals != X.env.globals)) = false := by rw [I.ok.kind]; rfl
  have hiσ : i < σ.length := by rw [I.len]; exact (List.getElem?_eq_some_iff.mp hi).1
  have cne := I.cne
  have tracked : ∀ {a : Addr} {h' : Heap}, (∃ o, s.heap.get? a = some o ∧ H a = none) → Heap.SameBut a s.heap h' → HOk X.prog X.w H h' := fun {a h'} ha hs b ob e => by
    obtain ⟨_, _, hfree⟩ := ha
    refine (I.hok b ob e).stay (fun c w' hc q => (hs.2 c ?_).trans q) (fun _ q => q) fun _ _ q => q
    rintro rfl
    rcases hc with rfl | hc
    · rw [hfree] at e; cases e
    · rw [hfree] at hc; cases hc
  rcases hx with hk | hk
  · refine wpAny_storeName_local hk hn (fun h' hn' hs => ?_) hcls
    obtain ⟨oL, _, _, hoL, _⟩ := id hn
    refine h _ ⟨I.ok, I.os, I.bare, ⟨fun b o e n hb hx => ?_, fun b o e n hb hx => ?_, I.base.free, fun b o e hx => ?_, I.base.tups, I.base.frzs, I.base.tbls⟩, ⟨_, hn', fun j y v' e1 e2 e3 => ?_⟩, fun y c e => ?_, I.free, I.freeC, fun p hp => ?_, tracked ⟨oL, hoL, I.free⟩ hs, by simpa using I.len⟩ ⟨_, hs, .inl rfl⟩
    · exact (hs.2 b (Nat.ne_of_lt (Nat.lt_of_lt_of_le (Heap.lt_size e) I.ok.above))).trans (I.base.keep b o e n hb hx)
    · obtain ⟨sl, e1⟩ := I.base.slot b o e n hb hx
      exact ⟨sl, (hs.2 b (Nat.ne_of_lt (Nat.lt_of_lt_of_le (Heap.lt_size e) I.ok.above))).trans e1⟩
    · obtain ⟨o', e1⟩ := I.base.there b o e hx
      exact ⟨o', (hs.2 b (Nat.ne_of_lt (Nat.lt_of_lt_of_le (Heap.lt_size e) I.ok.above))).trans e1⟩
    · by_cases hj : j = i
      · subst hj
        rw [hi] at e1; cases e1
        rw [List.getElem?_set_self hiσ] at e2
        cases e2
        exact ⟨u, r, .inl ⟨hk, by simp⟩⟩
      · rw [List.getElem?_set_ne (Ne.symm hj)] at e2
        obtain ⟨u', r', q⟩ := hl j y v' e1 e2 e3
        refine ⟨u', r', ?_⟩
        rcases q with ⟨k, e⟩ | ⟨k, c, e, z⟩
        · refine .inl ⟨k, ?_⟩
          have : y ≠ x := fun e => hj (nodup_ix hN e1 (e ▸ hi))
          simp [this, e]
        · exact .inr ⟨k, c, e, z.sameBut hs (cne y c e)⟩
    · obtain ⟨w', z⟩ := I.cell y c e
      exact ⟨w', z.sameBut hs (cne y c e)⟩
    · obtain ⟨e, n, ne, nf, d⟩ := I.pin p hp
      exact ⟨(hs.2 p.1 ne).trans e, n, ne, nf, d⟩
  · have hfn : X.fn x = true := by
      rcases hf with z | z
      · exact z
      · rw [z] at hk; cases hk
    obtain ⟨c, hc⟩ := I.ok.has x (.inl hk)
    obtain ⟨w', z⟩ := I.cell x c hc
    refine wpAny_storeName_cell I.ok.kind hk hc z (fun h' hc' hs => ?_)
    obtain ⟨oc, hoc, hocd⟩ := id z
    refine h { s with heap := h' } ⟨I.ok, I.os, I.bare, ⟨fun b o e n hb hx => ?_, fun b o e n hb hx => ?_, I.base.free, fun b o e hx => ?_, I.base.tups, I.base.frzs, I.base.tbls⟩, ⟨m, hn.sameBut hs (Ne.symm (cne x c hc)), fun j y v' e1 e2 e3 => ?_⟩, fun y c' e => ?_, I.free, I.freeC, fun p hp => ?_, tracked ⟨oc, hoc, I.freeC x c hc⟩ hs, by simpa using I.len⟩ ⟨c, hs, .inr hc⟩
    · exact (hs.2 b (Nat.ne_of_lt (Nat.lt_of_lt_of_le (Heap.lt_size e) (I.ok.cab x c hfn hc)))).trans (I.base.keep b o e n hb hx)
    · obtain ⟨sl, e1⟩ := I.base.slot b o e n hb hx
      exact ⟨sl, (hs.2 b (Nat.ne_of_lt (Nat.lt_of_lt_of_le (Heap.lt_size e) (I.ok.cab x c hfn hc)))).trans e1⟩
    · obtain ⟨o', e1⟩ := I.base.there b o e hx
      exact ⟨o', (hs.2 b (Nat.ne_of_lt (Nat.lt_of_lt_of_le (Heap.lt_size e) (I.ok.cab x c hfn hc)))).trans e1⟩
    · by_cases hj : j = i
      · subst hj
        rw [hi] at e1; cases e1
        rw [List.getElem?_set_self hiσ] at e2
        cases e2
        exact ⟨u, r, .inr ⟨.inl hk, c, hc, hc'⟩⟩
      · rw [List.getElem?_set_ne (Ne.symm hj)] at e2
        obtain ⟨u', r', q⟩ := hl j y v' e1 e2 e3
        refine ⟨u', r', ?_⟩
        rcases q with q | ⟨k, c', e, z'⟩
        · exact .inl q
        · refine .inr ⟨k, c', e, z'.sameBut hs ?_⟩
          rintro rfl
          exact hj (nodup_ix hN e1 (I.ok.inj _ _ _ e hc ▸ hi))
    · by_cases hcc : c' = c
      · subst hcc; exact ⟨_, hc'⟩
      · obtain ⟨w2, z2⟩ := I.cell y c' e
        exact ⟨w2, z2.sameBut hs hcc⟩
    · obtain ⟨e, n, ne, nf, d⟩ := I.pin p hp
      refine ⟨(hs.2 p.1 ?_).trans e, n, ne, nf, d⟩
      intro q
      rw [q, hoc] at e
      have q' : oc = p.2 := Option.some.inj e
      exact d w' (by rw [← q']; exact hocd)
theorem store_ok {M : Model} {A : Around} {E : Value → Shared → Prop} {i : Nat} {x : Str} {v : V} {u : Value} {Q : Unit → Shared → Prop} (I : Inv X pins σ H s) (hN : X.N.Nodup) (hi : X.N[i]? = some x) (hx : Loc X.env.scope x) (r : RelV v u)
    (h : ∀ s', Inv X pins (σ.set i (some v)) H s' → Q () s') (hf : X.fn x = true ∨ X.env.scope.names.lookup x = some .local := by first | exact .inl rfl | exact .inr rfl | assumption) : wpAny M A (storeName X.env x u) Q E s :=
  store_ok2 I hN hi hx r (fun s' I' _ => h s' I') hf
end

/-! ### the judgements -/
/-- an exception: its class, its own dict's address (where it has one), the abstract heap behind it -/
abbrev XK := Value → Option Addr → Hp → Prop
abbrev St := List (Option V)
abbrev VK := V → Hp → Prop
/-- an expression's reading; a test's; an argument list's -/
abbrev TE := St → Hp → VK → Prop
abbrev TT := St → Hp → (Bool → Hp → Prop) → Prop
abbrev TA := St → Hp → (List V → Hp → Prop) → Prop
/-- what is wanted behind a statement -/
structure Ends where
  nx : St → Hp → Prop
  rt : VK
  bk : St → Hp → Prop := fun _ _ => False
  ct : St → Hp → Prop := fun _ _ => False
abbrev TS := Ends → St → Hp → Prop

def EP (X : Cx) (pins : List (Addr × Obj)) (σ : St) (Q : VK) (u : Value) (s' : Shared) : Prop := ∃ v H', Inv X pins σ H' s' ∧ RelV v u ∧ Q v H'
def TP (X : Cx) (pins : List (Addr × Obj)) (σ : St) (Q : Bool → Hp → Prop) (b : Bool) (s' : Shared) : Prop := ∃ H', Inv X pins σ H' s' ∧ Q b H'
def AP (X : Cx) (pins : List (Addr × Obj)) (σ : St) (Q : List V → Hp → Prop) (us : List Value) (s' : Shared) : Prop := ∃ vs H', Inv X pins σ H' s' ∧ Vals vs us ∧ Q vs H'
def SP (X : Cx) (pins : List (Addr × Obj)) (D : Ends) (f : Flow) (s' : Shared) : Prop :=
  match f with
  | .next => ∃ σ' H', Inv X pins σ' H' s' ∧ D.nx σ' H'
  | .brk => ∃ σ' H', Inv X pins σ' H' s' ∧ D.bk σ' H'
  | .cont => ∃ σ' H', Inv X pins σ' H' s' ∧ D.ct σ' H'
  | .ret u => ∃ v σ' H', Inv X pins σ' H' s' ∧ RelV v u ∧ D.rt v H'

def PE (X : Cx) (e : Expr) (t : TE) : Prop :=
  ∀ (pins : List (Addr × Obj)) (s : Shared) (σ : St) (H : Hp) (Q : VK), Inv X pins σ H s → t σ H Q → wpAny (model X.prog X.w) X.A (eval e X.env) (EP X pins σ Q) X.xe s
def PT (X : Cx) (e : Expr) (t : TT) : Prop :=
  ∀ (pins : List (Addr × Obj)) (s : Shared) (σ : St) (H : Hp) (Q : Bool → Hp → Prop), Inv X pins σ H s → t σ H Q → wpAny (model X.prog X.w) X.A (isTrue e X.env (eval e X.env)) (TP X pins σ Q) X.xe s
/-- a test whatever its 'whole' is (and, or) -/
def PW (X : Cx) (e : Expr) (t : TT) : Prop :=
  ∀ (whole : Sem Value) (pins : List (Addr × Obj)) (s : Shared) (σ : St) (H : Hp) (Q : Bool → Hp → Prop), Inv X pins σ H s → t σ H Q → wpAny (model X.prog X.w) X.A (isTrue e X.env whole) (TP X pins σ Q) X.xe s
theorem PW.pt {X : Cx} {e : Expr} {t : TT} (h : PW X e t) : PT X e t := h _
/-- an argument list (no star), from the left -/
def PA (X : Cx) (es : List Expr) (t : TA) : Prop :=
  ∀ (pos : Pos) (pins : List (Addr × Obj)) (s : Shared) (σ : St) (H : Hp) (Q : List V → Hp → Prop), Inv X pins σ H s → t σ H Q → wpAny (model X.prog X.w) X.A (spliced (backTo pos (starEach es X.env))) (AP X pins σ Q) X.xe s
def PS (X : Cx) (st : Stmt) (t : TS) : Prop :=
  ∀ (pins : List (Addr × Obj)) (s : Shared) (σ : St) (H : Hp) (D : Ends), Inv X pins σ H s → t D σ H → wpAny (model X.prog X.w) X.A (exec st X.env) (SP X pins D) X.xe s
def PSs (X : Cx) (st : List Stmt) (t : TS) : Prop :=
  ∀ (pins : List (Addr × Obj)) (s : Shared) (σ : St) (H : Hp) (D : Ends), Inv X pins σ H s → t D σ H → wpAny (model X.prog X.w) X.A (execs st X.env) (SP X pins D) X.xe s
/-- weaken the end -/
theorem thn {α : Type} {t : Sem α} {Q Q' : α → Shared → Prop} {M : Model} {A : Around} {E : Value → Shared → Prop} {s : Shared} (h : wpAny M A t Q E s) (hQ : ∀ a s, Q a s → Q' a s) : wpAny M A t Q' E s := wpAny_mono h hQ fun _ _ x => x
end L2

namespace L2
open PySem PySem.Spec PyProof.Rows
section
variable {X : Cx}

/-! ### names and constants -/
def tVar (i : Nat) : TE := fun σ H Q => ∃ v, σ[i]? = some (some v) ∧ Q v H
def tC (v : V) : TE := fun _ H Q => Q v H
theorem pe_var {i : Nat} {x : Str} {pos : Pos} (hN : X.N[i]? = some x) (hv : Vis X.env.scope x) (hd : (x == ("__debug__" : Str)) = false := by decide) (hcd : (x == ("__classdict__" : Str)) = false := by decide) : PE X (.Name x pos) (tVar i) := by
  intro pins s σ H Q I h
  obtain ⟨v, e, h⟩ := h
  obtain ⟨m, hn, hl⟩ := I.loc
  obtain ⟨u, r, l⟩ := hl i x v hN e hv
  have fin : EP X pins σ Q u s := ⟨v, H, I, r, h⟩
  rcases l with ⟨hk, hm⟩ | ⟨hk, c, hc, hcell⟩
  · exact wpAny_Name (wpAny_loadName_local I.ok.kind hk hn hm fin) hd
  · rcases hk with hk | hk
    · exact wpAny_Name (wpAny_loadName_cell I.ok.kind hk hc hcell fin) hd
    · exact wpAny_Name (wpAny_loadName_free I.ok.kind hk hc hcell fin hcd) hd
theorem pe_int {i j pos} : PE X (.Constant (.int i) j pos) (tC (.int i)) := fun _ _ _ H _ I h => wpAny_Constant_int ⟨.int i, H, I.tok _, ⟨_, rfl⟩, h⟩
theorem pe_bl {b j pos} : PE X (.Constant (.bool b) j pos) (tC (.bl b)) := fun _ _ _ H _ I h => Constant_bool ⟨.bl b, H, I, rfl, h⟩
/-- a global name of the def -/
def Gl (X : Cx) (x : Str) : Prop := X.env.kindOf x = some .globalImplicit
theorem ld_glob {E : Value → Shared → Prop} {pins : List (Addr × Obj)} {s : Shared} {σ : St} {H : Hp} {x : Str} {u : Value} {pos : Pos} {Q : Value → Shared → Prop} (I : Inv X pins σ H s) (hg : Gl X x) (hm : X.mg x = some u) (h : Q u s)
    (hd : (x == ("__debug__" : Str)) = false := by decide) : wpAny (model X.prog X.w) X.A (eval (.Name x pos) X.env) Q E s :=
  Calls.Name_function_global I.ok.kind hg (Calls.loadGlobal_global (by rw [I.ok.glob]; exact I.mod.glob.keeps I.bk) hm h) hd
theorem ld_blt {E : Value → Shared → Prop} {pins : List (Addr × Obj)} {s : Shared} {σ : St} {H : Hp} {x : Str} {u : Value} {pos : Pos} {Q : Value → Shared → Prop} (I : Inv X pins σ H s) (hg : Gl X x) (hm : X.mg x = none) (hv : bootBuiltins x = some u) (h : Q u s)
    (hn : x ≠ "__name__" := by decide) (hd : (x == ("__debug__" : Str)) = false := by decide) : wpAny (model X.prog X.w) X.A (eval (.Name x pos) X.env) Q E s := by
  obtain ⟨mb, h1, h2⟩ := I.mod.blt
  exact Calls.Name_function_global I.ok.kind hg (Calls.loadGlobal_builtin (by rw [I.ok.glob]; exact I.mod.glob.keeps I.bk) hm (by rw [I.ok.blt]; exact h1.keeps I.bk) ((h2 x hn).trans hv) h) hd
/-- a module's constant, a class, a function, as a value -/
theorem pe_glob {x : Str} {v : V} {u : Value} {pos : Pos} (hg : Gl X x) (hm : X.mg x = some u) (r : RelV v u) (hd : (x == ("__debug__" : Str)) = false := by decide) : PE X (.Name x pos) (tC v) :=
  fun _ _ _ H _ I h => ld_glob I hg hm ⟨v, H, I, r, h⟩ hd
theorem pe_bltn {x : Str} {v : V} {u : Value} {pos : Pos} (hg : Gl X x) (hm : X.mg x = none) (hv : bootBuiltins x = some u) (r : RelV v u) (hn : x ≠ "__name__" := by decide) (hd : (x == ("__debug__" : Str)) = false := by decide) : PE X (.Name x pos) (tC v) :=
  fun _ _ _ H _ I h => ld_blt I hg hm hv ⟨v, H, I, r, h⟩ hn hd

/-! ### arithmetic -/
variable {a b : Expr} {ta tb : TE} {pos : Pos}
/-! ### comparisons -/
/-- a comparison as a value, as a test -/
def tB (t : TE) : TT := fun σ H Q => t σ H fun x H1 => ∃ c, x = .bl c ∧ Q c H1
/-- an expression whose value is a bool, as a test -/
theorem pt_val {e : Expr} {t : TE} (h : PE X e t) (he : ∀ whole, isTrue e X.env whole = (do let v ← whole; standAt e.pos; holding [v] (truthy v)) := by intro _; rfl) : PT X e (tB t) := by
  intro pins s σ H Q I hw
  refine isTrue_plain (thn (h pins s σ H _ I hw) fun v s1 ⟨x, H1, I1, r1, q1⟩ => ?_) (he _)
  obtain ⟨d, rfl, q⟩ := q1
  cases r1
  exact wpAny_truthy_bool ⟨H1, I1, q⟩

/-! ### and, or, not -/
variable {tA tB' : TT} {rest : List Expr}
def tAnd (t u : TT) : TT := fun σ H Q => t σ H fun c H1 => if c = true then u σ H1 Q else Q false H1
def tOr (t u : TT) : TT := fun σ H Q => t σ H fun c H1 => if c = true then Q true H1 else u σ H1 Q
def tNot (t : TT) : TT := fun σ H Q => t σ H fun c H1 => Q (!c) H1
theorem pw_and1 (ha : PT X a tA) : PW X (.BoolOp .And [a] pos) tA := by
  intro wh pins s σ H Q I h
  refine isTrue_and (thn (ha pins s σ H Q I h) fun c s1 e => ?_)
  cases c with
  | true => exact isTrue_and_nil e
  | false => exact e
theorem pw_or1 (ha : PT X a tA) : PW X (.BoolOp .Or [a] pos) tA := by
  intro wh pins s σ H Q I h
  refine isTrue_or (thn (ha pins s σ H Q I h) fun c s1 e => ?_)
  cases c with
  | false => exact isTrue_or_nil e
  | true => exact e
theorem pw_and (ha : PT X a tA) (hb : PW X (.BoolOp .And (b :: rest) pos) tB') : PW X (.BoolOp .And (a :: b :: rest) pos) (tAnd tA tB') := by
  intro wh pins s σ H Q I h
  refine isTrue_and (thn (ha pins s σ H _ I h) fun c s1 ⟨H1, I1, q1⟩ => ?_)
  cases c with
  | true => exact hb wh pins s1 σ H1 Q I1 q1
  | false => exact ⟨H1, I1, q1⟩
theorem pw_or (ha : PT X a tA) (hb : PW X (.BoolOp .Or (b :: rest) pos) tB') : PW X (.BoolOp .Or (a :: b :: rest) pos) (tOr tA tB') := by
  intro wh pins s σ H Q I h
  refine isTrue_or (thn (ha pins s σ H _ I h) fun c s1 ⟨H1, I1, q1⟩ => ?_)
  cases c with
  | true => exact ⟨H1, I1, q1⟩
  | false => exact hb wh pins s1 σ H1 Q I1 q1
theorem pt_not (ha : PT X a tA) : PT X (.UnaryOp .Not a pos) (tNot tA) := by
  intro pins s σ H Q I h
  exact isTrue_not (ha pins s σ H (fun c H1 => Q (!c) H1) I h)
end
end L2

namespace L2
open PySem PySem.Spec PyProof.Rows

/-! ### a list, a tuple that is read: tracked, frozen, or an object of the module -/
def SqL (K : PySem.W.Frag) (H : Hp) (a : Addr) (xs : List V) : Prop :=
  Rd H a (.lst xs) ∨
    ∃ (o : Obj) (its : Array Value) (n : Nat), K.lookup a = some o ∧ o.cls = .type "list" ∧ o.dict = none ∧ o.data = .seq its n ∧ its.size ≤ sizeLine ∧ Vals xs its.toList
def SqT (K : PySem.W.Frag) (H : Hp) (a : Addr) (xs : List V) : Prop :=
  Rd H a (.tup xs) ∨
    ∃ (o : Obj) (its : Array Value) (n : Nat), K.lookup a = some o ∧ o.cls = .type "tuple" ∧ o.data = .seq its n ∧ its.size ≤ sizeLine ∧ Vals xs its.toList
def absV : Value → Option V
  | .none => some .non
  | .bool b => some (.bl b)
  | .int i _ => some (.int i)
  | .str x _ => some (.str x)
  | .bytes b _ => some (.byt b)
  | .float b _ => some (.flt b)
  | .ref a => some (.ref a)
  | .type n => some (.ty n)
  | _ => none
theorem RelV.abs {x : V} {u : Value} (r : RelV x u) : absV u = some x := by
  cases x with
  | non => cases r; rfl
  | bl _ => cases r; rfl
  | int _ => obtain ⟨t, rfl⟩ := r; rfl
  | str _ => obtain ⟨t, rfl⟩ := r; rfl
  | byt _ => obtain ⟨t, rfl⟩ := r; rfl
  | flt _ => obtain ⟨t, rfl⟩ := r; rfl
  | ref _ => cases r; rfl
  | ty _ => cases r; rfl
theorem RelV.inj {x y : V} {u : Value} (r : RelV x u) (q : RelV y u) : x = y := Option.some.inj (r.abs.symm.trans q.abs)
theorem Vals.inj : ∀ {xs ys : List V} {us : List Value}, Vals xs us → Vals ys us → xs = ys
  | _, _, _, .nil, .nil => rfl
  | _, _, _, .cons r t, .cons r' t' => by rw [r.inj r', Vals.inj t t']
section
variable {X : Cx} {pins : List (Addr × Obj)} {σ : St} {H : Hp} {s : Shared} {a : Addr} {xs ys : List V}
theorem SqL.of {K : PySem.W.Frag} (h : H a = some (.lst xs)) : SqL K H a xs := .inl (.inl h)
theorem SqT.of {K : PySem.W.Frag} (h : H a = some (.tup xs)) : SqT K H a xs := .inl (.inl h)
theorem Inv.list (I : Inv X pins σ H s) (h : SqL X.K H a xs) : ∃ its : List Value, Vals xs its ∧ PlainL s.heap a its.toArray ∧ xs.length ≤ sizeLine := by
  rcases h with h | ⟨o, its, n, hk, hc, hd, hs, hz, r⟩
  · obtain ⟨z, its, n, r, e⟩ := h.ok I.hok
    exact ⟨its, r, ⟨_, n, e, rfl, rfl, rfl⟩, z⟩
  · refine ⟨its.toList, r, ⟨o, n, I.kIn a o hk, hc, hd, by simpa using hs⟩, ?_⟩
    have e := r.length
    simp only [Array.length_toList] at e
    omega
theorem Inv.tuple (I : Inv X pins σ H s) (h : SqT X.K H a xs) : ∃ its : List Value, Vals xs its ∧ IsTup s.heap a its.toArray ∧ xs.length ≤ sizeLine := by
  rcases h with h | ⟨o, its, n, hk, hc, hs, hz, r⟩
  · obtain ⟨z, its, r, p⟩ := h.ok I.hok
    exact ⟨its, r, p, z⟩
  · refine ⟨its.toList, r, ⟨o, I.kIn a o hk, hc, n, by simpa using hs⟩, ?_⟩
    have e := r.length
    simp only [Array.length_toList] at e
    omega
theorem Inv.list_inj (I : Inv X pins σ H s) (h : SqL X.K H a xs) (h' : SqL X.K H a ys) : xs = ys := by
  obtain ⟨its, r, ⟨o, n, e, _, _, d⟩, _⟩ := I.list h
  obtain ⟨its', r', ⟨o', n', e', _, _, d'⟩, _⟩ := I.list h'
  rw [e] at e'; cases e'
  rw [d] at d'
  injection d' with d1 _
  have : its = its' := by simpa using congrArg Array.toList d1
  subst this
  exact r.inj r'
theorem Inv.tuple_inj (I : Inv X pins σ H s) (h : SqT X.K H a xs) (h' : SqT X.K H a ys) : xs = ys := by
  obtain ⟨its, r, ⟨o, e, _, n, d⟩, _⟩ := I.tuple h
  obtain ⟨its', r', ⟨o', e', _, n', d'⟩, _⟩ := I.tuple h'
  rw [e] at e'; cases e'
  rw [d] at d'
  injection d' with d1 _
  have : its = its' := by simpa using congrArg Array.toList d1
  subst this
  exact r.inj r'
end

/-! ### another wish about exceptions -/
abbrev Cx.wish (X : Cx) (E : Value → Shared → Prop) : Cx := { X with xe := E }
/-- no exception leaves -/
abbrev Cx.nox (X : Cx) : Cx := X.wish fun _ _ => False
theorem Cx.Ok.wish {X : Cx} (ok : X.Ok) (E : Value → Shared → Prop) : (X.wish E).Ok :=
  ⟨ok.mod, ok.kind, ok.glob, ok.blt, ok.above, ok.inj, ok.has, ok.cab, ok.hd, ok.frames, ok.stk, ok.exf, ok.bs, ok.bsz, ok.noex, ok.exfs, ok.funs, ok.frf⟩
theorem Cx.Ok.unwish {X : Cx} {E : Value → Shared → Prop} (ok : (X.wish E).Ok) : X.Ok :=
  ⟨ok.mod, ok.kind, ok.glob, ok.blt, ok.above, ok.inj, ok.has, ok.cab, ok.hd, ok.frames, ok.stk, ok.exf, ok.bs, ok.bsz, ok.noex, ok.exfs, ok.funs, ok.frf⟩
section
variable {X : Cx} {pins : List (Addr × Obj)} {σ : St} {H : Hp} {s : Shared} {E : Value → Shared → Prop}
theorem Inv.wish (I : Inv X pins σ H s) (E : Value → Shared → Prop) : Inv (X.wish E) pins σ H s := ⟨I.ok.wish E, I.os, I.bare, I.base, I.loc, I.cell, I.free, I.freeC, I.pin, I.hok, I.len⟩
theorem Inv.unwish (I : Inv (X.wish E) pins σ H s) : Inv X pins σ H s := ⟨I.ok.unwish, I.os, I.bare, I.base, I.loc, I.cell, I.free, I.freeC, I.pin, I.hok, I.len⟩
theorem SP.unwish {D : Ends} {f : Flow} {s' : Shared} (h : SP (X.wish E) pins D f s') : SP X pins D f s' := by
  cases f with
  | next => obtain ⟨σ', H', I, q⟩ := h; exact ⟨σ', H', I.unwish, q⟩
  | brk => obtain ⟨σ', H', I, q⟩ := h; exact ⟨σ', H', I.unwish, q⟩
  | cont => obtain ⟨σ', H', I, q⟩ := h; exact ⟨σ', H', I.unwish, q⟩
  | ret u => obtain ⟨v, σ', H', I, r, q⟩ := h; exact ⟨v, σ', H', I.unwish, r, q⟩
theorem PE.nox {e : Expr} {t : TE} (h : PE X.nox e t) : PE X e t := fun pins s σ H Q I hw =>
  wpAny_mono (h pins s σ H Q (I.wish _) hw) (fun _ _ ⟨v, H', I', r, q⟩ => ⟨v, H', I'.unwish, r, q⟩) fun _ _ z => False.elim z
theorem PT.nox {e : Expr} {t : TT} (h : PT X.nox e t) : PT X e t := fun pins s σ H Q I hw =>
  wpAny_mono (h pins s σ H Q (I.wish _) hw) (fun _ _ ⟨H', I', q⟩ => ⟨H', I'.unwish, q⟩) fun _ _ z => False.elim z
theorem PSs.nox {st : List Stmt} {t : TS} (h : PSs X.nox st t) : PSs X st t := fun pins s σ H D I hw =>
  wpAny_mono (h pins s σ H D (I.wish _) hw) (fun _ _ q => q.unwish) fun _ _ z => False.elim z
end

/-! ### blocks and small statements -/
section
variable {X : Cx} {st : Stmt} {rest : List Stmt} {t u : TS} {e : Expr} {te : TE} {pos : Pos}
def tNext : TS := fun D σ H => D.nx σ H
def tSeq (t u : TS) : TS := fun D σ H => t { D with nx := u D } σ H
theorem pss_nil : PSs X [] tNext := fun _ _ σ H _ I h => wpAny_execs_nil ⟨σ, H, I, h⟩
theorem pss_cons (h1 : PS X st t) (h2 : PSs X rest u) : PSs X (st :: rest) (tSeq t u) := by
  intro pins s σ H D I h
  refine wpAny_execs_cons (thn (h1 pins s σ H { D with nx := u D } I h) fun f s1 q => ?_)
  cases f with
  | next =>
    obtain ⟨σ', H', I', q⟩ := q
    exact h2 pins s1 σ' H' D I' q
  | ret v => exact q
  | brk => exact q
  | cont => exact q
/-- in a def's body nothing is shown -/
theorem Inv.quiet {pins : List (Addr × Obj)} {σ : St} {H : Hp} {s : Shared} (I : Inv X pins σ H s) : interactive X.env = false := by simp [interactive, I.ok.kind]
/-- an expression whose value is dropped -/
def tDrop (te : TE) : TS := fun D σ H => te σ H fun _ H1 => D.nx σ H1
theorem ps_expr (he : PE X e te) (hs : swapsWith e none pos.line X.env = pure false := by rfl) : PS X (.Expr e pos) (tDrop te) := by
  intro pins s σ H D I h
  exact wpAny_Expr_any (thn (he pins s σ H _ I h) fun v s1 ⟨x, H1, I1, r1, q1⟩ => ⟨σ, H1, I1, q1⟩) I.quiet hs
def tRet (te : TE) : TS := fun D σ H => te σ H D.rt
theorem ps_ret (he : PE X e te) : PS X (.Return (some e) pos) (tRet te) := by
  intro pins s σ H D I h
  exact wpAny_Return_some (thn (he pins s σ H _ I h) fun v s1 ⟨x, H1, I1, r1, q1⟩ => ⟨x, σ, H1, I1, r1, q1⟩)
def tIfS (c : TT) (t u : TS) : TS := fun D σ H => c σ H fun b H1 => if b = true then t D σ H1 else u D σ H1
theorem ps_if {c : Expr} {a b : List Stmt} {tc : TT} (hc : PT X c tc) (ha : PSs X a t) (hb : PSs X b u) : PS X (.If c a b pos) (tIfS tc t u) := by
  intro pins s σ H D I h
  refine wpAny_If (thn (hc pins s σ H _ I h) fun d s1 ⟨H1, I1, q1⟩ => ?_)
  cases d with
  | true => exact ha pins s1 σ H1 D I1 q1
  | false => exact hb pins s1 σ H1 D I1 q1
/-- code that the proof never comes to -/
def tNever : TS := fun _ _ _ => False
theorem pss_never {sts : List Stmt} : PSs X sts tNever := fun _ _ _ _ _ _ h => h.elim
end

/-! ### targets -/
abbrev TG := V → St → Hp → (St → Hp → Prop) → Prop
abbrev TGs := List V → St → Hp → (St → Hp → Prop) → Prop
def PG (X : Cx) (target : Expr) (t : TG) : Prop :=
  ∀ (pins : List (Addr × Obj)) (s : Shared) (σ : St) (H : Hp) (v : V) (u : Value) (Q : St → Hp → Prop), Inv X pins σ H s → RelV v u → t v σ H Q →
    wpAny (model X.prog X.w) X.A (assign target X.env u) (fun _ s' => ∃ σ' H', Inv X pins σ' H' s' ∧ Q σ' H') X.xe s
/-- several targets, one after another -/
def PGs (X : Cx) (ts : List Expr) (t : TGs) : Prop :=
  ∀ (pins : List (Addr × Obj)) (s : Shared) (σ : St) (H : Hp) (vs : List V) (us : List Value) (Q : St → Hp → Prop), Inv X pins σ H s → Vals vs us → t vs σ H Q →
    wpAny (model X.prog X.w) X.A (assignInOrder ((assignEach ts X.env).map (·.2)) us) (fun _ s' => ∃ σ' H', Inv X pins σ' H' s' ∧ Q σ' H') X.xe s
section
variable {X : Cx} {pos : Pos}
def gName (i : Nat) : TG := fun v σ H Q => Q (σ.set i (some v)) H
theorem pg_name {i : Nat} {x : Str} (hN : X.N.Nodup) (hi : X.N[i]? = some x) (hx : Loc X.env.scope x) (hf : X.fn x = true ∨ X.env.scope.names.lookup x = some .local := by first | exact .inl rfl | exact .inr rfl | assumption) : PG X (.Name x pos) (gName i) := by
  intro pins s σ H v u Q I r h
  exact wpAny_assign_Name (store_ok I hN hi hx r (fun s' I' => ⟨_, H, I', h⟩) hf)
def gNil : TGs := fun vs σ H Q => vs = [] ∧ Q σ H
def gCons (t : TG) (u : TGs) : TGs := fun vs σ H Q => ∃ v r, vs = v :: r ∧ t v σ H fun σ' H' => u r σ' H' Q
theorem pgs_nil : PGs X [] gNil := by
  intro pins s σ H vs us Q I r h
  obtain ⟨e, h⟩ := h
  subst e
  cases r
  exact assignInOrder_nil ⟨σ, H, I, h⟩
theorem pgs_cons {e : Expr} {es : List Expr} {t : TG} {u : TGs} (h1 : PG X e t) (h2 : PGs X es u)
    (hs : (assignEach (e :: es) X.env).map (·.2) = assign e X.env :: (assignEach es X.env).map (·.2) := by rfl) : PGs X (e :: es) (gCons t u) := by
  intro pins s σ H vs us Q I r h
  obtain ⟨v, vr, e1, h⟩ := h
  subst e1
  cases r with
  | cons r rr =>
    rw [hs]
    refine assignInOrder_cons (thn (h1 pins s σ H _ _ _ I r h) fun _ s1 ⟨σ1, H1, I1, q1⟩ => ?_)
    exact h2 pins s1 σ1 H1 _ _ Q I1 rr q1
/-- (a, b, ..) = a tuple of that length -/
def gTup (K : PySem.W.Frag) (n : Nat) (t : TGs) : TG := fun v σ H Q => ∃ a xs, v = .ref a ∧ SqT K H a xs ∧ xs.length = n ∧ t xs σ H Q
theorem pg_tup {es : List Expr} {k : Nat} {t : TGs} {n : Nat} (hc : X.calm = true) (h : PGs X es t)
    (hn : (assignEach es X.env).length = n := by rfl) (hst : (assignEach es X.env).findIdx? (·.1) = none := by rfl) : PG X (.Tuple es k pos) (gTup X.K n t) := by
  intro pins s σ H v u Q I r hw
  obtain ⟨a, xs, e1, hq, hl, hw⟩ := hw
  subst e1
  cases r
  obtain ⟨its, rv, ht, hz⟩ := I.tuple hq
  refine assign_Tuple_tuple (I.ok.hd hc) ht (by simp [hn, ← hl, rv.length]) hst fun h' hx => ?_
  have I1 : Inv X pins σ H { s with heap := h' } := I.kept (t' := s.toks) fun b o e => hx b o (Nat.ne_of_lt (Heap.lt_size e)) e
  exact h pins _ σ H xs _ Q I1 (by simpa using rv) hw
/-- target = value -/
def tAsg (te : TE) (g : TG) : TS := fun D σ H => te σ H fun x H1 => g x σ H1 D.nx
theorem ps_asg {tg e : Expr} {te : TE} {g : TG} (he : PE X e te) (hg : PG X tg g) (hs : swapsWithSole [tg] e pos.line X.env = pure false := by rfl) (hw : swappedStores [tg] e X.env = pure none := by rfl)
    (h1 : (assignEach [tg] X.env).map (·.2) = [assign tg X.env] := by rfl) : PS X (.Assign [tg] e pos) (tAsg te g) := by
  intro pins s σ H D I h
  refine wpAny_Assign_stores (thn (he pins s σ H _ I h) fun v s1 ⟨x, H1, I1, r1, q1⟩ => ?_) hs hw
  rw [h1]
  exact thn (hg pins s1 σ H1 x v _ I1 r1 q1) fun _ s2 q => q
end

/-! ### while -/
section
variable {X : Cx} {pos : Pos}
/-- the invariant W with its measure -/
def tWhile (c : TT) (tb : TS) : TS := fun D σ H => ∃ W : Nat → St → Hp → Prop, (∃ m, W m σ H) ∧ ∀ m σ H, W m σ H →
  c σ H fun b H1 => if b = true then ∃ N : St → Hp → Prop, (∀ σ' H', N σ' H' → ∃ m', m' < m ∧ W m' σ' H') ∧ tb { D with nx := N, ct := N, bk := D.nx } σ H1 else D.nx σ H1
theorem ps_while {c : Expr} {body : List Stmt} {tc : TT} {tb : TS} (hp : PassesOwn (model X.prog X.w) X.A X.env X.xe) (hc : PT X c tc) (hb : PSs X body tb) : PS X (.While c body [] pos) (tWhile tc tb) := by
  intro pins s σ H D I h
  obtain ⟨W, ⟨m0, w0⟩, turn⟩ := h
  refine wpAny_While (codeAny_whileLoop (fun n s' => ∃ σ' H', Inv X pins σ' H' s' ∧ W n σ' H') ?_ m0 ⟨σ, H, I, w0⟩)
  rintro n s1 ⟨σ1, H1, I1, w1⟩
  refine wpAny_passesOwn hp (thn (hc pins s1 σ1 H1 _ I1 (turn n σ1 H1 w1)) fun b s2 ⟨H2, I2, q2⟩ => ?_)
  cases b with
  | true =>
    obtain ⟨N, hN, q2⟩ := q2
    rw [if_pos rfl]
    refine wpAny_passesOwn hp (thn (hb pins s2 σ1 H2 _ I2 q2) fun f s3 q3 => ?_)
    cases f with
    | next =>
      obtain ⟨σ3, H3, I3, n3⟩ := q3
      obtain ⟨m', hm, w3⟩ := hN σ3 H3 n3
      exact ⟨m', hm, σ3, H3, I3, w3⟩
    | cont =>
      obtain ⟨σ3, H3, I3, n3⟩ := q3
      obtain ⟨m', hm, w3⟩ := hN σ3 H3 n3
      exact ⟨m', hm, σ3, H3, I3, w3⟩
    | brk => exact q3
    | ret v => exact q3
  | false =>
    rw [if_neg Bool.false_ne_true]
    exact wpAny_execs_nil ⟨σ1, H2, I2, q2⟩
end

/-! ### what a loop or a comprehension walks -/
/-- at turn i: it yields x (the heap may grow), or it stops -/
structure It where
  go : Nat → Hp → Prop
  yld : Nat → Hp → V → Hp → Prop
  stop : Nat → Hp → Prop
/-- the iterator's own objects may turn: they are not the frame's, not pinned, younger than the entry (or a comprehension's own) -/
def FpOk (X : Cx) (pins : List (Addr × Obj)) (H : Hp) (b : Addr) : Prop :=
  H b = none ∧ b ≠ X.env.locals ∧ b ∉ X.fs ∧ (b ∈ X.ex ∨ X.s₀.heap.objs.size ≤ b) ∧ (∀ x c, X.env.cells.lookup x = some c → c ≠ b) ∧ ∀ p ∈ X.pn ++ pins, p.1 ≠ b
theorem Inv.fpOk {X : Cx} {pins : List (Addr × Obj)} {σ : St} {H H' : Hp} {s : Shared} {b : Addr} (I : Inv X pins σ H s) (hb : s.heap.objs.size ≤ b) (hn : H' b = none) : FpOk X pins H' b := by
  refine ⟨hn, Nat.ne_of_gt (Nat.lt_of_lt_of_le I.lt hb), I.nofs hb, .inr (Nat.le_trans I.sz hb), fun x c e z => ?_, fun p hp z => ?_⟩
  · obtain ⟨v, q⟩ := I.cell x c e
    exact absurd (Nat.lt_of_lt_of_le q.lt (by rw [z]; exact hb)) (Nat.lt_irrefl _)
  · exact absurd (Nat.lt_of_lt_of_le (Heap.lt_size (I.pin p hp).1) (by rw [z]; exact hb)) (Nat.lt_irrefl _)
structure Turn (P : Program) (w : World) (K : PySem.W.Frag) (tg : Expr) (J : It) (fp : List Addr) (it : Addr) (tn : Nat → Heap → Prop) : Prop where
  mem : it ∈ fp
  obj : ∀ i h, tn i h → ∀ b ∈ fp, ∃ o, h.get? b = some o ∧ ∀ v, o.data ≠ .cell v
  keep : ∀ i h h', tn i h → (∀ b ∈ fp, ∀ o, h.get? b = some o → h'.get? b = some o) → tn i h'
  item : ∀ (X : Cx), X.prog = P → X.w = w → X.K = K → X.calm = true → ∀ (i : Nat) (pins : List (Addr × Obj)) (s : Shared) (σ : St) (H : Hp) (E : Value → Shared → Prop), Inv X pins σ H s → (∀ b ∈ fp, FpOk X pins H b) → tn i s.heap → J.go i H →
    wpAny (model P w) X.A (pyNext (.ref it)) (fun r s1 => ∃ u, r = some u ∧
      wpAny (model P w) X.A (letOwnedTupleGo tg (.ref it) u) (fun _ s2 => ∃ x H', Inv X pins σ H' s2 ∧ RelV x u ∧ J.yld i H x H' ∧ tn (i + 1) s2.heap ∧ ∀ b ∈ fp, H' b = none) E s1) E s
  done : ∀ (X : Cx), X.prog = P → X.w = w → X.K = K → X.calm = true → ∀ (i : Nat) (pins : List (Addr × Obj)) (s : Shared) (σ : St) (H : Hp) (E : Value → Shared → Prop), Inv X pins σ H s → (∀ b ∈ fp, FpOk X pins H b) → tn i s.heap → J.stop i H →
    wpAny (model P w) X.A (pyNext (.ref it)) (fun r s1 => r = none ∧ Inv X pins σ H s1) E s
  self : ∀ (A : Around) (i : Nat) (s : Shared) (Q : Value → Shared → Prop) (E : Value → Shared → Prop), tn i s.heap → Q (.ref it) s → wpAny (model P w) A (pyIter (.ref it)) Q E s
abbrev TI := St → Hp → (It → Hp → Prop) → Prop
/-- an iterator has come -/
def PIE (X : Cx) (pins : List (Addr × Obj)) (σ : St) (tg : Expr) (R : It → Hp → Prop) (itv : Value) (s2 : Shared) : Prop :=
  ∃ (it : Addr) (fp : List Addr) (tn : Nat → Heap → Prop) (J : It) (H' : Hp), itv = .ref it ∧ Inv X pins σ H' s2 ∧ Turn X.prog X.w X.K tg J fp it tn ∧ tn 0 s2.heap ∧ (∀ b ∈ fp, FpOk X pins H' b) ∧ R J H'
def PI (X : Cx) (tg iter : Expr) (wi : TI) : Prop :=
  ∀ (pins : List (Addr × Obj)) (s : Shared) (σ : St) (H : Hp) (R : It → Hp → Prop), Inv X pins σ H s → wi σ H R →
    wpAny (model X.prog X.w) X.A (eval iter X.env) (fun v s1 => wpAny (model X.prog X.w) X.A (pyIter v) (PIE X pins σ tg R) X.xe s1) X.xe s

/-- the step ahead of the store is nothing for an iterator that keeps no tuple -/
theorem go_of {M : Model} {A : Around} {E : Value → Shared → Prop} {s : Shared} {tg : Expr} {it : Addr} {u : Value} {o : Obj} {n : String} {vs : Array Value} {Q : Unit → Shared → Prop} (ho : s.heap.get? it = some o) (hc : o.cls = .type n) (hd : o.data = .fields vs)
    (hn : ["enumerate", "zip", "dict_itemiterator", "dict_reverseitemiterator", "odict_iterator", "itertools.zip_longest", "itertools.pairwise"].contains n = false) (hQ : Q () s) : wpAny M A (letOwnedTupleGo tg (.ref it) u) Q E s := by
  unfold letOwnedTupleGo
  cases tg <;> first
    | exact wpAny_pure hQ
    | (cases u <;> first
        | exact wpAny_pure hQ
        | (refine wpAny_bind (wpAny_load ho ?_)
           rw [hc, hd]
           show wpAny M A (if (["enumerate", "zip", "dict_itemiterator", "dict_reverseitemiterator", "odict_iterator", "itertools.zip_longest", "itertools.pairwise"].contains n && vs[0]? == some (rawInt _)) = true then _ else _) Q E s
           rw [if_neg (by intro h; rw [hn, Bool.false_and] at h; cases h)]
           exact wpAny_pure hQ))

/-- the list at a, as it stands at each turn (a loop may append to it) -/
def Itl (K : PySem.W.Frag) (a : Addr) : It :=
  ⟨fun i H => ∃ xs x, SqL K H a xs ∧ xs[i]? = some x, fun i H x H' => H' = H ∧ ∀ xs, SqL K H a xs → xs[i]? = some x, fun i H => ∃ xs, SqL K H a xs ∧ xs.length ≤ i⟩
/-- lo, lo + 1, .. (n of them) -/
def Itr (lo : Int) (n : Nat) : It := ⟨fun i _ => i < n, fun i H x H' => H' = H ∧ x = .int (lo + i), fun i _ => n ≤ i⟩
theorem turn_list {P : Program} {w : World} {K : PySem.W.Frag} {tg : Expr} (a it : Addr) : Turn P w K tg (Itl K a) [it] it (fun i h => h.IsListIter it a i) where
  mem := by simp
  obj := fun i h st b hb => by
    have e : b = it := by simpa using hb
    subst e
    obtain ⟨o, e, c, d⟩ := st
    exact ⟨o, e, fun v z => by rw [d] at z; cases z⟩
  keep := fun i h h' st k => st.at fun o e => k it (by simp) o e
  item := by
    intro X hP hw hK hc i pins s σ H E I hf st hg
    subst hP hw hK
    obtain ⟨xs, x, hq, hx⟩ := hg
    obtain ⟨its, rv, p, hz⟩ := I.list hq
    obtain ⟨u, hu, ru⟩ := rv.get hx
    obtain ⟨f0, f1, f2, f3, f4, f5⟩ := hf it (by simp)
    refine wpAny_pyNext_list_item st p.isList (x := u) (by simpa using hu) fun h' st' sb => ?_
    have I1 : Inv X pins σ H { s with heap := h' } := I.turned (t' := s.toks) (fun b o hb e => (sb.2 b hb).trans e) f0 f1 f3 f4 f5
    obtain ⟨o, e, c, d⟩ := id st'
    exact ⟨u, rfl, go_of (s := { s with heap := h' }) e c d (by decide) ⟨x, H, I1, ru, ⟨rfl, fun ys hy => by rw [I.list_inj hy hq]; exact hx⟩, st', fun b hb => (hf b hb).1⟩⟩
  done := by
    intro X hP hw hK hc i pins s σ H E I hf st hg
    subst hP hw hK
    obtain ⟨xs, hq, hx⟩ := hg
    obtain ⟨its, rv, p, hz⟩ := I.list hq
    obtain ⟨f0, f1, f2, f3, f4, f5⟩ := hf it (by simp)
    have hl := rv.length
    exact wpAny_pyNext_list_end (I.ok.hd hc) st p.isList (by simp; omega) fun h' eb => ⟨rfl, I.turned (t' := s.toks) (fun b o hb e => eb b o hb e) f0 f1 f3 f4 f5⟩
  self := fun _ _ _ _ _ st h => wpAny_pyIter_listiter st h
theorem turn_range {P : Program} {w : World} {K : PySem.W.Frag} {tg : Expr} (it : Addr) (lo : Int) (n : Nat) : Turn P w K tg (Itr lo n) [it] it (fun i h => IsRangeIter h it (lo + (i : Nat) * 1) ((n : Int) - (i : Nat)) 1) where
  mem := by simp
  obj := fun i h st b hb => by
    have e : b = it := by simpa using hb
    subst e
    exact ⟨_, st, fun v z => by
      have z' : Data.fields _ = Data.cell v := z
      cases z'⟩
  keep := fun i h h' st k => k it (by simp) _ st
  item := by
    intro X hP hw hK hc i pins s σ H E I hf st hg
    subst hP hw hK
    obtain ⟨f0, f1, f2, f3, f4, f5⟩ := hf it (by simp)
    have W := Walks.range (prog := X.prog) (w := X.w) (I.ok.hd hc) it lo 1 n
    refine W.item i s _ _ hg st fun v h' tk hv st' kk => ?_
    obtain ⟨t, rfl⟩ := hv
    have I1 : Inv X pins σ H { s with heap := h', toks := tk } := I.turned (fun b o hb e => kk b o (by simpa using hb) e) f0 f1 f3 f4 f5
    refine ⟨_, rfl, go_of (s := { s with heap := h', toks := tk }) (n := "range_iterator") st' rfl rfl (by decide) ⟨.int (lo + i), H, I1, ⟨t, ?_⟩, ⟨rfl, rfl⟩, st', fun b hb => (hf b hb).1⟩⟩
    rw [Int.mul_one]
  done := by
    intro X hP hw hK hc i pins s σ H E I hf st hg
    subst hP hw hK
    obtain ⟨f0, f1, f2, f3, f4, f5⟩ := hf it (by simp)
    exact wpAny_pyNext_range_end (I.ok.hd hc) st (by have : n ≤ i := hg; omega) fun h' eb => ⟨rfl, I.turned (t' := s.toks) (fun b o hb e => eb b o hb e) f0 f1 f3 f4 f5⟩
  self := fun _ _ _ _ _ st h => wpAny_pyIter_rangeiter st h
end L2

namespace L2
open PySem PySem.Spec PyProof.Rows
section
variable {X : Cx} {tg : Expr}
def iList (K : PySem.W.Frag) (tl : TE) : TI := fun σ H R => tl σ H fun x H1 => ∃ a, x = .ref a ∧ (∃ xs, SqL K H1 a xs) ∧ R (Itl K a) H1
theorem pi_list {l : Expr} {tl : TE} (hl : PE X l tl) : PI X tg l (iList X.K tl) := by
  intro pins s σ H R I h
  refine thn (hl pins s σ H _ I h) fun v s1 ⟨x, H1, I1, r1, q1⟩ => ?_
  obtain ⟨a, e, ⟨xs, hq⟩, q⟩ := q1
  subst e
  cases r1
  obtain ⟨its, rv, p, hz⟩ := I1.list hq
  refine wpAny_pyIter_list p.isList ?_
  refine ⟨s1.heap.objs.size, [s1.heap.objs.size], _, _, H1, rfl, I1.kept (t' := s1.toks) fun b o e => Heap.get?_push_of_some _ e, turn_list a _, ⟨_, Heap.get?_push_size _ rfl, rfl, rfl⟩, fun b hb => ?_, q⟩
  have e : b = s1.heap.objs.size := by simpa using hb
  subst e
  exact I1.fpOk (Nat.le_refl _) (I1.hok.fresh (Nat.le_refl _))
/-- a range object just made, walked -/
theorem range_it {pins : List (Addr × Obj)} {σ : St} {H : Hp} {s : Shared} {R : It → Hp → Prop} {E : Value → Shared → Prop} {lo hi : Int} {t u v : Tok} {tk : Nat} (I : Inv X pins σ H s) (h1 : -(2 ^ 62) ≤ lo) (h2 : lo < 2 ^ 62) (h3 : -(2 ^ 62) ≤ hi) (h4 : hi < 2 ^ 62)
    (q : R (Itr lo (hi - lo).toNat) H) : wpAny (model X.prog X.w) X.A (pyIter (.ref s.heap.objs.size)) (PIE X pins σ tg R) E { s with heap := s.heap.push { cls := .type "range", data := .fields #[.int lo t, .int hi u, .int 1 v] }, toks := tk } := by
  refine wpAny_pyIter_range (IsRange.new ..) (small_one h1 h2 h3 h4) ?_
  have I1 : Inv X pins σ H { s with heap := s.heap.push { cls := .type "range", data := .fields #[.int lo t, .int hi u, .int 1 v] }, toks := tk } := I.kept fun b o e => Heap.get?_push_of_some _ e
  refine ⟨(s.heap.push { cls := .type "range", data := .fields #[.int lo t, .int hi u, .int 1 v] }).objs.size, [(s.heap.push { cls := .type "range", data := .fields #[.int lo t, .int hi u, .int 1 v] }).objs.size], _, _, H, rfl,
    I1.kept (t' := tk) fun b o e => Heap.get?_push_of_some _ e, turn_range _ lo (hi - lo).toNat, ?_, fun b hb => ?_, q⟩
  · have e1 : lo + ((0 : Nat) : Int) * 1 = lo := by simp
    have e2 : (((hi - lo).toNat : Nat) : Int) - ((0 : Nat) : Int) = Builtin.Range.rangeSize lo hi 1 := by rw [rangeSize_one]; split <;> omega
    show IsRangeIter _ _ (lo + ((0 : Nat) : Int) * 1) ((((hi - lo).toNat : Nat) : Int) - ((0 : Nat) : Int)) 1
    rw [e1, e2]
    exact Heap.get?_push_size _ rfl
  · have e : b = (s.heap.push { cls := .type "range", data := .fields #[.int lo t, .int hi u, .int 1 v] }).objs.size := by simpa using hb
    subst e
    exact I1.fpOk (Nat.le_refl _) (I1.hok.fresh (Nat.le_refl _))
def iRng1 (ta : TA) : TI := fun σ H R => ta σ H fun vs H1 => ∃ j : Int, vs = [.int j] ∧ -(2 ^ 62) ≤ j ∧ j < 2 ^ 62 ∧ R (Itr 0 j.toNat) H1
theorem pi_range1 {a : Expr} {ta : TA} {p pos : Pos} (hg : Gl X "range") (hm : X.mg "range" = none) (ha : PA X [a] ta) (hs : starEach [a] X.env = [(false, eval a X.env)] := by rfl) : PI X tg (.Call (.Name "range" p) [a] [] pos) (iRng1 ta) := by
  intro pins s σ H R I h
  refine Call_ (ld_blt I hg hm boot_range (PyProof.Rows.callWith_type1 (thn (ha pos pins s σ H _ I h) fun us s1 ⟨vs, H1, I1, r1, q1⟩ => ?_) hs rfl))
  obtain ⟨j, e, q1, q2, q⟩ := q1
  subst e
  cases r1 with
  | cons r rr =>
    cases rr
    obtain ⟨t, rfl⟩ := r
    exact call_range_1 (range_it I1 (by omega) (by omega) q1 q2 (by simpa using q))
/-! ### for -/
/-- W: the invariant by the turn and a measure; N: what the body is to reach -/
def tFor (wi : TI) (g : TG) (tb : TS) : TS := fun D σ H => wi σ H fun J H1 => ∃ W : Nat → Nat → St → Hp → Prop, (∃ m, W 0 m σ H1) ∧ ∀ i m σ H, W i m σ H →
  (J.stop i H ∧ D.nx σ H) ∨ (J.go i H ∧ ∃ N : St → Hp → Prop, (∀ σ' H', N σ' H' → ∃ m', m' < m ∧ W (i + 1) m' σ' H') ∧ ∀ x H', J.yld i H x H' → g x σ H' fun σ2 H2 => tb { D with nx := N, ct := N, bk := D.nx } σ2 H2)
/-- the records at fp as they stand -/
def pinsAt (fp : List Addr) (h : Heap) : List (Addr × Obj) := fp.filterMap fun b => (h.get? b).map fun o => (b, o)
theorem mem_pinsAt {fp : List Addr} {h : Heap} {b : Addr} {o : Obj} (hb : b ∈ fp) (e : h.get? b = some o) : (b, o) ∈ pinsAt fp h := List.mem_filterMap.mpr ⟨b, hb, by rw [e]; rfl⟩
theorem of_pinsAt {fp : List Addr} {h : Heap} {p : Addr × Obj} (hp : p ∈ pinsAt fp h) : p.1 ∈ fp ∧ h.get? p.1 = some p.2 := by
  obtain ⟨b, hb, e⟩ := List.mem_filterMap.mp hp
  cases q : h.get? b with
  | none => rw [q] at e; cases e
  | some o =>
    rw [q] at e
    have e' : (b, o) = p := Option.some.inj e
    subst e'
    exact ⟨hb, q⟩
theorem Inv.pinned {pins : List (Addr × Obj)} {σ : St} {H : Hp} {s : Shared} {fp : List Addr} (I : Inv X pins σ H s) (hf : ∀ b ∈ fp, FpOk X pins H b) (ho : ∀ b ∈ fp, ∃ o, s.heap.get? b = some o ∧ ∀ v, o.data ≠ .cell v) : Inv X (pins ++ pinsAt fp s.heap) σ H s :=
  I.pins_of fun p hp => (List.mem_append.mp hp).elim (fun z => I.pin p (List.mem_append_right _ z)) fun z => by
    obtain ⟨hb, e⟩ := of_pinsAt z
    obtain ⟨f0, f1, f2, _⟩ := hf p.1 hb
    obtain ⟨o, e', d⟩ := ho p.1 hb
    rw [e] at e'; cases e'
    exact ⟨e, f0, f1, f2, d⟩
theorem Inv.unpinned {pins pl : List (Addr × Obj)} {σ : St} {H : Hp} {s : Shared} (I : Inv X (pins ++ pl) σ H s) : Inv X pins σ H s := I.pins_of fun p hp => I.pin p (List.mem_append_right _ (List.mem_append_left _ hp))
theorem ps_for {iter : Expr} {body : List Stmt} {wi : TI} {g : TG} {tb : TS} {pos : Pos} (hp : PassesOwn (model X.prog X.w) X.A X.env X.xe) (hc : X.calm = true) (hi : PI X tg iter wi) (hg : PG X tg g) (hb : PSs X body tb)
    (hs : ∀ x, foldedSetIterable iter X.env x = pure x := by intro _; rfl) : PS X (.For tg iter body [] pos) (tFor wi g tb) := by
  intro pins s σ H D I h
  refine wpAny_For (thn (hi pins s σ H _ I h) fun v s1 h1 => thn h1 fun itv s2 h2 => ?_) hs
  obtain ⟨it, fp, tn, J, H2, e, I2, T, st2, f2, W, ⟨m0, w0⟩, turn⟩ := h2
  subst e
  -- what stays true of the iterator's objects through the loop
  have stat : ∀ {H' : Hp}, (∀ b ∈ fp, H' b = none) → ∀ b ∈ fp, FpOk X pins H' b := fun hn b hb => ⟨hn b hb, (f2 b hb).2⟩
  refine codeAny_forLoop_any (fun n s' => ∃ i σ' H', Inv X pins σ' H' s' ∧ tn i s'.heap ∧ (∀ b ∈ fp, H' b = none) ∧ W i n σ' H') ?_ m0 ⟨0, σ, H2, I2, st2, fun b hb => (f2 b hb).1, w0⟩
  rintro n s3 ⟨i, σ3, H3, I3, st3, fr3, w3⟩
  rcases turn i n σ3 H3 w3 with ⟨stop, qn⟩ | ⟨go, N, hN, step⟩
  · refine wpAny_passesOwn hp (thn (T.done X rfl rfl rfl hc i pins s3 σ3 H3 X.xe I3 (stat fr3) st3 stop) fun r s4 ⟨hr, I4⟩ => ?_)
    subst hr
    exact wpAny_execs_nil ⟨σ3, H3, I4, qn⟩
  · refine wpAny_passesOwn hp (thn (T.item X rfl rfl rfl hc i pins s3 σ3 H3 X.xe I3 (stat fr3) st3 go) fun r s4 ⟨u, hr, h4⟩ => ?_)
    subst hr
    refine wpAny_passesOwn hp (thn h4 fun _ s5 ⟨x, H5, I5, r5, y5, st5, fr5⟩ => ?_)
    have I5' := I5.pinned (stat fr5) (T.obj _ _ st5)
    refine wpAny_passesOwn hp (thn (hg _ s5 σ3 H5 x u _ I5' r5 (step x H5 y5)) fun _ s6 ⟨σ6, H6, I6, q6⟩ => ?_)
    refine wpAny_passesOwn hp (thn (hb _ s6 σ6 H6 _ I6 q6) fun f s7 q7 => ?_)
    have again : ∀ {σ7 : St} {H7 : Hp}, Inv X (pins ++ pinsAt fp s5.heap) σ7 H7 s7 → N σ7 H7 → ∃ m, m < n ∧ ∃ i σ' H', Inv X pins σ' H' s7 ∧ tn i s7.heap ∧ (∀ b ∈ fp, H' b = none) ∧ W i m σ' H' := fun {σ7 H7} I7 n7 => by
      obtain ⟨m', hm, w7⟩ := hN σ7 H7 n7
      refine ⟨m', hm, i + 1, σ7, H7, I7.unpinned, T.keep _ _ _ st5 fun b hb o e => (I7.pin (b, o) (List.mem_append_right _ (List.mem_append_right _ (mem_pinsAt hb e)))).1, fun b hb => ?_, w7⟩
      obtain ⟨o, e, d⟩ := T.obj _ _ st5 b hb
      exact (I7.pin (b, o) (List.mem_append_right _ (List.mem_append_right _ (mem_pinsAt hb e)))).2.1
    cases f with
    | next => obtain ⟨σ7, H7, I7, n7⟩ := q7; exact again I7 n7
    | cont => obtain ⟨σ7, H7, I7, n7⟩ := q7; exact again I7 n7
    | brk => obtain ⟨σ7, H7, I7, q7⟩ := q7; exact ⟨σ7, H7, I7.unpinned, q7⟩
    | ret v => obtain ⟨x7, σ7, H7, I7, r7, q7⟩ := q7; exact ⟨x7, σ7, H7, I7.unpinned, r7, q7⟩
end

/-! ### the forms one uses -/
end L2

namespace L2
open PySem PySem.Spec PyProof.Rows

abbrev R2 := V → V → Hp → VK → Prop
/-- a two-place operation on values: f is binaryOp op, inplaceOp op or compareOp op -/
def OpR (X : Cx) (f : Value → Value → Sem Value) (r : R2) : Prop :=
  ∀ (pins : List (Addr × Obj)) (s : Shared) (σ : St) (H : Hp) (x y : V) (v u : Value) (Q : VK), Inv X pins σ H s → RelV x v → RelV y u → r x y H Q →
    wpAny (model X.prog X.w) X.A (f v u) (EP X pins σ Q) X.xe s
/-- a call of a value that is known (a builtin, a type) with values -/
def CallR (X : Cx) (f : Value) (r : List V → Hp → VK → Prop) : Prop :=
  ∀ (pins : List (Addr × Obj)) (s : Shared) (σ : St) (H : Hp) (xs : List V) (us : List Value) (Q : VK), Inv X pins σ H s → Vals xs us → r xs H Q →
    wpAny (model X.prog X.w) X.A (call f us) (EP X pins σ Q) X.xe s
def tOp (r : R2) (ta tb : TE) : TE := fun σ H Q => ta σ H fun x H1 => tb σ H1 fun y H2 => r x y H2 Q
/-- ints in, under C, and a value out -/
def rI (C : Int → Int → Prop) (g : Int → Int → V) : R2 := fun x y H Q => ∃ i j, x = .int i ∧ y = .int j ∧ C i j ∧ Q (g i j) H
def rI0 (g : Int → Int → V) : R2 := fun x y H Q => ∃ i j, x = .int i ∧ y = .int j ∧ Q (g i j) H
section
variable {X : Cx} {a b c : Expr} {ta tb tc : TE} {pos : Pos}

theorem binT (ha : PE X a ta) (hb : PE X b tb) {pins : List (Addr × Obj)} {s : Shared} {σ : St} {H : Hp} {R : V → V → Hp → Prop} (I : Inv X pins σ H s)
    (h : ta σ H fun x H1 => tb σ H1 fun y H2 => R x y H2) {Q : Value → Shared → Prop} {f : Value → Value → Sem Value}
    (hf : ∀ v u s2 x y H2, Inv X pins σ H2 s2 → RelV x v → RelV y u → R x y H2 → wpAny (model X.prog X.w) X.A (f v u) Q X.xe s2) :
    wpAny (model X.prog X.w) X.A (eval a X.env) (fun v s₁ => wpAny (model X.prog X.w) X.A (eval b X.env) (fun u s₂ => wpAny (model X.prog X.w) X.A (f v u) Q X.xe s₂) X.xe s₁) X.xe s := by
  refine thn (ha pins s σ H _ I h) fun v s1 ⟨x, H1, I1, r1, q1⟩ => ?_
  refine thn (hb pins s1 σ H1 _ I1 q1) fun u s2 ⟨y, H2, I2, r2, q2⟩ => ?_
  exact hf v u s2 x y H2 I2 r1 r2 q2

theorem pe_op {op : Operator} {r : R2} (ho : OpR X (binaryOp op) r) (ha : PE X a ta) (hb : PE X b tb) : PE X (.BinOp a op b pos) (tOp r ta tb) := by
  intro pins s σ H Q I h
  exact wpAny_BinOp (binT ha hb I h fun v u s2 x y H2 I2 rx ry q => ho pins s2 σ H2 x y v u Q I2 rx ry q)
/-! ### ints -/
theorem opI {f : Value → Value → Sem Value} {C : Int → Int → Prop} {g : Int → Int → Int}
    (rule : ∀ (i j : Int) (t u : Tok) (s : Shared) (Q : Value → Shared → Prop) (E : Value → Shared → Prop), C i j → Q (.int (g i j) s.toks) { s with toks := s.toks + 1 } → wpAny (model X.prog X.w) X.A (f (.int i t) (.int j u)) Q E s) :
    OpR X f (rI C fun i j => .int (g i j)) := by
  intro pins s σ H x y v u Q I rx ry h
  obtain ⟨i, j, rfl, rfl, hc, q⟩ := h
  obtain ⟨t, rfl⟩ := rx
  obtain ⟨t', rfl⟩ := ry
  exact rule i j t t' s _ _ hc ⟨.int (g i j), H, I.tok _, ⟨_, rfl⟩, q⟩
theorem opI0 {f : Value → Value → Sem Value} {g : Int → Int → Int}
    (rule : ∀ (i j : Int) (t u : Tok) (s : Shared) (Q : Value → Shared → Prop) (E : Value → Shared → Prop), Q (.int (g i j) s.toks) { s with toks := s.toks + 1 } → wpAny (model X.prog X.w) X.A (f (.int i t) (.int j u)) Q E s) :
    OpR X f (rI0 fun i j => .int (g i j)) := by
  intro pins s σ H x y v u Q I rx ry h
  obtain ⟨i, j, rfl, rfl, q⟩ := h
  obtain ⟨t, rfl⟩ := rx
  obtain ⟨t', rfl⟩ := ry
  exact rule i j t t' s _ _ ⟨.int (g i j), H, I.tok _, ⟨_, rfl⟩, q⟩
theorem opB0 {f : Value → Value → Sem Value} {g : Int → Int → Bool}
    (rule : ∀ (i j : Int) (t u : Tok) (s : Shared) (Q : Value → Shared → Prop) (E : Value → Shared → Prop), Q (.bool (g i j)) s → wpAny (model X.prog X.w) X.A (f (.int i t) (.int j u)) Q E s) :
    OpR X f (rI0 fun i j => .bl (g i j)) := by
  intro pins s σ H x y v u Q I rx ry h
  obtain ⟨i, j, rfl, rfl, q⟩ := h
  obtain ⟨t, rfl⟩ := rx
  obtain ⟨t', rfl⟩ := ry
  exact rule i j t t' s _ _ ⟨.bl (g i j), H, I, rfl, q⟩

def CDiv (i j : Int) : Prop := 0 < j ∧ j < 1073741824
def CPow (i j : Int) : Prop := 0 ≤ j ∧ j ≤ 1000000 ∧ i.natAbs < 2 ^ 64
def CMul (i j : Int) : Prop := (-(2 ^ 64) < i ∧ i < 2 ^ 64) ∨ (-(2 ^ 64) < j ∧ j < 2 ^ 64)
theorem CMul.ok {i j : Int} (h : CMul i j) : IntMulOk i j := by
  rcases h with ⟨h1, h2⟩ | ⟨h1, h2⟩
  · exact .of_left (intBits_le_64 h1 h2)
  · exact .of_right (intBits_le_64 h1 h2)
theorem op_add : OpR X (binaryOp .Add) (rI0 fun i j => .int (i + j)) := opI0 fun _ _ _ _ _ _ _ q => add_int q
theorem op_sub : OpR X (binaryOp .Sub) (rI0 fun i j => .int (i - j)) := opI0 fun _ _ _ _ _ _ _ q => sub_int q
theorem op_mul : OpR X (binaryOp .Mult) (rI CMul fun i j => .int (i * j)) := opI fun _ _ _ _ _ _ _ hc q => mul_int q hc.ok
/-- // by a positive divisor -/
theorem op_fdiv : OpR X (binaryOp .FloorDiv) (rI CDiv fun i j => .int (i / j)) := opI fun i j _ _ _ _ _ hc q => by
  have h1 : (0 : Int) < j := hc.1
  have h2 : j < 1073741824 := hc.2
  exact floordiv_int (by omega) (by rw [Int.fdiv_eq_ediv_of_nonneg i (by omega)]; exact q) (.inl (PyProof.noPylong_small (by omega)))
/-- % by a positive divisor of any size -/
theorem op_mod : OpR X (binaryOp .Mod) (rI (fun _ j => 0 < j) fun i j => .int (i % j)) := opI fun i j _ _ _ _ _ hc q => by
  have h1 : (0 : Int) < j := hc
  exact mod_int' (by omega) (by rw [Int.fmod_eq_emod_of_nonneg i (by omega)]; exact q)
theorem op_pow : OpR X (binaryOp .Pow) (rI CPow fun i j => .int (i ^ j.toNat)) := opI fun _ _ _ _ _ _ _ hc q => pow_int_small hc.1 hc.2.1 hc.2.2 q
/-! ### bools among ints: n += (a < b) -/
end

/-! ### comparisons -/
/-- the scalars that == tells apart as data does -/
def scal : V → V → Bool
  | .non, .non => true | .non, .int _ => true | .int _, .non => true | .non, .bl _ => true | .bl _, .non => true | .non, .str _ => true | .str _, .non => true
  | .int _, .int _ => true | .bl _, .bl _ => true | .str _, .str _ => true | .byt _, .byt _ => true
  | .int _, .str _ => true | .str _, .int _ => true | .bl _, .str _ => true | .str _, .bl _ => true
  | _, _ => false
def rEq : R2 := fun x y H Q => scal x y = true ∧ Q (.bl (decide (x = y))) H
def rNe : R2 := fun x y H Q => scal x y = true ∧ Q (.bl (!decide (x = y))) H

theorem dec_int {i j : Int} : decide (V.int i = V.int j) = (i == j) := by
  rw [Bool.eq_iff_iff]
  simp
theorem dec_bl {i j : Bool} : decide (V.bl i = V.bl j) = (i == j) := by
  rw [Bool.eq_iff_iff]
  simp
theorem dec_str {i j : Str} : decide (V.str i = V.str j) = (i == j) := by
  rw [Bool.eq_iff_iff]
  simp
theorem dec_byt {i j : Array UInt8} : decide (V.byt i = V.byt j) = (i.toList == j.toList) := by
  rw [Bool.eq_iff_iff]
  cases i
  cases j
  simp

section
variable {X : Cx} {a b c : Expr} {ta tb tc : TE} {pos : Pos}
theorem fin_bl {pins : List (Addr × Obj)} {σ : St} {H : Hp} {s : Shared} {Q : VK} {k k' : Bool} (I : Inv X pins σ H s) (q : Q (.bl k) H) (e : k = k') : EP X pins σ Q (.bool k') s := by
  subst e
  exact ⟨.bl k, H, I, rfl, q⟩
theorem op_eq : OpR X (compareOp .Eq) rEq := by
  intro pins s σ H x y v u Q I rx ry h
  obtain ⟨hs, q⟩ := h
  cases x with
  | non =>
    cases rx
    cases y with
    | non => cases ry; exact PySem.EqNone.eq_none_none (fin_bl I q (by simp))
    | bl j => cases ry; exact PySem.EqNone.eq_none_bool (fin_bl I q (by simp))
    | int j => obtain ⟨t', rfl⟩ := ry; exact PySem.EqNone.eq_none_int (fin_bl I q (by simp))
    | str j => obtain ⟨t', rfl⟩ := ry; exact PySem.EqNone.eq_none_str (fin_bl I q (by simp))
    | _ => exact absurd (show false = true from hs) Bool.false_ne_true
  | bl i =>
    cases rx
    cases y with
    | non => cases ry; exact PySem.EqNone.eq_bool_none (fin_bl I q (by simp))
    | bl j => cases ry; exact eq_bool (fin_bl I q dec_bl)
    | str j => obtain ⟨t', rfl⟩ := ry; exact PySem.EqMixed.eq_bool_str (fin_bl I q (by simp))
    | _ => exact absurd (show false = true from hs) Bool.false_ne_true
  | int i =>
    obtain ⟨t, rfl⟩ := rx
    cases y with
    | non => cases ry; exact PySem.EqNone.eq_int_none (fin_bl I q (by simp))
    | int j => obtain ⟨t', rfl⟩ := ry; exact eq_int (fin_bl I q dec_int)
    | str j => obtain ⟨t', rfl⟩ := ry; exact PySem.EqMixed.eq_int_str (fin_bl I q (by simp))
    | _ => exact absurd (show false = true from hs) Bool.false_ne_true
  | str i =>
    obtain ⟨t, rfl⟩ := rx
    cases y with
    | non => cases ry; exact PySem.EqNone.eq_str_none (fin_bl I q (by simp))
    | bl j => cases ry; exact PySem.EqMixed.eq_str_bool (fin_bl I q (by simp))
    | int j => obtain ⟨t', rfl⟩ := ry; exact PySem.EqMixed.eq_str_int (fin_bl I q (by simp))
    | str j => obtain ⟨t', rfl⟩ := ry; exact eq_str (fin_bl I q dec_str)
    | _ => exact absurd (show false = true from hs) Bool.false_ne_true
  | byt i =>
    obtain ⟨t, rfl⟩ := rx
    cases y with
    | byt j => obtain ⟨t', rfl⟩ := ry; exact PySem.W.eq_bytes (fin_bl I q dec_byt)
    | _ => exact absurd (show false = true from hs) Bool.false_ne_true
  | _ => cases y <;> exact absurd (show false = true from hs) Bool.false_ne_true
theorem op_ne : OpR X (compareOp .NotEq) rNe := by
  intro pins s σ H x y v u Q I rx ry h
  obtain ⟨hs, q⟩ := h
  cases x with
  | non =>
    cases rx
    cases y with
    | non => cases ry; exact PySem.EqNone.ne_none_none (fin_bl I q (by simp))
    | bl j => cases ry; exact PySem.EqNone.ne_none_bool (fin_bl I q (by simp))
    | int j => obtain ⟨t', rfl⟩ := ry; exact PySem.EqNone.ne_none_int (fin_bl I q (by simp))
    | str j => obtain ⟨t', rfl⟩ := ry; exact PySem.EqNone.ne_none_str (fin_bl I q (by simp))
    | _ => exact absurd (show false = true from hs) Bool.false_ne_true
  | bl i =>
    cases rx
    cases y with
    | non => cases ry; exact PySem.EqNone.ne_bool_none (fin_bl I q (by simp))
    | bl j => cases ry; exact ne_bool (fin_bl I q (congrArg not dec_bl))
    | str j => obtain ⟨t', rfl⟩ := ry; exact PySem.EqMixed.ne_bool_str (fin_bl I q (by simp))
    | _ => exact absurd (show false = true from hs) Bool.false_ne_true
  | int i =>
    obtain ⟨t, rfl⟩ := rx
    cases y with
    | non => cases ry; exact PySem.EqNone.ne_int_none (fin_bl I q (by simp))
    | int j => obtain ⟨t', rfl⟩ := ry; exact ne_int (fin_bl I q (congrArg not dec_int))
    | str j => obtain ⟨t', rfl⟩ := ry; exact PySem.EqMixed.ne_int_str (fin_bl I q (by simp))
    | _ => exact absurd (show false = true from hs) Bool.false_ne_true
  | str i =>
    obtain ⟨t, rfl⟩ := rx
    cases y with
    | non => cases ry; exact PySem.EqNone.ne_str_none (fin_bl I q (by simp))
    | bl j => cases ry; exact PySem.EqMixed.ne_str_bool (fin_bl I q (by simp))
    | int j => obtain ⟨t', rfl⟩ := ry; exact PySem.EqMixed.ne_str_int (fin_bl I q (by simp))
    | str j => obtain ⟨t', rfl⟩ := ry; exact ne_str (fin_bl I q (congrArg not dec_str))
    | _ => exact absurd (show false = true from hs) Bool.false_ne_true
  | byt i =>
    obtain ⟨t, rfl⟩ := rx
    cases y with
    | byt j => obtain ⟨t', rfl⟩ := ry; exact PySem.W.ne_bytes (fin_bl I q (congrArg not dec_byt))
    | _ => exact absurd (show false = true from hs) Bool.false_ne_true
  | _ => cases y <;> exact absurd (show false = true from hs) Bool.false_ne_true

theorem op_lt : OpR X (compareOp .Lt) (rI0 fun i j => .bl (decide (i < j))) := opB0 fun _ _ _ _ _ _ _ q => lt_int q
theorem op_le : OpR X (compareOp .LtE) (rI0 fun i j => .bl (decide (i ≤ j))) := opB0 fun _ _ _ _ _ _ _ q => le_int q
theorem op_gt : OpR X (compareOp .Gt) (rI0 fun i j => .bl (decide (j < i))) := opB0 fun _ _ _ _ _ _ _ q => gt_int q
/-- two rules for one operation: by cases -/
theorem OpR.or {f : Value → Value → Sem Value} {r r' : R2} (h : OpR X f r) (h' : OpR X f r') : OpR X f (fun x y H Q => r x y H Q ∨ r' x y H Q) := by
  intro pins s σ H x y v u Q I rx ry q
  rcases q with q | q
  · exact h pins s σ H x y v u Q I rx ry q
  · exact h' pins s σ H x y v u Q I rx ry q

theorem nomark (b : Expr) {op : CmpOp} (h : op ≠ .In := by decide) (h2 : op ≠ .NotIn := by decide) : behindInMarks op b = false := by
  have e1 : (op == CmpOp.In) = false := by cases op <;> first | rfl | exact absurd rfl h
  have e2 : (op == CmpOp.NotIn) = false := by cases op <;> first | rfl | exact absurd rfl h2
  cases b <;> simp [behindInMarks, e1, e2]
/-- a comparison as a value; hm: nomark b, or (for in, not in) by with_unfolding_all rfl -/
theorem pe_cmpR {op : CmpOp} {r : R2} (ho : OpR X (compareOp op) r) (ha : PE X a ta) (hb : PE X b tb) (hm : behindInMarks op b = false) : PE X (.Compare a [op] [b] pos) (tOp r ta tb) := by
  intro pins s σ H Q I h
  exact wpAny_Compare1 (binT ha hb I h fun v u s2 x y H2 I2 rx ry q => ho pins s2 σ H2 x y v u Q I2 rx ry q) hm
/-- a reading of a value as a test -/
def tTest (t : TE) : TT := fun σ H Q => t σ H fun x H' => ∃ k, x = .bl k ∧ Q k H'
theorem pt_cmpR {op : CmpOp} {r : R2} (ho : OpR X (compareOp op) r) (ha : PE X a ta) (hb : PE X b tb) (hm : behindInMarks op b = false) : PT X (.Compare a [op] [b] pos) (tTest (tOp r ta tb)) := by
  intro pins s σ H Q I h
  refine wpAny_isTrue_Compare1 (thn (ha pins s σ H _ I h) fun v s1 ⟨x, H1, I1, r1, q1⟩ => thn (hb pins s1 σ H1 _ I1 q1) fun u s2 ⟨y, H2, I2, r2, q2⟩ =>
    thn (ho pins s2 σ H2 x y v u _ I2 r1 r2 q2) fun c s3 ⟨z, H3, I3, r3, k, e, q3⟩ => ?_) hm
  subst e
  cases r3
  exact wpAny_truthy_bool ⟨H3, I3, q3⟩
/-- a op1 b op2 c -/
def tChain (r r' : R2) (ta tb tc : TE) : TE := fun σ H Q => ta σ H fun x H1 => tb σ H1 fun y H2 => r x y H2 fun z H3 => ∃ k, z = .bl k ∧
  (if k = true then tc σ H3 fun w' H4 => r' y w' H4 Q else Q (.bl false) H3)
theorem pt_chain {op op' : CmpOp} {r r' : R2} (ho : OpR X (compareOp op) r) (ho' : OpR X (compareOp op') r') (ha : PE X a ta) (hb : PE X b tb) (hc : PE X c tc)
    (hm : lastMarks [op, op'] [b, c] = false := by with_unfolding_all rfl) : PT X (.Compare a [op, op'] [b, c] pos) (tTest (tChain r r' ta tb tc)) := by
  intro pins s σ H Q I h
  refine isTrue_chain (thn (ha pins s σ H _ I h) fun v s1 ⟨x, H1, I1, r1, q1⟩ => test_link (thn (hb pins s1 σ H1 _ I1 q1) fun u s2 ⟨y, H2, I2, r2, q2⟩ =>
    thn (ho pins s2 σ H2 x y v u _ I2 r1 r2 q2) fun d s3 ⟨z, H3, I3, r3, k, e, q3⟩ => ?_)) hm
  subst e
  cases r3
  refine wpAny_truthy_bool ?_
  cases k with
  | false =>
    obtain ⟨k', e', q'⟩ := q3
    cases e'
    exact ite_ff ⟨H3, I3, q'⟩
  | true =>
    refine ite_tt (test_last (thn (hc pins s3 σ H3 _ I3 q3) fun w' s4 ⟨z', H4, I4, r4, q4⟩ => thn (ho' pins s4 σ H4 y z' u w' _ I4 r2 r4 q4) fun d' s5 ⟨z2, H5, I5, r5, k2, e2, q5⟩ => ?_))
    subst e2
    cases r5
    exact wpAny_truthy_bool ⟨H5, I5, q5⟩

/-! ### truth -/
theorem line63 : (sizeLine : Nat) < 2 ^ 63 := by rw [sizeLine_eq]; decide
/-! ### strs and bytes -/
theorem op_add_str : OpR X (binaryOp .Add) (fun x y H Q => ∃ i j, x = .str i ∧ y = .str j ∧ i.length + j.length ≤ sizeLine ∧ Q (.str (i ++ j)) H) := by
  intro pins s σ H x y v u Q I rx ry h
  obtain ⟨i, j, rfl, rfl, hz, q⟩ := h
  obtain ⟨t, rfl⟩ := rx
  obtain ⟨t', rfl⟩ := ry
  exact add_str (fun t' tk => ⟨.str (i ++ j), H, I.tok _, ⟨_, rfl⟩, q⟩) hz
/-! ### scalar builtins, by CallR -/
theorem vals1 {x : V} {us : List Value} (r : Vals [x] us) : ∃ u, us = [u] ∧ RelV x u := by
  cases r with
  | cons r1 r2 => cases r2; exact ⟨_, rfl, r1⟩
end
end L2

namespace L2
open PySem PySem.Spec PyProof.Rows

/-! ### an instance, its attributes a map -/
structure ObjM (h : Heap) (x dx C : Addr) (mA : Str → Option Value) : Prop where
  obj : h.get? x = some (PySem.W.instObj C dx)
  ns : h.Ns1 dx mA
  ne : dx ≠ x

section
variable {prog : Program} {w : World} {A : Around} {E : Value → Shared → Prop} {s : Shared} {K : PySem.W.Frag} {x dx C f : Addr} {mA : Str → Option Value} {name : Str} {v : Value}

end

/-! ### the attributes as a list of pairs -/
section
variable {P : Program} {w : World} {H H' : Hp} {h h' : Heap} {a C dx : Addr} {fs fs' : List (Str × V)}
end

/-! ### what of the text a class must have -/
structure Cls (K : PySem.W.Frag) (C : Addr) : Prop where
  pg : PySem.W.plainGet K C Str.empty = true
  hd : PySem.W.hasDictIn K C = true
  po : PySem.W.plainOver K C = true
  sa : PySem.W.findIn K (.ref C) "__setattr__" = some (some (.builtin "object.__setattr__"))
theorem Cls.get {K : PySem.W.Frag} {C : Addr} (c : Cls K C) (f : Str) : PySem.W.plainGet K C f = true := c.pg
/-- a constant of the class -/
structure Con (K : PySem.W.Frag) (C : Addr) (f : Str) (v : V) (u : Value) : Prop where
  at_ : PySem.W.findIn K (.ref C) f = some (some u)
  rel : RelV v u
  get : PySem.W.specialIn K u "__get__" = some none
  cp : PySem.W.copiedNames.contains f = false
/-- a method: a plain def of the class or of one above it -/
structure Meth (K : PySem.W.Frag) (C : Addr) (m : Str) (f : Addr) : Prop where
  at_ : PySem.W.findIn K (.ref C) m = some (some (.ref f))
  fn : PySem.W.isFn K (.ref f) = true
  kp : PySem.W.keepIn K (.ref f) = true

section
variable {X : Cx} {pins : List (Addr × Obj)} {σ : St} {H : Hp} {s : Shared} {a C dx : Addr} {fs : List (Str × V)} {f : Str} {v : V} {A : Around} {E : Value → Shared → Prop}

end

/-! ### readings and rules -/
section
variable {X : Cx} {o e value : Expr} {f : Str} {pos pos' tpos : Pos} {ta tv : TE}
end

/-! ### isinstance -/
section
variable {X : Cx} {pins : List (Addr × Obj)} {σ : St} {H : Hp} {s : Shared} {A : Around} {E : Value → Shared → Prop} {Q : Value → Shared → Prop} {c : Value} {b : Bool}
/-- the type of a value, as the fragment's deciders take it; for an instance its class -/
inductive TyOf (K : PySem.W.Frag) (H : Hp) : V → Value → Prop where
  | non : TyOf K H .non (.type "NoneType")
  | bl (x : Bool) : TyOf K H (.bl x) (.type "bool")
  | int (i : Int) : TyOf K H (.int i) (.type "int")
  | str (x : Str) : TyOf K H (.str x) (.type "str")
  | flt (x : UInt64) : TyOf K H (.flt x) (.type "float")
  | lst {a : Addr} {xs : List V} (e : H a = some (.lst xs)) : TyOf K H (.ref a) (.type "list")
  | frz {a : Addr} {o : Obj} {xs : List V} (e : H a = some (.frz o (.lst xs))) : TyOf K H (.ref a) (.type "list")
  | tup {a : Addr} {xs : List V} (e : H a = some (.tup xs)) : TyOf K H (.ref a) (.type "tuple")
  | dK {a : Addr} {kvs : List (Key × V)} (e : H a = some (.dK kvs)) : TyOf K H (.ref a) (.type "dict")
  | dT {a : Addr} {kvs : List (List Key × V)} (e : H a = some (.dT kvs)) : TyOf K H (.ref a) (.type "dict")
  | ins {a C dx : Addr} {fs : List (Str × V)} (e : H a = some (.ins C dx fs)) (cl : Cls K C) (ha : PySem.W.findIn K (.ref C) "__class__" = some (some (.builtin "object.__class__")))
      (hn : PySem.W.specialIn K (.builtin "object.__class__") "__get__" = some (some (.builtin "getset_descriptor.__get__"))) (htk : PySem.W.takesIn K (.builtin "object.__class__") = some true)
      (hm : PySem.W.mroIn K C (.type "object") = some true) : TyOf K H (.ref a) (.ref C)
end
end L2

namespace L2
open PySem PySem.Spec PyProof.Rows

/-! ### room -/
structure Room (k : Nat) (A : Around) : Prop where
  hd : A.handled = none
  dp : A.depth + 3 * k + 5 < recursionLimit
  un : A.units + 16 * k + 200 < cLine
theorem Room.mono {j k : Nat} {A : Around} (r : Room k A) (h : j ≤ k) : Room j A := ⟨r.hd, by have := r.dp; omega, by have := r.un; omega⟩
theorem Room.deeper {k : Nat} {A : Around} (r : Room (k + 1) A) (env : Env) : Room k (A.deeper env) :=
  ⟨r.hd, by have := r.dp; show A.depth + 1 + 3 * k + 5 < _; omega, by have := r.un; show A.units + 3 + 16 * k + 200 < _; omega⟩
theorem Room.in1 {k : Nat} {A : Around} (r : Room (k + 1) A) : Room k A.in1 :=
  ⟨r.hd, by have := r.dp; show A.depth + 3 * k + 5 < _; omega, by have := r.un; show A.units + 1 + 16 * k + 200 < _; omega⟩
theorem Room.depth {k : Nat} {A : Around} (r : Room k A) : A.depth < recursionLimit := by have := r.dp; omega
theorem Room.units {k : Nat} {A : Around} (r : Room k A) : A.units + 64 < cLine := by have := r.un; omega
/-! ### argument lists and displays -/
def tNil : TA := fun _ H Q => Q [] H
def tCons (ta : TE) (tr : TA) : TA := fun σ H Q => ta σ H fun x H1 => tr σ H1 fun xs H2 => Q (x :: xs) H2
section
variable {X : Cx} {e : Expr} {es : List Expr} {te : TE} {t : TA} {pos : Pos}
theorem pa_nil : PA X [] tNil := fun _ _ _ _ H Q I h => Calls.spliced_nil ⟨[], H, I, .nil, h⟩
theorem pa_cons (ha : PE X e te) (hr : PA X es t) (hs : starEach (e :: es) X.env = (false, eval e X.env) :: starEach es X.env := by rfl) : PA X (e :: es) (tCons te t) := by
  intro pos pins s σ H Q I h
  rw [hs]
  show wpAny _ _ (spliced ((false, eval e X.env) :: backTo pos (starEach es X.env))) _ _ s
  refine Calls.spliced_cons (thn (ha pins s σ H _ I h) fun u s1 ⟨x, H1, I1, r1, q1⟩ => ?_)
  exact thn (hr pos pins s1 σ H1 _ I1 q1) fun us s2 ⟨xs, H2, I2, r2, q2⟩ => ⟨x :: xs, H2, I2, .cons r1 r2, q2⟩

def tLst (t : TA) : TE := fun σ H Q => t σ H fun xs H1 => xs.length ≤ sizeLine ∧ ∀ p, H1 p = none → Q (.ref p) (upd H1 p (.lst xs))
theorem pe_lst (h : PA X es t) : PE X (.List es pos) (tLst t) := by
  intro pins s σ H Q I hq
  refine wpAny_List_spliced (thn (h pos pins s σ H _ I hq) fun us s1 ⟨xs, H1, I1, r, z, q⟩ => ⟨by rw [← r.length]; exact z, ?_⟩)
  have hf : H1 s1.heap.objs.size = none := I1.hok.fresh (Nat.le_refl _)
  refine ⟨.ref s1.heap.objs.size, upd H1 s1.heap.objs.size (.lst xs), I1.laid (t' := s1.toks) (fun b u e => Heap.get?_push_of_some _ e) (Nat.le_refl _) ?_, rfl, q _ hf⟩
  exact ⟨z, us, 0, r, Heap.get?_push_size _ rfl⟩
end

/-! ### what a def promises -/
/-- a def's promise: the bound arguments in the parameters' order, the heap, the wanted end, the wanted exception -/
abbrev Sp := List V → Hp → VK → XK → Prop
/-- how an exception lies behind a call (file 08 gives it): the callers' frames, abstract heap and state ahead of the call, the wish, the exception, the state -/
abbrev CXT := List Env → Hp → Shared → XK → Value → Shared → Prop

/-- the state at a call -/
structure Env0 (P : Program) (w : World) (K : PySem.W.Frag) (mg : Str → Option Value) (base : Heap) (A : Around) (outer : List Env) (s : Shared) (H : Hp) : Prop where
  frames : A.frames = some outer
  mod : Mod K mg base
  bs : ∀ b o, base.get? b = some o → s.heap.get? b = some o ∧ H b = none
  bsz : base.objs.size ≤ s.heap.objs.size
  funs : s.heap.FunFrames base outer
  frf : ∀ b ∈ frs outer, H b = none
  hok : HOk P w H s.heap
  bare : AllBare s.gens
/-- a call's end -/
def CE (outer : List Env) (P : Program) (w : World) (H : Hp) (s : Shared) (Q : VK) (u : Value) (s' : Shared) : Prop :=
  ∃ v H', s'.os = s.os ∧ AllBare s'.gens ∧ Un (frs outer) [] H H' s.heap s'.heap ∧ HOk P w H' s'.heap ∧ RelV v u ∧ Q v H'
def CR (CX : CXT) (outer : List Env) (P : Program) (w : World) (H : Hp) (s : Shared) (Q : VK) (E : XK) (r : Result) (s' : Shared) : Prop :=
  match r with
  | .ok (.ret u) => CE outer P w H s Q u s'
  | .ok _ => False
  | .error e => CX outer H s E e s'
structure FnOk (P : Program) (w : World) (K : PySem.W.Frag) (mg : Str → Option Value) (base : Heap) (CX : CXT) (k : Nat) (f : Addr) (fd : FuncData) (ps : List Str) (sp : Sp) : Prop where
  len : ∀ vs H Q E, sp vs H Q E → vs.length = ps.length
  run : ∀ (A : Around) (outer : List Env) (s : Shared) (H : Hp) (args : Args) (us : List Value) (vs : List V) (Q : VK) (E : XK), Room k A → Env0 P w K mg base A outer s H → BindsTo s fd args (ps.zip us) → Vals vs us → sp vs H Q E →
    codeAny (model P w) A (.call (.ref f) args) (CR CX outer P w H s Q E) s
theorem FnOk.mono {P : Program} {w : World} {K : PySem.W.Frag} {mg : Str → Option Value} {base : Heap} {CX : CXT} {j k : Nat} {f : Addr} {fd : FuncData} {ps : List Str} {sp : Sp} (F : FnOk P w K mg base CX j f fd ps sp) (h : j ≤ k) :
    FnOk P w K mg base CX k f fd ps sp := ⟨F.len, fun A outer s H args us vs Q E hr => F.run A outer s H args us vs Q E (hr.mono h)⟩
/-- a weaker promise -/
theorem FnOk.imp {P : Program} {w : World} {K : PySem.W.Frag} {mg : Str → Option Value} {base : Heap} {CX : CXT} {k : Nat} {f : Addr} {fd : FuncData} {ps : List Str} {sp sp' : Sp} (F : FnOk P w K mg base CX k f fd ps sp)
    (h : ∀ vs H Q E, sp' vs H Q E → sp vs H Q E) : FnOk P w K mg base CX k f fd ps sp' :=
  ⟨fun vs H Q E q => F.len vs H Q E (h _ _ _ _ q), fun A outer s H args us vs Q E hr he hb hv hs => F.run A outer s H args us vs Q E hr he hb hv (h _ _ _ _ hs)⟩

theorem Env0.in1 {P : Program} {w : World} {K : PySem.W.Frag} {mg : Str → Option Value} {base : Heap} {A : Around} {outer : List Env} {s : Shared} {H : Hp} (e : Env0 P w K mg base A outer s H) :
    Env0 P w K mg base A.in1 outer s H := ⟨e.frames, e.mod, e.bs, e.bsz, e.funs, e.frf, e.hok, e.bare⟩

section
variable {X : Cx} {pins : List (Addr × Obj)} {σ : St} {H : Hp} {s s' : Shared}
/-- from a body: what a callee wants -/
theorem Inv.env0 (I : Inv X pins σ H s) : Env0 X.prog X.w X.K X.mg X.base X.A X.stack s H :=
  ⟨I.ok.frames, I.ok.mod, I.bs, Nat.le_trans I.ok.bsz I.sz, I.stack, I.stkFree, I.hok, I.bare⟩
/-- behind a call -/
theorem Inv.after {Q : VK} {u : Value} (I : Inv X pins σ H s) (h : CE X.stack X.prog X.w H s Q u s') : EP X pins σ Q u s' := by
  obtain ⟨v, H', os, bare, un, hok, r, q⟩ := h
  obtain ⟨hh, g, d, t, os'⟩ := s'
  obtain rfl : os' = s.os := os
  exact ⟨v, H', I.call (h' := hh) (g' := g) (d' := d) (t' := t) (ch := []) un hok bare (fun b z => absurd z (by simp)), r, q⟩
end

/-! ### calls -/
/-- f(..): the written arguments, then the defaults dvs; E: what is wanted of an exception -/
def tCall (sp : Sp) (dvs : List V) (E : XK) (t : TA) : TE := fun σ H Q => t σ H fun vs H1 => sp (vs ++ dvs) H1 Q E
/-- how the parameters are bound: us the positional arguments, kw the keywords' values by name, ds the defaults that fill up -/
def Binds (K : PySem.W.Frag) (fd : FuncData) (ps : List Str) (ds : List Value) : Prop :=
  ∀ (s : Shared) (us : List Value), K.In s.heap → (us ++ ds).length = ps.length → BindsTo s fd ⟨us, []⟩ (ps.zip (us ++ ds))
/-- every parameter is given -/
theorem Binds.all {K : PySem.W.Frag} {fd : FuncData} {ps : List Str} (h : ∀ us : List Value, us.length = ps.length → bindArgs fd ⟨us, []⟩ = pure (ps.zip us)) : Binds K fd ps [] := fun s us _ hl => by
  rw [List.append_nil] at hl ⊢
  exact .of_eq (h us hl)

/-- an exception of a callee reaches what this body wants of exceptions -/
def Passes (CX : CXT) (X : Cx) (E : XK) : Prop := ∀ (pins : List (Addr × Obj)) (σ : St) (H : Hp) (s : Shared) (e : Value) (s' : Shared), Inv X pins σ H s → CX X.stack H s E e s' → X.xe e s'

section
variable {X : Cx} {CX : CXT} {k : Nat} {f C : Addr} {fd : FuncData} {ps : List Str} {sp : Sp} {dvs : List V} {ds : List Value} {E : XK} {x m : Str} {p pos apos : Pos} {e o : Expr} {es : List Expr} {ta : TE} {t : TA}

/-- the callee runs -/
theorem run_fn {pins : List (Addr × Obj)} {σ : St} {H : Hp} {s : Shared} {Q : VK} {us : List Value} {vs : List V} (F : FnOk X.prog X.w X.K X.mg X.base CX k f fd ps sp) (hr : Room k X.A) (hb : Binds X.K fd ps ds) (hd : Vals dvs ds) (hx : Passes CX X E)
    (I : Inv X pins σ H s) (r : Vals vs us) (h : sp (vs ++ dvs) H Q E) : wpAny (model X.prog X.w) X.A (call (.ref f) us) (EP X pins σ Q) X.xe s := by
  have r2 : Vals (vs ++ dvs) (us ++ ds) := r.append hd
  have hl : (us ++ ds).length = ps.length := by rw [← r2.length]; exact F.len _ _ _ _ h
  refine wpAny_call (codeAny_mono (F.run X.A X.stack s H ⟨us, []⟩ (us ++ ds) (vs ++ dvs) Q E hr I.env0 (hb s us I.kIn hl) r2 h) fun r s' hq => ?_)
  cases r with
  | error e => exact hx pins σ H s e s' I hq
  | ok fl =>
    cases fl with
    | ret u => exact I.after hq
    | next => exact False.elim hq
    | brk => exact False.elim hq
    | cont => exact False.elim hq

theorem pe_call (F : FnOk X.prog X.w X.K X.mg X.base CX k f fd ps sp) (hr : Room k X.A) (hg : Gl X x) (hm : X.mg x = some (.ref f)) (hk : PySem.W.keepIn X.K (.ref f) = true) (hb : Binds X.K fd ps ds) (hd : Vals dvs ds) (hx : Passes CX X E)
    (ha : PA X (e :: es) t) (hdb : (x == ("__debug__" : Str)) = false := by decide) (he : starEach (e :: es) X.env = (false, eval e X.env) :: starEach es X.env := by rfl) (hpl : (backTo pos (starEach es X.env)).any (·.1) = false := by rfl) :
    PE X (.Call (.Name x p) (e :: es) [] pos) (tCall sp dvs E t) := by
  intro pins s σ H Q I h
  refine wpAny_Call_Name_kw (ld_glob I hg hm ?_ hdb)
  refine PySem.W.callWith_K (h₀ := X.base) I.ok.mod.kin hk (thn (ha pos pins s σ H _ I h) fun us s1 ⟨vs, H1, I1, r, q⟩ => ⟨I1.kIn, ?_⟩) he hpl
  exact run_fn F hr hb hd hx I1 r q
/-- what a class must have to be made -/
structure Mk (K : PySem.W.Frag) (C f : Addr) : Prop where
  makes : PySem.W.makesIn K C = true
  init : PySem.W.findIn K (.ref C) "__init__" = some (some (.ref f))
  fn : PySem.W.isFn K (.ref f) = true
  kp : PySem.W.keepIn K (.ref C) = true

end

/-! ### keywords -/
section
variable {X : Cx} {CX : CXT} {k : Nat} {f C : Addr} {fd : FuncData} {ps ks : List Str} {sp : Sp} {E : XK} {x m : Str} {p pos apos kpos : Pos} {e o : Expr} {es : List Expr} {kws : List Keyword} {te ta : TE} {t tk : TA} {nm : Option Str}
/-- how a call with keywords binds: g puts the positional values us and the keywords' values ws (names ks) in the parameters' order, defaults among them -/
structure KBinds (K : PySem.W.Frag) (fd : FuncData) (ps ks : List Str) (g : List Value → List Value → List Value) (gV : List V → List V → List V) : Prop where
  to : ∀ (s : Shared) (us ws : List Value), K.In s.heap → (g us ws).length = ps.length → BindsTo s fd ⟨us, ks.zip ws⟩ (ps.zip (g us ws))
  rel : ∀ {vs : List V} {us : List Value} {zs : List V} {ws : List Value}, Vals vs us → Vals zs ws → Vals (gV vs zs) (g us ws)
variable {g : List Value → List Value → List Value} {gV : List V → List V → List V}
end

/-! ### a def's body keeps its promise -/
/-- names: the parameters first -/
structure FnScope (N P : List Str) (sc : Scope) : Prop where
  kind : sc.kind = .function
  co : sc.isCoroutine = false
  gen : sc.isGenerator = false
  nd : N.Nodup
  pre : N.take P.length = P
  par : ∀ x ∈ P, sc.names.lookup x = some .local ∨ sc.names.lookup x = some .cell
  nofree : ∀ y ∈ sc.names, y.2 ≠ .free

theorem bindL_out {kindOf : Str → Option NameKind} {x : Str} : ∀ {binds : List (Str × Value)} {m : Str → Option Value}, (∀ v, (x, v) ∉ binds) → bindL kindOf binds m x = m x
  | [], _, _ => rfl
  | (n, v) :: r, m, h => by
    unfold bindL
    rw [bindL_out fun w hw => h w (List.mem_cons_of_mem _ hw)]
    split
    · have : x ≠ n := by rintro rfl; exact h v List.mem_cons_self
      simp [this]
    · rfl
theorem bindC_out {kindOf : Str → Option NameKind} {x : Str} : ∀ {binds : List (Str × Value)} {m : Str → Option Value}, (∀ v, (x, v) ∉ binds) → bindC kindOf binds m x = m x
  | [], _, _ => rfl
  | (n, v) :: r, m, h => by
    unfold bindC
    rw [bindC_out fun w hw => h w (List.mem_cons_of_mem _ hw)]
    split
    · rfl
    · have : x ≠ n := by rintro rfl; exact h v List.mem_cons_self
      simp [this]
theorem bindL_get {kindOf : Str → Option NameKind} {x : Str} {v : Value} : ∀ {P : List Str} {vs : List Value} {i : Nat} {m : Str → Option Value}, P.Nodup → P[i]? = some x → vs[i]? = some v → kindOf x = some .local →
    bindL kindOf (P.zip vs) m x = some v
  | [], _, _, _, _, h, _, _ => by simp at h
  | _ :: _, [], _, _, _, _, h, _ => by simp at h
  | p :: P, w :: vs, 0, m, nd, h1, h2, hk => by
    simp at h1 h2; subst h1; subst h2
    show bindL kindOf ((p, w) :: P.zip vs) m p = _
    unfold bindL
    rw [bindL_out fun v hv => (List.nodup_cons.mp nd).1 (List.of_mem_zip hv).1, if_pos hk]
    simp
  | p :: P, w :: vs, i + 1, m, nd, h1, h2, hk => by
    show bindL kindOf ((p, w) :: P.zip vs) m x = _
    unfold bindL
    exact bindL_get (i := i) (List.nodup_cons.mp nd).2 (by simpa using h1) (by simpa using h2) hk
theorem bindC_get {kindOf : Str → Option NameKind} {x : Str} {v : Value} : ∀ {P : List Str} {vs : List Value} {i : Nat} {m : Str → Option Value}, P.Nodup → P[i]? = some x → vs[i]? = some v → kindOf x ≠ some .local →
    bindC kindOf (P.zip vs) m x = some v
  | [], _, _, _, _, h, _, _ => by simp at h
  | _ :: _, [], _, _, _, _, h, _ => by simp at h
  | p :: P, w :: vs, 0, m, nd, h1, h2, hk => by
    simp at h1 h2; subst h1; subst h2
    show bindC kindOf ((p, w) :: P.zip vs) m p = _
    unfold bindC
    rw [bindC_out fun v hv => (List.nodup_cons.mp nd).1 (List.of_mem_zip hv).1, if_neg hk]
    simp
  | p :: P, w :: vs, i + 1, m, nd, h1, h2, hk => by
    show bindC kindOf ((p, w) :: P.zip vs) m x = _
    unfold bindC
    exact bindC_get (i := i) (List.nodup_cons.mp nd).2 (by simpa using h1) (by simpa using h2) hk

/-- the names' values at the entry -/
def start (N : List Str) (vs : List V) : St := vs.map some ++ List.replicate (N.length - vs.length) none

/-- the context of a def's body, at its entry; an exception leaves the frame, then lies as CX says -/
def cxOf (CX : CXT) (P : Program) (w : World) (K : PySem.W.Frag) (mg : Str → Option Value) (base : Heap) (N : List Str) (qual : Str) (scope : Scope) (f : Addr) (cd : Value) (A : Around) (outer : List Env) (s : Shared) (H : Hp) (E : XK) : Cx where
  prog := P
  w := w
  K := K
  mg := mg
  base := base
  A := A.deeper (envOfC qual scope s.heap.objs.size f cd)
  N := N
  s₀ := s
  H₀ := H
  env := envOfC qual scope s.heap.objs.size f cd
  outer := outer
  stack := envOfC qual scope s.heap.objs.size f cd :: outer
  ex := []
  calm := true
  fn := fun _ => true
  pn := []
  xe := fun e s' => wpAny (model P w) (A.deeper (envOfC qual scope s.heap.objs.size f cd)) (leaving (envOfC qual scope s.heap.objs.size f cd) e) (fun _ s'' => CX outer H s E e s'') (fun e' s'' => CX outer H s E e' s'') s'

theorem cell_has {sc : Scope} {n : Nat} {x : Str} (h : sc.names.lookup x = some .cell) : ∃ c, (cellsFrom n sc.names []).lookup x = some c := by
  have q := PySem.W.cellsFrom_some sc.names n [] (.inl h)
  exact Option.isSome_iff_exists.mp q

theorem inv_start {CX : CXT} {P : Program} {w : World} {K : PySem.W.Frag} {mg : Str → Option Value} {base : Heap} {N ps : List Str} {qual : Str} {scope : Scope} {f : Addr} {cd : Value} {A : Around} {outer : List Env} {s s1 : Shared} {H : Hp} {E : XK} {us : List Value} {vs : List V}
    (S : FnScope N ps scope) (hd : A.handled = none) (e0 : Env0 P w K mg base A outer s H) (hl : vs.length = ps.length) (r : Vals vs us)
    (x : InCallC s s.heap.objs.size (bindL (envOfC qual scope s.heap.objs.size f cd).kindOf (ps.zip us) fun _ => none) (cellsFrom (s.heap.objs.size + 1) scope.names []) (bindC (envOfC qual scope s.heap.objs.size f cd).kindOf (ps.zip us) fun _ => none) s1) :
    Inv (cxOf CX P w K mg base N qual scope f cd A outer s H E) [] (start N vs) H s1 := by
  have hpl : ps.length ≤ N.length := by have := congrArg List.length S.pre; rw [List.length_take] at this; omega
  obtain ⟨h1, tk, rfl, hk⟩ := x.done
  have noA : ∀ b : Addr, b ∉ (cxOf CX P w K mg base N qual scope f cd A outer s H E).ex := fun b z => absurd (show b ∈ ([] : List Addr) from z) (by simp)
  refine ⟨⟨e0.mod, S.kind, rfl, rfl, Nat.le_refl _, fun y z c h1 h2 => ?_, fun y hy => ?_, fun y c _ h => ?_, fun _ => hd, Around.frames_deeper e0.frames, .inr ⟨rfl, rfl⟩, fun b z => absurd z (noA b), e0.bs, e0.bsz, fun b _ _ => noA b, fun b z => absurd z (noA b), e0.funs, e0.frf⟩,
    rfl, e0.bare, Un.kept hk, ⟨_, x.toInCall.ns, fun i y v h1 h2 h3 => ?_⟩, fun y c h => ⟨_, x.cell y c h⟩, e0.hok.fresh (Nat.le_refl _), fun y c h => ?_, fun p hp => absurd (show p ∈ ([] : List (Addr × Obj)) from hp) (by simp), e0.hok.kept hk, ?_⟩
  · exact name_of_addr x.apart (PySem.mem_of_lookup h1) (PySem.mem_of_lookup h2)
  · have hy : scope.names.lookup y = some .cell ∨ scope.names.lookup y = some .free := hy
    rcases hy with hy | hy
    · exact cell_has hy
    · exact absurd rfl (S.nofree _ (PySem.mem_of_lookup hy))
  · exact Nat.le_of_lt (x.above y c (PySem.mem_of_lookup h))
  · have hi : i < vs.length := by
      unfold start at h2
      by_cases hi : i < vs.length
      · exact hi
      · rw [List.getElem?_append_right (by simpa using hi)] at h2
        rw [List.getElem?_replicate] at h2
        split at h2 <;> cases h2
    have ha : vs[i]? = some v := by
      unfold start at h2
      rw [List.getElem?_append_left (by simpa using hi), List.getElem?_map] at h2
      cases e : vs[i]? with
      | none => rw [e] at h2; cases h2
      | some a => rw [e] at h2; cases h2; rfl
    obtain ⟨u, hu, rv⟩ := r.get ha
    have hp : ps[i]? = some y := by
      rw [← S.pre, List.getElem?_take_of_lt (by omega)]; exact h1
    have ndP : ps.Nodup := by rw [← S.pre]; exact S.nd.sublist (List.take_sublist _ _)
    refine ⟨u, rv, ?_⟩
    rcases S.par y (List.mem_of_getElem? hp) with k | k
    · exact .inl ⟨k, bindL_get ndP hp hu k⟩
    · obtain ⟨c, e⟩ := cell_has (n := s.heap.objs.size + 1) k
      refine .inr ⟨.inl k, c, e, ?_⟩
      have q := x.cell y c e
      rw [bindC_get ndP hp hu (by show scope.names.lookup y ≠ _; rw [k]; decide)] at q
      exact q
  · exact e0.hok.fresh (Nat.le_of_lt (x.above y c (PySem.mem_of_lookup h)))
  · unfold start
    show _ = N.length
    rw [List.length_append, List.length_map, List.length_replicate]
    omega

/-- THE RULE: a def (or a method) of the text, by its body. The body's reading t is chosen for each entry; it is run at the parameters' values -/
theorem fn_of {CX : CXT} {P : Program} {w : World} {K : PySem.W.Frag} {mg : Str → Option Value} {base : Heap} {k : Nat} {f : Addr} {name qual : Str} {params : Arguments} {body : List Stmt} {scope : Scope} {dV kV doc pm cdv ct oc : Value} {an od : Option Addr}
    {osl : Array (Option Value)} {N ps : List Str} {sp : Sp} (lk : K.lookup f = some ⟨oc, od, .func (PySem.W.fnOf name qual params body scope dV kV doc pm an cdv ct), osl⟩) (hcd : PySem.W.codeIn K cdv qual = true) (S : FnScope N ps scope)
    (len : ∀ vs H Q E, sp vs H Q E → vs.length = ps.length)
    (hbody : ∀ (A : Around) (outer : List Env) (s : Shared) (H : Hp) (vs : List V) (Q : VK) (E : XK), Room k (A.deeper (envOfC qual scope s.heap.objs.size f cdv)) → sp vs H Q E →
      ∃ t, PSs (cxOf CX P w K mg base N qual scope f cdv A outer s H E) body t ∧ t { nx := fun _ H' => Q .non H', rt := Q } (start N vs) H) :
    FnOk P w K mg base CX (k + 1) f (PySem.W.fnOf name qual params body scope dV kV doc pm an cdv ct) ps sp := by
  refine ⟨len, fun A outer s H args us vs Q E hr e0 hb r hsp => ?_⟩
  have hl := len _ _ _ _ hsp
  have KX : K.In s.heap := e0.mod.kin.keeps fun b o e => (e0.bs b o e).1
  have lim : s.heap.NoLimit := e0.mod.nolimit.keeps fun b o e => (e0.bs b o e).1
  have hkind : ∀ y ∈ ps.zip us, scope.names.lookup y.1 = some .local ∨ (scope.names.lookup y.1 = some .cell ∧ ((cellsFrom (s.heap.objs.size + 1) scope.names []).lookup y.1).isSome = true) := fun ⟨n, v⟩ hy => by
    rcases S.par n (List.of_mem_zip hy).1 with q | q
    · exact .inl q
    · exact .inr ⟨q, PySem.W.cellsFrom_some _ _ _ (.inl q)⟩
  refine codeAny_call_function hr.depth (KX _ _ lk) rfl S.co S.gen rfl (PySem.W.codeRec_of KX hcd) (hb _ _ _ _ ?_)
  refine wpAny_newFunctionEnv_cells S.kind hkind fun env he s1 x => ?_
  subst he
  refine ⟨lim.keeps x.toInCall.keep, codeAny_func ?_⟩
  obtain ⟨t, ht, hq⟩ := hbody A outer s H vs Q E (hr.deeper _) hsp
  have I : Inv (cxOf CX P w K mg base N qual scope f cdv A outer s H E) [] (start N vs) H s1 := inv_start S hr.hd e0 hl r x
  refine wpAny_mono (ht [] s1 (start N vs) H _ I hq) (fun fl s' hs => ?_) fun e s' hs => hs
  have fin : ∀ {σ' : St} {H' : Hp} {v : V} {u : Value}, Inv (cxOf CX P w K mg base N qual scope f cdv A outer s H E) [] σ' H' s' → RelV v u → Q v H' → CE outer P w H s Q u s' :=
    fun {σ' H' v u} J rv q => ⟨v, H', J.os, J.bare, J.base, J.hok, rv, q⟩
  cases fl with
  | ret u =>
    obtain ⟨v, σ', H', J, rv, q⟩ := hs
    exact fin J rv q
  | next =>
    obtain ⟨σ', H', J, q⟩ := hs
    exact fin (v := V.non) (u := Value.none) J rfl q
  | brk =>
    obtain ⟨_, _, _, q⟩ := hs
    exact False.elim q
  | cont =>
    obtain ⟨_, _, _, q⟩ := hs
    exact False.elim q
end L2

namespace L2
open PySem PySem.Spec PyProof.Rows
section
variable {X : Cx} {x : Str} {p pos : Pos} {e : Expr} {es : List Expr} {t : TA} {id T : String} {r : List V → Hp → VK → Prop}

def tCB (r : List V → Hp → VK → Prop) (t : TA) : TE := fun σ H Q => t σ H fun vs H1 => r vs H1 Q
/-- f(e, ..), f a built-in function -/
theorem pe_callB (hc : CallR X (.builtin id) r) (hg : Gl X x) (hm : X.mg x = none) (hv : bootBuiltins x = some (.builtin id)) (ha : PA X (e :: es) t) (hn : x ≠ "__name__" := by decide) (hdb : (x == ("__debug__" : Str)) = false := by decide)
    (he : starEach (e :: es) X.env = (false, eval e X.env) :: starEach es X.env := by rfl) (hpl : (backTo pos (starEach es X.env)).any (·.1) = false := by rfl) : PE X (.Call (.Name x p) (e :: es) [] pos) (tCB r t) := by
  intro pins s σ H Q I h
  refine wpAny_Call_Name_kw (ld_blt I hg hm hv ?_ hn hdb)
  exact PyProof.Rows.callWith_builtin1 (thn (ha pos pins s σ H _ I h) fun us s1 ⟨vs, H1, I1, r1, q1⟩ => hc pins s1 σ H1 vs us Q I1 r1 q1) he hpl
/-- T(e, ..), T a built-in type -/
theorem pe_callTy (hc : CallR X (.type T) r) (hg : Gl X x) (hm : X.mg x = none) (hv : bootBuiltins x = some (.type T)) (ha : PA X (e :: es) t) (hn : x ≠ "__name__" := by decide) (hdb : (x == ("__debug__" : Str)) = false := by decide)
    (he : starEach (e :: es) X.env = (false, eval e X.env) :: starEach es X.env := by rfl) (hpl : (backTo pos (starEach es X.env)).any (·.1) = false := by rfl) : PE X (.Call (.Name x p) (e :: es) [] pos) (tCB r t) := by
  intro pins s σ H Q I h
  refine wpAny_Call_Name_kw (ld_blt I hg hm hv ?_ hn hdb)
  exact PyProof.Rows.callWith_type1 (thn (ha pos pins s σ H _ I h) fun us s1 ⟨vs, H1, I1, r1, q1⟩ => hc pins s1 σ H1 vs us Q I1 r1 q1) he hpl
end
end L2

namespace HT
open PySem PyProof.Rows

/-- t < u of tuples of ints -/
def lexLt : List Int → List Int → Bool
  | [], [] => false
  | [], _ :: _ => true
  | _ :: _, [] => false
  | x :: xs, y :: ys => if x = y then lexLt xs ys else decide (x < y)
theorem lexLt_cons (x y : Int) (xs ys : List Int) : lexLt (x :: xs) (y :: ys) = if x = y then lexLt xs ys else decide (x < y) := rfl
theorem lexLt_nil_nil : lexLt [] [] = false := rfl
theorem lexLt_nil_cons (y : Int) (ys : List Int) : lexLt [] (y :: ys) = true := rfl
theorem lexLt_cons_nil (x : Int) (xs : List Int) : lexLt (x :: xs) [] = false := rfl

theorem eqAt_int (A : Around) (s : Shared) (a : Int) (t : Tok) (c : Int) (u : Tok) : ∃ e, SeqAt.EqAt A s (.int a t) (.int c u) e ∧ (e = true ↔ a = c) :=
  ⟨(a == c), SeqAt.EqAt.int_int a t c u, by simp⟩
theorem rcLt_int (A : Around) (s : Shared) (a : Int) (t : Tok) (c : Int) (u : Tok) (prog : Program) (w : World) (E : Value → Shared → Prop) (Q : Value → Shared → Prop) (h : Q (.bool (decide (a < c))) s) :
    wpAny (model prog w) A (richCompare .Lt (.int a t) (.int c u)) Q E s :=
  (PyProof.Rows.lt_int h : wpAny (model prog w) A (compareOp .Lt (.int a t) (.int c u)) Q E s)

section
open PySem.SeqAt
open PySem.AutoSeq1 (wpAny_loadPart')
open PySem.MeetsSeq PySem.MeetsSeq2 PySem.MeetsSeq3

end

section
variable {prog : Program} {w : World} {A : Around} {E : Value → Shared → Prop} {s : Shared}

/-- t + u, t not empty -/
theorem cat_tup {t b : Addr} {vs ws : List Value} {Q : Value → Shared → Prop} (ht : IsTup s.heap t vs.toArray) (hb : IsTup s.heap b ws.toArray) (hv : vs ≠ [])
    (h1 : ws = [] → Q (.ref t) s) (h2 : ws ≠ [] → Q (.ref s.heap.objs.size) { s with heap := s.heap.push { cls := .type "tuple", data := .seq (vs ++ ws).toArray } })
    (hsz : vs.length + ws.length ≤ sizeLine) : wpAny (model prog w) A (binaryOp .Add (.ref t) (.ref b)) Q E s := by
  obtain ⟨⟨cls, dd, data, sl⟩, ho, hc, n, hd⟩ := id ht
  obtain ⟨⟨cls2, dd2, data2, sl2⟩, ho2, hc2, n2, hd2⟩ := id hb
  simp only at hc hd hc2 hd2
  subst hc hd hc2 hd2
  have e : vs.toArray ++ ws.toArray = (vs ++ ws).toArray := by simp
  by_cases hw : ws = []
  · exact concat_meets ⟨_, ho, rfl⟩ ⟨_, ho2, rfl⟩ noFill_tuple_add seq_tuple_add PySem.F.slot_tuple_add PySem.F.entry_tuple_add (PySem.F.args_tuple_add_2 _ _)
      (tuple_addW1 t b vs.toArray ws.toArray n n2 dd dd2 sl sl2 (by simpa using hv) (by simp [hw])) ⟨ho, ho2, h1 hw⟩
  · refine concat_meets ⟨_, ho, rfl⟩ ⟨_, ho2, rfl⟩ noFill_tuple_add seq_tuple_add PySem.F.slot_tuple_add PySem.F.entry_tuple_add (PySem.F.args_tuple_add_2 _ _)
      (tuple_addW2 t b vs.toArray ws.toArray n n2 dd dd2 sl sl2 (by simpa using hv) (by simpa using hw) (by rw [List.size_toArray, List.size_toArray]; exact hsz)) ⟨ho, ho2, ?_⟩
    rw [e]
    exact h2 hw

/-! ### t[a:b], not the whole -/
/-- a slice's bound as a place among n (d where it is left out) -/
def sIx (n d : Nat) : Option Int → Nat
  | none => d
  | some v => if v < 0 then (v + (n : Int)).toNat else min v.toNat n
end
end HT

namespace L2
open PySem PySem.Spec PyProof.Rows

/-! ### the parts of a slice -/
abbrev TO := St → Hp → (Option Int → Hp → Prop) → Prop
/-- a slice's part (left out, or an int) -/
def PO (X : Cx) (e : Option Expr) (t : TO) : Prop :=
  ∀ (pins : List (Addr × Obj)) (s : Shared) (σ : St) (H : Hp) (Q : Option Int → Hp → Prop), Inv X pins σ H s → t σ H Q →
    wpAny (model X.prog X.w) X.A (evalPart e X.env) (fun u s' => ∃ o H', Inv X pins σ H' s' ∧ IsPart u o ∧ Q o H') X.xe s
theorem intsAre_of {ns : List Int} : ∀ {us : List Value}, Vals (ns.map V.int) us → IntsAre us ns := by
  induction ns with
  | nil => intro us r; rw [List.map_nil] at r; cases r; exact .nil
  | cons n ns ih =>
    intro us r
    rw [List.map_cons] at r
    cases r with
    | cons r1 r2 =>
      obtain ⟨t, e⟩ := r1
      subst e
      exact .cons n t (ih r2)

section
variable {X : Cx} {e : Expr} {te : TE} {lo hi : Option Expr} {tl th : TO} {pos p2 : Pos}

/-- what a slice of a value is, by values: the slice object stands at sl -/
def SlR (X : Cx) (r : V → Option Int → Option Int → Hp → VK → Prop) : Prop :=
  ∀ (pins : List (Addr × Obj)) (s : Shared) (σ : St) (H : Hp) (x : V) (v vl vu : Value) (lo hi : Option Int) (sl : Addr) (Q : VK), Inv X pins σ H s → RelV x v → s.heap.IsSliceOf sl vl vu .none → IsPart vl lo → IsPart vu hi → r x lo hi H Q →
    ∃ T id, typeLookup (.type T) "__getitem__" = pure (some (.builtin id)) ∧ s.TypeIs v T ∧ wpAny (model X.prog X.w) X.A (getItem v (.ref sl)) (EP X pins σ Q) X.xe s
theorem SlR.or {r r' : V → Option Int → Option Int → Hp → VK → Prop} (h : SlR X r) (h' : SlR X r') : SlR X (fun x lo hi H Q => r x lo hi H Q ∨ r' x lo hi H Q) := by
  intro pins s σ H x v vl vu lo hi sl Q I rx hs pl pu q
  rcases q with q | q
  · exact h pins s σ H x v vl vu lo hi sl Q I rx hs pl pu q
  · exact h' pins s σ H x v vl vu lo hi sl Q I rx hs pl pu q
/-! ### t < u, t + u -/
/-- t + u, t not empty: u empty gives t itself -/
def rCatT (K : PySem.W.Frag) : R2 := fun x y H Q => ∃ a b xs ys, x = .ref a ∧ y = .ref b ∧ SqT K H a xs ∧ SqT K H b ys ∧ xs ≠ [] ∧ xs.length + ys.length ≤ sizeLine ∧
  (ys = [] → Q (.ref a) H) ∧ (ys ≠ [] → ∀ p, H p = none → Q (.ref p) (upd H p (.tup (xs ++ ys))))
theorem Vals.nil_iff {xs : List V} {us : List Value} (r : Vals xs us) : us = [] ↔ xs = [] := by
  cases r with
  | nil => simp
  | cons _ _ => simp
theorem op_catT : OpR X (binaryOp .Add) (rCatT X.K) := by
  intro pins s σ H x y v u Q I rx ry h
  obtain ⟨a, b, xs, ys, rfl, rfl, ha, hb, hx, hz, q1, q2⟩ := h
  cases rx
  cases ry
  obtain ⟨its, r1, p1, _⟩ := I.tuple ha
  obtain ⟨its2, r2, p2, _⟩ := I.tuple hb
  refine HT.cat_tup p1 p2 (fun z => hx (r1.nil_iff.mp z)) (fun z => ⟨.ref a, H, I, rfl, q1 (r2.nil_iff.mp z)⟩) (fun z => ?_) (by rw [← r1.length, ← r2.length]; exact hz)
  refine ⟨.ref s.heap.objs.size, _, I.laid (t' := s.toks) (o := .tup (xs ++ ys)) (fun b ob q => Heap.get?_push_of_some _ q) (Nat.le_refl _) ?_, rfl, q2 (fun w => z (r2.nil_iff.mpr w)) _ (I.hok.fresh (Nat.le_refl _))⟩
  exact ⟨by rw [List.length_append]; exact hz, _, r1.append r2, IsTup.new _ _⟩
end
end L2

namespace L2
open PySem PySem.Spec PyProof.Rows

/-! ### places -/
/-- the place that an index of any sign means -/
def ixN (n : Nat) (i : Int) : Option Nat := if 0 ≤ i then (if i < n then some i.toNat else none) else if -(n : Int) ≤ i then some (i + n).toNat else none
def atI {α : Type} (xs : List α) (i : Int) : Option α := (ixN xs.length i).bind fun j => xs[j]?
/-! ### what may be subscripted -/
/-- a subscript by values -/
def IxR (X : Cx) (r : R2) : Prop :=
  ∀ (value slice : Expr) (pins : List (Addr × Obj)) (s : Shared) (σ : St) (H : Hp) (x y : V) (v u : Value) (Q : VK), Inv X pins σ H s → RelV x v → RelV y u → r x y H Q →
    subscripted slice false v u = operate [v, u] (getItem v u) → wpAny (model X.prog X.w) X.A (subscriptTail value slice v u) (EP X pins σ Q) X.xe s
/-- a call of a builtin's method by values: the receiver, the arguments -/
def MtR (X : Cx) (id : String) (r : V → List V → Hp → VK → Prop) : Prop :=
  ∀ (pins : List (Addr × Obj)) (s : Shared) (σ : St) (H : Hp) (x : V) (xs : List V) (v : Value) (us : List Value) (Q : VK), Inv X pins σ H s → RelV x v → Vals xs us → r x xs H Q →
    wpAny (model X.prog X.w) X.A (call (.builtin id) (v :: us)) (EP X pins σ Q) X.xe s
section
variable {X : Cx} {a b : Expr} {ta tb : TE} {pos : Pos}
theorem IxR.or {r r' : R2} (h : IxR X r) (h' : IxR X r') : IxR X (fun x y H Q => r x y H Q ∨ r' x y H Q) := by
  intro value slice pins s σ H x y v u Q I rx ry q hs
  rcases q with q | q
  · exact h value slice pins s σ H x y v u Q I rx ry q hs
  · exact h' value slice pins s σ H x y v u Q I rx ry q hs
theorem MtR.or {id : String} {r r' : V → List V → Hp → VK → Prop} (h : MtR X id r) (h' : MtR X id r') : MtR X id (fun x xs H Q => r x xs H Q ∨ r' x xs H Q) := by
  intro pins s σ H x xs v us Q I rx rs q
  rcases q with q | q
  · exact h pins s σ H x xs v us Q I rx rs q
  · exact h' pins s σ H x xs v us Q I rx rs q
/-! ### xs[i] = v, any sign -/
theorem Inv.lst {pins : List (Addr × Obj)} {σ : St} {H : Hp} {s : Shared} {p : Addr} {xs : List V} (I : Inv X pins σ H s) (h : H p = some (.lst xs)) :
    ∃ (its : List Value) (n : Nat), Vals xs its ∧ s.heap.get? p = some { cls := .type "list", data := .seq its.toArray n } ∧ xs.length ≤ sizeLine := by
  obtain ⟨z, its, n, r, e⟩ := I.hok p _ h
  exact ⟨its, n, r, e, z⟩
/-! ### slices -/
/-! ### in, not in: flat items -/
/-! ### len, list(x), tuple(x) of any list or tuple that is read -/
theorem call_len_seq : CallR X (.builtin "len") (fun xs H Q => ∃ p ys, xs = [.ref p] ∧ (SqL X.K H p ys ∨ SqT X.K H p ys) ∧ Q (.int ys.length) H) := by
  intro pins s σ H xs us Q I r h
  obtain ⟨p, ys, rfl, hq, q⟩ := h
  obtain ⟨u, rfl, rx⟩ := vals1 r
  cases rx
  have hn := line63
  rcases hq with hq | hq
  · obtain ⟨its, r', pl, hz⟩ := I.list hq
    have hlen := r'.length
    exact Calls.call_len_list pl.isList (by simp only [List.size_toArray] <;> omega) ⟨.int ys.length, H, I.tok _, ⟨s.toks + 1, by rw [List.size_toArray, hlen]⟩, q⟩
  · obtain ⟨its, r', pl, hz⟩ := I.tuple hq
    have hlen := r'.length
    exact len_tuple pl (by simp only [List.size_toArray] <;> omega) ⟨.int ys.length, H, I.tok _, ⟨s.toks + 1, by rw [List.size_toArray, hlen]⟩, q⟩
theorem call_len_str : CallR X (.builtin "len") (fun xs H Q => ∃ z, xs = [.str z] ∧ z.length ≤ sizeLine ∧ Q (.int z.length) H) := by
  intro pins s σ H xs us Q I r h
  obtain ⟨z, rfl, hz, q⟩ := h
  obtain ⟨u, rfl, t, rfl⟩ := vals1 r
  have hn := line63
  exact len_str (by omega) ⟨.int z.length, H, I.tok _, ⟨_, rfl⟩, q⟩
theorem CallR.or {f : Value} {r r' : List V → Hp → VK → Prop} (h : CallR X f r) (h' : CallR X f r') : CallR X f (fun xs H Q => r xs H Q ∨ r' xs H Q) := by
  intro pins s σ H xs us Q I rs q
  rcases q with q | q
  · exact h pins s σ H xs us Q I rs q
  · exact h' pins s σ H xs us Q I rs q
theorem call_list_of : CallR X (.type "list") (fun xs H Q => ∃ p ys, xs = [.ref p] ∧ (SqL X.K H p ys ∨ SqT X.K H p ys) ∧ ∀ l, H l = none → Q (.ref l) (upd H l (.lst ys))) := by
  intro pins s σ H xs us Q I r h
  obtain ⟨p, ys, rfl, hq, q⟩ := h
  obtain ⟨u, rfl, rx⟩ := vals1 r
  cases rx
  have fin : ∀ (its : List Value), Vals ys its → ys.length ≤ sizeLine → ∀ (h' : Heap) (c' : Nat), (∀ b o', s.heap.get? b = some o' → h'.get? b = some o') →
      h'.get? s.heap.objs.size = some { cls := .type "list", dict := none, data := .seq its.toArray c', slots := #[] } → EP X pins σ Q (.ref s.heap.objs.size) { s with heap := h' } := fun its r' hz h' c' kp e =>
    ⟨.ref s.heap.objs.size, _, I.laid (t' := s.toks) kp (Nat.le_refl _) (show ObjOk X.prog X.w _ h' _ (.lst ys) from ⟨hz, its, c', r', e⟩), rfl, q _ (I.hok.fresh (Nat.le_refl _))⟩
  rcases hq with hq | hq
  · obtain ⟨its, r', pl, hz⟩ := I.list hq
    have hlen := r'.length
    obtain ⟨o, ho, hc, n, hd⟩ := pl.isList
    exact call_list_seq p (.inl rfl) ho hc hd (fun h' c' kp e => fin its r' hz h' c' kp e) (by simp only [List.size_toArray] <;> omega)
  · obtain ⟨its, r', pl, hz⟩ := I.tuple hq
    have hlen := r'.length
    obtain ⟨o, ho, hc, n, hd⟩ := pl
    exact call_list_seq p (.inr rfl) ho hc hd (fun h' c' kp e => fin its r' hz h' c' kp e) (by simp only [List.size_toArray] <;> omega)
/-! ### the call of a builtin's method: o.m(..) -/
/-- the value is of that builtin type -/
def tyV (K : PySem.W.Frag) (T : String) (x : V) (H : Hp) : Prop := match x with
  | .str _ => T = "str"
  | .int _ => T = "int"
  | .ref p => (T = "list" ∧ ∃ xs, SqL K H p xs) ∨ (T = "tuple" ∧ ∃ o, K.lookup p = some o ∧ o.cls = .type "tuple" ∧ o.dict = none) ∨
      (T = "dict" ∧ ((∃ kvs, H p = some (.dK kvs)) ∨ ∃ kvs, H p = some (.dT kvs))) ∨ (T = "set" ∧ ∃ S n, H p = some (.set S n))
  | _ => False
theorem tyV_is {pins : List (Addr × Obj)} {σ : St} {H : Hp} {s : Shared} {T : String} {x : V} {v : Value} (I : Inv X pins σ H s) (r : RelV x v) (ty : tyV X.K T x H) :
    s.TypeIs v T ∧ ∀ a, v = .ref a → ∃ ob, s.heap.get? a = some ob ∧ ob.dict = none := by
  cases x with
  | str z =>
    obtain ⟨t, rfl⟩ := r
    cases (show T = "str" from ty)
    exact ⟨typeIs_str s z t, fun _ e => nomatch e⟩
  | int i =>
    obtain ⟨t, rfl⟩ := r
    cases (show T = "int" from ty)
    exact ⟨typeIs_int s i t, fun _ e => nomatch e⟩
  | ref p =>
    cases r
    rcases ty with ⟨rfl, xs, hq⟩ | ⟨rfl, o, hk, hc, hd⟩ | ⟨rfl, hk⟩ | ⟨rfl, S, n, hk⟩
    · obtain ⟨its, _, pl, _⟩ := I.list hq
      refine ⟨pl.isList.typeIs, fun a e => ?_⟩
      cases e
      obtain ⟨o, n, e, c, hd, _⟩ := pl
      exact ⟨o, e, hd⟩
    · refine ⟨⟨o, I.kIn p o hk, hc⟩, fun a e => ?_⟩
      cases e
      exact ⟨o, I.kIn _ o hk, hd⟩
    · have z : ∃ o, s.heap.get? p = some o ∧ o.ExactDict := by
        rcases hk with ⟨kvs, hk⟩ | ⟨kvs, hk⟩
        · obtain ⟨_, _, _, _, o, _, _, e, ex, _⟩ := I.hok p _ hk
          exact ⟨o, e, ex⟩
        · obtain ⟨_, _, _, _, o, _, _, e, ex, _⟩ := I.hok p _ hk
          exact ⟨o, e, ex⟩
      obtain ⟨o, e, ex⟩ := z
      refine ⟨⟨o, e, ex.1⟩, fun a e2 => ?_⟩
      cases e2
      exact ⟨o, e, ex.2.1⟩
    · obtain ⟨o, _, _, _, e, ex, _⟩ := I.hok p _ hk
      refine ⟨⟨o, e, ex.1⟩, fun a e2 => ?_⟩
      cases e2
      exact ⟨o, e, ex.2.1⟩
  | _ => exact False.elim ty
def tBM0 (K : PySem.W.Frag) (T : String) (r : V → List V → Hp → VK → Prop) (to : TE) : TE := fun σ H Q => to σ H fun x H1 => tyV K T x H1 ∧ r x [] H1 Q
def tBM (K : PySem.W.Frag) (T : String) (r : V → List V → Hp → VK → Prop) (to : TE) (t : TA) : TE := fun σ H Q => to σ H fun x H1 => tyV K T x H1 ∧ t σ H1 fun xs H2 => r x xs H2 Q
variable {o e : Expr} {es : List Expr} {to : TE} {t : TA} {name : Str} {apos cpos : Pos} {T id : String} {r : V → List V → Hp → VK → Prop}
theorem pe_bm0 (pa : PlainAttrs T) (slot : Slot T name id) (hty : typeOf (.builtin id) = pure (.type "method_descriptor")) (hm : MtR X id r) (ho : PE X o to)
    (hbase : attributeBase o name X.env (eval o X.env) = eval o X.env := by rfl) (hline : (apos.endLine == cpos.line) = true := by rfl) : PE X (.Call (.Attribute o name apos) [] [] cpos) (tBM0 X.K T r to) := by
  intro pins s σ H Q I h
  refine wpAny_Call_method0_late hbase hline (thn (ho pins s σ H _ I h) fun v s1 ⟨x, H1, I1, r1, ty, q1⟩ => ?_)
  obtain ⟨h1, h2⟩ := tyV_is I1 r1 ty
  exact ⟨T, id, pa, slot, hty, h1, h2, Calls.callWith_builtin rfl (PySem.evalArgs_none (hm pins s1 σ H1 x [] v [] Q I1 r1 .nil q1))⟩
theorem pe_bm (pa : PlainAttrs T) (slot : Slot T name id) (hty : typeOf (.builtin id) = pure (.type "method_descriptor")) (hm : MtR X id r) (ho : PE X o to) (ha : PA X (e :: es) t)
    (hbase : attributeBase o name X.env (eval o X.env) = eval o X.env := by rfl)
    (hfew : ((backTo cpos (starEach (e :: es) X.env)).all (fun x => !x.1) && (backToKw cpos (keywordEach [] X.env)).all (fun x => x.1.isSome)
      && decide ((e :: es).length + ([] : List Keyword).length + (if ([] : List Keyword).isEmpty then 0 else 1) < 30)) = true := by rfl)
    (hline : (apos.endLine == cpos.line) = true := by rfl) (hs : starEach (e :: es) X.env = (false, eval e X.env) :: starEach es X.env := by rfl) (hplain : (backTo cpos (starEach es X.env)).any (·.1) = false := by rfl) :
    PE X (.Call (.Attribute o name apos) (e :: es) [] cpos) (tBM X.K T r to t) := by
  intro pins s σ H Q I h
  refine wpAny_Call_method_late hbase hfew hline rfl (thn (ho pins s σ H _ I h) fun v s1 ⟨x, H1, I1, r1, ty, q1⟩ => ?_)
  obtain ⟨h1, h2⟩ := tyV_is I1 r1 ty
  refine ⟨T, id, pa, slot, hty, h1, h2, ?_⟩
  have hA := ha cpos pins s1 σ H1 _ I1 q1
  rw [hs] at hA ⊢
  refine Calls.callWith_builtin (by show (false || (backTo cpos (starEach es X.env)).any (·.1)) = false; rw [hplain] <;> rfl) (Calls.evalArgs_plain ?_)
  exact thn hA fun us s2 ⟨vs, H2, I2, r2, q2⟩ => hm pins s2 σ H2 x vs v us Q I2 r1 r2 q2
/- xs.append(e), list.index on a module's tuple .. are MtR facts of 06m -/
end
end L2

namespace L2
open PySem PySem.Spec PyProof.Rows

def MtM (X : Cx) (id : String) (r : V → List V → Hp → VK → Prop) : Prop :=
  ∀ (pins : List (Addr × Obj)) (s : Shared) (σ : St) (H : Hp) (x : V) (xs : List V) (v : Value) (us : List Value) (Q : VK), Inv X pins σ H s → RelV x v → Vals xs us → r x xs H Q →
    wpAny (model X.prog X.w) X.A (call (.builtin id) (v :: us)) (EP X pins σ Q) X.xe s

/-! ### lists of values -/
theorem Vals.one : ∀ {x : V} {us : List Value}, Vals [x] us → ∃ u, us = [u] ∧ RelV x u
  | _, _, .cons r .nil => ⟨_, rfl, r⟩
theorem Vals.two : ∀ {x y : V} {us : List Value}, Vals [x, y] us → ∃ u v, us = [u, v] ∧ RelV x u ∧ RelV y v
  | _, _, _, .cons r (.cons q .nil) => ⟨_, _, rfl, r, q⟩
theorem Vals.zero : ∀ {us : List Value}, Vals [] us → us = []
  | _, .nil => rfl
theorem Vals.dropLast {xs : List V} {us : List Value} (h : Vals xs us) : Vals xs.dropLast us.dropLast := by
  induction h with
  | nil => exact .nil
  | cons r t ih =>
    cases t with
    | nil => exact .nil
    | cons q t' => exact .cons r ih
theorem Vals.eraseIdx : ∀ {xs : List V} {us : List Value} (i : Nat), Vals xs us → Vals (xs.eraseIdx i) (us.eraseIdx i)
  | _, _, _, .nil => .nil
  | _, _, 0, .cons _ t => t
  | _, _, i + 1, .cons r t => .cons r (Vals.eraseIdx i t)
theorem Vals.reverse {xs : List V} {us : List Value} (h : Vals xs us) : Vals xs.reverse us.reverse := by
  induction h with
  | nil => exact .nil
  | cons r t ih => rw [List.reverse_cons, List.reverse_cons]; exact Vals.append ih (.cons r .nil)
theorem Vals.rep {xs : List V} {us : List Value} (h : Vals xs us) : ∀ k : Nat, Vals (List.replicate k xs).flatten (List.replicate k us).flatten
  | 0 => .nil
  | k + 1 => by
    rw [List.replicate_succ, List.replicate_succ, List.flatten_cons, List.flatten_cons]
    exact Vals.append h (Vals.rep h k)
theorem foldl_rep (its : List Value) : ∀ (k : Nat) (acc : List Value),
    List.foldl (fun x1 x2 => x1 ++ x2) acc.toArray (List.replicate k its.toArray) = (acc ++ (List.replicate k its).flatten).toArray
  | 0, acc => by simp
  | k + 1, acc => by
    have e : acc.toArray ++ its.toArray = (acc ++ its).toArray := by simp
    have e2 : (acc ++ its) ++ (List.replicate k its).flatten = acc ++ (List.replicate (k + 1) its).flatten := by
      rw [List.replicate_succ, List.flatten_cons, List.append_assoc]
    rw [← e2, ← foldl_rep its k (acc ++ its), ← e, List.replicate_succ, List.foldl_cons]

section
variable {X : Cx} {pins : List (Addr × Obj)} {σ : St} {H : Hp} {s : Shared} {l b : Addr} {xs ys zs : List V}

/-! ### the two steps: a tracked list is rewritten, a new list is laid -/
theorem Inv.lset {its its' : List Value} {n : Nat} {f : Array Value → Array Value} {t' : Nat} (I : Inv X pins σ H s) (hH : H l = some (.lst xs))
    (e : s.heap.get? l = some { cls := .type "list", data := .seq its.toArray n }) (hf : f its.toArray = its'.toArray) (hv : Vals ys its') (hz : ys.length ≤ sizeLine) :
    Inv X pins σ (upd H l (.lst ys)) { s with heap := s.heap.update l (Obj.mapSeq f), toks := t' } := by
  have q := PySem.IsL.update e f
  rw [hf] at q
  refine I.write (x := l) (e := l) (by rw [hH]; exact trivial) (.inl rfl) (fun b' u hb hu => (Heap.get?_update_other s.heap (Obj.mapSeq f) (Ne.symm hb)).trans hu) ⟨_, q⟩ ?_
  exact ⟨hz, its', _, hv, q⟩
theorem Inv.lnew {its : List Value} {t' : Nat} (I : Inv X pins σ H s) (hv : Vals ys its) (hz : ys.length ≤ sizeLine) :
    Inv X pins σ (upd H s.heap.objs.size (.lst ys)) { s with heap := s.heap.push { cls := .type "list", data := .seq its.toArray }, toks := t' } :=
  I.laid (fun _ _ q => Heap.get?_push_of_some _ q) (Nat.le_refl _) ⟨hz, its, 0, hv, Heap.get?_push_size _ rfl⟩
theorem Inv.fresh (I : Inv X pins σ H s) : H s.heap.objs.size = none := I.hok.fresh (Nat.le_refl _)
theorem Inv.lstM (I : Inv X pins σ H s) (hH : H l = some (.lst xs)) : xs.length ≤ sizeLine ∧ ∃ (its : List Value) (n : Nat), Vals xs its ∧ xs.length = its.length ∧ s.heap.get? l = some { cls := .type "list", data := .seq its.toArray n } := by
  obtain ⟨z, its, n, r, e⟩ := I.hok l _ hH
  exact ⟨z, its, n, r, r.length, e⟩

end

section
variable {X : Cx}

/-! ### methods -/
def rAppend : V → List V → Hp → VK → Prop := fun x vs H Q => ∃ l xs y, x = .ref l ∧ vs = [y] ∧ H l = some (.lst xs) ∧ xs.length < sizeLine ∧ Q .non (upd H l (.lst (xs ++ [y])))
theorem mt_append : MtM X "list.append" rAppend := by
  intro pins s σ H x vs v us Q I rx rv h
  obtain ⟨l, xs, y, rfl, rfl, hH, hz, q⟩ := h
  cases rx
  obtain ⟨u, rfl, ru⟩ := rv.one
  obtain ⟨z, its, n, r, hl, e⟩ := I.lstM hH
  refine call_meets F.slot_list_append ⟨_, e, rfl⟩ F.entry_list_append (F.args_list_append_2 _ _) (PySem.list_append l its.toArray n u (by rw [List.size_toArray]; omega)) ⟨e, ?_⟩
  refine ⟨.non, _, I.lset (its' := its ++ [u]) hH e (by simp) (r.append (.cons ru .nil)) ?_, rfl, q⟩
  rw [List.length_append, List.length_singleton]
  omega

def rClear : V → List V → Hp → VK → Prop := fun x vs H Q => ∃ l xs, x = .ref l ∧ vs = [] ∧ H l = some (.lst xs) ∧ Q .non (upd H l (.lst []))
theorem mt_clear : MtM X "list.clear" rClear := by
  intro pins s σ H x vs v us Q I rx rv h
  obtain ⟨l, xs, rfl, rfl, hH, q⟩ := h
  cases rx
  have hus := rv.zero
  subst hus
  obtain ⟨z, its, n, r, hl, e⟩ := I.lstM hH
  refine call_meets F.slot_list_clear ⟨_, e, rfl⟩ F.entry_list_clear (F.args_list_clear_1 _) (AutoSeq1.list_clear_list_0 l its.toArray n (by rw [List.size_toArray]; omega)) ⟨e, ?_⟩
  exact ⟨.non, _, I.lset (its' := []) (ys := []) hH e rfl .nil (Nat.zero_le _), rfl, q⟩

/-! ### list + list, list += list, list * int -/
theorem len_rep {α : Type} (xs : List α) (k : Nat) : (List.replicate k xs).flatten.length = k * xs.length := by
  induction k with
  | zero => simp
  | succ k ih => rw [List.replicate_succ, List.flatten_cons, List.length_append, ih, Nat.succ_mul, Nat.add_comm]
/-! ### del xs[i] -/
end

/-! ### xs[a:b] = ys -/
section
variable {prog : Program} {w : World} {A : Around} {E : Value → Shared → Prop} {s : Shared}
end

section
variable {X : Cx}
end
end L2

namespace Att
open PySem PySem.W PySem.Calls PyProof.Rows

/-! ### the script -/
theorem ints_of_wellAll {P : Params} {h : Heap} : ∀ (ns : List Int) (vs : List Value), WellAll P h vs (ns.map WData.int) → IntsAre vs ns := by
  intro ns
  induction ns with
  | nil =>
    intro vs w
    rw [List.map_nil] at w
    cases w
    exact .nil
  | cons n ns ih =>
    intro vs w
    rw [List.map_cons] at w
    cases w with
    | cons a b =>
      cases a
      exact .cons _ _ (ih _ b)

theorem script_of {l : OpenLaw} {n : Nat} (hn : l.most = some n) {P : Params} {h : Heap} {args : List WData} {vals : List Value}
    (hpre : l.row.toRowW.claim.pre args = true) (hwl : WellAll P h vals args) :
    ∃ a vs ns, vals = [Value.ref a] ∧ args = [WData.list (ns.map WData.int)] ∧ h.get? a = some { cls := .type "list", data := .seq vs.toArray } ∧ IntsAre vs ns ∧ ns.length ≤ n := by
  have hsh : WShape.hasAll [] args [.list .int] = true := (pre_splitW hpre).1
  have hc : l.pre.holds [] { args := args } = true := (pre_splitW hpre).2
  obtain ⟨d, r, rfl, h1, h2⟩ := hasAllW_cons hsh
  obtain rfl := hasAllW_nil h2
  obtain ⟨xs, rfl, h3⟩ := hasW_list h1
  obtain ⟨ns, rfl⟩ := items_int h3
  have hlen : ns.length ≤ n := by
    unfold OpenLaw.pre at hc
    have h4 : (WTm.not (.lt (.lit (.int (n : Int))) (.len (.arg 0)))).holds [] { args := [.list (ns.map .int)] } = true := by
      have h4 := (holds_andW hc).1
      rw [hn] at h4
      exact h4
    have h5 := condW_of h4 (w_not (w_lt w_lit (w_len_list (w_arg rfl))))
    rw [List.length_map] at h5
    refine Nat.le_of_not_lt fun q => ?_
    have q' : (n : Int) < ((ns.length : Nat) : Int) := by omega
    first
      | (rw [decide_eq_true q'] at h5; exact absurd h5 (by decide))
      | (simp at h5; omega)
  cases hwl with
  | cons w1 w2 =>
    cases w2
    cases w1 with
    | list ho hall => exact ⟨_, _, ns, rfl, rfl, ho, ints_of_wellAll ns _ hall, hlen⟩

theorem post_true (l : OpenLaw) (args : List WData) : l.row.toRowW.claim.post args (.bool true) args = true :=
  postW_of (r := l.row.toRowW) (X := (true == true))
    (show WShape.has [] (.bool true) .bool = true by first | rfl | decide | simp [WShape.has, WShape.arms, WShape.armsAll])
    (show (WTm.eq .res (.lit (.bool true))).value [] { args := args, res := some (.bool true), after := args } = some (.bool (true == true)) from w_eq_bool (w_res rfl) w_lit) rfl

/-! ### the attachment: holds_open's last premise (the goal 'hc' behind k_head) from a wpAny of the law's body -/
/-- the same from a codeAny of the CALL (for a layer whose function contracts speak of calls) -/
theorem attach_call {l : OpenLaw} {n : Nat} {q : Program} {loose : List Str} {XP : (Str → Option Value) → Heap → Prop} {YP : World → Heap → Prop} {d : DefRec}
    (hn : l.most = some n) (hdf : d.params.defaults = [])
    (call : ∀ (w : World) (s₀ s₁ : Shared) (mg mb : Str → Option Value) (fa : Addr) (o : Obj) (pm cd doc : Value) (a : Addr) (vs : List Value) (ns : List Int),
      Ground q loose [] XP w s₀ mg mb s₁.heap → YP w s₁.heap →
      s₁.heap.get? fa = some o → o.data = .func (docDef d.name d.params d.body d.scope pm cd doc) → s₁.heap.CodeRec cd d.name → mg d.name = some (.ref fa) →
      s₁.heap.get? a = some { cls := .type "list", data := .seq vs.toArray } → IntsAre vs ns → ns.length ≤ n → s₁.gens = #[] →
      codeAny (model l.prog w) callerA (.call (.ref fa) ⟨[.ref a], []⟩) (fun r s' => r = .ok (.ret (.bool true)) ∧ OldK s₁.heap s'.heap ∧ s'.os = s₁.os ∧ AllBare s'.gens) s₁) :
    WalkO q loose XP YP l.row.toRowW d [] (fun f vs => PySem.call f vs) := by
  intro w s₀ s₁ mg mb G Y fa o pm cd doc dV kV ho hd hcd hD hmg hg args vals as hpre hlay hrd hwl hlo
  obtain rfl : dV = .none := Dflts.none hD hdf
  obtain rfl : kV = .none := Dflts.noKw hD
  obtain ⟨a, vs, ns, rfl, rfl, hobj, hints, hlen⟩ := script_of hn hpre hwl
  refine enter_call (codeAny_mono (call w s₀ s₁ mg mb fa o pm cd doc a vs ns G Y ho (fd_plain hd) hcd hmg hobj hints hlen hg) fun r s' hq => ?_)
  obtain ⟨rfl, h2, h3, h4⟩ := hq
  exact ⟨.inl ⟨.bool true, .bool true, [], rfl, fun _ => rfl, .bool true, post_true l _, fun _ => ⟨List.Pairwise.nil, fun _ hm => (nomatch hm)⟩⟩, h2, h3, h4⟩

/-! ### rules over ANY heap (no ledger) from facts about the written part K: the library's own take a ledger (News) for what they write -/
section
variable {prog : Program} {w : World} {A : Around} {E : Value → Shared → Prop} {s : Shared} {K : Frag}

/-! the whole heap as the ledger: makes every rule that writes through a ledger a rule over any heap -/
end
end Att

namespace L2
open PySem PySem.Spec PyProof.Rows

theorem vals_ints : ∀ {vs : List Value} {ns : List Int}, IntsAre vs ns → Vals (ns.map V.int) vs
  | _, _, .nil => .nil
  | _, _, .cons n t h => .cons ⟨t, rfl⟩ (vals_ints h)

/-- nothing is tracked but the script, known to the object (or it is an object of the module) -/
def Only (H : Hp) : Prop := ∀ b, H b = none ∨ ∃ o xs, H b = some (.frz o (.lst xs))

/-- THE HEAD: the law's promise, at the heap behind the top. F, the promise of the law's def, may use that base is part of the heap (so K.In base, base.Ns mainGlobals mg stand in Mod) -/
theorem law_call {P : Program} {w : World} {K : PySem.W.Frag} {mg mb : Str → Option Value} {CX : CXT} {k : Nat} {fa a : Addr} {fd : FuncData} {x : Str} {sp : Sp} {s₁ : Shared} {vs : List Value} {ns : List Int}
    (KX : K.In s₁.heap) (hns : s₁.heap.Ns mainGlobals mg) (hb : s₁.heap.Ns builtinsNs mb) (hbb : ∀ x : Str, x ≠ "__name__" → mb x = bootBuiltins x) (hlim : s₁.heap.NoLimit) (hg : s₁.gens = #[])
    (ha : s₁.heap.get? a = some { cls := .type "list", data := .seq vs.toArray }) (hi : IntsAre vs ns) (hl : ns.length ≤ sizeLine) (hr : Room k callerA)
    (F : ∀ base : Heap, K.In base → base.Ns mainGlobals mg → FnOk P w K mg base CX k fa fd [x] sp) (hbind : ∀ (s : Shared) (u : Value), BindsTo s fd ⟨[u], []⟩ [(x, u)])
    (hsp : ∀ H : Hp, Only H → SqL K H a (ns.map V.int) → sp [.ref a] H (fun v _ => v = .bl true) fun _ _ _ => False)
    (hCX : ∀ H e s', CX [] H s₁ (fun _ _ _ => False) e s' → False) :
    codeAny (model P w) callerA (.call (.ref fa) ⟨[.ref a], []⟩) (fun r s' => r = .ok (.ret (.bool true)) ∧ OldK s₁.heap s'.heap ∧ s'.os = s₁.os ∧ AllBare s'.gens) s₁ := by
  have rv := vals_ints hi
  have lenV := hi.length
  -- from an abstract heap in which nothing but the script may be tracked
  have core : ∀ H : Hp, Only H → SqL K H a (ns.map V.int) → HOk P w H s₁.heap → (∀ b, H b ≠ none → b = a) → (H a ≠ none → K.lookup a = none) →
      codeAny (model P w) callerA (.call (.ref fa) ⟨[.ref a], []⟩) (fun r s' => r = .ok (.ret (.bool true)) ∧ OldK s₁.heap s'.heap ∧ s'.os = s₁.os ∧ AllBare s'.gens) s₁ := by
    intro H hO hS hok hA hK
    have base_of : ∀ {b : Addr} {o : Obj}, s₁.heap.get? b = some o → H b = none → (hidT s₁.heap H).get? b = some o := fun e n => hidT_get e n
    have noA : ∀ {b : Addr} {o : Obj} {es : Array DictEntry} {ep : Nat}, s₁.heap.get? b = some o → o.data = .dict es ep → H b = none := fun {b o es ep} e d => by
      cases q : H b with
      | none => rfl
      | some u =>
        have e' : b = a := hA b (by rw [q]; simp)
        subst e'
        rw [ha] at e; cases e
        have d' : Data.seq vs.toArray _ = Data.dict es ep := d
        cases d'
    have nsK : ∀ {b : Addr} {m : Str → Option Value}, s₁.heap.Ns b m → (hidT s₁.heap H).Ns b m := fun {b m} ⟨o, es, ep, e, d, r⟩ => ⟨o, es, ep, base_of e (noA e d), d, r⟩
    have hKb : K.In (hidT s₁.heap H) := fun b o e => base_of (KX b o e) (by
      cases q : H b with
      | none => rfl
      | some u =>
        have e' : b = a := hA b (by rw [q]; simp)
        subst e'
        rw [hK (by rw [q]; simp)] at e; cases e)
    have hM : Mod K mg (hidT s₁.heap H) := ⟨hKb, nsK hns, ⟨mb, nsK hb, hbb⟩, let ⟨mc, h1, h2⟩ := hlim; ⟨mc, nsK h1, h2⟩⟩
    have e0 : Env0 P w K mg (hidT s₁.heap H) callerA [] s₁ H := ⟨rfl, hM, fun b o e => of_hidT e, Nat.le_of_eq (hidT_size _ _), trivial, fun b hb => absurd (show b ∈ ([] : List Addr) from hb) (by simp), hok, .of_eq hg⟩
    refine codeAny_mono ((F _ hKb (nsK hns)).run callerA [] s₁ H ⟨[.ref a], []⟩ [.ref a] [.ref a] _ _ hr e0 (hbind s₁ (.ref a)) (.cons rfl .nil) (hsp H hO hS)) fun r s' h => ?_
    cases r with
    | error e => exact (hCX H e s' h).elim
    | ok fl =>
      cases fl with
      | next => exact False.elim h
      | brk => exact False.elim h
      | cont => exact False.elim h
      | ret u =>
        obtain ⟨v, H', os, bare, un, hok', r', q⟩ := h
        have q' : v = .bl true := q
        subst q'
        obtain rfl : u = Value.bool true := r'
        refine ⟨rfl, OldK.of_keep fun b o e => ?_, os, bare⟩
        cases q : H b with
        | none => exact un.keep b o e q (by intro z; exact absurd (show b ∈ ([] : List Addr) from z) (by simp)) (by simp)
        | some u =>
          rcases hO b with z | ⟨ob, xs, z⟩
          · rw [q] at z; cases z
          · have z2 := un.frzs b ob _ z
            obtain ⟨e1, _⟩ := hok b _ z
            obtain ⟨e2, _⟩ := hok' b _ z2
            rw [e] at e1; cases e1
            exact e2
  cases hk : K.lookup a with
  | some o =>
    -- the script is one of the module's own objects
    have e := KX a o hk
    rw [ha] at e
    cases e
    refine core (fun _ => none) (fun _ => .inl rfl) (.inr ⟨_, vs.toArray, _, hk, rfl, rfl, rfl, by rw [List.size_toArray, lenV]; exact hl, by simpa using rv⟩) (fun b u z => by have z' : (none : Option HO) = some u := z; cases z') (fun b z => absurd rfl z) fun z => absurd rfl z
  | none =>
    refine core (fun b => if b = a then some (.frz { cls := .type "list", data := .seq vs.toArray } (.lst (ns.map V.int))) else none) (fun b => ?_) (.inl (.inr ⟨{ cls := .type "list", data := .seq vs.toArray }, if_pos rfl⟩)) (fun b u z => ?_) (fun b z => ?_) fun _ => hk
    · by_cases hb : b = a
      · exact .inr ⟨_, _, if_pos hb⟩
      · exact .inl (if_neg hb)
    · by_cases hb : b = a
      · have z' := (if_pos hb).symm.trans z
        cases z'
        subst hb
        exact ⟨ha, by rw [List.length_map]; exact hl, vs, _, rv, ha⟩
      · have z' := (if_neg hb).symm.trans z
        cases z'
    · by_cases hb : b = a
      · exact hb
      · exact absurd (if_neg hb) z
end L2

namespace L2
open PySem PySem.Spec PyProof.Rows

/-- the goal that k_head leaves (case hc), from the law's promise. F gives the function object fd (K's own) once, then the promise over every base -/
theorem walk_of {l : PySem.W.OpenLaw} {n k : Nat} {q : Program} {loose : List Str} {XP : (Str → Option Value) → Heap → Prop} {YP : World → Heap → Prop} {d : DefRec} {K : Params → PySem.W.Frag} {CX : World → CXT} {sp : World → Sp} {x : Str}
    (hn : l.most = some n) (hn2 : n ≤ sizeLine) (hdf : d.params.defaults = []) (hr : Room k callerA)
    (hY : ∀ (w : World) (h : Heap), YP w h → (K w.params).In h)
    (F : ∀ (w : World) (mg : Str → Option Value) (fa : Addr) (h : Heap), (K w.params).In h → h.Ns mainGlobals mg → mg d.name = some (.ref fa) →
      ∃ fd : FuncData, (∀ (s : Shared) (u : Value), BindsTo s fd ⟨[u], []⟩ [(x, u)]) ∧
        ∀ base : Heap, (K w.params).In base → base.Ns mainGlobals mg → FnOk l.prog w (K w.params) mg base (CX w) k fa fd [x] (sp w))
    (hsp : ∀ (w : World) (H : Hp) (a : Addr) (ns : List Int), ns.length ≤ n → Only H → SqL (K w.params) H a (ns.map V.int) → sp w [.ref a] H (fun v _ => v = .bl true) fun _ _ _ => False)
    (hCX : ∀ (w : World) (H : Hp) (s : Shared) (e : Value) (s' : Shared), CX w [] H s (fun _ _ _ => False) e s' → False) :
    PySem.W.WalkO q loose XP YP l.row.toRowW d [] (fun f vs => PySem.call f vs) := by
  refine Att.attach_call hn hdf fun w s₀ s₁ mg mb fa o pm cd doc a vs ns G Y ho hd hcd hmg hobj hints hlen hg => ?_
  have KX := hY w _ Y
  obtain ⟨fd, hb, hF⟩ := F w mg fa _ KX G.T.g hmg
  exact law_call KX G.T.g G.T.b G.T.builtins G.T.nolimit hg hobj hints (Nat.le_trans hlen hn2) hr hF hb (fun H hO hS => hsp w H a ns hlen hO hS) fun H e s' => hCX w H s₁ e s'
/-- the same where the promise hangs on the written part alone: (sp := My.sp_law), no hole under a binder -/
theorem walk_ofK {l : PySem.W.OpenLaw} {n k : Nat} {q : Program} {loose : List Str} {XP : (Str → Option Value) → Heap → Prop} {YP : World → Heap → Prop} {d : DefRec} {K : Params → PySem.W.Frag} {CX : CXT} {sp : PySem.W.Frag → Sp} {x : Str}
    (hn : l.most = some n) (hn2 : n ≤ sizeLine) (hdf : d.params.defaults = []) (hr : Room k callerA)
    (hY : ∀ (w : World) (h : Heap), YP w h → (K w.params).In h)
    (F : ∀ (w : World) (mg : Str → Option Value) (fa : Addr) (h : Heap), (K w.params).In h → h.Ns mainGlobals mg → mg d.name = some (.ref fa) →
      ∃ fd : FuncData, (∀ (s : Shared) (u : Value), BindsTo s fd ⟨[u], []⟩ [(x, u)]) ∧
        ∀ base : Heap, (K w.params).In base → base.Ns mainGlobals mg → FnOk l.prog w (K w.params) mg base CX k fa fd [x] (sp (K w.params)))
    (hsp : ∀ (K : PySem.W.Frag) (H : Hp) (a : Addr) (ns : List Int), ns.length ≤ n → Only H → SqL K H a (ns.map V.int) → sp K [.ref a] H (fun v _ => v = .bl true) fun _ _ _ => False)
    (hCX : ∀ (H : Hp) (s : Shared) (e : Value) (s' : Shared), CX [] H s (fun _ _ _ => False) e s' → False) :
    PySem.W.WalkO q loose XP YP l.row.toRowW d [] (fun f vs => PySem.call f vs) :=
  walk_of (K := K) (CX := fun _ => CX) (sp := fun w => sp (K w.params)) hn hn2 hdf hr hY F (fun w H a ns h1 h2 h3 => hsp (K w.params) H a ns h1 h2 h3) fun _ H s e s' => hCX H s e s'
end L2

/- THE LAST THEOREM (shape; LID, My.* are yours):
   My.Adr: a structure of the addresses that your layer names (classes, functions); My.Txt K t: a structure (Prop) of the equations over K;
   My.txt_mk : {K} {implicit addresses ..} (e1 : nsIn K mainGlobals "law" = some (some (.ref f))) (e2 : K.lookup f = some ⟨oc, od, .func (fnOf "law" "law" params body scope dV kV doc pm an cdv ct), sl⟩) (e3 : codeIn K cdv "law" = true) .. : ∃ t, My.Txt K t

set_option maxRecDepth 100000 in
set_option maxHeartbeats 0 in
theorem PySem.Challenge.cw_LID_holds : PySem.Challenge.rw_LID.Holds := by
  w_on; o_law; k_head; (case hw => w_witness2)
  k_fill
  refine L2.walk_of (l := PySem.Challenge.rw_LID) (n := 63) (k := 40) (x := "script") (CX := fun w => ..) (sp := fun _ => My.sp_law) rfl (by decide) rfl ⟨rfl, by decide, by decide⟩ (fun w h Y => PySem.W.kIn_of Y) ?F ?S ?C
  case F =>
    intro w mg fa h KX G hmg
    have T : ∃ t, My.Txt (L2.KOf KX) t := by
      dsimp only [L2.KOf]                          -- K must stand as «<heap const> w.params» for k_is
      refine' My.txt_mk ?e1 ?e2 ?e3 ..
      (case e1 => PySem.W.k_is)                    -- in the order: a name -> its address -> its object -> its parts
      (case e2 => PySem.W.k_is)
      ..
    obtain ⟨t, T⟩ := T
    have e0 := hmg.symm.trans (PySem.W.mg_of KX G T.law)
    cases e0                                       -- fa is the law's own address
    exact ⟨_, fun s u => .of_eq rfl, fun base kb nb => My.law_fn T kb nb⟩     -- if «.of_eq rfl» comes too early: refine' ⟨_, ?b, fun base kb nb => My.law_fn T kb nb⟩; exact fun s u => .of_eq rfl
  case S => exact fun w H a ns hl hO hS => ..
  case C => exact ..
(the tactic k_is has no namespace: write k_is) -/

/-! SHORT WORDS over the layer: a def of the text, its body, what a loop and a test want. -/
namespace L2
open PySem PySem.Spec PyProof.Rows

/-! ### the text by places -/
def defArgs (s : Stmt) : Arguments := match s with
  | .FunctionDef _ a _ _ _ _ _ _ _ _ => a
  | _ => { posonlyargs := [], args := [], vararg := none, kwonlyargs := [], kw_defaults := [], kwarg := none, defaults := [] }
def defBody (s : Stmt) : List Stmt := match s with
  | .FunctionDef _ _ b _ _ _ _ _ _ _ => b
  | _ => []
def defScope (s : Stmt) : Scope := match s with
  | .FunctionDef _ _ _ _ _ _ sc _ _ _ => sc
  | _ => { kind := .function, names := [], isGenerator := false, isCoroutine := false }

/-! ### no exception leaves a def -/
abbrev CX0 : CXT := fun _ _ _ _ _ _ => False
abbrev E0 : XK := fun _ _ _ => False
theorem pass0 {X : Cx} : Passes CX0 X E0 := fun _ _ _ _ _ _ _ h => h.elim

/-! ### a def (or method) of the text as it stands behind the top -/
structure Fun (K : PySem.W.Frag) (x qual : Str) (st : Stmt) (f : Addr) (fd : FuncData) : Prop where
  ex : ∃ (oc : Value) (od : Option Addr) (kV doc pm : Value) (an : Option Addr) (cdv ct : Value) (osl : Array (Option Value)),
    fd = PySem.W.fnOf x qual (defArgs st) (defBody st) (defScope st) .none kV doc pm an cdv ct ∧ K.lookup f = some ⟨oc, od, .func fd, osl⟩ ∧ PySem.W.codeIn K cdv qual = true
  kp : PySem.W.keepIn K (.ref f) = true
section
variable {P : Program} {w : World} {K : PySem.W.Frag} {mg : Str → Option Value} {base : Heap}
/-- THE RULE for a def: its body as a term of rules, and the reading of that term -/
theorem Fun.ok {x qual : Str} {st : Stmt} {f : Addr} {fd : FuncData} {N ps : List Str} {k : Nat} {sp : Sp} (F : Fun K x qual st f fd) (S : FnScope N ps (defScope st)) (len : ∀ vs H Q E, sp vs H Q E → vs.length = ps.length)
    (hbody : ∀ (cdv : Value) (A : Around) (outer : List Env) (s : Shared) (H : Hp) (vs : List V) (Q : VK) (E : XK), Room k (A.deeper (envOfC qual (defScope st) s.heap.objs.size f cdv)) → sp vs H Q E →
      ∃ t, PSs (cxOf CX0 P w K mg base N qual (defScope st) f cdv A outer s H E).nox (defBody st) t ∧ t { nx := fun _ H' => Q .non H', rt := Q } (start N vs) H) : FnOk P w K mg base CX0 (k + 1) f fd ps sp := by
  obtain ⟨oc, od, kV, doc, pm, an, cdv, ct, osl, rfl, lk, hcd⟩ := F.ex
  refine fn_of lk hcd S len fun A outer s H vs Q E hr hsp => ?_
  obtain ⟨t, h, q⟩ := hbody cdv A outer s H vs Q E hr hsp
  exact ⟨t, h.nox, q⟩
/-- how its arguments bind (no defaults): h is «fun _ _ _ _ _ _ us hl => match us, hl with | [_, _], _ => rfl», one _ a parameter -/
theorem Fun.binds {x qual : Str} {st : Stmt} {f : Addr} {fd : FuncData} {ps : List Str} (F : Fun K x qual st f fd)
    (h : ∀ (kV doc pm : Value) (an : Option Addr) (cdv ct : Value) (us : List Value), us.length = ps.length → bindArgs (PySem.W.fnOf x qual (defArgs st) (defBody st) (defScope st) .none kV doc pm an cdv ct) ⟨us, []⟩ = pure (ps.zip us)) : Binds K fd ps [] := by
  obtain ⟨oc, od, kV, doc, pm, an, cdv, ct, osl, rfl, lk, hcd⟩ := F.ex
  exact .all (h kV doc pm an cdv ct)
theorem fun_mk {x qual : Str} {st : Stmt} {f : Addr} {oc : Value} {od an : Option Addr} {osl : Array (Option Value)} {kV doc pm cdv ct : Value} (l : K.lookup f = some ⟨oc, od, .func (PySem.W.fnOf x qual (defArgs st) (defBody st) (defScope st) .none kV doc pm an cdv ct), osl⟩)
    (c : PySem.W.codeIn K cdv qual = true) (k : PySem.W.keepIn K (.ref f) = true) : Fun K x qual st f (PySem.W.fnOf x qual (defArgs st) (defBody st) (defScope st) .none kV doc pm an cdv ct) := ⟨⟨oc, od, kV, doc, pm, an, cdv, ct, osl, rfl, l, c⟩, k⟩
end
/-! ### expressions in short: the name that stands in the i-th slot -/
section
variable {X : Cx}
end

/-! ### tests -/
/-! ### heaps -/
/-- all that was tracked is as it was -/
def Same (H H' : Hp) : Prop := ∀ b o, H b = some o → H' b = some o
theorem Same.refl (H : Hp) : Same H H := fun _ _ h => h
theorem Same.trans {H H1 H2 : Hp} (a : Same H H1) (b : Same H1 H2) : Same H H2 := fun c o h => b c o (a c o h)
theorem Same.free {H H' : Hp} (e : Same H H') {l : Addr} (h : H' l = Option.none) : H l = Option.none := by
  cases q : H l with
  | none => rfl
  | some o =>
    rw [e l o q] at h
    cases h
theorem Same.seq {K : PySem.W.Frag} {H H' : Hp} {a : Addr} {xs : List V} (e : Same H H') (h : SqL K H a xs) : SqL K H' a xs := by
  rcases h with (h | ⟨o, h⟩) | h
  · exact .inl (.inl (e _ _ h))
  · exact .inl (.inr ⟨o, e _ _ h⟩)
  · exact .inr h

end L2
set_option maxHeartbeats 0
namespace L2
open PySem PySem.Spec PyProof.Rows

/-! ### lists of pairs as tables -/
section
variable {κ : Type} [DecidableEq κ]
def valV (kvs : List (κ × V)) (k : κ) : Option V := (kvs.find? fun kv => decide (kv.1 = k)).map (·.2)
/-- in its place, or at the end -/
def putK (kvs : List (κ × V)) (k : κ) (v : V) : List (κ × V) :=
  if (kvs.any fun kv => decide (kv.1 = k)) = true then kvs.map (fun kv => if kv.1 = k then (kv.1, v) else kv) else kvs ++ [(k, v)]
def dropK (kvs : List (κ × V)) (k : κ) : List (κ × V) := kvs.filter fun kv => decide (kv.1 ≠ k)

theorem valV_pos {p : κ × V} {r : List (κ × V)} {k : κ} (e : p.1 = k) : valV (p :: r) k = some p.2 := by simp [valV, List.find?_cons, e]
theorem valV_neg {p : κ × V} {r : List (κ × V)} {k : κ} (e : ¬ p.1 = k) : valV (p :: r) k = valV r k := by simp [valV, List.find?_cons, e]
theorem RelO.getD {o : Option V} {u : Option Value} {d : V} {d' : Value} (r : RelO o u) (rd : RelV d d') : RelV (o.getD d) (u.getD d') := by
  cases o with
  | none => cases u with
    | none => exact rd
    | some _ => exact (show False from r).elim
  | some _ => cases u with
    | none => exact (show False from r).elim
    | some _ => exact r

/-- raw tables of the same keys -/
theorem KV.val {kvs : List (κ × V)} {vs : List (κ × Value)} (r : KV kvs vs) (k : κ) : RelO (valV kvs k) (valueAt vs k) := by
  unfold KV at r
  induction r with
  | nil => exact True.intro
  | @cons p q ps qs h t ih =>
    obtain ⟨h1, h2⟩ := h
    by_cases e : p.1 = k
    · have e' : q.1 = k := h1.symm.trans e
      have b : valueAt (q :: qs) k = some q.2 := by simp [valueAt, List.find?_cons, e']
      rw [valV_pos e, b]; exact h2
    · have e' : ¬ q.1 = k := fun z => e (h1.trans z)
      have b : valueAt (q :: qs) k = valueAt qs k := by simp [valueAt, List.find?_cons, e']
      rw [valV_neg e, b]; exact ih
theorem KV.any {kvs : List (κ × V)} {vs : List (κ × Value)} (r : KV kvs vs) (k : κ) : (kvs.any fun kv => decide (kv.1 = k)) = vs.any fun kv => decide (kv.1 = k) := by
  unfold KV at r
  induction r with
  | nil => rfl
  | cons h t ih => rw [List.any_cons, List.any_cons, ih, h.1]
theorem KV.drop {kvs : List (κ × V)} {vs : List (κ × Value)} (r : KV kvs vs) (k : κ) : KV (dropK kvs k) (without vs k) := by
  unfold KV at r ⊢
  unfold dropK without
  induction r with
  | nil => exact .nil
  | @cons p q ps qs h t ih =>
    obtain ⟨h1, h2⟩ := h
    rw [List.filter_cons, List.filter_cons]
    by_cases e : p.1 = k
    · have a : ¬ decide (p.1 ≠ k) = true := by simp [e]
      have b : ¬ decide (q.1 ≠ k) = true := by simp [h1.symm.trans e]
      rw [if_neg a, if_neg b]; exact ih
    · have e' : ¬ q.1 = k := fun z => e (h1.trans z)
      have a : decide (p.1 ≠ k) = true := by simp [e]
      have b : decide (q.1 ≠ k) = true := by simp [e']
      rw [if_pos a, if_pos b]; exact .cons ⟨h1, h2⟩ ih
theorem KV.length {kvs : List (κ × V)} {vs : List (κ × Value)} (r : KV kvs vs) : kvs.length = vs.length := Paired.length r
end


/-! ### a tracked dict, its keys ints and texts or tuples of these -/
/-- raw entries of a dict with tuple keys -/
abbrev KT (H : Hp) : List (List Key × V) → List (List Key × Addr × Value) → Prop := Paired fun p q => p.1 = q.1 ∧ H q.2.1 = some (.tup (p.1.map kV)) ∧ RelV p.2 q.2.2
theorem KT.val {H : Hp} {kvs : List (List Key × V)} {xs : List (List Key × Addr × Value)} (r : KT H kvs xs) (k : List Key) : RelO (valV kvs k) ((atKey xs k).map (·.2)) := by
  induction r with
  | nil => exact True.intro
  | @cons p q ps qs h t ih =>
    obtain ⟨h1, _, h2⟩ := h
    by_cases e : p.1 = k
    · have e' : q.1 = k := h1.symm.trans e
      have b : atKey (q :: qs) k = some q.2 := by simp [atKey, List.find?_cons, e']
      rw [valV_pos e, b]; exact h2
    · have e' : ¬ q.1 = k := fun z => e (h1.trans z)
      have b : atKey (q :: qs) k = atKey qs k := by simp [atKey, List.find?_cons, e']
      rw [valV_neg e, b]; exact ih
theorem KT.keeps {H H' : Hp} {kvs : List (List Key × V)} {xs : List (List Key × Addr × Value)} (r : KT H kvs xs) (ht : ∀ b ys, H b = some (.tup ys) → H' b = some (.tup ys)) : KT H' kvs xs :=
  Paired.mapP r fun _ _ z => ⟨z.1, ht _ _ z.2.1, z.2.2⟩

section
variable {P : Program} {w : World} {H : Hp} {h : Heap} {a : Addr}
end

/-- what the dict at a holds at the key y -/
def DGet (H : Hp) (a : Addr) (y : V) (r : Option V) : Prop :=
  (∃ kvs k, Rd H a (.dK kvs) ∧ y = kV k ∧ r = valV kvs k) ∨ ∃ kvs k b, Rd H a (.dT kvs) ∧ y = .ref b ∧ H b = some (.tup (k.map kV)) ∧ r = valV kvs k
/-- the heap behind a[y] = v -/
def DPut (H : Hp) (a : Addr) (y v : V) (H' : Hp) : Prop :=
  (∃ kvs k, H a = some (.dK kvs) ∧ y = kV k ∧ kvs.length < sizeLine ∧ H' = upd H a (.dK (putK kvs k v))) ∨
  ∃ kvs k b, H a = some (.dT kvs) ∧ y = .ref b ∧ H b = some (.tup (k.map kV)) ∧ kvs.length < sizeLine ∧ H' = upd H a (.dT (putK kvs k v))
theorem DGet.k {H : Hp} {a : Addr} {kvs : List (Key × V)} {k : Key} (e : H a = some (.dK kvs)) : DGet H a (kV k) (valV kvs k) := .inl ⟨kvs, k, .inl e, rfl, rfl⟩
theorem DGet.t {H : Hp} {a b : Addr} {kvs : List (List Key × V)} {k : List Key} (e : H a = some (.dT kvs)) (eb : H b = some (.tup (k.map kV))) : DGet H a (.ref b) (valV kvs k) := .inr ⟨kvs, k, b, .inl e, rfl, eb, rfl⟩
theorem DPut.k {H : Hp} {a : Addr} {kvs : List (Key × V)} {k : Key} {v : V} (e : H a = some (.dK kvs)) (hl : kvs.length < sizeLine) : DPut H a (kV k) v (upd H a (.dK (putK kvs k v))) := .inl ⟨kvs, k, e, rfl, hl, rfl⟩
theorem DPut.t {H : Hp} {a b : Addr} {kvs : List (List Key × V)} {k : List Key} {v : V} (e : H a = some (.dT kvs)) (eb : H b = some (.tup (k.map kV))) (hl : kvs.length < sizeLine) :
    DPut H a (.ref b) v (upd H a (.dT (putK kvs k v))) := .inr ⟨kvs, k, b, e, rfl, eb, hl, rfl⟩


section
variable {X : Cx} {pins : List (Addr × Obj)} {σ : St} {H : Hp} {s : Shared} {a : Addr} {y v : V} {u r : Value} {o : Option V} {A : Around} {E : Value → Shared → Prop}

end

section
variable {X : Cx} {pins : List (Addr × Obj)} {σ : St} {H : Hp} {s : Shared} {a : Addr} {kvs : List (Key × V)} {k : Key} {u : Value} {A : Around} {E : Value → Shared → Prop}
end


/-! ### readings and rules -/
section
variable {X : Cx} {o i e value : Expr} {pos pos' tpos : Pos} {td ty tv : TE}
end


/-! ### displays -/
section
variable {X : Cx} {pos : Pos}
end

/-! ### methods -/
/-- a method call o.m(e) of a built-in, with one argument: what must be seen of the text -/
structure M1 (X : Cx) (o : Expr) (m : Str) (apos : Pos) (e : Expr) (cpos : Pos) : Prop where
  base : attributeBase o m X.env (eval o X.env) = eval o X.env
  few : ((backTo cpos (starEach [e] X.env)).all (fun x => !x.1) && (backToKw cpos (keywordEach [] X.env)).all (fun x => x.1.isSome)
    && decide (([e] : List Expr).length + ([] : List Keyword).length + (if ([] : List Keyword).isEmpty then 0 else 1) < 30)) = true
  line : (apos.endLine == cpos.line) = true
  trees : backTo cpos (starEach [e] X.env) = [(false, eval e X.env)]
structure M2 (X : Cx) (o : Expr) (m : Str) (apos : Pos) (e f : Expr) (cpos : Pos) : Prop where
  base : attributeBase o m X.env (eval o X.env) = eval o X.env
  few : ((backTo cpos (starEach [e, f] X.env)).all (fun x => !x.1) && (backToKw cpos (keywordEach [] X.env)).all (fun x => x.1.isSome)
    && decide (([e, f] : List Expr).length + ([] : List Keyword).length + (if ([] : List Keyword).isEmpty then 0 else 1) < 30)) = true
  line : (apos.endLine == cpos.line) = true
  trees : backTo cpos (starEach [e, f] X.env) = [(false, eval e X.env), (false, eval f X.env)]

section
variable {X : Cx} {pins : List (Addr × Obj)} {σ : St} {H : Hp} {s : Shared} {a : Addr} {y d : V} {u r : Value} {o : Option V} {A : Around} {E : Value → Shared → Prop}
end

section
variable {X : Cx} {o e f : Expr} {apos cpos : Pos} {td ty tx : TE}
end

/-! ### dict(d): a copy -/
section
variable {X : Cx} {pins : List (Addr × Obj)} {σ : St} {H : Hp} {s : Shared} {a : Addr} {kvs : List (Key × V)} {A : Around} {E : Value → Shared → Prop}
end


section
variable {X : Cx} {pins : List (Addr × Obj)} {σ : St} {H : Hp} {s : Shared} {a : Addr} {y : V} {u : Value} {A : Around} {E : Value → Shared → Prop}
end
end L2
/-! More rules over the hand layer: walks over a text, comprehensions, all, join, slices of a text, isinstance. -/
namespace L2
open PySem PySem.Spec PyProof.Rows

/-! ### the signs of a text, walked -/
/-! ### comprehensions -/
/-- N' is n names of the comprehension's own (its targets), then captured ones, those of the body's places caps -/
structure CompOk (sc scope : Scope) (N N' : List Str) (n : Nat) (caps : List Nat) : Prop where
  kind : scope.kind = .function
  nocell : ∀ y ∈ scope.names, y.2 ≠ .cell
  loc : ∀ y ∈ scope.names, y.2 = .local → scope.names.lookup y.1 = some .local
  free : ∀ y ∈ scope.names, y.2 = .free → sc.names.lookup y.1 = some .cell ∨ sc.names.lookup y.1 = some .free
  nd : N'.Nodup
  len : N'.length = n + caps.length
  cap : ∀ k ∈ List.range caps.length, N'[n + k]? = (caps[k]?).bind (N[·]?) ∧ (N'[n + k]?).all (fun y => scope.names.lookup y == some .free) = true
end L2
namespace L2
open PySem PySem.Spec PyProof.Rows

section
variable {prog : Program} {w : World} {A : Around} {R : Result → Shared → Prop} {s : Shared}
end

/-- the tests of a clause -/
def PF (X : Cx) (ifs : List Expr) (t : TT) : Prop :=
  ∀ (pins : List (Addr × Obj)) (s : Shared) (σ : St) (H : Hp) (Q : Bool → Hp → Prop), Inv X pins σ H s → t σ H Q →
    wpAny (model X.prog X.w) X.A (forIn ifs true fun c r => if r = true then do let ok ← isTrue c X.env (eval c X.env); pure (ForInStep.yield ok) else pure (ForInStep.yield r)) (TP X pins σ Q) X.xe s
/-- what a comprehension is worth: D the list that grows, W the invariant (turn, measure, the list so far, heap) -/
def Wk (σ σ' : St) : Prop := σ'.length = σ.length ∧ ∀ (j : Nat) (v : V), σ[j]? = some (some v) → σ'[j]? = some (some v)
section
variable {X : Cx} {sc : Scope} {elt iter tg : Expr} {ifs : List Expr} {scope : Scope} {pos : Pos} {N' : List Str} {n : Nat} {caps : List Nat} {wi : TI} {g : TG} {tt : TT} {te : TE}

end
end L2
/-! Data, and what a pure piece of the text is worth as a function over data. -/
namespace DL
open PySem PySem.Spec PyProof.Rows

inductive D where
  | non | bl (b : Bool) | int (i : Int) | str (x : Str) | tup (ds : List D) | lst (ds : List D) | dct (ks : Sum (List (Sum Int Str)) (List (List (Sum Int Str)))) (ds : List D)
  deriving Inhabited
/-- a name of a body: unknown, a value, a list or dict of its own -/
inductive Sl where
  | un | sh (d : D) | ow (d : D)
  /-- an exception: its class's name, its at -/
  | ex (c : Str) (n : Option Int)
abbrev Ds := List Sl
inductive Res where
  | nx (δ : Ds) | rt (d : D) | bk (δ : Ds) | ct (δ : Ds) | rf (d : D)
abbrev GE := Ds → Option D
abbrev GB := Ds → Option Bool
abbrev GA := Ds → Option (List D)
abbrev GS := Ds → Option Res
@[simp] def asB : D → Option Bool
  | .bl b => some b
  | _ => none
@[simp] def asI : D → Option Int
  | .int i => some i
  | _ => none
@[simp] def gv (i : Nat) : GE := fun δ => match δ[i]? with
  | some (.sh d) => some d
  | _ => none
@[simp] def gc (d : D) : GE := fun _ => some d
@[simp] def o2 (ga gb : GE) (f : D → D → Option D) : GE := fun δ => (ga δ).bind fun x => (gb δ).bind fun y => f x y
@[simp] def ob (g : GE) : GB := fun δ => (g δ).bind asB
@[simp] def tNotG (g : GB) : GB := fun δ => (g δ).map (!·)
@[simp] def tAndG (gt gu : GB) : GB := fun δ => (gt δ).bind fun t => if t = true then gu δ else some false
@[simp] def tOrG (gt gu : GB) : GB := fun δ => (gt δ).bind fun t => if t = true then some true else gu δ
@[simp] def andG (ga gb : GE) : GE := fun δ => (ob ga δ).bind fun t => if t = true then gb δ else some (.bl false)
@[simp] def orG (ga gb : GE) : GE := fun δ => (ob ga δ).bind fun t => if t = true then some (.bl true) else gb δ
@[simp] def notG (ga : GE) : GE := fun δ => (ob ga δ).map fun t => .bl (!t)
@[simp] def ifG (gt : GB) (ga gb : GE) : GE := fun δ => (gt δ).bind fun t => if t = true then ga δ else gb δ
@[simp] def nilA : GA := fun _ => some []
@[simp] def consA (g : GE) (gA : GA) : GA := fun δ => (g δ).bind fun d => (gA δ).map fun ds => d :: ds
@[simp] def tupG (gA : GA) : GE := fun δ => (gA δ).bind fun ds => if ds.length ≤ sizeLine then some (.tup ds) else none
@[simp] def lstG (gA : GA) : GE := fun δ => (gA δ).bind fun ds => if ds.length ≤ sizeLine then some (.lst ds) else none
@[simp] def oA (gA : GA) (f : List D → Option D) : GE := fun δ => (gA δ).bind f
@[simp] def isiG (f : D → Bool) (g : GE) : GE := fun δ => (g δ).map fun d => .bl (f d)
@[simp] def negD (d : D) : Option D := match d with
  | .int i => some (.int (-i))
  | _ => none
@[simp] def unG (f : D → Option D) (g : GE) : GE := fun δ => (g δ).bind f
/-! statements -/
@[simp] def seqD (G1 G2 : GS) : GS := fun δ => match G1 δ with
  | some (.nx δ') => G2 δ'
  | r => r
@[simp] def nilD : GS := fun δ => some (.nx δ)
@[simp] def retD (g : GE) : GS := fun δ => (g δ).map .rt
@[simp] def gN (i : Nat) : D → Ds → Option Ds := fun d δ => some (δ.set i (.sh d))
@[simp] def setD (f : D → Ds → Option Ds) (g : GE) : GS := fun δ => (g δ).bind fun d => (f d δ).map .nx
@[simp] def ifD (gt : GB) (Ga Gb : GS) : GS := fun δ => (gt δ).bind fun t => if t = true then Ga δ else Gb δ
@[simp] def dropD (g : GE) : GS := fun δ => (g δ).map fun _ => .nx δ
def forD (f : D → Ds → Option Ds) (G : GS) : List D → Ds → Option Res
  | [], δ => some (.nx δ)
  | d :: ds, δ => match (f d δ).bind G with
    | some (.nx δ') => forD f G ds δ'
    | some (.ct δ') => forD f G ds δ'
    | some (.bk δ') => some (.nx δ')
    | r => r
@[simp] def forG (gi : GA) (f : D → Ds → Option Ds) (G : GS) : GS := fun δ => (gi δ).bind fun items => forD f G items δ
/-! walks -/
@[simp] def asLst : D → Option (List D)
  | .lst ds => some ds
  | _ => none
@[simp] def asTup : D → Option (List D)
  | .tup ds => some ds
  | _ => none
def signs (x : Str) : List D := x.cps.toList.map fun c => .str ⟨#[c]⟩
@[simp] def asSigns : D → Option (List D)
  | .str x => some (signs x)
  | _ => none
@[simp] def lstI (g : GE) : GA := fun δ => (g δ).bind asLst
@[simp] def tupI (g : GE) : GA := fun δ => (g δ).bind asTup
@[simp] def strI (g : GE) : GA := fun δ => (g δ).bind asSigns
def rngD (lo hi : Int) : List D := (List.range (hi - lo).toNat).map fun k => .int (lo + (k : Nat))
@[simp] def rng1D (ds : List D) : Option (List D) := match ds with
  | [.int j] => if -(2 ^ 62) ≤ j ∧ j < 2 ^ 62 then some (rngD 0 j) else none
  | _ => none
@[simp] def rng2D (ds : List D) : Option (List D) := match ds with
  | [.int i, .int j] => if (-(2 ^ 62) ≤ i ∧ i < 2 ^ 62) ∧ -(2 ^ 62) ≤ j ∧ j < 2 ^ 62 then some (rngD i j) else none
  | _ => none
@[simp] def rng1I (gA : GA) : GA := fun δ => (gA δ).bind rng1D
@[simp] def rng2I (gA : GA) : GA := fun δ => (gA δ).bind rng2D
/-! comprehensions -/
@[simp] def noT : GB := fun _ => some true
@[simp] def capSl : Option Sl → Sl
  | some (.sh d) => .sh d
  | _ => .un
@[simp] def dComp (n : Nat) (caps : List Nat) (δ : Ds) : Ds := List.replicate n .un ++ caps.map fun j => capSl δ[j]?
def compD (f : D → Ds → Option Ds) (gt : GB) (ge : GE) (δ : Ds) : List D → Option (List D)
  | [] => some []
  | d :: ds => match f d δ with
    | none => none
    | some δ' => match gt δ' with
      | none => none
      | some false => compD f gt ge δ ds
      | some true => match ge δ' with
        | none => none
        | some y => (compD f gt ge δ ds).map fun r => y :: r
@[simp] def compG (n : Nat) (caps : List Nat) (gi : GA) (f : D → Ds → Option Ds) (gt : GB) (ge : GE) : GE :=
  fun δ => (gi δ).bind fun items => if items.length ≤ sizeLine then (compD f gt ge (dComp n caps δ) items).map .lst else none
@[simp] def dStart (N : List Str) (ds : List D) : Ds := ds.map .sh ++ List.replicate (N.length - ds.length) .un
/-! operations -/
@[simp] def isInt : D → Bool
  | .int _ => true | .bl _ => true | _ => false
@[simp] def isStr : D → Bool
  | .str _ => true | _ => false
@[simp] def isBool : D → Bool
  | .bl _ => true | _ => false
@[simp] def isTup : D → Bool
  | .tup _ => true | _ => false
@[simp] def isLst : D → Bool
  | .lst _ => true | _ => false
@[simp] def ii (f : Int → Int → Option D) : D → D → Option D
  | .int i, .int j => f i j
  | _, _ => none
@[simp] def subD : D → D → Option D := ii fun i j => some (.int (i - j))
@[simp] def mulD : D → D → Option D := ii fun i j => if (-(2 ^ 64) < i ∧ i < 2 ^ 64) ∨ (-(2 ^ 64) < j ∧ j < 2 ^ 64) then some (.int (i * j)) else none
@[simp] def fdivD : D → D → Option D := ii fun i j => if 0 < j ∧ j < 1073741824 then some (.int (i / j)) else none
@[simp] def modD : D → D → Option D := ii fun i j => if 0 < j then some (.int (i % j)) else none
@[simp] def powD : D → D → Option D := ii fun i j => if 0 ≤ j ∧ j ≤ 1000000 ∧ i.natAbs < 2 ^ 64 then some (.int (i ^ j.toNat)) else none
@[simp] def addD : D → D → Option D
  | .int i, .int j => some (.int (i + j))
  | .str x, .str y => if x.length + y.length ≤ sizeLine then some (.str (x ++ y)) else none
  | .lst xs, .lst ys => if xs.length + ys.length ≤ sizeLine then some (.lst (xs ++ ys)) else none
  | .tup xs, .tup ys => if xs ≠ [] ∧ xs.length + ys.length ≤ sizeLine then some (.tup (xs ++ ys)) else none
  | _, _ => none
@[simp] def ltD : D → D → Option D := ii fun i j => some (.bl (decide (i < j)))
@[simp] def leD : D → D → Option D := ii fun i j => some (.bl (decide (i ≤ j)))
@[simp] def gtD : D → D → Option D := ii fun i j => some (.bl (decide (j < i)))
@[simp] def geD : D → D → Option D := ii fun i j => some (.bl (decide (j ≤ i)))
@[simp] def eqS : D → D → Option Bool
  | .non, .non => some true
  | .non, .int _ => some false | .int _, .non => some false | .non, .bl _ => some false | .bl _, .non => some false | .non, .str _ => some false | .str _, .non => some false
  | .int i, .int j => some (decide (i = j))
  | .bl i, .bl j => some (decide (i = j))
  | .str i, .str j => some (decide (i = j))
  | .int _, .str _ => some false | .str _, .int _ => some false | .bl _, .str _ => some false | .str _, .bl _ => some false
  | _, _ => none
@[simp] def eqD (x y : D) : Option D := (eqS x y).map .bl
@[simp] def neD (x y : D) : Option D := (eqS x y).map fun b => .bl (!b)
def inS (x y : Str) : Bool := !(Builtin.Str.occurrences y x 0 y.length 1).isEmpty
@[simp] def inD : D → D → Option D
  | .str x, .str y => some (.bl (inS x y))
  | _, _ => none
@[simp] def ninD : D → D → Option D
  | .str x, .str y => some (.bl (!inS x y))
  | _, _ => none
@[simp] def isNon : D → Bool
  | .non => true | _ => false
@[simp] def isND (x y : D) : Option D := match y with
  | .non => some (.bl (isNon x))
  | _ => none
def ixN (n : Nat) (i : Int) : Option Nat := if 0 ≤ i then (if i < n then some i.toNat else none) else if -(n : Int) ≤ i then some (i + n).toNat else none
def atI {α : Type} (xs : List α) (i : Int) : Option α := (ixN xs.length i).bind fun j => xs[j]?
@[simp] def ixD : D → D → Option D
  | .lst xs, .int i => atI xs i
  | .tup xs, .int i => atI xs i
  | .str z, .int i => if z.length ≤ sizeLine then (atI z.cps.toList i).map fun c => .str ⟨#[c]⟩ else none
  | _, _ => none
def sIx (n d : Nat) : Option Int → Nat
  | none => d
  | some v => if v < 0 then (v + (n : Int)).toNat else min v.toNat n
def cutD (xs : List D) (lo hi : Option Int) : List D := (xs.drop (sIx xs.length 0 lo)).take (sIx xs.length xs.length hi - sIx xs.length 0 lo)
@[simp] def slD (d : D) (lo hi : Option Int) : Option D := match d with
  | .str z => if z.length ≤ sizeLine then some (.str (Txt.slice z lo hi)) else none
  | .lst xs => some (.lst (cutD xs lo hi))
  | .tup xs => if sIx xs.length 0 lo = 0 ∧ sIx xs.length xs.length hi = xs.length then none else some (.tup (cutD xs lo hi))
  | _ => none
abbrev GO := Ds → Option (Option Int)
@[simp] def noneO : GO := fun _ => some none
@[simp] def someO (g : GE) : GO := fun δ => (g δ).bind fun d => (asI d).map some
@[simp] def slG (g : GE) (gl gh : GO) : GE := fun δ => (g δ).bind fun d => (gl δ).bind fun l => (gh δ).bind fun h => slD d l h
@[simp] def lenD : List D → Option D
  | [.str z] => if z.length ≤ sizeLine then some (.int z.length) else none
  | [.lst xs] => some (.int xs.length)
  | [.tup xs] => some (.int xs.length)
  | _ => none
@[simp] def absD : List D → Option D
  | [.int i] => some (.int (if i < 0 then -i else i))
  | _ => none
def bools : List D → Option (List Bool)
  | [] => some []
  | .bl b :: ds => (bools ds).map fun r => b :: r
  | _ => none
@[simp] def allD : List D → Option D
  | [.lst ds] => (bools ds).map fun bs => .bl (bs.all id)
  | _ => none
@[simp] def strOfD : List D → Option D
  | [.int i] => if i.natAbs.log2 < 1920 then some (.str (toString i)) else none
  | _ => none
def strL : List D → Option (List Str)
  | [] => some []
  | .str b :: ds => (strL ds).map fun r => b :: r
  | _ => none
@[simp] def joinD (d : D) (ds : List D) : Option D := match d, ds with
  | .str sep, [.lst xs] => (strL xs).bind fun ys => if (ys.map (·.length)).sum + ys.length * sep.length ≤ 16777216 then some (.str (Txt.join sep ys)) else none
  | _, _ => none
@[simp] def joinG (g : GE) (gA : GA) : GE := fun δ => (g δ).bind fun d => (gA δ).bind fun ds => joinD d ds
@[simp] def tupOfD : List D → Option D
  | [.lst ds] => some (.tup ds)
  | [.tup ds] => some (.tup ds)
  | _ => none

/-! ### over data alone -/
/-- a loop whose every turn goes on -/
theorem forD_inv {f : D → Ds → Option Ds} {G : GS} (P : Nat → Ds → Prop) : ∀ (items : List D) (i : Nat) (δ : Ds), (∀ j d δ, items[j]? = some d → P (i + j) δ → ∃ δ1 δ2, f d δ = some δ1 ∧ G δ1 = some (.nx δ2) ∧ P (i + j + 1) δ2) → P i δ →
    ∃ δ', forD f G items δ = some (.nx δ') ∧ P (i + items.length) δ'
  | [], i, δ, _, h => ⟨δ, rfl, h⟩
  | d :: ds, i, δ, H, h => by
    obtain ⟨δ1, δ2, e1, e2, h2⟩ := H 0 d δ rfl h
    obtain ⟨δ', e3, h3⟩ := forD_inv P ds (i + 1) δ2 (fun j d δ hj hp => by
      have q : i + (j + 1) = i + 1 + j := by omega
      obtain ⟨a, b, c, d', e⟩ := H (j + 1) d δ (by simpa using hj) (by rw [q]; exact hp)
      exact ⟨a, b, c, d', by rw [q] at e; exact e⟩) h2
    have q : i + (d :: ds).length = i + 1 + ds.length := by rw [List.length_cons]; omega
    refine ⟨δ', ?_, by rw [q]; exact h3⟩
    unfold forD
    rw [e1]
    simp only [Option.bind_some, e2]
    exact e3
theorem seq_nx {G1 G2 : GS} {δ δ' : Ds} (h : G1 δ = some (.nx δ')) : seqD G1 G2 δ = G2 δ' := by unfold seqD; rw [h]
theorem seq_rt {G1 G2 : GS} {δ : Ds} {d : D} (h : G1 δ = some (.rt d)) : seqD G1 G2 δ = some (.rt d) := by unfold seqD; rw [h]
theorem ret_of {g : GE} {δ : Ds} {d : D} (h : g δ = some d) : retD g δ = some (.rt d) := by unfold retD; rw [h]; rfl
theorem set_of {g : GE} {i : Nat} {δ : Ds} {d : D} (h : g δ = some d) : setD (gN i) g δ = some (.nx (δ.set i (.sh d))) := by unfold setD; rw [h]; rfl
theorem if_t {g : GB} {Ga Gb : GS} {δ : Ds} (h : g δ = some true) : ifD g Ga Gb δ = Ga δ := by unfold ifD; rw [h]; rfl
theorem if_f {g : GB} {Ga Gb : GS} {δ : Ds} (h : g δ = some false) : ifD g Ga Gb δ = Gb δ := by unfold ifD; rw [h]; rfl
theorem for_of {gi : GA} {f : D → Ds → Option Ds} {G : GS} {δ : Ds} {items : List D} {r : Option Res} (h1 : gi δ = some items) (h2 : forD f G items δ = r) : forG gi f G δ = r := by
  unfold forG
  rw [h1]
  exact h2
theorem cons_of {g : GE} {gA : GA} {δ : Ds} {d : D} {ds : List D} (h1 : g δ = some d) (h2 : gA δ = some ds) : consA g gA δ = some (d :: ds) := by unfold consA; rw [h1, h2]; rfl
theorem oA_of {gA : GA} {δ : Ds} {ds : List D} {f : List D → Option D} (h : gA δ = some ds) : oA gA f δ = f ds := by unfold oA; rw [h]; rfl
theorem o2_of {ga gb : GE} {δ : Ds} {x y : D} {f : D → D → Option D} (h1 : ga δ = some x) (h2 : gb δ = some y) : o2 ga gb f δ = f x y := by unfold o2; rw [h1, h2]; rfl
end DL
/-! Data, second part: lists and dicts of one's own, borrowing, while, equality of data, more of Python's own functions. -/
namespace DL
open PySem PySem.Spec PyProof.Rows
@[simp] def frz1 : Sl → Sl
  | .ow d => .sh d
  | s => s
@[simp] def frz (δ : Ds) : Ds := δ.map frz1
@[simp] def flat : D → Bool
  | .non => true | .bl _ => true | .int _ => true | .str _ => true | _ => false
/-- a piece that reads lists of one's own and is worth a flat value -/
@[simp] def borE (g : GE) : GE := fun δ => (g (frz δ)).bind fun d => if flat d = true then some d else none
@[simp] def borB (g : GB) : GB := fun δ => g (frz δ)
@[simp] def borA (g : GE) : GE := fun δ => g (frz δ)
@[simp] def frzAt (i : Nat) (δ : Ds) : Ds := match δ[i]? with
  | some s => δ.set i (frz1 s)
  | none => δ
@[simp] def frzS (i : Nat) (G : GS) : GS := fun δ => G (frzAt i δ)
/-- x = a new list or dict, one's own -/
@[simp] def ownD (i : Nat) (g : GE) : GS := fun δ => (g δ).map fun d => .nx (δ.set i (.ow d))
/-- an expression that may change what is one's own -/
abbrev GX := Ds → Option (D × Ds)
@[simp] def pureX (g : GE) : GX := fun δ => (g δ).map fun d => (d, δ)
@[simp] def asgX (gx : GX) (ft : D → Ds → Option Ds) : GS := fun δ => (gx δ).bind fun r => (ft r.1 r.2).map .nx
@[simp] def exprX (gx : GX) : GS := fun δ => (gx δ).map fun r => .nx r.2
@[simp] def owL (i : Nat) (δ : Ds) : Option (List D) := match δ[i]? with
  | some (.ow (.lst ds)) => some ds
  | _ => none
@[simp] def appX (i : Nat) (g : GE) : GX := fun δ => (owL i δ).bind fun ds => (g δ).bind fun d => if ds.length < sizeLine then some (.non, δ.set i (.ow (.lst (ds ++ [d])))) else none
@[simp] def extX (i : Nat) (g : GE) : GX := fun δ => (owL i δ).bind fun ds => (g δ).bind fun d => match d with
  | .lst es => if ds.length + es.length ≤ sizeLine then some (.non, δ.set i (.ow (.lst (ds ++ es)))) else none
  | _ => none
@[simp] def popX (i : Nat) : GX := fun δ => (owL i δ).bind fun ds => (ds.getLast?).map fun d => (d, δ.set i (.ow (.lst ds.dropLast)))
@[simp] def popAtX (i : Nat) (g : GE) : GX := fun δ => (owL i δ).bind fun ds => (g δ).bind fun d => match d with
  | .int k => if 0 ≤ k ∧ k < ds.length then (ds[k.toNat]?).map fun d => (d, δ.set i (.ow (.lst (ds.eraseIdx k.toNat)))) else none
  | _ => none
/-- x[e] = v, a list of one's own -/
@[simp] def setAt (i : Nat) (g : GE) : D → Ds → Option Ds := fun v δ => (owL i δ).bind fun ds => (g δ).bind fun d => match d with
  | .int k => (ixN ds.length k).map fun j => δ.set i (.ow (.lst (ds.set j v)))
  | _ => none
abbrev KeyD := Sum Int Str
@[simp] def asKey : D → Option KeyD
  | .int i => some (.inl i)
  | .str x => some (.inr x)
  | _ => none
def asKeys : List D → Option (List KeyD)
  | [] => some []
  | d :: ds => (asKey d).bind fun k => (asKeys ds).map (k :: ·)
@[simp] def asKeyT : D → Option (List KeyD)
  | .tup ds => asKeys ds
  | _ => none
def getK {κ : Type} [DecidableEq κ] : List κ → List D → κ → Option D
  | k :: ks, d :: ds, q => if k = q then some d else getK ks ds q
  | _, _, _ => none
/-- in its place, or at the end -/
def hasK {κ : Type} [DecidableEq κ] (ks : List κ) (k : κ) : Bool := ks.any fun q => decide (q = k)
def putKs {κ : Type} [DecidableEq κ] (ks : List κ) (k : κ) : List κ := if hasK ks k = true then ks else ks ++ [k]
def putDs {κ : Type} [DecidableEq κ] (ks : List κ) (ds : List D) (q : κ) (v : D) : List D := if hasK ks q = true then (ks.zip ds).map (fun p => if p.1 = q then v else p.2) else ds ++ [v]
@[simp] def owDc (i : Nat) (δ : Ds) : Option (List KeyD × List D) := match δ[i]? with
  | some (.ow (.dct (.inl ks) ds)) => some (ks, ds)
  | _ => none
/-- x[e] = v, a dict of one's own -/
@[simp] def putAt (i : Nat) (g : GE) : D → Ds → Option Ds := fun v δ => (owDc i δ).bind fun r => (g δ).bind fun d => (asKey d).bind fun k =>
  if r.1.length < sizeLine then some (δ.set i (.ow (.dct (.inl (putKs r.1 k)) (putDs r.1 r.2 k v)))) else none
@[simp] def owDt (i : Nat) (δ : Ds) : Option (List (List KeyD) × List D) := match δ[i]? with
  | some (.ow (.dct (.inr ks) ds)) => some (ks, ds)
  | _ => none
/-- x[e] = v, a dict of one's own with tuples as keys -/
@[simp] def putAtT (i : Nat) (g : GE) : D → Ds → Option Ds := fun v δ => (owDt i δ).bind fun r => (g δ).bind fun d => (asKeyT d).bind fun k =>
  if r.1.length < sizeLine then some (δ.set i (.ow (.dct (.inr (putKs r.1 k)) (putDs r.1 r.2 k v)))) else none
/-- d[k], k in d -/
@[simp] def dgetD : D → D → Option D
  | .dct ks ds, d => match ks with
    | .inl ks => (asKey d).bind fun k => getK ks ds k
    | .inr ks => (asKeyT d).bind fun k => getK ks ds k
  | _, _ => none
@[simp] def inDctD (neg : Bool) : D → D → Option D
  | d, .dct ks ds => match ks with
    | .inl ks => (asKey d).map fun k => .bl (xor neg (hasK ks k))
    | .inr ks => (asKeyT d).map fun k => .bl (xor neg (hasK ks k))
  | _, _ => none
/-- while, by a bound of its turns -/
def whileD (gt : GB) (G : GS) : Nat → Ds → Option Res
  | 0, _ => none
  | n + 1, δ => match gt δ with
    | some false => some (.nx δ)
    | some true => match G δ with
      | some (.nx δ') => whileD gt G n δ'
      | some (.ct δ') => whileD gt G n δ'
      | some (.bk δ') => some (.nx δ')
      | r => r
    | none => none
@[simp] def tup2 (i j : Nat) : D → Ds → Option Ds
  | .tup [a, b], δ => some ((δ.set i (.sh a)).set j (.sh b))
  | _, _ => none
/-! equality of data -/
mutual
def deq : D → D → Bool
  | .non, .non => true
  | .bl a, .bl b => a == b
  | .bl a, .int b => (if a then 1 else 0) == b
  | .int a, .bl b => a == (if b then 1 else 0)
  | .int a, .int b => a == b
  | .str a, .str b => a == b
  | .tup xs, .tup ys => deqs xs ys
  | .lst xs, .lst ys => deqs xs ys
  | _, _ => false
def deqs : List D → List D → Bool
  | [], [] => true
  | x :: xs, y :: ys => deq x y && deqs xs ys
  | _, _ => false
end
mutual
/-- without dicts, at most so deep -/
def lean : D → Nat → Bool
  | .dct _ _, _ => false
  | .tup xs, n + 1 => leans xs n
  | .lst xs, n + 1 => leans xs n
  | .tup _, 0 => false
  | .lst _, 0 => false
  | _, _ => true
def leans : List D → Nat → Bool
  | [], _ => true
  | x :: xs, n => lean x n && leans xs n
end
@[simp] def eqDD (x y : D) : Option D := if lean x 50 = true ∧ lean y 50 = true then some (.bl (deq x y)) else none
@[simp] def neDD (x y : D) : Option D := if lean x 50 = true ∧ lean y 50 = true then some (.bl (!deq x y)) else none
@[simp] def eqF : D → D → Bool
  | .non, .non => true
  | .bl a, .bl b => a == b
  | .bl a, .int b => (if a then 1 else 0) == b
  | .int a, .bl b => a == (if b then 1 else 0)
  | .int a, .int b => a == b
  | .str a, .str b => a == b
  | _, _ => false
/-- x in a list or tuple of flat things -/
@[simp] def inSeqD (neg : Bool) : D → D → Option D
  | x, .lst ys => if flat x = true ∧ ys.all flat = true then some (.bl (xor neg (ys.any fun y => eqF y x))) else none
  | x, .tup ys => if flat x = true ∧ ys.all flat = true then some (.bl (xor neg (ys.any fun y => eqF y x))) else none
  | _, _ => none
@[simp] def inAny : D → D → Option D
  | x, .lst ys => inSeqD false x (.lst ys)
  | x, .tup ys => inSeqD false x (.tup ys)
  | x, .dct ks ds => inDctD false x (.dct ks ds)
  | .str x, .str y => some (.bl (inS x y))
  | _, _ => none
@[simp] def ninAny : D → D → Option D
  | x, .lst ys => inSeqD true x (.lst ys)
  | x, .tup ys => inSeqD true x (.tup ys)
  | x, .dct ks ds => inDctD true x (.dct ks ds)
  | .str x, .str y => some (.bl (!inS x y))
  | _, _ => none
/-- xs[i], also of a dict -/
@[simp] def ixAny : D → D → Option D
  | .dct ks ds, d => dgetD (.dct ks ds) d
  | x, d => ixD x d
@[simp] def isDct : D → Bool
  | .dct _ _ => true | _ => false
/-! more functions -/
@[simp] def minD : List D → Option D
  | [.int i, .int j] => some (.int (if j < i then j else i))
  | _ => none
@[simp] def intOfD : List D → Option D
  | [.int i] => some (.int i)
  | [.bl k] => some (.int (if k then 1 else 0))
  | _ => none
@[simp] def lstOfD : List D → Option D
  | [.lst ds] => some (.lst ds)
  | [.tup ds] => some (.lst ds)
  | _ => none
def hasS (acc : List Str) (y : Str) : Bool := acc.any fun z => decide (z = y)
def insS (acc : List Str) (y : Str) : List Str := if hasS acc y = true then acc else acc ++ [y]
/-- each once, as first met -/
def onceS (ys : List Str) : List Str := ys.foldl insS []
@[simp] def lenSetD : List D → Option D
  | [.lst ds] => (strL ds).bind fun ys => if ys.length ≤ 4000 then some (.int (onceS ys).length) else none
  | _ => none
/-- a def, as its body tells -/
def mkF (n : Nat) (N : List Str) (G : GS) (ds : List D) : Option D := if ds.length = n then (match G (dStart N ds) with
  | some (.rt d) => some d
  | some (.rf d) => some d
  | some (.nx _) => some .non
  | _ => none) else none
theorem mkF_ok {n : Nat} {N : List Str} {G : GS} {ds : List D} {d : D} (h : mkF n N G ds = some d) : ds.length = n ∧ (G (dStart N ds) = some (.rt d) ∨ (d = .non ∧ ∃ δ, G (dStart N ds) = some (.nx δ)) ∨ G (dStart N ds) = some (.rf d)) := by
  unfold mkF at h
  split at h
  · rename_i hl
    refine ⟨hl, ?_⟩
    split at h
    · rename_i e; cases h; exact .inl e
    · rename_i e; cases h; exact .inr (.inr e)
    · rename_i e; cases h; exact .inr (.inl ⟨rfl, _, e⟩)
    · cases h
  · cases h
/-- a def that gives back a new list or dict -/
def mkN (n : Nat) (N : List Str) (G : GS) (ds : List D) : Option D := if ds.length = n then (match G (dStart N ds) with
  | some (.rf d) => some d
  | _ => none) else none
theorem mkN_ok {n : Nat} {N : List Str} {G : GS} {ds : List D} {d : D} (h : mkN n N G ds = some d) : ds.length = n ∧ G (dStart N ds) = some (.rf d) := by
  unfold mkN at h
  split at h
  · rename_i hl
    refine ⟨hl, ?_⟩
    split at h
    · rename_i e; cases h; exact e
    · cases h
  · cases h
theorem mkN_rf {n : Nat} {N : List Str} {G : GS} {ds : List D} {d : D} (hl : ds.length = n) (h : G (dStart N ds) = some (.rf d)) : mkN n N G ds = some d := by
  unfold mkN
  rw [if_pos hl, h]
@[simp] def retF (g : GE) : GS := fun δ => (g δ).map .rf
@[simp] def retO (i : Nat) : GS := fun δ => match δ[i]? with
  | some (.ow d) => some (.rf d)
  | _ => none
theorem seq_rf {G1 G2 : GS} {δ : Ds} {d : D} (h : G1 δ = some (.rf d)) : seqD G1 G2 δ = some (.rf d) := by unfold seqD; rw [h]
theorem retF_of {g : GE} {δ : Ds} {d : D} (h : g δ = some d) : retF g δ = some (.rf d) := by unfold retF; rw [h]; rfl
theorem mkF_rt {n : Nat} {N : List Str} {G : GS} {ds : List D} {d : D} (hl : ds.length = n) (h : G (dStart N ds) = some (.rt d)) : mkF n N G ds = some d := by
  unfold mkF
  rw [if_pos hl, h]
theorem seq_to {G1 G2 : GS} {δ δ' : Ds} {r : Option Res} (h : G1 δ = some (.nx δ')) (k : G2 δ' = r) : seqD G1 G2 δ = r := (seq_nx h).trans k
/-! + and * and slices in full -/
@[simp] def addA : D → D → Option D
  | .int i, .int j => some (.int (i + j))
  | .str x, .str y => if x.length + y.length ≤ sizeLine then some (.str (x ++ y)) else none
  | .lst xs, .lst ys => if xs.length + ys.length ≤ sizeLine then some (.lst (xs ++ ys)) else none
  | .tup xs, .tup ys => if xs.length + ys.length ≤ sizeLine then some (.tup (xs ++ ys)) else none
  | _, _ => none
def repD (x : Str) (n : Int) : Str := ⟨(List.replicate n.toNat x.cps).foldl (· ++ ·) #[]⟩
@[simp] def mulA : D → D → Option D
  | .int i, .int j => if (-(2 ^ 64) < i ∧ i < 2 ^ 64) ∨ (-(2 ^ 64) < j ∧ j < 2 ^ 64) then some (.int (i * j)) else none
  | .str x, .int n => if -(2 ^ 62) ≤ n ∧ n < 2 ^ 62 ∧ x.length * n.toNat ≤ sizeLine then some (.str (repD x n)) else none
  | .tup xs, .int k => if xs ≠ [] ∧ 2 ≤ k ∧ k < 2 ^ 62 ∧ xs.length * k.toNat ≤ sizeLine then some (.tup (List.replicate k.toNat xs).flatten) else none
  | _, _ => none
@[simp] def slA (d : D) (lo hi : Option Int) : Option D := match d with
  | .str z => if z.length ≤ sizeLine then some (.str (Txt.slice z lo hi)) else none
  | .lst xs => some (.lst (cutD xs lo hi))
  | .tup xs => some (.tup (cutD xs lo hi))
  | _ => none
@[simp] def slAG (g : GE) (gl gh : GO) : GE := fun δ => (g δ).bind fun d => (gl δ).bind fun l => (gh δ).bind fun h => slA d l h
end DL
namespace DL
open PySem PySem.Spec PyProof.Rows
@[simp] def catD : D → D → Option D
  | .lst xs, .lst ys => if xs.length + ys.length ≤ sizeLine then some (.lst (xs ++ ys)) else none
  | _, _ => none
theorem lst_of {gA : GA} {δ : Ds} {ds : List D} (h : gA δ = some ds) (hl : ds.length ≤ sizeLine) : lstG gA δ = some (.lst ds) := by
  unfold lstG
  rw [h, Option.bind_some, if_pos hl]
theorem rng_len (n : Int) : (rngD 0 n).length = n.toNat := by unfold rngD; simp
theorem rng_get {n : Int} {j : Nat} {d : D} (h : (rngD 0 n)[j]? = some d) : j < n.toNat ∧ d = .int (j : Int) := by
  have hj : j < n.toNat := by
    have := (List.getElem?_eq_some_iff.mp h).1
    rwa [rng_len] at this
  refine ⟨hj, ?_⟩
  unfold rngD at h
  rw [List.getElem?_map, List.getElem?_range (by simpa using hj)] at h
  have := Option.some.inj h
  rw [← this]
  show D.int (0 + (j : Int)) = _
  rw [Int.zero_add]
end DL
/-! Values without a heap: what a pure piece of the text is worth, as a function over data. -/
namespace DL
open PySem PySem.Spec PyProof.Rows L2

abbrev BS := Addr → Prop
abbrev St := L2.St
abbrev noH : Hp := fun _ => none
def SqT' (K : PySem.W.Frag) (H : Hp) (B : BS) (a : Addr) (xs : List V) : Prop := ¬ B a ∧ H a = some (.tup xs)
def SqL' (K : PySem.W.Frag) (H : Hp) (B : BS) (a : Addr) (xs : List V) : Prop := (¬ B a ∧ Rd H a (.lst xs)) ∨ SqL K noH a xs
section
variable {K : PySem.W.Frag} {H H' : Hp} {B B' : BS} {a : Addr} {xs : List V}
theorem rd_no {a : Addr} {u : HO} (h : Rd noH a u) : False := by
  rcases h with h | ⟨o, h⟩ <;> cases h
theorem SqT'.to (h : SqT' K H B a xs) : SqT K H a xs := .inl (.inl h.2)
theorem SqL'.to (h : SqL' K H B a xs) : SqL K H a xs := by
  rcases h with h | h | h
  · exact .inl h.2
  · exact (rd_no h).elim
  · exact .inr h
/-- H' and B' hold all that H off B does -/
def Gr (H H' : Hp) (B B' : BS) : Prop := ∀ b o, ¬ B b → H b = some o → ¬ B' b ∧ H' b = some o
theorem SqT'.mono (g : Gr H H' B B') (h : SqT' K H B a xs) : SqT' K H' B' a xs := g _ _ h.1 h.2
theorem SqL'.mono (g : Gr H H' B B') (h : SqL' K H B a xs) : SqL' K H' B' a xs := by
  rcases h with ⟨n, h | ⟨o, h⟩⟩ | h
  · exact .inl ⟨(g _ _ n h).1, .inl (g _ _ n h).2⟩
  · exact .inl ⟨(g _ _ n h).1, .inr ⟨o, (g _ _ n h).2⟩⟩
  · exact .inr h
theorem Gr.same (s : Same H H') : Gr H H' B B := fun b o n h => ⟨n, s b o h⟩
theorem Gr.less (h : ∀ a, B' a → B a) : Gr H H B B' := fun b o n e => ⟨fun z => n (h b z), e⟩
end

abbrev KS := Sum (List Key) (List (List Key))
def dOb : KS → List V → HO
  | .inl ks, xs => .dK (ks.zip xs)
  | .inr ks, xs => .dT (ks.zip xs)
def dLn : KS → Nat
  | .inl ks => ks.length
  | .inr ks => ks.length
mutual
def Rp (K : PySem.W.Frag) (H : Hp) (B : BS) : D → V → Prop
  | .non, v => v = .non
  | .bl b, v => v = .bl b
  | .int i, v => v = .int i
  | .str x, v => v = .str x
  | .tup ds, v => ∃ a xs, v = .ref a ∧ SqT' K H B a xs ∧ Rps K H B ds xs
  | .lst ds, v => ∃ a xs, v = .ref a ∧ SqL' K H B a xs ∧ Rps K H B ds xs
  | .dct ks ds, v => ∃ a xs, v = .ref a ∧ ¬ B a ∧ H a = some (dOb ks xs) ∧ dLn ks = xs.length ∧ Rps K H B ds xs
def Rps (K : PySem.W.Frag) (H : Hp) (B : BS) : List D → List V → Prop
  | [], xs => xs = []
  | d :: ds, xs => ∃ x r, xs = x :: r ∧ Rp K H B d x ∧ Rps K H B ds r
end
mutual
theorem Rp.mono {K : PySem.W.Frag} {H H' : Hp} {B B' : BS} (g : Gr H H' B B') : ∀ {d : D} {v : V}, Rp K H B d v → Rp K H' B' d v
  | .non, _, h => by unfold Rp at h ⊢; exact h
  | .bl _, _, h => by unfold Rp at h ⊢; exact h
  | .int _, _, h => by unfold Rp at h ⊢; exact h
  | .str _, _, h => by unfold Rp at h ⊢; exact h
  | .tup ds, _, h => by
    unfold Rp at h ⊢
    obtain ⟨a, xs, e, q, r⟩ := h
    exact ⟨a, xs, e, q.mono g, Rps.mono g r⟩
  | .lst ds, _, h => by
    unfold Rp at h ⊢
    obtain ⟨a, xs, e, q, r⟩ := h
    exact ⟨a, xs, e, q.mono g, Rps.mono g r⟩
  | .dct ks ds, _, h => by
    unfold Rp at h ⊢
    obtain ⟨a, xs, e, n, q, l, r⟩ := h
    exact ⟨a, xs, e, (g _ _ n q).1, (g _ _ n q).2, l, Rps.mono g r⟩
theorem Rps.mono {K : PySem.W.Frag} {H H' : Hp} {B B' : BS} (g : Gr H H' B B') : ∀ {ds : List D} {xs : List V}, Rps K H B ds xs → Rps K H' B' ds xs
  | [], _, h => by unfold Rps at h ⊢; exact h
  | d :: ds, _, h => by
    unfold Rps at h ⊢
    obtain ⟨x, r, e, h1, h2⟩ := h
    exact ⟨x, r, e, Rp.mono g h1, Rps.mono g h2⟩
end
section
variable {K : PySem.W.Frag} {H H' : Hp} {B B' : BS} {v : V}
theorem rp_non : Rp K H B .non v = (v = .non) := by unfold Rp; rfl
theorem rp_bl {b : Bool} : Rp K H B (.bl b) v = (v = .bl b) := by unfold Rp; rfl
theorem rp_int {i : Int} : Rp K H B (.int i) v = (v = .int i) := by unfold Rp; rfl
theorem rp_str {x : Str} : Rp K H B (.str x) v = (v = .str x) := by unfold Rp; rfl
theorem rp_tup {ds : List D} : Rp K H B (.tup ds) v = ∃ a xs, v = .ref a ∧ SqT' K H B a xs ∧ Rps K H B ds xs := by conv => lhs; unfold Rp
theorem rp_lst {ds : List D} : Rp K H B (.lst ds) v = ∃ a xs, v = .ref a ∧ SqL' K H B a xs ∧ Rps K H B ds xs := by conv => lhs; unfold Rp
theorem rp_dctG {ks : KS} {ds : List D} : Rp K H B (.dct ks ds) v = ∃ a xs, v = .ref a ∧ ¬ B a ∧ H a = some (dOb ks xs) ∧ dLn ks = xs.length ∧ Rps K H B ds xs := by conv => lhs; unfold Rp
theorem rps_nil {xs : List V} : Rps K H B [] xs = (xs = []) := by unfold Rps; rfl
theorem rps_cons {d : D} {ds : List D} {xs : List V} : Rps K H B (d :: ds) xs = ∃ x r, xs = x :: r ∧ Rp K H B d x ∧ Rps K H B ds r := by conv => lhs; unfold Rps
theorem Rps.length : ∀ {ds : List D} {xs : List V}, Rps K H B ds xs → xs.length = ds.length
  | [], _, h => by rw [rps_nil] at h; subst h; rfl
  | d :: ds, _, h => by
    rw [rps_cons] at h
    obtain ⟨x, r, rfl, _, h2⟩ := h
    simp [Rps.length h2]
theorem Rps.get : ∀ {ds : List D} {xs : List V} {i : Nat} {d : D}, Rps K H B ds xs → ds[i]? = some d → ∃ x, xs[i]? = some x ∧ Rp K H B d x
  | [], _, _, _, _, e => by simp at e
  | d :: ds, _, 0, d', h, e => by
    rw [rps_cons] at h
    obtain ⟨x, r, rfl, h1, _⟩ := h
    simp at e; subst e
    exact ⟨x, rfl, h1⟩
  | d :: ds, _, i + 1, d', h, e => by
    rw [rps_cons] at h
    obtain ⟨x, r, rfl, _, h2⟩ := h
    obtain ⟨y, e1, e2⟩ := Rps.get (i := i) h2 (by simpa using e)
    exact ⟨y, by simpa using e1, e2⟩
theorem Rps.snoc : ∀ {ds : List D} {xs : List V} {d : D} {x : V}, Rps K H B ds xs → Rp K H B d x → Rps K H B (ds ++ [d]) (xs ++ [x])
  | [], _, _, _, h, r => by
    rw [rps_nil] at h; subst h
    rw [List.nil_append, List.nil_append, rps_cons]
    exact ⟨_, [], rfl, r, by rw [rps_nil]⟩
  | d :: ds, _, _, _, h, r => by
    rw [rps_cons] at h
    obtain ⟨y, t, rfl, h1, h2⟩ := h
    rw [List.cons_append, List.cons_append, rps_cons]
    exact ⟨y, _, rfl, h1, Rps.snoc h2 r⟩
theorem Rps.append : ∀ {ds es : List D} {xs ys : List V}, Rps K H B ds xs → Rps K H B es ys → Rps K H B (ds ++ es) (xs ++ ys)
  | [], _, _, _, h, r => by rw [rps_nil] at h; subst h; exact r
  | d :: ds, _, _, _, h, r => by
    rw [rps_cons] at h
    obtain ⟨y, t, rfl, h1, h2⟩ := h
    rw [List.cons_append, List.cons_append, rps_cons]
    exact ⟨y, _, rfl, h1, Rps.append h2 r⟩
theorem Rps.drop : ∀ {ds : List D} {xs : List V} (n : Nat), Rps K H B ds xs → Rps K H B (ds.drop n) (xs.drop n)
  | _, _, 0, h => h
  | [], _, n + 1, h => by rw [rps_nil] at h; subst h; simpa [rps_nil]
  | d :: ds, _, n + 1, h => by
    rw [rps_cons] at h
    obtain ⟨y, t, rfl, h1, h2⟩ := h
    simpa using Rps.drop n h2
theorem Rps.take : ∀ {ds : List D} {xs : List V} (n : Nat), Rps K H B ds xs → Rps K H B (ds.take n) (xs.take n)
  | _, _, 0, h => by simp [rps_nil]
  | [], _, n + 1, h => by rw [rps_nil] at h; subst h; simp [rps_nil]
  | d :: ds, _, n + 1, h => by
    rw [rps_cons] at h
    obtain ⟨y, t, rfl, h1, h2⟩ := h
    rw [List.take_succ_cons, List.take_succ_cons, rps_cons]
    exact ⟨y, _, rfl, h1, Rps.take n h2⟩
theorem Rps.same {ds : List D} {xs : List V} (s : Same H H') (h : Rps K H B ds xs) : Rps K H' B ds xs := Rps.mono (Gr.same s) h
theorem Rp.same {d : D} {v : V} (s : Same H H') (h : Rp K H B d v) : Rp K H' B d v := Rp.mono (Gr.same s) h
end

/-! ### the names of a body -/
/-- the object at a is the list or dict d -/
def RpO (K : PySem.W.Frag) (H : Hp) (B : BS) (d : D) (a : Addr) : Prop := match d with
  | .lst ds => ∃ xs, H a = some (.lst xs) ∧ Rps K H B ds xs
  | .dct ks ds => ∃ xs, H a = some (dOb ks xs) ∧ dLn ks = xs.length ∧ Rps K H B ds xs
  | _ => False
theorem RpO.same {K : PySem.W.Frag} {H H' : Hp} {B : BS} {d : D} {a : Addr} (s : Same H H') (h : RpO K H B d a) : RpO K H' B d a := by
  cases d <;> try exact h.elim
  · obtain ⟨xs, e, r⟩ := h; exact ⟨xs, s _ _ e, r.same s⟩
  · obtain ⟨xs, e, l, r⟩ := h; exact ⟨xs, s _ _ e, l, r.same s⟩
theorem RpO.rp {K : PySem.W.Frag} {H : Hp} {B B' : BS} {d : D} {a : Addr} (l : ∀ a, B' a → B a) (n : ¬ B' a) (h : RpO K H B d a) : Rp K H B' d (.ref a) := by
  cases d <;> try exact h.elim
  · obtain ⟨xs, e, r⟩ := h
    rw [rp_lst]
    exact ⟨a, xs, rfl, .inl ⟨n, .inl e⟩, r.mono (Gr.less l)⟩
  · obtain ⟨xs, e, q, r⟩ := h
    rw [rp_dctG]
    exact ⟨a, xs, rfl, n, e, q, r.mono (Gr.less l)⟩
theorem RpO.live {K : PySem.W.Frag} {H : Hp} {B : BS} {d : D} {a : Addr} (h : RpO K H B d a) : H a ≠ none := by
  cases d <;> try exact h.elim
  · obtain ⟨xs, e, r⟩ := h; rw [e]; exact fun z => nomatch z
  · obtain ⟨xs, e, q, r⟩ := h; rw [e]; exact fun z => nomatch z
/-- the exception at a, of the class at C -/
def XcAt (a C : Addr) (od : Option Addr) : Heap → Prop := fun h => ∃ oe, h.get? a = some oe ∧ oe.cls = .ref C ∧ ∀ dx, od = some dx → oe.dict = some dx
def XdAt (H : Hp) (B : BS) (od : Option Addr) : Option Int → Prop
  | none => True
  | some n => ∃ dx, od = some dx ∧ ¬ B dx ∧ H dx = some (.xd [("at", .int n)])
def XcR (K : PySem.W.Frag) (H : Hp) (B : BS) (c : Str) (n : Option Int) (a : Addr) : Prop := ∃ C od, ¬ B a ∧ H a = some (.ext (XcAt a C od)) ∧ PySem.W.nsIn K mainGlobals c = some (some (.ref C)) ∧ XdAt H B od n
theorem XcR.mono {K : PySem.W.Frag} {H H' : Hp} {B B' : BS} {c : Str} {n : Option Int} {a : Addr} (g : Gr H H' B B') (h : XcR K H B c n a) : XcR K H' B' c n a := by
  obtain ⟨C, od, h1, h2, h3, h4⟩ := h
  refine ⟨C, od, (g _ _ h1 h2).1, (g _ _ h1 h2).2, h3, ?_⟩
  cases n with
  | none => trivial
  | some n => obtain ⟨dx, e, q1, q2⟩ := h4; exact ⟨dx, e, (g _ _ q1 q2).1, (g _ _ q1 q2).2⟩
def SlR (K : PySem.W.Frag) (H : Hp) (B : BS) (o : Option V) : Sl → Prop
  | .un => True
  | .sh d => ∃ v, o = some v ∧ Rp K H B d v
  | .ow d => ∃ a, o = some (.ref a) ∧ B a ∧ RpO K H B d a
  | .ex c n => ∃ a, o = some (.ref a) ∧ XcR K H B c n a
theorem Pd.get {α β : Type} {F : α → β → Prop} : ∀ {l : List α} {m : List β} {i : Nat} {b : β}, Paired F l m → m[i]? = some b → ∃ a, l[i]? = some a ∧ F a b
  | _, _, _, _, .nil, e => by simp at e
  | _, _, 0, _, .cons r _, e => by simp at e; subst e; exact ⟨_, rfl, r⟩
  | _, _, i + 1, b, .cons _ t, e => by
    obtain ⟨u, h1, h2⟩ := Pd.get (i := i) (b := b) t (by simpa using e)
    exact ⟨u, by simpa using h1, h2⟩
theorem Pd.imp {α β : Type} {F G : α → β → Prop} (h : ∀ a b, F a b → G a b) : ∀ {l : List α} {m : List β}, Paired F l m → Paired G l m
  | _, _, .nil => .nil
  | _, _, .cons r t => .cons (h _ _ r) (Pd.imp h t)
theorem Pd.set {α β : Type} {F : α → β → Prop} {a : α} {b : β} (r : F a b) : ∀ {l : List α} {m : List β} (i : Nat), Paired F l m → Paired F (l.set i a) (m.set i b)
  | _, _, _, .nil => .nil
  | _, _, 0, .cons _ t => .cons r t
  | _, _, i + 1, .cons q t => .cons q (Pd.set r i t)
theorem Pd.len {α β : Type} {F : α → β → Prop} : ∀ {l : List α} {m : List β}, Paired F l m → l.length = m.length
  | _, _, .nil => rfl
  | _, _, .cons _ t => by simp [Pd.len t]
theorem Pd.app {α β : Type} {F : α → β → Prop} : ∀ {l l' : List α} {m m' : List β}, Paired F l m → Paired F l' m' → Paired F (l ++ l') (m ++ m')
  | _, _, _, _, .nil, s => s
  | _, _, _, _, .cons r t, s => .cons r (Pd.app t s)

structure Env (K : PySem.W.Frag) (H : Hp) (B : BS) (σ : St) (δ : Ds) : Prop where
  all : Paired (SlR K H B) σ δ
  bad : ∀ a, B a → H a ≠ none
  own : ∀ (i j : Nat) (a : Addr) (ds es : D), δ[i]? = some (.ow ds) → δ[j]? = some (.ow es) → σ[i]? = some (some (.ref a)) → σ[j]? = some (some (.ref a)) → i = j
section
variable {K : PySem.W.Frag} {H H' : Hp} {B : BS} {σ σ' : St} {δ δ' : Ds}
theorem SlR.same {o : Option V} {s : Sl} (q : Same H H') (h : SlR K H B o s) : SlR K H' B o s := by
  cases s with
  | un => trivial
  | sh d => obtain ⟨v, e, r⟩ := h; exact ⟨v, e, r.same q⟩
  | ow d => obtain ⟨a, e, b, r⟩ := h; exact ⟨a, e, b, r.same q⟩
  | ex c n => obtain ⟨a, e, r⟩ := h; exact ⟨a, e, r.mono (Gr.same q)⟩
theorem Env.same (q : Same H H') (e : Env K H B σ δ) : Env K H' B σ δ :=
  ⟨Pd.imp (fun _ _ h => h.same q) e.all, (fun a b z => by
    cases h : H a with
    | none => exact e.bad a b h
    | some o => rw [q a o h] at z; cases z), e.own⟩
theorem Env.free (e : Env K H B σ δ) {p : Addr} (h : H p = none) : ¬ B p := fun z => e.bad p z h
theorem Env.get (e : Env K H B σ δ) {i : Nat} {d : D} (h : δ[i]? = some (.sh d)) : ∃ v, σ[i]? = some (some v) ∧ Rp K H B d v := by
  obtain ⟨o, h1, v, rfl, r⟩ := Pd.get e.all h
  exact ⟨v, h1, r⟩
theorem Env.set (e : Env K H B σ δ) (i : Nat) {d : D} {v : V} (r : Rp K H B d v) : Env K H B (σ.set i (some v)) (δ.set i (.sh d)) := by
  refine ⟨Pd.set ⟨v, rfl, r⟩ i e.all, e.bad, fun j k a ds es h1 h2 h3 h4 => ?_⟩
  have hj : j ≠ i := by
    rintro rfl
    by_cases hl : j < δ.length
    · rw [List.getElem?_set_self hl] at h1; cases h1
    · rw [List.getElem?_eq_none (by simpa using hl)] at h1; cases h1
  have hk : k ≠ i := by
    rintro rfl
    by_cases hl : k < δ.length
    · rw [List.getElem?_set_self hl] at h2; cases h2
    · rw [List.getElem?_eq_none (by simpa using hl)] at h2; cases h2
  rw [List.getElem?_set_ne (Ne.symm hj)] at h1 h3
  rw [List.getElem?_set_ne (Ne.symm hk)] at h2 h4
  exact e.own j k a ds es h1 h2 h3 h4
end
theorem same_upd {H : Hp} {p : Addr} {o : HO} (h : H p = none) : Same H (upd H p o) := fun b u e => by rw [upd_ne (ne_of_none e h)]; exact e

/-! ### the judgements -/
def tD (K : PySem.W.Frag) (B : BS) (δ : Ds) (g : Ds → Option D) : TE := fun σ H Q => ∃ d, Env K H B σ δ ∧ g δ = some d ∧ ∀ v H', Same H H' → Rp K H' B d v → Q v H'
structure PD (X : Cx) (e : Expr) (g : Ds → Option D) : Prop where
  mk :: go : ∀ B δ, PE X e (tD X.K B δ g)
instance {X : Cx} {e : Expr} {g : Ds → Option D} : CoeFun (PD X e g) (fun _ => ∀ B δ, PE X e (tD X.K B δ g)) := ⟨PD.go⟩
def tDT (K : PySem.W.Frag) (B : BS) (δ : Ds) (g : Ds → Option Bool) : TT := fun σ H Q => ∃ b, Env K H B σ δ ∧ g δ = some b ∧ ∀ H', Same H H' → Q b H'
structure PTD (X : Cx) (e : Expr) (g : Ds → Option Bool) : Prop where
  mk :: go : ∀ B δ, PT X e (tDT X.K B δ g)
instance {X : Cx} {e : Expr} {g : Ds → Option Bool} : CoeFun (PTD X e g) (fun _ => ∀ B δ, PT X e (tDT X.K B δ g)) := ⟨PTD.go⟩
structure PWD (X : Cx) (e : Expr) (g : Ds → Option Bool) : Prop where
  mk :: go : ∀ B δ, PW X e (tDT X.K B δ g)
instance {X : Cx} {e : Expr} {g : Ds → Option Bool} : CoeFun (PWD X e g) (fun _ => ∀ B δ, PW X e (tDT X.K B δ g)) := ⟨PWD.go⟩
def tDA (K : PySem.W.Frag) (B : BS) (δ : Ds) (g : Ds → Option (List D)) : TA := fun σ H Q => ∃ ds, Env K H B σ δ ∧ g δ = some ds ∧ ∀ vs H', Same H H' → Rps K H' B ds vs → Q vs H'
structure PDA (X : Cx) (es : List Expr) (g : Ds → Option (List D)) : Prop where
  mk :: go : ∀ B δ, PA X es (tDA X.K B δ g)
instance {X : Cx} {es : List Expr} {g : Ds → Option (List D)} : CoeFun (PDA X es g) (fun _ => ∀ B δ, PA X es (tDA X.K B δ g)) := ⟨PDA.go⟩
theorem asB_eq {d : D} {b : Bool} (h : asB d = some b) : d = .bl b := by
  cases d <;> simp [asB] at h
  subst h; rfl
/-- an operation of two values, by data -/
def Op2 (K : PySem.W.Frag) (r : R2) (f : D → D → Option D) : Prop := ∀ (H : Hp) (B : BS) (x y : V) (dx dy d : D) (Q : VK), (∀ a, B a → H a ≠ none) → Rp K H B dx x → Rp K H B dy y → f dx dy = some d → (∀ v H', Same H H' → Rp K H' B d v → Q v H') → r x y H Q
/-- a call by values, by data -/
def FnR (K : PySem.W.Frag) (r : List V → Hp → VK → Prop) (f : List D → Option D) : Prop := ∀ (H : Hp) (B : BS) (xs : List V) (ds : List D) (d : D) (Q : VK), (∀ a, B a → H a ≠ none) → Rps K H B ds xs → f ds = some d → (∀ v H', Same H H' → Rp K H' B d v → Q v H') → r xs H Q
section
variable {X : Cx} {e a b c : Expr} {es : List Expr} {pos : Pos} {g ga gb : Ds → Option D} {gA : Ds → Option (List D)} {gt gu : Ds → Option Bool} {rest : List Expr}
theorem _root_.L2.PE.imp {t t' : TE} (h : PE X e t) (q : ∀ σ H Q, t' σ H Q → t σ H Q) : PE X e t' := fun pins s σ H Q I z => h pins s σ H Q I (q σ H Q z)
theorem _root_.L2.PT.imp {t t' : TT} (h : PT X e t) (q : ∀ σ H Q, t' σ H Q → t σ H Q) : PT X e t' := fun pins s σ H Q I z => h pins s σ H Q I (q σ H Q z)
theorem _root_.L2.PW.imp {t t' : TT} (h : PW X e t) (q : ∀ σ H Q, t' σ H Q → t σ H Q) : PW X e t' := fun w pins s σ H Q I z => h w pins s σ H Q I (q σ H Q z)
theorem _root_.L2.PA.imp {t t' : TA} (h : PA X es t) (q : ∀ σ H Q, t' σ H Q → t σ H Q) : PA X es t' := fun p pins s σ H Q I z => h p pins s σ H Q I (q σ H Q z)
theorem gv_eq {i : Nat} {δ : Ds} {d : D} (h : gv i δ = some d) : δ[i]? = some (.sh d) := by
  unfold gv at h
  split at h
  · cases h; assumption
  · cases h
theorem pd_var (i : Nat) {x : Str} (hN : X.N[i]? = some x := by rfl) (hv : Vis X.env.scope x := by first | exact Or.inl rfl | exact Or.inr (Or.inl rfl) | exact Or.inr (Or.inr rfl)) (hd : (x == ("__debug__" : Str)) = false := by decide)
    (hcd : (x == ("__classdict__" : Str)) = false := by decide) : PD X (.Name x pos) (gv i) := .mk fun B δ => (pe_var (i := i) hN hv hd hcd).imp fun σ H Q ⟨d, en, h, k⟩ => by
  obtain ⟨v, e, r⟩ := en.get (gv_eq h)
  exact ⟨v, e, k v H (Same.refl H) r⟩
theorem pd_int {i : Int} {j : Nat} : PD X (.Constant (.int i) j pos) (gc (.int i)) := .mk fun B δ => pe_int.imp fun σ H Q ⟨d, en, h, k⟩ => by cases h; exact k _ H (Same.refl H) (by rw [rp_int])
theorem pd_bl {i : Bool} {j : Nat} : PD X (.Constant (.bool i) j pos) (gc (.bl i)) := .mk fun B δ => pe_bl.imp fun σ H Q ⟨d, en, h, k⟩ => by cases h; exact k _ H (Same.refl H) (by rw [rp_bl])
theorem pd_gint {x : Str} {i : Int} (hm : ∃ t, X.mg x = some (.int i t)) (hg : Gl X x := by rfl) (hd : (x == ("__debug__" : Str)) = false := by decide) : PD X (.Name x pos) (gc (.int i)) := .mk fun B δ => by
  obtain ⟨t, hm⟩ := hm
  exact (pe_glob (v := .int i) hg hm ⟨t, rfl⟩ hd).imp fun σ H Q ⟨d, en, h, k⟩ => by cases h; exact k _ H (Same.refl H) (by rw [rp_int])

/-- two values in a row -/
theorem o2_red {K : PySem.W.Frag} {r : R2} {f : D → D → Option D} (hf : Op2 K r f) {B : BS} {δ : Ds} {σ : St} {H : Hp} {Q : VK} (h : tD K B δ (o2 ga gb f) σ H Q) : tOp r (tD K B δ ga) (tD K B δ gb) σ H Q := by
  obtain ⟨d, en, h, k⟩ := h
  unfold o2 at h
  cases e1 : ga δ with
  | none => rw [e1] at h; cases h
  | some x =>
    cases e2 : gb δ with
    | none => rw [e1, e2] at h; cases h
    | some y =>
      rw [e1, e2] at h
      refine ⟨x, en, e1, fun v1 H1 s1 r1 => ⟨y, en.same s1, e2, fun v2 H2 s2 r2 => ?_⟩⟩
      exact hf H2 B v1 v2 x y d Q ((en.same s1).same s2).bad (r1.same s2) r2 h fun v H' s r => k v H' ((s1.trans s2).trans s) r
theorem pd_op {op : Operator} {r : R2} {f : D → D → Option D} (ho : OpR X (binaryOp op) r) (hf : Op2 X.K r f) (ha : PD X a ga) (hb : PD X b gb) : PD X (.BinOp a op b pos) (o2 ga gb f) := .mk fun B δ => (pe_op ho (ha B δ) (hb B δ)).imp fun σ H Q h => o2_red hf h
theorem pd_cmp {op : CmpOp} {r : R2} {f : D → D → Option D} (ho : OpR X (compareOp op) r) (hf : Op2 X.K r f) (ha : PD X a ga) (hb : PD X b gb) (hm : behindInMarks op b = false := by first | exact nomark _ | with_unfolding_all rfl) : PD X (.Compare a [op] [b] pos) (o2 ga gb f) :=
  .mk fun B δ => (pe_cmpR ho (ha B δ) (hb B δ) hm).imp fun σ H Q h => o2_red hf h
theorem ptd_cmp {op : CmpOp} {r : R2} {f : D → D → Option D} (ho : OpR X (compareOp op) r) (hf : Op2 X.K r f) (ha : PD X a ga) (hb : PD X b gb) (hm : behindInMarks op b = false := by first | exact nomark _ | with_unfolding_all rfl) : PTD X (.Compare a [op] [b] pos) (ob (o2 ga gb f)) :=
  .mk fun B δ => (pt_cmpR ho (ha B δ) (hb B δ) hm).imp fun σ H Q ⟨t, en, h, k⟩ => by
    unfold ob at h
    cases e : o2 ga gb f δ with
    | none => rw [e] at h; cases h
    | some d =>
      rw [e] at h
      cases asB_eq h
      exact o2_red hf ⟨_, en, e, fun v H' s r => ⟨t, by rw [rp_bl] at r; exact r, k H' s⟩⟩
theorem ptd_val (h : PD X e g) (he : ∀ whole, isTrue e X.env whole = (do let v ← whole; standAt e.pos; holding [v] (truthy v)) := by intro _; rfl) : PTD X e (ob g) :=
  .mk fun B δ => (pt_val (h B δ) he).imp fun σ H Q ⟨t, en, h, k⟩ => by
    unfold ob at h
    cases e : g δ with
    | none => rw [e] at h; cases h
    | some d =>
      rw [e] at h
      cases asB_eq h
      exact ⟨_, en, e, fun v H' s r => ⟨t, by rw [rp_bl] at r; exact r, k H' s⟩⟩
theorem ptd_not (h : PTD X a gt) : PTD X (.UnaryOp .Not a pos) (tNotG gt) :=
  .mk fun B δ => (pt_not (h B δ)).imp fun σ H Q ⟨t, en, h, k⟩ => by
    unfold tNotG at h
    cases e : gt δ with
    | none => rw [e] at h; cases h
    | some b =>
      rw [e] at h
      cases h
      exact ⟨b, en, e, fun H' s => k H' s⟩
theorem pwd_and1 (h : PTD X a gt) : PWD X (.BoolOp .And [a] pos) gt := .mk fun B δ => pw_and1 (h B δ)
theorem pwd_or1 (h : PTD X a gt) : PWD X (.BoolOp .Or [a] pos) gt := .mk fun B δ => pw_or1 (h B δ)
theorem pwd_and (ha : PTD X a gt) (hb : PWD X (.BoolOp .And (b :: rest) pos) gu) : PWD X (.BoolOp .And (a :: b :: rest) pos) (tAndG gt gu) :=
  .mk fun B δ => (pw_and (ha B δ) (hb B δ)).imp fun σ H Q ⟨t, en, h, k⟩ => by
    unfold tAndG at h
    cases e : gt δ with
    | none => rw [e] at h; cases h
    | some b =>
      rw [e] at h
      refine ⟨b, en, e, fun H' s => ?_⟩
      cases b with
      | true => exact ⟨t, en.same s, h, fun H'' s' => k H'' (s.trans s')⟩
      | false =>
        simp at h
        subst h
        rw [if_neg Bool.false_ne_true]
        exact k H' s
theorem pwd_or (ha : PTD X a gt) (hb : PWD X (.BoolOp .Or (b :: rest) pos) gu) : PWD X (.BoolOp .Or (a :: b :: rest) pos) (tOrG gt gu) :=
  .mk fun B δ => (pw_or (ha B δ) (hb B δ)).imp fun σ H Q ⟨t, en, h, k⟩ => by
    unfold tOrG at h
    cases e : gt δ with
    | none => rw [e] at h; cases h
    | some b =>
      rw [e] at h
      refine ⟨b, en, e, fun H' s => ?_⟩
      cases b with
      | false => exact ⟨t, en.same s, h, fun H'' s' => k H'' (s.trans s')⟩
      | true =>
        simp at h
        subst h
        rw [if_pos rfl]
        exact k H' s
theorem PWD.pt (h : PWD X e gt) : PTD X e gt := .mk fun B δ => (h B δ).pt
/-! ### argument lists, displays, calls -/
theorem pda_nil : PDA X [] nilA := .mk fun B δ => pa_nil.imp fun σ H Q ⟨ds, en, h, k⟩ => by cases h; exact k [] H (Same.refl H) (by rw [rps_nil])
theorem pda_cons (ha : PD X e g) (hr : PDA X es gA) (hs : starEach (e :: es) X.env = (false, eval e X.env) :: starEach es X.env := by rfl) : PDA X (e :: es) (consA g gA) :=
  .mk fun B δ => (pa_cons (ha B δ) (hr B δ) hs).imp fun σ H Q ⟨ds, en, h, k⟩ => by
    unfold consA at h
    cases e1 : g δ with
    | none => rw [e1] at h; cases h
    | some d =>
      cases e2 : gA δ with
      | none => rw [e1, e2] at h; cases h
      | some es' =>
        rw [e1, e2] at h
        cases h
        refine ⟨d, en, e1, fun v H1 s1 r1 => ⟨es', en.same s1, e2, fun vs H2 s2 r2 => k _ H2 (s1.trans s2) ?_⟩⟩
        rw [rps_cons]
        exact ⟨v, vs, rfl, r1.same s2, r2⟩
theorem pd_lst (h : PDA X es gA) : PD X (.List es pos) (lstG gA) :=
  .mk fun B δ => (pe_lst (h B δ)).imp fun σ H Q ⟨d, en, h, k⟩ => by
    unfold lstG at h
    cases e1 : gA δ with
    | none => rw [e1] at h; cases h
    | some ds =>
      rw [e1] at h
      by_cases hl : ds.length ≤ sizeLine
      · simp only [Option.bind_some, if_pos hl] at h
        cases h
        refine ⟨ds, en, e1, fun vs H1 s1 r1 => ⟨by rw [r1.length]; exact hl, fun p hp => k _ _ (s1.trans (same_upd hp)) ?_⟩⟩
        rw [rp_lst]
        exact ⟨p, vs, rfl, .inl ⟨(en.same s1).free hp, .inl upd_same⟩, r1.same (same_upd hp)⟩
      · simp only [Option.bind_some, if_neg hl] at h
        cases h
theorem oA_red {K : PySem.W.Frag} {r : List V → Hp → VK → Prop} {f : List D → Option D} (hf : FnR K r f) {B : BS} {δ : Ds} {σ : St} {H : Hp} {Q : VK} (h : tD K B δ (oA gA f) σ H Q) : tCB r (tDA K B δ gA) σ H Q := by
  obtain ⟨d, en, h, k⟩ := h
  unfold oA at h
  cases e1 : gA δ with
  | none => rw [e1] at h; cases h
  | some ds =>
    rw [e1] at h
    exact ⟨ds, en, e1, fun vs H1 s1 r1 => hf H1 B vs ds d Q (en.same s1).bad r1 h fun v H' s r => k v H' (s1.trans s) r⟩
theorem pd_callB {id : String} {x : Str} {p : Pos} {r : List V → Hp → VK → Prop} {f : List D → Option D} (hc : CallR X (.builtin id) r) (hf : FnR X.K r f) (hm : X.mg x = none) (hv : bootBuiltins x = some (.builtin id)) (ha : PDA X (e :: es) gA) (hg : Gl X x := by rfl)
    (hn : x ≠ "__name__" := by decide) (hdb : (x == ("__debug__" : Str)) = false := by decide) (he : starEach (e :: es) X.env = (false, eval e X.env) :: starEach es X.env := by rfl) (hpl : (backTo pos (starEach es X.env)).any (·.1) = false := by rfl) :
    PD X (.Call (.Name x p) (e :: es) [] pos) (oA gA f) := .mk fun B δ => (pe_callB hc hg hm hv (ha B δ) hn hdb he hpl).imp fun σ H Q h => oA_red hf h
/-- a def's promise, by data -/
def spD (K : PySem.W.Frag) (f : List D → Option D) : Sp := fun vs H Q _ => ∃ (B : BS) (ds : List D) (d : D), (∀ a, B a → H a ≠ none) ∧ Rps K H B ds vs ∧ f ds = some d ∧ ∀ v H', Same H H' → Rp K H' B d v → Q v H'
theorem pd_call {k : Nat} {fa : Addr} {fd : FuncData} {ps : List Str} {x : Str} {p : Pos} {f : List D → Option D} (F : FnOk X.prog X.w X.K X.mg X.base CX0 k fa fd ps (spD X.K f)) (hr : Room k X.A) (hm : X.mg x = some (.ref fa)) (hk : PySem.W.keepIn X.K (.ref fa) = true) (hb : Binds X.K fd ps [])
    (ha : PDA X (e :: es) gA) (hg : Gl X x := by rfl) (hdb : (x == ("__debug__" : Str)) = false := by decide) (he : starEach (e :: es) X.env = (false, eval e X.env) :: starEach es X.env := by rfl) (hpl : (backTo pos (starEach es X.env)).any (·.1) = false := by rfl) :
    PD X (.Call (.Name x p) (e :: es) [] pos) (oA gA f) := .mk fun B δ => (pe_call (E := E0) F hr hg hm hk hb .nil pass0 (ha B δ) hdb he hpl).imp fun σ H Q h => by
  obtain ⟨d, en, h, k⟩ := h
  unfold oA at h
  cases e1 : gA δ with
  | none => rw [e1] at h; cases h
  | some ds =>
    rw [e1] at h
    refine ⟨ds, en, e1, fun vs H1 s1 r1 => ?_⟩
    show spD X.K f (vs ++ []) H1 Q E0
    rw [List.append_nil]
    exact ⟨B, ds, d, (en.same s1).bad, r1, h, fun v H' s r => k v H' (s1.trans s) r⟩
end
end DL
namespace DL
open PySem PySem.Spec PyProof.Rows L2

/-! ### statements -/
structure EnvS (K : PySem.W.Frag) (H₀ : Hp) (B₀ : BS) (H : Hp) (σ : St) (δ : Ds) : Prop where
  same : Same H₀ H
  ex : ∃ B : BS, (∀ a, B₀ a → B a) ∧ (∀ a, B a → B₀ a ∨ H₀ a = none) ∧ Env K H B σ δ
  fr : ∀ (i : Nat) (ds : D) (a : Addr), δ[i]? = some (.ow ds) → σ[i]? = some (some (.ref a)) → H₀ a = none
  b0 : ∀ a, B₀ a → H₀ a ≠ none
def ResK (K : PySem.W.Frag) (H₀ : Hp) (B₀ : BS) (D : Ends) : Res → Prop
  | .nx δ => ∀ σ H, EnvS K H₀ B₀ H σ δ → D.nx σ H
  | .rt d => ∀ v H, Same H₀ H → Rp K H B₀ d v → D.rt v H
  | .bk δ => ∀ σ H, EnvS K H₀ B₀ H σ δ → D.bk σ H
  | .ct δ => ∀ σ H, EnvS K H₀ B₀ H σ δ → D.ct σ H
  | .rf d => ∀ p H, H₀ p = none → Same H₀ H → RpO K H (fun a => B₀ a ∨ a = p) d p → D.rt (.ref p) H
def tDS (K : PySem.W.Frag) (H₀ : Hp) (B₀ : BS) (δ : Ds) (G : Ds → Option Res) : TS := fun D σ H => ∃ r, EnvS K H₀ B₀ H σ δ ∧ G δ = some r ∧ ResK K H₀ B₀ D r
structure PSD (X : Cx) (st : Stmt) (G : Ds → Option Res) : Prop where
  mk :: go : ∀ H₀ B₀ δ, PS X st (tDS X.K H₀ B₀ δ G)
instance {X : Cx} {st : Stmt} {G : Ds → Option Res} : CoeFun (PSD X st G) (fun _ => ∀ H₀ B₀ δ, PS X st (tDS X.K H₀ B₀ δ G)) := ⟨PSD.go⟩
structure PSsD (X : Cx) (st : List Stmt) (G : Ds → Option Res) : Prop where
  mk :: go : ∀ H₀ B₀ δ, PSs X st (tDS X.K H₀ B₀ δ G)
instance {X : Cx} {st : List Stmt} {G : Ds → Option Res} : CoeFun (PSsD X st G) (fun _ => ∀ H₀ B₀ δ, PSs X st (tDS X.K H₀ B₀ δ G)) := ⟨PSsD.go⟩
section
variable {K : PySem.W.Frag} {H₀ H H' : Hp} {B₀ : BS} {σ : St} {δ : Ds}
theorem EnvS.grow (e : EnvS K H₀ B₀ H σ δ) (s : Same H H') : EnvS K H₀ B₀ H' σ δ := ⟨e.same.trans s, let ⟨B, b1, b2, en⟩ := e.ex; ⟨B, b1, b2, en.same s⟩, e.fr, e.b0⟩
end

/-- a target: which slots it writes -/
structure Wr (idx : List Nat) (σ σ' : St) (δ δ' : Ds) : Prop where
  len : σ'.length = σ.length
  oth : ∀ j, j ∉ idx → σ'[j]? = σ[j]? ∧ δ'[j]? = δ[j]?
  own : ∀ j ∈ idx, ∀ ds, δ'[j]? ≠ some (.ow ds)
def tDG (K : PySem.W.Frag) (idx : List Nat) (f : D → Ds → Option Ds) (B : BS) (d : D) (δ : Ds) : TG := fun v σ H Q => ∃ δ', Rp K H B d v ∧ Env K H B σ δ ∧ f d δ = some δ' ∧ ∀ σ', Wr idx σ σ' δ δ' → Env K H B σ' δ' → Q σ' H
structure PGD (X : Cx) (tg : Expr) (idx : List Nat) (f : D → Ds → Option Ds) : Prop where
  mk :: go : ∀ B d δ, PG X tg (tDG X.K idx f B d δ)
instance {X : Cx} {tg : Expr} {idx : List Nat} {f : D → Ds → Option Ds} : CoeFun (PGD X tg idx f) (fun _ => ∀ B d δ, PG X tg (tDG X.K idx f B d δ)) := ⟨PGD.go⟩
theorem _root_.L2.PG.imp {X : Cx} {tg : Expr} {t t' : TG} (h : PG X tg t) (q : ∀ v σ H Q, t' v σ H Q → t v σ H Q) : PG X tg t' := fun pins s σ H v u Q I r z => h pins s σ H v u Q I r (q v σ H Q z)
theorem wr_set {σ : St} {δ : Ds} {i : Nat} {v : V} {d : D} : Wr [i] σ (σ.set i (some v)) δ (δ.set i (.sh d)) := by
  refine ⟨by simp, fun j hj => ?_, fun j hj ds h => ?_⟩
  · have : j ≠ i := by simpa using hj
    rw [List.getElem?_set_ne (Ne.symm this), List.getElem?_set_ne (Ne.symm this)]
    exact ⟨rfl, rfl⟩
  · have : j = i := by simpa using hj
    subst this
    by_cases hl : j < δ.length
    · rw [List.getElem?_set_self hl] at h; cases h
    · rw [List.getElem?_eq_none (by simpa using hl)] at h; cases h
theorem pgd_name (i : Nat) {X : Cx} {x : Str} {pos : Pos} (hN : X.N.Nodup) (hi : X.N[i]? = some x := by rfl) (hx : Loc X.env.scope x := by first | exact Or.inl rfl | exact Or.inr rfl)
    (hf : X.fn x = true ∨ X.env.scope.names.lookup x = some .local := by first | exact .inl rfl | exact .inr rfl | assumption) : PGD X (.Name x pos) [i] (gN i) := .mk fun B d δ => (pg_name (i := i) hN hi hx hf).imp fun v σ H Q ⟨δ', r, en, e, k⟩ => by
  cases e
  exact k _ wr_set (en.set i r)

section
variable {X : Cx} {e tg : Expr} {st : Stmt} {rest : List Stmt} {pos : Pos} {g : Ds → Option D} {G G1 G2 Ga Gb : Ds → Option Res} {gt : Ds → Option Bool} {c : Expr} {as bs body : List Stmt}
theorem PSD.imp (h : PSD X st G) (q : ∀ δ r, G1 δ = some r → G δ = some r) : PSD X st G1 := .mk fun H₀ B₀ δ pins s σ H D I ⟨r, en, e, k⟩ => h H₀ B₀ δ pins s σ H D I ⟨r, en, q δ r e, k⟩
theorem pssd_nil : PSsD X [] nilD := .mk fun H₀ B₀ δ pins s σ H D I ⟨r, en, e, k⟩ => by
  cases e
  exact pss_nil pins s σ H D I (k σ H en)
theorem pssd_cons (h1 : PSD X st G1) (h2 : PSsD X rest G2) : PSsD X (st :: rest) (seqD G1 G2) := .mk fun H₀ B₀ δ pins s σ H D I ⟨r, en, e, k⟩ => by
  unfold seqD at e
  cases e1 : G1 δ with
  | none => rw [e1] at e; cases e
  | some r1 =>
    rw [e1] at e
    cases r1 with
    | nx δ' => exact pss_cons (h1 H₀ B₀ δ) (h2 H₀ B₀ δ') pins s σ H D I ⟨_, en, e1, fun σ' H' en' => ⟨r, en', e, k⟩⟩
    | rt d => cases e; exact pss_cons (h1 H₀ B₀ δ) pss_never pins s σ H D I ⟨_, en, e1, k⟩
    | bk δ' => cases e; exact pss_cons (h1 H₀ B₀ δ) pss_never pins s σ H D I ⟨_, en, e1, k⟩
    | ct δ' => cases e; exact pss_cons (h1 H₀ B₀ δ) pss_never pins s σ H D I ⟨_, en, e1, k⟩
    | rf d => cases e; exact pss_cons (h1 H₀ B₀ δ) pss_never pins s σ H D I ⟨_, en, e1, k⟩
theorem psd_ret (h : PD X e g) : PSD X (.Return (some e) pos) (retD g) := .mk fun H₀ B₀ δ pins s σ H D I ⟨r, en, e1, k⟩ => by
  unfold retD at e1
  obtain ⟨B, b1, b2, env⟩ := en.ex
  cases e2 : g δ with
  | none => rw [e2] at e1; cases e1
  | some d =>
    rw [e2] at e1
    cases e1
    exact ps_ret (h B δ) pins s σ H D I ⟨d, env, e2, fun v H' s' r => k v H' (en.same.trans s') (r.mono (Gr.less b1))⟩
theorem EnvS.wr {K : PySem.W.Frag} {H₀ H H' : Hp} {B₀ B : BS} {σ σ' : St} {δ δ' : Ds} {idx : List Nat} (e : EnvS K H₀ B₀ H σ δ) (b1 : ∀ a, B₀ a → B a) (b2 : ∀ a, B a → B₀ a ∨ H₀ a = none) (s : Same H H') (w : Wr idx σ σ' δ δ') (en : Env K H' B σ' δ') : EnvS K H₀ B₀ H' σ' δ' := by
  refine ⟨e.same.trans s, ⟨B, b1, b2, en⟩, fun i ds a h1 h2 => ?_, e.b0⟩
  by_cases hi : i ∈ idx
  · exact absurd h1 (w.own i hi ds)
  · rw [(w.oth i hi).2] at h1
    rw [(w.oth i hi).1] at h2
    exact e.fr i ds a h1 h2
theorem psd_asg {idx : List Nat} {f : D → Ds → Option Ds} (h : PD X e g) (hg : PGD X tg idx f) (hs : swapsWithSole [tg] e pos.line X.env = pure false := by rfl) (hw : swappedStores [tg] e X.env = pure none := by rfl)
    (h1 : (assignEach [tg] X.env).map (·.2) = [assign tg X.env] := by rfl) : PSD X (.Assign [tg] e pos) (setD f g) := .mk fun H₀ B₀ δ pins s σ H D I ⟨r, en, e1, k⟩ => by
  unfold setD at e1
  obtain ⟨B, b1, b2, env⟩ := en.ex
  cases e2 : g δ with
  | none => rw [e2] at e1; cases e1
  | some d =>
    rw [e2] at e1
    simp only [Option.bind_some] at e1
    cases e3 : f d δ with
    | none => rw [e3] at e1; cases e1
    | some δ' =>
      rw [e3] at e1
      cases e1
      exact ps_asg (h B δ) (hg B d δ) hs hw h1 pins s σ H D I ⟨d, env, e2, fun v H' s' r => ⟨δ', r, env.same s', e3, fun σ' w en' => k σ' H' (en.wr b1 b2 s' w en')⟩⟩
theorem psd_if (hc : PTD X c gt) (ha : PSsD X as Ga) (hb : PSsD X bs Gb) : PSD X (.If c as bs pos) (ifD gt Ga Gb) := .mk fun H₀ B₀ δ pins s σ H D I ⟨r, en, e1, k⟩ => by
  unfold ifD at e1
  obtain ⟨B, b1, b2, env⟩ := en.ex
  cases e2 : gt δ with
  | none => rw [e2] at e1; cases e1
  | some t =>
    rw [e2] at e1
    refine ps_if (hc B δ) (ha H₀ B₀ δ) (hb H₀ B₀ δ) pins s σ H D I ⟨t, env, e2, fun H' s' => ?_⟩
    cases t with
    | true => exact ⟨r, en.grow s', e1, k⟩
    | false => exact ⟨r, en.grow s', e1, k⟩
/-! ### what is walked -/
/-- J yields the data items, at every heap that still holds all of H₁ off B -/
structure ItD (K : PySem.W.Frag) (B : BS) (J : It) (items : List D) (H₁ : Hp) : Prop where
  go : ∀ i H, Gr H₁ H B B → i < items.length → J.go i H
  yld : ∀ i H x H', Gr H₁ H B B → J.yld i H x H' → i < items.length → Same H H' ∧ ∃ d, items[i]? = some d ∧ ∀ B' : BS, Gr H₁ H' B B' → (∀ a, B' a → H a ≠ none) → Rp K H' B' d x
  stop : ∀ i H, Gr H₁ H B B → items.length ≤ i → J.stop i H
def tDI (K : PySem.W.Frag) (B : BS) (δ : Ds) (g : Ds → Option (List D)) : TI := fun σ H R => ∃ items, Env K H B σ δ ∧ g δ = some items ∧ ∀ J H', Same H H' → ItD K B J items H' → R J H'
structure PID (X : Cx) (tg e : Expr) (g : Ds → Option (List D)) : Prop where
  mk :: go : ∀ B δ, PI X tg e (tDI X.K B δ g)
instance {X : Cx} {tg e : Expr} {g : Ds → Option (List D)} : CoeFun (PID X tg e g) (fun _ => ∀ B δ, PI X tg e (tDI X.K B δ g)) := ⟨PID.go⟩
theorem _root_.L2.PI.imp {t t' : TI} (h : PI X tg e t) (q : ∀ σ H R, t' σ H R → t σ H R) : PI X tg e t' := fun pins s σ H R I z => h pins s σ H R I (q σ H R z)
theorem pid_list (h : PD X e g) : PID X tg e (lstI g) := .mk fun B δ => L2.PI.imp (pi_list (h B δ)) fun σ H R ⟨items, en, e1, k⟩ => by
  unfold lstI at e1
  cases e2 : g δ with
  | none => rw [e2] at e1; cases e1
  | some d =>
    rw [e2] at e1
    cases d <;> simp [asLst] at e1
    subst e1
    refine ⟨_, en, e2, fun v H' s' r => ?_⟩
    rw [rp_lst] at r
    obtain ⟨a, xs, rfl, q, rs⟩ := r
    refine ⟨a, rfl, ⟨xs, q.to⟩, k _ H' s' ⟨fun i H2 g2 hi => ?_, fun i H2 x H3 g2 y hi => ?_, fun i H2 g2 hi => ?_⟩⟩
    · have : i < xs.length := by rw [rs.length]; exact hi
      exact ⟨xs, xs[i], (q.mono g2).to, by simp [this]⟩
    · obtain ⟨e3, y⟩ := y
      obtain ⟨x', e4, r'⟩ := rs.get (i := i) (d := _) (List.getElem?_eq_getElem hi)
      have := y xs (q.mono g2).to
      rw [e4] at this
      cases this
      subst e3
      exact ⟨Same.refl _, _, List.getElem?_eq_getElem hi, fun B' gB _ => r'.mono gB⟩
    · exact ⟨xs, (q.mono g2).to, by rw [rs.length]; exact hi⟩
theorem rngD_len (lo hi : Int) : (rngD lo hi).length = (hi - lo).toNat := by simp [rngD]
theorem itd_rng {K : PySem.W.Frag} {B : BS} {H : Hp} (lo hi : Int) : ItD K B (Itr lo (hi - lo).toNat) (rngD lo hi) H := by
  refine ⟨fun i H2 g2 hi => ?_, fun i H2 x H3 g2 y hi => ?_, fun i H2 g2 hi => ?_⟩
  · rw [rngD_len] at hi; exact hi
  · obtain ⟨e3, rfl⟩ := y
    rw [rngD_len] at hi
    subst e3
    exact ⟨Same.refl _, .int (lo + i), by simp [rngD, hi], fun B' gB _ => by rw [rp_int]⟩
  · rw [rngD_len] at hi; exact hi
theorem pid_range1 {a : Expr} {gA : Ds → Option (List D)} {p : Pos} (hm : X.mg "range" = none) (ha : PDA X [a] gA) (hg : Gl X "range" := by rfl) (hs : starEach [a] X.env = [(false, eval a X.env)] := by rfl) : PID X tg (.Call (.Name "range" p) [a] [] pos) (rng1I gA) :=
  .mk fun B δ => L2.PI.imp (pi_range1 hg hm (ha B δ) hs) fun σ H R ⟨items, en, e1, k⟩ => by
  unfold rng1I at e1
  cases e2 : gA δ with
  | none => rw [e2] at e1; cases e1
  | some ds =>
    rw [e2] at e1
    simp only [Option.bind_some] at e1
    unfold rng1D at e1
    split at e1
    · split at e1
      · rename_i j hj
        cases e1
        refine ⟨_, en, e2, fun vs H' s' r => ?_⟩
        rw [rps_cons] at r
        obtain ⟨x, t, rfl, r1, r2⟩ := r
        rw [rps_nil] at r2
        subst r2
        rw [rp_int] at r1
        subst r1
        refine ⟨j, rfl, hj.1, hj.2, k _ H' s' ?_⟩
        have := itd_rng (K := X.K) (B := B) (H := H') 0 j
        rw [Int.sub_zero] at this
        exact this
      · cases e1
    · cases e1
/-! ### for -/
theorem EnvS.lower {K : PySem.W.Frag} {H₀ H₁ H : Hp} {B₀ : BS} {σ : St} {δ : Ds} (e : EnvS K H₁ B₀ H σ δ) (s : Same H₀ H₁) (b0 : ∀ a, B₀ a → H₀ a ≠ none) : EnvS K H₀ B₀ H σ δ := by
  obtain ⟨B, b1, b2, en⟩ := e.ex
  exact ⟨s.trans e.same, ⟨B, b1, fun a z => (b2 a z).imp id fun q => s.free q, en⟩, fun i ds a h1 h2 => s.free (e.fr i ds a h1 h2), b0⟩
open Classical in
theorem psd_for {iter : Expr} {gi : Ds → Option (List D)} {idx : List Nat} {f : D → Ds → Option Ds} (hp : PassesOwn (model X.prog X.w) X.A X.env X.xe) (hc : X.calm = true) (hi : PID X tg iter gi) (hg : PGD X tg idx f) (hb : PSsD X body G)
    (hs : ∀ x, foldedSetIterable iter X.env x = pure x := by intro _; rfl) : PSD X (.For tg iter body [] pos) (forG gi f G) := .mk fun H₀ B₀ δ pins s σ H D I ⟨r, en, e1, k⟩ => by
  unfold forG at e1
  obtain ⟨B, b1, b2, env⟩ := en.ex
  cases e2 : gi δ with
  | none => rw [e2] at e1; cases e1
  | some items =>
    rw [e2] at e1
    simp only [Option.bind_some] at e1
    have hg' : PG X tg (fun v σ H Q => ∃ B d δ, tDG X.K idx f B d δ v σ H Q) := fun pins s σ H v u Q I r ⟨B, d, δ, h⟩ => hg B d δ pins s σ H v u Q I r h
    have hb' : PSs X body (fun D σ H => ∃ H₀ B₀ δ, tDS X.K H₀ B₀ δ G D σ H) := fun pins s σ H D I ⟨H₀, B₀, δ, h⟩ => hb H₀ B₀ δ pins s σ H D I h
    refine ps_for hp hc (hi B δ) hg' hb' hs pins s σ H D I ⟨items, env, e2, fun J H1 s1 it => ?_⟩
    -- the heap at the loop's start, without the lists that the body owns
    obtain ⟨Hh, hHh⟩ : ∃ Hh : Hp, Hh = fun b => if B b ∧ ¬ B₀ b then none else H1 b := ⟨_, rfl⟩
    have hoff : ∀ b, ¬ B b → Hh b = H1 b := fun b n => by rw [hHh]; exact if_neg fun z => n z.1
    have hown : ∀ b, B b → ¬ B₀ b → Hh b = none := fun b n n' => by rw [hHh]; exact if_pos ⟨n, n'⟩
    have hin : ∀ b, B₀ b → Hh b = H1 b := fun b n => by rw [hHh]; exact if_neg fun z => z.2 n
    have hle : Same Hh H1 := fun b o h => by
      by_cases z : B b ∧ ¬ B₀ b
      · rw [hown b z.1 z.2] at h; cases h
      · rw [hHh] at h
        have h' : (if B b ∧ ¬ B₀ b then none else H1 b) = some o := h
        rw [if_neg z] at h'
        exact h'
    have hS : Same H₀ Hh := fun b o h => by
      have h1 := s1 b o (en.same b o h)
      by_cases z : B b
      · rcases b2 b z with q | q
        · rw [hin b q]; exact h1
        · rw [h] at q; cases q
      · rw [hoff b z]; exact h1
    have env1 := env.same s1
    have start : EnvS X.K Hh B₀ H1 σ δ := by
      refine ⟨hle, ⟨B, b1, fun a z => ?_, env1⟩, fun i ds a h1 h2 => ?_, fun a z => ?_⟩
      · by_cases q : B₀ a
        · exact .inl q
        · exact .inr (hown a z q)
      · have hn := en.fr i ds a h1 h2
        have nb : ¬ B₀ a := fun z => en.b0 a z hn
        obtain ⟨o, e3, a', e4, hB, _⟩ := Pd.get env1.all h1
        rw [h2] at e3
        cases e3
        cases e4
        exact hown a hB nb
      · rw [hin a z]
        exact env1.bad a (b1 a z)
    refine ⟨fun i m σ H => m = items.length - i ∧ i ≤ items.length ∧ ∃ δi, EnvS X.K Hh B₀ H σ δi ∧ forD f G (items.drop i) δi = some r, ⟨_, rfl, Nat.zero_le _, δ, start, e1⟩, ?_⟩
    rintro i m σi Hi ⟨rfl, hil, δi, eni, ei⟩
    have gr : Gr H1 Hi B B := fun b o n h => ⟨n, eni.same b o (by rw [hoff b n]; exact h)⟩
    by_cases hlt : i < items.length
    · refine .inr ⟨it.go i Hi gr hlt, fun σ' H' => ∃ δn, EnvS X.K Hh B₀ H' σ' δn ∧ forD f G (items.drop (i + 1)) δn = some r, fun σ' H' ⟨δn, en', e'⟩ => ⟨items.length - (i + 1), by omega, rfl, hlt, δn, en', e'⟩, fun x H' y => ?_⟩
      obtain ⟨sm, d, hd, rd⟩ := it.yld i Hi x H' gr y hlt
      obtain ⟨B', c1, c2, env0⟩ := eni.ex
      have rd' : Rp X.K H' B' d x := rd B' (fun b o n h => by
        have h' : Hh b = some o := by rw [hoff b n]; exact h
        refine ⟨fun z => ?_, sm b o (eni.same b o h')⟩
        rcases c2 b z with q | q
        · exact n (b1 b q)
        · rw [h'] at q; cases q) env0.bad
      have env' := env0.same sm
      replace eni := eni.grow sm
      have hdrop : items.drop i = d :: items.drop (i + 1) := by
        rw [List.drop_eq_getElem_cons hlt]
        congr 1
        rw [List.getElem?_eq_getElem hlt] at hd
        exact Option.some.inj hd
      rw [hdrop] at ei
      unfold forD at ei
      cases e3 : f d δi with
      | none => rw [e3] at ei; cases ei
      | some δ2 =>
        rw [e3] at ei
        simp only [Option.bind_some] at ei
        refine ⟨B', d, δi, δ2, rd', env', e3, fun σ' w en' => ?_⟩
        have enb : EnvS X.K Hh B₀ H' σ' δ2 := eni.wr c1 c2 (Same.refl _) w en'
        cases e4 : G δ2 with
        | none => rw [e4] at ei; cases ei
        | some rb =>
          rw [e4] at ei
          refine ⟨Hh, B₀, δ2, rb, enb, e4, ?_⟩
          cases rb with
          | nx δn => exact fun σ' H' en' => ⟨δn, en', ei⟩
          | ct δn => exact fun σ' H' en' => ⟨δn, en', ei⟩
          | bk δn =>
            cases ei
            exact fun σ' H' en' => k σ' H' (en'.lower hS en.b0)
          | rt d' =>
            cases ei
            exact fun v H' s' r' => k v H' (hS.trans s') r'
          | rf d' =>
            cases ei
            exact fun p H' hp s' r' => k p H' (hS.free hp) (hS.trans s') r'
    · have e : i = items.length := by omega
      subst e
      refine .inl ⟨it.stop _ Hi gr (Nat.le_refl _), ?_⟩
      rw [List.drop_length] at ei
      cases ei
      exact k σi Hi (eni.lower hS en.b0)

/-! ### comprehensions -/
structure PFD (X : Cx) (ifs : List Expr) (g : Ds → Option Bool) : Prop where
  mk :: go : ∀ B δ, PF X ifs (tDT X.K B δ g)
instance {X : Cx} {ifs : List Expr} {g : Ds → Option Bool} : CoeFun (PFD X ifs g) (fun _ => ∀ B δ, PF X ifs (tDT X.K B δ g)) := ⟨PFD.go⟩
theorem rep_un {K : PySem.W.Frag} {H : Hp} {B : BS} : ∀ n : Nat, Paired (SlR K H B) (List.replicate n (none : Option V)) (List.replicate n Sl.un)
  | 0 => .nil
  | n + 1 => .cons trivial (rep_un n)
theorem SlR.gr {K : PySem.W.Frag} {H H' : Hp} {B B' : BS} {o : Option V} {s : Sl} (g : Gr H H' B B') (no : ∀ ds, s ≠ .ow ds) (h : SlR K H B o s) : SlR K H' B' o s := by
  cases s with
  | un => trivial
  | sh d => obtain ⟨v, e, r⟩ := h; exact ⟨v, e, r.mono g⟩
  | ow ds => exact absurd rfl (no ds)
  | ex c n => obtain ⟨a, e, r⟩ := h; exact ⟨a, e, r.mono g⟩
/-- a new list or dict -/
def tDF (K : PySem.W.Frag) (B : BS) (δ : Ds) (g : Ds → Option D) : TE := fun σ H Q => ∃ d, Env K H B σ δ ∧ g δ = some d ∧ ∀ p H', H p = none → Same H H' → RpO K H' (fun a => B a ∨ a = p) d p → Q (.ref p) H'
structure PDF (X : Cx) (e : Expr) (g : Ds → Option D) : Prop where
  mk :: go : ∀ B δ, PE X e (tDF X.K B δ g)
instance {X : Cx} {e : Expr} {g : Ds → Option D} : CoeFun (PDF X e g) (fun _ => ∀ B δ, PE X e (tDF X.K B δ g)) := ⟨PDF.go⟩
theorem tD.toF {K : PySem.W.Frag} {B : BS} {δ : Ds} {g : Ds → Option D} {σ : St} {H : Hp} {Q : VK} (h : tD K B δ g σ H Q) : tDF K B δ g σ H Q := by
  obtain ⟨d, en, e, k⟩ := h
  exact ⟨d, en, e, fun p H' hp s r => k _ H' s (r.rp (fun a z => .inl z) (en.free hp))⟩
theorem PDF.pd {X : Cx} {e : Expr} {g : Ds → Option D} (h : PDF X e g) : PD X e g := .mk fun B δ => (h B δ).imp fun σ H Q z => z.toF
end

/-! ### a def, by data -/
theorem start_rel {K : PySem.W.Frag} {H : Hp} {B : BS} {N : List Str} : ∀ {ds : List D} {vs : List V}, Rps K H B ds vs → Paired (SlR K H B) (vs.map some) (ds.map Sl.sh)
  | [], _, h => by rw [rps_nil] at h; subst h; exact .nil
  | d :: ds, _, h => by
    rw [rps_cons] at h
    obtain ⟨x, r, rfl, h1, h2⟩ := h
    exact .cons ⟨x, rfl, h1⟩ (start_rel (N := N) h2)
theorem dStart_ow {N : List Str} {ds : List D} {i : Nat} {es : D} (h : (dStart N ds)[i]? = some (.ow es)) : False := by
  unfold dStart at h
  by_cases hi : i < ds.length
  · rw [List.getElem?_append_left (by simpa using hi), List.getElem?_map] at h
    cases q : ds[i]? with
    | none => rw [q] at h; cases h
    | some d => rw [q] at h; cases h
  · rw [List.getElem?_append_right (by simpa using hi), List.getElem?_replicate] at h
    split at h <;> cases h
section
variable {P : Program} {w : World} {K : PySem.W.Frag} {mg : Str → Option Value} {base : Heap}
theorem okD {x qual : Str} {st : Stmt} {fa : Addr} {fd : FuncData} {N ps : List Str} {k : Nat} {f : List D → Option D} {G : Ds → Option Res} (F : Fun K x qual st fa fd) (S : FnScope N ps (defScope st))
    (body : ∀ (cdv : Value) (A : Around) (outer : List PySem.Env) (s : Shared) (H : Hp) (E : XK), Room k (A.deeper (envOfC qual (defScope st) s.heap.objs.size fa cdv)) → PSsD (cxOf CX0 P w K mg base N qual (defScope st) fa cdv A outer s H E).nox (defBody st) G)
    (hf : ∀ ds d, f ds = some d → ds.length = ps.length ∧ (G (dStart N ds) = some (.rt d) ∨ (d = .non ∧ ∃ δ, G (dStart N ds) = some (.nx δ)) ∨ G (dStart N ds) = some (.rf d))) :
    FnOk P w K mg base CX0 (k + 1) fa fd ps (spD K f) := by
  refine F.ok S (fun vs H Q E ⟨B, ds, d, _, r, h, _⟩ => ?_) (fun cdv A outer s H vs Q E hr ⟨B, ds, d, hb, r, h, q⟩ => ?_)
  · rw [r.length]; exact (hf ds d h).1
  · refine ⟨_, body cdv A outer s H E hr H B (dStart N ds), ?_⟩
    have en : EnvS K H B H (L2.start N vs) (dStart N ds) := by
      refine ⟨Same.refl H, ⟨B, fun _ z => z, fun _ z => .inl z, ⟨?_, hb, fun i j a ds' es h1 _ _ _ => (dStart_ow h1).elim⟩⟩, fun i ds' a h1 _ => (dStart_ow h1).elim, hb⟩
      unfold L2.start dStart
      rw [r.length]
      exact Pd.app (start_rel (N := N) r) (rep_un _)
    rcases (hf ds d h).2 with e | ⟨rfl, δ, e⟩ | e
    · exact ⟨_, en, e, fun v H' s' r' => q v H' s' r'⟩
    · exact ⟨_, en, e, fun σ' H' en' => q .non H' en'.same (by rw [rp_non])⟩
    · exact ⟨_, en, e, fun p H' hp s' r' => q _ H' s' (r'.rp (fun a z => .inl z) (fun z => hb p z hp))⟩
/-- a def that gives back a new list or dict -/
def spN (K : PySem.W.Frag) (f : List D → Option D) : Sp := fun vs H Q _ => ∃ (B : BS) (ds : List D) (d : D), (∀ a, B a → H a ≠ none) ∧ Rps K H B ds vs ∧ f ds = some d ∧ ∀ p H', H p = none → Same H H' → RpO K H' (fun a => B a ∨ a = p) d p → Q (.ref p) H'
theorem okN {x qual : Str} {st : Stmt} {fa : Addr} {fd : FuncData} {N ps : List Str} {k : Nat} {f : List D → Option D} {G : Ds → Option Res} (F : Fun K x qual st fa fd) (S : FnScope N ps (defScope st))
    (body : ∀ (cdv : Value) (A : Around) (outer : List PySem.Env) (s : Shared) (H : Hp) (E : XK), Room k (A.deeper (envOfC qual (defScope st) s.heap.objs.size fa cdv)) → PSsD (cxOf CX0 P w K mg base N qual (defScope st) fa cdv A outer s H E).nox (defBody st) G)
    (hf : ∀ ds d, f ds = some d → ds.length = ps.length ∧ G (dStart N ds) = some (.rf d)) :
    FnOk P w K mg base CX0 (k + 1) fa fd ps (spN K f) := by
  refine F.ok S (fun vs H Q E ⟨B, ds, d, _, r, h, _⟩ => ?_) (fun cdv A outer s H vs Q E hr ⟨B, ds, d, hb, r, h, q⟩ => ?_)
  · rw [r.length]; exact (hf ds d h).1
  · refine ⟨_, body cdv A outer s H E hr H B (dStart N ds), ?_⟩
    have en : EnvS K H B H (L2.start N vs) (dStart N ds) := by
      refine ⟨Same.refl H, ⟨B, fun _ z => z, fun _ z => .inl z, ⟨?_, hb, fun i j a ds' es h1 _ _ _ => (dStart_ow h1).elim⟩⟩, fun i ds' a h1 _ => (dStart_ow h1).elim, hb⟩
      unfold L2.start dStart
      rw [r.length]
      exact Pd.app (start_rel (N := N) r) (rep_un _)
    exact ⟨_, en, (hf ds d h).2, fun p H' hp s' r' => q p H' hp s' r'⟩
end
end DL
namespace L2
open PySem PySem.Spec PyProof.Rows
section
variable {X : Cx}
/-! ### all -/
/-! ### join -/
/-! ### slices of a text -/
end
end L2

namespace DL
open PySem PySem.Spec PyProof.Rows L2
/-! ### isinstance -/
def tyD : D → String
  | .non => "NoneType" | .bl _ => "bool" | .int _ => "int" | .str _ => "str" | .tup _ => "tuple" | .lst _ => "list" | .dct _ _ => "dict"
def okT (T : String) (f : D → Bool) : Prop := ∀ (K : PySem.W.Frag) (d : D), PySem.W.kitOne K (.type (tyD d)) (.type T) = some (f d)
theorem okT_int : okT "int" isInt := fun K d => by cases d <;> kernel_rfl
theorem okT_bool : okT "bool" isBool := fun K d => by cases d <;> kernel_rfl
theorem okT_list : okT "list" isLst := fun K d => by cases d <;> kernel_rfl
section
variable {X : Cx}
theorem call_isi {T : String} {f : D → Bool} (hT : okT T f) : CallR X (.builtin "isinstance") (fun xs H Q => ∃ B d x, xs = [x, .ty T] ∧ Rp X.K H B d x ∧ Q (.bl (f d)) H) := by
  intro pins s σ H xs us Q I rs h
  obtain ⟨B, d, x, rfl, r, q⟩ := h
  obtain ⟨u, c, rfl, ru, rc⟩ := rs.two
  obtain rfl : c = Value.type T := rc
  have fin : ∀ tk, EP X pins σ Q (.bool (f d)) { s with toks := tk } := fun tk => ⟨.bl _, H, I.tok tk, rfl, q⟩
  have e := hT X.K d
  cases d with
  | non => rw [rp_non] at r; subst r; cases (show u = Value.none from ru); exact PySem.W.kia_one PySem.W.kitx_none I.kIn True.intro e (fun z => nomatch z) fin
  | bl y => rw [rp_bl] at r; subst r; cases (show u = Value.bool y from ru); exact PySem.W.kia_one PySem.W.kitx_bool I.kIn True.intro e (fun z => nomatch z) fin
  | int i => rw [rp_int] at r; subst r; obtain ⟨t, rfl⟩ := (show ∃ t, u = Value.int i t from ru); exact PySem.W.kia_one PySem.W.kitx_int I.kIn True.intro e (fun z => nomatch z) fin
  | str y => rw [rp_str] at r; subst r; obtain ⟨t, rfl⟩ := (show ∃ t, u = Value.str y t from ru); exact PySem.W.kia_one PySem.W.kitx_str I.kIn True.intro e (fun z => nomatch z) fin
  | tup ds =>
    rw [rp_tup] at r
    obtain ⟨a, xs, rfl, hq, _⟩ := r
    cases (show u = Value.ref a from ru)
    obtain ⟨its, _, p, _⟩ := I.tuple hq.to
    obtain ⟨o, h1, h2, _⟩ := p
    exact PySem.W.kia_one PySem.W.kitx_tuple I.kIn ⟨o, h1, h2⟩ e (fun z => nomatch z) fin
  | lst ds =>
    rw [rp_lst] at r
    obtain ⟨a, xs, rfl, hq, _⟩ := r
    cases (show u = Value.ref a from ru)
    obtain ⟨its, _, p, _⟩ := I.list hq.to
    obtain ⟨o, n, h1, h2, _⟩ := p
    exact PySem.W.kia_one PySem.W.kitx_list I.kIn ⟨o, h1, h2⟩ e (fun z => nomatch z) fin
  | dct ks ds =>
    rw [rp_dctG] at r
    obtain ⟨a, xs, rfl, _, hq, _⟩ := r
    cases (show u = Value.ref a from ru)
    cases ks with
    | inl ks =>
      obtain ⟨_, _, vs, _, p⟩ := (show ObjOk X.prog X.w H s.heap a (.dK (ks.zip xs)) from I.hok a _ hq)
      obtain ⟨o, es, ep, h1, h2, _⟩ := p
      exact PySem.W.kia_one PySem.W.kitx_dict I.kIn ⟨o, h1, h2.1⟩ e (fun z => nomatch z) fin
    | inr ks =>
      obtain ⟨_, _, vs, _, o, es, ep, h1, h2, _⟩ := (show ObjOk X.prog X.w H s.heap a (.dT (ks.zip xs)) from I.hok a _ hq)
      exact PySem.W.kia_one PySem.W.kitx_dict I.kIn ⟨o, h1, h2.1⟩ e (fun z => nomatch z) fin
theorem pd_isi {T : String} {f : D → Bool} {Tn : Str} {e : Expr} {g : Ds → Option D} {p p2 pos : Pos} (hT : okT T f) (hb : bootBuiltins Tn = some (.type T)) (hm : X.mg "isinstance" = none) (hmT : X.mg Tn = none) (h : PD X e g) (hg : Gl X "isinstance" := by rfl) (hgT : Gl X Tn := by rfl)
    (hn : Tn ≠ "__name__" := by decide) (hd : (Tn == ("__debug__" : Str)) = false := by decide)
    (he : starEach [e, .Name Tn p2] X.env = (false, eval e X.env) :: starEach [.Name Tn p2] X.env := by rfl) (he2 : starEach [.Name Tn p2] X.env = (false, eval (.Name Tn p2) X.env) :: starEach [] X.env := by rfl)
    (hpl : (backTo pos (starEach [.Name Tn p2] X.env)).any (·.1) = false := by rfl) :
    PD X (.Call (.Name "isinstance" p) [e, .Name Tn p2] [] pos) (isiG f g) :=
  .mk fun B δ => (pe_callB (call_isi hT) hg hm PyProof.Rows.boot_isinstance (pa_cons (h B δ) (pa_cons (pe_bltn (v := .ty T) hgT hmT hb rfl hn hd) pa_nil he2) he) (by decide) (by decide) he hpl).imp fun σ H Q ⟨d, en, h, k⟩ => by
    unfold isiG at h
    cases e1 : g δ with
    | none => rw [e1] at h; cases h
    | some x =>
      rw [e1] at h
      cases h
      exact ⟨x, en, e1, fun v H1 s1 r1 => ⟨B, x, v, rfl, r1, k _ H1 s1 (by rw [rp_bl])⟩⟩

/-! ### operations -/
theorem op2_ii {K : PySem.W.Frag} {C : Int → Int → Prop} [∀ i j, Decidable (C i j)] {g : Int → Int → V} {g' : Int → Int → D} (hg : ∀ i j H B, Rp K H B (g' i j) (g i j)) : Op2 K (rI C g) (ii fun i j => if C i j then some (g' i j) else none) := by
  intro H B x y dx dy d Q hb rx ry h k
  cases dx <;> cases dy <;> simp only [ii] at h <;> try cases h
  rename_i i j
  split at h
  · cases h
    rw [rp_int] at rx ry
    subst rx ry
    exact ⟨i, j, rfl, rfl, by assumption, k _ H (Same.refl H) (hg i j H B)⟩
  · cases h
theorem op2_i0 {K : PySem.W.Frag} {g : Int → Int → V} {g' : Int → Int → D} (hg : ∀ i j H B, Rp K H B (g' i j) (g i j)) : Op2 K (rI0 g) (ii fun i j => some (g' i j)) := by
  intro H B x y dx dy d Q hb rx ry h k
  cases dx <;> cases dy <;> simp only [ii] at h <;> try cases h
  rename_i i j
  rw [rp_int] at rx ry
  subst rx ry
  exact ⟨i, j, rfl, rfl, k _ H (Same.refl H) (hg i j H B)⟩
instance decDiv (i j : Int) : Decidable (CDiv i j) := inferInstanceAs (Decidable (0 < j ∧ j < 1073741824))
instance decPow (i j : Int) : Decidable (CPow i j) := inferInstanceAs (Decidable (0 ≤ j ∧ j ≤ 1000000 ∧ i.natAbs < 2 ^ 64))
instance decMul (i j : Int) : Decidable (CMul i j) := inferInstanceAs (Decidable ((-(2 ^ 64) < i ∧ i < 2 ^ 64) ∨ (-(2 ^ 64) < j ∧ j < 2 ^ 64)))
variable {e a b : Expr} {pos : Pos} {g ga gb : Ds → Option D}
theorem pd_sub (ha : PD X a ga) (hb : PD X b gb) : PD X (.BinOp a .Sub b pos) (o2 ga gb subD) := pd_op op_sub (op2_i0 (g' := fun i j => .int (i - j)) fun _ _ _ _ => by rw [rp_int]) ha hb
theorem pd_fdiv (ha : PD X a ga) (hb : PD X b gb) : PD X (.BinOp a .FloorDiv b pos) (o2 ga gb fdivD) := pd_op op_fdiv (op2_ii (C := CDiv) (g' := fun i j => .int (i / j)) fun _ _ _ _ => by rw [rp_int]) ha hb
theorem pd_mod (ha : PD X a ga) (hb : PD X b gb) : PD X (.BinOp a .Mod b pos) (o2 ga gb modD) := pd_op op_mod (op2_ii (C := fun _ j => 0 < j) (g' := fun i j => .int (i % j)) fun _ _ _ _ => by rw [rp_int]) ha hb
theorem pd_pow (ha : PD X a ga) (hb : PD X b gb) : PD X (.BinOp a .Pow b pos) (o2 ga gb powD) := pd_op op_pow (op2_ii (C := CPow) (g' := fun i j => .int (i ^ j.toNat)) fun _ _ _ _ => by rw [rp_int]) ha hb
end
end DL
namespace L2
open PySem PySem.Spec PyProof.Rows
section
variable {X : Cx}
/-- list + list, whatever they are -/
def rCatL (K : PySem.W.Frag) : R2 := fun x y H Q => ∃ l b xs zs, x = .ref l ∧ y = .ref b ∧ SqL K H l xs ∧ SqL K H b zs ∧ xs.length + zs.length ≤ sizeLine ∧ ∀ p, H p = none → Q (.ref p) (upd H p (.lst (xs ++ zs)))
theorem op_catL : OpR X (binaryOp .Add) (rCatL X.K) := by
  intro pins s σ H x y v u Q I rx ry h
  obtain ⟨l, b, xs, zs, rfl, rfl, hH, hB, hz, q⟩ := h
  cases rx
  cases ry
  obtain ⟨its, r, p1, z1⟩ := I.list hH
  obtain ⟨its2, r2, p2, z2⟩ := I.list hB
  obtain ⟨⟨cls, dd, data, sl⟩, ho, hc, n, hd⟩ := p1.isList
  obtain ⟨⟨cls2, dd2, data2, sl2⟩, ho2, hc2, n2, hd2⟩ := p2.isList
  simp only at hc hd hc2 hd2
  subst hc hd hc2 hd2
  have e : its.toArray ++ its2.toArray = (its ++ its2).toArray := by simp
  have hsz : its.toArray.size + its2.toArray.size ≤ sizeLine := by
    rw [List.size_toArray, List.size_toArray, ← r.length, ← r2.length]; exact hz
  refine concat_meets ⟨_, ho, rfl⟩ ⟨_, ho2, rfl⟩ noFill_list_add seq_list_add PySem.F.slot_list_add PySem.F.entry_list_add (PySem.F.args_list_add_2 _ _) (list_addW l b its.toArray its2.toArray n n2 dd dd2 sl sl2 hsz) ⟨ho, ho2, ?_⟩
  rw [e]
  exact ⟨.ref _, _, I.lnew (t' := s.toks) (r.append r2) (by rw [List.length_append]; exact hz), rfl, q _ I.fresh⟩
end
end L2
namespace DL
open PySem PySem.Spec PyProof.Rows L2
section
variable {X : Cx} {K : PySem.W.Frag} {e a b : Expr} {es : List Expr} {pos p : Pos} {g ga gb : Ds → Option D} {gA : Ds → Option (List D)}
theorem fresh_not {H : Hp} {B : BS} (hb : ∀ a, B a → H a ≠ none) {p : Addr} (h : H p = none) : ¬ B p := fun z => hb p z h
theorem rp_newL {H : Hp} {B : BS} {p : Addr} {ds : List D} {xs : List V} (hb : ∀ a, B a → H a ≠ none) (h : H p = none) (r : Rps K H B ds xs) : Rp K (upd H p (.lst xs)) B (.lst ds) (.ref p) := by
  rw [rp_lst]
  exact ⟨p, xs, rfl, .inl ⟨fresh_not hb h, .inl upd_same⟩, r.same (same_upd h)⟩
theorem rp_newT {H : Hp} {B : BS} {p : Addr} {ds : List D} {xs : List V} (hb : ∀ a, B a → H a ≠ none) (h : H p = none) (r : Rps K H B ds xs) : Rp K (upd H p (.tup xs)) B (.tup ds) (.ref p) := by
  rw [rp_tup]
  exact ⟨p, xs, rfl, ⟨fresh_not hb h, upd_same⟩, r.same (same_upd h)⟩
/-! ### comparisons -/
theorem op2_lt : Op2 K (rI0 fun i j => .bl (decide (i < j))) ltD := op2_i0 (g' := fun i j => .bl (decide (i < j))) fun _ _ _ _ => by rw [rp_bl]
theorem op2_le : Op2 K (rI0 fun i j => .bl (decide (i ≤ j))) leD := op2_i0 (g' := fun i j => .bl (decide (i ≤ j))) fun _ _ _ _ => by rw [rp_bl]
theorem op2_gt : Op2 K (rI0 fun i j => .bl (decide (j < i))) gtD := op2_i0 (g' := fun i j => .bl (decide (j < i))) fun _ _ _ _ => by rw [rp_bl]
theorem eqS_ok {H : Hp} {B : BS} {x y : V} {dx dy : D} {b : Bool} (rx : Rp K H B dx x) (ry : Rp K H B dy y) (h : eqS dx dy = some b) : scal x y = true ∧ decide (x = y) = b := by
  cases dx <;> cases dy <;> simp only [eqS] at h <;> try cases h
  all_goals
    simp only [rp_non, rp_bl, rp_int, rp_str] at rx ry
    subst rx ry
    refine ⟨rfl, ?_⟩
    simp
theorem op2_eq : Op2 K rEq eqD := by
  intro H B x y dx dy d Q hb rx ry h k
  unfold eqD at h
  cases e : eqS dx dy with
  | none => rw [e] at h; cases h
  | some b =>
    rw [e] at h
    cases h
    obtain ⟨h1, h2⟩ := eqS_ok rx ry e
    exact ⟨h1, by rw [h2]; exact k _ H (Same.refl H) (by rw [rp_bl])⟩
theorem op2_ne : Op2 K rNe neD := by
  intro H B x y dx dy d Q hb rx ry h k
  unfold neD at h
  cases e : eqS dx dy with
  | none => rw [e] at h; cases h
  | some b =>
    rw [e] at h
    cases h
    obtain ⟨h1, h2⟩ := eqS_ok rx ry e
    exact ⟨h1, by rw [h2]; exact k _ H (Same.refl H) (by rw [rp_bl])⟩
/-! ### places -/
/-! ### slices -/
structure PDO (X : Cx) (e : Option Expr) (g : Ds → Option (Option Int)) : Prop where
  mk :: go : ∀ B δ, PO X e (fun σ H Q => ∃ o, Env X.K H B σ δ ∧ g δ = some o ∧ ∀ H', Same H H' → Q o H')
instance {X : Cx} {e : Option Expr} {g : Ds → Option (Option Int)} : CoeFun (PDO X e g) (fun _ => ∀ B δ, PO X e (fun σ H Q => ∃ o, Env X.K H B σ δ ∧ g δ = some o ∧ ∀ H', Same H H' → Q o H')) := ⟨PDO.go⟩
/-! ### built-in functions -/
theorem rps_one {H : Hp} {B : BS} {d : D} {xs : List V} (h : Rps K H B [d] xs) : ∃ v, xs = [v] ∧ Rp K H B d v := by
  rw [rps_cons] at h
  obtain ⟨x, r, rfl, h1, h2⟩ := h
  rw [rps_nil] at h2
  subst h2
  exact ⟨x, rfl, h1⟩
theorem fn_len : FnR K (fun xs H Q => (∃ z, xs = [.str z] ∧ z.length ≤ sizeLine ∧ Q (.int z.length) H) ∨ ∃ p ys, xs = [.ref p] ∧ (SqL K H p ys ∨ SqT K H p ys) ∧ Q (.int ys.length) H) lenD := by
  intro H B xs ds d Q hb r h k
  unfold lenD at h
  split at h
  · split at h
    · cases h
      obtain ⟨v, rfl, r1⟩ := rps_one r
      rw [rp_str] at r1
      subst r1
      exact .inl ⟨_, rfl, by assumption, k _ H (Same.refl H) (by rw [rp_int])⟩
    · cases h
  · cases h
    obtain ⟨v, rfl, r1⟩ := rps_one r
    rw [rp_lst] at r1
    obtain ⟨a, ys, rfl, q, rr⟩ := r1
    exact .inr ⟨a, ys, rfl, .inl q.to, k _ H (Same.refl H) (by rw [rp_int, rr.length])⟩
  · cases h
    obtain ⟨v, rfl, r1⟩ := rps_one r
    rw [rp_tup] at r1
    obtain ⟨a, ys, rfl, q, rr⟩ := r1
    exact .inr ⟨a, ys, rfl, .inr q.to, k _ H (Same.refl H) (by rw [rp_int, rr.length])⟩
  · cases h
theorem pd_len (hm : X.mg "len" = none) (ha : PDA X [e] gA) (hg : Gl X "len" := by rfl) (he : starEach [e] X.env = (false, eval e X.env) :: starEach [] X.env := by rfl) (hpl : (backTo pos (starEach [] X.env)).any (·.1) = false := by rfl) :
    PD X (.Call (.Name "len" p) [e] [] pos) (oA gA lenD) := pd_callB (call_len_str.or call_len_seq) fn_len hm PySem.boot_len ha hg (by decide) (by decide) he hpl
end
end DL
namespace DL
open PySem PySem.Spec PyProof.Rows L2
section
variable {X : Cx} {K : PySem.W.Frag} {e a b : Expr} {es : List Expr} {pos p : Pos} {g ga gb : Ds → Option D} {gA : Ds → Option (List D)}
/-- a def of the text, by its name -/
def FnD (P : Program) (w : World) (K : PySem.W.Frag) (mg : Str → Option Value) (base : Heap) (x : Str) (k : Nat) (ps : List Str) (f : List D → Option D) : Prop :=
  ∃ (fa : Addr) (fd : FuncData), FnOk P w K mg base CX0 k fa fd ps (spD K f) ∧ mg x = some (.ref fa) ∧ PySem.W.keepIn K (.ref fa) = true ∧ Binds K fd ps []
theorem pd_fn {k m : Nat} {ps : List Str} {x : Str} {f : List D → Option D} (C : FnD X.prog X.w X.K X.mg X.base x k ps f) (hr : Room m X.A) (hk : k ≤ m) (ha : PDA X (e :: es) gA) (hg : Gl X x := by rfl) (hdb : (x == ("__debug__" : Str)) = false := by decide)
    (he : starEach (e :: es) X.env = (false, eval e X.env) :: starEach es X.env := by rfl) (hpl : (backTo pos (starEach es X.env)).any (·.1) = false := by rfl) : PD X (.Call (.Name x p) (e :: es) [] pos) (oA gA f) := by
  obtain ⟨fa, fd, F, hm, kp, hb⟩ := C
  exact pd_call F (hr.mono hk) hm kp hb ha hg hdb he hpl
end

end DL
namespace DL
open PySem PySem.Spec PyProof.Rows L2
/-! ### what is one's own -/
section
variable {K : PySem.W.Frag} {H H' : Hp} {B B' : BS} {σ σ' : St} {δ δ' : Ds}
theorem Gr.fresh {p : Addr} {o : HO} (h : H p = none) : Gr H (upd H p o) B (fun a => B a ∨ a = p) := fun b u n e => by
  have hb : b ≠ p := ne_of_none e h
  exact ⟨fun z => z.elim n hb, by rw [upd_ne hb]; exact e⟩
theorem Gr.own {a : Addr} {o : HO} (h : B a) : Gr H (upd H a o) B B := fun b u n e => ⟨n, by rw [upd_ne (fun z => n (by rw [z]; exact h))]; exact e⟩
theorem RpO.mono {d : D} {a : Addr} (s : ∀ o, H a = some o → H' a = some o) (g : Gr H H' B B') (h : RpO K H B d a) : RpO K H' B' d a := by
  cases d <;> try exact h.elim
  · obtain ⟨xs, e, r⟩ := h; exact ⟨xs, s _ e, r.mono g⟩
  · obtain ⟨xs, e, l, r⟩ := h; exact ⟨xs, s _ e, l, r.mono g⟩
theorem Pd.impI {α β : Type} {F G : α → β → Prop} : ∀ {l : List α} {m : List β}, (∀ (i : Nat) a b, l[i]? = some a → m[i]? = some b → F a b → G a b) → Paired F l m → Paired G l m
  | _, _, _, .nil => .nil
  | _, _, h, .cons r t => .cons (h 0 _ _ rfl rfl r) (Pd.impI (fun i a b e1 e2 => h (i + 1) a b (by simpa using e1) (by simpa using e2)) t)
theorem set_self {α : Type} : ∀ {l : List α} {i : Nat} {a : α}, l[i]? = some a → l.set i a = l
  | [], _, _, h => by simp at h
  | x :: l, 0, a, h => by simp at h; subst h; rfl
  | x :: l, i + 1, a, h => by rw [List.set_cons_succ, set_self (by simpa using h)]
theorem Pd.setR {α β : Type} {F : α → β → Prop} {a : α} {b : β} {i : Nat} (r : F a b) {l : List α} {m : List β} (e : l[i]? = some a) (h : Paired F l m) : Paired F l (m.set i b) := by
  have := Pd.set r i h
  rwa [set_self e] at this
theorem get_set {α : Type} {l : List α} {i j : Nat} {a b : α} (h : (l.set i a)[j]? = some b) : (i = j ∧ a = b ∧ j < l.length) ∨ (i ≠ j ∧ l[j]? = some b) := by
  by_cases e : i = j
  · subst e
    by_cases hl : i < l.length
    · rw [List.getElem?_set_self hl] at h
      exact .inl ⟨rfl, Option.some.inj h, hl⟩
    · rw [List.getElem?_eq_none (by simpa using hl)] at h; cases h
  · rw [List.getElem?_set_ne e] at h
    exact .inr ⟨e, h⟩
theorem Env.len (e : Env K H B σ δ) : σ.length = δ.length := Pd.len e.all
/-- an owned slot's object -/
theorem Env.at (e : Env K H B σ δ) {i : Nat} {d : D} (h : δ[i]? = some (.ow d)) : ∃ a, σ[i]? = some (some (.ref a)) ∧ B a ∧ RpO K H B d a := by
  obtain ⟨o, h1, a, rfl, hb, r⟩ := Pd.get e.all h
  exact ⟨a, h1, hb, r⟩
/-- an owned object is changed -/
theorem Env.mut (e : Env K H B σ δ) {i : Nat} {d0 d : D} {a : Addr} {o : HO} (hi : δ[i]? = some (.ow d0)) (hs : σ[i]? = some (some (.ref a))) (r : RpO K (upd H a o) B d a) : Env K (upd H a o) B σ (δ.set i (.ow d)) := by
  obtain ⟨a', h1, hb, _⟩ := e.at hi
  rw [hs] at h1
  cases h1
  refine ⟨?_, fun b z => ?_, fun j k b ds es h1 h2 h3 h4 => ?_⟩
  · -- slot by slot
    have h0 : Paired (fun (o' : Option V) (s : Sl) => SlR K (upd H a o) B o' s ∨ (∃ d, s = .ow d ∧ o' = some (.ref a))) σ δ := Pd.imp (fun o' s h => by
      cases s with
      | un => exact .inl trivial
      | ex c n => obtain ⟨v, e, r⟩ := h; exact .inl ⟨v, e, r.mono (Gr.own hb)⟩
      | sh d => obtain ⟨v, e, r⟩ := h; exact .inl ⟨v, e, r.mono (Gr.own hb)⟩
      | ow d =>
        obtain ⟨b, e, hb', r⟩ := h
        by_cases z : b = a
        · subst z; exact .inr ⟨d, rfl, e⟩
        · exact .inl ⟨b, e, hb', r.mono (fun o h => by rw [upd_ne z]; exact h) (Gr.own hb)⟩) e.all
    have h1 := Pd.setR (i := i) (b := Sl.ow d) (.inl ⟨a, rfl, hb, r⟩) hs h0
    refine Pd.impI (fun j o' s e1 e2 h => ?_) h1
    rcases h with h | ⟨d', rfl, rfl⟩
    · exact h
    · rcases get_set e2 with ⟨rfl, e3, _⟩ | ⟨hne, e3⟩
      · cases e3; exact ⟨a, rfl, hb, r⟩
      · exact absurd (e.own i j a d0 d' hi e3 hs e1) hne
  · by_cases z' : b = a
    · subst z'; rw [upd_same]; exact fun z => nomatch z
    · rw [upd_ne z']; exact e.bad b z
  · have q1 : ∃ d, δ[j]? = some (.ow d) := by
      rcases get_set h1 with ⟨rfl, _, _⟩ | ⟨_, h⟩
      · exact ⟨_, hi⟩
      · exact ⟨_, h⟩
    have q2 : ∃ d, δ[k]? = some (.ow d) := by
      rcases get_set h2 with ⟨rfl, _, _⟩ | ⟨_, h⟩
      · exact ⟨_, hi⟩
      · exact ⟨_, h⟩
    obtain ⟨d1, q1⟩ := q1
    obtain ⟨d2, q2⟩ := q2
    exact e.own j k b d1 d2 q1 q2 h3 h4
theorem EnvS.mut {H₀ : Hp} {B₀ : BS} (en : EnvS K H₀ B₀ H σ δ) (s : Same H H') (b1 : ∀ a, B₀ a → B a) (b2 : ∀ a, B a → B₀ a ∨ H₀ a = none) {i : Nat} {d0 d : D} {a : Addr} {o : HO} (hi : δ[i]? = some (.ow d0)) (hs : σ[i]? = some (some (.ref a)))
    (env : Env K (upd H' a o) B σ (δ.set i (.ow d))) : EnvS K H₀ B₀ (upd H' a o) σ (δ.set i (.ow d)) := by
  have h0 := en.fr i d0 a hi hs
  refine ⟨fun b u h => ?_, ⟨B, b1, b2, env⟩, fun j ds b h1 h2 => ?_, en.b0⟩
  · have : b ≠ a := fun z => by rw [z, h0] at h; cases h
    rw [upd_ne this]
    exact s _ _ (en.same b u h)
  · rcases get_set h1 with ⟨rfl, _, _⟩ | ⟨_, h⟩
    · rw [hs] at h2; cases h2; exact h0
    · exact en.fr j ds b h h2
/-- a new object becomes one's own -/
theorem EnvS.take {H₀ : Hp} {B₀ : BS} (en : EnvS K H₀ B₀ H σ δ) (b1 : ∀ a, B₀ a → B a) (b2 : ∀ a, B a → B₀ a ∨ H₀ a = none) (e : Env K H B σ δ) (i : Nat) {d : D} {p : Addr} (hp : H p = none) (s : Same H H')
    (r : RpO K H' (fun a => B a ∨ a = p) d p) : EnvS K H₀ B₀ H' (σ.set i (some (.ref p))) (δ.set i (.ow d)) := by
  have g : Gr H H' B (fun a => B a ∨ a = p) := fun b u n h => ⟨fun z => z.elim n (ne_of_none h hp), s _ _ h⟩
  have h0p : H₀ p = none := en.same.free hp
  have live : ∀ {j : Nat} {d' : D} {b : Addr}, δ[j]? = some (.ow d') → σ[j]? = some (some (.ref b)) → b ≠ p := fun {j d' b} h1 h2 => by
    obtain ⟨a, q1, q2, q3⟩ := e.at h1
    rw [h2] at q1; cases q1
    exact fun z => e.bad _ q2 (by rw [z]; exact hp)
  refine ⟨en.same.trans s, ⟨fun a => B a ∨ a = p, fun a z => .inl (b1 a z), fun a z => ?_, ?_, fun a z => ?_, fun j k a ds es h1 h2 h3 h4 => ?_⟩, fun j ds a h1 h2 => ?_, en.b0⟩
  · rcases z with z | rfl
    · exact b2 a z
    · exact .inr h0p
  · refine Pd.set ⟨p, rfl, .inr rfl, r⟩ i (Pd.imp (fun o sl h => ?_) e.all)
    cases sl with
    | un => trivial
    | ex c n => obtain ⟨v, e, r⟩ := h; exact ⟨v, e, r.mono g⟩
    | sh d => obtain ⟨v, e, r⟩ := h; exact ⟨v, e, r.mono g⟩
    | ow d => obtain ⟨b, e, hb', r⟩ := h; exact ⟨b, e, .inl hb', r.mono (fun o h => s _ _ h) g⟩
  · rcases z with z | rfl
    · intro q
      cases h : H a with
      | none => exact e.bad a z h
      | some u => rw [s _ _ h] at q; cases q
    · exact r.live
  · rcases get_set h1 with ⟨rfl, _, _⟩ | ⟨n1, h1⟩
    · rcases get_set h2 with ⟨rfl, _, _⟩ | ⟨n2, h2⟩
      · rfl
      · rcases get_set h3 with ⟨_, e3, _⟩ | ⟨n3, _⟩
        · cases e3
          rw [List.getElem?_set_ne n2] at h4
          exact absurd rfl (live h2 h4)
        · exact absurd rfl n3
    · rcases get_set h2 with ⟨rfl, _, _⟩ | ⟨n2, h2⟩
      · rcases get_set h4 with ⟨_, e4, _⟩ | ⟨n4, _⟩
        · cases e4
          rw [List.getElem?_set_ne n1] at h3
          exact absurd rfl (live h1 h3)
        · exact absurd rfl n4
      · rw [List.getElem?_set_ne n1] at h3
        rw [List.getElem?_set_ne n2] at h4
        exact e.own j k a ds es h1 h2 h3 h4
  · rcases get_set h1 with ⟨rfl, _, _⟩ | ⟨n1, h1⟩
    · rcases get_set h2 with ⟨_, e3, _⟩ | ⟨n3, _⟩
      · cases e3; exact h0p
      · exact absurd rfl n3
    · rw [List.getElem?_set_ne n1] at h2
      exact en.fr j ds a h1 h2
/-- all that is one's own, given away -/
theorem Env.frz (e : Env K H B σ δ) : ∃ B' : BS, (∀ a, B' a → B a) ∧ (∀ a, B a → B' a ∨ ∃ (i : Nat) (d : D), δ[i]? = some (.ow d) ∧ σ[i]? = some (some (.ref a))) ∧ Env K H B' σ (DL.frz δ) := by
  refine ⟨fun a => B a ∧ ¬ ∃ (i : Nat) (d : D), δ[i]? = some (.ow d) ∧ σ[i]? = some (some (.ref a)), fun a z => z.1, fun a z => ?_, ?_, fun a z => e.bad a z.1, fun i j a ds es h1 _ _ _ => ?_⟩
  · by_cases q : ∃ (i : Nat) (d : D), δ[i]? = some (.ow d) ∧ σ[i]? = some (some (.ref a))
    · exact .inr q
    · exact .inl ⟨z, q⟩
  · have : Paired (fun o s => SlR K H (fun a => B a ∧ ¬ ∃ (i : Nat) (d : D), δ[i]? = some (.ow d) ∧ σ[i]? = some (some (.ref a))) o (frz1 s)) σ δ := Pd.impI (fun i o s e1 e2 h => by
      cases s with
      | un => trivial
      | ex c n => obtain ⟨v, e, r⟩ := h; exact ⟨v, e, r.mono (Gr.less fun a z => z.1)⟩
      | sh d => obtain ⟨v, e, r⟩ := h; exact ⟨v, e, r.mono (Gr.less fun a z => z.1)⟩
      | ow d =>
        obtain ⟨a, rfl, hb, r⟩ := h
        exact ⟨_, rfl, r.rp (fun a z => z.1) fun z => z.2 ⟨i, d, e2, e1⟩⟩) e.all
    have mp : ∀ {l : St} {m : Ds} {F : Option V → Sl → Prop}, Paired (fun o s => F o (frz1 s)) l m → Paired F l (m.map frz1) := by
      intro l m F h
      induction h with
      | nil => exact .nil
      | cons r t ih => exact .cons r ih
    exact mp this
  · unfold DL.frz at h1
    rw [List.getElem?_map] at h1
    cases q : δ[i]? with
    | none => rw [q] at h1; cases h1
    | some s => rw [q] at h1; cases s <;> cases h1
theorem EnvS.frz {H₀ : Hp} {B₀ : BS} (en : EnvS K H₀ B₀ H σ δ) : EnvS K H₀ B₀ H σ (DL.frz δ) := by
  obtain ⟨B, b1, b2, env⟩ := en.ex
  obtain ⟨B', c1, c2, env'⟩ := env.frz
  refine ⟨en.same, ⟨B', fun a z => ?_, fun a z => b2 a (c1 a z), env'⟩, fun i ds a h1 _ => ?_, en.b0⟩
  · rcases c2 a (b1 a z) with q | ⟨i, d, q1, q2⟩
    · exact q
    · exact absurd (en.fr i d a q1 q2) (en.b0 a z)
  · unfold DL.frz at h1
    rw [List.getElem?_map] at h1
    cases q : δ[i]? with
    | none => rw [q] at h1; cases h1
    | some s => rw [q] at h1; cases s <;> cases h1
theorem Env.frzAt (e : Env K H B σ δ) (i : Nat) : ∃ B' : BS, (∀ a, B' a → B a) ∧ (∀ a, B a → B' a ∨ ∃ (d : D), δ[i]? = some (.ow d) ∧ σ[i]? = some (some (.ref a))) ∧ Env K H B' σ (DL.frzAt i δ) := by
  unfold DL.frzAt
  cases h : δ[i]? with
  | none => exact ⟨B, fun _ z => z, fun _ z => .inl z, e⟩
  | some s =>
    cases s with
    | un => dsimp only [frz1]; rw [set_self h]; exact ⟨B, fun _ z => z, fun _ z => .inl z, e⟩
    | ex c n => dsimp only [frz1]; rw [set_self h]; exact ⟨B, fun _ z => z, fun _ z => .inl z, e⟩
    | sh d => dsimp only [frz1]; rw [set_self h]; exact ⟨B, fun _ z => z, fun _ z => .inl z, e⟩
    | ow d =>
      obtain ⟨a, h1, hb, r⟩ := e.at h
      refine ⟨fun b => B b ∧ b ≠ a, fun b z => z.1, fun b z => ?_, ?_, fun b z => e.bad b z.1, fun j k b ds es h1' h2' h3 h4 => ?_⟩
      · by_cases q : b = a
        · subst q; exact .inr ⟨d, rfl, h1⟩
        · exact .inl ⟨z, q⟩
      · have h0 : Paired (fun (o' : Option V) (s : Sl) => SlR K H (fun b => B b ∧ b ≠ a) o' s ∨ (∃ d, s = .ow d ∧ o' = some (.ref a))) σ δ := Pd.imp (fun o' s h => by
          cases s with
          | un => exact .inl trivial
          | ex c n => obtain ⟨v, e, r⟩ := h; exact .inl ⟨v, e, r.mono (Gr.less fun a z => z.1)⟩
          | sh d => obtain ⟨v, e, r⟩ := h; exact .inl ⟨v, e, r.mono (Gr.less fun a z => z.1)⟩
          | ow d =>
            obtain ⟨b, e, hb', r⟩ := h
            by_cases z : b = a
            · subst z; exact .inr ⟨d, rfl, e⟩
            · exact .inl ⟨b, e, ⟨hb', z⟩, r.mono (fun o h => h) (Gr.less fun a z => z.1)⟩) e.all
        have h2 := Pd.setR (i := i) (b := Sl.sh d) (.inl ⟨.ref a, rfl, r.rp (fun b z => z.1) fun z => z.2 rfl⟩) h1 h0
        refine Pd.impI (fun j o' s e1 e2 hh => ?_) h2
        rcases hh with hh | ⟨d', rfl, rfl⟩
        · exact hh
        · rcases get_set e2 with ⟨rfl, e3, _⟩ | ⟨hne, e3⟩
          · cases e3
          · exact absurd (e.own i j a d d' h e3 h1 e1) hne
      · rcases get_set h1' with ⟨_, q, _⟩ | ⟨_, q1⟩
        · cases q
        · rcases get_set h2' with ⟨_, q, _⟩ | ⟨_, q2⟩
          · cases q
          · exact e.own j k b ds es q1 q2 h3 h4
theorem EnvS.frzAt {H₀ : Hp} {B₀ : BS} (en : EnvS K H₀ B₀ H σ δ) (i : Nat) : EnvS K H₀ B₀ H σ (DL.frzAt i δ) := by
  obtain ⟨B, b1, b2, env⟩ := en.ex
  obtain ⟨B', c1, c2, env'⟩ := env.frzAt i
  refine ⟨en.same, ⟨B', fun a z => ?_, fun a z => b2 a (c1 a z), env'⟩, fun j ds a h1 h2 => ?_, en.b0⟩
  · rcases c2 a (b1 a z) with q | ⟨d, q1, q2⟩
    · exact q
    · exact absurd (en.fr i d a q1 q2) (en.b0 a z)
  · unfold DL.frzAt at h1
    cases q : δ[i]? with
    | none => rw [q] at h1; exact en.fr j ds a h1 h2
    | some s =>
      rw [q] at h1
      rcases get_set h1 with ⟨rfl, q', _⟩ | ⟨_, q1⟩
      · cases s <;> cases q'
      · exact en.fr j ds a q1 h2
theorem flat_rp {d : D} {v : V} (h : flat d = true) (r : Rp K H B d v) : Rp K H' B' d v := by
  cases d <;> simp [flat] at h
  · rw [rp_non] at r ⊢; exact r
  · rw [rp_bl] at r ⊢; exact r
  · rw [rp_int] at r ⊢; exact r
  · rw [rp_str] at r ⊢; exact r
end
/-! ### borrowing -/
section
variable {X : Cx} {e tg : Expr} {st : Stmt} {pos : Pos} {g : GE} {gt : GB} {G : GS}
theorem pd_bor (h : PD X e g) : PD X e (borE g) := .mk fun B δ pins s σ H Q I ⟨d, en, hq, k⟩ => by
  obtain ⟨B', c1, c2, en'⟩ := en.frz
  unfold borE at hq
  cases e1 : g (frz δ) with
  | none => rw [e1] at hq; cases hq
  | some x =>
    rw [e1] at hq
    by_cases hf : flat x = true
    · simp only [Option.bind_some, if_pos hf] at hq
      cases hq
      exact h B' (frz δ) pins s σ H Q I ⟨_, en', e1, fun v H' s' r => k v H' s' (flat_rp hf r)⟩
    · simp only [Option.bind_some, if_neg hf] at hq
      cases hq
theorem ptd_bor (h : PTD X e gt) : PTD X e (borB gt) := .mk fun B δ pins s σ H Q I ⟨d, en, hq, k⟩ => by
  obtain ⟨B', c1, c2, en'⟩ := en.frz
  exact h B' (frz δ) pins s σ H Q I ⟨d, en', hq, k⟩
/-! ### new lists and dicts -/
theorem pdf_lst {es : List Expr} {gA : GA} (h : PDA X es gA) : PDF X (.List es pos) (lstG gA) :=
  .mk fun B δ => (pe_lst (h B δ)).imp fun σ H Q ⟨d, en, h, k⟩ => by
    unfold lstG at h
    cases e1 : gA δ with
    | none => rw [e1] at h; cases h
    | some ds =>
      rw [e1] at h
      by_cases hl : ds.length ≤ sizeLine
      · simp only [Option.bind_some, if_pos hl] at h
        cases h
        refine ⟨ds, en, e1, fun vs H1 s1 r1 => ⟨by rw [r1.length]; exact hl, fun p hp => k _ _ (s1.free hp) (s1.trans (same_upd hp)) ⟨vs, upd_same, r1.mono (Gr.fresh hp)⟩⟩⟩
      · simp only [Option.bind_some, if_neg hl] at h
        cases h
theorem psd_own (i : Nat) {x : Str} {px : Pos} (h : PDF X e g) (hN : X.N.Nodup) (hi : X.N[i]? = some x := by rfl) (hx : Loc X.env.scope x := by first | exact Or.inl rfl | exact Or.inr rfl)
    (hs : swapsWithSole [.Name x px] e pos.line X.env = pure false := by rfl) (hw : swappedStores [.Name x px] e X.env = pure none := by rfl)
    (h1 : (assignEach [.Name x px] X.env).map (·.2) = [assign (.Name x px) X.env] := by rfl)
    (hf : X.fn x = true ∨ X.env.scope.names.lookup x = some .local := by first | exact .inl rfl | exact .inr rfl | assumption) : PSD X (.Assign [.Name x px] e pos) (ownD i g) := .mk fun H₀ B₀ δ pins s σ H D I ⟨r, en, e1, k⟩ => by
  unfold ownD at e1
  obtain ⟨B, b1, b2, env⟩ := en.ex
  cases e2 : g δ with
  | none => rw [e2] at e1; cases e1
  | some d =>
    rw [e2] at e1
    cases e1
    exact ps_asg (h B δ) (pg_name (i := i) hN hi hx hf) hs hw h1 pins s σ H D I ⟨d, env, e2, fun p H' hp s' r => k _ H' (en.take b1 b2 env i hp s' r)⟩
end
end DL
namespace L2
open PySem PySem.Spec PyProof.Rows
open PySem.AutoSeq1 (wpAny_loadPart')
section
variable {X : Cx}
end
end L2
namespace DL
open PySem PySem.Spec PyProof.Rows L2
section
variable {K : PySem.W.Frag} {H H' : Hp} {B B' : BS} {σ σ' : St} {δ δ' : Ds}
theorem Rps.set : ∀ {ds : List D} {xs : List V} {d : D} {v : V} (j : Nat), Rps K H B ds xs → Rp K H B d v → Rps K H B (ds.set j d) (xs.set j v)
  | [], _, _, _, _, h, _ => by rw [rps_nil] at h; subst h; simp [rps_nil]
  | d :: ds, _, _, _, 0, h, r => by
    rw [rps_cons] at h
    obtain ⟨y, t, rfl, h1, h2⟩ := h
    rw [List.set_cons_zero, List.set_cons_zero, rps_cons]
    exact ⟨_, _, rfl, r, h2⟩
  | d :: ds, _, _, _, j + 1, h, r => by
    rw [rps_cons] at h
    obtain ⟨y, t, rfl, h1, h2⟩ := h
    rw [List.set_cons_succ, List.set_cons_succ, rps_cons]
    exact ⟨_, _, rfl, h1, Rps.set j h2 r⟩
theorem Rps.dropLast {ds : List D} {xs : List V} (h : Rps K H B ds xs) : Rps K H B ds.dropLast xs.dropLast := by
  rw [List.dropLast_eq_take, List.dropLast_eq_take, h.length]
  exact h.take _
structure EnvV (K : PySem.W.Frag) (H₀ : Hp) (B₀ : BS) (H : Hp) (σ : St) (δ : Ds) (d : D) (v : V) : Prop where
  same : Same H₀ H
  ex : ∃ B : BS, (∀ a, B₀ a → B a) ∧ (∀ a, B a → B₀ a ∨ H₀ a = none) ∧ Env K H B σ δ ∧ Rp K H B d v
  fr : ∀ (i : Nat) (ds : D) (a : Addr), δ[i]? = some (.ow ds) → σ[i]? = some (some (.ref a)) → H₀ a = none
  b0 : ∀ a, B₀ a → H₀ a ≠ none
theorem EnvV.s {H₀ : Hp} {B₀ : BS} {d : D} {v : V} (h : EnvV K H₀ B₀ H σ δ d v) : EnvS K H₀ B₀ H σ δ := ⟨h.same, let ⟨B, b1, b2, e, _⟩ := h.ex; ⟨B, b1, b2, e⟩, h.fr, h.b0⟩
theorem EnvV.mk' {H₀ : Hp} {B₀ : BS} {d : D} {v : V} (h : EnvS K H₀ B₀ H σ δ) (b1 : ∀ a, B₀ a → B a) (b2 : ∀ a, B a → B₀ a ∨ H₀ a = none) (e : Env K H B σ δ) (r : Rp K H B d v) : EnvV K H₀ B₀ H σ δ d v := ⟨h.same, ⟨B, b1, b2, e, r⟩, h.fr, h.b0⟩
end
def tX (K : PySem.W.Frag) (H₀ : Hp) (B₀ : BS) (δ : Ds) (gx : GX) : TE := fun σ H Q => ∃ r, EnvS K H₀ B₀ H σ δ ∧ gx δ = some r ∧ ∀ v H', EnvV K H₀ B₀ H' σ r.2 r.1 v → Q v H'
structure PX (X : Cx) (e : Expr) (gx : GX) : Prop where
  mk :: go : ∀ H₀ B₀ δ, PE X e (tX X.K H₀ B₀ δ gx)
instance {X : Cx} {e : Expr} {gx : GX} : CoeFun (PX X e gx) (fun _ => ∀ H₀ B₀ δ, PE X e (tX X.K H₀ B₀ δ gx)) := ⟨PX.go⟩
def tTG (K : PySem.W.Frag) (H₀ : Hp) (B₀ : BS) (ft : D → Ds → Option Ds) (d : D) (δ : Ds) : TG := fun v σ H Q => ∃ δ', EnvV K H₀ B₀ H σ δ d v ∧ ft d δ = some δ' ∧ ∀ σ' H', EnvS K H₀ B₀ H' σ' δ' → Q σ' H'
structure PTG (X : Cx) (tg : Expr) (ft : D → Ds → Option Ds) : Prop where
  mk :: go : ∀ H₀ B₀ d δ, PG X tg (tTG X.K H₀ B₀ ft d δ)
instance {X : Cx} {tg : Expr} {ft : D → Ds → Option Ds} : CoeFun (PTG X tg ft) (fun _ => ∀ H₀ B₀ d δ, PG X tg (tTG X.K H₀ B₀ ft d δ)) := ⟨PTG.go⟩
section
variable {X : Cx} {e tg : Expr} {st : Stmt} {pos apos cpos px : Pos} {g : GE} {gt : GB} {G : GS} {x : Str}
theorem owL_eq {i : Nat} {δ : Ds} {ds : List D} (h : owL i δ = some ds) : δ[i]? = some (.ow (.lst ds)) := by
  unfold owL at h
  split at h
  · cases h; assumption
  · cases h
theorem px_app (i : Nat) (h : PD X e g) (hN : X.N[i]? = some x := by rfl) (hv : Vis X.env.scope x := by first | exact Or.inl rfl | exact Or.inr (Or.inl rfl) | exact Or.inr (Or.inr rfl)) (hd : (x == ("__debug__" : Str)) = false := by decide) (hcd : (x == ("__classdict__" : Str)) = false := by decide)
    (hbase : attributeBase (.Name x px) "append" X.env (eval (.Name x px) X.env) = eval (.Name x px) X.env := by rfl)
    (hfew : ((backTo cpos (starEach [e] X.env)).all (fun x => !x.1) && (backToKw cpos (keywordEach [] X.env)).all (fun x => x.1.isSome)
      && decide (([e] : List Expr).length + ([] : List Keyword).length + (if ([] : List Keyword).isEmpty then 0 else 1) < 30)) = true := by rfl)
    (hline : (apos.endLine == cpos.line) = true := by rfl) (hs : starEach [e] X.env = (false, eval e X.env) :: starEach [] X.env := by rfl) (hplain : (backTo cpos (starEach [] X.env)).any (·.1) = false := by rfl) :
    PX X (.Call (.Attribute (.Name x px) "append" apos) [e] [] cpos) (appX i g) := .mk fun H₀ B₀ δ pins s σ H Q I ⟨r, en, e1, k⟩ => by
  unfold appX at e1
  obtain ⟨B, b1, b2, env⟩ := en.ex
  cases e2 : owL i δ with
  | none => rw [e2] at e1; cases e1
  | some ds =>
    cases e3 : g δ with
    | none => rw [e2, e3] at e1; cases e1
    | some d =>
      rw [e2, e3] at e1
      simp only [Option.bind_some] at e1
      split at e1
      · rename_i hz
        cases e1
        have hi := owL_eq e2
        obtain ⟨a, hs', hb, xs, hx, rx⟩ := env.at hi
        refine pe_bm PySem.F.plainAttrs_list PySem.F.slot_list_append PySem.F.type_list_append mt_append (pe_var (i := i) hN hv hd hcd) (pa_cons (h B δ) pa_nil hs) hbase hfew hline hs hplain pins s σ H Q I
          ⟨_, hs', .inl ⟨rfl, xs, .inl (.inl hx)⟩, d, env, e3, fun v H1 s1 r1 => ⟨a, xs, v, rfl, rfl, s1 _ _ hx, by rw [rx.length]; exact hz, ?_⟩⟩
        have env2 : Env X.K (upd H1 a (.lst (xs ++ [v]))) B σ (δ.set i (.ow (.lst (ds ++ [d])))) := (env.same s1).mut hi hs' ⟨_, upd_same, (Rps.snoc (rx.same s1) r1).mono (Gr.own hb)⟩
        exact k _ _ (EnvV.mk' (en.mut s1 b1 b2 hi hs' env2) b1 b2 env2 (by rw [rp_non]))
      · cases e1
/-! ### targets -/
/-! ### statements -/
theorem psd_exprX {gx : GX} (h : PX X e gx) (hs : swapsWith e none pos.line X.env = pure false := by rfl) : PSD X (.Expr e pos) (exprX gx) := .mk fun H₀ B₀ δ pins s σ H D I ⟨r, en, e1, k⟩ => by
  unfold exprX at e1
  cases e2 : gx δ with
  | none => rw [e2] at e1; cases e1
  | some q =>
    rw [e2] at e1
    cases e1
    exact ps_expr (h H₀ B₀ δ) hs pins s σ H D I ⟨q, en, e2, fun v H' en' => k σ H' en'.s⟩
theorem psd_while (n : Nat) {c : Expr} {body : List Stmt} (hp : PassesOwn (model X.prog X.w) X.A X.env X.xe) (hc : PTD X c gt) (hb : PSsD X body G) : PSD X (.While c body [] pos) (whileD gt G n) := .mk fun H₀ B₀ δ pins s σ H D I ⟨r, en, e1, k⟩ => by
  have hc' : PT X c (fun σ H Q => ∃ B δ, tDT X.K B δ gt σ H Q) := fun pins s σ H Q I ⟨B, δ, h⟩ => hc B δ pins s σ H Q I h
  have hb' : PSs X body (fun D σ H => ∃ δ, tDS X.K H₀ B₀ δ G D σ H) := fun pins s σ H D I ⟨δ, h⟩ => hb H₀ B₀ δ pins s σ H D I h
  refine ps_while hp hc' hb' pins s σ H D I ⟨fun m σ H => ∃ δ', EnvS X.K H₀ B₀ H σ δ' ∧ whileD gt G m δ' = some r, ⟨n, δ, en, e1⟩, ?_⟩
  rintro m σ1 H1 ⟨δ1, en1, e2⟩
  cases m with
  | zero => cases e2
  | succ m =>
    unfold whileD at e2
    obtain ⟨B, b1, b2, env⟩ := en1.ex
    cases e3 : gt δ1 with
    | none => rw [e3] at e2; cases e2
    | some t =>
      rw [e3] at e2
      refine ⟨B, δ1, t, env, e3, fun H2 s2 => ?_⟩
      cases t with
      | false =>
        rw [if_neg Bool.false_ne_true]
        cases e2
        exact k σ1 H2 (en1.grow s2)
      | true =>
        rw [if_pos rfl]
        dsimp only at e2
        refine ⟨fun σ' H' => ∃ δ', EnvS X.K H₀ B₀ H' σ' δ' ∧ whileD gt G m δ' = some r, fun σ' H' z => ⟨m, Nat.lt_succ_self m, z⟩, δ1, ?_⟩
        cases e4 : G δ1 with
        | none => rw [e4] at e2; cases e2
        | some rb =>
          rw [e4] at e2
          refine ⟨rb, en1.grow s2, e4, ?_⟩
          cases rb with
          | nx δn => exact fun σ' H' en' => ⟨δn, en', e2⟩
          | ct δn => exact fun σ' H' en' => ⟨δn, en', e2⟩
          | bk δn => cases e2; exact fun σ' H' en' => k σ' H' en'
          | rt d' => cases e2; exact fun v H' s' r' => k v H' s' r'
          | rf d' => cases e2; exact fun p H' hp s' r' => k p H' hp s' r'
/-- for (a, b) in .., (a, b) = .. -/
theorem pgd_tup2 (i j : Nat) {y : Str} {p2 p3 : Pos} {kk} (hN : X.N.Nodup) (hij : i ≠ j) (hc : X.calm = true := by rfl) (hi : X.N[i]? = some x := by rfl) (hj : X.N[j]? = some y := by rfl)
    (hx : Loc X.env.scope x := by first | exact Or.inl rfl | exact Or.inr rfl) (hy : Loc X.env.scope y := by first | exact Or.inl rfl | exact Or.inr rfl)
    (hf : X.fn x = true ∨ X.env.scope.names.lookup x = some .local := by first | exact .inl rfl | exact .inr rfl | assumption) (hf2 : X.fn y = true ∨ X.env.scope.names.lookup y = some .local := by first | exact .inl rfl | exact .inr rfl | assumption)
    (hs1 : (assignEach [.Name x p2, .Name y p3] X.env).map (·.2) = assign (.Name x p2) X.env :: (assignEach [.Name y p3] X.env).map (·.2) := by rfl) (hs2 : (assignEach [.Name y p3] X.env).map (·.2) = assign (.Name y p3) X.env :: (assignEach [] X.env).map (·.2) := by rfl)
    (hn : (assignEach [.Name x p2, .Name y p3] X.env).length = 2 := by rfl) (hst : (assignEach [.Name x p2, .Name y p3] X.env).findIdx? (·.1) = none := by rfl) :
    PGD X (.Tuple [.Name x p2, .Name y p3] kk pos) [i, j] (tup2 i j) := .mk fun B d δ => (pg_tup hc (pgs_cons (pg_name (i := i) hN hi hx hf) (pgs_cons (pg_name (i := j) hN hj hy hf2) pgs_nil hs2) hs1) hn hst).imp fun v σ H Q ⟨δ', r, en, e1, k⟩ => by
  unfold tup2 at e1
  split at e1
  · rename_i da db
    cases e1
    rw [rp_tup] at r
    obtain ⟨p, xs, rfl, hq, rs⟩ := r
    rw [rps_cons] at rs
    obtain ⟨va, t1, rfl, ra, rs⟩ := rs
    rw [rps_cons] at rs
    obtain ⟨vb, t2, rfl, rb, rs⟩ := rs
    rw [rps_nil] at rs
    subst rs
    refine ⟨p, _, rfl, hq.to, rfl, va, [vb], rfl, vb, [], rfl, rfl, k _ ?_ ((en.set i ra).set j rb)⟩
    refine ⟨by simp, fun q hq => ?_, fun q hq ds h => ?_⟩
    · have h1 : q ≠ i := fun z => hq (by rw [z]; exact List.mem_cons_self)
      have h2 : q ≠ j := fun z => hq (by rw [z]; exact List.mem_cons_of_mem _ List.mem_cons_self)
      rw [List.getElem?_set_ne (Ne.symm h2), List.getElem?_set_ne (Ne.symm h1), List.getElem?_set_ne (Ne.symm h2), List.getElem?_set_ne (Ne.symm h1)]
      exact ⟨rfl, rfl⟩
    · rcases get_set h with ⟨rfl, e3, _⟩ | ⟨n1, e3⟩
      · cases e3
      · rcases get_set e3 with ⟨rfl, e4, _⟩ | ⟨n2, e4⟩
        · cases e4
        · simp at hq
          rcases hq with z | z
          · exact n2 z.symm
          · exact n1 z.symm
  · cases e1
end
end DL
namespace HT
open PySem PyProof.Rows
section
variable {prog : Program} {w : World} {A : Around} {E : Value → Shared → Prop} {s : Shared}
end
end HT
namespace L2
open PySem PySem.Spec PyProof.Rows
section
variable {X : Cx}
/-- () + t is t -/
def rCatT0 (K : PySem.W.Frag) : R2 := fun x y H Q => ∃ a b ys, x = .ref a ∧ y = .ref b ∧ SqT K H a [] ∧ SqT K H b ys ∧ Q (.ref b) H
theorem op_catT0 : OpR X (binaryOp .Add) (rCatT0 X.K) := by
  intro pins s σ H x y v u Q I rx ry h
  obtain ⟨a, b, ys, rfl, rfl, ha, hb, q⟩ := h
  cases rx
  cases ry
  obtain ⟨its, r1, p1, _⟩ := I.tuple ha
  obtain ⟨its2, r2, p2, _⟩ := I.tuple hb
  have e : its = [] := r1.zero
  subst e
  obtain ⟨⟨cls, dd, data, sl⟩, ho, hc, n, hd⟩ := id p1
  obtain ⟨⟨cls2, dd2, data2, sl2⟩, ho2, hc2, n2, hd2⟩ := id p2
  simp only at hc hd hc2 hd2
  subst hc hd hc2 hd2
  exact concat_meets ⟨_, ho, rfl⟩ ⟨_, ho2, rfl⟩ noFill_tuple_add seq_tuple_add PySem.F.slot_tuple_add PySem.F.entry_tuple_add (PySem.F.args_tuple_add_2 _ _)
    (tuple_addW0 a b _ its2.toArray n n2 dd dd2 sl sl2 rfl) ⟨ho, ho2, ⟨.ref b, H, I, rfl, q⟩⟩
/-- a text times an int -/
def repS (x : Str) (n : Int) : Str := ⟨(List.replicate n.toNat x.cps).foldl (· ++ ·) #[]⟩
def rMulS : R2 := fun x y H Q => ∃ z n, x = .str z ∧ y = .int n ∧ -(2 ^ 62) ≤ n ∧ n < 2 ^ 62 ∧ z.length * n.toNat ≤ sizeLine ∧ Q (.str (repS z n)) H
theorem op_mulS : OpR X (binaryOp .Mult) rMulS := by
  intro pins s σ H x y v u Q I rx ry h
  obtain ⟨z, n, rfl, rfl, h1, h2, hz, q⟩ := h
  obtain ⟨t, rfl⟩ := rx
  obtain ⟨t', rfl⟩ := ry
  have fin : ∀ t'' k, EP X pins σ Q (.str (repS z n) t'') { s with toks := k } := fun t'' k => ⟨.str _, H, I.tok k, ⟨t'', rfl⟩, q⟩
  have hsl : (sizeLine : Nat) < 2 ^ 40 := by decide
  have hdiv : ¬ n < 1 → ¬ ((z.length : Int) > (2 ^ 63 - 1) / n) := by
    intro hn
    have hn' : 0 < n := by omega
    have : (z.length : Int) * n ≤ 2 ^ 63 - 1 := by
      have e : n = (n.toNat : Int) := by omega
      rw [e]
      have : ((z.length * n.toNat : Nat) : Int) ≤ 2 ^ 40 := by exact_mod_cast (by omega : z.length * n.toNat ≤ 2 ^ 40)
      rw [Int.natCast_mul] at this
      omega
    exact Int.not_lt.mpr ((Int.le_ediv_iff_mul_le hn').mpr this)
  refine PySem.P.mul_str (by rw [decide_eq_false (by omega), decide_eq_false (by omega)]; rfl) (fun hn _ => hdiv hn) (fun _ _ => ?_) ?_
  · show decide (z.length * n.toNat > sizeLine) = false
    exact decide_eq_false (by omega)
  · by_cases hn : n < 1
    · rw [if_pos hn]
      have e : repS z n = Str.empty := by
        unfold repS
        rw [show n.toNat = 0 by omega]
        rfl
      refine ⟨by decide, ?_⟩
      rw [← e]
      exact fin _ _
    · rw [if_neg hn]
      by_cases h3 : (n == 1 || z.length == 0) = true
      · rw [if_pos h3]
        have e : repS z n = z := by
          rw [Bool.or_eq_true] at h3
          rcases h3 with h3 | h3
          · have : n = 1 := eq_of_beq h3
            subst this
            unfold repS
            show (⟨#[] ++ z.cps⟩ : Str) = z
            rw [Array.empty_append]
          · have h3 : z.length = 0 := eq_of_beq h3
            have hz0 : z.cps = #[] := Array.eq_empty_of_size_eq_zero h3
            have : ∀ k : Nat, (List.replicate k (#[] : Array Nat)).foldl (· ++ ·) #[] = #[] := by
              intro k
              induction k with
              | zero => rfl
              | succ k ih => rw [List.replicate_succ, List.foldl_cons]; exact ih
            unfold repS
            rw [hz0, this]
            cases z
            simp at hz0
            rw [hz0]
        have := fin t s.toks
        rw [e] at this
        exact this
      · rw [if_neg h3]
        have hl2 : ∀ (k : Nat) (acc : Array Nat), ((List.replicate k z.cps).foldl (· ++ ·) acc).size = acc.size + k * z.cps.size := by
          intro k
          induction k with
          | zero => intro acc; simp
          | succ k ih => intro acc; rw [List.replicate_succ, List.foldl_cons, ih, Array.size_append, Nat.succ_mul]; omega
        refine ⟨?_, fin _ _⟩
        show ((List.replicate n.toNat z.cps).foldl (· ++ ·) #[]).size ≤ _
        rw [hl2]
        have : z.length = z.cps.size := rfl
        rw [this, Nat.mul_comm] at hz
        simpa using hz
/-- a tuple times an int -/
theorem noFill_tup_mul : fillsNumberSlot (.type "tuple") "mul" = pure false :=
  PySem.fillsNumberSlot_seq (id := "tuple.__mul__") (r := some (.builtin "tuple.__rmul__")) PySem.F.slot_tuple_mul.lookup (by decide +kernel) PySem.F.slot_tuple_rmul.lookup (by decide +kernel)
theorem repeat_tup : seqRepeat? (.type "tuple") = pure (some (.builtin "tuple.__mul__")) := by
  unfold seqRepeat?
  rw [PySem.seqSlot_of (T := "tuple") (name := "__mul__") (id := "tuple.__mul__") PySem.F.slot_tuple_mul.lookup (by decide +kernel), PySem.seqSlot_of (T := "tuple") (name := "__rmul__") (id := "tuple.__rmul__") PySem.F.slot_tuple_rmul.lookup (by decide +kernel)]
  rfl
theorem rmul_int_tup (a : Int) (t : Tok) (l : Addr) (items : Array Value) (n : Nat) (dd : Option Addr) (sl : Array (Option Value)) :
    Meets (Builtin.«int.__rmul__» ⟨[.int a t, .ref l], []⟩) (fun _ R s => s.heap.get? l = some { cls := .type "tuple", dict := dd, data := .seq items n, slots := sl } ∧ R (.ok (.ret Value.notImplemented)) s) :=
  .of_wp fun prog w A R s h => by
    obtain ⟨hp, g, d, tk, os⟩ := s
    obtain ⟨hl, h⟩ := h
    wp_walk
    exact ⟨_, rfl, h⟩
theorem tup_mulW (l : Addr) (items : Array Value) (n : Nat) (dd : Option Addr) (sl : Array (Option Value)) (k : Int) (t : Tok) (h2 : 2 ≤ k) (h3 : k < 2 ^ 62) (he : items.isEmpty = false) (hsz : items.size * k.toNat ≤ sizeLine) :
    Meets (Builtin.«tuple.__mul__» ⟨[.ref l, .int k t], []⟩) (fun _ R s => s.heap.get? l = some { cls := .type "tuple", dict := dd, data := .seq items n, slots := sl } ∧ R (.ok (.ret (Value.ref s.heap.objs.size))) { s with heap := s.heap.push { cls := .type "tuple", data := .seq ((List.replicate k.toNat items).foldl (· ++ ·) #[]) } }) :=
  .of_wp fun prog w A R s h => by
    obtain ⟨hp, g, d, tk, os⟩ := s
    obtain ⟨hl, h⟩ := h
    have f1 := AutoSeq1.idx_int
    have c1 : ¬ ((decide (k < -(2 ^ 63 : Int)) || decide (k ≥ 2 ^ 63)) = true) := by
      rw [decide_eq_false (by omega), decide_eq_false (by omega)]; exact Bool.false_ne_true
    have c2 : ¬ ((items.isEmpty || k == 1) = true) := by
      rw [he, beq_eq_false_iff_ne.mpr (by omega)]; exact Bool.false_ne_true
    have c3 : ¬ ((decide (k ≤ 0) || items.isEmpty) = true) := by
      rw [he, decide_eq_false (by omega)]; exact Bool.false_ne_true
    have hk : ((items.size : Int) * k) = ((items.size * k.toNat : Nat) : Int) := by
      rw [Int.natCast_mul]; congr 1; omega
    have hb : (sizeLine : Nat) < 2 ^ 40 := by decide
    have c4 : ¬ ((items.size : Int) * k > (2 ^ 63 - 1) / 8) := by
      rw [hk]; omega
    have c5 : ¬ (Builtin.Tuple.tupleTooMany ((items.size : Int) * k) = true) := by
      rw [hk]
      unfold Builtin.Tuple.tupleTooMany
      simp only [decide_eq_true_eq]
      omega
    have hsz2 : ∀ (m : Nat) (acc : Array Value), ((List.replicate m items).foldl (· ++ ·) acc).size = acc.size + m * items.size := by
      intro m
      induction m with
      | zero => intro acc; simp
      | succ m ih => intro acc; rw [List.replicate_succ, List.foldl_cons, ih, Array.size_append, Nat.succ_mul]; omega
    have htake : sizeOk (.seq ((List.replicate k.toNat items).foldl (· ++ ·) #[])) := by
      show ((List.replicate k.toNat items).foldl (· ++ ·) #[]).size ≤ sizeLine
      rw [hsz2, Nat.mul_comm]
      simpa using hsz
    wp_walk
    rw [if_neg c1]
    show wpAny _ _ (Builtin.Tuple.tupleItemsOf (.ref l) >>= _) _ _ _
    refine wpAny_bind (tupleItemsOf_ ⟨_, hl, rfl, n, rfl⟩ ?_)
    dsimp only
    rw [if_neg c2, if_neg c3]
    rw [if_neg c4, if_neg c5]
    exact wpAny_bind (m := Builtin.Tuple.tupleExact _) (wpAny_newObj_type (wpAny_pure ⟨_, rfl, h⟩) htake)
def rMulT (K : PySem.W.Frag) : R2 := fun x y H Q => ∃ a xs k, x = .ref a ∧ y = .int k ∧ SqT K H a xs ∧ xs ≠ [] ∧ 2 ≤ k ∧ k < 2 ^ 62 ∧ xs.length * k.toNat ≤ sizeLine ∧ ∀ p, H p = none → Q (.ref p) (upd H p (.tup (List.replicate k.toNat xs).flatten))
theorem op_mulT : OpR X (binaryOp .Mult) (rMulT X.K) := by
  intro pins s σ H x y v u Q I rx ry h
  obtain ⟨a, xs, k, rfl, rfl, ha, hx, h2, h3, hz, q⟩ := h
  cases rx
  obtain ⟨t, rfl⟩ := ry
  obtain ⟨its, r1, p1, _⟩ := I.tuple ha
  obtain ⟨⟨cls, dd, data, sl⟩, ho, hc, n, hd⟩ := id p1
  simp only at hc hd
  subst hc hd
  have hl := r1.length
  have he : its.toArray.isEmpty = false := by
    cases its with
    | nil => exact absurd (r1.nil_iff.mp rfl) hx
    | cons a b => rfl
  have hlen : its.toArray.size * k.toNat ≤ sizeLine := by rw [List.size_toArray, ← hl]; exact hz
  have hnew : (List.replicate k.toNat its.toArray).foldl (· ++ ·) #[] = (List.replicate k.toNat its).flatten.toArray := by
    have := foldl_rep its k.toNat []
    rw [List.nil_append] at this
    exact this
  refine wpAny_binaryOp_repeat_ref (T := "tuple") (U := "int") (by decide) ⟨_, ho, rfl⟩ (fun s' => typeIs_int s' k t) noFill_tup_mul F.fills_int_mul F.slot_int_rmul repeat_tup F.slot_int_index.lookup
    (call_meets F.slot_int_rmul (typeIs_int s k t) F.entry_int_rmul (F.args_int_rmul_2 _ _) (rmul_int_tup k t a its.toArray n dd sl)
      ⟨ho, rfl, ⟨_, ho, rfl⟩, call_meets F.slot_tuple_mul ⟨_, ho, rfl⟩ F.entry_tuple_mul (F.args_tuple_mul_2 _ _) (tup_mulW a its.toArray n dd sl k t h2 h3 he hlen) ⟨ho, ?_⟩⟩)
  rw [hnew]
  refine ⟨.ref s.heap.objs.size, _, I.laid (t' := s.toks) (o := .tup (List.replicate k.toNat xs).flatten) (fun b ob q => Heap.get?_push_of_some _ q) (Nat.le_refl _) ?_, rfl, q _ (I.hok.fresh (Nat.le_refl _))⟩
  exact ⟨by rw [len_rep, Nat.mul_comm]; exact hz, _, r1.rep k.toNat, IsTup.new _ _⟩
end
end L2
namespace DL
open PySem PySem.Spec PyProof.Rows L2
/-! ### equality of data -/
mutual
theorem deq_refl : ∀ (d : D) (n : Nat), lean d n = true → deq d d = true
  | .non, _, _ => by unfold deq; rfl
  | .bl b, _, _ => by unfold deq; simp
  | .int b, _, _ => by unfold deq; simp
  | .str b, _, _ => by unfold deq; simp
  | .tup ds, 0, h => by unfold lean at h; cases h
  | .tup ds, n + 1, h => by unfold lean at h; unfold deq; exact deqs_refl ds n h
  | .lst ds, 0, h => by unfold lean at h; cases h
  | .lst ds, n + 1, h => by unfold lean at h; unfold deq; exact deqs_refl ds n h
  | .dct _ _, n, h => by unfold lean at h; cases h
theorem deqs_refl : ∀ (ds : List D) (n : Nat), leans ds n = true → deqs ds ds = true
  | [], _, _ => by unfold deqs; rfl
  | d :: ds, n, h => by
    unfold leans at h
    rw [Bool.and_eq_true] at h
    unfold deqs
    rw [deq_refl d n h.1, deqs_refl ds n h.2]
    rfl
end
theorem deqs_range : ∀ ds es : List D, deqs ds es = ((List.range (min ds.length es.length)).all (fun j => deq (ds.getD j .non) (es.getD j .non)) && ds.length == es.length)
  | [], [] => by unfold deqs; simp
  | [], _ :: _ => by unfold deqs; simp
  | _ :: _, [] => by unfold deqs; simp
  | d :: ds, e :: es => by
    unfold deqs
    rw [deqs_range ds es]
    have h1 : min (d :: ds).length (e :: es).length = min ds.length es.length + 1 := by simp only [List.length_cons]; omega
    rw [h1, List.range_succ_eq_map, List.all_cons, List.all_map]
    have h2 : ((d :: ds).length == (e :: es).length) = (ds.length == es.length) := by
      rw [Bool.eq_iff_iff]
      simp
    rw [h2, Bool.and_assoc]
    rfl
theorem leans_get : ∀ {ds : List D} {n j : Nat} {d : D}, leans ds n = true → ds[j]? = some d → lean d n = true
  | [], _, _, _, _, h => by simp at h
  | d :: ds, n, 0, _, h, e => by
    unfold leans at h
    rw [Bool.and_eq_true] at h
    simp at e; subst e; exact h.1
  | d :: ds, n, j + 1, _, h, e => by
    unfold leans at h
    rw [Bool.and_eq_true] at h
    exact leans_get (j := j) h.2 (by simpa using e)
section
variable {X : Cx} {pins : List (Addr × Obj)} {σ : St} {H : Hp} {s : Shared}
mutual
theorem Rp.inj (I : Inv X pins σ H s) {B B' : BS} : ∀ {d e : D} {n m : Nat} {v : V}, lean d n = true → lean e m = true → Rp X.K H B d v → Rp X.K H B' e v → d = e
  | .non, e, _, m, v, _, le, h, h' => by
    rw [rp_non] at h; subst h
    cases e with
    | non => rfl
    | bl b => rw [rp_bl] at h'; cases h'
    | int b => rw [rp_int] at h'; cases h'
    | str b => rw [rp_str] at h'; cases h'
    | tup b => rw [rp_tup] at h'; obtain ⟨_, _, z, _⟩ := h'; cases z
    | lst b => rw [rp_lst] at h'; obtain ⟨_, _, z, _⟩ := h'; cases z
    | dct a b => unfold lean at le; cases le
  | .bl c, e, _, m, v, _, le, h, h' => by
    rw [rp_bl] at h; subst h
    cases e with
    | non => rw [rp_non] at h'; cases h'
    | bl b => rw [rp_bl] at h'; cases h'; rfl
    | int b => rw [rp_int] at h'; cases h'
    | str b => rw [rp_str] at h'; cases h'
    | tup b => rw [rp_tup] at h'; obtain ⟨_, _, z, _⟩ := h'; cases z
    | lst b => rw [rp_lst] at h'; obtain ⟨_, _, z, _⟩ := h'; cases z
    | dct a b => unfold lean at le; cases le
  | .int c, e, _, m, v, _, le, h, h' => by
    rw [rp_int] at h; subst h
    cases e with
    | non => rw [rp_non] at h'; cases h'
    | bl b => rw [rp_bl] at h'; cases h'
    | int b => rw [rp_int] at h'; cases h'; rfl
    | str b => rw [rp_str] at h'; cases h'
    | tup b => rw [rp_tup] at h'; obtain ⟨_, _, z, _⟩ := h'; cases z
    | lst b => rw [rp_lst] at h'; obtain ⟨_, _, z, _⟩ := h'; cases z
    | dct a b => unfold lean at le; cases le
  | .str c, e, _, m, v, _, le, h, h' => by
    rw [rp_str] at h; subst h
    cases e with
    | non => rw [rp_non] at h'; cases h'
    | bl b => rw [rp_bl] at h'; cases h'
    | int b => rw [rp_int] at h'; cases h'
    | str b => rw [rp_str] at h'; cases h'; rfl
    | tup b => rw [rp_tup] at h'; obtain ⟨_, _, z, _⟩ := h'; cases z
    | lst b => rw [rp_lst] at h'; obtain ⟨_, _, z, _⟩ := h'; cases z
    | dct a b => unfold lean at le; cases le
  | .tup ds, e, 0, m, v, ld, _, _, _ => by unfold lean at ld; cases ld
  | .tup ds, e, n + 1, m, v, ld, le, h, h' => by
    rw [rp_tup] at h
    obtain ⟨a, xs, rfl, q, r⟩ := h
    unfold lean at ld
    cases e with
    | non => rw [rp_non] at h'; cases h'
    | bl b => rw [rp_bl] at h'; cases h'
    | int b => rw [rp_int] at h'; cases h'
    | str b => rw [rp_str] at h'; cases h'
    | tup es =>
      cases m with
      | zero => unfold lean at le; cases le
      | succ m =>
        unfold lean at le
        rw [rp_tup] at h'
        obtain ⟨a', ys, z, q', r'⟩ := h'
        cases z
        have := I.tuple_inj q.to q'.to
        subst this
        rw [Rps.inj I ld le r r']
    | lst es =>
      rw [rp_lst] at h'
      obtain ⟨a', ys, z, q', r'⟩ := h'
      cases z
      obtain ⟨_, _, ⟨o, e1, c1, _⟩, _⟩ := I.tuple q.to
      obtain ⟨_, _, p, _⟩ := I.list q'.to
      obtain ⟨o', e2, c2, _⟩ := p.isList
      rw [e1] at e2; cases e2
      rw [c1] at c2
      injection c2 with z
      exact absurd z (by decide)
    | dct a b => unfold lean at le; cases le
  | .lst ds, e, 0, m, v, ld, _, _, _ => by unfold lean at ld; cases ld
  | .lst ds, e, n + 1, m, v, ld, le, h, h' => by
    rw [rp_lst] at h
    obtain ⟨a, xs, rfl, q, r⟩ := h
    unfold lean at ld
    cases e with
    | non => rw [rp_non] at h'; cases h'
    | bl b => rw [rp_bl] at h'; cases h'
    | int b => rw [rp_int] at h'; cases h'
    | str b => rw [rp_str] at h'; cases h'
    | lst es =>
      cases m with
      | zero => unfold lean at le; cases le
      | succ m =>
        unfold lean at le
        rw [rp_lst] at h'
        obtain ⟨a', ys, z, q', r'⟩ := h'
        cases z
        have := I.list_inj q.to q'.to
        subst this
        rw [Rps.inj I ld le r r']
    | tup es =>
      rw [rp_tup] at h'
      obtain ⟨a', ys, z, q', r'⟩ := h'
      cases z
      obtain ⟨_, _, ⟨o, e1, c1, _⟩, _⟩ := I.tuple q'.to
      obtain ⟨_, _, p, _⟩ := I.list q.to
      obtain ⟨o', e2, c2, _⟩ := p.isList
      rw [e1] at e2; cases e2
      rw [c1] at c2
      injection c2 with z
      exact absurd z (by decide)
    | dct a b => unfold lean at le; cases le
  | .dct a b, e, n, m, v, ld, _, _, _ => by unfold lean at ld; cases ld
theorem Rps.inj (I : Inv X pins σ H s) {B B' : BS} : ∀ {ds es : List D} {n m : Nat} {xs : List V}, leans ds n = true → leans es m = true → Rps X.K H B ds xs → Rps X.K H B' es xs → ds = es
  | [], es, _, _, _, _, _, h, h' => by
    rw [rps_nil] at h; subst h
    have := h'.length
    cases es with
    | nil => rfl
    | cons a b => simp at this
  | d :: ds, es, n, m, _, ld, le, h, h' => by
    rw [rps_cons] at h
    obtain ⟨x, r, rfl, h1, h2⟩ := h
    cases es with
    | nil => rw [rps_nil] at h'; cases h'
    | cons e es =>
      rw [rps_cons] at h'
      obtain ⟨x', r', z, h1', h2'⟩ := h'
      cases z
      unfold leans at ld le
      rw [Bool.and_eq_true] at ld le
      rw [Rp.inj I ld.1 le.1 h1 h1', Rps.inj I ld.2 le.2 h2 h2']
end
/-- what stands behind data -/
theorem view (I : Inv X pins σ H s) {B : BS} {d : D} {n : Nat} {x : V} {u : Value} (l : lean d n = true) (h : Rp X.K H B d x) (r : RelV x u) :
    (d = .non ∧ u = .none) ∨ (∃ b, d = .bl b ∧ u = .bool b) ∨ (∃ i t, d = .int i ∧ u = .int i t) ∨ (∃ z t, d = .str z ∧ u = .str z t) ∨
    (∃ m ds a xs its, n = m + 1 ∧ leans ds m = true ∧ d = .tup ds ∧ x = .ref a ∧ u = .ref a ∧ Rps X.K H B ds xs ∧ Vals xs its ∧ s.heap.IsTuple a its.toArray) ∨
    (∃ m ds a xs its, n = m + 1 ∧ leans ds m = true ∧ d = .lst ds ∧ x = .ref a ∧ u = .ref a ∧ Rps X.K H B ds xs ∧ Vals xs its ∧ s.heap.IsList a its.toArray) := by
  cases d with
  | non => rw [rp_non] at h; subst h; exact .inl ⟨rfl, r⟩
  | bl b => rw [rp_bl] at h; subst h; exact .inr (.inl ⟨b, rfl, r⟩)
  | int i => rw [rp_int] at h; subst h; obtain ⟨t, e⟩ := r; exact .inr (.inr (.inl ⟨i, t, rfl, e⟩))
  | str z => rw [rp_str] at h; subst h; obtain ⟨t, e⟩ := r; exact .inr (.inr (.inr (.inl ⟨z, t, rfl, e⟩)))
  | tup ds =>
    cases n with
    | zero => unfold lean at l; cases l
    | succ m =>
      unfold lean at l
      rw [rp_tup] at h
      obtain ⟨a, xs, rfl, q, rr⟩ := h
      obtain ⟨its, rv, p, _⟩ := I.tuple q.to
      exact .inr (.inr (.inr (.inr (.inl ⟨m, ds, a, xs, its, rfl, l, rfl, rfl, r, rr, rv, p⟩))))
  | lst ds =>
    cases n with
    | zero => unfold lean at l; cases l
    | succ m =>
      unfold lean at l
      rw [rp_lst] at h
      obtain ⟨a, xs, rfl, q, rr⟩ := h
      obtain ⟨its, rv, p, _⟩ := I.list q.to
      exact .inr (.inr (.inr (.inr (.inr ⟨m, ds, a, xs, its, rfl, l, rfl, rfl, r, rr, rv, p.isList⟩))))
  | dct a b => unfold lean at l; cases l
theorem in1_units {A : Around} : A.in1.units = A.units + 1 := rfl
/-- the items' answers, of two rows of data -/
theorem items_eq {ds es : List D} {xs ys : List V} {us ws : List Value} {n m : Nat} {B B' : BS} {A : Around} (ld : leans ds n = true) (le : leans es m = true) (r1 : Rps X.K H B ds xs) (r2 : Rps X.K H B' es ys) (v1 : Vals xs us) (v2 : Vals ys ws)
    (ih : ∀ d e x y u w, lean d n = true → lean e m = true → Rp X.K H B d x → Rp X.K H B' e y → RelV x u → RelV y w → SeqAt.EqAt A s u w (deq d e)) :
    ∀ j (h1 : j < us.toArray.size) (h2 : j < ws.toArray.size), SeqAt.EqAt A s us.toArray[j] ws.toArray[j] (deq (ds.getD j .non) (es.getD j .non)) := by
  intro j h1 h2
  have l1 : j < ds.length := by rw [← r1.length, v1.length]; simpa using h1
  have l2 : j < es.length := by rw [← r2.length, v2.length]; simpa using h2
  obtain ⟨x, ex, rx⟩ := r1.get (List.getElem?_eq_getElem l1)
  obtain ⟨y, ey, ry⟩ := r2.get (List.getElem?_eq_getElem l2)
  obtain ⟨u, eu, ru⟩ := v1.get ex
  obtain ⟨w, ew, rw'⟩ := v2.get ey
  have hu : us.toArray[j] = u := by
    have : us[j]? = some u := eu
    simp at h1
    rw [List.getElem?_eq_getElem h1] at this
    simpa using Option.some.inj this
  have hw : ws.toArray[j] = w := by
    have : ws[j]? = some w := ew
    simp at h2
    rw [List.getElem?_eq_getElem h2] at this
    simpa using Option.some.inj this
  rw [hu, hw]
  have e1 : ds.getD j .non = ds[j] := by simp [List.getD_eq_getElem?_getD, l1]
  have e2 : es.getD j .non = es[j] := by simp [List.getD_eq_getElem?_getD, l2]
  rw [e1, e2]
  exact ih _ _ _ _ _ _ (leans_get ld (List.getElem?_eq_getElem l1)) (leans_get le (List.getElem?_eq_getElem l2)) rx ry ru rw'
set_option maxHeartbeats 0 in
theorem eqAt_D (I : Inv X pins σ H s) {B B' : BS} : ∀ (n m : Nat) (d e : D) (x y : V) (u w : Value) (A : Around), A.units + n < cLine → lean d n = true → lean e m = true → Rp X.K H B d x → Rp X.K H B' e y → RelV x u → RelV y w → SeqAt.EqAt A s u w (deq d e) := by
  intro n
  induction n with
  | zero =>
    intro m d e x y u w A hu ld le hx hy rx ry
    have hu' : A.units < cLine := by omega
    rcases view I ld hx rx with ⟨rfl, rfl⟩ | ⟨b, rfl, rfl⟩ | ⟨i, t, rfl, rfl⟩ | ⟨z, t, rfl, rfl⟩ | ⟨n', _, _, _, _, hn, _⟩ | ⟨n', _, _, _, _, hn, _⟩ <;> (try (exact absurd hn (by omega))) <;>
    rcases view I le hy ry with ⟨rfl, rfl⟩ | ⟨b', rfl, rfl⟩ | ⟨i', t', rfl, rfl⟩ | ⟨z', t', rfl, rfl⟩ | ⟨m', es, a', ys, its', rfl, le', rfl, rfl, rfl, rr', rv', p'⟩ | ⟨m', es, a', ys, its', rfl, le', rfl, rfl, rfl, rr', rv', p'⟩ <;>
    unfold deq <;>
    first
    | with_reducible exact SeqAt.EqAt.same _ | with_reducible exact SeqAt.EqAt.bool_bool _ _ | with_reducible exact SeqAt.EqAt.int_int _ _ _ _ | with_reducible exact SeqAt.EqAt.str_str _ _ _ _ | with_reducible exact SeqAt.EqAt.bool_int _ _ _ | with_reducible exact SeqAt.EqAt.int_bool _ _ _
    | with_reducible exact SeqAt.EqAt.none_bool _ | with_reducible exact SeqAt.EqAt.none_int _ _ | with_reducible exact SeqAt.EqAt.none_str _ _ | with_reducible exact SeqAt.EqAt.bool_none _ | with_reducible exact SeqAt.EqAt.bool_str _ _ _ | with_reducible exact SeqAt.EqAt.int_none _ _ | with_reducible exact SeqAt.EqAt.int_str _ _ _ _
    | with_reducible exact SeqAt.EqAt.str_none _ _ | with_reducible exact SeqAt.EqAt.str_bool _ _ _ | with_reducible exact SeqAt.EqAt.str_int _ _ _ _
    | with_reducible exact SeqAt.EqAt.none_list p' hu' | with_reducible exact SeqAt.EqAt.bool_list _ p' hu' | with_reducible exact SeqAt.EqAt.int_list _ _ p' hu' | with_reducible exact SeqAt.EqAt.str_list _ _ p' hu'
    | with_reducible exact SeqAt.EqAt.none_tuple p' hu' | with_reducible exact SeqAt.EqAt.bool_tuple _ p' hu' | with_reducible exact SeqAt.EqAt.int_tuple _ _ p' hu' | with_reducible exact SeqAt.EqAt.str_tuple _ _ p' hu'
  | succ n ih =>
    intro m d e x y u w A hu ld le hx hy rx ry
    have hu' : A.units < cLine := by omega
    have hin : A.in1.units + n < cLine := by rw [in1_units]; omega
    rcases view I ld hx rx with ⟨rfl, rfl⟩ | ⟨b, rfl, rfl⟩ | ⟨i, t, rfl, rfl⟩ | ⟨z, t, rfl, rfl⟩ | ⟨n', ds, a, xs, its, hn, ld', rfl, rfl, rfl, rr, rv, p⟩ | ⟨n', ds, a, xs, its, hn, ld', rfl, rfl, rfl, rr, rv, p⟩ <;>
    rcases view I le hy ry with ⟨rfl, rfl⟩ | ⟨b', rfl, rfl⟩ | ⟨i', t', rfl, rfl⟩ | ⟨z', t', rfl, rfl⟩ | ⟨m', es, a', ys, its', rfl, le', rfl, rfl, rfl, rr', rv', p'⟩ | ⟨m', es, a', ys, its', rfl, le', rfl, rfl, rfl, rr', rv', p'⟩
    case inr.inr.inr.inr.inl.inr.inr.inr.inr.inl =>
      cases hn
      by_cases hab : a = a'
      · subst hab
        have e : D.tup ds = D.tup es := Rp.inj I ld le hx hy
        rw [← e, deq_refl _ _ ld]
        exact SeqAt.EqAt.same _
      · refine SeqAt.EqAt.of_refs hab ?_
        have := SeqAt.RcAt.tuples (e := fun j => deq (ds.getD j .non) (es.getD j .non)) p p' hu' (items_eq ld' le' rr rr' rv rv' fun d e x y u w h1 h2 h3 h4 h5 h6 => ih m' d e x y u w A.in1 hin h1 h2 h3 h4 h5 h6)
        unfold deq
        rw [deqs_range]
        simpa [← rv.length, ← rv'.length, rr.length, rr'.length] using this
    case inr.inr.inr.inr.inr.inr.inr.inr.inr.inr =>
      cases hn
      by_cases hab : a = a'
      · subst hab
        have e : D.lst ds = D.lst es := Rp.inj I ld le hx hy
        rw [← e, deq_refl _ _ ld]
        exact SeqAt.EqAt.same _
      · refine SeqAt.EqAt.of_refs hab ?_
        have s1 : its.toArray.size = ds.length := by rw [List.size_toArray, ← rv.length, rr.length]
        have s2 : its'.toArray.size = es.length := by rw [List.size_toArray, ← rv'.length, rr'.length]
        unfold deq
        rw [deqs_range]
        by_cases hl : ds.length = es.length
        · have := SeqAt.RcAt.lists (e := fun j => deq (ds.getD j .non) (es.getD j .non)) p p' (by rw [s1, s2, hl]) hu' (items_eq ld' le' rr rr' rv rv' fun d e x y u w h1 h2 h3 h4 h5 h6 => ih m' d e x y u w A.in1 hin h1 h2 h3 h4 h5 h6)
          rw [s1] at this
          rw [hl] at this ⊢
          simpa using this
        · have := SeqAt.RcAt.lists_lengths (A := A) p p' (by rw [s1, s2]; simpa using hl) hu'
          rw [beq_eq_false_iff_ne.mpr hl, Bool.and_false]
          exact this
    all_goals
      unfold deq
      first
      | with_reducible exact SeqAt.EqAt.same _ | with_reducible exact SeqAt.EqAt.bool_bool _ _ | with_reducible exact SeqAt.EqAt.int_int _ _ _ _ | with_reducible exact SeqAt.EqAt.str_str _ _ _ _ | with_reducible exact SeqAt.EqAt.bool_int _ _ _ | with_reducible exact SeqAt.EqAt.int_bool _ _ _
      | with_reducible exact SeqAt.EqAt.none_bool _ | with_reducible exact SeqAt.EqAt.none_int _ _ | with_reducible exact SeqAt.EqAt.none_str _ _ | with_reducible exact SeqAt.EqAt.bool_none _ | with_reducible exact SeqAt.EqAt.bool_str _ _ _ | with_reducible exact SeqAt.EqAt.int_none _ _ | with_reducible exact SeqAt.EqAt.int_str _ _ _ _
      | with_reducible exact SeqAt.EqAt.str_none _ _ | with_reducible exact SeqAt.EqAt.str_bool _ _ _ | with_reducible exact SeqAt.EqAt.str_int _ _ _ _
      | with_reducible exact SeqAt.EqAt.none_list p' hu' | with_reducible exact SeqAt.EqAt.bool_list _ p' hu' | with_reducible exact SeqAt.EqAt.int_list _ _ p' hu' | with_reducible exact SeqAt.EqAt.str_list _ _ p' hu'
      | with_reducible exact SeqAt.EqAt.none_tuple p' hu' | with_reducible exact SeqAt.EqAt.bool_tuple _ p' hu' | with_reducible exact SeqAt.EqAt.int_tuple _ _ p' hu' | with_reducible exact SeqAt.EqAt.str_tuple _ _ p' hu'
      | with_reducible exact SeqAt.EqAt.list_none p hu' | with_reducible exact SeqAt.EqAt.list_bool _ p hu' | with_reducible exact SeqAt.EqAt.list_int _ _ p hu' | with_reducible exact SeqAt.EqAt.list_str _ _ p hu'
      | with_reducible exact SeqAt.EqAt.tuple_none p hu' | with_reducible exact SeqAt.EqAt.tuple_bool _ p hu' | with_reducible exact SeqAt.EqAt.tuple_int _ _ p hu' | with_reducible exact SeqAt.EqAt.tuple_str _ _ p hu'
      | with_reducible exact SeqAt.EqAt.list_tuple p p' hu' | with_reducible exact SeqAt.EqAt.tuple_list p p' hu'
end
end DL
namespace DL
open PySem PySem.Spec PyProof.Rows L2
section
variable {X : Cx} {pins : List (Addr × Obj)} {σ : St} {H : Hp} {s : Shared}
set_option maxHeartbeats 0 in
theorem rcAt_D (I : Inv X pins σ H s) {B B' : BS} (n m : Nat) (d e : D) (x y : V) (u w : Value) (A : Around) (hu : A.units + n < cLine) (ld : lean d n = true) (le : lean e m = true) (hx : Rp X.K H B d x) (hy : Rp X.K H B' e y) (rx : RelV x u) (ry : RelV y w) :
    SeqAt.RcAt A s u w (deq d e) ∧ SeqAt.RcNeAt A s u w (!deq d e) := by
  have hu' : A.units < cLine := by omega
  rcases view I ld hx rx with ⟨rfl, rfl⟩ | ⟨b, rfl, rfl⟩ | ⟨i, t, rfl, rfl⟩ | ⟨z, t, rfl, rfl⟩ | ⟨n', ds, a, xs, its, hn, ld', rfl, rfl, rfl, rr, rv, p⟩ | ⟨n', ds, a, xs, its, hn, ld', rfl, rfl, rfl, rr, rv, p⟩ <;>
  rcases view I le hy ry with ⟨rfl, rfl⟩ | ⟨b', rfl, rfl⟩ | ⟨i', t', rfl, rfl⟩ | ⟨z', t', rfl, rfl⟩ | ⟨m', es, a', ys, its', rfl, le', rfl, rfl, rfl, rr', rv', p'⟩ | ⟨m', es, a', ys, its', rfl, le', rfl, rfl, rfl, rr', rv', p'⟩
  case inr.inr.inr.inr.inl.inr.inr.inr.inr.inl =>
    subst hn
    have hin : A.in1.units + n' < cLine := by rw [in1_units]; omega
    have hit := items_eq (A := A.in1) ld' le' rr rr' rv rv' fun d e x y u w h1 h2 h3 h4 h5 h6 => eqAt_D I n' m' d e x y u w A.in1 hin h1 h2 h3 h4 h5 h6
    have q1 := SeqAt.RcAt.tuples (e := fun j => deq (ds.getD j .non) (es.getD j .non)) p p' hu' hit
    have q2 := SeqAt.RcNeAt.tuples (e := fun j => deq (ds.getD j .non) (es.getD j .non)) p p' hu' hit
    unfold deq
    rw [deqs_range]
    have s1 : its.toArray.size = ds.length := by rw [List.size_toArray, ← rv.length, rr.length]
    have s2 : its'.toArray.size = es.length := by rw [List.size_toArray, ← rv'.length, rr'.length]
    rw [s1, s2] at q1 q2
    exact ⟨q1, q2⟩
  case inr.inr.inr.inr.inr.inr.inr.inr.inr.inr =>
    subst hn
    have hin : A.in1.units + n' < cLine := by rw [in1_units]; omega
    have hit := items_eq (A := A.in1) ld' le' rr rr' rv rv' fun d e x y u w h1 h2 h3 h4 h5 h6 => eqAt_D I n' m' d e x y u w A.in1 hin h1 h2 h3 h4 h5 h6
    have s1 : its.toArray.size = ds.length := by rw [List.size_toArray, ← rv.length, rr.length]
    have s2 : its'.toArray.size = es.length := by rw [List.size_toArray, ← rv'.length, rr'.length]
    unfold deq
    rw [deqs_range]
    by_cases hl : ds.length = es.length
    · have q1 := SeqAt.RcAt.lists (e := fun j => deq (ds.getD j .non) (es.getD j .non)) p p' (by rw [s1, s2, hl]) hu' hit
      have q2 := SeqAt.RcNeAt.lists (e := fun j => deq (ds.getD j .non) (es.getD j .non)) p p' (by rw [s1, s2, hl]) hu' hit
      rw [s1] at q1 q2
      rw [hl] at q1 q2 ⊢
      simp only [Nat.min_self, beq_self_eq_true, Bool.and_true]
      exact ⟨q1, q2⟩
    · have q1 := SeqAt.RcAt.lists_lengths (A := A) p p' (by rw [s1, s2]; simpa using hl) hu'
      have q2 := SeqAt.RcNeAt.lists_lengths (A := A) p p' (by rw [s1, s2]; simpa using hl) hu'
      rw [beq_eq_false_iff_ne.mpr hl, Bool.and_false]
      exact ⟨q1, q2⟩
  all_goals
    unfold deq
    constructor
    · first
      | with_reducible exact SeqAt.RcAt.none_none | with_reducible exact SeqAt.RcAt.bool_bool _ _ | with_reducible exact SeqAt.RcAt.int_int _ _ _ _ | with_reducible exact SeqAt.RcAt.str_str _ _ _ _ | with_reducible exact SeqAt.RcAt.bool_int _ _ _ | with_reducible exact SeqAt.RcAt.int_bool _ _ _
      | with_reducible exact SeqAt.RcAt.none_bool _ | with_reducible exact SeqAt.RcAt.none_int _ _ | with_reducible exact SeqAt.RcAt.none_str _ _ | with_reducible exact SeqAt.RcAt.bool_none _ | with_reducible exact SeqAt.RcAt.bool_str _ _ _ | with_reducible exact SeqAt.RcAt.int_none _ _ | with_reducible exact SeqAt.RcAt.int_str _ _ _ _
      | with_reducible exact SeqAt.RcAt.str_none _ _ | with_reducible exact SeqAt.RcAt.str_bool _ _ _ | with_reducible exact SeqAt.RcAt.str_int _ _ _ _
      | with_reducible exact SeqAt.RcAt.none_list p' hu' | with_reducible exact SeqAt.RcAt.bool_list _ p' hu' | with_reducible exact SeqAt.RcAt.int_list _ _ p' hu' | with_reducible exact SeqAt.RcAt.str_list _ _ p' hu'
      | with_reducible exact SeqAt.RcAt.none_tuple p' hu' | with_reducible exact SeqAt.RcAt.bool_tuple _ p' hu' | with_reducible exact SeqAt.RcAt.int_tuple _ _ p' hu' | with_reducible exact SeqAt.RcAt.str_tuple _ _ p' hu'
      | with_reducible exact SeqAt.RcAt.list_none p hu' | with_reducible exact SeqAt.RcAt.list_bool _ p hu' | with_reducible exact SeqAt.RcAt.list_int _ _ p hu' | with_reducible exact SeqAt.RcAt.list_str _ _ p hu'
      | with_reducible exact SeqAt.RcAt.tuple_none p hu' | with_reducible exact SeqAt.RcAt.tuple_bool _ p hu' | with_reducible exact SeqAt.RcAt.tuple_int _ _ p hu' | with_reducible exact SeqAt.RcAt.tuple_str _ _ p hu'
      | with_reducible exact SeqAt.RcAt.list_tuple p p' hu' | with_reducible exact SeqAt.RcAt.tuple_list p p' hu'
    · try rw [Bool.not_false]
      try rw [Bool.not_true]
      first
      | with_reducible exact SeqAt.RcNeAt.none_none | with_reducible exact SeqAt.RcNeAt.bool_bool _ _ | with_reducible exact SeqAt.RcNeAt.int_int _ _ _ _ | with_reducible exact SeqAt.RcNeAt.str_str _ _ _ _ | with_reducible exact SeqAt.RcNeAt.bool_int _ _ _ | with_reducible exact SeqAt.RcNeAt.int_bool _ _ _
      | with_reducible exact SeqAt.RcNeAt.none_bool _ | with_reducible exact SeqAt.RcNeAt.none_int _ _ | with_reducible exact SeqAt.RcNeAt.none_str _ _ | with_reducible exact SeqAt.RcNeAt.bool_none _ | with_reducible exact SeqAt.RcNeAt.bool_str _ _ _ | with_reducible exact SeqAt.RcNeAt.int_none _ _ | with_reducible exact SeqAt.RcNeAt.int_str _ _ _ _
      | with_reducible exact SeqAt.RcNeAt.str_none _ _ | with_reducible exact SeqAt.RcNeAt.str_bool _ _ _ | with_reducible exact SeqAt.RcNeAt.str_int _ _ _ _
      | with_reducible exact SeqAt.RcNeAt.none_list p' hu' | with_reducible exact SeqAt.RcNeAt.bool_list _ p' hu' | with_reducible exact SeqAt.RcNeAt.int_list _ _ p' hu' | with_reducible exact SeqAt.RcNeAt.str_list _ _ p' hu'
      | with_reducible exact SeqAt.RcNeAt.none_tuple p' hu' | with_reducible exact SeqAt.RcNeAt.bool_tuple _ p' hu' | with_reducible exact SeqAt.RcNeAt.int_tuple _ _ p' hu' | with_reducible exact SeqAt.RcNeAt.str_tuple _ _ p' hu'
      | with_reducible exact SeqAt.RcNeAt.list_none p hu' | with_reducible exact SeqAt.RcNeAt.list_bool _ p hu' | with_reducible exact SeqAt.RcNeAt.list_int _ _ p hu' | with_reducible exact SeqAt.RcNeAt.list_str _ _ p hu'
      | with_reducible exact SeqAt.RcNeAt.tuple_none p hu' | with_reducible exact SeqAt.RcNeAt.tuple_bool _ p hu' | with_reducible exact SeqAt.RcNeAt.tuple_int _ _ p hu' | with_reducible exact SeqAt.RcNeAt.tuple_str _ _ p hu'
      | with_reducible exact SeqAt.RcNeAt.list_tuple p p' hu' | with_reducible exact SeqAt.RcNeAt.tuple_list p p' hu'
end
section
variable {X : Cx} {K : PySem.W.Frag} {e a b : Expr} {es : List Expr} {pos p : Pos} {g ga gb : Ds → Option D} {gA : Ds → Option (List D)}
def rEqX (K : PySem.W.Frag) (neg : Bool) : R2 := fun x y H Q => ∃ B B' dx dy, Rp K H B dx x ∧ Rp K H B' dy y ∧ lean dx 50 = true ∧ lean dy 50 = true ∧ Q (.bl (xor neg (deq dx dy))) H
theorem op_eqX (hu : X.A.units + 64 < cLine) : OpR X (compareOp .Eq) (rEqX X.K false) := by
  intro pins s σ H x y v u Q I rx ry h
  obtain ⟨B, B', dx, dy, hx, hy, lx, ly, q⟩ := h
  exact (rcAt_D I 50 50 dx dy x y v u X.A (by omega) lx ly hx hy rx ry).1 _ _ _ _ ⟨.bl _, H, I, rfl, by rw [Bool.false_xor] at q; exact q⟩
theorem op_neX (hu : X.A.units + 64 < cLine) : OpR X (compareOp .NotEq) (rEqX X.K true) := by
  intro pins s σ H x y v u Q I rx ry h
  obtain ⟨B, B', dx, dy, hx, hy, lx, ly, q⟩ := h
  exact (rcAt_D I 50 50 dx dy x y v u X.A (by omega) lx ly hx hy rx ry).2 _ _ _ _ ⟨.bl _, H, I, rfl, by rw [Bool.true_xor] at q; exact q⟩
theorem op2_eqX : Op2 K (rEqX K false) eqDD := by
  intro H B x y dx dy d Q hb rx ry h k
  unfold eqDD at h
  split at h
  · rename_i hl
    cases h
    exact ⟨B, B, dx, dy, rx, ry, hl.1, hl.2, k _ H (Same.refl H) (by rw [rp_bl, Bool.false_xor])⟩
  · cases h
theorem op2_neX : Op2 K (rEqX K true) neDD := by
  intro H B x y dx dy d Q hb rx ry h k
  unfold neDD at h
  split at h
  · rename_i hl
    cases h
    exact ⟨B, B, dx, dy, rx, ry, hl.1, hl.2, k _ H (Same.refl H) (by rw [rp_bl, Bool.true_xor])⟩
  · cases h
/-! ### + and * and slices in full -/
theorem op2_addA : Op2 K (fun x y H Q => rI0 (fun i j => .int (i + j)) x y H Q ∨ (∃ i j, x = .str i ∧ y = .str j ∧ i.length + j.length ≤ sizeLine ∧ Q (.str (i ++ j)) H) ∨ rCatL K x y H Q ∨ rCatT K x y H Q ∨ rCatT0 K x y H Q) addA := by
  intro H B x y dx dy d Q hb rx ry h k
  cases dx <;> cases dy <;> simp only [addA] at h <;> try cases h
  · rw [rp_int] at rx ry
    subst rx ry
    exact .inl ⟨_, _, rfl, rfl, k _ H (Same.refl H) (by rw [rp_int])⟩
  · split at h
    · cases h
      rw [rp_str] at rx ry
      subst rx ry
      exact .inr (.inl ⟨_, _, rfl, rfl, by assumption, k _ H (Same.refl H) (by rw [rp_str])⟩)
    · cases h
  · split at h
    · rename_i hz
      cases h
      have ry0 := ry
      have rx0 := rx
      rw [rp_tup] at rx ry
      obtain ⟨a, xs, rfl, q1, r1⟩ := rx
      obtain ⟨b, ys, rfl, q2, r2⟩ := ry
      by_cases he : xs = []
      · subst he
        have e : ‹List D› = ‹List D› := rfl
        have hn := r1.length
        simp at hn
        have hn' := List.length_eq_zero_iff.mp hn.symm
        subst hn'
        exact .inr (.inr (.inr (.inr ⟨a, b, ys, rfl, rfl, q1.to, q2.to, k _ H (Same.refl H) (by rw [List.nil_append]; exact ry0)⟩)))
      · refine .inr (.inr (.inr (.inl ⟨a, b, xs, ys, rfl, rfl, q1.to, q2.to, he, by rw [r1.length, r2.length]; exact hz, fun z => ?_, fun z p hp => k _ _ (same_upd hp) (rp_newT hb hp (r1.append r2))⟩)))
        subst z
        have hn := r2.length
        simp at hn
        have hn' := List.length_eq_zero_iff.mp hn.symm
        subst hn'
        exact k _ H (Same.refl H) (by rw [List.append_nil]; exact rx0)
    · cases h
  · split at h
    · rename_i hz
      cases h
      rw [rp_lst] at rx ry
      obtain ⟨a, xs, rfl, q1, r1⟩ := rx
      obtain ⟨b, ys, rfl, q2, r2⟩ := ry
      exact .inr (.inr (.inl ⟨a, b, xs, ys, rfl, rfl, q1.to, q2.to, by rw [r1.length, r2.length]; exact hz, fun p hp => k _ _ (same_upd hp) (rp_newL hb hp (r1.append r2))⟩))
    · cases h
theorem pd_addA (ha : PD X a ga) (hb : PD X b gb) : PD X (.BinOp a .Add b pos) (o2 ga gb addA) := pd_op (op_add.or (op_add_str.or (op_catL.or (op_catT.or op_catT0)))) op2_addA ha hb
theorem rps_rep {H : Hp} {B : BS} {ds : List D} {xs : List V} (h : Rps K H B ds xs) : ∀ k : Nat, Rps K H B (List.replicate k ds).flatten (List.replicate k xs).flatten
  | 0 => by simp [rps_nil]
  | k + 1 => by
    rw [List.replicate_succ, List.replicate_succ, List.flatten_cons, List.flatten_cons]
    exact h.append (rps_rep h k)
theorem op2_mulA : Op2 K (fun x y H Q => rI CMul (fun i j => .int (i * j)) x y H Q ∨ rMulS x y H Q ∨ rMulT K x y H Q) mulA := by
  intro H B x y dx dy d Q hb rx ry h k
  cases dx <;> cases dy <;> simp only [mulA] at h <;> try cases h
  · split at h
    · cases h
      rw [rp_int] at rx ry
      subst rx ry
      exact .inl ⟨_, _, rfl, rfl, by assumption, k _ H (Same.refl H) (by rw [rp_int])⟩
    · cases h
  · split at h
    · rename_i hz
      cases h
      rw [rp_str] at rx
      rw [rp_int] at ry
      subst rx ry
      exact .inr (.inl ⟨_, _, rfl, rfl, hz.1, hz.2.1, hz.2.2, k _ H (Same.refl H) (by rw [rp_str]; rfl)⟩)
    · cases h
  · split at h
    · rename_i hz
      cases h
      rw [rp_tup] at rx
      rw [rp_int] at ry
      subst ry
      obtain ⟨a, xs, rfl, q1, r1⟩ := rx
      refine .inr (.inr ⟨a, xs, _, rfl, rfl, q1.to, fun z => hz.1 ?_, hz.2.1, hz.2.2.1, by rw [r1.length]; exact hz.2.2.2, fun p hp => k _ _ (same_upd hp) (rp_newT hb hp (rps_rep r1 _))⟩)
      subst z
      have hn := r1.length
      simp at hn
      exact List.length_eq_zero_iff.mp hn.symm
    · cases h
theorem pd_mulA (ha : PD X a ga) (hb : PD X b gb) : PD X (.BinOp a .Mult b pos) (o2 ga gb mulA) := pd_op (op_mul.or (op_mulS.or op_mulT)) op2_mulA ha hb
/-! ### more functions -/
end
end DL
/-! A set made of a list of texts, and its length. -/
namespace SetS
open PySem PySem.Spec PyProof.Rows DL
section
variable {prog : Program} {w : World} {A : Around} {R : Result → Shared → Prop} {I : Addr} {fp wr : List Addr} {G : Array GenState → Array GenState → Prop} {P : Nat → Value → Prop} {St : Nat → Shared → Prop}
end
section
variable {prog : Program} {w : World} {A : Around} {E : Value → Shared → Prop} {s : Shared}
end
end SetS
namespace DL
open PySem PySem.Spec PyProof.Rows L2
section
variable {X : Cx} {K : PySem.W.Frag} {e a b : Expr} {es : List Expr} {pos p pos2 p2 : Pos} {g ga gb : Ds → Option D} {gA : Ds → Option (List D)}
/-! ### x = [.. for ..], one's own -/
end
end DL
namespace DL
open PySem PySem.Spec PyProof.Rows L2
section
variable {X : Cx} {K : PySem.W.Frag} {e a b : Expr} {es : List Expr} {pos p pos2 p2 : Pos} {g ga gb : Ds → Option D} {gA : Ds → Option (List D)}
/-- list(x), a new one -/
theorem pdf_list {x : Str} (hm : X.mg x = none) (hv : bootBuiltins x = some (.type "list")) (ha : PD X e g) (hg : Gl X x := by rfl)
    (hn : x ≠ "__name__" := by decide) (hdb : (x == ("__debug__" : Str)) = false := by decide) (he : starEach [e] X.env = (false, eval e X.env) :: starEach [] X.env := by rfl) (hpl : (backTo pos (starEach [] X.env)).any (·.1) = false := by rfl) :
    PDF X (.Call (.Name x p) [e] [] pos) (oA (consA g nilA) lstOfD) := .mk fun B δ => (pe_callTy call_list_of hg hm hv (pa_cons (ha B δ) pa_nil he) hn hdb he hpl).imp fun σ H Q ⟨d, en, h, k⟩ => by
  unfold oA consA nilA at h
  cases e1 : g δ with
  | none => rw [e1] at h; cases h
  | some x =>
    rw [e1] at h
    simp only [Option.bind_some, Option.map_some] at h
    refine ⟨x, en, e1, fun v H1 s1 r1 => ?_⟩
    cases x <;> simp only [lstOfD] at h <;> try cases h
    · rw [rp_tup] at r1
      obtain ⟨q, xs, rfl, hq, rr⟩ := r1
      exact ⟨q, xs, rfl, .inr hq.to, fun l hl => k l _ (s1.free hl) (s1.trans (same_upd hl)) ⟨_, upd_same, rr.mono (Gr.fresh hl)⟩⟩
    · rw [rp_lst] at r1
      obtain ⟨q, xs, rfl, hq, rr⟩ := r1
      exact ⟨q, xs, rfl, .inl hq.to, fun l hl => k l _ (s1.free hl) (s1.trans (same_upd hl)) ⟨_, upd_same, rr.mono (Gr.fresh hl)⟩⟩
end
end DL
namespace DL
open PySem PySem.Spec PyProof.Rows L2
section
variable {X : Cx} {e : Expr} {es : List Expr} {pos p : Pos} {g : Ds → Option D} {gA : Ds → Option (List D)}
/-- a def that gives back a new list or dict, by its name -/
def FnN (P : Program) (w : World) (K : PySem.W.Frag) (mg : Str → Option Value) (base : Heap) (x : Str) (k : Nat) (ps : List Str) (f : List D → Option D) : Prop :=
  ∃ (fa : Addr) (fd : FuncData), FnOk P w K mg base CX0 k fa fd ps (spN K f) ∧ mg x = some (.ref fa) ∧ PySem.W.keepIn K (.ref fa) = true ∧ Binds K fd ps []
theorem pdf_fn {k m : Nat} {ps : List Str} {x : Str} {f : List D → Option D} (C : FnN X.prog X.w X.K X.mg X.base x k ps f) (hr : Room m X.A) (hk : k ≤ m) (ha : PDA X (e :: es) gA) (hg : Gl X x := by rfl) (hdb : (x == ("__debug__" : Str)) = false := by decide)
    (he : starEach (e :: es) X.env = (false, eval e X.env) :: starEach es X.env := by rfl) (hpl : (backTo pos (starEach es X.env)).any (·.1) = false := by rfl) : PDF X (.Call (.Name x p) (e :: es) [] pos) (oA gA f) := by
  obtain ⟨fa, fd, F, hm, kp, hb⟩ := C
  exact .mk fun B δ => (pe_call (E := E0) F (hr.mono hk) hg hm kp hb .nil pass0 (ha B δ) hdb he hpl).imp fun σ H Q h => by
    obtain ⟨d, en, h, k⟩ := h
    unfold oA at h
    cases e1 : gA δ with
    | none => rw [e1] at h; cases h
    | some ds =>
      rw [e1] at h
      refine ⟨ds, en, e1, fun vs H1 s1 r1 => ?_⟩
      show spN X.K f (vs ++ []) H1 Q E0
      rw [List.append_nil]
      exact ⟨B, ds, d, (en.same s1).bad, r1, h, fun p H' hp s r => k p H' (s1.free hp) (s1.trans s) r⟩
/-- the same def where its result is but read -/
theorem pd_fnN {k m : Nat} {ps : List Str} {x : Str} {f : List D → Option D} (C : FnN X.prog X.w X.K X.mg X.base x k ps f) (hr : Room m X.A) (hk : k ≤ m) (ha : PDA X (e :: es) gA) (hg : Gl X x := by rfl) (hdb : (x == ("__debug__" : Str)) = false := by decide)
    (he : starEach (e :: es) X.env = (false, eval e X.env) :: starEach es X.env := by rfl) (hpl : (backTo pos (starEach es X.env)).any (·.1) = false := by rfl) : PD X (.Call (.Name x p) (e :: es) [] pos) (oA gA f) := (pdf_fn C hr hk ha hg hdb he hpl).pd
theorem psd_retF (h : PDF X e g) : PSD X (.Return (some e) pos) (retF g) := .mk fun H₀ B₀ δ pins s σ H D I ⟨r, en, e1, k⟩ => by
  unfold retF at e1
  obtain ⟨B, b1, b2, env⟩ := en.ex
  cases e2 : g δ with
  | none => rw [e2] at e1; cases e1
  | some d =>
    rw [e2] at e1
    cases e1
    exact ps_ret (h B δ) pins s σ H D I ⟨d, env, e2, fun p H' hp s' r => k p H' (en.same.free hp) (en.same.trans s') (r.mono (fun o h => h) (Gr.less fun a z => z.imp (b1 a) id))⟩
end
end DL
namespace DL
open PySem
/-! tuple(zip(a, b)) over data -/
@[simp] def zipTD : List D → Option D
  | [.lst ds, .lst es] => some (.tup ((ds.zip es).map fun p => .tup [p.1, p.2]))
  | _ => none
@[simp] def revD : List D → Option D
  | [.lst ds] => some (.lst ds.reverse)
  | _ => none
def enumD (ds : List D) : List D := (List.range ds.length).map fun (k : Nat) => .tup [.int (k : Int), ds.getD k .non]
def enumLD : List D → Option (List D)
  | [.lst ds] => some (enumD ds)
  | _ => none
def enumI (gA : GA) : GA := fun δ => (gA δ).bind enumLD
@[simp] def dictOfD : List D → Option D
  | [.dct (.inl ks) ds] => some (.dct (.inl ks) ds)
  | _ => none
@[simp] def asSeq : D → Option (List D)
  | .lst ds => some ds
  | .tup ds => some ds
  | _ => none
@[simp] def anyI (g : GE) : GA := fun δ => (g δ).bind asSeq
mutual
/-- neither lists nor dicts -/
def tree : D → Bool
  | .lst _ => false
  | .dct _ _ => false
  | .tup ds => trees ds
  | _ => true
def trees : List D → Bool
  | [] => true
  | d :: ds => tree d && trees ds
end
def borT (g : GE) : GE := fun δ => (g (frz δ)).bind fun d => if tree d = true then some d else none
theorem borT_of {g : GE} {δ : Ds} {d : D} (h : g (frz δ) = some d) (ht : tree d = true) : borT g δ = some d := by
  unfold borT
  rw [h, Option.bind_some, if_pos ht]
theorem rng1_of {gA : GA} {δ : Ds} {n : Int} (h : gA δ = some [.int n]) (h1 : -(2 ^ 62) ≤ n) (h2 : n < 2 ^ 62) : rng1I gA δ = some (rngD 0 n) := by
  unfold rng1I
  rw [h, Option.bind_some]
  simp only [rng1D]
  rw [if_pos ⟨h1, h2⟩]
theorem len_of {g : GE} {δ : Ds} {ds : List D} (h : g δ = some (.lst ds)) : oA (consA g nilA) lenD δ = some (.int (ds.length : Int)) := by
  rw [oA_of (cons_of h rfl)]
  rfl
end DL
/-! list(reversed(xs)). -/
namespace RevL
open PySem PySem.Spec PyProof.Rows
theorem lri_no_len : typeLookup (.type "list_reverseiterator") "__len__" = pure none := by rw [typeLookup_type, builtinLookup_eq_fast]; kernel_rfl
theorem lri_hint : typeLookup (.type "list_reverseiterator") "__length_hint__" = pure (some (.builtin "list_reverseiterator.__length_hint__")) := by rw [typeLookup_type, builtinLookup_eq_fast]; kernel_rfl
theorem sub_lri : isSubtype (.type "list_reverseiterator") (.type "list_reverseiterator") = pure true := by rw [isSubtype_type]; kernel_rfl
section
variable {prog : Program} {w : World} {A : Around} {s : Shared} {R : Result → Shared → Prop}
variable {I : Addr} {fp wr : List Addr} {G : Array GenState → Array GenState → Prop} {n : Nat} {P : Nat → Value → Prop} {St : Nat → Shared → Prop}
/-- a list takes all that a reverse iterator gives -/
theorem ext_rev (W : WalksS prog w A.in1 I fp wr G n P St) (hT : ∀ i s, St i s → s.TypeIs (.ref I) "list_reverseiterator") (C : Addr) (res : Value) (c0 : Nat) (st : St 0 s) (hC : C ∉ fp) (hI : I ∈ fp)
    (gC : s.heap.get? C = some { cls := .type "list", data := .seq #[] c0 })
    (hR : ∀ s' acc' c', Moved (C :: wr) G s s' → s'.heap.get? C = some { cls := .type "list", dict := none, data := .seq acc' c', slots := #[] } → ItemsOf P acc' n → R (.ok (.ret res)) s') (hn : n ≤ sizeLine) :
    wpAny (model prog w) A.in1 (Builtin.List.listExtendWith (.ref C) (.ref I) res)
      (fun fin s' => match fin with | .done f => R (.ok f) s' | .again c' => c'.quiet = true ∧ codeAny (model prog w) A c' R s') (fun e s' => R (.error e) s') s := by
  have ne : C ≠ I := fun e => hC (e ▸ hI)
  unfold Builtin.List.listExtendWith
  refine wpAny_bind (wpAny_typeOf (hT 0 _ st) (by
    have q1 : Builtin.List.listSameRef (.ref C) (.ref I) = false := by simp [Builtin.List.listSameRef, ne]
    have q2 : (Value.type "list_reverseiterator" == Value.type "list") = false := by decide
    have q3 : (Value.type "list_reverseiterator" == Value.type "tuple") = false := by decide
    simp only [q1, q2, q3, Bool.or_false, Bool.false_eq_true, if_false]
    refine wpAny_bind (W.self 0 _ _ _ st (wpAny_bind (wpAny_holding (by
      unfold Builtin.List.listLengthHint
      refine wpAny_bind (wpAny_specialOf (hT 0 _ st) lri_no_len (by
        show wpAny _ A.in1 (specialOf (Value.ref I) (Str.ofString "__length_hint__") >>= _) _ _ _
        refine wpAny_bind (wpAny_specialOf (hT 0 _ st) lri_hint ?_)
        refine wpAny_bind (wpAny_isInstance (hT 0 _ st) sub_lri ?_)
        rw [if_neg (by decide)]
        dsimp only
        rw [if_pos (by decide +kernel), if_neg (by decide)]
        refine wpAny_pure ?_
        rw [if_neg (by decide +kernel)]
        refine wpAny_pure ⟨plainId_quiet PySem.F.plain_extend_loop _, ?_⟩
        exact codeAny_extend_loopS W hn _ hC _ n 0 _ _ _ rfl (Nat.zero_le _) st gC (ItemsOf.nil P) fun s' acc' c' m e hacc => hR s' acc' c' m e hacc))))))))
theorem init_rev (W : WalksS prog w A.in1 I fp wr G n P St) (hT : ∀ i s, St i s → s.TypeIs (.ref I) "list_reverseiterator") (C : Addr) (st : St 0 s) (hC : C ∉ fp) (hI : I ∈ fp)
    (gC : s.heap.get? C = some { cls := .type "list", data := .seq #[] })
    (hR : ∀ s' acc' c', Moved (C :: wr) G s s' → s'.heap.get? C = some { cls := .type "list", dict := none, data := .seq acc' c', slots := #[] } → ItemsOf P acc' n → R (.ok (.ret .none)) s') (hn : n ≤ sizeLine) :
    wpAny (model prog w) A.in1 (Builtin.«list.__init__» ⟨[.ref C, .ref I], []⟩)
      (fun fin s' => match fin with | .done f => R (.ok f) s' | .again c' => c'.quiet = true ∧ codeAny (model prog w) A c' R s') (fun e s' => R (.error e) s') s := by
  show wpAny _ A.in1 (do let old ← Builtin.List.listItems (.ref C); Builtin.List.listUpdate (.ref C) (fun _ => #[]); letGo old.toList.reverse; Builtin.List.listExtendWith (.ref C) (.ref I) .none) _ _ s
  refine wpAny_bind (by
    unfold Builtin.List.listItems
    refine wpAny_bind (wpAny_seqItems gC rfl (wpAny_pure (by
      show wpAny _ A.in1 (updateSeq C (fun _ => #[]) >>= fun _ => letGo (#[] : Array Value).toList.reverse >>= fun _ => Builtin.List.listExtendWith (.ref C) (.ref I) .none) _ _ s
      have g2 := Heap.get?_update_self (Obj.mapSeq (fun _ => (#[] : Array Value))) gC rfl
      have oth : ∀ b o, b ≠ C → s.heap.get? b = some o → (s.heap.update C (Obj.mapSeq (fun _ => (#[] : Array Value)))).get? b = some o := fun b o hb e => (Heap.get?_update_other _ _ (Ne.symm hb)).trans e
      refine wpAny_bind (wpAny_updateSeq gC rfl (wpAny_bind (wpAny_letGo (ext_rev W hT C .none _ (W.frame 0 s _ s.toks st (Nat.le_refl _) fun b hb o e => oth b o (fun h => hC (h ▸ hb)) e) hC hI g2 (fun s' acc' c' m e hacc => ?_) hn))))
      exact hR s' acc' c' (Moved.trans W.gtrans ((Moved.refl W.grefl).then_heap (Nat.le_refl _) fun b o hb e => oth b o (fun h => hb (h ▸ List.mem_cons_self)) e) m) e hacc))))
end
section
variable {prog : Program} {w : World} {A : Around} {E : Value → Shared → Prop} {s : Shared}
variable {I : Addr} {fp wr : List Addr} {G : Array GenState → Array GenState → Prop} {n : Nat} {P : Nat → Value → Prop} {St : Nat → Shared → Prop}
theorem call_list_rev {Q : Value → Shared → Prop} (W : WalksS prog w A.in1.in1 I fp wr G n P St) (hT : ∀ i s, St i s → s.TypeIs (.ref I) "list_reverseiterator") (st : St 0 s) (hfp : ∀ b ∈ fp, b < s.heap.objs.size) (hI : I ∈ fp)
    (hQ : ∀ s' acc' c', Moved (s.heap.objs.size :: wr) G { s with heap := s.heap.push { cls := .type "list", data := .seq #[] } } s' →
      s'.heap.get? s.heap.objs.size = some { cls := .type "list", dict := none, data := .seq acc' c', slots := #[] } → ItemsOf P acc' n → Q (.ref s.heap.objs.size) s') (hn : n ≤ sizeLine) :
    wpAny (model prog w) A (call (.type "list") [.ref I]) Q E s := by
  have hC : s.heap.objs.size ∉ fp := fun z => Nat.lt_irrefl _ (hfp _ z)
  refine callType_codes (Q₁ := fun ob s1 => ob = .ref s.heap.objs.size ∧ s1 = { s with heap := s.heap.push { cls := .type "list", data := .seq #[] } }) PySem.F.called_list (PySem.F.typeCall_list_1 _) PySem.F.entry_list_init (code_list_new _ ⟨rfl, rfl⟩) fun ob s1 h1 => ?_
  obtain ⟨rfl, rfl⟩ := h1
  have gC : (s.heap.push { cls := .type "list", data := .seq #[] }).get? s.heap.objs.size = some { cls := .type "list", data := .seq #[] } := Heap.get?_push_size _ rfl
  exact ⟨⟨_, gC, rfl⟩, PySem.F.args_list_init_2 _ _, init_rev W hT _ (W.frame 0 s _ s.toks st (Nat.le_refl _) fun b _ o e => Heap.get?_push_of_some _ e) hC hI gC (fun s' acc' c' m e hacc => ⟨rfl, hQ s' acc' c' m e hacc⟩) hn⟩
/-- list(reversed(a list)) -/
theorem list_reversed {l : Addr} {its : Array Value} {Q : Value → Shared → Prop} (hh : A.handled = none) (hl : s.heap.IsList l its) (hz : its.size ≤ sizeLine)
    (h : ∀ (h' : Heap) (tk c : Nat) (a : Addr), s.heap.objs.size ≤ a → h'.get? a = some { cls := .type "list", dict := none, data := .seq its.reverse c, slots := #[] } → (∀ b o, s.heap.get? b = some o → h'.get? b = some o) → Q (.ref a) { s with heap := h', toks := tk }) :
    wpAny (model prog w) A (call (.type "reversed") [.ref l]) (fun v s1 => wpAny (model prog w) A (call (.type "list") [v]) Q E s1) E s := by
  refine call_reversed_list hl ?_
  obtain ⟨ol, gl, _, _⟩ := id hl
  have ltl : l < s.heap.objs.size := Heap.lt_size gl
  have hh2 : A.in1.in1.handled = none := by simp [hh]
  have Wk := (Walks.listRev (prog := prog) (w := w) hh2 s.heap.objs.size l (Nat.ne_of_lt ltl) its).toS
  refine call_list_rev Wk (fun i s x => x.2.1.typeIs) ⟨Nat.zero_le _, ⟨_, Heap.get?_push_size _ rfl, rfl, by
    show Data.fields #[.ref l, rawInt ((its.size : Int) - 1)] = _
    have z : (its.size : Int) - 1 - ((0 : Nat) : Int) = (its.size : Int) - 1 := by omega
    rw [z]⟩, hl.push _⟩ (fun b hb => ?_) (by simp) (fun s' acc' c' m e hacc => ?_) hz
  · show b < (s.heap.push _).objs.size
    rw [Heap.size_push]
    simp only [List.mem_cons, List.not_mem_nil, or_false] at hb
    rcases hb with rfl | rfl
    · exact Nat.lt_succ_self _
    · exact Nat.lt_succ_of_lt ltl
  · obtain ⟨h', g', d', tk', os'⟩ := s'
    obtain rfl : g' = s.gens := m.gens
    obtain rfl : d' = s.drawn := m.drawn
    obtain rfl : os' = s.os := m.os
    have ea : acc' = its.reverse := by
      apply Array.ext
      · rw [hacc.1, Array.size_reverse]
      · intro i h1 h2
        have q : its[its.size - 1 - i]? = some acc'[i] := hacc.2 i acc'[i] (Array.getElem?_eq_getElem h1)
        have hi : i < its.size := by rw [← hacc.1]; exact h1
        rw [Array.getElem?_eq_getElem (by omega)] at q
        rw [Array.getElem_reverse]
        exact (Option.some.inj q).symm
    subst ea
    have hsz : (s.heap.push (revObj l ((its.size : Int) - 1))).objs.size = s.heap.objs.size + 1 := Heap.size_push ..
    refine h h' tk' c' _ ?_ e fun b o eb => ?_
    · show s.heap.objs.size ≤ (s.heap.push _).objs.size
      rw [Heap.size_push]; exact Nat.le_succ _
    · have lb := Heap.lt_size eb
      refine m.heap b o ?_ (Heap.get?_push_of_some _ (Heap.get?_push_of_some _ eb))
      simp only [List.mem_cons, List.not_mem_nil, or_false, not_or]
      refine ⟨?_, Nat.ne_of_lt lb⟩
      show b ≠ (s.heap.push _).objs.size
      rw [Heap.size_push]; exact Nat.ne_of_lt (Nat.lt_succ_of_lt lb)
end
end RevL
namespace DL
open PySem PySem.Spec PyProof.Rows L2
theorem Rps.reverse {K : PySem.W.Frag} {H : Hp} {B : BS} : ∀ {ds : List D} {xs : List V}, Rps K H B ds xs → Rps K H B ds.reverse xs.reverse
  | [], _, h => by rw [rps_nil] at h; subst h; simp [rps_nil]
  | d :: ds, _, h => by
    rw [rps_cons] at h
    obtain ⟨x, r, rfl, h1, h2⟩ := h
    rw [List.reverse_cons, List.reverse_cons]
    exact Rps.snoc (Rps.reverse h2) h1
section
variable {X : Cx} {e : Expr} {pos p pos2 p2 : Pos} {g : Ds → Option D}
theorem b_reversed0 : bootBuiltins "reversed" = some (.type "reversed") := by decide +kernel
theorem b_list0 : bootBuiltins "list" = some (.type "list") := by decide +kernel
theorem pe_revL {te : TE} (hc : X.calm = true) (hl : X.mg "list" = none) (hs : X.mg "reversed" = none) (he : PE X e te) (hgl : Gl X "list" := by rfl) (hgs : Gl X "reversed" := by rfl)
    (e1 : starEach [.Call (.Name "reversed" p2) [e] [] pos2] X.env = (false, eval (.Call (.Name "reversed" p2) [e] [] pos2) X.env) :: starEach [] X.env := by rfl) (e2 : starEach [e] X.env = (false, eval e X.env) :: starEach [] X.env := by rfl)
    (h1 : (backTo pos (starEach [] X.env)).any (·.1) = false := by rfl) (h2 : (backTo pos2 (starEach [] X.env)).any (·.1) = false := by rfl) :
    PE X (.Call (.Name "list" p) [.Call (.Name "reversed" p2) [e] [] pos2] [] pos) (fun σ H Q => te σ H fun v H' => ∃ q xs, v = .ref q ∧ SqL X.K H' q xs ∧ ∀ l, H' l = none → Q (.ref l) (upd H' l (.lst xs.reverse))) := by
  intro pins s σ H Q I h
  refine wpAny_Call_Name_kw (ld_blt I hgl hl b_list0 ?_ (by decide) (by decide))
  refine PyProof.Rows.callWith_type1 ?_ e1 h1
  rw [e1]
  show wpAny _ _ (spliced ((false, eval (.Call (.Name "reversed" p2) [e] [] pos2) X.env) :: backTo pos (starEach [] X.env))) _ _ s
  refine Calls.spliced_cons ?_
  refine wpAny_Call_Name_kw (ld_blt I hgs hs b_reversed0 ?_ (by decide) (by decide))
  refine PyProof.Rows.callWith_type1 ?_ e2 h2
  rw [e2]
  show wpAny _ _ (spliced ((false, eval e X.env) :: backTo pos2 (starEach [] X.env))) _ _ s
  refine Calls.spliced_cons (thn (he pins s σ H _ I h) fun u s1 ⟨v, H1, I1, r1, q, xs, ev, hq, k⟩ => Calls.spliced_nil ?_)
  subst ev
  obtain rfl : u = Value.ref q := r1
  obtain ⟨its, rv, pl, hz⟩ := I1.list hq
  have hlen := rv.length
  refine thn (RevL.list_reversed (I1.ok.hd hc) pl.isList (by rw [List.size_toArray, ← hlen]; exact hz) (Q := EP X pins σ Q) (E := X.xe) fun h' tk c a ha ga hk => ?_) fun v s2 hv => Calls.spliced_nil hv
  have hf : H1 a = none := I1.hok.fresh ha
  refine ⟨.ref a, _, I1.laid (a := a) (o := .lst xs.reverse) (t' := tk) hk ha ?_, rfl, k a hf⟩
  exact ⟨by rw [List.length_reverse]; exact hz, its.reverse, c, rv.reverse, by rw [ga]; simp⟩
theorem pdf_revL (hl : X.mg "list" = none) (hs : X.mg "reversed" = none) (he : PD X e g) (hc : X.calm = true := by rfl) (hgl : Gl X "list" := by rfl) (hgs : Gl X "reversed" := by rfl)
    (e1 : starEach [.Call (.Name "reversed" p2) [e] [] pos2] X.env = (false, eval (.Call (.Name "reversed" p2) [e] [] pos2) X.env) :: starEach [] X.env := by rfl) (e2 : starEach [e] X.env = (false, eval e X.env) :: starEach [] X.env := by rfl)
    (h1 : (backTo pos (starEach [] X.env)).any (·.1) = false := by rfl) (h2 : (backTo pos2 (starEach [] X.env)).any (·.1) = false := by rfl) :
    PDF X (.Call (.Name "list" p) [.Call (.Name "reversed" p2) [e] [] pos2] [] pos) (oA (consA g nilA) revD) := .mk fun B δ =>
  (pe_revL hc hl hs (he B δ) hgl hgs e1 e2 h1 h2).imp fun σ H Q ⟨d, en, h, k⟩ => by
    unfold oA consA nilA at h
    cases e3 : g δ with
    | none => rw [e3] at h; cases h
    | some x =>
      rw [e3] at h
      simp only [Option.bind_some, Option.map_some] at h
      cases x <;> simp only [revD] at h <;> try cases h
      refine ⟨_, en, e3, fun v H1 s1 r => ?_⟩
      rw [rp_lst] at r
      obtain ⟨q, xs, rfl, hq, rr⟩ := r
      exact ⟨q, xs, rfl, hq.to, fun l hl => k l _ (s1.free hl) (s1.trans (same_upd hl)) ⟨_, upd_same, rr.reverse.mono (Gr.fresh hl)⟩⟩
end
end DL
namespace DL
open PySem PySem.Spec PyProof.Rows L2
/-! ### dicts -/
section
variable {K : PySem.W.Frag} {H : Hp} {B : BS}
end
section
variable {X : Cx} {e a b o : Expr} {es : List Expr} {pos p px : Pos} {g ga gb : Ds → Option D} {x : Str}
end
end DL
namespace L2
open PySem PySem.Spec PyProof.Rows
/-- a def of the text whose defaults stand in dV -/
structure FunV (K : PySem.W.Frag) (x qual : Str) (st : Stmt) (f : Addr) (fd : FuncData) (dV : Value) : Prop where
  ex : ∃ (oc : Value) (od : Option Addr) (kV doc pm : Value) (an : Option Addr) (cdv ct : Value) (osl : Array (Option Value)),
    fd = PySem.W.fnOf x qual (defArgs st) (defBody st) (defScope st) dV kV doc pm an cdv ct ∧ K.lookup f = some ⟨oc, od, .func fd, osl⟩ ∧ PySem.W.codeIn K cdv qual = true
  kp : PySem.W.keepIn K (.ref f) = true
section
variable {P : Program} {w : World} {K : PySem.W.Frag} {mg : Str → Option Value} {base : Heap}
theorem FunV.ok {x qual : Str} {st : Stmt} {f : Addr} {fd : FuncData} {dV : Value} {N ps : List Str} {k : Nat} {sp : Sp} (F : FunV K x qual st f fd dV) (S : FnScope N ps (defScope st)) (len : ∀ vs H Q E, sp vs H Q E → vs.length = ps.length)
    (hbody : ∀ (cdv : Value) (A : Around) (outer : List Env) (s : Shared) (H : Hp) (vs : List V) (Q : VK) (E : XK), Room k (A.deeper (envOfC qual (defScope st) s.heap.objs.size f cdv)) → sp vs H Q E →
      ∃ t, PSs (cxOf CX0 P w K mg base N qual (defScope st) f cdv A outer s H E).nox (defBody st) t ∧ t { nx := fun _ H' => Q .non H', rt := Q } (start N vs) H) : FnOk P w K mg base CX0 (k + 1) f fd ps sp := by
  obtain ⟨oc, od, kV, doc, pm, an, cdv, ct, osl, rfl, lk, hcd⟩ := F.ex
  refine fn_of lk hcd S len fun A outer s H vs Q E hr hsp => ?_
  obtain ⟨t, h, q⟩ := hbody cdv A outer s H vs Q E hr hsp
  exact ⟨t, h.nox, q⟩
end
end L2
namespace DL
open PySem PySem.Spec PyProof.Rows L2
section
variable {P : Program} {w : World} {K : PySem.W.Frag} {mg : Str → Option Value} {base : Heap}
end
section
variable {X : Cx} {e a b : Expr} {es : List Expr} {pos p : Pos} {g ga gb : Ds → Option D} {gA : Ds → Option (List D)}
/-! ### in, of lists and tuples of flat things -/
end
end DL
namespace DL
open PySem PySem.Spec PyProof.Rows L2
end DL
namespace DL
open PySem
theorem us1 : ∀ {us : List Value}, us.length = 1 → ∃ a, us = [a]
  | [a], _ => ⟨a, rfl⟩
end DL
/-! tuple(zip(a, b)): each pair is kept, so the zip's own tuple is not used again. -/
namespace ZipL
open PySem PySem.Spec PyProof.Rows
abbrev IsZ (h : Heap) (z TI TO a : Addr) (f : Bool) : Prop :=
  h.get? z = some { cls := .type "zip", dict := none, data := .fields #[rawInt a, .bool f, .bool false, .ref TI, .ref TO], slots := #[] }
section
variable {prog : Program} {w : World} {A : Around} {E : Value → Shared → Prop} {s : Shared}
end

structure ZSt (h : Heap) (z TI TO i1 i2 l1 l2 S : Addr) (xs ys : Array Value) (i : Nat) : Prop where
  own : (i = 0 ∧ IsZip h z TI TO .none ∧ ∃ p q, IsPair h TO p q) ∨ ∃ a f oa, IsZ h z TI TO a f ∧ h.get? a = some oa ∧ a ≠ z ∧ a ≠ i1 ∧ a ≠ i2 ∧ a ≠ S
  hTI : IsPair h TI (.ref i1) (.ref i2)
  h1 : h.IsListIter i1 l1 i
  h2 : h.IsListIter i2 l2 i
  hl1 : h.IsList l1 xs
  hl2 : h.IsList l2 ys
structure ZLow (z TI TO i1 i2 l1 l2 S : Addr) : Prop where
  z : z < S
  TI : TI < S
  TO : TO < S
  i1 : i1 < S
  i2 : i2 < S
  l1 : l1 < S
  l2 : l2 < S
structure ZG (xs ys : Array Value) (S : Addr) (h : Heap) (as : List Addr) : Prop where
  rise : as.Pairwise (· < ·)
  above : ∀ a ∈ as, S < a
  pairs : ∀ (j : Nat) (a : Addr), as[j]? = some a → ∃ x y, xs[j]? = some x ∧ ys[j]? = some y ∧ IsPair h a x y
section
variable {prog : Program} {w : World} {A : Around} {E : Value → Shared → Prop} {s : Shared} {z TI TO i1 i2 l1 l2 S : Addr} {xs ys : Array Value} {h h' : Heap} {i : Nat}
theorem ZG.there {as : List Addr} (g : ZG xs ys S h as) {a : Addr} (ha : a ∈ as) : a < h.objs.size := by
  obtain ⟨j, hj⟩ := List.mem_iff_getElem?.mp ha
  obtain ⟨_, _, _, _, e⟩ := g.pairs j a hj
  exact Heap.lt_size e
theorem ZSt.keep (x : ZSt h z TI TO i1 i2 l1 l2 S xs ys i) (L : ZLow z TI TO i1 i2 l1 l2 S) (hk : ∀ b o, b ≠ S → h.get? b = some o → h'.get? b = some o) : ZSt h' z TI TO i1 i2 l1 l2 S xs ys i := by
  refine ⟨?_, hk _ _ (Nat.ne_of_lt L.TI) x.hTI, x.h1.at fun o e => hk _ o (Nat.ne_of_lt L.i1) e, x.h2.at fun o e => hk _ o (Nat.ne_of_lt L.i2) e, x.hl1.at fun o e => hk _ o (Nat.ne_of_lt L.l1) e, x.hl2.at fun o e => hk _ o (Nat.ne_of_lt L.l2) e⟩
  rcases x.own with ⟨e, hz, p, q, hp⟩ | ⟨a, f, oa, hz, ha, n1, n2, n3, n4⟩
  · exact .inl ⟨e, hk _ _ (Nat.ne_of_lt L.z) hz, p, q, hk _ _ (Nat.ne_of_lt L.TO) hp⟩
  · exact .inr ⟨a, f, oa, hk _ _ (Nat.ne_of_lt L.z) hz, hk _ _ n4 ha, n1, n2, n3, n4⟩
end
section
variable {prog : Program} {w : World} {A : Around} {s : Shared} {R : Result → Shared → Prop} {z TI TO i1 i2 l1 l2 S lo : Addr} {xs ys : Array Value} {h₁ : Heap}
end
section
variable {prog : Program} {w : World} {A : Around} {E : Value → Shared → Prop} {s : Shared} {z TI TO i1 i2 l1 l2 lo : Addr} {xs ys : Array Value}
end
end ZipL
namespace ZipL
open PySem PySem.Spec PyProof.Rows
section
variable {prog : Program} {w : World} {A : Around} {E : Value → Shared → Prop} {s : Shared} {z TI TO i1 i2 l1 l2 lo : Addr} {xs ys : Array Value}
end
end ZipL
namespace L2
open PySem PySem.Spec PyProof.Rows
section
variable {X : Cx} {pins : List (Addr × Obj)} {σ : List (Option V)} {H : Hp} {s : Shared} {h' : Heap}
end
section
variable {X : Cx} {e : Expr} {es : List Expr} {pos p pos2 p2 : Pos} {x1 x2 : Str} {T1 T2 : String} {r : List V → Hp → VK → Prop} {t : TA}
end
end L2
namespace DL
open PySem PySem.Spec PyProof.Rows L2
section
variable {X : Cx} {e : Expr} {es : List Expr} {pos p pos2 p2 : Pos} {x1 x2 : Str} {T1 T2 : String} {r : List V → Hp → VK → Prop} {gA : Ds → Option (List D)} {f : List D → Option D}
end
end DL
/-! Walks over zip(a, b) and enumerate(a) with two names; dict(a dict); list(range(n)). -/
namespace L2
open PySem PySem.Spec PyProof.Rows
section
variable {X : Cx} {pins : List (Addr × Obj)} {σ : List (Option V)} {H : Hp} {s : Shared} {h' : Heap}
/-- records of ours have turned -/
theorem Inv.turnedL {t' : Nat} {fp : List Addr} (I : Inv X pins σ H s) (hf : ∀ b ∈ fp, FpOk X pins H b) (k : ∀ b o, b ∉ fp → s.heap.get? b = some o → h'.get? b = some o) : Inv X pins σ H { s with heap := h', toks := t' } := by
  have nit : ∀ b u, H b = some u → b ∉ fp := fun b u e z => by rw [(hf b z).1] at e; cases e
  refine I.step (g' := s.gens) (d' := s.drawn) (ch := fp) (fun b hb => ⟨(hf b hb).2.2.2.1, (hf b hb).2.1, (hf b hb).2.2.2.2.1, (hf b hb).2.2.2.2.2⟩) (fun b o _ _ hc e _ => k b o hc e) (fun b o _ _ hc e _ => ⟨o.slots, k b o hc e⟩) (fun _ _ _ _ n => n)
    (fun b o hc e => ⟨o, k b o hc e⟩) (fun _ _ e => e) (fun _ _ _ e => e) (fun b ps e => ⟨#[], by rw [e]; simp⟩) (fun m hm => ?_) (fun b u e => ?_) I.bare
  · obtain ⟨o, es, ep, ho, r⟩ := hm
    exact ⟨o, es, ep, k _ o (fun z => (hf _ z).2.1 rfl) ho, r⟩
  · refine (I.hok b u e).stay (fun c v hc q => k c v ?_ q) (fun _ q => q) fun _ _ q => q
    rcases hc with z | z
    · rw [z]; exact nit b u e
    · exact nit c _ z
/-- .. and a new pair lies behind them -/
theorem Inv.turnedNew {t' : Nat} {fp : List Addr} {x y : V} {u w : Value} (I : Inv X pins σ H s) (hf : ∀ b ∈ fp, FpOk X pins H b) (rx : RelV x u) (ry : RelV y w) (hlt : ∀ b ∈ fp, b < s.heap.objs.size)
    (hob : h'.get? s.heap.objs.size = some { cls := .type "tuple", data := .seq #[u, w] }) (k : ∀ b o, b ∉ fp → s.heap.get? b = some o → h'.get? b = some o) :
    Inv X pins σ (upd H s.heap.objs.size (.tup [x, y])) { s with heap := h', toks := t' } ∧ ∀ b ∈ fp, upd H s.heap.objs.size (.tup [x, y]) b = none := by
  have ne : ∀ b ∈ fp, b ≠ s.heap.objs.size := fun b hb => Nat.ne_of_lt (hlt b hb)
  have fr : ∀ b ∈ fp, upd H s.heap.objs.size (.tup [x, y]) b = none := fun b hb => by rw [upd_ne (ne b hb)]; exact (hf b hb).1
  have I1 : Inv X pins σ (upd H s.heap.objs.size (.tup [x, y])) { s with heap := s.heap.push { cls := .type "tuple", data := .seq #[u, w] }, toks := t' } :=
    I.laid (fun b o e => Heap.get?_push_of_some _ e) (Nat.le_refl _) ⟨(by show 2 ≤ sizeLine; decide), [u, w], .cons rx (.cons ry .nil), ⟨_, Heap.get?_push_size _ rfl, rfl, _, rfl⟩⟩
  refine ⟨Inv.turnedL (s := { s with heap := s.heap.push { cls := .type "tuple", data := .seq #[u, w] }, toks := t' }) (t' := t') (fp := fp) I1 (fun b hb => ⟨fr b hb, (hf b hb).2⟩) fun b o hb e => ?_, fr⟩
  rcases Heap.get?_push_cases e with ⟨rfl, rfl⟩ | e
  · exact hob
  · exact k b o hb e
end
/-- number and thing of a list -/
def Ite (K : PySem.W.Frag) (a : Addr) : It :=
  ⟨fun i H => ∃ xs x, SqL K H a xs ∧ xs[i]? = some x,
   fun i H v H' => ∃ t x, v = .ref t ∧ H t = none ∧ H' = upd H t (.tup [.int (i : Int), x]) ∧ ∀ xs, SqL K H a xs → xs[i]? = some x,
   fun i H => ∃ xs, SqL K H a xs ∧ xs.length ≤ i⟩
theorem turn_enum {P : Program} {w : World} {K : PySem.W.Frag} {elts : List Expr} {x1} {pos : Pos} {e it a : Addr} (hei : e ≠ it) : Turn P w K (.Tuple elts x1 pos) (Ite K a) [e, it] e
    (fun i h => (∃ old, IsEnum h e it i old) ∧ h.IsListIter it a i) where
  mem := by simp
  obj := fun i h st c hc => by
    obtain ⟨⟨old, he⟩, ⟨o1, e1, c1, d1⟩⟩ := st
    simp only [List.mem_cons, List.not_mem_nil, or_false] at hc
    rcases hc with rfl | rfl
    · exact ⟨_, he, fun v z => nomatch z⟩
    · exact ⟨_, e1, fun v z => by rw [d1] at z; cases z⟩
  keep := fun i h h' st k => by
    obtain ⟨⟨old, he⟩, h1⟩ := st
    exact ⟨⟨old, k e (by simp) _ he⟩, h1.at fun o x => k it (by simp) o x⟩
  item := by
    intro X hP hw hK hc i pins s σ H E I hf st hg
    subst hP hw hK
    obtain ⟨⟨old, he⟩, h1⟩ := st
    obtain ⟨xs, x, hq, hx⟩ := hg
    obtain ⟨us, rv, p1, z1⟩ := I.list hq
    obtain ⟨u, hu, ru⟩ := rv.get hx
    refine wpAny_pyNext_enum_item he h1 p1.isList (x := u) (by simpa using hu) hei fun h' a1 a2 a3 a4 hk => ?_
    refine ⟨_, rfl, wpAny_letOwnedTupleGo_enum (s := { s with heap := h', toks := s.toks + 1 }) a1 fun h'' b1 hs => ?_⟩
    have le := Heap.lt_size he
    obtain ⟨o1, e1, _⟩ := id h1
    have l1 := Heap.lt_size e1
    obtain ⟨I1, fr⟩ := I.turnedNew (h' := h'') (t' := s.toks + 1) (fp := [e, it]) (x := .int (i : Int)) (u := .int i s.toks) hf ⟨_, rfl⟩ ru (fun c hc => by
      simp only [List.mem_cons, List.not_mem_nil, or_false] at hc
      rcases hc with rfl | rfl <;> assumption) ((hs.2 _ (Nat.ne_of_gt le)).trans a3) (fun c o hc x => by
      simp only [List.mem_cons, List.not_mem_nil, or_false, not_or] at hc
      exact (hs.2 _ hc.1).trans (hk c o hc.1 hc.2 x))
    exact ⟨.ref s.heap.objs.size, _, I1, rfl, ⟨_, x, rfl, I.hok.fresh (Nat.le_refl _), rfl, fun ys hy => by rw [I.list_inj hy hq]; exact hx⟩, ⟨⟨_, by simpa using b1⟩, a2.at fun o y => (hs.2 it hei.symm).trans y⟩, fr⟩
  done := by
    intro X hP hw hK hc i pins s σ H E I hf st hg
    subst hP hw hK
    obtain ⟨⟨old, he⟩, h1⟩ := st
    obtain ⟨xs, hq, hend⟩ := hg
    obtain ⟨us, rv, p1, z1⟩ := I.list hq
    have l1 := rv.length
    refine wpAny_pyNext_enum_end (I.ok.hd hc) he h1 p1.isList (by simp; omega) fun h' hk => ⟨rfl, I.turnedL (t' := s.toks) (fp := [e, it]) hf fun c o hc x => ?_⟩
    simp only [List.mem_cons, List.not_mem_nil, or_false, not_or] at hc
    exact hk c o hc.2 x
  self := fun _ _ _ _ _ st h => by
    obtain ⟨⟨old, he⟩, _⟩ := st
    exact wpAny_pyIter_enum he h
section
variable {X : Cx} {elts : List Expr} {x1 : Nat} {tpos : Pos}
theorem boot_enum : bootBuiltins "enumerate" = some (.type "enumerate") := by decide +kernel
def iEnum (K : PySem.W.Frag) (ta : TA) : TI := fun σ H R => ta σ H fun vs H1 => ∃ a, vs = [.ref a] ∧ (∃ xs, SqL K H1 a xs) ∧ R (Ite K a) H1
theorem pi_enum {a : Expr} {ta : TA} {p pos : Pos} (hg : Gl X "enumerate") (hm : X.mg "enumerate" = none) (ha : PA X [a] ta) (hs : starEach [a] X.env = [(false, eval a X.env)] := by rfl) :
    PI X (.Tuple elts x1 tpos) (.Call (.Name "enumerate" p) [a] [] pos) (iEnum X.K ta) := by
  intro pins s σ H R I h
  refine Call_ (ld_blt I hg hm boot_enum (PyProof.Rows.callWith_type1 (thn (ha pos pins s σ H _ I h) fun us s1 ⟨vs, H1, I1, r1, q1⟩ => ?_) hs rfl))
  obtain ⟨qa, e, ⟨xs, h1⟩, q⟩ := q1
  subst e
  cases r1 with
  | cons r rr =>
    cases rr
    obtain rfl := r
    obtain ⟨us1, v1, p1, z1⟩ := I1.list h1
    refine call_enumerate_list p1.isList fun h' hz hi1 hsz hk => ?_
    refine wpAny_pyIter_enum (s := { s1 with heap := h' }) hz ?_
    refine ⟨_, _, _, _, H1, rfl, I1.kept (t' := s1.toks) hk, turn_enum (Nat.ne_of_gt (Nat.lt_succ_self _)), ⟨⟨_, hz⟩, hi1⟩, fun b hb => ?_, q⟩
    simp only [List.mem_cons, List.not_mem_nil, or_false] at hb
    rcases hb with rfl | rfl
    · exact I1.fpOk (Nat.le_add_right _ 1) (I1.hok.fresh (Nat.le_add_right _ 1))
    · exact I1.fpOk (Nat.le_refl _) (I1.hok.fresh (Nat.le_refl _))
end
end L2
namespace DL
open PySem PySem.Spec PyProof.Rows L2
section
variable {X : Cx} {elts : List Expr} {x1 : Nat} {tpos : Pos} {a b : Expr} {p pos : Pos} {gA : Ds → Option (List D)}
theorem rp_pair {K : PySem.W.Frag} {H : Hp} {B : BS} {t : Addr} {x y : V} {d e : D} (hn : ¬ B t) (ht : H t = some (.tup [x, y])) (r1 : Rp K H B d x) (r2 : Rp K H B e y) : Rp K H B (.tup [d, e]) (.ref t) := by
  rw [rp_tup]
  refine ⟨t, [x, y], rfl, ⟨hn, ht⟩, ?_⟩
  rw [rps_cons]
  refine ⟨_, _, rfl, r1, ?_⟩
  rw [rps_cons]
  exact ⟨_, _, rfl, r2, by rw [rps_nil]⟩
theorem pid_enum (hm : X.mg "enumerate" = none) (ha : PDA X [a] gA) (hg : Gl X "enumerate" := by rfl) (hs : starEach [a] X.env = [(false, eval a X.env)] := by rfl) :
    PID X (.Tuple elts x1 tpos) (.Call (.Name "enumerate" p) [a] [] pos) (enumI gA) := .mk fun B δ => L2.PI.imp (pi_enum hg hm (ha B δ) hs) fun σ H R ⟨items, en, e1, k⟩ => by
  unfold enumI at e1
  cases e2 : gA δ with
  | none => rw [e2] at e1; cases e1
  | some ds =>
    rw [e2] at e1
    simp only [Option.bind_some] at e1
    unfold enumLD at e1
    split at e1 <;> try cases e1
    rename_i ds
    refine ⟨_, en, e2, fun vs H' s' r => ?_⟩
    rw [rps_cons] at r
    obtain ⟨x, t, rfl, r1, r⟩ := r
    rw [rps_nil] at r; subst r
    rw [rp_lst] at r1
    obtain ⟨q1, us, rfl, s1, t1⟩ := r1
    have hlen : (enumD ds).length = us.length := by unfold enumD; simp [t1.length]
    refine ⟨q1, rfl, ⟨us, s1.to⟩, k _ H' s' ⟨fun i H2 g2 hi => ?_, fun i H2 v H3 g2 y hi => ?_, fun i H2 g2 hi => ?_⟩⟩
    · rw [hlen] at hi
      exact ⟨us, us[i], (s1.mono g2).to, by simp [hi]⟩
    · obtain ⟨t, x, rfl, ht, rfl, hx⟩ := y
      rw [hlen, t1.length] at hi
      obtain ⟨x', e4, rx⟩ := t1.get (i := i) (List.getElem?_eq_getElem hi)
      have ex := hx us (s1.mono g2).to
      rw [e4] at ex
      cases ex
      refine ⟨same_upd ht, .tup [.int (i : Int), ds[i]], by unfold enumD; simp [hi], fun B' gB hb => ?_⟩
      exact rp_pair (fun z => hb t z ht) upd_same (by rw [rp_int]) (rx.mono gB)
    · rw [hlen] at hi
      exact ⟨us, (s1.mono g2).to, hi⟩
end
/-! what is borrowed and gives a tree -/
section
variable {K : PySem.W.Frag} {H : Hp} {B B' : BS}
mutual
theorem tree_rp (hB : ∀ a, B a → B' a ∨ (∃ xs, H a = some (.lst xs)) ∨ ∃ ks xs, H a = some (dOb ks xs)) : ∀ (d : D) (v : V), tree d = true → Rp K H B' d v → Rp K H B d v
  | .non, v, _, r => by rw [rp_non] at r ⊢; exact r
  | .bl _, v, _, r => by rw [rp_bl] at r ⊢; exact r
  | .int _, v, _, r => by rw [rp_int] at r ⊢; exact r
  | .str _, v, _, r => by rw [rp_str] at r ⊢; exact r
  | .lst _, v, h, _ => by unfold tree at h; cases h
  | .dct _ _, v, h, _ => by unfold tree at h; cases h
  | .tup ds, v, h, r => by
    unfold tree at h
    rw [rp_tup] at r ⊢
    obtain ⟨a, xs, rfl, q, rs⟩ := r
    refine ⟨a, xs, rfl, ?_, trees_rp hB ds xs h rs⟩
    obtain ⟨n, q⟩ := q
    refine ⟨fun z => ?_, q⟩
    rcases hB a z with z | ⟨ys, z⟩ | ⟨ks, ys, z⟩
    · exact n z
    · rw [z] at q; cases q
    · rw [z] at q; cases ks <;> cases q
theorem trees_rp (hB : ∀ a, B a → B' a ∨ (∃ xs, H a = some (.lst xs)) ∨ ∃ ks xs, H a = some (dOb ks xs)) : ∀ (ds : List D) (vs : List V), trees ds = true → Rps K H B' ds vs → Rps K H B ds vs
  | [], vs, _, r => by rw [rps_nil] at r ⊢; exact r
  | d :: ds, vs, h, r => by
    unfold trees at h
    rw [Bool.and_eq_true] at h
    rw [rps_cons] at r ⊢
    obtain ⟨x, t, rfl, r1, r2⟩ := r
    exact ⟨x, t, rfl, tree_rp hB d x h.1 r1, trees_rp hB ds t h.2 r2⟩
end
end
theorem pd_borT {X : Cx} {e : Expr} {g : GE} (h : PD X e g) : PD X e (borT g) := .mk fun B δ pins s σ H Q I ⟨d, en, hq, k⟩ => by
  obtain ⟨B', c1, c2, en'⟩ := en.frz
  unfold borT at hq
  cases e1 : g (frz δ) with
  | none => rw [e1] at hq; cases hq
  | some x =>
    rw [e1] at hq
    by_cases hf : tree x = true
    · simp only [Option.bind_some, if_pos hf] at hq
      cases hq
      refine h B' (frz δ) pins s σ H Q I ⟨_, en', e1, fun v H' s' r => k v H' s' (tree_rp (fun a z => ?_) _ _ hf r)⟩
      rcases c2 a z with q | ⟨i, d', h1, h2⟩
      · exact .inl q
      · obtain ⟨o, h3, a', e4, _, ro⟩ := Pd.get en.all h1
        rw [h2] at h3
        cases h3
        cases e4
        cases d' <;> try exact ro.elim
        · obtain ⟨xs, e5, _⟩ := ro; exact .inr (.inl ⟨xs, s' _ _ e5⟩)
        · obtain ⟨xs, e5, _⟩ := ro; exact .inr (.inr ⟨_, _, s' _ _ e5⟩)
    · simp only [Option.bind_some, if_neg hf] at hq
      cases hq
/-! dict(a dict) -/
section
variable {X : Cx} {K : PySem.W.Frag} {e : Expr} {pos p : Pos} {g : Ds → Option D}
end
/-! list(range(n)) -/
section
variable {X : Cx} {e : Expr} {pos p pos2 p2 : Pos} {gA : Ds → Option (List D)}
end
end DL
/-! Methods of texts: startswith, endswith, split, partition; int(text); raise where it is never come to. -/
namespace TxtL
open PySem PySem.Spec PyProof.Rows Builtin Builtin.Str
section
variable {prog : Program} {w : World} {A : Around} {E : Value → Shared → Prop} {s : Shared} {Q : Value → Shared → Prop} {x y : PySem.Str} {t u : Tok}
end
end TxtL
namespace L2
open PySem PySem.Spec PyProof.Rows
section
variable {X : Cx}
end
end L2
namespace DL
open PySem PySem.Spec PyProof.Rows L2
section
variable {X : Cx} {K : PySem.W.Frag} {o e : Expr} {apos cpos : Pos} {g : Ds → Option D} {gA : Ds → Option (List D)} {name : PySem.Str} {id : String} {r : V → List V → Hp → VK → Prop} {f : D → List D → Option D}
end
end DL
/-! Chained comparisons; an int times a text. -/
namespace DL
open PySem PySem.Spec PyProof.Rows L2
@[simp] def chainG (ga gb gc : GE) (f f' : D → D → Option D) : GE := fun δ => (ga δ).bind fun x => (gb δ).bind fun y => (f x y).bind fun t => (asB t).bind fun k => if k = true then (gc δ).bind fun z => f' y z else some (.bl false)
@[simp] def mulI : D → D → Option D
  | .int n, .str x => if -(2 ^ 62) ≤ n ∧ n < 2 ^ 62 ∧ x.length * n.toNat ≤ sizeLine then some (.str (repD x n)) else none
  | _, _ => none
section
variable {X : Cx} {e a b c : Expr} {es : List Expr} {pos : Pos} {g ga gb gc : Ds → Option D}
theorem chain_red {K : PySem.W.Frag} {r r' : R2} {f f' : D → D → Option D} (hf : Op2 K r f) (hf' : Op2 K r' f') {B : BS} {δ : Ds} {σ : St} {H : Hp} {Q : VK} (h : tD K B δ (chainG ga gb gc f f') σ H Q) : tChain r r' (tD K B δ ga) (tD K B δ gb) (tD K B δ gc) σ H Q := by
  obtain ⟨d, en, h, k⟩ := h
  unfold chainG at h
  cases e1 : ga δ with
  | none => rw [e1] at h; cases h
  | some x =>
    cases e2 : gb δ with
    | none => rw [e1, e2] at h; cases h
    | some y =>
      rw [e1, e2] at h
      simp only [Option.bind_some] at h
      cases e3 : f x y with
      | none => rw [e3] at h; cases h
      | some t =>
        rw [e3] at h
        simp only [Option.bind_some] at h
        cases e4 : asB t with
        | none => rw [e4] at h; cases h
        | some kb =>
          rw [e4] at h
          simp only [Option.bind_some] at h
          cases asB_eq e4
          refine ⟨x, en, e1, fun v1 H1 s1 r1 => ⟨y, en.same s1, e2, fun v2 H2 s2 r2 => ?_⟩⟩
          refine hf H2 B v1 v2 x y _ _ ((en.same s1).same s2).bad (r1.same s2) r2 e3 fun v H3 s3 r3 => ?_
          rw [rp_bl] at r3
          refine ⟨kb, r3, ?_⟩
          cases kb with
          | false =>
            rw [if_neg Bool.false_ne_true] at h ⊢
            cases h
            exact k _ H3 ((s1.trans s2).trans s3) (by rw [rp_bl])
          | true =>
            rw [if_pos rfl] at h ⊢
            cases e5 : gc δ with
            | none => rw [e5] at h; cases h
            | some z =>
              rw [e5] at h
              simp only [Option.bind_some] at h
              refine ⟨z, ((en.same s1).same s2).same s3, e5, fun v4 H4 s4 r4 => ?_⟩
              exact hf' H4 B v2 v4 y z d _ ((((en.same s1).same s2).same s3).same s4).bad ((r2.same s3).same s4) r4 h fun v' H5 s5 r5 => k v' H5 ((((s1.trans s2).trans s3).trans s4).trans s5) r5
theorem ptd_chain {op op' : CmpOp} {r r' : R2} {f f' : D → D → Option D} (ho : OpR X (compareOp op) r) (hf : Op2 X.K r f) (ho' : OpR X (compareOp op') r') (hf' : Op2 X.K r' f') (ha : PD X a ga) (hb : PD X b gb) (hc : PD X c gc)
    (hm : lastMarks [op, op'] [b, c] = false := by with_unfolding_all rfl) : PTD X (.Compare a [op, op'] [b, c] pos) (ob (chainG ga gb gc f f')) :=
  .mk fun B δ => (pt_chain ho ho' (ha B δ) (hb B δ) (hc B δ) hm).imp fun σ H Q ⟨t, en, h, k⟩ => by
    unfold ob at h
    cases e : chainG ga gb gc f f' δ with
    | none => rw [e] at h; cases h
    | some d =>
      rw [e] at h
      cases asB_eq h
      exact chain_red hf hf' ⟨_, en, e, fun v H' s r => ⟨t, by rw [rp_bl] at r; exact r, k H' s⟩⟩
end
end DL
/-! l < m of lists of ints; l.clear(). -/
namespace HL
open PySem PySem.SeqAt PyProof.Rows
open PySem.AutoSeq1 (wpAny_loadPart')
open PySem.MeetsSeq PySem.MeetsSeq2 PySem.MeetsSeq3
theorem intsAre_get : ∀ {vs : List Value} {ns : List Int}, IntsAre vs ns → ∀ i, i < vs.length → ∃ a t, vs[i]? = some (.int a t) ∧ ns.drop i = a :: ns.drop (i + 1)
  | _, _, .nil, i, h => by simp at h
  | _, _, .cons a t r, 0, _ => ⟨a, t, rfl, rfl⟩
  | _, _, .cons a t r, i + 1, h => by
    obtain ⟨b, u, h1, h2⟩ := intsAre_get r i (by simpa using h)
    exact ⟨b, u, by simpa using h1, by simpa using h2⟩
theorem lt_loop (l b : Addr) (items items2 : Array Value) (n n2 : Nat) (dd dd2 : Option Addr) (sl sl2 : Array (Option Value)) (ns ms : List Int) (hi : IntsAre items.toList ns) (hj : IntsAre items2.toList ms) (k : Nat) :
    ∀ i : Nat, items.size - i = k → i ≤ items.size → i ≤ items2.size → Meets (Builtin.«list.__eq__.loop» ⟨[.ref l, .ref b, rawInt i, rawInt 0], []⟩)
      (fun A R s => s.heap.get? l = some { cls := .type "list", dict := dd, data := .seq items n, slots := sl } ∧ s.heap.get? b = some { cls := .type "list", dict := dd2, data := .seq items2 n2, slots := sl2 } ∧
        R (.ok (.ret (.bool (HT.lexLt (ns.drop i) (ms.drop i))))) s) := by
  have z1 : items.size = ns.length := by rw [← hi.length]; simp
  have z2 : items2.size = ms.length := by rw [← hj.length]; simp
  induction k with
  | zero =>
    intro i hk hil hil2 prog w A R s h
    obtain ⟨hp, g, d, tk, os⟩ := s; obtain ⟨hl, hb, h⟩ := h
    wp_walk using wpAny_loadPart' hl, wpAny_loadPart' hb
    have hi1 : items[((i : Nat) : Int).toNat]? = none := by simp; omega
    rw [hi1]
    have hd : ns.drop i = [] := by rw [List.drop_eq_nil_iff]; omega
    have hv : HT.lexLt (ns.drop i) (ms.drop i) = decide (items.size < items2.size) := by
      rw [hd]
      cases e : ms.drop i with
      | nil =>
        have := List.drop_eq_nil_iff.mp e
        rw [HT.lexLt_nil_nil, decide_eq_false (by omega)]
      | cons x r =>
        have : i < ms.length := by
          by_cases q : i < ms.length
          · exact q
          · rw [List.drop_eq_nil_iff.mpr (by omega)] at e; cases e
        rw [HT.lexLt_nil_cons, decide_eq_true (by omega)]
    rw [hv] at h
    wp_walk using wpAny_loadPart' hl, wpAny_loadPart' hb
    exact h
  | succ k ih =>
    intro i hk hil hil2 prog w A R s h
    obtain ⟨hp, g, d, tk, os⟩ := s; obtain ⟨hl, hb, h⟩ := h
    wp_walk using wpAny_loadPart' hl, wpAny_loadPart' hb
    have hlt : i < items.size := by omega
    obtain ⟨a, t, e1, d1⟩ := intsAre_get hi i (by simpa using hlt)
    have hi1 : items[((i : Nat) : Int).toNat]? = some (.int a t) := by rw [Int.toNat_natCast]; simpa using e1
    have hc : ((i : Int) + 1) = ((i + 1 : Nat) : Int) := by push_cast; rfl
    by_cases hlt2 : i < items2.size
    · obtain ⟨c, u, e2, d2⟩ := intsAre_get hj i (by simpa using hlt2)
      have hi2 : items2[((i : Nat) : Int).toNat]? = some (.int c u) := by rw [Int.toNat_natCast]; simpa using e2
      rw [hi1, hi2]
      rw [d1, d2, HT.lexLt_cons] at h
      obtain ⟨e, he, hiff⟩ := HT.eqAt_int A.in1 ⟨hp, g, d, tk, os⟩ a t c u
      refine wpAny_bind (he prog w _ _ ?_)
      cases e with
      | true =>
        rw [if_pos (hiff.mp rfl)] at h
        wp_walk
        rw [hc]
        exact ⟨plainId_quiet plain_eq_loop _, codeAny_builtin entry_eq_loop (by
          rw [Around.under_plainId plain_eq_loop _]
          exact ih (i + 1) (by omega) (by omega) (by omega) prog w A R _ ⟨hl, hb, h⟩)⟩
      | false =>
        rw [if_neg (fun q => absurd (hiff.mpr q) Bool.false_ne_true)] at h
        have hri := HT.rcLt_int A.in1 ⟨hp, g, d, tk, os⟩ a t c u prog w
        wp_walk using wpAny_loadPart' hl, wpAny_loadPart' hb
        rw [hi1, hi2]
        wp_walk using hri
        exact h
    · have hi2 : items2[((i : Nat) : Int).toNat]? = none := by simp; omega
      rw [hi1, hi2]
      have hd : ms.drop i = [] := by rw [List.drop_eq_nil_iff]; omega
      rw [d1, hd, HT.lexLt_cons_nil] at h
      wp_walk using wpAny_loadPart' hl, wpAny_loadPart' hb
      show R (.ok (.ret (.bool (decide (items.size < items2.size))))) _
      rw [decide_eq_false (by omega)]
      exact h
theorem list_lt (l b : Addr) (items items2 : Array Value) (n n2 : Nat) (dd dd2 : Option Addr) (sl sl2 : Array (Option Value)) (ns ms : List Int) (hi : IntsAre items.toList ns) (hj : IntsAre items2.toList ms) :
    Meets (Builtin.«list.__lt__» ⟨[.ref l, .ref b], []⟩)
      (fun A R s => s.heap.get? l = some { cls := .type "list", dict := dd, data := .seq items n, slots := sl } ∧ s.heap.get? b = some { cls := .type "list", dict := dd2, data := .seq items2 n2, slots := sl2 } ∧
        R (.ok (.ret (.bool (HT.lexLt ns ms)))) s) := by
  intro prog w A R s h
  obtain ⟨hp, g, d, tk, os⟩ := s; obtain ⟨hl, hb, h⟩ := h
  have f3 := AutoSeq1.sub_list_list
  wp_walk using wpAny_loadPart' hl, wpAny_loadPart' hb
  exact ⟨plainId_quiet plain_eq_loop _, codeAny_builtin entry_eq_loop (by
    rw [Around.under_plainId plain_eq_loop _]
    exact lt_loop l b items items2 n n2 dd dd2 sl sl2 ns ms hi hj _ 0 rfl (by omega) (by omega) prog w A R _ ⟨hl, hb, h⟩)⟩
end HL
namespace DL
open PySem PySem.Spec PyProof.Rows L2
def intsL : List D → Option (List Int)
  | [] => some []
  | .int i :: r => (intsL r).map (i :: ·)
  | _ => none
@[simp] def ltLD : D → D → Option D
  | .lst xs, .lst ys => (intsL xs).bind fun ns => (intsL ys).map fun ms => .bl (HT.lexLt ns ms)
  | _, _ => none
@[simp] def clearX (i : Nat) : GX := fun δ => (owL i δ).map fun _ => (.non, δ.set i (.ow (.lst [])))
theorem intsL_map (ns : List Int) : intsL (ns.map .int) = some ns := by
  induction ns with
  | nil => rfl
  | cons n r ih => show (intsL (r.map .int)).map (n :: ·) = _; rw [ih]; rfl
theorem intsL_eq : ∀ {ds : List D} {ns : List Int}, intsL ds = some ns → ds = ns.map .int
  | [], ns, h => by cases h; rfl
  | .int i :: r, ns, h => by
    unfold intsL at h
    cases e : intsL r with
    | none => rw [e] at h; cases h
    | some ms =>
      rw [e] at h
      cases h
      rw [intsL_eq e]
      rfl
  | .non :: _, _, h => by unfold intsL at h; cases h
  | .bl _ :: _, _, h => by unfold intsL at h; cases h
  | .str _ :: _, _, h => by unfold intsL at h; cases h
  | .tup _ :: _, _, h => by unfold intsL at h; cases h
  | .lst _ :: _, _, h => by unfold intsL at h; cases h
  | .dct _ _ :: _, _, h => by unfold intsL at h; cases h
theorem rps_ints {K : PySem.W.Frag} {H : Hp} {B : BS} : ∀ {ns : List Int} {xs : List V}, Rps K H B (ns.map .int) xs → xs = ns.map V.int
  | [], xs, h => by rw [List.map_nil, rps_nil] at h; exact h
  | n :: r, xs, h => by
    rw [List.map_cons, rps_cons] at h
    obtain ⟨x, r', rfl, h1, h2⟩ := h
    rw [rp_int] at h1
    rw [h1, rps_ints h2]
    rfl
section
variable {X : Cx} {e a b c : Expr} {es : List Expr} {pos px apos cpos : Pos} {g ga gb gc : Ds → Option D} {x : Str}
def rLtL (K : PySem.W.Frag) : R2 := fun x y H Q => ∃ a b ns ms, x = .ref a ∧ y = .ref b ∧ SqL K H a (ns.map V.int) ∧ SqL K H b (ms.map V.int) ∧ Q (.bl (HT.lexLt ns ms)) H
theorem op_ltL (hu : X.A.units < cLine) : OpR X (compareOp .Lt) (rLtL X.K) := by
  intro pins s σ H x y v u Q I rx ry h
  obtain ⟨a, b, ns, ms, rfl, rfl, ha, hb, q⟩ := h
  cases rx
  cases ry
  obtain ⟨its, r1, ⟨⟨cls, dd, data, sl⟩, n, ho, hc, hdd, hd⟩, _⟩ := I.list ha
  obtain ⟨its2, r2, ⟨⟨cls2, dd2, data2, sl2⟩, n2, ho2, hc2, hdd2, hd2⟩, _⟩ := I.list hb
  simp only at hc hd hc2 hd2
  subst hc hd hc2 hd2
  have i1 : IntsAre its.toArray.toList ns := intsAre_of r1
  have i2 : IntsAre its2.toArray.toList ms := intsAre_of r2
  exact richCompare_meets_room (op := .Lt) ⟨_, ho, rfl⟩ ⟨_, ho2, rfl⟩ PySem.F.slot_list_lt PySem.F.entry_list_lt (PySem.F.args_list_lt_2 _ _) (HL.list_lt a b its.toArray its2.toArray n n2 dd dd2 sl sl2 ns ms i1 i2)
    ⟨ho, ho2, show Value.bool (HT.lexLt ns ms) ≠ Value.notImplemented ∧ EP X pins σ Q (.bool (HT.lexLt ns ms)) s from ⟨(fun x => nomatch x), ⟨.bl (HT.lexLt ns ms), H, I, rfl, q⟩⟩⟩ hu
theorem op2_ltL {K : PySem.W.Frag} : Op2 K (rLtL K) ltLD := by
  intro H B x y dx dy d Q hb rx ry h k
  cases dx <;> cases dy <;> simp only [ltLD] at h <;> try cases h
  rename_i xs ys
  cases e1 : intsL xs with
  | none => rw [e1] at h; cases h
  | some ns =>
    cases e2 : intsL ys with
    | none => rw [e1, e2] at h; cases h
    | some ms =>
      rw [e1, e2] at h
      cases h
      rw [intsL_eq e1, rp_lst] at rx
      rw [intsL_eq e2, rp_lst] at ry
      obtain ⟨a, us, rfl, q1, r1⟩ := rx
      obtain ⟨b, ws, rfl, q2, r2⟩ := ry
      have := rps_ints r1
      subst this
      have := rps_ints r2
      subst this
      exact ⟨a, b, ns, ms, rfl, rfl, q1.to, q2.to, k _ H (Same.refl H) (by rw [rp_bl])⟩
theorem px_clear (i : Nat) (hN : X.N[i]? = some x := by rfl) (hv : Vis X.env.scope x := by first | exact Or.inl rfl | exact Or.inr (Or.inl rfl) | exact Or.inr (Or.inr rfl)) (hd : (x == ("__debug__" : Str)) = false := by decide) (hcd : (x == ("__classdict__" : Str)) = false := by decide)
    (hbase : attributeBase (.Name x px) "clear" X.env (eval (.Name x px) X.env) = eval (.Name x px) X.env := by rfl) (hline : (apos.endLine == cpos.line) = true := by rfl) :
    PX X (.Call (.Attribute (.Name x px) "clear" apos) [] [] cpos) (clearX i) := .mk fun H₀ B₀ δ pins s σ H Q I ⟨r, en, e1, k⟩ => by
  unfold clearX at e1
  obtain ⟨B, b1, b2, env⟩ := en.ex
  cases e2 : owL i δ with
  | none => rw [e2] at e1; cases e1
  | some ds =>
    rw [e2] at e1
    cases e1
    have hi := owL_eq e2
    obtain ⟨a, hs', hb, xs, hx, rx⟩ := env.at hi
    refine pe_bm0 PySem.F.plainAttrs_list PySem.F.slot_list_clear PySem.F.type_list_clear mt_clear (pe_var (i := i) hN hv hd hcd) hbase hline pins s σ H Q I
      ⟨_, hs', .inl ⟨rfl, xs, .inl (.inl hx)⟩, a, xs, rfl, rfl, hx, ?_⟩
    have env2 : Env X.K (upd H a (.lst [])) B σ (δ.set i (.ow (.lst []))) := env.mut hi hs' ⟨_, upd_same, by rw [rps_nil]⟩
    exact k _ _ (EnvV.mk' (en.mut (Same.refl _) b1 b2 hi hs' env2) b1 b2 env2 (by rw [rp_non]))
end
end DL
/-! Walks over zip(a, b) with one name: the pair is kept by the name; a zip whose last own pair is dead takes its own tuple again. -/
namespace ZipL
open PySem PySem.Spec PyProof.Rows
section
variable {prog : Program} {w : World} {A : Around} {E : Value → Shared → Prop} {s : Shared}
end
end ZipL
namespace L2
open PySem PySem.Spec PyProof.Rows
section
variable {X : Cx} {nx : Str} {tpos : Pos}
end
end L2
namespace DL
open PySem PySem.Spec PyProof.Rows L2
section
variable {X : Cx} {nx : Str} {tpos : Pos} {a b : Expr} {p pos : Pos} {gA : Ds → Option (List D)}
end
end DL
/-! dict([(t, v), ..]), t tuples. -/
namespace L2
open PySem PySem.Spec PyProof.Rows
section
variable {X : Cx} {pins : List (Addr × Obj)} {σ : List (Option V)} {A : Around} {E : Value → Shared → Prop}
/-- a pair of the list: its address, its key's, the key, the value -/
structure PKV where
  p : Addr
  b : Addr
  k : List Key
  v : V
def PKV.ok (H : Hp) (x : PKV) : Prop := H x.p = some (.tup [.ref x.b, x.v]) ∧ H x.b = some (.tup (x.k.map kV))
end
end L2
namespace L2
open PySem PySem.Spec PyProof.Rows
end L2
namespace DL
open PySem PySem.Spec PyProof.Rows L2
section
variable {K : PySem.W.Frag} {H : Hp} {B : BS}
end
section
variable {X : Cx} {e : Expr} {pos p : Pos} {g : Ds → Option D}
end
end DL
/-! {t: v}, t a tuple. -/
namespace L2
open PySem PySem.Spec PyProof.Rows
section
variable {X : Cx} {pins : List (Addr × Obj)} {σ : List (Option V)} {A : Around} {E : Value → Shared → Prop}
end
end L2
namespace DL
open PySem PySem.Spec PyProof.Rows L2
section
variable {K : PySem.W.Frag} {H : Hp} {B : BS} {σ : St} {δ : Ds}
theorem Env.fresh {p : Addr} {o : HO} (e : Env K H B σ δ) (hp : H p = none) : Env K (upd H p o) (fun a => B a ∨ a = p) σ δ := by
  refine ⟨Pd.imp (fun v s h => ?_) e.all, fun a z => ?_, e.own⟩
  · cases s with
    | un => trivial
    | ex c n => obtain ⟨u, q, r⟩ := h; exact ⟨u, q, r.mono (Gr.fresh hp)⟩
    | sh d => obtain ⟨u, q, r⟩ := h; exact ⟨u, q, r.mono (Gr.fresh hp)⟩
    | ow d =>
      obtain ⟨a, q, hb, r⟩ := h
      exact ⟨a, q, .inl hb, r.mono (fun o ho => by rw [upd_ne (ne_of_none ho hp)]; exact ho) (Gr.fresh hp)⟩
  · rcases z with z | z
    · have := e.bad a z
      by_cases q : a = p
      · rw [q, upd_same]; exact fun w => nomatch w
      · rw [upd_ne q]; exact this
    · rw [z, upd_same]; exact fun w => nomatch w
end
section
variable {X : Cx} {ke ve : Expr} {pos : Pos} {gk gv : Ds → Option D}
end
end DL
/-! max of two ints; x += e of ints. -/
namespace DL
open PySem PySem.Spec PyProof.Rows L2
@[simp] def maxD : List D → Option D
  | [.int i, .int j] => some (.int (if j > i then j else i))
  | _ => none
section
variable {X : Cx} {e : Expr} {pos pos' : Pos} {g : Ds → Option D} {x : Str}
end
end DL
/-! return of a new list made of lists of one's own; a new list of flat things made of one's own. -/
namespace DL
open PySem PySem.Spec PyProof.Rows L2
def flats (ds : List D) : Bool := ds.all flat
def borL (g : GE) : GE := fun δ => (g (frz δ)).bind fun d => match d with
  | .lst ds => if flats ds = true then some (.lst ds) else none
  | _ => none
theorem borL_of {g : GE} {δ : Ds} {ds : List D} (h : g (frz δ) = some (.lst ds)) (hf : flats ds = true) : borL g δ = some (.lst ds) := by
  unfold borL
  rw [h, Option.bind_some]
  simp only []
  rw [if_pos hf]
section
variable {X : Cx} {e : Expr} {g : GE} {pos : Pos}
theorem flats_rps {K : PySem.W.Frag} {H H' : Hp} {B B' : BS} : ∀ {ds : List D} {xs : List V}, flats ds = true → Rps K H B ds xs → Rps K H' B' ds xs
  | [], xs, _, r => by rw [rps_nil] at r ⊢; exact r
  | d :: ds, xs, h, r => by
    rw [rps_cons] at r ⊢
    obtain ⟨x, r', e1, r1, r2⟩ := r
    unfold flats at h
    rw [List.all_cons, Bool.and_eq_true] at h
    exact ⟨x, r', e1, flat_rp h.1 r1, flats_rps (ds := ds) h.2 r2⟩
theorem psd_retFB (h : PDF X e g) : PSD X (.Return (some e) pos) (retF (borA g)) := .mk fun H₀ B₀ δ pins s σ H D I ⟨r, en, hq, k⟩ =>
  psd_retF h H₀ B₀ (frz δ) pins s σ H D I ⟨r, en.frz, hq, k⟩
theorem pdf_borL (h : PDF X e g) : PDF X e (borL g) := .mk fun B δ pins s σ H Q I ⟨d, en, hq, k⟩ => by
  obtain ⟨B', c1, c2, en'⟩ := en.frz
  unfold borL at hq
  cases e1 : g (frz δ) with
  | none => rw [e1] at hq; cases hq
  | some x =>
    rw [e1, Option.bind_some] at hq
    cases x with
    | lst ds =>
      simp only [] at hq
      by_cases hf : flats ds = true
      · rw [if_pos hf] at hq
        cases hq
        exact h B' (frz δ) pins s σ H Q I ⟨_, en', e1, fun p H' hp s' r => k p H' hp s' (by
          obtain ⟨xs, e5, r5⟩ := r
          exact ⟨xs, e5, flats_rps hf r5⟩)⟩
      · rw [if_neg hf] at hq; cases hq
    | non => cases hq
    | bl _ => cases hq
    | int _ => cases hq
    | str _ => cases hq
    | tup _ => cases hq
    | dct _ _ => cases hq
end
end DL
/-! isinstance(x, (T1, T2, ..)), the T built in. -/
namespace DL
open PySem PySem.Spec PyProof.Rows L2
section
variable {X : Cx}
structure PTy (X : Cx) (es : List Expr) (Ts : List String) : Prop where
  go : PA X es (fun _ H Q => Q (Ts.map V.ty) H)
end
end DL
namespace K25
open PySem DL
def G_number_bytes : GS := (seqD (ownD 1 (lstG (consA (o2 (gv 0) (gc (.int 128)) modD) nilA)))
  (seqD (setD (gN 2) (o2 (gv 0) (gc (.int 128)) fdivD))
  (seqD (whileD (ob (o2 (gv 2) (gc (.int 0)) gtD))
  (seqD (exprX (appX 1 (o2 (gc (.int 128)) (o2 (gv 2) (gc (.int 128)) modD) addA)))
  (seqD (setD (gN 2) (o2 (gv 2) (gc (.int 128)) fdivD))
  nilD)) 100000)
  (seqD (retF (borA (oA (consA (gv 1) nilA) revD)))
  nilD))))
def N_number_bytes : List Str := ["number", "out", "rest"]
def m_number_bytes : List D → Option D := mkN 1 N_number_bytes G_number_bytes
def G__law_number : GS := (seqD (ifD (ob (o2 (o2 (gv 0) (gc (.int 3)) modD) (gc (.int 0)) eqD))
  (seqD (retD (o2 (o2 (gv 0) (gc (.int 3)) fdivD) (gc (.int 400)) modD))
  nilD)
  nilD)
  (seqD (ifD (ob (o2 (o2 (gv 0) (gc (.int 3)) modD) (gc (.int 1)) eqD))
  (seqD (setD (gN 1) (gc (.int 1)))
  (seqD (forG (rng1I (consA (o2 (o2 (gv 0) (gc (.int 3)) fdivD) (gc (.int 28)) modD) nilA)) (gN 2)
  (seqD (setD (gN 1) (o2 (gv 1) (gc (.int 128)) mulA))
  nilD))
  (seqD (retD (o2 (o2 (gv 1) (gc (.int 1)) subD) (o2 (o2 (gv 0) (gc (.int 84)) fdivD) (gc (.int 3)) modD) addA))
  nilD)))
  nilD)
  (seqD (retD (o2 (o2 (gv 0) (gc (.int 3)) fdivD) (o2 (o2 (gc (.int 10)) (gc (.int 60)) powD) (gc (.int 1)) subD) modD))
  nilD)))
def N__law_number : List Str := ["_law_cell", "_law_power", "_law_k"]
def m__law_number : List D → Option D := mkF 1 N__law_number G__law_number
def G__law_right : GS := (seqD (ifD (tOrG (tNotG (ob (isiG isLst (gv 0)))) (ob (o2 (gv 0) (lstG nilA) eqDD)))
  (seqD (retD (gc (.bl false)))
  nilD)
  nilD)
  (seqD (setD (gN 2) (gc (.int 0)))
  (seqD (forG (enumI (consA (gv 0) nilA)) (tup2 3 4)
  (seqD (ifD (tOrG (tNotG (ob (isiG isInt (gv 4)))) (tOrG (ob (isiG isBool (gv 4))) (tNotG (ob (chainG (gc (.int 0)) (gv 4) (gc (.int 256)) leD ltD)))))
  (seqD (retD (gc (.bl false)))
  nilD)
  nilD)
  (seqD (ifD (tOrG (ob (o2 (o2 (gv 4) (gc (.int 127)) gtD) (o2 (gv 3) (o2 (oA (consA (gv 0) nilA) lenD) (gc (.int 1)) subD) ltD) neD)) (tAndG (ob (o2 (gv 4) (gc (.int 128)) eqD)) (ob (o2 (gv 3) (gc (.int 0)) eqD))))
  (seqD (retD (gc (.bl false)))
  nilD)
  nilD)
  (seqD (setD (gN 2) (o2 (o2 (gv 2) (gc (.int 128)) mulA) (o2 (gv 4) (gc (.int 128)) modD) addA))
  nilD))))
  (seqD (retD (o2 (gv 2) (gv 1) eqD))
  nilD))))
def N__law_right : List Str := ["_law_found", "_law_number_here", "_law_due", "_law_k", "_law_byte"]
def m__law_right : List D → Option D := mkF 2 N__law_right G__law_right
def G_law : GS := (seqD (forG (lstI (o2 (gv 0) (lstG (consA (gc (.int 0)) (consA (gc (.int 1)) (consA (gc (.int 382)) nilA)))) addA)) (gN 1)
  (seqD (setD (gN 2) (oA (consA (gv 1) nilA) m__law_number))
  (seqD (ownD 3 (oA (consA (gv 2) nilA) m_number_bytes))
  (seqD (setD (gN 4) (oA (consA (o2 (gv 2) (gc (.int 1)) addA) nilA) m_number_bytes))
  (seqD (ifD (tOrG (tNotG (ob (borT (oA (consA (gv 3) (consA (gv 2) nilA)) m__law_right)))) (tNotG (ob (oA (consA (gv 4) (consA (o2 (gv 2) (gc (.int 1)) addA) nilA)) m__law_right))))
  (seqD (retD (gc (.bl false)))
  nilD)
  nilD)
  (seqD (ifD (tOrG (ob (o2 (oA (consA (gv 4) nilA) lenD) (borE (oA (consA (gv 3) nilA) lenD)) ltD)) (tAndG (ob (o2 (oA (consA (gv 4) nilA) lenD) (borE (oA (consA (gv 3) nilA) lenD)) eqD)) (tNotG (borB (ob (o2 (gv 3) (gv 4) ltLD))))))
  (seqD (retD (gc (.bl false)))
  nilD)
  nilD)
  (seqD (ownD 5 (borL (oA (consA (gv 3) nilA) lstOfD)))
  (seqD (exprX (clearX 3))
  (seqD (ifD (borB (ob (o2 (oA (consA (gv 2) nilA) m_number_bytes) (gv 5) neDD)))
  (seqD (retD (gc (.bl false)))
  nilD)
  nilD)
  nilD)))))))))
  (seqD (retD (gc (.bl true)))
  nilD))
def N_law : List Str := ["_law_script", "_law_cell", "_law_number_here", "_law_found", "_law_more", "_law_kept"]
def m_law : List D → Option D := mkF 1 N_law G_law
theorem mul_r (i j : Int) (h : -(2 ^ 64) < j ∧ j < 2 ^ 64) : mulA (.int i) (.int j) = some (.int (i * j)) := by simp only [mulA]; rw [if_pos (.inr h)]
theorem mod_p (i j : Int) (h : 0 < j) : modD (.int i) (.int j) = some (.int (i % j)) := by simp only [modD, ii]; rw [if_pos h]
theorem or_f {g1 g2 : GB} {δ : Ds} (h1 : g1 δ = some false) (h2 : g2 δ = some false) : tOrG g1 g2 δ = some false := by
  unfold tOrG
  rw [h1, Option.bind_some, if_neg (by decide), h2]
theorem not_t {g : GE} {δ : Ds} {b : Bool} (h : g δ = some (.bl b)) : tNotG (ob g) δ = some (!b) := by
  unfold tNotG ob
  rw [h]
  rfl
theorem b_of {g : GE} {δ : Ds} {b : Bool} (h : g δ = some (.bl b)) : ob g δ = some b := by
  unfold ob
  rw [h]
  rfl
theorem app_ow {i : Nat} {g : GE} {δ : Ds} {l : List D} {d : D} (h1 : owL i δ = some l) (h2 : g δ = some d) (h3 : l.length < sizeLine) : exprX (appX i g) δ = some (.nx (δ.set i (.ow (.lst (l ++ [d]))))) := by
  unfold exprX appX
  rw [h1, h2]
  simp only [Option.bind_some]
  rw [if_pos h3]
  rfl
theorem chain_t {ga gb gc : GE} {f f' : D → D → Option D} {δ : Ds} {x y z : D} (h1 : ga δ = some x) (h2 : gb δ = some y) (h3 : gc δ = some z) (h4 : f x y = some (.bl true)) : chainG ga gb gc f f' δ = f' y z := by
  unfold chainG
  rw [h1, h2]
  simp only [Option.bind_some]
  rw [h4]
  show Option.bind (gc δ) _ = _
  rw [h3]
  rfl
theorem and_t1 {g1 g2 : GB} {δ : Ds} (h : g1 δ = some true) : tAndG g1 g2 δ = g2 δ := by
  unfold tAndG
  rw [h]
  rfl
/-! ### digits -/
def dg (r : Nat) : List Int := if h : r = 0 then [] else ((128 + r % 128 : Nat) : Int) :: dg (r / 128)
termination_by r
decreasing_by omega
theorem dg_0 : dg 0 = [] := by unfold dg; rw [dif_pos rfl]
theorem dg_s (r : Nat) (h : r ≠ 0) : dg r = ((128 + r % 128 : Nat) : Int) :: dg (r / 128) := by conv => lhs; unfold dg; rw [dif_neg h]
def hi (r : Nat) : List Int := (dg r).reverse
theorem hi_0 : hi 0 = [] := by unfold hi; rw [dg_0]; rfl
theorem hi_s (r : Nat) (h : r ≠ 0) : hi r = hi (r / 128) ++ [((128 + r % 128 : Nat) : Int)] := by unfold hi; rw [dg_s r h, List.reverse_cons]
def bs (n : Nat) : List Int := hi (n / 128) ++ [((n % 128 : Nat) : Int)]
def WT : GB := (ob (o2 (gv 2) (gc (.int 0)) gtD))
def WB : GS := (seqD (exprX (appX 1 (o2 (gc (.int 128)) (o2 (gv 2) (gc (.int 128)) modD) addA)))
  (seqD (setD (gN 2) (o2 (gv 2) (gc (.int 128)) fdivD))
  nilD))
theorem wt (a b : Sl) (r : Nat) : WT [a, b, .sh (.int (r : Int))] = some (decide (0 < r)) := by
  show some (decide ((0 : Int) < (r : Int))) = _
  by_cases h : 0 < r
  · rw [decide_eq_true h, decide_eq_true (by omega)]
  · rw [decide_eq_false h, decide_eq_false (by omega)]
theorem wh (a : Sl) : ∀ (m r : Nat) (o : List Int) (f : Nat), r < 2 ^ m → m < f → o.length + m < sizeLine →
    ∃ s, whileD WT WB f [a, .ow (.lst (o.map .int)), .sh (.int (r : Int))] = some (.nx [a, .ow (.lst ((o ++ dg r).map .int)), s])
  | m, r, o, 0, _, hf, _ => absurd hf (Nat.not_lt_zero _)
  | m, r, o, f + 1, hr, hf, hl => by
    by_cases h0 : r = 0
    · subst h0
      unfold whileD
      rw [wt, dg_0, List.append_nil]
      exact ⟨_, rfl⟩
    · cases m with
      | zero => simp at hr; omega
      | succ m =>
        have hb : WB [a, .ow (.lst (o.map .int)), .sh (.int (r : Int))] = some (.nx [a, .ow (.lst ((o ++ [((128 + r % 128 : Nat) : Int)]).map .int)), .sh (.int ((r / 128 : Nat) : Int))]) := by
          have e1 : (128 : Int) + (r : Int) % 128 = ((128 + r % 128 : Nat) : Int) := by omega
          have e2 : (r : Int) / 128 = ((r / 128 : Nat) : Int) := by omega
          refine seq_to (app_ow (l := o.map .int) (d := .int (128 + (r : Int) % 128)) rfl rfl (by rw [List.length_map]; omega)) ?_
          rw [List.map_append, ← e1, ← e2]
          rfl
        have h2 : r / 128 < 2 ^ m := by
          have : 2 ^ (m + 1) = 2 ^ m * 2 := Nat.pow_succ 2 m
          omega
        obtain ⟨s, e⟩ := wh a m (r / 128) (o ++ [((128 + r % 128 : Nat) : Int)]) f h2 (by omega) (by rw [List.length_append]; simp only [List.length_cons, List.length_nil]; omega)
        refine ⟨s, ?_⟩
        unfold whileD
        rw [wt, decide_eq_true (by omega)]
        simp only [hb]
        rw [e, dg_s r h0, List.append_assoc]
        rfl
theorem nb_ok (n : Nat) (h : n < 2 ^ 300) : m_number_bytes [.int (n : Int)] = some (.lst ((bs n).map .int)) := by
  have z : (1000 : Nat) ≤ sizeLine := by decide
  have h2 : n / 128 < 2 ^ 300 := Nat.lt_of_le_of_lt (Nat.div_le_self _ _) h
  obtain ⟨s, e⟩ := wh (.sh (.int (n : Int))) 300 (n / 128) [((n % 128 : Nat) : Int)] 100000 h2 (by decide) (by show 1 + 300 < _; omega)
  refine mkN_rf rfl ?_
  have e1 : (n : Int) % 128 = ((n % 128 : Nat) : Int) := by omega
  have e2 : (n : Int) / 128 = ((n / 128 : Nat) : Int) := by omega
  refine seq_to (δ' := [.sh (.int (n : Int)), .ow (.lst [.int ((n % 128 : Nat) : Int)]), .un]) (by rw [← e1]; rfl) ?_
  refine seq_to (set_of (d := .int ((n / 128 : Nat) : Int)) (by rw [← e2]; rfl)) ?_
  refine seq_to e (seq_rf (retF_of ?_))
  show some (D.lst (((((n % 128 : Nat) : Int) :: dg (n / 128)).map D.int).reverse)) = _
  rw [← List.map_reverse, List.reverse_cons]
  rfl
/-! ### what the bytes are -/
def val (l : List Int) : Int := l.foldl (fun d b => d * 128 + b % 128) 0
theorem val_app (l : List Int) (b : Int) : val (l ++ [b]) = val l * 128 + b % 128 := by unfold val; rw [List.foldl_append]; rfl
theorem val_hi : ∀ r : Nat, val (hi r) = (r : Int) := by
  intro r
  induction r using Nat.strongRecOn with
  | ind r ih =>
    by_cases h : r = 0
    · subst h; rw [hi_0]; rfl
    · rw [hi_s r h, val_app, ih (r / 128) (by omega)]
      omega
theorem val_bs (n : Nat) : val (bs n) = (n : Int) := by unfold bs; rw [val_app, val_hi]; omega
theorem hi_mem : ∀ (r : Nat) (b : Int), b ∈ hi r → 128 ≤ b ∧ b < 256 := by
  intro r
  induction r using Nat.strongRecOn with
  | ind r ih =>
    intro b hb
    by_cases h : r = 0
    · subst h; rw [hi_0] at hb; cases hb
    · rw [hi_s r h] at hb
      rcases List.mem_append.mp hb with q | q
      · exact ih _ (by omega) b q
      · rw [List.mem_singleton.mp q]; omega
theorem hi_head : ∀ (r : Nat) (b : Int), (hi r)[0]? = some b → b ≠ 128 := by
  intro r
  induction r using Nat.strongRecOn with
  | ind r ih =>
    intro b hb
    by_cases h : r = 0
    · subst h; rw [hi_0] at hb; cases hb
    · rw [hi_s r h] at hb
      by_cases h2 : r / 128 = 0
      · rw [h2, hi_0] at hb
        simp only [List.nil_append, List.getElem?_cons_zero, Option.some.injEq] at hb
        omega
      · have hne : 0 < (hi (r / 128)).length := by rw [hi_s _ h2]; simp
        rw [List.getElem?_append_left hne] at hb
        exact ih _ (by omega) b hb
theorem bs_get (n : Nat) (k : Nat) (b : Int) (h : (bs n)[k]? = some b) : 0 ≤ b ∧ b < 256 ∧ (127 < b ↔ (k : Int) < ((bs n).length : Int) - 1) ∧ ¬ (b = 128 ∧ k = 0) := by
  have hl : (bs n).length = (hi (n / 128)).length + 1 := by unfold bs; simp
  have h' := h
  unfold bs at h
  by_cases hk : k < (hi (n / 128)).length
  · rw [List.getElem?_append_left hk] at h
    have hm := hi_mem _ b (List.mem_of_getElem? h)
    refine ⟨by omega, by omega, ⟨fun _ => by omega, fun _ => by omega⟩, ?_⟩
    rintro ⟨e1, rfl⟩
    exact hi_head _ b h e1
  · rw [List.getElem?_append_right (by omega)] at h
    have hk2 : k - (hi (n / 128)).length = 0 := by
      have := (List.getElem?_eq_some_iff.mp h).1
      simp only [List.length_cons, List.length_nil] at this
      omega
    rw [hk2] at h
    simp only [List.getElem?_cons_zero, Option.some.injEq] at h
    refine ⟨by omega, by omega, ⟨fun _ => by omega, fun _ => by omega⟩, by rintro ⟨e1, _⟩; omega⟩
/-! ### what is right -/
def RB : GS := (seqD (ifD (tOrG (tNotG (ob (isiG isInt (gv 4)))) (tOrG (ob (isiG isBool (gv 4))) (tNotG (ob (chainG (gc (.int 0)) (gv 4) (gc (.int 256)) leD ltD)))))
  (seqD (retD (gc (.bl false)))
  nilD)
  nilD)
  (seqD (ifD (tOrG (ob (o2 (o2 (gv 4) (gc (.int 127)) gtD) (o2 (gv 3) (o2 (oA (consA (gv 0) nilA) lenD) (gc (.int 1)) subD) ltD) neD)) (tAndG (ob (o2 (gv 4) (gc (.int 128)) eqD)) (ob (o2 (gv 3) (gc (.int 0)) eqD))))
  (seqD (retD (gc (.bl false)))
  nilD)
  nilD)
  (seqD (setD (gN 2) (o2 (o2 (gv 2) (gc (.int 128)) mulA) (o2 (gv 4) (gc (.int 128)) modD) addA))
  nilD)))
theorem rb_ok (ds : List D) (n : Sl) (v : Int) (k : Nat) (b : Int) (h0 : 0 ≤ b) (h1 : b < 256) (h2 : 127 < b ↔ (k : Int) < (ds.length : Int) - 1) (h3 : ¬ (b = 128 ∧ k = 0)) :
    RB [.sh (.lst ds), n, .sh (.int v), .sh (.int (k : Int)), .sh (.int b)] = some (.nx [.sh (.lst ds), n, .sh (.int (v * 128 + b % 128)), .sh (.int (k : Int)), .sh (.int b)]) := by
  have hc : chainG (gc (.int 0)) (gv 4) (gc (.int 256)) leD ltD [.sh (.lst ds), n, .sh (.int v), .sh (.int (k : Int)), .sh (.int b)] = some (.bl true) := by
    rw [chain_t (x := .int 0) (y := .int b) (z := .int 256) rfl rfl rfl (by show some (D.bl (decide ((0 : Int) ≤ b))) = _; rw [decide_eq_true h0])]
    show some (D.bl (decide (b < 256))) = _
    rw [decide_eq_true h1]
  refine seq_to (δ' := [.sh (.lst ds), n, .sh (.int v), .sh (.int (k : Int)), .sh (.int b)]) ?_ (seq_to (δ' := [.sh (.lst ds), n, .sh (.int v), .sh (.int (k : Int)), .sh (.int b)]) ?_ ?_)
  · rw [if_f (or_f rfl (or_f rfl (not_t hc)))]
    rfl
  · rw [if_f (or_f (b_of (b := false) ?_) ?_)]
    · rfl
    · rw [o2_of (x := .bl (decide (127 < b))) (y := .bl (decide ((k : Int) < (ds.length : Int) - 1))) rfl rfl, decide_eq_decide.mpr h2]
      show some (D.bl (!(decide (decide ((k : Int) < (ds.length : Int) - 1) = decide ((k : Int) < (ds.length : Int) - 1))))) = _
      rw [decide_eq_true rfl]
      rfl
    · by_cases hb : b = 128
      · have hk : k ≠ 0 := fun e => h3 ⟨hb, e⟩
        rw [and_t1 (b_of (b := true) (by show some (D.bl (decide (b = 128))) = _; rw [decide_eq_true hb]))]
        exact b_of (by show some (D.bl (decide ((k : Int) = 0))) = _; rw [decide_eq_false (by omega)])
      · unfold tAndG
        rw [b_of (b := false) (by show some (D.bl (decide (b = 128))) = _; rw [decide_eq_false hb])]
        rfl
  · refine seq_to (set_of (d := .int (v * 128 + b % 128)) ?_) rfl
    rw [o2_of (x := .int (v * 128)) (y := .int (b % 128)) (by rw [o2_of (x := .int v) (y := .int 128) rfl rfl]; exact mul_r _ _ (by decide)) rfl]
    rfl
theorem enum_get {ds : List D} {j : Nat} {d : D} (h : (enumD ds)[j]? = some d) : j < ds.length ∧ d = .tup [.int (j : Int), ds.getD j .non] := by
  unfold enumD at h
  rw [List.getElem?_map] at h
  by_cases hj : j < ds.length
  · rw [List.getElem?_range hj] at h
    cases h
    exact ⟨hj, rfl⟩
  · rw [List.getElem?_eq_none (by rw [List.length_range]; omega)] at h
    cases h
theorem right_ok (n : Nat) : m__law_right [.lst ((bs n).map .int), .int (n : Int)] = some (.bl true) := by
  have hne : (bs n).length ≠ 0 := by unfold bs; simp
  obtain ⟨δ', l1, l2⟩ := forD_inv (f := tup2 3 4) (G := RB) (fun i δ => ∃ s3 s4, δ = [.sh (.lst ((bs n).map .int)), .sh (.int (n : Int)), .sh (.int (val ((bs n).take i))), s3, s4]) (enumD ((bs n).map .int)) 0
    [.sh (.lst ((bs n).map .int)), .sh (.int (n : Int)), .sh (.int 0), .un, .un] (by
      rintro j d δ hj ⟨s3, s4, rfl⟩
      obtain ⟨hj', rfl⟩ := enum_get hj
      rw [List.length_map] at hj'
      have hb : (bs n)[j]? = some ((bs n)[j]) := List.getElem?_eq_getElem hj'
      obtain ⟨b1, b2, b3, b4⟩ := bs_get n j _ hb
      have eg : ((bs n).map D.int).getD j .non = .int ((bs n)[j]) := by simp [List.getD_eq_getElem?_getD, hj']
      rw [eg, Nat.zero_add]
      refine ⟨_, _, rfl, rb_ok ((bs n).map .int) (.sh (.int (n : Int))) (val ((bs n).take j)) j ((bs n)[j]) b1 b2 (by rw [List.length_map]; exact b3) b4, .sh (.int (j : Int)), .sh (.int ((bs n)[j])), ?_⟩
      rw [List.take_succ, hb, ← val_app]
      rfl) ⟨_, _, rfl⟩
  obtain ⟨s3, s4, rfl⟩ := l2
  refine mkF_rt rfl ?_
  refine seq_to (δ' := [.sh (.lst ((bs n).map .int)), .sh (.int (n : Int)), .un, .un, .un]) ?_ ?_
  · rw [if_f (or_f rfl (b_of (b := false) ?_))]
    · rfl
    · cases e : bs n with
      | nil => rw [e] at hne; exact absurd rfl hne
      | cons a l =>
        rw [o2_of (x := .lst ((a :: l).map .int)) (y := .lst []) rfl (lst_of rfl (by decide))]
        show (if lean (.lst ((a :: l).map .int)) 50 = true ∧ lean (.lst []) 50 = true then some (D.bl (deq (.lst ((a :: l).map .int)) (.lst []))) else none) = _
        have hlean : ∀ q : List Int, leans (q.map .int) 49 = true := by
          intro q
          induction q with
          | nil => rfl
          | cons x q ih => show (lean (.int x) 49 && leans (q.map .int) 49) = true; rw [ih]; rfl
        rw [if_pos ⟨by show leans _ 49 = true; exact hlean _, rfl⟩]
        rfl
  refine seq_to (set_of (d := .int 0) rfl) (seq_to (for_of (items := enumD ((bs n).map .int)) rfl l1) (seq_rt (ret_of ?_)))
  have hlen : 0 + (enumD ((bs n).map .int)).length = (bs n).length := by unfold enumD; simp
  rw [o2_of (x := .int (n : Int)) (y := .int (n : Int)) (by
    show some (D.int (val ((bs n).take (0 + (enumD ((bs n).map .int)).length)))) = _
    rw [hlen, List.take_length, val_bs]) rfl]
  show some (D.bl (decide ((n : Int) = (n : Int)))) = _
  rw [decide_eq_true rfl]
/-! ### rising -/
theorem lex_app : ∀ (p : List Int) (x y : Int), x < y → HT.lexLt (p ++ [x]) (p ++ [y]) = true
  | [], x, y, h => by show (if x = y then _ else decide (x < y)) = true; rw [if_neg (by omega), decide_eq_true h]
  | a :: p, x, y, h => by show (if a = a then HT.lexLt (p ++ [x]) (p ++ [y]) else _) = true; rw [if_pos rfl]; exact lex_app p x y h
theorem lex_ext : ∀ (p q : List Int) (x y : Int), p.length = q.length → HT.lexLt p q = true → HT.lexLt (p ++ [x]) (q ++ [y]) = true
  | [], [], x, y, _, h => by cases h
  | a :: p, b :: q, x, y, hl, h => by
    have h' : (if a = b then HT.lexLt p q else decide (a < b)) = true := h
    show (if a = b then HT.lexLt (p ++ [x]) (q ++ [y]) else decide (a < b)) = true
    by_cases e : a = b
    · rw [if_pos e] at h' ⊢
      exact lex_ext p q x y (by simpa using hl) h'
    · rw [if_neg e] at h' ⊢
      exact h'
  | [], _ :: _, _, _, hl, _ => by simp at hl
  | _ :: _, [], _, _, hl, _ => by simp at hl
theorem hi_rise : ∀ r : Nat, (hi r).length ≤ (hi (r + 1)).length ∧ ((hi r).length = (hi (r + 1)).length → HT.lexLt (hi r) (hi (r + 1)) = true) := by
  intro r
  induction r using Nat.strongRecOn with
  | ind r ih =>
    by_cases h : r = 0
    · subst h
      rw [hi_0, hi_s (0 + 1) (by decide)]
      refine ⟨Nat.zero_le _, fun e => ?_⟩
      simp at e
    · rw [hi_s r h, hi_s (r + 1) (by omega)]
      by_cases h2 : r % 128 = 127
      · have e1 : (r + 1) / 128 = r / 128 + 1 := by omega
        have e2 : (r + 1) % 128 = 0 := by omega
        obtain ⟨i1, i2⟩ := ih (r / 128) (by omega)
        rw [e1]
        refine ⟨by simp only [List.length_append, List.length_cons, List.length_nil]; omega, fun e => lex_ext _ _ _ _ (by simp only [List.length_append, List.length_cons, List.length_nil] at e; omega) (i2 (by simp only [List.length_append, List.length_cons, List.length_nil] at e; omega))⟩
      · have e1 : (r + 1) / 128 = r / 128 := by omega
        rw [e1]
        exact ⟨by simp, fun _ => lex_app _ _ _ (by omega)⟩
theorem bs_rise (n : Nat) : (bs n).length ≤ (bs (n + 1)).length ∧ ((bs n).length = (bs (n + 1)).length → HT.lexLt (bs n) (bs (n + 1)) = true) := by
  unfold bs
  by_cases h2 : n % 128 = 127
  · have e1 : (n + 1) / 128 = n / 128 + 1 := by omega
    obtain ⟨i1, i2⟩ := hi_rise (n / 128)
    rw [e1]
    refine ⟨by simp only [List.length_append, List.length_cons, List.length_nil]; omega, fun e => lex_ext _ _ _ _ (by simp only [List.length_append, List.length_cons, List.length_nil] at e; omega) (i2 (by simp only [List.length_append, List.length_cons, List.length_nil] at e; omega))⟩
  · have e1 : (n + 1) / 128 = n / 128 := by omega
    rw [e1]
    exact ⟨by simp, fun _ => lex_app _ _ _ (by omega)⟩
/-! ### the number drawn -/
theorem pow60 : powD (.int 10) (.int 60) = some (.int (10 ^ 60)) := by kernel_rfl
def PB : GS := (seqD (setD (gN 1) (o2 (gv 1) (gc (.int 128)) mulA))
  nilD)
theorem number_ok (c : Int) : ∃ n : Nat, m__law_number [.int c] = some (.int (n : Int)) ∧ n < 2 ^ 250 := by
  have t0 : ∀ q : Int, ob (o2 (o2 (gv 0) (gc (.int 3)) modD) (gc (.int q)) eqD) [.sh (.int c), .un, .un] = some (decide (c % 3 = q)) := fun q => rfl
  by_cases h : c % 3 = 0
  · refine ⟨(c / 3 % 400).toNat, mkF_rt rfl (seq_rt ?_), Nat.lt_of_lt_of_le (m := 400) (by omega) (by decide)⟩
    rw [if_t (by rw [← decide_eq_true h]; exact t0 0), Int.toNat_of_nonneg (by omega)]
    rfl
  have f0 : ∀ (G1 : GS), ifD (ob (o2 (o2 (gv 0) (gc (.int 3)) modD) (gc (.int 0)) eqD)) G1 nilD [.sh (.int c), .un, .un] = some (.nx [.sh (.int c), .un, .un]) := fun G1 => by
    rw [if_f (by rw [← decide_eq_false h]; exact t0 0)]
    rfl
  by_cases h1 : c % 3 = 1
  · obtain ⟨t, ht⟩ : ∃ t : Nat, (t : Int) = c / 3 % 28 := ⟨(c / 3 % 28).toNat, by omega⟩
    obtain ⟨δ', l1, l2⟩ := forD_inv (f := gN 2) (G := PB) (fun i δ => ∃ s2, δ = [.sh (.int c), .sh (.int ((128 ^ i : Nat) : Int)), s2]) (rngD 0 (t : Int)) 0 [.sh (.int c), .sh (.int 1), .un] (by
      rintro j d δ hj ⟨s2, rfl⟩
      obtain ⟨hj', rfl⟩ := rng_get hj
      rw [Nat.zero_add]
      refine ⟨_, _, rfl, seq_to (set_of (d := .int ((128 ^ (j + 1) : Nat) : Int)) ?_) rfl, _, rfl⟩
      rw [o2_of (x := .int ((128 ^ j : Nat) : Int)) (y := .int 128) rfl rfl, mul_r _ _ (by decide)]
      have : ((128 ^ j : Nat) : Int) * 128 = ((128 ^ (j + 1) : Nat) : Int) := by rw [Nat.pow_succ]; omega
      rw [this]) ⟨_, rfl⟩
    obtain ⟨s2, rfl⟩ := l2
    have hp : 0 < 128 ^ (0 + (rngD 0 (t : Int)).length) := Nat.pow_pos (by decide)
    have hq : 128 ^ (0 + (rngD 0 (t : Int)).length) ≤ 128 ^ 28 := Nat.pow_le_pow_right (by decide) (by rw [rng_len]; omega)
    refine ⟨128 ^ (0 + (rngD 0 (t : Int)).length) - 1 + (c / 84 % 3).toNat, mkF_rt rfl (seq_to (f0 _) (seq_rt ?_)), ?_⟩
    · rw [if_t (by rw [← decide_eq_true h1]; exact t0 1)]
      refine seq_to (set_of (d := .int 1) rfl) (seq_to (for_of (items := rngD 0 (t : Int)) (rng1_of (cons_of (by rw [ht]; rfl) rfl) (by omega) (by omega)) l1) (seq_rt (ret_of ?_)))
      have e : (((128 ^ (0 + (rngD 0 (t : Int)).length) - 1 + (c / 84 % 3).toNat : Nat)) : Int) = ((128 ^ (0 + (rngD 0 (t : Int)).length) : Nat) : Int) - 1 + c / 84 % 3 := by
        generalize 128 ^ (0 + (rngD 0 (t : Int)).length) = w at hp
        omega
      rw [e]
      rfl
    · have : (128 : Nat) ^ 28 + 3 < 2 ^ 250 := by decide +kernel
      have h3 : (c / 84 % 3).toNat < 3 := by omega
      generalize 128 ^ (0 + (rngD 0 (t : Int)).length) = w at hp hq
      omega
  · refine ⟨(c / 3 % (10 ^ 60 - 1)).toNat, mkF_rt rfl (seq_to (f0 _) (seq_to (δ' := [.sh (.int c), .un, .un]) (by rw [if_f (by rw [← decide_eq_false h1]; exact t0 1)]; rfl) (seq_rt (ret_of ?_)))), ?_⟩
    · rw [Int.toNat_of_nonneg (Int.emod_nonneg _ (by decide))]
      rw [o2_of (x := .int (c / 3)) (y := .int (10 ^ 60 - 1)) rfl (by rw [o2_of (x := .int (10 ^ 60)) (y := .int 1) (by rw [o2_of (x := .int 10) (y := .int 60) rfl rfl]; exact pow60) rfl]; rfl)]
      exact mod_p _ _ (by decide)
    · have h5 : c / 3 % (10 ^ 60 - 1) < 10 ^ 60 - 1 := Int.emod_lt_of_pos _ (by decide)
      have h6 : 0 ≤ c / 3 % (10 ^ 60 - 1) := Int.emod_nonneg _ (by decide)
      have h7 : ((10 : Int) ^ 60 - 1) < 2 ^ 250 := by decide +kernel
      generalize c / 3 % (10 ^ 60 - 1) = w at h5 h6
      have h8 : (w.toNat : Int) < 2 ^ 250 := by rw [Int.toNat_of_nonneg h6]; exact Int.lt_trans h5 h7
      exact_mod_cast h8
/-! ### the law -/
def LB : GS := (seqD (setD (gN 2) (oA (consA (gv 1) nilA) m__law_number))
  (seqD (ownD 3 (oA (consA (gv 2) nilA) m_number_bytes))
  (seqD (setD (gN 4) (oA (consA (o2 (gv 2) (gc (.int 1)) addA) nilA) m_number_bytes))
  (seqD (ifD (tOrG (tNotG (ob (borT (oA (consA (gv 3) (consA (gv 2) nilA)) m__law_right)))) (tNotG (ob (oA (consA (gv 4) (consA (o2 (gv 2) (gc (.int 1)) addA) nilA)) m__law_right))))
  (seqD (retD (gc (.bl false)))
  nilD)
  nilD)
  (seqD (ifD (tOrG (ob (o2 (oA (consA (gv 4) nilA) lenD) (borE (oA (consA (gv 3) nilA) lenD)) ltD)) (tAndG (ob (o2 (oA (consA (gv 4) nilA) lenD) (borE (oA (consA (gv 3) nilA) lenD)) eqD)) (tNotG (borB (ob (o2 (gv 3) (gv 4) ltLD))))))
  (seqD (retD (gc (.bl false)))
  nilD)
  nilD)
  (seqD (ownD 5 (borL (oA (consA (gv 3) nilA) lstOfD)))
  (seqD (exprX (clearX 3))
  (seqD (ifD (borB (ob (o2 (oA (consA (gv 2) nilA) m_number_bytes) (gv 5) neDD)))
  (seqD (retD (gc (.bl false)))
  nilD)
  nilD)
  nilD))))))))
theorem flats_ints : ∀ l : List Int, flats (l.map .int) = true
  | [] => rfl
  | a :: l => by show (true && flats (l.map .int)) = true; rw [flats_ints l]; rfl
theorem leans_ints : ∀ (l : List Int) (k : Nat), leans (l.map .int) k = true
  | [], k => by simp [leans]
  | a :: l, k => by rw [List.map_cons, leans, leans_ints l k]; simp [lean]
theorem deqs_ints : ∀ l : List Int, deqs (l.map .int) (l.map .int) = true
  | [] => by simp [deqs]
  | a :: l => by rw [List.map_cons, deqs, deqs_ints l]; simp [deq]
theorem body_ok (ns : List Int) (c : Int) (s2 s3 s4 s5 : Sl) : ∃ t2 t3 t4 t5, LB [.sh (.lst (ns.map .int)), .sh (.int c), s2, s3, s4, s5] = some (.nx [.sh (.lst (ns.map .int)), .sh (.int c), t2, t3, t4, t5]) := by
  obtain ⟨n, hn, hb⟩ := number_ok c
  have z1 : n < 2 ^ 300 := Nat.lt_trans hb (by decide +kernel)
  have z2 : n + 1 < 2 ^ 300 := Nat.lt_of_le_of_lt (Nat.succ_le_of_lt hb) (by decide +kernel)
  have ec : (n : Int) + 1 = ((n + 1 : Nat) : Int) := by omega
  obtain ⟨i1, i2⟩ := bs_rise n
  refine ⟨.sh (.int (n : Int)), .ow (.lst []), .sh (.lst ((bs (n + 1)).map .int)), .ow (.lst ((bs n).map .int)), ?_⟩
  refine seq_to (set_of (d := .int (n : Int)) (by rw [oA_of (ds := [.int c]) rfl]; exact hn)) ?_
  refine seq_to (δ' := [.sh (.lst (ns.map .int)), .sh (.int c), .sh (.int (n : Int)), .ow (.lst ((bs n).map .int)), s4, s5]) ?_ ?_
  · unfold ownD
    rw [oA_of (ds := [.int (n : Int)]) rfl, nb_ok n z1]
    rfl
  refine seq_to (set_of (d := .lst ((bs (n + 1)).map .int)) ?_) ?_
  · rw [oA_of (ds := [.int ((n + 1 : Nat) : Int)]) (cons_of (by rw [← ec]; rfl) rfl)]
    exact nb_ok _ z2
  refine seq_to (δ' := [.sh (.lst (ns.map .int)), .sh (.int c), .sh (.int (n : Int)), .ow (.lst ((bs n).map .int)), .sh (.lst ((bs (n + 1)).map .int)), s5]) ?_ ?_
  · rw [if_f (or_f (not_t (b := true) ?_) (not_t (b := true) ?_))]
    · rfl
    · refine borT_of ?_ rfl
      rw [oA_of (ds := [.lst ((bs n).map .int), .int (n : Int)]) rfl]
      exact right_ok n
    · rw [oA_of (ds := [.lst ((bs (n + 1)).map .int), .int ((n + 1 : Nat) : Int)]) (cons_of rfl (cons_of (by rw [← ec]; rfl) rfl))]
      exact right_ok (n + 1)
  have L4 : oA (consA (gv 4) nilA) lenD [.sh (.lst (ns.map .int)), .sh (.int c), .sh (.int (n : Int)), .ow (.lst ((bs n).map .int)), .sh (.lst ((bs (n + 1)).map .int)), s5] = some (.int ((bs (n + 1)).length : Int)) := by
    rw [len_of (ds := (bs (n + 1)).map .int) rfl, List.length_map]
  have L3 : borE (oA (consA (gv 3) nilA) lenD) [.sh (.lst (ns.map .int)), .sh (.int c), .sh (.int (n : Int)), .ow (.lst ((bs n).map .int)), .sh (.lst ((bs (n + 1)).map .int)), s5] = some (.int ((bs n).length : Int)) := by
    unfold borE
    rw [len_of (ds := (bs n).map .int) rfl, List.length_map]
    rfl
  refine seq_to (δ' := [.sh (.lst (ns.map .int)), .sh (.int c), .sh (.int (n : Int)), .ow (.lst ((bs n).map .int)), .sh (.lst ((bs (n + 1)).map .int)), s5]) ?_ ?_
  · rw [if_f (or_f (b_of (b := false) ?_) ?_)]
    · rfl
    · rw [o2_of L4 L3]
      show some (D.bl (decide (((bs (n + 1)).length : Int) < ((bs n).length : Int)))) = _
      rw [decide_eq_false (by omega)]
    · unfold tAndG
      by_cases he : (bs n).length = (bs (n + 1)).length
      · rw [b_of (b := true) (by
          rw [o2_of L4 L3]
          show some (D.bl (decide (((bs (n + 1)).length : Int) = ((bs n).length : Int)))) = _
          rw [decide_eq_true (by omega)])]
        show Option.map _ (Option.bind (o2 (gv 3) (gv 4) ltLD _) asB) = _
        rw [o2_of (x := .lst ((bs n).map .int)) (y := .lst ((bs (n + 1)).map .int)) rfl rfl]
        simp only [ltLD]
        rw [intsL_map, intsL_map]
        simp only [Option.bind_some, Option.map_some]
        rw [i2 he]
        rfl
      · rw [b_of (b := false) (by
          rw [o2_of L4 L3]
          show some (D.bl (decide (((bs (n + 1)).length : Int) = ((bs n).length : Int)))) = _
          rw [decide_eq_false (by omega)])]
        rfl
  refine seq_to (δ' := [.sh (.lst (ns.map .int)), .sh (.int c), .sh (.int (n : Int)), .ow (.lst ((bs n).map .int)), .sh (.lst ((bs (n + 1)).map .int)), .ow (.lst ((bs n).map .int))]) ?_ ?_
  · unfold ownD
    rw [borL_of (ds := (bs n).map .int) rfl (flats_ints _)]
    rfl
  refine seq_to (δ' := [.sh (.lst (ns.map .int)), .sh (.int c), .sh (.int (n : Int)), .ow (.lst []), .sh (.lst ((bs (n + 1)).map .int)), .ow (.lst ((bs n).map .int))]) rfl ?_
  refine seq_to (δ' := [.sh (.lst (ns.map .int)), .sh (.int c), .sh (.int (n : Int)), .ow (.lst []), .sh (.lst ((bs (n + 1)).map .int)), .ow (.lst ((bs n).map .int))]) ?_ rfl
  rw [if_f ?_]
  · rfl
  · unfold borB
    refine b_of ?_
    rw [o2_of (x := .lst ((bs n).map .int)) (y := .lst ((bs n).map .int)) (by rw [oA_of (ds := [.int (n : Int)]) rfl]; exact nb_ok n z1) rfl]
    show (if _ then some (D.bl (!(deqs ((bs n).map .int) ((bs n).map .int)))) else none) = _
    rw [deqs_ints, if_pos ⟨leans_ints _ 49, leans_ints _ 49⟩]
    rfl
theorem law_true (ns : List Int) (hl : ns.length ≤ 63) : m_law [.lst (ns.map .int)] = some (.bl true) := by
  have z : (1000 : Nat) ≤ sizeLine := by decide
  obtain ⟨δ', l1, l2⟩ := forD_inv (f := gN 1) (G := LB) (fun i δ => ∃ s1 s2 s3 s4 s5, δ = [.sh (.lst (ns.map .int)), s1, s2, s3, s4, s5]) ((ns ++ [0, 1, 382]).map .int) 0 [.sh (.lst (ns.map .int)), .un, .un, .un, .un, .un] (by
    rintro j d δ hj ⟨s1, s2, s3, s4, s5, rfl⟩
    obtain ⟨c, rfl⟩ : ∃ c, d = .int c := by
      rw [List.getElem?_map] at hj
      cases hc : (ns ++ [0, 1, 382])[j]? with
      | none => rw [hc] at hj; cases hj
      | some c => rw [hc] at hj; cases hj; exact ⟨c, rfl⟩
    obtain ⟨t2, t3, t4, t5, e⟩ := body_ok ns c s2 s3 s4 s5
    exact ⟨_, _, rfl, e, _, _, _, _, _, rfl⟩) ⟨_, _, _, _, _, rfl⟩
  obtain ⟨s1, s2, s3, s4, s5, rfl⟩ := l2
  refine mkF_rt rfl (seq_to (for_of (items := List.map D.int (ns ++ [0, 1, 382])) ?_ l1) rfl)
  show Option.bind _ _ = _
  rw [o2_of (x := .lst (ns.map .int)) (y := .lst [.int 0, .int 1, .int 382]) rfl (lst_of rfl (by show (3 : Nat) ≤ _; omega))]
  simp only [addA]
  rw [if_pos (by rw [List.length_map]; show ns.length + 3 ≤ _; omega)]
  rw [List.map_append]
  rfl
end K25
namespace K25
open PySem L2 DL W
def top (i : Nat) : Stmt := PySem.Challenge.pw_graphpack_k25_numbers_in_bytes.main.body.getD i (.Pass ⟨0, 0, 0, 0⟩)
theorem b_bool : bootBuiltins "bool" = some (.type "bool") := by decide +kernel
theorem b_enumerate : bootBuiltins "enumerate" = some (.type "enumerate") := by decide +kernel
theorem b_int : bootBuiltins "int" = some (.type "int") := by decide +kernel
theorem b_list : bootBuiltins "list" = some (.type "list") := by decide +kernel
theorem b_reversed : bootBuiltins "reversed" = some (.type "reversed") := by decide +kernel
structure Txt (mg : Str → Option Value) : Prop where
  b_bool : mg "bool" = none
  b_enumerate : mg "enumerate" = none
  b_int : mg "int" = none
  b_isinstance : mg "isinstance" = none
  b_len : mg "len" = none
  b_list : mg "list" = none
  b_range : mg "range" = none
  b_reversed : mg "reversed" = none
  c_BASE : ∃ t, mg "BASE" = some (.int 128 t)
section
variable {P : Program} {w : World} {K : PySem.W.Frag} {mg : Str → Option Value} {base : Heap}
theorem sc_number_bytes : FnScope ["number", "out", "rest"] ["number"] (defScope (top 2)) := ⟨rfl, rfl, rfl, by decide +kernel, rfl, by decide +kernel, by decide +kernel⟩
set_option maxHeartbeats 0 in
theorem ok_number_bytes {fa : Addr} {fd : FuncData} (F : Fun K "number_bytes" "number_bytes" (top 2) fa fd) (T : Txt mg)  : FnOk P w K mg base CX0 1 fa fd ["number"] (spN K m_number_bytes) :=
  okN (k := 0) (G := G_number_bytes) F sc_number_bytes (fun cdv A outer s H E hr => (pssd_cons (psd_own 1 (pdf_lst (pda_cons (pd_mod (pd_var 0) (pd_gint T.c_BASE)) pda_nil)) sc_number_bytes.nd)
      (pssd_cons (psd_asg (pd_fdiv (pd_var 0) (pd_gint T.c_BASE)) (pgd_name 2 sc_number_bytes.nd))
      (pssd_cons (psd_while 100000 PassesOwn.never (ptd_cmp op_gt op2_gt (pd_var 2) pd_int)
      (pssd_cons (psd_exprX (px_app 1 (pd_addA (pd_gint T.c_BASE) (pd_mod (pd_var 2) (pd_gint T.c_BASE)))))
      (pssd_cons (psd_asg (pd_fdiv (pd_var 2) (pd_gint T.c_BASE)) (pgd_name 2 sc_number_bytes.nd))
      pssd_nil)))
      (pssd_cons (psd_retFB (pdf_revL T.b_list T.b_reversed (pd_var 1)))
      pssd_nil))))) (fun ds d h => mkN_ok h)
theorem sc__law_number : FnScope ["_law_cell", "_law_power", "_law_k"] ["_law_cell"] (defScope (top 4)) := ⟨rfl, rfl, rfl, by decide +kernel, rfl, by decide +kernel, by decide +kernel⟩
set_option maxHeartbeats 0 in
theorem ok__law_number {fa : Addr} {fd : FuncData} (F : Fun K "_law_number" "_law_number" (top 4) fa fd) (T : Txt mg)  : FnOk P w K mg base CX0 1 fa fd ["_law_cell"] (spD K m__law_number) :=
  okD (k := 0) (G := G__law_number) F sc__law_number (fun cdv A outer s H E hr => (pssd_cons (psd_if (ptd_cmp op_eq op2_eq (pd_mod (pd_var 0) pd_int) pd_int)
      (pssd_cons (psd_ret (pd_mod (pd_fdiv (pd_var 0) pd_int) pd_int))
      pssd_nil)
      pssd_nil)
      (pssd_cons (psd_if (ptd_cmp op_eq op2_eq (pd_mod (pd_var 0) pd_int) pd_int)
      (pssd_cons (psd_asg pd_int (pgd_name 1 sc__law_number.nd))
      (pssd_cons (psd_for PassesOwn.never rfl (pid_range1 T.b_range (pda_cons (pd_mod (pd_fdiv (pd_var 0) pd_int) pd_int) pda_nil)) (pgd_name 2 sc__law_number.nd)
      (pssd_cons (psd_asg (pd_mulA (pd_var 1) pd_int) (pgd_name 1 sc__law_number.nd))
      pssd_nil))
      (pssd_cons (psd_ret (pd_addA (pd_sub (pd_var 1) pd_int) (pd_mod (pd_fdiv (pd_var 0) pd_int) pd_int)))
      pssd_nil)))
      pssd_nil)
      (pssd_cons (psd_ret (pd_mod (pd_fdiv (pd_var 0) pd_int) (pd_sub (pd_pow pd_int pd_int) pd_int)))
      pssd_nil)))) (fun ds d h => mkF_ok h)
theorem sc__law_right : FnScope ["_law_found", "_law_number_here", "_law_due", "_law_k", "_law_byte"] ["_law_found", "_law_number_here"] (defScope (top 5)) := ⟨rfl, rfl, rfl, by decide +kernel, rfl, by decide +kernel, by decide +kernel⟩
set_option maxHeartbeats 0 in
theorem ok__law_right {fa : Addr} {fd : FuncData} (F : Fun K "_law_right" "_law_right" (top 5) fa fd) (T : Txt mg)  : FnOk P w K mg base CX0 1 fa fd ["_law_found", "_law_number_here"] (spD K m__law_right) :=
  okD (k := 0) (G := G__law_right) F sc__law_right (fun cdv A outer s H E hr => (pssd_cons (psd_if (PWD.pt (pwd_or (ptd_not (ptd_val (pd_isi okT_list b_list T.b_isinstance T.b_list (pd_var 0)))) (pwd_or1 (ptd_cmp (op_eqX hr.units) op2_eqX (pd_var 0) (pd_lst pda_nil)))))
      (pssd_cons (psd_ret pd_bl)
      pssd_nil)
      pssd_nil)
      (pssd_cons (psd_asg pd_int (pgd_name 2 sc__law_right.nd))
      (pssd_cons (psd_for PassesOwn.never rfl (pid_enum T.b_enumerate (pda_cons (pd_var 0) pda_nil)) (pgd_tup2 3 4 sc__law_right.nd (by decide))
      (pssd_cons (psd_if (PWD.pt (pwd_or (ptd_not (ptd_val (pd_isi okT_int b_int T.b_isinstance T.b_int (pd_var 4)))) (pwd_or (ptd_val (pd_isi okT_bool b_bool T.b_isinstance T.b_bool (pd_var 4))) (pwd_or1 (ptd_not (ptd_chain op_le op2_le op_lt op2_lt pd_int (pd_var 4) pd_int))))))
      (pssd_cons (psd_ret pd_bl)
      pssd_nil)
      pssd_nil)
      (pssd_cons (psd_if (PWD.pt (pwd_or (ptd_cmp op_ne op2_ne (pd_cmp op_gt op2_gt (pd_var 4) pd_int) (pd_cmp op_lt op2_lt (pd_var 3) (pd_sub (pd_len T.b_len (pda_cons (pd_var 0) pda_nil)) pd_int))) (pwd_or1 (PWD.pt (pwd_and (ptd_cmp op_eq op2_eq (pd_var 4) pd_int) (pwd_and1 (ptd_cmp op_eq op2_eq (pd_var 3) pd_int)))))))
      (pssd_cons (psd_ret pd_bl)
      pssd_nil)
      pssd_nil)
      (pssd_cons (psd_asg (pd_addA (pd_mulA (pd_var 2) pd_int) (pd_mod (pd_var 4) pd_int)) (pgd_name 2 sc__law_right.nd))
      pssd_nil))))
      (pssd_cons (psd_ret (pd_cmp op_eq op2_eq (pd_var 2) (pd_var 1)))
      pssd_nil))))) (fun ds d h => mkF_ok h)
theorem sc_law : FnScope ["_law_script", "_law_cell", "_law_number_here", "_law_found", "_law_more", "_law_kept"] ["_law_script"] (defScope (top 6)) := ⟨rfl, rfl, rfl, by decide +kernel, rfl, by decide +kernel, by decide +kernel⟩
set_option maxHeartbeats 0 in
theorem ok_law {fa : Addr} {fd : FuncData} (F : Fun K "law" "law" (top 6) fa fd) (T : Txt mg) (C__law_number : FnD P w K mg base "_law_number" 1 ["_law_cell"] m__law_number) (C__law_right : FnD P w K mg base "_law_right" 1 ["_law_found", "_law_number_here"] m__law_right) (C_number_bytes : FnN P w K mg base "number_bytes" 1 ["number"] m_number_bytes) : FnOk P w K mg base CX0 2 fa fd ["_law_script"] (spD K m_law) :=
  okD (k := 1) (G := G_law) F sc_law (fun cdv A outer s H E hr => (pssd_cons (psd_for PassesOwn.never rfl (pid_list (pd_addA (pd_var 0) (pd_lst (pda_cons pd_int (pda_cons pd_int (pda_cons pd_int pda_nil)))))) (pgd_name 1 sc_law.nd)
      (pssd_cons (psd_asg (pd_fn C__law_number hr (by decide) (pda_cons (pd_var 1) pda_nil)) (pgd_name 2 sc_law.nd))
      (pssd_cons (psd_own 3 (pdf_fn C_number_bytes hr (by decide) (pda_cons (pd_var 2) pda_nil)) sc_law.nd)
      (pssd_cons (psd_asg (pd_fnN C_number_bytes hr (by decide) (pda_cons (pd_addA (pd_var 2) pd_int) pda_nil)) (pgd_name 4 sc_law.nd))
      (pssd_cons (psd_if (PWD.pt (pwd_or (ptd_not (ptd_val (pd_borT (pd_fn C__law_right hr (by decide) (pda_cons (pd_var 3) (pda_cons (pd_var 2) pda_nil)))))) (pwd_or1 (ptd_not (ptd_val (pd_fn C__law_right hr (by decide) (pda_cons (pd_var 4) (pda_cons (pd_addA (pd_var 2) pd_int) pda_nil))))))))
      (pssd_cons (psd_ret pd_bl)
      pssd_nil)
      pssd_nil)
      (pssd_cons (psd_if (PWD.pt (pwd_or (ptd_cmp op_lt op2_lt (pd_len T.b_len (pda_cons (pd_var 4) pda_nil)) (pd_bor (pd_len T.b_len (pda_cons (pd_var 3) pda_nil)))) (pwd_or1 (PWD.pt (pwd_and (ptd_cmp op_eq op2_eq (pd_len T.b_len (pda_cons (pd_var 4) pda_nil)) (pd_bor (pd_len T.b_len (pda_cons (pd_var 3) pda_nil)))) (pwd_and1 (ptd_not (ptd_bor (ptd_cmp (op_ltL (Nat.lt_of_le_of_lt (Nat.le_add_right _ 64) hr.units)) op2_ltL (pd_var 3) (pd_var 4))))))))))
      (pssd_cons (psd_ret pd_bl)
      pssd_nil)
      pssd_nil)
      (pssd_cons (psd_own 5 (pdf_borL (pdf_list T.b_list b_list (pd_var 3))) sc_law.nd)
      (pssd_cons (psd_exprX (px_clear 3))
      (pssd_cons (psd_if (ptd_bor (ptd_cmp (op_neX hr.units) op2_neX (pd_fnN C_number_bytes hr (by decide) (pda_cons (pd_var 2) pda_nil)) (pd_var 5)))
      (pssd_cons (psd_ret pd_bl)
      pssd_nil)
      pssd_nil)
      pssd_nil)))))))))
      (pssd_cons (psd_ret pd_bl)
      pssd_nil))) (fun ds d h => mkF_ok h)
end
set_option maxHeartbeats 0 in
theorem all_mk {l : PySem.W.OpenLaw} {w : World} {K : PySem.W.Frag} {h : Heap} {mg : Str → Option Value} {fa : Addr} (X : K.In h) (G : h.Ns mainGlobals mg) (hfa : mg "law" = some (.ref fa))
    {f0 f1 f2 f3 : Addr}
    {od0 an0 od1 an1 od2 an2 od3 an3 : Option Addr} {sl0 sl1 sl2 sl3 : Array (Option Value)} {oc0 kV0 dc0 pm0 cd0 ct0 oc1 kV1 dc1 pm1 cd1 ct1 oc2 kV2 dc2 pm2 cd2 ct2 oc3 kV3 dc3 pm3 cd3 ct3 : Value}
    {t_BASE : Tok}
    (a0 : PySem.W.nsIn K mainGlobals "number_bytes" = some (some (.ref f0))) (l0 : K.lookup f0 = some ⟨oc0, od0, .func (PySem.W.fnOf "number_bytes" "number_bytes" (defArgs (top 2)) (defBody (top 2)) (defScope (top 2)) .none kV0 dc0 pm0 an0 cd0 ct0), sl0⟩) (c0 : PySem.W.codeIn K cd0 "number_bytes" = true) (k0 : PySem.W.keepIn K (.ref f0) = true)
    (a1 : PySem.W.nsIn K mainGlobals "_law_number" = some (some (.ref f1))) (l1 : K.lookup f1 = some ⟨oc1, od1, .func (PySem.W.fnOf "_law_number" "_law_number" (defArgs (top 4)) (defBody (top 4)) (defScope (top 4)) .none kV1 dc1 pm1 an1 cd1 ct1), sl1⟩) (c1 : PySem.W.codeIn K cd1 "_law_number" = true) (k1 : PySem.W.keepIn K (.ref f1) = true)
    (a2 : PySem.W.nsIn K mainGlobals "_law_right" = some (some (.ref f2))) (l2 : K.lookup f2 = some ⟨oc2, od2, .func (PySem.W.fnOf "_law_right" "_law_right" (defArgs (top 5)) (defBody (top 5)) (defScope (top 5)) .none kV2 dc2 pm2 an2 cd2 ct2), sl2⟩) (c2 : PySem.W.codeIn K cd2 "_law_right" = true) (k2 : PySem.W.keepIn K (.ref f2) = true)
    (a3 : PySem.W.nsIn K mainGlobals "law" = some (some (.ref f3))) (l3 : K.lookup f3 = some ⟨oc3, od3, .func (PySem.W.fnOf "law" "law" (defArgs (top 6)) (defBody (top 6)) (defScope (top 6)) .none kV3 dc3 pm3 an3 cd3 ct3), sl3⟩) (c3 : PySem.W.codeIn K cd3 "law" = true) (k3 : PySem.W.keepIn K (.ref f3) = true)
    (z_bool : PySem.W.nsIn K mainGlobals "bool" = some none)
    (z_enumerate : PySem.W.nsIn K mainGlobals "enumerate" = some none)
    (z_int : PySem.W.nsIn K mainGlobals "int" = some none)
    (z_isinstance : PySem.W.nsIn K mainGlobals "isinstance" = some none)
    (z_len : PySem.W.nsIn K mainGlobals "len" = some none)
    (z_list : PySem.W.nsIn K mainGlobals "list" = some none)
    (z_range : PySem.W.nsIn K mainGlobals "range" = some none)
    (z_reversed : PySem.W.nsIn K mainGlobals "reversed" = some none)
    (y_BASE : PySem.W.nsIn K mainGlobals "BASE" = some (some (.int 128 t_BASE)))
    : ∃ fd : FuncData, (∀ (s : Shared) (v : Value), BindsTo s fd ⟨[v], []⟩ [("_law_script", v)]) ∧ ∀ base : Heap, K.In base → base.Ns mainGlobals mg → FnOk l.prog w K mg base CX0 2 fa fd ["_law_script"] (spD K m_law) := by
  have e := hfa.symm.trans (PySem.W.mg_of X G a3)
  cases e
  have T : Txt mg := ⟨PySem.W.mg_none_of X G z_bool, PySem.W.mg_none_of X G z_enumerate, PySem.W.mg_none_of X G z_int, PySem.W.mg_none_of X G z_isinstance, PySem.W.mg_none_of X G z_len, PySem.W.mg_none_of X G z_list, PySem.W.mg_none_of X G z_range, PySem.W.mg_none_of X G z_reversed, ⟨_, PySem.W.mg_of X G y_BASE⟩⟩
  have F0 := fun_mk (st := top 2) l0 c0 k0
  have F1 := fun_mk (st := top 4) l1 c1 k1
  have F2 := fun_mk (st := top 5) l2 c2 k2
  have F3 := fun_mk (st := top 6) l3 c3 k3
  refine ⟨PySem.W.fnOf "law" "law" (defArgs (top 6)) (defBody (top 6)) (defScope (top 6)) .none kV3 dc3 pm3 an3 cd3 ct3, fun s v => .of_eq rfl, fun base _ _ => ?_⟩
  have C_number_bytes : FnN l.prog w K mg base "number_bytes" 1 ["number"] m_number_bytes := ⟨f0, _, ok_number_bytes F0 T , PySem.W.mg_of X G a0, k0, F0.binds (ps := ["number"]) fun _ _ _ _ _ _ us hl => match us, hl with | [_], _ => rfl⟩
  have C__law_number : FnD l.prog w K mg base "_law_number" 1 ["_law_cell"] m__law_number := ⟨f1, _, ok__law_number F1 T , PySem.W.mg_of X G a1, k1, F1.binds (ps := ["_law_cell"]) fun _ _ _ _ _ _ us hl => match us, hl with | [_], _ => rfl⟩
  have C__law_right : FnD l.prog w K mg base "_law_right" 1 ["_law_found", "_law_number_here"] m__law_right := ⟨f2, _, ok__law_right F2 T , PySem.W.mg_of X G a2, k2, F2.binds (ps := ["_law_found", "_law_number_here"]) fun _ _ _ _ _ _ us hl => match us, hl with | [_, _], _ => rfl⟩
  exact ok_law F3 T C__law_number C__law_right C_number_bytes
theorem rps_ints {K : PySem.W.Frag} {H : Hp} {B : BS} : ∀ ns : List Int, Rps K H B (ns.map D.int) (ns.map V.int)
  | [] => by rw [List.map_nil, List.map_nil, rps_nil]
  | n :: ns => by
    rw [List.map_cons, List.map_cons, rps_cons]
    exact ⟨_, _, rfl, by rw [rp_int], rps_ints ns⟩
theorem start_law {K : PySem.W.Frag} {H : Hp} {a : Addr} {ns : List Int} (hS : SqL K H a (ns.map V.int)) (hm : m_law [.lst (ns.map .int)] = some (.bl true)) : spD K m_law [.ref a] H (fun v _ => v = .bl true) fun _ _ _ => False := by
  refine ⟨fun _ => False, [.lst (ns.map .int)], .bl true, fun _ z => z.elim, ?_, hm, fun v H' _ r => by rw [rp_bl] at r; exact r⟩
  rw [rps_cons]
  refine ⟨_, [], rfl, ?_, by rw [rps_nil]⟩
  rw [rp_lst]
  refine ⟨a, ns.map V.int, rfl, ?_, rps_ints ns⟩
  rcases hS with h | h
  · exact .inl ⟨fun z => z, h⟩
  · exact .inr (.inr h)
end K25
open PySem PySem.W PyProof.Rows
set_option maxRecDepth 100000 in
set_option maxHeartbeats 0 in
theorem PySem.Challenge.cw_graphpack_k25_numbers_in_bytes_holds : PySem.Challenge.rw_graphpack_k25_numbers_in_bytes.Holds := by
  w_on; o_law; k_head; (case hw => w_witness2)
  k_fill
  refine L2.walk_ofK (l := PySem.Challenge.rw_graphpack_k25_numbers_in_bytes) (n := 63) (k := 2) (x := "_law_script") (CX := L2.CX0) (sp := fun K => DL.spD K K25.m_law) rfl (by decide) rfl ⟨rfl, by decide, by decide⟩ (fun w h Y => PySem.W.kIn_of Y) ?F ?S ?C
  case F =>
    intro w mg fa h KX G hmg
    refine' K25.all_mk KX G hmg ?a0 ?l0 ?c0 ?k0 ?a1 ?l1 ?c1 ?k1 ?a2 ?l2 ?c2 ?k2 ?a3 ?l3 ?c3 ?k3 ?z_bool ?z_enumerate ?z_int ?z_isinstance ?z_len ?z_list ?z_range ?z_reversed ?y_BASE
    (case a0 => k_is)
    (case l0 => k_is)
    (case c0 => k_is)
    (case k0 => k_is)
    (case a1 => k_is)
    (case l1 => k_is)
    (case c1 => k_is)
    (case k1 => k_is)
    (case a2 => k_is)
    (case l2 => k_is)
    (case c2 => k_is)
    (case k2 => k_is)
    (case a3 => k_is)
    (case l3 => k_is)
    (case c3 => k_is)
    (case k3 => k_is)
    (case z_bool => k_is)
    (case z_enumerate => k_is)
    (case z_int => k_is)
    (case z_isinstance => k_is)
    (case z_len => k_is)
    (case z_list => k_is)
    (case z_range => k_is)
    (case z_reversed => k_is)
    (case y_BASE => k_is)
  case S => exact fun K H a ns hl hO hS => K25.start_law hS (K25.law_true ns hl)
  case C => exact fun _ _ _ _ z => z
#print axioms PySem.Challenge.cw_graphpack_k25_numbers_in_bytes_holds
