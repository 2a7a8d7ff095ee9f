import PyProof.Rows.All
import Wide.All
import OpenK.AllK
import Wide.FinOn
import Lean
import PyProof.EqAt
import PyProof.EqKinds
import PyProof.TupleCall
import PyProof.NeKinds
import PyProof.Rows.SetFrom
import KE.KRevIter
import PyProof.ZipIter
import PyProof.TupleOfGen
import PyProof.Rows.ZipGen
import PyProof.EnumMake
import PyProof.EnumFor
import PyProof.ListRange
import PyProof.LayNew
import KE.KDictOf
import KE.KIntText
import KE.IntTextLaws
import PyProof.StrCalls2
import PyProof.Rows.StrNews2
import PyProof.StrLawsTight
import PySem.Challenge.RW_graphpack_k07_webs_shown
set_option Elab.async false
set_option linter.all false
set_option maxRecDepth 100000
/-! THE HAND LAYER, for ints, bools, texts, own classes, LISTS and tuples (index, slices, in, append, pop ..), calls, loops. Paste it whole ahead of your own text; what your proof does not reach may be deleted. -/
namespace L2
open PySem PySem.Spec PyProof.Rows

/-- a key: an int or a str -/
abbrev Key := Sum Int Str
def keyIs : Key → Value → Bool
  | .inl k, v => Value.isInt k v
  | .inr x, v => Value.isStrOf x v
def keyH (w : World) : Key → Int
  | .inl k => hashInt k
  | .inr x => hashStr w x
theorem keyIs_shape : ∀ {k : Key} {v : Value}, keyIs k v = true → (∃ i t, k = Sum.inl i ∧ v = Value.int i t) ∨ (∃ x t, k = Sum.inr x ∧ v = Value.str x t)
  | .inl i, v, h => by
    obtain ⟨t, e⟩ := Value.isInt_shape (k := i) (v := v) h
    exact .inl ⟨i, t, rfl, e⟩
  | .inr x, v, h => by
    obtain ⟨t, e⟩ := Value.isStrOf_shape (x := x) (v := v) h
    exact .inr ⟨x, t, rfl, e⟩
theorem key_ll (a b : Int) : decide ((Sum.inl a : Key) = Sum.inl b) = (a == b) := by
  by_cases e : a = b
  · subst e; simp
  · have h : ¬ (Sum.inl a : Key) = Sum.inl b := fun q => e (Sum.inl.inj q)
    rw [decide_eq_false h]
    exact (beq_eq_false_iff_ne.mpr e).symm
theorem key_rr (a b : Str) : decide ((Sum.inr a : Key) = Sum.inr b) = decide (a = b) := by
  by_cases e : a = b
  · subst e; simp
  · have h : ¬ (Sum.inr a : Key) = Sum.inr b := fun q => e (Sum.inr.inj q)
    rw [decide_eq_false h, decide_eq_false e]
theorem key_lr (a : Int) (b : Str) : decide ((Sum.inl a : Key) = Sum.inr b) = false := decide_eq_false (fun q => nomatch q)
theorem key_rl (a : Str) (b : Int) : decide ((Sum.inr a : Key) = Sum.inl b) = false := decide_eq_false (fun q => nomatch q)

def mixKind (prog : Program) (w : World) : PySem.KeyKind prog w Key where
  is := keyIs
  hash := keyH w
  inj := fun v a b ha hb => by
    rcases keyIs_shape ha with ⟨i, t, rfl, rfl⟩ | ⟨x, t, rfl, rfl⟩
    · rcases keyIs_shape hb with ⟨j, u, rfl, e⟩ | ⟨y, u, rfl, e⟩
      · injection e with e1 _; rw [e1]
      · exact nomatch e
    · rcases keyIs_shape hb with ⟨j, u, rfl, e⟩ | ⟨y, u, rfl, e⟩
      · exact nomatch e
      · injection e with e1 _; rw [e1]
  byValue := fun k v h => by
    rcases keyIs_shape h with ⟨i, t, rfl, rfl⟩ | ⟨x, t, rfl, rfl⟩ <;> rfl
  pyHash := fun hv h => by
    rcases keyIs_shape hv with ⟨i, t, rfl, rfl⟩ | ⟨x, t, rfl, rfl⟩
    · exact wpAny_pyHash_int h
    · exact wpAny_pyHash_str h
  eqBool := fun hu hv h => by
    rcases keyIs_shape hu with ⟨i, t, rfl, rfl⟩ | ⟨x, t, rfl, rfl⟩
    · rcases keyIs_shape hv with ⟨j, u, rfl, rfl⟩ | ⟨y, u, rfl, rfl⟩
      · rw [key_ll] at h; exact wpAny_eqBool_int h
      · rw [key_lr] at h; exact SeqAt.EqAt.int_str i t y u _ _ _ _ h
    · rcases keyIs_shape hv with ⟨j, u, rfl, rfl⟩ | ⟨y, u, rfl, rfl⟩
      · rw [key_rl] at h; exact SeqAt.EqAt.str_int x t j u _ _ _ _ h
      · rw [key_rr] at h; exact wpAny_eqBool_str h
  «strs» := fun k x t v h => by
    rcases keyIs_shape h with ⟨i, u, rfl, e⟩ | ⟨y, u, rfl, e⟩
    · exact nomatch e
    · injection e with e1 _
      subst e1
      cases v <;> rfl

end L2

namespace L2
open PySem PySem.Spec PyProof.Rows

/-- a value, without the heap -/
inductive V where
  | non | bl (b : Bool) | int (i : Int) | str (x : Str) | byt (b : Array UInt8) | flt (b : UInt64) | ref (a : Addr) | ty (n : String)
  deriving DecidableEq

def RelV : V → Value → Prop
  | .non, u => u = Value.none
  | .bl b, u => u = Value.bool b
  | .int i, u => ∃ t, u = Value.int i t
  | .str x, u => ∃ t, u = Value.str x t
  | .byt b, u => ∃ t, u = Value.bytes b t
  | .flt b, u => ∃ t, u = Value.float b t
  | .ref a, u => u = Value.ref a
  | .ty n, u => u = Value.type n

abbrev Vals : List V → List Value → Prop := Paired RelV
theorem Vals.length {xs : List V} {us : List Value} (r : Vals xs us) : xs.length = us.length := Paired.length r
theorem Vals.get : ∀ {xs : List V} {us : List Value} {i : Nat} {x : V}, Vals xs us → xs[i]? = some x → ∃ u, us[i]? = some u ∧ RelV x u
  | _, _, _, _, .nil, e => by simp at e
  | _, _, 0, _, .cons r _, e => by simp at e; subst e; exact ⟨_, rfl, r⟩
  | _, _, i + 1, x, .cons _ t, e => by
    obtain ⟨u, h1, h2⟩ := Vals.get (i := i) (x := x) t (by simpa using e)
    exact ⟨u, by simpa using h1, h2⟩
theorem Vals.set {x : V} {u : Value} (r : RelV x u) : ∀ {xs : List V} {us : List Value} (i : Nat), Vals xs us → Vals (xs.set i x) (us.set i u)
  | _, _, _, .nil => .nil
  | _, _, 0, .cons _ t => .cons r t
  | _, _, i + 1, .cons q t => .cons q (Vals.set r i t)
theorem Vals.append : ∀ {xs ys : List V} {us ws : List Value}, Vals xs us → Vals ys ws → Vals (xs ++ ys) (us ++ ws)
  | _, _, _, _, .nil, s => s
  | _, _, _, _, .cons r t, s => .cons r (Vals.append t s)
theorem Vals.take : ∀ {xs : List V} {us : List Value} (n : Nat), Vals xs us → Vals (xs.take n) (us.take n)
  | _, _, 0, _ => .nil
  | _, _, _ + 1, .nil => .nil
  | _, _, n + 1, .cons r t => .cons r (Vals.take n t)
theorem Vals.drop : ∀ {xs : List V} {us : List Value} (n : Nat), Vals xs us → Vals (xs.drop n) (us.drop n)
  | _, _, 0, r => r
  | _, _, _ + 1, .nil => .nil
  | _, _, n + 1, .cons _ t => Vals.drop n t
def RelO : Option V → Option Value → Prop
  | some v, some u => RelV v u
  | none, none => True
  | _, _ => False
def KV {κ : Type} : List (κ × V) → List (κ × Value) → Prop := Paired fun (p : κ × V) (q : κ × Value) => p.1 = q.1 ∧ RelV p.2 q.2

/-- a key of a dict (00_mix): an int or a text -/
def kV : Key → V
  | .inl i => .int i
  | .inr x => .str x

/-- what stands at a tracked address -/
inductive HO where
  /-- a list -/
  | lst (xs : List V)
  /-- a tuple (never changes) -/
  | tup (xs : List V)
  /-- a dict whose keys are ints and texts; one whose keys are tuples of ints and texts (the empty one is both) -/
  | dK (kvs : List (Key × V)) | dT (kvs : List (List Key × V))
  /-- a set of ints: its members, its size -/
  | set (S : Int → Bool) (n : Nat)
  /-- an instance of the class at C, its dict at dx, its attributes -/
  | ins (C dx : Addr) (fs : List (Str × V))
  /-- the dict of the instance at x -/
  | own (x : Addr)
  /-- the dict of an exception -/
  | xd (fs : List (Str × V))
  /-- a bound method, f of x -/
  | met (f x : Addr)
  /-- a range object lo, lo + 1, .. below hi -/
  | rng (lo hi : Int)
  /-- a thing that is known to the object (the script; a dict while a loop walks it): read, never written while it is so -/
  | frz (o : Obj) (u : HO)
  /-- a code object's table -/
  | tbl (ps : Array Value)
  /-- any other thing, by what is true of its one object (a def of one's own: SetO a S n := HO.ext fun h => ..) -/
  | ext (φ : Heap → Prop)

abbrev Hp := Addr → Option HO
def upd (H : Hp) (a : Addr) (o : HO) : Hp := fun b => if b = a then some o else H b
theorem upd_same {H : Hp} {a : Addr} {o : HO} : upd H a o a = some o := by unfold upd; rw [if_pos rfl]
theorem upd_ne {H : Hp} {a b : Addr} {o : HO} (h : b ≠ a) : upd H a o b = H b := by unfold upd; rw [if_neg h]
theorem ne_of_none {H : Hp} {a b : Addr} {o : HO} (h : H a = some o) (h' : H b = none) : a ≠ b := by
  intro e; subst e; rw [h] at h'; cases h'

section
variable (P : Program) (w : World)
def ObjOk (H : Hp) (h : Heap) (a : Addr) : HO → Prop
  | .lst xs => xs.length ≤ sizeLine ∧ ∃ (its : List Value) (n : Nat), Vals xs its ∧ h.get? a = some { cls := .type "list", data := .seq its.toArray n }
  | .tup xs => xs.length ≤ sizeLine ∧ ∃ its : List Value, Vals xs its ∧ IsTup h a its.toArray
  | .dK kvs => kvs.length ≤ sizeLine ∧ (a == sysModules) = false ∧ ∃ vs, KV kvs vs ∧ h.DictOf (mixKind P w) a vs
  | .dT kvs => kvs.length ≤ sizeLine ∧ (a == sysModules) = false ∧ ∃ xs : List (List Key × Addr × Value),
      Paired (fun (p : List Key × V) (q : List Key × Addr × Value) => p.1 = q.1 ∧ H q.2.1 = some (.tup (p.1.map kV)) ∧ RelV p.2 q.2.2) kvs xs ∧
      ∃ o es ep, h.get? a = some o ∧ o.ExactDict ∧ o.data = .dict es ep ∧ es.toList = xs.map (entryOfKey (tupleKind (mixKind P w))) ∧ (xs.map (·.1)).Nodup
  | .set S n => h.SetOf (intKind P w) a S n
  | .ins C dx fs => H dx = some (.own a) ∧ fs.length ≤ 1000 ∧ dx ≠ a ∧ h.get? a = some (PySem.W.instObj C dx) ∧
      ∃ mA, h.Ns1 dx mA ∧ (∀ f, RelO (fs.lookup f) (mA f)) ∧ PySem.Within mA (fs.map (·.1))
  | .own _ => ∃ o, h.get? a = some o
  | .xd fs => ∃ mA, h.Ns1 a mA ∧ ∀ f, RelO (fs.lookup f) (mA f)
  | .rng lo hi => ∃ t u v, h.get? a = some { cls := .type "range", data := .fields #[.int lo t, .int hi u, .int 1 v] }
  | .frz o u => h.get? a = some o ∧ ObjOk H h a u
  | .tbl ps => h.get? a = some { cls := .none, data := .fields ps }
  | .met f x => h.get? a = some (PySem.W.methodObj (.ref f) (.ref x))
  | .ext φ => φ h ∧ (∃ o, h.get? a = some o) ∧ ∀ h1 h2 : Heap, φ h1 → (∀ o, h1.get? a = some o → h2.get? a = some o) → φ h2
/-- the abstract heap is held -/
def HOk (H : Hp) (h : Heap) : Prop := ∀ a o, H a = some o → ObjOk P w H h a o
end

section
variable {P : Program} {w : World} {H H' : Hp} {h h' : Heap} {a : Addr} {o : HO}
theorem ObjOk.lt (x : ObjOk P w H h a o) : a < h.objs.size := by
  cases o with
  | lst xs => obtain ⟨_, _, _, _, e⟩ := x; exact Heap.lt_size e
  | tup xs => obtain ⟨_, _, _, p⟩ := x; exact p.lt
  | dK kvs => obtain ⟨_, _, _, _, o, _, _, e, _⟩ := x; exact Heap.lt_size e
  | dT kvs => obtain ⟨_, _, _, _, o, _, _, e, _⟩ := x; exact Heap.lt_size e
  | set S n => obtain ⟨o, _, _, _, e, _⟩ := x; exact Heap.lt_size e
  | ins C dx fs => obtain ⟨_, _, _, e, _⟩ := x; exact Heap.lt_size e
  | own y => obtain ⟨_, e⟩ := x; exact Heap.lt_size e
  | xd fs => obtain ⟨_, ⟨_, _, _, e, _⟩, _⟩ := x; exact Heap.lt_size e
  | rng lo hi => obtain ⟨_, _, _, e⟩ := x; exact Heap.lt_size e
  | frz ob u => obtain ⟨e, _⟩ := x; exact Heap.lt_size e
  | tbl ps => exact Heap.lt_size (show h.get? a = some _ from x)
  | met f y => exact Heap.lt_size (show h.get? a = some _ from x)
  | ext φ => obtain ⟨_, ⟨_, e⟩, _⟩ := x; exact Heap.lt_size e
theorem Paired.mapP {α β : Type} {F G : α → β → Prop} : ∀ {l₁ : List α} {l₂ : List β}, Paired F l₁ l₂ → (∀ a b, F a b → G a b) → Paired G l₁ l₂
  | _, _, .nil, _ => .nil
  | _, _, .cons r t, f => .cons (f _ _ r) (Paired.mapP t f)
/-- what an object's description leans on: its own object, its own dict, the tuples -/
theorem ObjOk.stay (x : ObjOk P w H h a o) (k : ∀ b u, (b = a ∨ H b = some (.own a)) → h.get? b = some u → h'.get? b = some u)
    (ho : ∀ b, H b = some (.own a) → H' b = some (.own a)) (ht : ∀ b xs, H b = some (.tup xs) → H' b = some (.tup xs)) : ObjOk P w H' h' a o := by
  induction o with
  | lst xs => obtain ⟨z, its, n, r, e⟩ := x; exact ⟨z, its, n, r, k _ _ (.inl rfl) e⟩
  | tup xs => obtain ⟨z, its, r, ob, e, c⟩ := x; exact ⟨z, its, r, ob, k _ _ (.inl rfl) e, c⟩
  | dK kvs => obtain ⟨z, y, vs, r, ob, es, ep, e, c⟩ := x; exact ⟨z, y, vs, r, ob, es, ep, k _ _ (.inl rfl) e, c⟩
  | dT kvs =>
    obtain ⟨z, y, xs, r, ob, es, ep, e, c⟩ := x
    exact ⟨z, y, xs, Paired.mapP r fun p q z => ⟨z.1, ht _ _ z.2.1, z.2.2⟩, ob, es, ep, k _ _ (.inl rfl) e, c⟩
  | set S n => obtain ⟨ob, es, ep, t, e, c⟩ := x; exact ⟨ob, es, ep, t, k _ _ (.inl rfl) e, c⟩
  | ins C dx fs =>
    obtain ⟨d, z, ne, e, mA, ⟨od, es, ep, e2, c⟩, r⟩ := x
    exact ⟨ho _ d, z, ne, k _ _ (.inl rfl) e, mA, ⟨od, es, ep, k _ _ (.inr d) e2, c⟩, r⟩
  | own y => obtain ⟨ob, e⟩ := x; exact ⟨ob, k _ _ (.inl rfl) e⟩
  | xd fs => obtain ⟨mA, ⟨od, es, ep, e, c⟩, r⟩ := x; exact ⟨mA, ⟨od, es, ep, k _ _ (.inl rfl) e, c⟩, r⟩
  | rng lo hi => obtain ⟨t, u, v, e⟩ := x; exact ⟨t, u, v, k _ _ (.inl rfl) e⟩
  | frz ob u ih => obtain ⟨e, q⟩ := x; exact ⟨k _ _ (.inl rfl) e, ih q⟩
  | tbl ps =>
    have e : h.get? a = some { cls := .none, data := .fields ps } := x
    show h'.get? a = some { cls := .none, data := .fields ps }
    exact k a _ (.inl rfl) e
  | met f y =>
    have e : h.get? a = some (PySem.W.methodObj (.ref f) (.ref y)) := x
    show h'.get? a = some (PySem.W.methodObj (.ref f) (.ref y))
    exact k a _ (.inl rfl) e
  | ext φ => obtain ⟨p, ⟨o, e⟩, st⟩ := x; exact ⟨st _ _ p fun o q => k _ _ (.inl rfl) q, ⟨o, k _ _ (.inl rfl) e⟩, st⟩
theorem HOk.lt (x : HOk P w H h) (e : H a = some o) : a < h.objs.size := (x a o e).lt
theorem HOk.fresh (x : HOk P w H h) (e : h.objs.size ≤ a) : H a = none := by
  cases q : H a with
  | none => rfl
  | some u => exact absurd (Nat.lt_of_lt_of_le (x.lt q) e) (Nat.lt_irrefl _)
/-- every object of the heap is kept -/
theorem HOk.kept (x : HOk P w H h) (k : ∀ b u, h.get? b = some u → h'.get? b = some u) : HOk P w H h' := fun a o e =>
  (x a o e).stay (fun b u _ q => k b u q) (fun _ q => q) fun _ _ q => q
/-- a new object is laid and tracked -/
theorem HOk.laid (x : HOk P w H h) (k : ∀ b u, h.get? b = some u → h'.get? b = some u) (hp : h.objs.size ≤ a) (new : ObjOk P w (upd H a o) h' a o) : HOk P w (upd H a o) h' := fun b u e => by
  have hn := x.fresh hp
  by_cases hb : b = a
  · subst hb; rw [upd_same] at e; cases e; exact new
  · rw [upd_ne hb] at e
    exact (x b u e).stay (fun c v _ q => k c v q) (fun c q => by rw [upd_ne (ne_of_none q hn)]; exact q) fun c xs q => by rw [upd_ne (ne_of_none q hn)]; exact q
end

/-- what may be read as u: it is u, or a known u -/
def Rd (H : Hp) (a : Addr) (u : HO) : Prop := H a = some u ∨ ∃ o, H a = some (.frz o u)
theorem Rd.of {H : Hp} {a : Addr} {u : HO} (h : H a = some u) : Rd H a u := .inl h
theorem Rd.ok {P : Program} {w : World} {H : Hp} {h : Heap} {a : Addr} {u : HO} (r : Rd H a u) (x : HOk P w H h) : ObjOk P w H h a u := by
  rcases r with r | ⟨o, r⟩
  · exact x a u r
  · obtain ⟨_, q⟩ := x a _ r
    exact q
/-- what may be written -/
def Mut : Option HO → Prop
  | some (.lst _) => True
  | some (.dK _) => True
  | some (.dT _) => True
  | some (.set _ _) => True
  | some (.ins _ _ _) => True
  | some (.ext _) => True
  | _ => False
section
variable {P : Program} {w : World} {H : Hp} {h h' : Heap} {x e : Addr} {o' : HO}
/-- the object at e is changed: x itself, or the dict of the instance x -/
theorem HOk.write (ok : HOk P w H h) (mu : Mut (H x)) (he : e = x ∨ H e = some (.own x)) (k : ∀ b u, b ≠ e → h.get? b = some u → h'.get? b = some u) (heo : ∃ u, h'.get? e = some u)
    (new : ObjOk P w (upd H x o') h' x o') : HOk P w (upd H x o') h' := fun b u q => by
  have nown : ∀ c y, H c = some (.own y) → c ≠ x := fun c y r z => by subst z; rw [r] at mu; exact mu
  have ntup : ∀ c xs, H c = some (.tup xs) → c ≠ x := fun c xs r z => by subst z; rw [r] at mu; exact mu
  by_cases hb : b = x
  · subst hb; rw [upd_same] at q; cases q; exact new
  · rw [upd_ne hb] at q
    by_cases hbe : b = e
    · have q' : H b = some (.own x) := by
        rcases he with z | z
        · exact absurd (hbe.trans z) hb
        · rw [hbe]; exact z
      rw [q] at q'; cases q'
      obtain ⟨v, hv⟩ := heo
      exact ⟨v, by rw [hbe]; exact hv⟩
    · refine (ok b u q).stay (fun c v hc r => k c v ?_ r) (fun c r => by rw [upd_ne (nown c b r)]; exact r) fun c xs r => by rw [upd_ne (ntup c xs r)]; exact r
      rcases hc with rfl | hc
      · exact hbe
      · rintro rfl
        rcases he with z | z
        · exact nown c b hc z
        · rw [hc] at z; cases z; exact hb rfl
end

/-! ### kept unless tracked; of the frames at fs (the callers') the slots may change (an exception that passes writes there); of the records at ex (iterators) nothing is said -/
structure Un (fs ex : List Addr) (H H' : Hp) (h h' : Heap) : Prop where
  keep : ∀ b o, h.get? b = some o → H b = none → b ∉ fs → b ∉ ex → h'.get? b = some o
  slot : ∀ b o, h.get? b = some o → H b = none → b ∈ fs → b ∉ ex → ∃ sl, h'.get? b = some { o with slots := sl }
  free : ∀ b o, h.get? b = some o → H b = none → b ∉ ex → H' b = none
  there : ∀ b o, h.get? b = some o → b ∉ ex → ∃ o', h'.get? b = some o'
  tups : ∀ b xs, H b = some (.tup xs) → H' b = some (.tup xs)
  frzs : ∀ b o u, H b = some (.frz o u) → H' b = some (.frz o u)
  tbls : ∀ b ps, H b = some (.tbl ps) → ∃ more, H' b = some (.tbl (ps ++ more))
section
variable {fs fs' ex ex' : List Addr} {H H1 H2 : Hp} {h h1 h2 h' : Heap} {a x e : Addr} {o : HO}
theorem Un.any (u : Un fs ex H H1 h h1) {b : Addr} {ob : Obj} (q : h.get? b = some ob) (n : H b = none) (hx : b ∉ ex) : ∃ sl, h1.get? b = some { ob with slots := sl } := by
  by_cases hb : b ∈ fs
  · exact u.slot b ob q n hb hx
  · exact ⟨ob.slots, u.keep b ob q n hb hx⟩
theorem Un.trans (a : Un fs ex H H1 h h1) (b : Un fs ex H1 H2 h1 h2) : Un fs ex H H2 h h2 where
  keep := fun c ob q n hc hx => b.keep c ob (a.keep c ob q n hc hx) (a.free c ob q n hx) hc hx
  slot := fun c ob q n hc hx => by
    obtain ⟨sl, e1⟩ := a.slot c ob q n hc hx
    obtain ⟨sl', e2⟩ := b.slot c _ e1 (a.free c ob q n hx) hc hx
    exact ⟨sl', e2⟩
  free := fun c ob q n hx => by
    obtain ⟨o', e1⟩ := a.there c ob q hx
    exact b.free c o' e1 (a.free c ob q n hx) hx
  there := fun c ob q hx => by
    obtain ⟨o', e1⟩ := a.there c ob q hx
    exact b.there c o' e1 hx
  tups := fun c xs q => b.tups c xs (a.tups c xs q)
  frzs := fun c ob xs q => b.frzs c ob xs (a.frzs c ob xs q)
  tbls := fun c ps q => by
    obtain ⟨m1, e1⟩ := a.tbls c ps q
    obtain ⟨m2, e2⟩ := b.tbls c _ e1
    exact ⟨m1 ++ m2, by rw [e2, Array.append_assoc]⟩
theorem Un.kept (k : ∀ b u, h.get? b = some u → h'.get? b = some u) : Un fs ex H H h h' :=
  ⟨fun b ob q _ _ _ => k b ob q, fun b ob q _ _ _ => ⟨ob.slots, k b ob q⟩, fun _ _ _ n _ => n, fun b ob q _ => ⟨ob, k b ob q⟩, fun _ _ q => q, fun _ _ _ q => q, fun _ ps q => ⟨#[], by rw [q]; simp⟩⟩
theorem Un.refl : Un fs ex H H h h := Un.kept fun _ _ q => q
theorem Un.laid (k : ∀ b u, h.get? b = some u → h'.get? b = some u) (hp : h.objs.size ≤ a) (hn : H a = none) : Un fs ex H (upd H a o) h h' where
  keep := fun b u q _ _ _ => k b u q
  slot := fun b u q _ _ _ => ⟨u.slots, k b u q⟩
  free := fun b u q n _ => by rw [upd_ne (Nat.ne_of_lt (Nat.lt_of_lt_of_le (Heap.lt_size q) hp))]; exact n
  there := fun b u q _ => ⟨u, k b u q⟩
  tups := fun b xs q => by rw [upd_ne (ne_of_none q hn)]; exact q
  frzs := fun b u xs q => by rw [upd_ne (ne_of_none q hn)]; exact q
  tbls := fun b ps q => ⟨#[], by rw [upd_ne (ne_of_none q hn), q]; simp⟩
theorem Un.write (mu : Mut (H x)) (he : e = x ∨ H e = some (.own x)) (k : ∀ b u, b ≠ e → h.get? b = some u → h'.get? b = some u) (heo : ∃ u, h'.get? e = some u) : Un fs ex H (upd H x o) h h' := by
  have hx : ∀ b, H b = none → b ≠ x := fun b n z => by subst z; rw [n] at mu; exact mu
  have hb : ∀ b, H b = none → b ≠ e := fun b n z => by
    subst z
    rcases he with r | r
    · exact hx b n r
    · rw [n] at r; cases r
  have hm : ∀ b u, H b = some u → ¬ Mut (some u) → b ≠ x := fun b u q nm z => by subst z; rw [q] at mu; exact nm mu
  refine ⟨fun b u q n _ _ => k b u (hb b n) q, fun b u q n _ _ => ⟨u.slots, k b u (hb b n) q⟩, fun b u q n _ => by rw [upd_ne (hx b n)]; exact n, fun b u q _ => ?_,
    fun b xs q => by rw [upd_ne (hm b _ q fun z => z)]; exact q, fun b u xs q => by rw [upd_ne (hm b _ q fun z => z)]; exact q, fun b ps q => ⟨#[], by rw [upd_ne (hm b _ q fun z => z), q]; simp⟩⟩
  by_cases hbe : b = e
  · subst hbe; exact heo
  · exact ⟨u, k b u hbe q⟩
theorem Un.mono (u : Un fs ex H H1 h h1) (hs : ∀ b ∈ fs, b ∈ fs') (hx : ∀ b ∈ ex, b ∈ ex') : Un fs' ex' H H1 h h1 :=
  ⟨fun b ob q n hb he => u.keep b ob q n (fun z => hb (hs b z)) fun z => he (hx b z), fun _ _ q n _ he => u.any q n fun z => he (hx _ z), fun b ob q n he => u.free b ob q n fun z => he (hx b z), fun b ob q he => u.there b ob q fun z => he (hx b z), u.tups, u.frzs, u.tbls⟩
end

/-! ### the heap without what is tracked -/
def trk (h : Heap) (H : Hp) : List Addr := (List.range h.objs.size).filter fun a => (H a).isSome
def hidT (h : Heap) (H : Hp) : Heap := PySem.W.hideAll h (trk h H)
theorem hidT_size (h : Heap) (H : Hp) : (hidT h H).objs.size = h.objs.size := PySem.W.hideAll_size _ _
theorem hidT_get {h : Heap} {H : Hp} {b : Addr} {o : Obj} (e : h.get? b = some o) (n : H b = none) : (hidT h H).get? b = some o :=
  PySem.W.hideAll_get _ e fun hm => by
    have q : (H b).isSome = true := (List.mem_filter.mp hm).2
    rw [n] at q; simp at q
theorem of_hidT {h : Heap} {H : Hp} {b : Addr} {o : Obj} (e : (hidT h H).get? b = some o) : h.get? b = some o ∧ H b = none := by
  have e' : h.get? b = some o := PySem.W.of_hideAll (trk h H) e
  refine ⟨e', ?_⟩
  cases q : H b with
  | none => rfl
  | some x =>
    have hm : b ∈ trk h H := List.mem_filter.mpr ⟨List.mem_range.mpr (Heap.lt_size e'), by simp [q]⟩
    have z : (hidT h H).get? b = none := PySem.W.hideAll_none (trk h H) hm
    rw [z] at e; cases e

/-! ### OpenK's ledger, filled with every new object but one -/
def allNews (g h : Heap) (L : Addr) : List (Addr × Obj) := (List.range h.objs.size).filterMap fun a => if a = L ∨ (g.get? a).isSome = true then none else (h.get? a).map fun o => (a, o)
def rest (g h : Heap) (L d : Addr) : List (Addr × Obj) := (allNews g h L).filter fun p => decide (p.1 ≠ d)
end L2

namespace L2
open PySem PySem.Spec PyProof.Rows

/-- the module's facts, over the base: the heap at the law's entry without what is tracked there -/
structure Mod (K : PySem.W.Frag) (mg : Str → Option Value) (base : Heap) : Prop where
  kin : K.In base
  glob : base.Ns mainGlobals mg
  blt : ∃ mb, base.Ns builtinsNs mb ∧ ∀ x : Str, x ≠ "__name__" → mb x = bootBuiltins x
  nolimit : base.NoLimit

/-- the context: a def's body (or a comprehension's block) running. base: fixed through the whole law; s₀, H₀: the entry; outer: the frames whose slots others may change (a def's callers); stack: all frames that run;
   ex: iterators that were made ahead of the entry and are walked here (a comprehension's); fn: the names whose cells were made at the entry (a def: all; a comprehension's block: its own); calm: not within an except suite; pn: pins that every state bears; xe: what is wanted of an exception that leaves the code -/
structure Cx where
  prog : Program
  w : World
  K : PySem.W.Frag
  mg : Str → Option Value
  base : Heap
  A : Around
  N : List Str
  s₀ : Shared
  H₀ : Hp
  env : Env
  outer : List Env
  stack : List Env
  ex : List Addr
  fn : Str → Bool
  calm : Bool
  pn : List (Addr × Obj)
  xe : Value → Shared → Prop
/-- the callers' frames -/
def frs (l : List Env) : List Addr := l.filterMap (·.frame)
abbrev Cx.fs (X : Cx) : List Addr := frs X.outer

def Vis (sc : Scope) (x : Str) : Prop := sc.names.lookup x = some .local ∨ sc.names.lookup x = some .cell ∨ sc.names.lookup x = some .free
def Loc (sc : Scope) (x : Str) : Prop := sc.names.lookup x = some .local ∨ sc.names.lookup x = some .cell
def Look (env : Env) (h : Heap) (m : Str → Option Value) (x : Str) (u : Value) : Prop :=
  (env.kindOf x = some .local ∧ m x = some u) ∨ ((env.kindOf x = some .cell ∨ env.kindOf x = some .free) ∧ ∃ c, env.cells.lookup x = some c ∧ h.IsCell c (some u))

structure Cx.Ok (X : Cx) : Prop where
  mod : Mod X.K X.mg X.base
  kind : X.env.scope.kind = .function
  glob : X.env.globals = mainGlobals
  blt : X.env.builtins = builtinsNs
  above : X.s₀.heap.objs.size ≤ X.env.locals
  inj : ∀ x y c, X.env.cells.lookup x = some c → X.env.cells.lookup y = some c → x = y
  has : ∀ x, (X.env.kindOf x = some .cell ∨ X.env.kindOf x = some .free) → ∃ c, X.env.cells.lookup x = some c
  cab : ∀ x c, X.fn x = true → X.env.cells.lookup x = some c → X.s₀.heap.objs.size ≤ c
  hd : X.calm = true → X.A.handled = none
  frames : X.A.frames = some X.stack
  stk : X.stack = X.outer ∨ (X.stack = X.env :: X.outer ∧ X.env.frame = some X.env.locals)
  exf : ∀ b ∈ X.ex, b ≠ X.env.locals ∧ ∀ x c, X.env.cells.lookup x = some c → c ≠ b
  bs : ∀ b o, X.base.get? b = some o → X.s₀.heap.get? b = some o ∧ X.H₀ b = none
  bsz : X.base.objs.size ≤ X.s₀.heap.objs.size
  noex : ∀ b o, X.base.get? b = some o → b ∉ X.ex
  exfs : ∀ b ∈ X.ex, b ∉ X.fs
  funs : X.s₀.heap.FunFrames X.base X.outer
  frf : ∀ b ∈ X.fs, X.H₀ b = none

structure Inv (X : Cx) (pins : List (Addr × Obj)) (σ : List (Option V)) (H : Hp) (s : Shared) : Prop where
  ok : X.Ok
  os : s.os = X.s₀.os
  bare : AllBare s.gens
  base : Un X.fs X.ex X.H₀ H X.s₀.heap s.heap
  loc : ∃ m, s.heap.Ns X.env.locals m ∧ ∀ (i : Nat) (x : Str) (v : V), X.N[i]? = some x → σ[i]? = some (some v) → Vis X.env.scope x → ∃ u, RelV v u ∧ Look X.env s.heap m x u
  cell : ∀ x c, X.env.cells.lookup x = some c → ∃ v, s.heap.IsCell c v
  free : H X.env.locals = none
  freeC : ∀ x c, X.env.cells.lookup x = some c → H c = none
  pin : ∀ p ∈ X.pn ++ pins, s.heap.get? p.1 = some p.2 ∧ H p.1 = none ∧ p.1 ≠ X.env.locals ∧ p.1 ∉ X.fs ∧ ∀ v, p.2.data ≠ .cell v
  hok : HOk X.prog X.w H s.heap
  len : σ.length = X.N.length

section
variable {X : Cx} {pins : List (Addr × Obj)} {σ : List (Option V)} {H H' : Hp} {s : Shared} {h' : Heap}

theorem Cx.Ok.nofr (ok : X.Ok) {b : Addr} {o : Obj} (e : X.base.get? b = some o) : b ∉ X.fs := fun hb => by
  have := (ok.funs.mem hb).1
  rw [e] at this; cases this
theorem Inv.bs (I : Inv X pins σ H s) : ∀ b o, X.base.get? b = some o → s.heap.get? b = some o ∧ H b = none := fun b o e =>
  ⟨I.base.keep b o (I.ok.bs b o e).1 (I.ok.bs b o e).2 (I.ok.nofr e) (I.ok.noex b o e), I.base.free b o (I.ok.bs b o e).1 (I.ok.bs b o e).2 (I.ok.noex b o e)⟩
theorem Inv.bk (I : Inv X pins σ H s) : ∀ b o, X.base.get? b = some o → s.heap.get? b = some o := fun b o e => (I.bs b o e).1
theorem Inv.mod (I : Inv X pins σ H s) : Mod X.K X.mg X.base := I.ok.mod
theorem Inv.kIn (I : Inv X pins σ H s) : X.K.In s.heap := I.ok.mod.kin.keeps I.bk
theorem Inv.nolimit (I : Inv X pins σ H s) : s.heap.NoLimit := I.ok.mod.nolimit.keeps I.bk
/-- the frame over the base: for OpenK's rules (K.In X.base is I.mod.kin) -/
theorem Inv.fr (I : Inv X pins σ H s) : ∃ m, Fr X.base X.env.locals s.heap m :=
  let ⟨m, hn, _⟩ := I.loc
  ⟨m, hn, I.bk, Nat.le_trans I.ok.bsz I.ok.above⟩
theorem Inv.lt (I : Inv X pins σ H s) : X.env.locals < s.heap.objs.size := let ⟨_, hn, _⟩ := I.loc; hn.lt
theorem Inv.sz (I : Inv X pins σ H s) : X.s₀.heap.objs.size ≤ s.heap.objs.size := Nat.le_trans I.ok.above (Nat.le_of_lt I.lt)
theorem Inv.nofs (I : Inv X pins σ H s) {a : Addr} (h : s.heap.objs.size ≤ a) : a ∉ X.fs := fun hb => by
  obtain ⟨_, o, ho, _⟩ := I.ok.funs.mem hb
  exact absurd (Nat.lt_of_lt_of_le (Heap.lt_size ho) (Nat.le_trans I.sz h)) (Nat.lt_irrefl _)
theorem Inv.cne (I : Inv X pins σ H s) : ∀ x c, X.env.cells.lookup x = some c → c ≠ X.env.locals := fun x c e z => by
  obtain ⟨v, o, ho, hd⟩ := I.cell x c e
  obtain ⟨m, ⟨o', es, ep, ho', hd', _⟩, _⟩ := I.loc
  rw [z, ho'] at ho; cases ho; rw [hd'] at hd; cases hd
theorem Inv.funs (I : Inv X pins σ H s) : s.heap.FunFrames X.base X.outer := by
  have all : ∀ (l : List Env), (∀ b ∈ frs l, b ∈ X.fs) → X.s₀.heap.FunFrames X.base l → s.heap.FunFrames X.base l := by
    intro l
    induction l with
    | nil => intro _ _; trivial
    | cons env r ih =>
      intro hs hl
      obtain ⟨hk, ⟨L, o, hf, hn, ho, hd⟩, hr⟩ := hl
      have hL : L ∈ X.fs := hs L (by unfold frs; rw [List.filterMap_cons, hf]; exact List.mem_cons_self)
      obtain ⟨sl, e⟩ := I.base.slot L o ho (I.ok.frf L hL) hL fun z => I.ok.exfs L z hL
      exact ⟨hk, ⟨L, _, hf, hn, e, hd⟩, ih (fun b hb => hs b (by unfold frs; rw [List.filterMap_cons, hf]; exact List.mem_cons_of_mem _ hb)) hr⟩
  exact all X.outer (fun _ hb => hb) I.ok.funs

/-- the frames that run, for a call -/
theorem Inv.stack (I : Inv X pins σ H s) : s.heap.FunFrames X.base X.stack := by
  rcases I.ok.stk with e | ⟨e, hf⟩
  · rw [e]; exact I.funs
  · rw [e]
    obtain ⟨m, hn, _⟩ := I.loc
    refine .cons (by rw [I.ok.kind]; decide) hf hn ?_ I.funs
    exact Heap.get?_none_of_le (Nat.le_trans I.ok.bsz I.ok.above)
theorem Inv.stkSub (I : Inv X pins σ H s) : ∀ b ∈ frs X.stack, b ∈ X.env.locals :: X.fs := fun b hb => by
  rcases I.ok.stk with e | ⟨e, hf⟩
  · rw [e] at hb; exact List.mem_cons_of_mem _ hb
  · rw [e] at hb
    unfold frs at hb
    rw [List.filterMap_cons, hf] at hb
    exact hb
theorem Inv.stkFree (I : Inv X pins σ H s) : ∀ b ∈ frs X.stack, H b = none := fun b hb => by
  rcases List.mem_cons.mp (I.stkSub b hb) with e | hb
  · rw [e]; exact I.free
  · obtain ⟨_, o, ho, _⟩ := I.ok.funs.mem hb
    exact I.base.free b o ho (I.ok.frf b hb) fun z => I.ok.exfs b z hb

/-- THE STEP: the untracked objects but the frame and the records at ch are kept (the callers' frames up to slots), the frame's map is kept, the new abstract heap is held -/
theorem Inv.step {g' : Array GenState} {t' : Nat} {d' : Drawn} {ch : List Addr} (I : Inv X pins σ H s)
    (hch : ∀ b ∈ ch, (b ∈ X.ex ∨ X.s₀.heap.objs.size ≤ b) ∧ b ≠ X.env.locals ∧ (∀ x c, X.env.cells.lookup x = some c → c ≠ b) ∧ ∀ p ∈ X.pn ++ pins, p.1 ≠ b)
    (keep : ∀ b o, b ≠ X.env.locals → b ∉ X.fs → b ∉ ch → s.heap.get? b = some o → H b = none → h'.get? b = some o)
    (slot : ∀ b o, b ≠ X.env.locals → b ∈ X.fs → b ∉ ch → s.heap.get? b = some o → H b = none → ∃ sl, h'.get? b = some { o with slots := sl }) (free : ∀ b o, b ∉ ch → s.heap.get? b = some o → H b = none → H' b = none)
    (there : ∀ b o, b ∉ ch → s.heap.get? b = some o → ∃ o', h'.get? b = some o')
    (tups : ∀ b xs, H b = some (.tup xs) → H' b = some (.tup xs)) (frzs : ∀ b o u, H b = some (.frz o u) → H' b = some (.frz o u)) (tbls : ∀ b ps, H b = some (.tbl ps) → ∃ more, H' b = some (.tbl (ps ++ more)))
    (ns : ∀ m, s.heap.Ns X.env.locals m → h'.Ns X.env.locals m) (hok : HOk X.prog X.w H' h') (hg : AllBare g') :
    Inv X pins σ H' { s with heap := h', gens := g', drawn := d', toks := t' } := by
  have neL : ∀ b o, X.s₀.heap.get? b = some o → b ≠ X.env.locals := fun b o e => Nat.ne_of_lt (Nat.lt_of_lt_of_le (Heap.lt_size e) I.ok.above)
  have neC : ∀ b o, X.s₀.heap.get? b = some o → b ∉ X.ex → b ∉ ch := fun b o e hx hb => by
    rcases (hch b hb).1 with z | z
    · exact hx z
    · exact absurd (Nat.lt_of_lt_of_le (Heap.lt_size e) z) (Nat.lt_irrefl _)
  have cellK : ∀ x c, X.env.cells.lookup x = some c → ∀ v, s.heap.IsCell c v → h'.IsCell c v := fun x c e v ⟨o, ho, hd⟩ => by
    have nch : c ∉ ch := fun z => (hch c z).2.2.1 x c e rfl
    by_cases hc : c ∈ X.fs
    · obtain ⟨sl, q⟩ := slot c o (I.cne x c e) hc nch ho (I.freeC x c e)
      exact ⟨_, q, hd⟩
    · exact ⟨o, keep c o (I.cne x c e) hc nch ho (I.freeC x c e), hd⟩
  refine ⟨I.ok, I.os, hg, ⟨fun b o e n hb hx => ?_, fun b o e n hb hx => ?_, fun b o e n hx => ?_, fun b o e hx => ?_, fun b xs e => tups b xs (I.base.tups b xs e), fun b o xs e => frzs b o xs (I.base.frzs b o xs e), fun b ps e => ?_⟩, ?_, fun x c e => ?_, ?_, fun x c e => ?_, fun p hp => ?_, hok, I.len⟩
  · exact keep b o (neL b o e) hb (neC b o e hx) (I.base.keep b o e n hb hx) (I.base.free b o e n hx)
  · obtain ⟨sl, e1⟩ := I.base.slot b o e n hb hx
    obtain ⟨sl', e2⟩ := slot b _ (neL b o e) hb (neC b o e hx) e1 (I.base.free b o e n hx)
    exact ⟨sl', e2⟩
  · obtain ⟨o', e1⟩ := I.base.there b o e hx
    exact free b o' (neC b o e hx) e1 (I.base.free b o e n hx)
  · obtain ⟨o', e1⟩ := I.base.there b o e hx
    exact there b o' (neC b o e hx) e1
  · obtain ⟨m1, e1⟩ := I.base.tbls b ps e
    obtain ⟨m2, e2⟩ := tbls b _ e1
    exact ⟨m1 ++ m2, by rw [e2, Array.append_assoc]⟩
  · obtain ⟨m, hn, hl⟩ := I.loc
    refine ⟨m, ns m hn, fun i x v e1 e2 e3 => ?_⟩
    obtain ⟨u, r, l⟩ := hl i x v e1 e2 e3
    refine ⟨u, r, ?_⟩
    rcases l with l | ⟨k, c, e, z⟩
    · exact .inl l
    · exact .inr ⟨k, c, e, cellK x c e _ z⟩
  · obtain ⟨v, z⟩ := I.cell x c e
    exact ⟨v, cellK x c e v z⟩
  · obtain ⟨m, ⟨o, _, _, ho, _⟩, _⟩ := I.loc
    exact free _ o (fun z => (hch _ z).2.1 rfl) ho I.free
  · obtain ⟨v, o, ho, hd⟩ := I.cell x c e
    exact free c o (fun z => (hch c z).2.2.1 x c e rfl) ho (I.freeC x c e)
  · obtain ⟨e, n, ne, nf, d⟩ := I.pin p hp
    have nch : p.1 ∉ ch := fun z => (hch p.1 z).2.2.2 p hp rfl
    exact ⟨keep p.1 p.2 ne nf nch e n, free p.1 p.2 nch e n, ne, nf, d⟩
/-- .. where the frame's own object is kept too -/
theorem Inv.un {t' : Nat} (I : Inv X pins σ H s) (u : Un X.fs [] H H' s.heap h') (hok : HOk X.prog X.w H' h') : Inv X pins σ H' { s with heap := h', toks := t' } := by
  obtain ⟨m, ⟨o, es, ep, ho, r⟩, _⟩ := id I.loc
  obtain ⟨sl, hL⟩ := u.any ho I.free (by simp)
  exact I.step (g' := s.gens) (d' := s.drawn) (ch := []) (fun _ z => nomatch z) (fun b o _ hb _ e n => u.keep b o e n hb (by simp)) (fun b o _ hb _ e n => u.slot b o e n hb (by simp)) (fun b o _ e n => u.free b o e n (by simp)) (fun b o _ e => u.there b o e (by simp)) u.tups u.frzs u.tbls (fun m' hm => by
    obtain ⟨o', es', ep', ho', r'⟩ := hm
    rw [ho] at ho'; cases ho'
    exact ⟨_, es', ep', hL, r'⟩) hok I.bare
/-- behind a call (or a comprehension's block): the slots of this frame may have changed too, the records at ch may have turned -/
theorem Inv.call {g' : Array GenState} {t' : Nat} {d' : Drawn} {ch : List Addr} (I : Inv X pins σ H s) (u : Un (frs X.stack) ch H H' s.heap h') (hok : HOk X.prog X.w H' h') (hg : AllBare g')
    (hch : ∀ b ∈ ch, (b ∈ X.ex ∨ X.s₀.heap.objs.size ≤ b) ∧ b ≠ X.env.locals ∧ (∀ x c, X.env.cells.lookup x = some c → c ≠ b) ∧ ∀ p ∈ X.pn ++ pins, p.1 ≠ b) :
    Inv X pins σ H' { s with heap := h', gens := g', drawn := d', toks := t' } := by
  obtain ⟨m, ⟨o, es, ep, ho, r⟩, _⟩ := id I.loc
  obtain ⟨sl, hL⟩ := u.any ho I.free fun z => (hch _ z).2.1 rfl
  exact I.step (ch := ch) hch (fun b o hL hb hc e n => u.keep b o e n (fun z => (List.mem_cons.mp (I.stkSub b z)).elim hL hb) hc) (fun b o _ _ hc e n => u.any e n hc) (fun b o hc e n => u.free b o e n hc) (fun b o hc e => u.there b o e hc) u.tups u.frzs u.tbls (fun m' hm => by
    obtain ⟨o', es', ep', ho', r'⟩ := hm
    rw [ho] at ho'; cases ho'
    exact ⟨_, es', ep', hL, r'⟩) hok hg
/-- an untracked record of ours (an iterator) has turned -/
theorem Inv.turned {t' : Nat} {it : Addr} (I : Inv X pins σ H s) (k : ∀ b o, b ≠ it → s.heap.get? b = some o → h'.get? b = some o) (hn : H it = none) (hL : it ≠ X.env.locals)
    (h1 : it ∈ X.ex ∨ X.s₀.heap.objs.size ≤ it) (h2 : ∀ x c, X.env.cells.lookup x = some c → c ≠ it) (h3 : ∀ p ∈ X.pn ++ pins, p.1 ≠ it) : Inv X pins σ H { s with heap := h', toks := t' } := by
  have nit : ∀ b u, H b = some u → b ≠ it := fun b u e z => by rw [z, hn] at e; cases e
  refine I.step (g' := s.gens) (d' := s.drawn) (ch := [it]) (fun b hb => ?_) (fun b o _ _ hc e _ => k b o (fun z => hc (by simp [z])) e) (fun b o _ _ hc e _ => ⟨o.slots, k b o (fun z => hc (by simp [z])) e⟩) (fun _ _ _ _ n => n)
    (fun b o hc e => ⟨o, k b o (fun z => hc (by simp [z])) e⟩) (fun _ _ e => e) (fun _ _ _ e => e) (fun b ps e => ⟨#[], by rw [e]; simp⟩) (fun m hm => ?_) (fun b u e => ?_) I.bare
  · have e : b = it := by simpa using hb
    subst e
    exact ⟨h1, hL, h2, h3⟩
  · obtain ⟨o, es, ep, ho, r⟩ := hm
    exact ⟨o, es, ep, k _ o (Ne.symm hL) ho, r⟩
  · refine (I.hok b u e).stay (fun c v hc q => k c v ?_ q) (fun _ q => q) fun _ _ q => q
    rcases hc with z | z
    · rw [z]; exact nit b u e
    · exact nit c _ z
theorem Inv.tok (I : Inv X pins σ H s) (t : Nat) : Inv X pins σ H { s with toks := t } := I.un (h' := s.heap) (t' := t) Un.refl I.hok
/-- all objects kept -/
theorem Inv.kept {t' : Nat} (I : Inv X pins σ H s) (k : ∀ b u, s.heap.get? b = some u → h'.get? b = some u) : Inv X pins σ H { s with heap := h', toks := t' } := I.un (Un.kept k) (I.hok.kept k)
/-- a new object laid and tracked -/
theorem Inv.laid {a : Addr} {o : HO} {t' : Nat} (I : Inv X pins σ H s) (k : ∀ b u, s.heap.get? b = some u → h'.get? b = some u) (hp : s.heap.objs.size ≤ a) (new : ObjOk X.prog X.w (upd H a o) h' a o) :
    Inv X pins σ (upd H a o) { s with heap := h', toks := t' } := I.un (Un.laid k hp (I.hok.fresh hp)) (I.hok.laid k hp new)
/-- an object written -/
theorem Inv.write {x e : Addr} {o : HO} {t' : Nat} (I : Inv X pins σ H s) (mu : Mut (H x)) (he : e = x ∨ H e = some (.own x)) (k : ∀ b u, b ≠ e → s.heap.get? b = some u → h'.get? b = some u) (heo : ∃ u, h'.get? e = some u)
    (new : ObjOk X.prog X.w (upd H x o) h' x o) : Inv X pins σ (upd H x o) { s with heap := h', toks := t' } := I.un (Un.write mu he k heo) (I.hok.write mu he k heo new)
/-- forgetting slots, pins -/
theorem Inv.weak {σ' : List (Option V)} (I : Inv X pins σ H s) (hl : σ'.length = σ.length) (w : ∀ (i : Nat) v, σ'[i]? = some (some v) → σ[i]? = some (some v)) : Inv X pins σ' H s :=
  ⟨I.ok, I.os, I.bare, I.base, let ⟨m, hn, hl'⟩ := I.loc; ⟨m, hn, fun i x v e1 e2 e3 => hl' i x v e1 (w i v e2) e3⟩, I.cell, I.free, I.freeC, I.pin, I.hok, hl.trans I.len⟩
theorem Inv.pins_of {pins' : List (Addr × Obj)} (I : Inv X pins σ H s) (h : ∀ p ∈ pins', s.heap.get? p.1 = some p.2 ∧ H p.1 = none ∧ p.1 ≠ X.env.locals ∧ p.1 ∉ X.fs ∧ ∀ v, p.2.data ≠ .cell v) : Inv X pins' σ H s :=
  ⟨I.ok, I.os, I.bare, I.base, I.loc, I.cell, I.free, I.freeC, fun p hp => (List.mem_append.mp hp).elim (fun z => I.pin p (List.mem_append_left _ z)) (h p), I.hok, I.len⟩

theorem nodup_ix {N : List Str} (hN : N.Nodup) {i j : Nat} {x : Str} (a : N[i]? = some x) (b : N[j]? = some x) : i = j := by
  obtain ⟨h1, e1⟩ := List.getElem?_eq_some_iff.mp a
  obtain ⟨h2, e2⟩ := List.getElem?_eq_some_iff.mp b
  exact (List.getElem_inj hN).mp (e1.trans e2.symm)

/-- a name is stored; what changed -/
theorem store_ok2 {M : Model} {A : Around} {E : Value → Shared → Prop} {i : Nat} {x : Str} {v : V} {u : Value} {Q : Unit → Shared → Prop} (I : Inv X pins σ H s) (hN : X.N.Nodup) (hi : X.N[i]? = some x) (hx : Loc X.env.scope x) (r : RelV v u)
    (h : ∀ s', Inv X pins (σ.set i (some v)) H s' → (∃ a, Heap.SameBut a s.heap s'.heap ∧ (a = X.env.locals ∨ X.env.cells.lookup x = some a)) → Q () s') (hf : X.fn x = true ∨ X.env.scope.names.lookup x = some .local := by first | exact .inl rfl | exact .inr rfl | assumption) : wpAny M A (storeName X.env x u) Q E s := by
  obtain ⟨m, hn, hl⟩ := id I.loc
  have hcls : (X.env.scope.kind == .class || (X.env.scope.kind == .module && X.env.locals != X.env.globals)) = false := by rw [I.ok.kind]; rfl
  have hiσ : i < σ.length := by rw [I.len]; exact (List.getElem?_eq_some_iff.mp hi).1
  have cne := I.cne
  have tracked : ∀ {a : Addr} {h' : Heap}, (∃ o, s.heap.get? a = some o ∧ H a = none) → Heap.SameBut a s.heap h' → HOk X.prog X.w H h' := fun {a h'} ha hs b ob e => by
    obtain ⟨_, _, hfree⟩ := ha
    refine (I.hok b ob e).stay (fun c w' hc q => (hs.2 c ?_).trans q) (fun _ q => q) fun _ _ q => q
    rintro rfl
    rcases hc with rfl | hc
    · rw [hfree] at e; cases e
    · rw [hfree] at hc; cases hc
  rcases hx with hk | hk
  · refine wpAny_storeName_local hk hn (fun h' hn' hs => ?_) hcls
    obtain ⟨oL, _, _, hoL, _⟩ := id hn
    refine h _ ⟨I.ok, I.os, I.bare, ⟨fun b o e n hb hx => ?_, fun b o e n hb hx => ?_, I.base.free, fun b o e hx => ?_, I.base.tups, I.base.frzs, I.base.tbls⟩, ⟨_, hn', fun j y v' e1 e2 e3 => ?_⟩, fun y c e => ?_, I.free, I.freeC, fun p hp => ?_, tracked ⟨oL, hoL, I.free⟩ hs, by simpa using I.len⟩ ⟨_, hs, .inl rfl⟩
    · exact (hs.2 b (Nat.ne_of_lt (Nat.lt_of_lt_of_le (Heap.lt_size e) I.ok.above))).trans (I.base.keep b o e n hb hx)
    · obtain ⟨sl, e1⟩ := I.base.slot b o e n hb hx
      exact ⟨sl, (hs.2 b (Nat.ne_of_lt (Nat.lt_of_lt_of_le (Heap.lt_size e) I.ok.above))).trans e1⟩
    · obtain ⟨o', e1⟩ := I.base.there b o e hx
      exact ⟨o', (hs.2 b (Nat.ne_of_lt (Nat.lt_of_lt_of_le (Heap.lt_size e) I.ok.above))).trans e1⟩
    · by_cases hj : j = i
      · subst hj
        rw [hi] at e1; cases e1
        rw [List.getElem?_set_self hiσ] at e2
        cases e2
        exact ⟨u, r, .inl ⟨hk, by simp⟩⟩
      · rw [List.getElem?_set_ne (Ne.symm hj)] at e2
        obtain ⟨u', r', q⟩ := hl j y v' e1 e2 e3
        refine ⟨u', r', ?_⟩
        rcases q with ⟨k, e⟩ | ⟨k, c, e, z⟩
        · refine .inl ⟨k, ?_⟩
          have : y ≠ x := fun e => hj (nodup_ix hN e1 (e ▸ hi))
          simp [this, e]
        · exact .inr ⟨k, c, e, z.sameBut hs (cne y c e)⟩
    · obtain ⟨w', z⟩ := I.cell y c e
      exact ⟨w', z.sameBut hs (cne y c e)⟩
    · obtain ⟨e, n, ne, nf, d⟩ := I.pin p hp
      exact ⟨(hs.2 p.1 ne).trans e, n, ne, nf, d⟩
  · have hfn : X.fn x = true := by
      rcases hf with z | z
      · exact z
      · rw [z] at hk; cases hk
    obtain ⟨c, hc⟩ := I.ok.has x (.inl hk)
    obtain ⟨w', z⟩ := I.cell x c hc
    refine wpAny_storeName_cell I.ok.kind hk hc z (fun h' hc' hs => ?_)
    obtain ⟨oc, hoc, hocd⟩ := id z
    refine h { s with heap := h' } ⟨I.ok, I.os, I.bare, ⟨fun b o e n hb hx => ?_, fun b o e n hb hx => ?_, I.base.free, fun b o e hx => ?_, I.base.tups, I.base.frzs, I.base.tbls⟩, ⟨m, hn.sameBut hs (Ne.symm (cne x c hc)), fun j y v' e1 e2 e3 => ?_⟩, fun y c' e => ?_, I.free, I.freeC, fun p hp => ?_, tracked ⟨oc, hoc, I.freeC x c hc⟩ hs, by simpa using I.len⟩ ⟨c, hs, .inr hc⟩
    · exact (hs.2 b (Nat.ne_of_lt (Nat.lt_of_lt_of_le (Heap.lt_size e) (I.ok.cab x c hfn hc)))).trans (I.base.keep b o e n hb hx)
    · obtain ⟨sl, e1⟩ := I.base.slot b o e n hb hx
      exact ⟨sl, (hs.2 b (Nat.ne_of_lt (Nat.lt_of_lt_of_le (Heap.lt_size e) (I.ok.cab x c hfn hc)))).trans e1⟩
    · obtain ⟨o', e1⟩ := I.base.there b o e hx
      exact ⟨o', (hs.2 b (Nat.ne_of_lt (Nat.lt_of_lt_of_le (Heap.lt_size e) (I.ok.cab x c hfn hc)))).trans e1⟩
    · by_cases hj : j = i
      · subst hj
        rw [hi] at e1; cases e1
        rw [List.getElem?_set_self hiσ] at e2
        cases e2
        exact ⟨u, r, .inr ⟨.inl hk, c, hc, hc'⟩⟩
      · rw [List.getElem?_set_ne (Ne.symm hj)] at e2
        obtain ⟨u', r', q⟩ := hl j y v' e1 e2 e3
        refine ⟨u', r', ?_⟩
        rcases q with q | ⟨k, c', e, z'⟩
        · exact .inl q
        · refine .inr ⟨k, c', e, z'.sameBut hs ?_⟩
          rintro rfl
          exact hj (nodup_ix hN e1 (I.ok.inj _ _ _ e hc ▸ hi))
    · by_cases hcc : c' = c
      · subst hcc; exact ⟨_, hc'⟩
      · obtain ⟨w2, z2⟩ := I.cell y c' e
        exact ⟨w2, z2.sameBut hs hcc⟩
    · obtain ⟨e, n, ne, nf, d⟩ := I.pin p hp
      refine ⟨(hs.2 p.1 ?_).trans e, n, ne, nf, d⟩
      intro q
      rw [q, hoc] at e
      have q' : oc = p.2 := Option.some.inj e
      exact d w' (by rw [← q']; exact hocd)
theorem store_ok {M : Model} {A : Around} {E : Value → Shared → Prop} {i : Nat} {x : Str} {v : V} {u : Value} {Q : Unit → Shared → Prop} (I : Inv X pins σ H s) (hN : X.N.Nodup) (hi : X.N[i]? = some x) (hx : Loc X.env.scope x) (r : RelV v u)
    (h : ∀ s', Inv X pins (σ.set i (some v)) H s' → Q () s') (hf : X.fn x = true ∨ X.env.scope.names.lookup x = some .local := by first | exact .inl rfl | exact .inr rfl | assumption) : wpAny M A (storeName X.env x u) Q E s :=
  store_ok2 I hN hi hx r (fun s' I' _ => h s' I') hf
/-- behind a call or a block, the state as it is -/
theorem Inv.call' {s' : Shared} {ch : List Addr} (I : Inv X pins σ H s) (ho : s'.os = s.os) (u : Un (frs X.stack) ch H H' s.heap s'.heap) (hok : HOk X.prog X.w H' s'.heap) (hg : AllBare s'.gens)
    (hch : ∀ b ∈ ch, (b ∈ X.ex ∨ X.s₀.heap.objs.size ≤ b) ∧ b ≠ X.env.locals ∧ (∀ x c, X.env.cells.lookup x = some c → c ≠ b) ∧ ∀ p ∈ X.pn ++ pins, p.1 ≠ b) : Inv X pins σ H' s' := by
  obtain ⟨h', g', d', t', o'⟩ := s'
  have e : o' = s.os := ho
  subst e
  exact I.call (g' := g') (t' := t') (d' := d') u hok hg hch
end

/-! ### the judgements -/
/-- an exception: its class, its own dict's address (where it has one), the abstract heap behind it -/
abbrev XK := Value → Option Addr → Hp → Prop
abbrev St := List (Option V)
abbrev VK := V → Hp → Prop
/-- an expression's reading; a test's; an argument list's -/
abbrev TE := St → Hp → VK → Prop
abbrev TT := St → Hp → (Bool → Hp → Prop) → Prop
abbrev TA := St → Hp → (List V → Hp → Prop) → Prop
/-- what is wanted behind a statement -/
structure Ends where
  nx : St → Hp → Prop
  rt : VK
  bk : St → Hp → Prop := fun _ _ => False
  ct : St → Hp → Prop := fun _ _ => False
abbrev TS := Ends → St → Hp → Prop

def EP (X : Cx) (pins : List (Addr × Obj)) (σ : St) (Q : VK) (u : Value) (s' : Shared) : Prop := ∃ v H', Inv X pins σ H' s' ∧ RelV v u ∧ Q v H'
def TP (X : Cx) (pins : List (Addr × Obj)) (σ : St) (Q : Bool → Hp → Prop) (b : Bool) (s' : Shared) : Prop := ∃ H', Inv X pins σ H' s' ∧ Q b H'
def AP (X : Cx) (pins : List (Addr × Obj)) (σ : St) (Q : List V → Hp → Prop) (us : List Value) (s' : Shared) : Prop := ∃ vs H', Inv X pins σ H' s' ∧ Vals vs us ∧ Q vs H'
def SP (X : Cx) (pins : List (Addr × Obj)) (D : Ends) (f : Flow) (s' : Shared) : Prop :=
  match f with
  | .next => ∃ σ' H', Inv X pins σ' H' s' ∧ D.nx σ' H'
  | .brk => ∃ σ' H', Inv X pins σ' H' s' ∧ D.bk σ' H'
  | .cont => ∃ σ' H', Inv X pins σ' H' s' ∧ D.ct σ' H'
  | .ret u => ∃ v σ' H', Inv X pins σ' H' s' ∧ RelV v u ∧ D.rt v H'

def PE (X : Cx) (e : Expr) (t : TE) : Prop :=
  ∀ (pins : List (Addr × Obj)) (s : Shared) (σ : St) (H : Hp) (Q : VK), Inv X pins σ H s → t σ H Q → wpAny (model X.prog X.w) X.A (eval e X.env) (EP X pins σ Q) X.xe s
def PT (X : Cx) (e : Expr) (t : TT) : Prop :=
  ∀ (pins : List (Addr × Obj)) (s : Shared) (σ : St) (H : Hp) (Q : Bool → Hp → Prop), Inv X pins σ H s → t σ H Q → wpAny (model X.prog X.w) X.A (isTrue e X.env (eval e X.env)) (TP X pins σ Q) X.xe s
/-- a test whatever its 'whole' is (and, or) -/
def PW (X : Cx) (e : Expr) (t : TT) : Prop :=
  ∀ (whole : Sem Value) (pins : List (Addr × Obj)) (s : Shared) (σ : St) (H : Hp) (Q : Bool → Hp → Prop), Inv X pins σ H s → t σ H Q → wpAny (model X.prog X.w) X.A (isTrue e X.env whole) (TP X pins σ Q) X.xe s
theorem PW.pt {X : Cx} {e : Expr} {t : TT} (h : PW X e t) : PT X e t := h _
/-- an argument list (no star), from the left -/
def PA (X : Cx) (es : List Expr) (t : TA) : Prop :=
  ∀ (pos : Pos) (pins : List (Addr × Obj)) (s : Shared) (σ : St) (H : Hp) (Q : List V → Hp → Prop), Inv X pins σ H s → t σ H Q → wpAny (model X.prog X.w) X.A (spliced (backTo pos (starEach es X.env))) (AP X pins σ Q) X.xe s
def PS (X : Cx) (st : Stmt) (t : TS) : Prop :=
  ∀ (pins : List (Addr × Obj)) (s : Shared) (σ : St) (H : Hp) (D : Ends), Inv X pins σ H s → t D σ H → wpAny (model X.prog X.w) X.A (exec st X.env) (SP X pins D) X.xe s
def PSs (X : Cx) (st : List Stmt) (t : TS) : Prop :=
  ∀ (pins : List (Addr × Obj)) (s : Shared) (σ : St) (H : Hp) (D : Ends), Inv X pins σ H s → t D σ H → wpAny (model X.prog X.w) X.A (execs st X.env) (SP X pins D) X.xe s
/-- weaken the end -/
theorem thn {α : Type} {t : Sem α} {Q Q' : α → Shared → Prop} {M : Model} {A : Around} {E : Value → Shared → Prop} {s : Shared} (h : wpAny M A t Q E s) (hQ : ∀ a s, Q a s → Q' a s) : wpAny M A t Q' E s := wpAny_mono h hQ fun _ _ x => x
end L2

namespace L2
open PySem PySem.Spec PyProof.Rows
section
variable {X : Cx}

/-! ### names and constants -/
def tVar (i : Nat) : TE := fun σ H Q => ∃ v, σ[i]? = some (some v) ∧ Q v H
def tC (v : V) : TE := fun _ H Q => Q v H
theorem pe_var {i : Nat} {x : Str} {pos : Pos} (hN : X.N[i]? = some x) (hv : Vis X.env.scope x) (hd : (x == ("__debug__" : Str)) = false := by decide) (hcd : (x == ("__classdict__" : Str)) = false := by decide) : PE X (.Name x pos) (tVar i) := by
  intro pins s σ H Q I h
  obtain ⟨v, e, h⟩ := h
  obtain ⟨m, hn, hl⟩ := I.loc
  obtain ⟨u, r, l⟩ := hl i x v hN e hv
  have fin : EP X pins σ Q u s := ⟨v, H, I, r, h⟩
  rcases l with ⟨hk, hm⟩ | ⟨hk, c, hc, hcell⟩
  · exact wpAny_Name (wpAny_loadName_local I.ok.kind hk hn hm fin) hd
  · rcases hk with hk | hk
    · exact wpAny_Name (wpAny_loadName_cell I.ok.kind hk hc hcell fin) hd
    · exact wpAny_Name (wpAny_loadName_free I.ok.kind hk hc hcell fin hcd) hd
theorem pe_int {i j pos} : PE X (.Constant (.int i) j pos) (tC (.int i)) := fun _ _ _ H _ I h => wpAny_Constant_int ⟨.int i, H, I.tok _, ⟨_, rfl⟩, h⟩
theorem pe_bl {b j pos} : PE X (.Constant (.bool b) j pos) (tC (.bl b)) := fun _ _ _ H _ I h => Constant_bool ⟨.bl b, H, I, rfl, h⟩
theorem pe_non {j pos} : PE X (.Constant .none j pos) (tC .non) := fun _ _ _ H _ I h => Constant_none ⟨.non, H, I, rfl, h⟩
theorem pe_str {x j pos} : PE X (.Constant (.str x) j pos) (tC (.str x)) := fun _ _ _ H _ I h => Calls.Constant_str ⟨.str x, H, I.tok _, ⟨_, rfl⟩, h⟩

/-- a global name of the def -/
def Gl (X : Cx) (x : Str) : Prop := X.env.kindOf x = some .globalImplicit
theorem ld_glob {E : Value → Shared → Prop} {pins : List (Addr × Obj)} {s : Shared} {σ : St} {H : Hp} {x : Str} {u : Value} {pos : Pos} {Q : Value → Shared → Prop} (I : Inv X pins σ H s) (hg : Gl X x) (hm : X.mg x = some u) (h : Q u s)
    (hd : (x == ("__debug__" : Str)) = false := by decide) : wpAny (model X.prog X.w) X.A (eval (.Name x pos) X.env) Q E s :=
  Calls.Name_function_global I.ok.kind hg (Calls.loadGlobal_global (by rw [I.ok.glob]; exact I.mod.glob.keeps I.bk) hm h) hd
theorem ld_blt {E : Value → Shared → Prop} {pins : List (Addr × Obj)} {s : Shared} {σ : St} {H : Hp} {x : Str} {u : Value} {pos : Pos} {Q : Value → Shared → Prop} (I : Inv X pins σ H s) (hg : Gl X x) (hm : X.mg x = none) (hv : bootBuiltins x = some u) (h : Q u s)
    (hn : x ≠ "__name__" := by decide) (hd : (x == ("__debug__" : Str)) = false := by decide) : wpAny (model X.prog X.w) X.A (eval (.Name x pos) X.env) Q E s := by
  obtain ⟨mb, h1, h2⟩ := I.mod.blt
  exact Calls.Name_function_global I.ok.kind hg (Calls.loadGlobal_builtin (by rw [I.ok.glob]; exact I.mod.glob.keeps I.bk) hm (by rw [I.ok.blt]; exact h1.keeps I.bk) ((h2 x hn).trans hv) h) hd
/-- a module's constant, a class, a function, as a value -/
theorem pe_glob {x : Str} {v : V} {u : Value} {pos : Pos} (hg : Gl X x) (hm : X.mg x = some u) (r : RelV v u) (hd : (x == ("__debug__" : Str)) = false := by decide) : PE X (.Name x pos) (tC v) :=
  fun _ _ _ H _ I h => ld_glob I hg hm ⟨v, H, I, r, h⟩ hd
theorem pe_bltn {x : Str} {v : V} {u : Value} {pos : Pos} (hg : Gl X x) (hm : X.mg x = none) (hv : bootBuiltins x = some u) (r : RelV v u) (hn : x ≠ "__name__" := by decide) (hd : (x == ("__debug__" : Str)) = false := by decide) : PE X (.Name x pos) (tC v) :=
  fun _ _ _ H _ I h => ld_blt I hg hm hv ⟨v, H, I, r, h⟩ hn hd

/-! ### arithmetic -/
variable {a b : Expr} {ta tb : TE} {pos : Pos}
/-! ### comparisons -/
/-- a comparison as a value, as a test -/
def tB (t : TE) : TT := fun σ H Q => t σ H fun x H1 => ∃ c, x = .bl c ∧ Q c H1
/-- an expression whose value is a bool, as a test -/
theorem pt_val {e : Expr} {t : TE} (h : PE X e t) (he : ∀ whole, isTrue e X.env whole = (do let v ← whole; standAt e.pos; holding [v] (truthy v)) := by intro _; rfl) : PT X e (tB t) := by
  intro pins s σ H Q I hw
  refine isTrue_plain (thn (h pins s σ H _ I hw) fun v s1 ⟨x, H1, I1, r1, q1⟩ => ?_) (he _)
  obtain ⟨d, rfl, q⟩ := q1
  cases r1
  exact wpAny_truthy_bool ⟨H1, I1, q⟩

/-! ### and, or, not -/
variable {tA tB' : TT} {rest : List Expr}
def tAnd (t u : TT) : TT := fun σ H Q => t σ H fun c H1 => if c = true then u σ H1 Q else Q false H1
def tOr (t u : TT) : TT := fun σ H Q => t σ H fun c H1 => if c = true then Q true H1 else u σ H1 Q
def tNot (t : TT) : TT := fun σ H Q => t σ H fun c H1 => Q (!c) H1
theorem pw_and1 (ha : PT X a tA) : PW X (.BoolOp .And [a] pos) tA := by
  intro wh pins s σ H Q I h
  refine isTrue_and (thn (ha pins s σ H Q I h) fun c s1 e => ?_)
  cases c with
  | true => exact isTrue_and_nil e
  | false => exact e
theorem pw_or1 (ha : PT X a tA) : PW X (.BoolOp .Or [a] pos) tA := by
  intro wh pins s σ H Q I h
  refine isTrue_or (thn (ha pins s σ H Q I h) fun c s1 e => ?_)
  cases c with
  | false => exact isTrue_or_nil e
  | true => exact e
theorem pw_and (ha : PT X a tA) (hb : PW X (.BoolOp .And (b :: rest) pos) tB') : PW X (.BoolOp .And (a :: b :: rest) pos) (tAnd tA tB') := by
  intro wh pins s σ H Q I h
  refine isTrue_and (thn (ha pins s σ H _ I h) fun c s1 ⟨H1, I1, q1⟩ => ?_)
  cases c with
  | true => exact hb wh pins s1 σ H1 Q I1 q1
  | false => exact ⟨H1, I1, q1⟩
theorem pw_or (ha : PT X a tA) (hb : PW X (.BoolOp .Or (b :: rest) pos) tB') : PW X (.BoolOp .Or (a :: b :: rest) pos) (tOr tA tB') := by
  intro wh pins s σ H Q I h
  refine isTrue_or (thn (ha pins s σ H _ I h) fun c s1 ⟨H1, I1, q1⟩ => ?_)
  cases c with
  | true => exact ⟨H1, I1, q1⟩
  | false => exact hb wh pins s1 σ H1 Q I1 q1
theorem pt_not (ha : PT X a tA) : PT X (.UnaryOp .Not a pos) (tNot tA) := by
  intro pins s σ H Q I h
  exact isTrue_not (ha pins s σ H (fun c H1 => Q (!c) H1) I h)
/-- .. as values (bools) -/
def tAndV (ta tb : TE) : TE := fun σ H Q => ta σ H fun x H1 => ∃ c, x = .bl c ∧ if c = true then tb σ H1 Q else Q (.bl false) H1
def tOrV (ta tb : TE) : TE := fun σ H Q => ta σ H fun x H1 => ∃ c, x = .bl c ∧ if c = true then Q (.bl true) H1 else tb σ H1 Q
def tNotV (ta : TE) : TE := fun σ H Q => ta σ H fun x H1 => ∃ c, x = .bl c ∧ Q (.bl (!c)) H1
theorem pe_one {op} {t : TE} (h : PE X a t) : PE X (.BoolOp op [a] pos) t := fun pins s σ H Q I hw => BoolOp_one (h pins s σ H Q I hw)
theorem pe_and (ha : PE X a ta) (hb : PE X (.BoolOp .And (b :: rest) pos) tb) : PE X (.BoolOp .And (a :: b :: rest) pos) (tAndV ta tb) := by
  intro pins s σ H Q I h
  refine BoolOp_and (thn (ha pins s σ H _ I h) fun v s1 ⟨x, H1, I1, r1, q1⟩ => ?_)
  obtain ⟨c, rfl, q1⟩ := q1
  cases r1
  refine wpAny_truthy_bool ?_
  cases c with
  | true => exact hb pins s1 σ H1 Q I1 q1
  | false => exact ⟨.bl false, H1, I1, rfl, q1⟩
theorem pe_or (ha : PE X a ta) (hb : PE X (.BoolOp .Or (b :: rest) pos) tb) : PE X (.BoolOp .Or (a :: b :: rest) pos) (tOrV ta tb) := by
  intro pins s σ H Q I h
  refine BoolOp_or (thn (ha pins s σ H _ I h) fun v s1 ⟨x, H1, I1, r1, q1⟩ => ?_)
  obtain ⟨c, rfl, q1⟩ := q1
  cases r1
  refine wpAny_truthy_bool ?_
  cases c with
  | false => exact hb pins s1 σ H1 Q I1 q1
  | true => exact ⟨.bl true, H1, I1, rfl, q1⟩
theorem pe_not (ha : PE X a ta) : PE X (.UnaryOp .Not a pos) (tNotV ta) := by
  intro pins s σ H Q I h
  refine UnaryOp_ (thn (ha pins s σ H _ I h) fun v s1 ⟨x, H1, I1, r1, q1⟩ => ?_)
  obtain ⟨c, rfl, q1⟩ := q1
  cases r1
  exact not_of (wpAny_truthy_bool ⟨.bl (!c), H1, I1, rfl, q1⟩)
end
end L2

namespace L2
open PySem PySem.Spec PyProof.Rows

/-! ### a list, a tuple that is read: tracked, frozen, or an object of the module -/
def SqL (K : PySem.W.Frag) (H : Hp) (a : Addr) (xs : List V) : Prop :=
  Rd H a (.lst xs) ∨
    ∃ (o : Obj) (its : Array Value) (n : Nat), K.lookup a = some o ∧ o.cls = .type "list" ∧ o.dict = none ∧ o.data = .seq its n ∧ its.size ≤ sizeLine ∧ Vals xs its.toList
def SqT (K : PySem.W.Frag) (H : Hp) (a : Addr) (xs : List V) : Prop :=
  Rd H a (.tup xs) ∨
    ∃ (o : Obj) (its : Array Value) (n : Nat), K.lookup a = some o ∧ o.cls = .type "tuple" ∧ o.data = .seq its n ∧ its.size ≤ sizeLine ∧ Vals xs its.toList
def absV : Value → Option V
  | .none => some .non
  | .bool b => some (.bl b)
  | .int i _ => some (.int i)
  | .str x _ => some (.str x)
  | .bytes b _ => some (.byt b)
  | .float b _ => some (.flt b)
  | .ref a => some (.ref a)
  | .type n => some (.ty n)
  | _ => none
theorem RelV.abs {x : V} {u : Value} (r : RelV x u) : absV u = some x := by
  cases x with
  | non => cases r; rfl
  | bl _ => cases r; rfl
  | int _ => obtain ⟨t, rfl⟩ := r; rfl
  | str _ => obtain ⟨t, rfl⟩ := r; rfl
  | byt _ => obtain ⟨t, rfl⟩ := r; rfl
  | flt _ => obtain ⟨t, rfl⟩ := r; rfl
  | ref _ => cases r; rfl
  | ty _ => cases r; rfl
theorem RelV.inj {x y : V} {u : Value} (r : RelV x u) (q : RelV y u) : x = y := Option.some.inj (r.abs.symm.trans q.abs)
theorem Vals.inj : ∀ {xs ys : List V} {us : List Value}, Vals xs us → Vals ys us → xs = ys
  | _, _, _, .nil, .nil => rfl
  | _, _, _, .cons r t, .cons r' t' => by rw [r.inj r', Vals.inj t t']
section
variable {X : Cx} {pins : List (Addr × Obj)} {σ : St} {H : Hp} {s : Shared} {a : Addr} {xs ys : List V}
theorem SqL.of {K : PySem.W.Frag} (h : H a = some (.lst xs)) : SqL K H a xs := .inl (.inl h)
theorem SqT.of {K : PySem.W.Frag} (h : H a = some (.tup xs)) : SqT K H a xs := .inl (.inl h)
theorem Inv.list (I : Inv X pins σ H s) (h : SqL X.K H a xs) : ∃ its : List Value, Vals xs its ∧ PlainL s.heap a its.toArray ∧ xs.length ≤ sizeLine := by
  rcases h with h | ⟨o, its, n, hk, hc, hd, hs, hz, r⟩
  · obtain ⟨z, its, n, r, e⟩ := h.ok I.hok
    exact ⟨its, r, ⟨_, n, e, rfl, rfl, rfl⟩, z⟩
  · refine ⟨its.toList, r, ⟨o, n, I.kIn a o hk, hc, hd, by simpa using hs⟩, ?_⟩
    have e := r.length
    simp only [Array.length_toList] at e
    omega
theorem Inv.tuple (I : Inv X pins σ H s) (h : SqT X.K H a xs) : ∃ its : List Value, Vals xs its ∧ IsTup s.heap a its.toArray ∧ xs.length ≤ sizeLine := by
  rcases h with h | ⟨o, its, n, hk, hc, hs, hz, r⟩
  · obtain ⟨z, its, r, p⟩ := h.ok I.hok
    exact ⟨its, r, p, z⟩
  · refine ⟨its.toList, r, ⟨o, I.kIn a o hk, hc, n, by simpa using hs⟩, ?_⟩
    have e := r.length
    simp only [Array.length_toList] at e
    omega
theorem Inv.list_inj (I : Inv X pins σ H s) (h : SqL X.K H a xs) (h' : SqL X.K H a ys) : xs = ys := by
  obtain ⟨its, r, ⟨o, n, e, _, _, d⟩, _⟩ := I.list h
  obtain ⟨its', r', ⟨o', n', e', _, _, d'⟩, _⟩ := I.list h'
  rw [e] at e'; cases e'
  rw [d] at d'
  injection d' with d1 _
  have : its = its' := by simpa using congrArg Array.toList d1
  subst this
  exact r.inj r'
theorem Inv.tuple_inj (I : Inv X pins σ H s) (h : SqT X.K H a xs) (h' : SqT X.K H a ys) : xs = ys := by
  obtain ⟨its, r, ⟨o, e, _, n, d⟩, _⟩ := I.tuple h
  obtain ⟨its', r', ⟨o', e', _, n', d'⟩, _⟩ := I.tuple h'
  rw [e] at e'; cases e'
  rw [d] at d'
  injection d' with d1 _
  have : its = its' := by simpa using congrArg Array.toList d1
  subst this
  exact r.inj r'
end

/-! ### another wish about exceptions -/
abbrev Cx.wish (X : Cx) (E : Value → Shared → Prop) : Cx := { X with xe := E }
/-- no exception leaves -/
abbrev Cx.nox (X : Cx) : Cx := X.wish fun _ _ => False
theorem Cx.Ok.wish {X : Cx} (ok : X.Ok) (E : Value → Shared → Prop) : (X.wish E).Ok :=
  ⟨ok.mod, ok.kind, ok.glob, ok.blt, ok.above, ok.inj, ok.has, ok.cab, ok.hd, ok.frames, ok.stk, ok.exf, ok.bs, ok.bsz, ok.noex, ok.exfs, ok.funs, ok.frf⟩
theorem Cx.Ok.unwish {X : Cx} {E : Value → Shared → Prop} (ok : (X.wish E).Ok) : X.Ok :=
  ⟨ok.mod, ok.kind, ok.glob, ok.blt, ok.above, ok.inj, ok.has, ok.cab, ok.hd, ok.frames, ok.stk, ok.exf, ok.bs, ok.bsz, ok.noex, ok.exfs, ok.funs, ok.frf⟩
section
variable {X : Cx} {pins : List (Addr × Obj)} {σ : St} {H : Hp} {s : Shared} {E : Value → Shared → Prop}
theorem Inv.wish (I : Inv X pins σ H s) (E : Value → Shared → Prop) : Inv (X.wish E) pins σ H s := ⟨I.ok.wish E, I.os, I.bare, I.base, I.loc, I.cell, I.free, I.freeC, I.pin, I.hok, I.len⟩
theorem Inv.unwish (I : Inv (X.wish E) pins σ H s) : Inv X pins σ H s := ⟨I.ok.unwish, I.os, I.bare, I.base, I.loc, I.cell, I.free, I.freeC, I.pin, I.hok, I.len⟩
theorem SP.unwish {D : Ends} {f : Flow} {s' : Shared} (h : SP (X.wish E) pins D f s') : SP X pins D f s' := by
  cases f with
  | next => obtain ⟨σ', H', I, q⟩ := h; exact ⟨σ', H', I.unwish, q⟩
  | brk => obtain ⟨σ', H', I, q⟩ := h; exact ⟨σ', H', I.unwish, q⟩
  | cont => obtain ⟨σ', H', I, q⟩ := h; exact ⟨σ', H', I.unwish, q⟩
  | ret u => obtain ⟨v, σ', H', I, r, q⟩ := h; exact ⟨v, σ', H', I.unwish, r, q⟩
theorem PE.nox {e : Expr} {t : TE} (h : PE X.nox e t) : PE X e t := fun pins s σ H Q I hw =>
  wpAny_mono (h pins s σ H Q (I.wish _) hw) (fun _ _ ⟨v, H', I', r, q⟩ => ⟨v, H', I'.unwish, r, q⟩) fun _ _ z => False.elim z
theorem PT.nox {e : Expr} {t : TT} (h : PT X.nox e t) : PT X e t := fun pins s σ H Q I hw =>
  wpAny_mono (h pins s σ H Q (I.wish _) hw) (fun _ _ ⟨H', I', q⟩ => ⟨H', I'.unwish, q⟩) fun _ _ z => False.elim z
theorem PSs.nox {st : List Stmt} {t : TS} (h : PSs X.nox st t) : PSs X st t := fun pins s σ H D I hw =>
  wpAny_mono (h pins s σ H D (I.wish _) hw) (fun _ _ q => q.unwish) fun _ _ z => False.elim z
end

/-! ### blocks and small statements -/
section
variable {X : Cx} {st : Stmt} {rest : List Stmt} {t u : TS} {e : Expr} {te : TE} {pos : Pos}
def tNext : TS := fun D σ H => D.nx σ H
def tSeq (t u : TS) : TS := fun D σ H => t { D with nx := u D } σ H
theorem pss_nil : PSs X [] tNext := fun _ _ σ H _ I h => wpAny_execs_nil ⟨σ, H, I, h⟩
theorem pss_cons (h1 : PS X st t) (h2 : PSs X rest u) : PSs X (st :: rest) (tSeq t u) := by
  intro pins s σ H D I h
  refine wpAny_execs_cons (thn (h1 pins s σ H { D with nx := u D } I h) fun f s1 q => ?_)
  cases f with
  | next =>
    obtain ⟨σ', H', I', q⟩ := q
    exact h2 pins s1 σ' H' D I' q
  | ret v => exact q
  | brk => exact q
  | cont => exact q
/-- in a def's body nothing is shown -/
theorem Inv.quiet {pins : List (Addr × Obj)} {σ : St} {H : Hp} {s : Shared} (I : Inv X pins σ H s) : interactive X.env = false := by simp [interactive, I.ok.kind]
/-- an expression whose value is dropped -/
def tDrop (te : TE) : TS := fun D σ H => te σ H fun _ H1 => D.nx σ H1
theorem ps_expr (he : PE X e te) (hs : swapsWith e none pos.line X.env = pure false := by rfl) : PS X (.Expr e pos) (tDrop te) := by
  intro pins s σ H D I h
  exact wpAny_Expr_any (thn (he pins s σ H _ I h) fun v s1 ⟨x, H1, I1, r1, q1⟩ => ⟨σ, H1, I1, q1⟩) I.quiet hs
def tRet (te : TE) : TS := fun D σ H => te σ H D.rt
theorem ps_ret (he : PE X e te) : PS X (.Return (some e) pos) (tRet te) := by
  intro pins s σ H D I h
  exact wpAny_Return_some (thn (he pins s σ H _ I h) fun v s1 ⟨x, H1, I1, r1, q1⟩ => ⟨x, σ, H1, I1, r1, q1⟩)
def tIfS (c : TT) (t u : TS) : TS := fun D σ H => c σ H fun b H1 => if b = true then t D σ H1 else u D σ H1
theorem ps_if {c : Expr} {a b : List Stmt} {tc : TT} (hc : PT X c tc) (ha : PSs X a t) (hb : PSs X b u) : PS X (.If c a b pos) (tIfS tc t u) := by
  intro pins s σ H D I h
  refine wpAny_If (thn (hc pins s σ H _ I h) fun d s1 ⟨H1, I1, q1⟩ => ?_)
  cases d with
  | true => exact ha pins s1 σ H1 D I1 q1
  | false => exact hb pins s1 σ H1 D I1 q1
/-- code that the proof never comes to -/
def tNever : TS := fun _ _ _ => False
theorem pss_never {sts : List Stmt} : PSs X sts tNever := fun _ _ _ _ _ _ h => h.elim
end

/-! ### targets -/
abbrev TG := V → St → Hp → (St → Hp → Prop) → Prop
abbrev TGs := List V → St → Hp → (St → Hp → Prop) → Prop
def PG (X : Cx) (target : Expr) (t : TG) : Prop :=
  ∀ (pins : List (Addr × Obj)) (s : Shared) (σ : St) (H : Hp) (v : V) (u : Value) (Q : St → Hp → Prop), Inv X pins σ H s → RelV v u → t v σ H Q →
    wpAny (model X.prog X.w) X.A (assign target X.env u) (fun _ s' => ∃ σ' H', Inv X pins σ' H' s' ∧ Q σ' H') X.xe s
/-- several targets, one after another -/
def PGs (X : Cx) (ts : List Expr) (t : TGs) : Prop :=
  ∀ (pins : List (Addr × Obj)) (s : Shared) (σ : St) (H : Hp) (vs : List V) (us : List Value) (Q : St → Hp → Prop), Inv X pins σ H s → Vals vs us → t vs σ H Q →
    wpAny (model X.prog X.w) X.A (assignInOrder ((assignEach ts X.env).map (·.2)) us) (fun _ s' => ∃ σ' H', Inv X pins σ' H' s' ∧ Q σ' H') X.xe s
/-- o[i] = v, by values -/
abbrev TSet := V → V → V → Hp → (Hp → Prop) → Prop
def PSet (X : Cx) (t : TSet) : Prop :=
  ∀ (pins : List (Addr × Obj)) (s : Shared) (σ : St) (H : Hp) (o i v : V) (ov iv u : Value) (Q : Hp → Prop), Inv X pins σ H s → RelV o ov → RelV i iv → RelV v u → t o i v H Q →
    wpAny (model X.prog X.w) X.A (setItem ov iv u) (fun _ s' => ∃ H', Inv X pins σ H' s' ∧ Q H') X.xe s
section
variable {X : Cx} {pos : Pos}
def gName (i : Nat) : TG := fun v σ H Q => Q (σ.set i (some v)) H
theorem pg_name {i : Nat} {x : Str} (hN : X.N.Nodup) (hi : X.N[i]? = some x) (hx : Loc X.env.scope x) (hf : X.fn x = true ∨ X.env.scope.names.lookup x = some .local := by first | exact .inl rfl | exact .inr rfl | assumption) : PG X (.Name x pos) (gName i) := by
  intro pins s σ H v u Q I r h
  exact wpAny_assign_Name (store_ok I hN hi hx r (fun s' I' => ⟨_, H, I', h⟩) hf)
def gNil : TGs := fun vs σ H Q => vs = [] ∧ Q σ H
def gCons (t : TG) (u : TGs) : TGs := fun vs σ H Q => ∃ v r, vs = v :: r ∧ t v σ H fun σ' H' => u r σ' H' Q
theorem pgs_nil : PGs X [] gNil := by
  intro pins s σ H vs us Q I r h
  obtain ⟨e, h⟩ := h
  subst e
  cases r
  exact assignInOrder_nil ⟨σ, H, I, h⟩
theorem pgs_cons {e : Expr} {es : List Expr} {t : TG} {u : TGs} (h1 : PG X e t) (h2 : PGs X es u)
    (hs : (assignEach (e :: es) X.env).map (·.2) = assign e X.env :: (assignEach es X.env).map (·.2) := by rfl) : PGs X (e :: es) (gCons t u) := by
  intro pins s σ H vs us Q I r h
  obtain ⟨v, vr, e1, h⟩ := h
  subst e1
  cases r with
  | cons r rr =>
    rw [hs]
    refine assignInOrder_cons (thn (h1 pins s σ H _ _ _ I r h) fun _ s1 ⟨σ1, H1, I1, q1⟩ => ?_)
    exact h2 pins s1 σ1 H1 _ _ Q I1 rr q1
/-- (a, b, ..) = a tuple of that length -/
def gTup (K : PySem.W.Frag) (n : Nat) (t : TGs) : TG := fun v σ H Q => ∃ a xs, v = .ref a ∧ SqT K H a xs ∧ xs.length = n ∧ t xs σ H Q
theorem pg_tup {es : List Expr} {k : Nat} {t : TGs} {n : Nat} (hc : X.calm = true) (h : PGs X es t)
    (hn : (assignEach es X.env).length = n := by rfl) (hst : (assignEach es X.env).findIdx? (·.1) = none := by rfl) : PG X (.Tuple es k pos) (gTup X.K n t) := by
  intro pins s σ H v u Q I r hw
  obtain ⟨a, xs, e1, hq, hl, hw⟩ := hw
  subst e1
  cases r
  obtain ⟨its, rv, ht, hz⟩ := I.tuple hq
  refine assign_Tuple_tuple (I.ok.hd hc) ht (by simp [hn, ← hl, rv.length]) hst fun h' hx => ?_
  have I1 : Inv X pins σ H { s with heap := h' } := I.kept (t' := s.toks) fun b o e => hx b o (Nat.ne_of_lt (Heap.lt_size e)) e
  exact h pins _ σ H xs _ Q I1 (by simpa using rv) hw
/-- o[i] = .. -/
def gSub (to ti : TE) (t : TSet) : TG := fun v σ H Q => to σ H fun o H1 => ti σ H1 fun i H2 => t o i v H2 fun H3 => Q σ H3
theorem pg_sub {o i : Expr} {to ti : TE} {t : TSet} (ho : PE X o to) (hi : PE X i ti) (hs : PSet X t)
    (ha : ∀ v, assign (.Subscript o i pos) X.env v = (do
      let ov ← holding [v] (eval o X.env)
      let iv ← holding [v, ov] (eval i X.env)
      standAt pos
      holding [v, ov, iv] (setItem ov iv v)
      release [v, ov, iv] []) := by intro _; rfl) : PG X (.Subscript o i pos) (gSub to ti t) := by
  intro pins s σ H v u Q I r h
  rw [ha]
  refine wpAny_bind (wpAny_holding (thn (ho pins s σ H _ I h) fun ov s1 ⟨x, H1, I1, r1, q1⟩ => ?_))
  refine wpAny_bind (wpAny_holding (thn (hi pins s1 σ H1 _ I1 q1) fun iv s2 ⟨y, H2, I2, r2, q2⟩ => ?_))
  refine wpAny_bind (wpAny_standAt (wpAny_bind (wpAny_holding (thn (hs pins s2 σ H2 x y v ov iv u _ I2 r1 r2 r q2) fun _ s3 ⟨H3, I3, q3⟩ => ?_))))
  exact wpAny_release ⟨σ, H3, I3, q3⟩
/-- target = value -/
def tAsg (te : TE) (g : TG) : TS := fun D σ H => te σ H fun x H1 => g x σ H1 D.nx
theorem ps_asg {tg e : Expr} {te : TE} {g : TG} (he : PE X e te) (hg : PG X tg g) (hs : swapsWithSole [tg] e pos.line X.env = pure false := by rfl) (hw : swappedStores [tg] e X.env = pure none := by rfl)
    (h1 : (assignEach [tg] X.env).map (·.2) = [assign tg X.env] := by rfl) : PS X (.Assign [tg] e pos) (tAsg te g) := by
  intro pins s σ H D I h
  refine wpAny_Assign_stores (thn (he pins s σ H _ I h) fun v s1 ⟨x, H1, I1, r1, q1⟩ => ?_) hs hw
  rw [h1]
  exact thn (hg pins s1 σ H1 x v _ I1 r1 q1) fun _ s2 q => q
end

/-! ### while -/
section
variable {X : Cx} {pos : Pos}
end

/-! ### what a loop or a comprehension walks -/
/-- at turn i: it yields x (the heap may grow), or it stops -/
structure It where
  go : Nat → Hp → Prop
  yld : Nat → Hp → V → Hp → Prop
  stop : Nat → Hp → Prop
/-- the iterator's own objects may turn: they are not the frame's, not pinned, younger than the entry (or a comprehension's own) -/
def FpOk (X : Cx) (pins : List (Addr × Obj)) (H : Hp) (b : Addr) : Prop :=
  H b = none ∧ b ≠ X.env.locals ∧ b ∉ X.fs ∧ (b ∈ X.ex ∨ X.s₀.heap.objs.size ≤ b) ∧ (∀ x c, X.env.cells.lookup x = some c → c ≠ b) ∧ ∀ p ∈ X.pn ++ pins, p.1 ≠ b
theorem Inv.fpOk {X : Cx} {pins : List (Addr × Obj)} {σ : St} {H H' : Hp} {s : Shared} {b : Addr} (I : Inv X pins σ H s) (hb : s.heap.objs.size ≤ b) (hn : H' b = none) : FpOk X pins H' b := by
  refine ⟨hn, Nat.ne_of_gt (Nat.lt_of_lt_of_le I.lt hb), I.nofs hb, .inr (Nat.le_trans I.sz hb), fun x c e z => ?_, fun p hp z => ?_⟩
  · obtain ⟨v, q⟩ := I.cell x c e
    exact absurd (Nat.lt_of_lt_of_le q.lt (by rw [z]; exact hb)) (Nat.lt_irrefl _)
  · exact absurd (Nat.lt_of_lt_of_le (Heap.lt_size (I.pin p hp).1) (by rw [z]; exact hb)) (Nat.lt_irrefl _)
structure Turn (P : Program) (w : World) (K : PySem.W.Frag) (tg : Expr) (J : It) (fp : List Addr) (it : Addr) (tn : Nat → Heap → Prop) : Prop where
  mem : it ∈ fp
  obj : ∀ i h, tn i h → ∀ b ∈ fp, ∃ o, h.get? b = some o ∧ ∀ v, o.data ≠ .cell v
  keep : ∀ i h h', tn i h → (∀ b ∈ fp, ∀ o, h.get? b = some o → h'.get? b = some o) → tn i h'
  item : ∀ (X : Cx), X.prog = P → X.w = w → X.K = K → X.calm = true → ∀ (i : Nat) (pins : List (Addr × Obj)) (s : Shared) (σ : St) (H : Hp) (E : Value → Shared → Prop), Inv X pins σ H s → (∀ b ∈ fp, FpOk X pins H b) → tn i s.heap → J.go i H →
    wpAny (model P w) X.A (pyNext (.ref it)) (fun r s1 => ∃ u, r = some u ∧
      wpAny (model P w) X.A (letOwnedTupleGo tg (.ref it) u) (fun _ s2 => ∃ x H', Inv X pins σ H' s2 ∧ RelV x u ∧ J.yld i H x H' ∧ tn (i + 1) s2.heap ∧ ∀ b ∈ fp, H' b = none) E s1) E s
  done : ∀ (X : Cx), X.prog = P → X.w = w → X.K = K → X.calm = true → ∀ (i : Nat) (pins : List (Addr × Obj)) (s : Shared) (σ : St) (H : Hp) (E : Value → Shared → Prop), Inv X pins σ H s → (∀ b ∈ fp, FpOk X pins H b) → tn i s.heap → J.stop i H →
    wpAny (model P w) X.A (pyNext (.ref it)) (fun r s1 => r = none ∧ Inv X pins σ H s1) E s
  self : ∀ (A : Around) (i : Nat) (s : Shared) (Q : Value → Shared → Prop) (E : Value → Shared → Prop), tn i s.heap → Q (.ref it) s → wpAny (model P w) A (pyIter (.ref it)) Q E s
abbrev TI := St → Hp → (It → Hp → Prop) → Prop
/-- an iterator has come -/
def PIE (X : Cx) (pins : List (Addr × Obj)) (σ : St) (tg : Expr) (R : It → Hp → Prop) (itv : Value) (s2 : Shared) : Prop :=
  ∃ (it : Addr) (fp : List Addr) (tn : Nat → Heap → Prop) (J : It) (H' : Hp), itv = .ref it ∧ Inv X pins σ H' s2 ∧ Turn X.prog X.w X.K tg J fp it tn ∧ tn 0 s2.heap ∧ (∀ b ∈ fp, FpOk X pins H' b) ∧ R J H'
def PI (X : Cx) (tg iter : Expr) (wi : TI) : Prop :=
  ∀ (pins : List (Addr × Obj)) (s : Shared) (σ : St) (H : Hp) (R : It → Hp → Prop), Inv X pins σ H s → wi σ H R →
    wpAny (model X.prog X.w) X.A (eval iter X.env) (fun v s1 => wpAny (model X.prog X.w) X.A (pyIter v) (PIE X pins σ tg R) X.xe s1) X.xe s

/-- the step ahead of the store is nothing for an iterator that keeps no tuple -/
theorem go_of {M : Model} {A : Around} {E : Value → Shared → Prop} {s : Shared} {tg : Expr} {it : Addr} {u : Value} {o : Obj} {n : String} {vs : Array Value} {Q : Unit → Shared → Prop} (ho : s.heap.get? it = some o) (hc : o.cls = .type n) (hd : o.data = .fields vs)
    (hn : ["enumerate", "zip", "dict_itemiterator", "dict_reverseitemiterator", "odict_iterator", "itertools.zip_longest", "itertools.pairwise"].contains n = false) (hQ : Q () s) : wpAny M A (letOwnedTupleGo tg (.ref it) u) Q E s := by
  unfold letOwnedTupleGo
  cases tg <;> first
    | exact wpAny_pure hQ
    | (cases u <;> first
        | exact wpAny_pure hQ
        | (refine wpAny_bind (wpAny_load ho ?_)
           rw [hc, hd]
           show wpAny M A (if (["enumerate", "zip", "dict_itemiterator", "dict_reverseitemiterator", "odict_iterator", "itertools.zip_longest", "itertools.pairwise"].contains n && vs[0]? == some (rawInt _)) = true then _ else _) Q E s
           rw [if_neg (by intro h; rw [hn, Bool.false_and] at h; cases h)]
           exact wpAny_pure hQ))

/-- the list at a, as it stands at each turn (a loop may append to it) -/
def Itl (K : PySem.W.Frag) (a : Addr) : It :=
  ⟨fun i H => ∃ xs x, SqL K H a xs ∧ xs[i]? = some x, fun i H x H' => H' = H ∧ ∀ xs, SqL K H a xs → xs[i]? = some x, fun i H => ∃ xs, SqL K H a xs ∧ xs.length ≤ i⟩
def Itt (K : PySem.W.Frag) (a : Addr) : It :=
  ⟨fun i H => ∃ xs x, SqT K H a xs ∧ xs[i]? = some x, fun i H x H' => H' = H ∧ ∀ xs, SqT K H a xs → xs[i]? = some x, fun i H => ∃ xs, SqT K H a xs ∧ xs.length ≤ i⟩
/-- lo, lo + 1, .. (n of them) -/
def Itr (lo : Int) (n : Nat) : It := ⟨fun i _ => i < n, fun i H x H' => H' = H ∧ x = .int (lo + i), fun i _ => n ≤ i⟩
theorem turn_list {P : Program} {w : World} {K : PySem.W.Frag} {tg : Expr} (a it : Addr) : Turn P w K tg (Itl K a) [it] it (fun i h => h.IsListIter it a i) where
  mem := by simp
  obj := fun i h st b hb => by
    have e : b = it := by simpa using hb
    subst e
    obtain ⟨o, e, c, d⟩ := st
    exact ⟨o, e, fun v z => by rw [d] at z; cases z⟩
  keep := fun i h h' st k => st.at fun o e => k it (by simp) o e
  item := by
    intro X hP hw hK hc i pins s σ H E I hf st hg
    subst hP hw hK
    obtain ⟨xs, x, hq, hx⟩ := hg
    obtain ⟨its, rv, p, hz⟩ := I.list hq
    obtain ⟨u, hu, ru⟩ := rv.get hx
    obtain ⟨f0, f1, f2, f3, f4, f5⟩ := hf it (by simp)
    refine wpAny_pyNext_list_item st p.isList (x := u) (by simpa using hu) fun h' st' sb => ?_
    have I1 : Inv X pins σ H { s with heap := h' } := I.turned (t' := s.toks) (fun b o hb e => (sb.2 b hb).trans e) f0 f1 f3 f4 f5
    obtain ⟨o, e, c, d⟩ := id st'
    exact ⟨u, rfl, go_of (s := { s with heap := h' }) e c d (by decide) ⟨x, H, I1, ru, ⟨rfl, fun ys hy => by rw [I.list_inj hy hq]; exact hx⟩, st', fun b hb => (hf b hb).1⟩⟩
  done := by
    intro X hP hw hK hc i pins s σ H E I hf st hg
    subst hP hw hK
    obtain ⟨xs, hq, hx⟩ := hg
    obtain ⟨its, rv, p, hz⟩ := I.list hq
    obtain ⟨f0, f1, f2, f3, f4, f5⟩ := hf it (by simp)
    have hl := rv.length
    exact wpAny_pyNext_list_end (I.ok.hd hc) st p.isList (by simp; omega) fun h' eb => ⟨rfl, I.turned (t' := s.toks) (fun b o hb e => eb b o hb e) f0 f1 f3 f4 f5⟩
  self := fun _ _ _ _ _ st h => wpAny_pyIter_listiter st h
theorem turn_tuple {P : Program} {w : World} {K : PySem.W.Frag} {tg : Expr} (a it : Addr) : Turn P w K tg (Itt K a) [it] it (fun i h => h.IsTupleIter it a i) where
  mem := by simp
  obj := fun i h st b hb => by
    have e : b = it := by simpa using hb
    subst e
    obtain ⟨o, e, c, d⟩ := st
    exact ⟨o, e, fun v z => by rw [d] at z; cases z⟩
  keep := fun i h h' st k => st.at fun o e => k it (by simp) o e
  item := by
    intro X hP hw hK hc i pins s σ H E I hf st hg
    subst hP hw hK
    obtain ⟨xs, x, hq, hx⟩ := hg
    obtain ⟨its, rv, p, hz⟩ := I.tuple hq
    obtain ⟨u, hu, ru⟩ := rv.get hx
    obtain ⟨f0, f1, f2, f3, f4, f5⟩ := hf it (by simp)
    refine wpAny_pyNext_tuple_item st (show s.heap.IsTuple a its.toArray from p) (x := u) (by simpa using hu) fun h' st' sb => ?_
    have I1 : Inv X pins σ H { s with heap := h' } := I.turned (t' := s.toks) (fun b o hb e => (sb.2 b hb).trans e) f0 f1 f3 f4 f5
    obtain ⟨o, e, c, d⟩ := id st'
    exact ⟨u, rfl, go_of (s := { s with heap := h' }) e c d (by decide) ⟨x, H, I1, ru, ⟨rfl, fun ys hy => by rw [I.tuple_inj hy hq]; exact hx⟩, st', fun b hb => (hf b hb).1⟩⟩
  done := by
    intro X hP hw hK hc i pins s σ H E I hf st hg
    subst hP hw hK
    obtain ⟨xs, hq, hx⟩ := hg
    obtain ⟨its, rv, p, hz⟩ := I.tuple hq
    obtain ⟨f0, f1, f2, f3, f4, f5⟩ := hf it (by simp)
    have hl := rv.length
    exact wpAny_pyNext_tuple_end (I.ok.hd hc) st (show s.heap.IsTuple a its.toArray from p) (by simp; omega) fun h' eb => ⟨rfl, I.turned (t' := s.toks) (fun b o hb e => eb b o hb e) f0 f1 f3 f4 f5⟩
  self := fun _ _ _ _ _ st h => wpAny_pyIter_tupleiter st h
theorem turn_range {P : Program} {w : World} {K : PySem.W.Frag} {tg : Expr} (it : Addr) (lo : Int) (n : Nat) : Turn P w K tg (Itr lo n) [it] it (fun i h => IsRangeIter h it (lo + (i : Nat) * 1) ((n : Int) - (i : Nat)) 1) where
  mem := by simp
  obj := fun i h st b hb => by
    have e : b = it := by simpa using hb
    subst e
    exact ⟨_, st, fun v z => by
      have z' : Data.fields _ = Data.cell v := z
      cases z'⟩
  keep := fun i h h' st k => k it (by simp) _ st
  item := by
    intro X hP hw hK hc i pins s σ H E I hf st hg
    subst hP hw hK
    obtain ⟨f0, f1, f2, f3, f4, f5⟩ := hf it (by simp)
    have W := Walks.range (prog := X.prog) (w := X.w) (I.ok.hd hc) it lo 1 n
    refine W.item i s _ _ hg st fun v h' tk hv st' kk => ?_
    obtain ⟨t, rfl⟩ := hv
    have I1 : Inv X pins σ H { s with heap := h', toks := tk } := I.turned (fun b o hb e => kk b o (by simpa using hb) e) f0 f1 f3 f4 f5
    refine ⟨_, rfl, go_of (s := { s with heap := h', toks := tk }) (n := "range_iterator") st' rfl rfl (by decide) ⟨.int (lo + i), H, I1, ⟨t, ?_⟩, ⟨rfl, rfl⟩, st', fun b hb => (hf b hb).1⟩⟩
    rw [Int.mul_one]
  done := by
    intro X hP hw hK hc i pins s σ H E I hf st hg
    subst hP hw hK
    obtain ⟨f0, f1, f2, f3, f4, f5⟩ := hf it (by simp)
    exact wpAny_pyNext_range_end (I.ok.hd hc) st (by have : n ≤ i := hg; omega) fun h' eb => ⟨rfl, I.turned (t' := s.toks) (fun b o hb e => eb b o hb e) f0 f1 f3 f4 f5⟩
  self := fun _ _ _ _ _ st h => wpAny_pyIter_rangeiter st h
end L2

namespace L2
open PySem PySem.Spec PyProof.Rows
section
variable {X : Cx} {tg : Expr}
def iList (K : PySem.W.Frag) (tl : TE) : TI := fun σ H R => tl σ H fun x H1 => ∃ a, x = .ref a ∧ (∃ xs, SqL K H1 a xs) ∧ R (Itl K a) H1
def iTup (K : PySem.W.Frag) (tl : TE) : TI := fun σ H R => tl σ H fun x H1 => ∃ a, x = .ref a ∧ (∃ xs, SqT K H1 a xs) ∧ R (Itt K a) H1
theorem pi_list {l : Expr} {tl : TE} (hl : PE X l tl) : PI X tg l (iList X.K tl) := by
  intro pins s σ H R I h
  refine thn (hl pins s σ H _ I h) fun v s1 ⟨x, H1, I1, r1, q1⟩ => ?_
  obtain ⟨a, e, ⟨xs, hq⟩, q⟩ := q1
  subst e
  cases r1
  obtain ⟨its, rv, p, hz⟩ := I1.list hq
  refine wpAny_pyIter_list p.isList ?_
  refine ⟨s1.heap.objs.size, [s1.heap.objs.size], _, _, H1, rfl, I1.kept (t' := s1.toks) fun b o e => Heap.get?_push_of_some _ e, turn_list a _, ⟨_, Heap.get?_push_size _ rfl, rfl, rfl⟩, fun b hb => ?_, q⟩
  have e : b = s1.heap.objs.size := by simpa using hb
  subst e
  exact I1.fpOk (Nat.le_refl _) (I1.hok.fresh (Nat.le_refl _))
theorem pi_tup {l : Expr} {tl : TE} (hl : PE X l tl) : PI X tg l (iTup X.K tl) := by
  intro pins s σ H R I h
  refine thn (hl pins s σ H _ I h) fun v s1 ⟨x, H1, I1, r1, q1⟩ => ?_
  obtain ⟨a, e, ⟨xs, hq⟩, q⟩ := q1
  subst e
  cases r1
  obtain ⟨its, rv, p, hz⟩ := I1.tuple hq
  refine wpAny_pyIter_tuple (show s1.heap.IsTuple a its.toArray from p) ?_
  refine ⟨s1.heap.objs.size, [s1.heap.objs.size], _, _, H1, rfl, I1.kept (t' := s1.toks) fun b o e => Heap.get?_push_of_some _ e, turn_tuple a _, ⟨_, Heap.get?_push_size _ rfl, rfl, rfl⟩, fun b hb => ?_, q⟩
  have e : b = s1.heap.objs.size := by simpa using hb
  subst e
  exact I1.fpOk (Nat.le_refl _) (I1.hok.fresh (Nat.le_refl _))
/-- a range object just made, walked -/
theorem range_it {pins : List (Addr × Obj)} {σ : St} {H : Hp} {s : Shared} {R : It → Hp → Prop} {E : Value → Shared → Prop} {lo hi : Int} {t u v : Tok} {tk : Nat} (I : Inv X pins σ H s) (h1 : -(2 ^ 62) ≤ lo) (h2 : lo < 2 ^ 62) (h3 : -(2 ^ 62) ≤ hi) (h4 : hi < 2 ^ 62)
    (q : R (Itr lo (hi - lo).toNat) H) : wpAny (model X.prog X.w) X.A (pyIter (.ref s.heap.objs.size)) (PIE X pins σ tg R) E { s with heap := s.heap.push { cls := .type "range", data := .fields #[.int lo t, .int hi u, .int 1 v] }, toks := tk } := by
  refine wpAny_pyIter_range (IsRange.new ..) (small_one h1 h2 h3 h4) ?_
  have I1 : Inv X pins σ H { s with heap := s.heap.push { cls := .type "range", data := .fields #[.int lo t, .int hi u, .int 1 v] }, toks := tk } := I.kept fun b o e => Heap.get?_push_of_some _ e
  refine ⟨(s.heap.push { cls := .type "range", data := .fields #[.int lo t, .int hi u, .int 1 v] }).objs.size, [(s.heap.push { cls := .type "range", data := .fields #[.int lo t, .int hi u, .int 1 v] }).objs.size], _, _, H, rfl,
    I1.kept (t' := tk) fun b o e => Heap.get?_push_of_some _ e, turn_range _ lo (hi - lo).toNat, ?_, fun b hb => ?_, q⟩
  · have e1 : lo + ((0 : Nat) : Int) * 1 = lo := by simp
    have e2 : (((hi - lo).toNat : Nat) : Int) - ((0 : Nat) : Int) = Builtin.Range.rangeSize lo hi 1 := by rw [rangeSize_one]; split <;> omega
    show IsRangeIter _ _ (lo + ((0 : Nat) : Int) * 1) ((((hi - lo).toNat : Nat) : Int) - ((0 : Nat) : Int)) 1
    rw [e1, e2]
    exact Heap.get?_push_size _ rfl
  · have e : b = (s.heap.push { cls := .type "range", data := .fields #[.int lo t, .int hi u, .int 1 v] }).objs.size := by simpa using hb
    subst e
    exact I1.fpOk (Nat.le_refl _) (I1.hok.fresh (Nat.le_refl _))
def iRng1 (ta : TA) : TI := fun σ H R => ta σ H fun vs H1 => ∃ j : Int, vs = [.int j] ∧ -(2 ^ 62) ≤ j ∧ j < 2 ^ 62 ∧ R (Itr 0 j.toNat) H1
theorem pi_range1 {a : Expr} {ta : TA} {p pos : Pos} (hg : Gl X "range") (hm : X.mg "range" = none) (ha : PA X [a] ta) (hs : starEach [a] X.env = [(false, eval a X.env)] := by rfl) : PI X tg (.Call (.Name "range" p) [a] [] pos) (iRng1 ta) := by
  intro pins s σ H R I h
  refine Call_ (ld_blt I hg hm boot_range (PyProof.Rows.callWith_type1 (thn (ha pos pins s σ H _ I h) fun us s1 ⟨vs, H1, I1, r1, q1⟩ => ?_) hs rfl))
  obtain ⟨j, e, q1, q2, q⟩ := q1
  subst e
  cases r1 with
  | cons r rr =>
    cases rr
    obtain ⟨t, rfl⟩ := r
    exact call_range_1 (range_it I1 (by omega) (by omega) q1 q2 (by simpa using q))
/-! ### for -/
/-- W: the invariant by the turn and a measure; N: what the body is to reach -/
def tFor (wi : TI) (g : TG) (tb : TS) : TS := fun D σ H => wi σ H fun J H1 => ∃ W : Nat → Nat → St → Hp → Prop, (∃ m, W 0 m σ H1) ∧ ∀ i m σ H, W i m σ H →
  (J.stop i H ∧ D.nx σ H) ∨ (J.go i H ∧ ∃ N : St → Hp → Prop, (∀ σ' H', N σ' H' → ∃ m', m' < m ∧ W (i + 1) m' σ' H') ∧ ∀ x H', J.yld i H x H' → g x σ H' fun σ2 H2 => tb { D with nx := N, ct := N, bk := D.nx } σ2 H2)
/-- the records at fp as they stand -/
def pinsAt (fp : List Addr) (h : Heap) : List (Addr × Obj) := fp.filterMap fun b => (h.get? b).map fun o => (b, o)
theorem mem_pinsAt {fp : List Addr} {h : Heap} {b : Addr} {o : Obj} (hb : b ∈ fp) (e : h.get? b = some o) : (b, o) ∈ pinsAt fp h := List.mem_filterMap.mpr ⟨b, hb, by rw [e]; rfl⟩
theorem of_pinsAt {fp : List Addr} {h : Heap} {p : Addr × Obj} (hp : p ∈ pinsAt fp h) : p.1 ∈ fp ∧ h.get? p.1 = some p.2 := by
  obtain ⟨b, hb, e⟩ := List.mem_filterMap.mp hp
  cases q : h.get? b with
  | none => rw [q] at e; cases e
  | some o =>
    rw [q] at e
    have e' : (b, o) = p := Option.some.inj e
    subst e'
    exact ⟨hb, q⟩
theorem Inv.pinned {pins : List (Addr × Obj)} {σ : St} {H : Hp} {s : Shared} {fp : List Addr} (I : Inv X pins σ H s) (hf : ∀ b ∈ fp, FpOk X pins H b) (ho : ∀ b ∈ fp, ∃ o, s.heap.get? b = some o ∧ ∀ v, o.data ≠ .cell v) : Inv X (pins ++ pinsAt fp s.heap) σ H s :=
  I.pins_of fun p hp => (List.mem_append.mp hp).elim (fun z => I.pin p (List.mem_append_right _ z)) fun z => by
    obtain ⟨hb, e⟩ := of_pinsAt z
    obtain ⟨f0, f1, f2, _⟩ := hf p.1 hb
    obtain ⟨o, e', d⟩ := ho p.1 hb
    rw [e] at e'; cases e'
    exact ⟨e, f0, f1, f2, d⟩
theorem Inv.unpinned {pins pl : List (Addr × Obj)} {σ : St} {H : Hp} {s : Shared} (I : Inv X (pins ++ pl) σ H s) : Inv X pins σ H s := I.pins_of fun p hp => I.pin p (List.mem_append_right _ (List.mem_append_left _ hp))
theorem ps_for {iter : Expr} {body : List Stmt} {wi : TI} {g : TG} {tb : TS} {pos : Pos} (hp : PassesOwn (model X.prog X.w) X.A X.env X.xe) (hc : X.calm = true) (hi : PI X tg iter wi) (hg : PG X tg g) (hb : PSs X body tb)
    (hs : ∀ x, foldedSetIterable iter X.env x = pure x := by intro _; rfl) : PS X (.For tg iter body [] pos) (tFor wi g tb) := by
  intro pins s σ H D I h
  refine wpAny_For (thn (hi pins s σ H _ I h) fun v s1 h1 => thn h1 fun itv s2 h2 => ?_) hs
  obtain ⟨it, fp, tn, J, H2, e, I2, T, st2, f2, W, ⟨m0, w0⟩, turn⟩ := h2
  subst e
  -- what stays true of the iterator's objects through the loop
  have stat : ∀ {H' : Hp}, (∀ b ∈ fp, H' b = none) → ∀ b ∈ fp, FpOk X pins H' b := fun hn b hb => ⟨hn b hb, (f2 b hb).2⟩
  refine codeAny_forLoop_any (fun n s' => ∃ i σ' H', Inv X pins σ' H' s' ∧ tn i s'.heap ∧ (∀ b ∈ fp, H' b = none) ∧ W i n σ' H') ?_ m0 ⟨0, σ, H2, I2, st2, fun b hb => (f2 b hb).1, w0⟩
  rintro n s3 ⟨i, σ3, H3, I3, st3, fr3, w3⟩
  rcases turn i n σ3 H3 w3 with ⟨stop, qn⟩ | ⟨go, N, hN, step⟩
  · refine wpAny_passesOwn hp (thn (T.done X rfl rfl rfl hc i pins s3 σ3 H3 X.xe I3 (stat fr3) st3 stop) fun r s4 ⟨hr, I4⟩ => ?_)
    subst hr
    exact wpAny_execs_nil ⟨σ3, H3, I4, qn⟩
  · refine wpAny_passesOwn hp (thn (T.item X rfl rfl rfl hc i pins s3 σ3 H3 X.xe I3 (stat fr3) st3 go) fun r s4 ⟨u, hr, h4⟩ => ?_)
    subst hr
    refine wpAny_passesOwn hp (thn h4 fun _ s5 ⟨x, H5, I5, r5, y5, st5, fr5⟩ => ?_)
    have I5' := I5.pinned (stat fr5) (T.obj _ _ st5)
    refine wpAny_passesOwn hp (thn (hg _ s5 σ3 H5 x u _ I5' r5 (step x H5 y5)) fun _ s6 ⟨σ6, H6, I6, q6⟩ => ?_)
    refine wpAny_passesOwn hp (thn (hb _ s6 σ6 H6 _ I6 q6) fun f s7 q7 => ?_)
    have again : ∀ {σ7 : St} {H7 : Hp}, Inv X (pins ++ pinsAt fp s5.heap) σ7 H7 s7 → N σ7 H7 → ∃ m, m < n ∧ ∃ i σ' H', Inv X pins σ' H' s7 ∧ tn i s7.heap ∧ (∀ b ∈ fp, H' b = none) ∧ W i m σ' H' := fun {σ7 H7} I7 n7 => by
      obtain ⟨m', hm, w7⟩ := hN σ7 H7 n7
      refine ⟨m', hm, i + 1, σ7, H7, I7.unpinned, T.keep _ _ _ st5 fun b hb o e => (I7.pin (b, o) (List.mem_append_right _ (List.mem_append_right _ (mem_pinsAt hb e)))).1, fun b hb => ?_, w7⟩
      obtain ⟨o, e, d⟩ := T.obj _ _ st5 b hb
      exact (I7.pin (b, o) (List.mem_append_right _ (List.mem_append_right _ (mem_pinsAt hb e)))).2.1
    cases f with
    | next => obtain ⟨σ7, H7, I7, n7⟩ := q7; exact again I7 n7
    | cont => obtain ⟨σ7, H7, I7, n7⟩ := q7; exact again I7 n7
    | brk => obtain ⟨σ7, H7, I7, q7⟩ := q7; exact ⟨σ7, H7, I7.unpinned, q7⟩
    | ret v => obtain ⟨x7, σ7, H7, I7, r7, q7⟩ := q7; exact ⟨x7, σ7, H7, I7.unpinned, r7, q7⟩
end

/-! ### the forms one uses -/
end L2

namespace L2
open PySem PySem.Spec PyProof.Rows

abbrev R2 := V → V → Hp → VK → Prop
/-- a two-place operation on values: f is binaryOp op, inplaceOp op or compareOp op -/
def OpR (X : Cx) (f : Value → Value → Sem Value) (r : R2) : Prop :=
  ∀ (pins : List (Addr × Obj)) (s : Shared) (σ : St) (H : Hp) (x y : V) (v u : Value) (Q : VK), Inv X pins σ H s → RelV x v → RelV y u → r x y H Q →
    wpAny (model X.prog X.w) X.A (f v u) (EP X pins σ Q) X.xe s
/-- a one-place operation -/
def UnR (X : Cx) (f : Value → Sem Value) (r : V → Hp → VK → Prop) : Prop :=
  ∀ (pins : List (Addr × Obj)) (s : Shared) (σ : St) (H : Hp) (x : V) (v : Value) (Q : VK), Inv X pins σ H s → RelV x v → r x H Q →
    wpAny (model X.prog X.w) X.A (f v) (EP X pins σ Q) X.xe s
/-- a call of a value that is known (a builtin, a type) with values -/
def CallR (X : Cx) (f : Value) (r : List V → Hp → VK → Prop) : Prop :=
  ∀ (pins : List (Addr × Obj)) (s : Shared) (σ : St) (H : Hp) (xs : List V) (us : List Value) (Q : VK), Inv X pins σ H s → Vals xs us → r xs H Q →
    wpAny (model X.prog X.w) X.A (call f us) (EP X pins σ Q) X.xe s
def tOp (r : R2) (ta tb : TE) : TE := fun σ H Q => ta σ H fun x H1 => tb σ H1 fun y H2 => r x y H2 Q
def tUn (r : V → Hp → VK → Prop) (ta : TE) : TE := fun σ H Q => ta σ H fun x H1 => r x H1 Q
/-- ints in, under C, and a value out -/
def rI (C : Int → Int → Prop) (g : Int → Int → V) : R2 := fun x y H Q => ∃ i j, x = .int i ∧ y = .int j ∧ C i j ∧ Q (g i j) H
def rI0 (g : Int → Int → V) : R2 := fun x y H Q => ∃ i j, x = .int i ∧ y = .int j ∧ Q (g i j) H
def rU (g : Int → V) : V → Hp → VK → Prop := fun x H Q => ∃ i, x = .int i ∧ Q (g i) H

section
variable {X : Cx} {a b c : Expr} {ta tb tc : TE} {pos : Pos}

theorem binT (ha : PE X a ta) (hb : PE X b tb) {pins : List (Addr × Obj)} {s : Shared} {σ : St} {H : Hp} {R : V → V → Hp → Prop} (I : Inv X pins σ H s)
    (h : ta σ H fun x H1 => tb σ H1 fun y H2 => R x y H2) {Q : Value → Shared → Prop} {f : Value → Value → Sem Value}
    (hf : ∀ v u s2 x y H2, Inv X pins σ H2 s2 → RelV x v → RelV y u → R x y H2 → wpAny (model X.prog X.w) X.A (f v u) Q X.xe s2) :
    wpAny (model X.prog X.w) X.A (eval a X.env) (fun v s₁ => wpAny (model X.prog X.w) X.A (eval b X.env) (fun u s₂ => wpAny (model X.prog X.w) X.A (f v u) Q X.xe s₂) X.xe s₁) X.xe s := by
  refine thn (ha pins s σ H _ I h) fun v s1 ⟨x, H1, I1, r1, q1⟩ => ?_
  refine thn (hb pins s1 σ H1 _ I1 q1) fun u s2 ⟨y, H2, I2, r2, q2⟩ => ?_
  exact hf v u s2 x y H2 I2 r1 r2 q2

theorem pe_op {op : Operator} {r : R2} (ho : OpR X (binaryOp op) r) (ha : PE X a ta) (hb : PE X b tb) : PE X (.BinOp a op b pos) (tOp r ta tb) := by
  intro pins s σ H Q I h
  exact wpAny_BinOp (binT ha hb I h fun v u s2 x y H2 I2 rx ry q => ho pins s2 σ H2 x y v u Q I2 rx ry q)
theorem pe_un {op : UnaryOp} {r : V → Hp → VK → Prop} (ho : UnR X (unaryOp op) r) (ha : PE X a ta) : PE X (.UnaryOp op a pos) (tUn r ta) := by
  intro pins s σ H Q I h
  exact UnaryOp_ (thn (ha pins s σ H _ I h) fun v s1 ⟨x, H1, I1, r1, q1⟩ => ho pins s1 σ H1 x v Q I1 r1 q1)
/-! ### ints -/
theorem opI {f : Value → Value → Sem Value} {C : Int → Int → Prop} {g : Int → Int → Int}
    (rule : ∀ (i j : Int) (t u : Tok) (s : Shared) (Q : Value → Shared → Prop) (E : Value → Shared → Prop), C i j → Q (.int (g i j) s.toks) { s with toks := s.toks + 1 } → wpAny (model X.prog X.w) X.A (f (.int i t) (.int j u)) Q E s) :
    OpR X f (rI C fun i j => .int (g i j)) := by
  intro pins s σ H x y v u Q I rx ry h
  obtain ⟨i, j, rfl, rfl, hc, q⟩ := h
  obtain ⟨t, rfl⟩ := rx
  obtain ⟨t', rfl⟩ := ry
  exact rule i j t t' s _ _ hc ⟨.int (g i j), H, I.tok _, ⟨_, rfl⟩, q⟩
theorem opI0 {f : Value → Value → Sem Value} {g : Int → Int → Int}
    (rule : ∀ (i j : Int) (t u : Tok) (s : Shared) (Q : Value → Shared → Prop) (E : Value → Shared → Prop), Q (.int (g i j) s.toks) { s with toks := s.toks + 1 } → wpAny (model X.prog X.w) X.A (f (.int i t) (.int j u)) Q E s) :
    OpR X f (rI0 fun i j => .int (g i j)) := by
  intro pins s σ H x y v u Q I rx ry h
  obtain ⟨i, j, rfl, rfl, q⟩ := h
  obtain ⟨t, rfl⟩ := rx
  obtain ⟨t', rfl⟩ := ry
  exact rule i j t t' s _ _ ⟨.int (g i j), H, I.tok _, ⟨_, rfl⟩, q⟩
theorem opB0 {f : Value → Value → Sem Value} {g : Int → Int → Bool}
    (rule : ∀ (i j : Int) (t u : Tok) (s : Shared) (Q : Value → Shared → Prop) (E : Value → Shared → Prop), Q (.bool (g i j)) s → wpAny (model X.prog X.w) X.A (f (.int i t) (.int j u)) Q E s) :
    OpR X f (rI0 fun i j => .bl (g i j)) := by
  intro pins s σ H x y v u Q I rx ry h
  obtain ⟨i, j, rfl, rfl, q⟩ := h
  obtain ⟨t, rfl⟩ := rx
  obtain ⟨t', rfl⟩ := ry
  exact rule i j t t' s _ _ ⟨.bl (g i j), H, I, rfl, q⟩

def CDiv (i j : Int) : Prop := 0 < j ∧ j < 1073741824
def CPow (i j : Int) : Prop := 0 ≤ j ∧ j ≤ 1000000 ∧ i.natAbs < 2 ^ 64
def CMul (i j : Int) : Prop := (-(2 ^ 64) < i ∧ i < 2 ^ 64) ∨ (-(2 ^ 64) < j ∧ j < 2 ^ 64)
theorem CMul.ok {i j : Int} (h : CMul i j) : IntMulOk i j := by
  rcases h with ⟨h1, h2⟩ | ⟨h1, h2⟩
  · exact .of_left (intBits_le_64 h1 h2)
  · exact .of_right (intBits_le_64 h1 h2)
theorem op_add : OpR X (binaryOp .Add) (rI0 fun i j => .int (i + j)) := opI0 fun _ _ _ _ _ _ _ q => add_int q
theorem op_sub : OpR X (binaryOp .Sub) (rI0 fun i j => .int (i - j)) := opI0 fun _ _ _ _ _ _ _ q => sub_int q
theorem op_mul : OpR X (binaryOp .Mult) (rI CMul fun i j => .int (i * j)) := opI fun _ _ _ _ _ _ _ hc q => mul_int q hc.ok
/-- // by a positive divisor -/
theorem op_fdiv : OpR X (binaryOp .FloorDiv) (rI CDiv fun i j => .int (i / j)) := opI fun i j _ _ _ _ _ hc q => by
  have h1 : (0 : Int) < j := hc.1
  have h2 : j < 1073741824 := hc.2
  exact floordiv_int (by omega) (by rw [Int.fdiv_eq_ediv_of_nonneg i (by omega)]; exact q) (.inl (PyProof.noPylong_small (by omega)))
/-- % by a positive divisor of any size -/
theorem op_mod : OpR X (binaryOp .Mod) (rI (fun _ j => 0 < j) fun i j => .int (i % j)) := opI fun i j _ _ _ _ _ hc q => by
  have h1 : (0 : Int) < j := hc
  exact mod_int' (by omega) (by rw [Int.fmod_eq_emod_of_nonneg i (by omega)]; exact q)
theorem op_pow : OpR X (binaryOp .Pow) (rI CPow fun i j => .int (i ^ j.toNat)) := opI fun _ _ _ _ _ _ _ hc q => pow_int_small hc.1 hc.2.1 hc.2.2 q
theorem unI {f : Value → Sem Value} {g : Int → Int}
    (rule : ∀ (i : Int) (t : Tok) (s : Shared) (Q : Value → Shared → Prop) (E : Value → Shared → Prop), Q (.int (g i) s.toks) { s with toks := s.toks + 1 } → wpAny (model X.prog X.w) X.A (f (.int i t)) Q E s) :
    UnR X f (rU fun i => .int (g i)) := by
  intro pins s σ H x v Q I rx h
  obtain ⟨i, rfl, q⟩ := h
  obtain ⟨t, rfl⟩ := rx
  exact rule i t s _ _ ⟨.int (g i), H, I.tok _, ⟨_, rfl⟩, q⟩
theorem un_neg : UnR X (unaryOp .USub) (rU fun i => .int (-i)) := unI fun _ _ _ _ _ q => neg_int q
/-! ### bools among ints: n += (a < b) -/
end

/-! ### comparisons -/
/-- the scalars that == tells apart as data does -/
def scal : V → V → Bool
  | .non, .non => true | .non, .int _ => true | .int _, .non => true | .non, .bl _ => true | .bl _, .non => true | .non, .str _ => true | .str _, .non => true
  | .int _, .int _ => true | .bl _, .bl _ => true | .str _, .str _ => true | .byt _, .byt _ => true
  | .int _, .str _ => true | .str _, .int _ => true | .bl _, .str _ => true | .str _, .bl _ => true
  | _, _ => false
def rEq : R2 := fun x y H Q => scal x y = true ∧ Q (.bl (decide (x = y))) H
theorem dec_int {i j : Int} : decide (V.int i = V.int j) = (i == j) := by
  rw [Bool.eq_iff_iff]
  simp
theorem dec_bl {i j : Bool} : decide (V.bl i = V.bl j) = (i == j) := by
  rw [Bool.eq_iff_iff]
  simp
theorem dec_str {i j : Str} : decide (V.str i = V.str j) = (i == j) := by
  rw [Bool.eq_iff_iff]
  simp
theorem dec_byt {i j : Array UInt8} : decide (V.byt i = V.byt j) = (i.toList == j.toList) := by
  rw [Bool.eq_iff_iff]
  cases i
  cases j
  simp

section
variable {X : Cx} {a b c : Expr} {ta tb tc : TE} {pos : Pos}
theorem fin_bl {pins : List (Addr × Obj)} {σ : St} {H : Hp} {s : Shared} {Q : VK} {k k' : Bool} (I : Inv X pins σ H s) (q : Q (.bl k) H) (e : k = k') : EP X pins σ Q (.bool k') s := by
  subst e
  exact ⟨.bl k, H, I, rfl, q⟩
theorem op_eq : OpR X (compareOp .Eq) rEq := by
  intro pins s σ H x y v u Q I rx ry h
  obtain ⟨hs, q⟩ := h
  cases x with
  | non =>
    cases rx
    cases y with
    | non => cases ry; exact PySem.EqNone.eq_none_none (fin_bl I q (by simp))
    | bl j => cases ry; exact PySem.EqNone.eq_none_bool (fin_bl I q (by simp))
    | int j => obtain ⟨t', rfl⟩ := ry; exact PySem.EqNone.eq_none_int (fin_bl I q (by simp))
    | str j => obtain ⟨t', rfl⟩ := ry; exact PySem.EqNone.eq_none_str (fin_bl I q (by simp))
    | _ => exact absurd (show false = true from hs) Bool.false_ne_true
  | bl i =>
    cases rx
    cases y with
    | non => cases ry; exact PySem.EqNone.eq_bool_none (fin_bl I q (by simp))
    | bl j => cases ry; exact eq_bool (fin_bl I q dec_bl)
    | str j => obtain ⟨t', rfl⟩ := ry; exact PySem.EqMixed.eq_bool_str (fin_bl I q (by simp))
    | _ => exact absurd (show false = true from hs) Bool.false_ne_true
  | int i =>
    obtain ⟨t, rfl⟩ := rx
    cases y with
    | non => cases ry; exact PySem.EqNone.eq_int_none (fin_bl I q (by simp))
    | int j => obtain ⟨t', rfl⟩ := ry; exact eq_int (fin_bl I q dec_int)
    | str j => obtain ⟨t', rfl⟩ := ry; exact PySem.EqMixed.eq_int_str (fin_bl I q (by simp))
    | _ => exact absurd (show false = true from hs) Bool.false_ne_true
  | str i =>
    obtain ⟨t, rfl⟩ := rx
    cases y with
    | non => cases ry; exact PySem.EqNone.eq_str_none (fin_bl I q (by simp))
    | bl j => cases ry; exact PySem.EqMixed.eq_str_bool (fin_bl I q (by simp))
    | int j => obtain ⟨t', rfl⟩ := ry; exact PySem.EqMixed.eq_str_int (fin_bl I q (by simp))
    | str j => obtain ⟨t', rfl⟩ := ry; exact eq_str (fin_bl I q dec_str)
    | _ => exact absurd (show false = true from hs) Bool.false_ne_true
  | byt i =>
    obtain ⟨t, rfl⟩ := rx
    cases y with
    | byt j => obtain ⟨t', rfl⟩ := ry; exact PySem.W.eq_bytes (fin_bl I q dec_byt)
    | _ => exact absurd (show false = true from hs) Bool.false_ne_true
  | _ => cases y <;> exact absurd (show false = true from hs) Bool.false_ne_true
theorem op_lt : OpR X (compareOp .Lt) (rI0 fun i j => .bl (decide (i < j))) := opB0 fun _ _ _ _ _ _ _ q => lt_int q
theorem op_le : OpR X (compareOp .LtE) (rI0 fun i j => .bl (decide (i ≤ j))) := opB0 fun _ _ _ _ _ _ _ q => le_int q
theorem op_gt : OpR X (compareOp .Gt) (rI0 fun i j => .bl (decide (j < i))) := opB0 fun _ _ _ _ _ _ _ q => gt_int q
theorem op_ge : OpR X (compareOp .GtE) (rI0 fun i j => .bl (decide (j ≤ i))) := opB0 fun _ _ _ _ _ _ _ q => ge_int q
/-- the one string within the other -/
theorem op_in_str : OpR X (compareOp .In) (fun x y H Q => ∃ i j, x = .str i ∧ y = .str j ∧ Q (.bl (!(Builtin.Str.occurrences j i 0 j.length 1).isEmpty)) H) := by
  intro pins s σ H x y v u Q I rx ry h
  obtain ⟨i, j, rfl, rfl, q⟩ := h
  obtain ⟨t, rfl⟩ := rx
  obtain ⟨t', rfl⟩ := ry
  exact in_str (fin_bl I q rfl)

/-- is None, is not None: the right side a value none -/
theorem op_isN : OpR X (compareOp .Is) (fun x y H Q => y = .non ∧ Q (.bl (decide (x = .non))) H) := by
  intro pins s σ H x y v u Q I rx ry h
  obtain ⟨rfl, q⟩ := h
  cases ry
  refine is_none_gen (fin_bl I q ?_)
  cases x <;> first
    | (cases rx; rfl)
    | (obtain ⟨t, rfl⟩ := rx; rfl)
/-- two rules for one operation: by cases -/
theorem OpR.or {f : Value → Value → Sem Value} {r r' : R2} (h : OpR X f r) (h' : OpR X f r') : OpR X f (fun x y H Q => r x y H Q ∨ r' x y H Q) := by
  intro pins s σ H x y v u Q I rx ry q
  rcases q with q | q
  · exact h pins s σ H x y v u Q I rx ry q
  · exact h' pins s σ H x y v u Q I rx ry q

theorem nomark (b : Expr) {op : CmpOp} (h : op ≠ .In := by decide) (h2 : op ≠ .NotIn := by decide) : behindInMarks op b = false := by
  have e1 : (op == CmpOp.In) = false := by cases op <;> first | rfl | exact absurd rfl h
  have e2 : (op == CmpOp.NotIn) = false := by cases op <;> first | rfl | exact absurd rfl h2
  cases b <;> simp [behindInMarks, e1, e2]
/-- a comparison as a value; hm: nomark b, or (for in, not in) by with_unfolding_all rfl -/
theorem pe_cmpR {op : CmpOp} {r : R2} (ho : OpR X (compareOp op) r) (ha : PE X a ta) (hb : PE X b tb) (hm : behindInMarks op b = false) : PE X (.Compare a [op] [b] pos) (tOp r ta tb) := by
  intro pins s σ H Q I h
  exact wpAny_Compare1 (binT ha hb I h fun v u s2 x y H2 I2 rx ry q => ho pins s2 σ H2 x y v u Q I2 rx ry q) hm
/-- a reading of a value as a test -/
def tTest (t : TE) : TT := fun σ H Q => t σ H fun x H' => ∃ k, x = .bl k ∧ Q k H'
theorem pt_cmpR {op : CmpOp} {r : R2} (ho : OpR X (compareOp op) r) (ha : PE X a ta) (hb : PE X b tb) (hm : behindInMarks op b = false) : PT X (.Compare a [op] [b] pos) (tTest (tOp r ta tb)) := by
  intro pins s σ H Q I h
  refine wpAny_isTrue_Compare1 (thn (ha pins s σ H _ I h) fun v s1 ⟨x, H1, I1, r1, q1⟩ => thn (hb pins s1 σ H1 _ I1 q1) fun u s2 ⟨y, H2, I2, r2, q2⟩ =>
    thn (ho pins s2 σ H2 x y v u _ I2 r1 r2 q2) fun c s3 ⟨z, H3, I3, r3, k, e, q3⟩ => ?_) hm
  subst e
  cases r3
  exact wpAny_truthy_bool ⟨H3, I3, q3⟩
/-! ### truth -/
theorem line63 : (sizeLine : Nat) < 2 ^ 63 := by rw [sizeLine_eq]; decide
/-! ### strs and bytes -/
theorem op_add_str : OpR X (binaryOp .Add) (fun x y H Q => ∃ i j, x = .str i ∧ y = .str j ∧ i.length + j.length ≤ sizeLine ∧ Q (.str (i ++ j)) H) := by
  intro pins s σ H x y v u Q I rx ry h
  obtain ⟨i, j, rfl, rfl, hz, q⟩ := h
  obtain ⟨t, rfl⟩ := rx
  obtain ⟨t', rfl⟩ := ry
  exact add_str (fun t' tk => ⟨.str (i ++ j), H, I.tok _, ⟨_, rfl⟩, q⟩) hz
/-! ### scalar builtins, by CallR -/
theorem vals1 {x : V} {us : List Value} (r : Vals [x] us) : ∃ u, us = [u] ∧ RelV x u := by
  cases r with
  | cons r1 r2 => cases r2; exact ⟨_, rfl, r1⟩
theorem call_int1 : CallR X (.type "int") (fun xs H Q => (∃ i, xs = [.int i] ∧ Q (.int i) H) ∨ ∃ k, xs = [.bl k] ∧ Q (.int (if k then 1 else 0)) H) := by
  intro pins s σ H xs us Q I r h
  rcases h with ⟨i, rfl, q⟩ | ⟨k, rfl, q⟩
  · obtain ⟨u, rfl, t, rfl⟩ := vals1 r
    exact call_int_int ⟨.int i, H, I, ⟨_, rfl⟩, q⟩
  · obtain ⟨u, rfl, r1⟩ := vals1 r
    cases r1
    exact call_int_bool ⟨.int (if k then 1 else 0), H, I.tok _, ⟨_, rfl⟩, q⟩
theorem call_str_int : CallR X (.type "str") (fun xs H Q => ∃ i, xs = [.int i] ∧ i.natAbs.log2 < 1920 ∧ Q (.str (toString i)) H) := by
  intro pins s σ H xs us Q I r h
  obtain ⟨i, rfl, hz, q⟩ := h
  obtain ⟨u, rfl, t, rfl⟩ := vals1 r
  exact PySem.P.str_of_int hz ⟨.str _, H, I.tok _, ⟨_, rfl⟩, q⟩
end
end L2

namespace L2
open PySem PySem.Spec PyProof.Rows

/-! ### an instance, its attributes a map -/
structure ObjM (h : Heap) (x dx C : Addr) (mA : Str → Option Value) : Prop where
  obj : h.get? x = some (PySem.W.instObj C dx)
  ns : h.Ns1 dx mA
  ne : dx ≠ x

section
variable {prog : Program} {w : World} {A : Around} {E : Value → Shared → Prop} {s : Shared} {K : PySem.W.Frag} {x dx C f : Addr} {mA : Str → Option Value} {name : Str} {v : Value}

end

/-! ### the attributes as a list of pairs -/
section
variable {P : Program} {w : World} {H H' : Hp} {h h' : Heap} {a C dx : Addr} {fs fs' : List (Str × V)}
end

/-! ### what of the text a class must have -/
structure Cls (K : PySem.W.Frag) (C : Addr) : Prop where
  pg : PySem.W.plainGet K C Str.empty = true
  hd : PySem.W.hasDictIn K C = true
  po : PySem.W.plainOver K C = true
  sa : PySem.W.findIn K (.ref C) "__setattr__" = some (some (.builtin "object.__setattr__"))
theorem Cls.get {K : PySem.W.Frag} {C : Addr} (c : Cls K C) (f : Str) : PySem.W.plainGet K C f = true := c.pg
/-- a constant of the class -/
structure Con (K : PySem.W.Frag) (C : Addr) (f : Str) (v : V) (u : Value) : Prop where
  at_ : PySem.W.findIn K (.ref C) f = some (some u)
  rel : RelV v u
  get : PySem.W.specialIn K u "__get__" = some none
  cp : PySem.W.copiedNames.contains f = false
/-- a method: a plain def of the class or of one above it -/
structure Meth (K : PySem.W.Frag) (C : Addr) (m : Str) (f : Addr) : Prop where
  at_ : PySem.W.findIn K (.ref C) m = some (some (.ref f))
  fn : PySem.W.isFn K (.ref f) = true
  kp : PySem.W.keepIn K (.ref f) = true

section
variable {X : Cx} {pins : List (Addr × Obj)} {σ : St} {H : Hp} {s : Shared} {a C dx : Addr} {fs : List (Str × V)} {f : Str} {v : V} {A : Around} {E : Value → Shared → Prop}

/-- a new instance, tracked, without attributes -/
theorem Inv.made (I : Inv X pins σ H s) : Inv X pins σ (upd (upd H s.heap.objs.size (.own (s.heap.objs.size + 1))) (s.heap.objs.size + 1) (.ins C s.heap.objs.size []))
    { s with heap := (s.heap.push PySem.W.emptyDict).push (PySem.W.instObj C s.heap.objs.size) } := by
  have e1 : (s.heap.push PySem.W.emptyDict).get? s.heap.objs.size = some PySem.W.emptyDict := Heap.get?_push_size s.heap rfl
  have e2 : ((s.heap.push PySem.W.emptyDict).push (PySem.W.instObj C s.heap.objs.size)).get? (s.heap.objs.size + 1) = some (PySem.W.instObj C s.heap.objs.size) := by
    have := Heap.get?_push_size (s.heap.push PySem.W.emptyDict) (o := PySem.W.instObj C s.heap.objs.size) rfl
    rwa [Heap.size_push] at this
  have e3 : (s.heap.push PySem.W.emptyDict).Ns s.heap.objs.size (fun _ => none) := ⟨PySem.W.emptyDict, #[], _, e1, rfl, (fun e he => absurd he (by simp)), fun _ => rfl⟩
  have I1 := I.laid (a := s.heap.objs.size) (o := .own (s.heap.objs.size + 1)) (h' := s.heap.push PySem.W.emptyDict) (t' := s.toks) (fun b u q => Heap.get?_push_of_some _ q) (Nat.le_refl _) ⟨_, e1⟩
  refine I1.laid (a := s.heap.objs.size + 1) (o := .ins C s.heap.objs.size []) (t' := s.toks) (fun b u q => Heap.get?_push_of_some _ q) (Nat.le_of_eq (Heap.size_push _ _)) ?_
  have ne : s.heap.objs.size ≠ s.heap.objs.size + 1 := Nat.ne_of_lt (Nat.lt_succ_self _)
  refine ⟨by rw [upd_ne ne, upd_same], Nat.zero_le _, ne, e2, fun _ => none, (Heap.Ns1.of_empty e3).at fun o q => Heap.get?_push_of_some _ q, fun _ => True.intro, fun y hy => absurd rfl hy⟩

end

/-! ### readings and rules -/
section
variable {X : Cx} {o e value : Expr} {f : Str} {pos pos' tpos : Pos} {ta tv : TE}
end

/-! ### isinstance -/
section
variable {X : Cx} {pins : List (Addr × Obj)} {σ : St} {H : Hp} {s : Shared} {A : Around} {E : Value → Shared → Prop} {Q : Value → Shared → Prop} {c : Value} {b : Bool}
/-- the type of a value, as the fragment's deciders take it; for an instance its class -/
inductive TyOf (K : PySem.W.Frag) (H : Hp) : V → Value → Prop where
  | non : TyOf K H .non (.type "NoneType")
  | bl (x : Bool) : TyOf K H (.bl x) (.type "bool")
  | int (i : Int) : TyOf K H (.int i) (.type "int")
  | str (x : Str) : TyOf K H (.str x) (.type "str")
  | flt (x : UInt64) : TyOf K H (.flt x) (.type "float")
  | lst {a : Addr} {xs : List V} (e : H a = some (.lst xs)) : TyOf K H (.ref a) (.type "list")
  | frz {a : Addr} {o : Obj} {xs : List V} (e : H a = some (.frz o (.lst xs))) : TyOf K H (.ref a) (.type "list")
  | tup {a : Addr} {xs : List V} (e : H a = some (.tup xs)) : TyOf K H (.ref a) (.type "tuple")
  | dK {a : Addr} {kvs : List (Key × V)} (e : H a = some (.dK kvs)) : TyOf K H (.ref a) (.type "dict")
  | dT {a : Addr} {kvs : List (List Key × V)} (e : H a = some (.dT kvs)) : TyOf K H (.ref a) (.type "dict")
  | ins {a C dx : Addr} {fs : List (Str × V)} (e : H a = some (.ins C dx fs)) (cl : Cls K C) (ha : PySem.W.findIn K (.ref C) "__class__" = some (some (.builtin "object.__class__")))
      (hn : PySem.W.specialIn K (.builtin "object.__class__") "__get__" = some (some (.builtin "getset_descriptor.__get__"))) (htk : PySem.W.takesIn K (.builtin "object.__class__") = some true)
      (hm : PySem.W.mroIn K C (.type "object") = some true) : TyOf K H (.ref a) (.ref C)
end
end L2

namespace L2
open PySem PySem.Spec PyProof.Rows

/-! ### room -/
structure Room (k : Nat) (A : Around) : Prop where
  hd : A.handled = none
  dp : A.depth + 3 * k + 5 < recursionLimit
  un : A.units + 16 * k + 200 < cLine
theorem Room.mono {j k : Nat} {A : Around} (r : Room k A) (h : j ≤ k) : Room j A := ⟨r.hd, by have := r.dp; omega, by have := r.un; omega⟩
theorem Room.deeper {k : Nat} {A : Around} (r : Room (k + 1) A) (env : Env) : Room k (A.deeper env) :=
  ⟨r.hd, by have := r.dp; show A.depth + 1 + 3 * k + 5 < _; omega, by have := r.un; show A.units + 3 + 16 * k + 200 < _; omega⟩
theorem Room.in1 {k : Nat} {A : Around} (r : Room (k + 1) A) : Room k A.in1 :=
  ⟨r.hd, by have := r.dp; show A.depth + 3 * k + 5 < _; omega, by have := r.un; show A.units + 1 + 16 * k + 200 < _; omega⟩
theorem Room.depth {k : Nat} {A : Around} (r : Room k A) : A.depth < recursionLimit := by have := r.dp; omega
theorem Room.units {k : Nat} {A : Around} (r : Room k A) : A.units + 64 < cLine := by have := r.un; omega
/-! ### argument lists and displays -/
def tNil : TA := fun _ H Q => Q [] H
def tCons (ta : TE) (tr : TA) : TA := fun σ H Q => ta σ H fun x H1 => tr σ H1 fun xs H2 => Q (x :: xs) H2
section
variable {X : Cx} {e : Expr} {es : List Expr} {te : TE} {t : TA} {pos : Pos}
theorem pa_nil : PA X [] tNil := fun _ _ _ _ H Q I h => Calls.spliced_nil ⟨[], H, I, .nil, h⟩
theorem pa_cons (ha : PE X e te) (hr : PA X es t) (hs : starEach (e :: es) X.env = (false, eval e X.env) :: starEach es X.env := by rfl) : PA X (e :: es) (tCons te t) := by
  intro pos pins s σ H Q I h
  rw [hs]
  show wpAny _ _ (spliced ((false, eval e X.env) :: backTo pos (starEach es X.env))) _ _ s
  refine Calls.spliced_cons (thn (ha pins s σ H _ I h) fun u s1 ⟨x, H1, I1, r1, q1⟩ => ?_)
  exact thn (hr pos pins s1 σ H1 _ I1 q1) fun us s2 ⟨xs, H2, I2, r2, q2⟩ => ⟨x :: xs, H2, I2, .cons r1 r2, q2⟩

/-- a tuple, a list of written items -/
def tTup (t : TA) : TE := fun σ H Q => t σ H fun xs H1 => xs.length ≤ sizeLine ∧ ∀ p, H1 p = none → Q (.ref p) (upd H1 p (.tup xs))
def tLst (t : TA) : TE := fun σ H Q => t σ H fun xs H1 => xs.length ≤ sizeLine ∧ ∀ p, H1 p = none → Q (.ref p) (upd H1 p (.lst xs))
theorem pe_tup {x1} (h : PA X es t) : PE X (.Tuple es x1 pos) (tTup t) := by
  intro pins s σ H Q I hq
  refine wpAny_Tuple_spliced (thn (h pos pins s σ H _ I hq) fun us s1 ⟨xs, H1, I1, r, z, q⟩ => ⟨by rw [← r.length]; exact z, ?_⟩)
  have hf : H1 s1.heap.objs.size = none := I1.hok.fresh (Nat.le_refl _)
  refine ⟨.ref s1.heap.objs.size, upd H1 s1.heap.objs.size (.tup xs), I1.laid (t' := s1.toks) (fun b u e => Heap.get?_push_of_some _ e) (Nat.le_refl _) ?_, rfl, q _ hf⟩
  exact ⟨z, us, r, ⟨_, Heap.get?_push_size _ rfl, rfl, _, rfl⟩⟩
theorem pe_lst (h : PA X es t) : PE X (.List es pos) (tLst t) := by
  intro pins s σ H Q I hq
  refine wpAny_List_spliced (thn (h pos pins s σ H _ I hq) fun us s1 ⟨xs, H1, I1, r, z, q⟩ => ⟨by rw [← r.length]; exact z, ?_⟩)
  have hf : H1 s1.heap.objs.size = none := I1.hok.fresh (Nat.le_refl _)
  refine ⟨.ref s1.heap.objs.size, upd H1 s1.heap.objs.size (.lst xs), I1.laid (t' := s1.toks) (fun b u e => Heap.get?_push_of_some _ e) (Nat.le_refl _) ?_, rfl, q _ hf⟩
  exact ⟨z, us, 0, r, Heap.get?_push_size _ rfl⟩
end

/-! ### what a def promises -/
/-- a def's promise: the bound arguments in the parameters' order, the heap, the wanted end, the wanted exception -/
abbrev Sp := List V → Hp → VK → XK → Prop
/-- how an exception lies behind a call (file 08 gives it): the callers' frames, abstract heap and state ahead of the call, the wish, the exception, the state -/
abbrev CXT := List Env → Hp → Shared → XK → Value → Shared → Prop

/-- the state at a call -/
structure Env0 (P : Program) (w : World) (K : PySem.W.Frag) (mg : Str → Option Value) (base : Heap) (A : Around) (outer : List Env) (s : Shared) (H : Hp) : Prop where
  frames : A.frames = some outer
  mod : Mod K mg base
  bs : ∀ b o, base.get? b = some o → s.heap.get? b = some o ∧ H b = none
  bsz : base.objs.size ≤ s.heap.objs.size
  funs : s.heap.FunFrames base outer
  frf : ∀ b ∈ frs outer, H b = none
  hok : HOk P w H s.heap
  bare : AllBare s.gens
/-- a call's end -/
def CE (outer : List Env) (P : Program) (w : World) (H : Hp) (s : Shared) (Q : VK) (u : Value) (s' : Shared) : Prop :=
  ∃ v H', s'.os = s.os ∧ AllBare s'.gens ∧ Un (frs outer) [] H H' s.heap s'.heap ∧ HOk P w H' s'.heap ∧ RelV v u ∧ Q v H'
def CR (CX : CXT) (outer : List Env) (P : Program) (w : World) (H : Hp) (s : Shared) (Q : VK) (E : XK) (r : Result) (s' : Shared) : Prop :=
  match r with
  | .ok (.ret u) => CE outer P w H s Q u s'
  | .ok _ => False
  | .error e => CX outer H s E e s'
structure FnOk (P : Program) (w : World) (K : PySem.W.Frag) (mg : Str → Option Value) (base : Heap) (CX : CXT) (k : Nat) (f : Addr) (fd : FuncData) (ps : List Str) (sp : Sp) : Prop where
  len : ∀ vs H Q E, sp vs H Q E → vs.length = ps.length
  run : ∀ (A : Around) (outer : List Env) (s : Shared) (H : Hp) (args : Args) (us : List Value) (vs : List V) (Q : VK) (E : XK), Room k A → Env0 P w K mg base A outer s H → BindsTo s fd args (ps.zip us) → Vals vs us → sp vs H Q E →
    codeAny (model P w) A (.call (.ref f) args) (CR CX outer P w H s Q E) s
theorem FnOk.mono {P : Program} {w : World} {K : PySem.W.Frag} {mg : Str → Option Value} {base : Heap} {CX : CXT} {j k : Nat} {f : Addr} {fd : FuncData} {ps : List Str} {sp : Sp} (F : FnOk P w K mg base CX j f fd ps sp) (h : j ≤ k) :
    FnOk P w K mg base CX k f fd ps sp := ⟨F.len, fun A outer s H args us vs Q E hr => F.run A outer s H args us vs Q E (hr.mono h)⟩
/-- a weaker promise -/
theorem FnOk.imp {P : Program} {w : World} {K : PySem.W.Frag} {mg : Str → Option Value} {base : Heap} {CX : CXT} {k : Nat} {f : Addr} {fd : FuncData} {ps : List Str} {sp sp' : Sp} (F : FnOk P w K mg base CX k f fd ps sp)
    (h : ∀ vs H Q E, sp' vs H Q E → sp vs H Q E) : FnOk P w K mg base CX k f fd ps sp' :=
  ⟨fun vs H Q E q => F.len vs H Q E (h _ _ _ _ q), fun A outer s H args us vs Q E hr he hb hv hs => F.run A outer s H args us vs Q E hr he hb hv (h _ _ _ _ hs)⟩

theorem Env0.in1 {P : Program} {w : World} {K : PySem.W.Frag} {mg : Str → Option Value} {base : Heap} {A : Around} {outer : List Env} {s : Shared} {H : Hp} (e : Env0 P w K mg base A outer s H) :
    Env0 P w K mg base A.in1 outer s H := ⟨e.frames, e.mod, e.bs, e.bsz, e.funs, e.frf, e.hok, e.bare⟩

section
variable {X : Cx} {pins : List (Addr × Obj)} {σ : St} {H : Hp} {s s' : Shared}
/-- from a body: what a callee wants -/
theorem Inv.env0 (I : Inv X pins σ H s) : Env0 X.prog X.w X.K X.mg X.base X.A X.stack s H :=
  ⟨I.ok.frames, I.ok.mod, I.bs, Nat.le_trans I.ok.bsz I.sz, I.stack, I.stkFree, I.hok, I.bare⟩
/-- behind a call -/
theorem Inv.after {Q : VK} {u : Value} (I : Inv X pins σ H s) (h : CE X.stack X.prog X.w H s Q u s') : EP X pins σ Q u s' := by
  obtain ⟨v, H', os, bare, un, hok, r, q⟩ := h
  obtain ⟨hh, g, d, t, os'⟩ := s'
  obtain rfl : os' = s.os := os
  exact ⟨v, H', I.call (h' := hh) (g' := g) (d' := d) (t' := t) (ch := []) un hok bare (fun b z => absurd z (by simp)), r, q⟩
end

/-! ### calls -/
/-- f(..): the written arguments, then the defaults dvs; E: what is wanted of an exception -/
def tCall (sp : Sp) (dvs : List V) (E : XK) (t : TA) : TE := fun σ H Q => t σ H fun vs H1 => sp (vs ++ dvs) H1 Q E
/-- how the parameters are bound: us the positional arguments, kw the keywords' values by name, ds the defaults that fill up -/
def Binds (K : PySem.W.Frag) (fd : FuncData) (ps : List Str) (ds : List Value) : Prop :=
  ∀ (s : Shared) (us : List Value), K.In s.heap → (us ++ ds).length = ps.length → BindsTo s fd ⟨us, []⟩ (ps.zip (us ++ ds))
/-- every parameter is given -/
theorem Binds.all {K : PySem.W.Frag} {fd : FuncData} {ps : List Str} (h : ∀ us : List Value, us.length = ps.length → bindArgs fd ⟨us, []⟩ = pure (ps.zip us)) : Binds K fd ps [] := fun s us _ hl => by
  rw [List.append_nil] at hl ⊢
  exact .of_eq (h us hl)

/-- an exception of a callee reaches what this body wants of exceptions -/
def Passes (CX : CXT) (X : Cx) (E : XK) : Prop := ∀ (pins : List (Addr × Obj)) (σ : St) (H : Hp) (s : Shared) (e : Value) (s' : Shared), Inv X pins σ H s → CX X.stack H s E e s' → X.xe e s'

section
variable {X : Cx} {CX : CXT} {k : Nat} {f C : Addr} {fd : FuncData} {ps : List Str} {sp : Sp} {dvs : List V} {ds : List Value} {E : XK} {x m : Str} {p pos apos : Pos} {e o : Expr} {es : List Expr} {ta : TE} {t : TA}

/-- the callee runs -/
theorem run_fn {pins : List (Addr × Obj)} {σ : St} {H : Hp} {s : Shared} {Q : VK} {us : List Value} {vs : List V} (F : FnOk X.prog X.w X.K X.mg X.base CX k f fd ps sp) (hr : Room k X.A) (hb : Binds X.K fd ps ds) (hd : Vals dvs ds) (hx : Passes CX X E)
    (I : Inv X pins σ H s) (r : Vals vs us) (h : sp (vs ++ dvs) H Q E) : wpAny (model X.prog X.w) X.A (call (.ref f) us) (EP X pins σ Q) X.xe s := by
  have r2 : Vals (vs ++ dvs) (us ++ ds) := r.append hd
  have hl : (us ++ ds).length = ps.length := by rw [← r2.length]; exact F.len _ _ _ _ h
  refine wpAny_call (codeAny_mono (F.run X.A X.stack s H ⟨us, []⟩ (us ++ ds) (vs ++ dvs) Q E hr I.env0 (hb s us I.kIn hl) r2 h) fun r s' hq => ?_)
  cases r with
  | error e => exact hx pins σ H s e s' I hq
  | ok fl =>
    cases fl with
    | ret u => exact I.after hq
    | next => exact False.elim hq
    | brk => exact False.elim hq
    | cont => exact False.elim hq

theorem pe_call (F : FnOk X.prog X.w X.K X.mg X.base CX k f fd ps sp) (hr : Room k X.A) (hg : Gl X x) (hm : X.mg x = some (.ref f)) (hk : PySem.W.keepIn X.K (.ref f) = true) (hb : Binds X.K fd ps ds) (hd : Vals dvs ds) (hx : Passes CX X E)
    (ha : PA X (e :: es) t) (hdb : (x == ("__debug__" : Str)) = false := by decide) (he : starEach (e :: es) X.env = (false, eval e X.env) :: starEach es X.env := by rfl) (hpl : (backTo pos (starEach es X.env)).any (·.1) = false := by rfl) :
    PE X (.Call (.Name x p) (e :: es) [] pos) (tCall sp dvs E t) := by
  intro pins s σ H Q I h
  refine wpAny_Call_Name_kw (ld_glob I hg hm ?_ hdb)
  refine PySem.W.callWith_K (h₀ := X.base) I.ok.mod.kin hk (thn (ha pos pins s σ H _ I h) fun us s1 ⟨vs, H1, I1, r, q⟩ => ⟨I1.kIn, ?_⟩) he hpl
  exact run_fn F hr hb hd hx I1 r q
/-- what a class must have to be made -/
structure Mk (K : PySem.W.Frag) (C f : Addr) : Prop where
  makes : PySem.W.makesIn K C = true
  init : PySem.W.findIn K (.ref C) "__init__" = some (some (.ref f))
  fn : PySem.W.isFn K (.ref f) = true
  kp : PySem.W.keepIn K (.ref C) = true

end

/-! ### keywords -/
section
variable {X : Cx} {CX : CXT} {k : Nat} {f C : Addr} {fd : FuncData} {ps ks : List Str} {sp : Sp} {E : XK} {x m : Str} {p pos apos kpos : Pos} {e o : Expr} {es : List Expr} {kws : List Keyword} {te ta : TE} {t tk : TA} {nm : Option Str}
/-- how a call with keywords binds: g puts the positional values us and the keywords' values ws (names ks) in the parameters' order, defaults among them -/
structure KBinds (K : PySem.W.Frag) (fd : FuncData) (ps ks : List Str) (g : List Value → List Value → List Value) (gV : List V → List V → List V) : Prop where
  to : ∀ (s : Shared) (us ws : List Value), K.In s.heap → (g us ws).length = ps.length → BindsTo s fd ⟨us, ks.zip ws⟩ (ps.zip (g us ws))
  rel : ∀ {vs : List V} {us : List Value} {zs : List V} {ws : List Value}, Vals vs us → Vals zs ws → Vals (gV vs zs) (g us ws)
variable {g : List Value → List Value → List Value} {gV : List V → List V → List V}
end

/-! ### a def's body keeps its promise -/
/-- names: the parameters first -/
structure FnScope (N P : List Str) (sc : Scope) : Prop where
  kind : sc.kind = .function
  co : sc.isCoroutine = false
  gen : sc.isGenerator = false
  nd : N.Nodup
  pre : N.take P.length = P
  par : ∀ x ∈ P, sc.names.lookup x = some .local ∨ sc.names.lookup x = some .cell
  nofree : ∀ y ∈ sc.names, y.2 ≠ .free

theorem bindL_out {kindOf : Str → Option NameKind} {x : Str} : ∀ {binds : List (Str × Value)} {m : Str → Option Value}, (∀ v, (x, v) ∉ binds) → bindL kindOf binds m x = m x
  | [], _, _ => rfl
  | (n, v) :: r, m, h => by
    unfold bindL
    rw [bindL_out fun w hw => h w (List.mem_cons_of_mem _ hw)]
    split
    · have : x ≠ n := by rintro rfl; exact h v List.mem_cons_self
      simp [this]
    · rfl
theorem bindC_out {kindOf : Str → Option NameKind} {x : Str} : ∀ {binds : List (Str × Value)} {m : Str → Option Value}, (∀ v, (x, v) ∉ binds) → bindC kindOf binds m x = m x
  | [], _, _ => rfl
  | (n, v) :: r, m, h => by
    unfold bindC
    rw [bindC_out fun w hw => h w (List.mem_cons_of_mem _ hw)]
    split
    · rfl
    · have : x ≠ n := by rintro rfl; exact h v List.mem_cons_self
      simp [this]
theorem bindL_get {kindOf : Str → Option NameKind} {x : Str} {v : Value} : ∀ {P : List Str} {vs : List Value} {i : Nat} {m : Str → Option Value}, P.Nodup → P[i]? = some x → vs[i]? = some v → kindOf x = some .local →
    bindL kindOf (P.zip vs) m x = some v
  | [], _, _, _, _, h, _, _ => by simp at h
  | _ :: _, [], _, _, _, _, h, _ => by simp at h
  | p :: P, w :: vs, 0, m, nd, h1, h2, hk => by
    simp at h1 h2; subst h1; subst h2
    show bindL kindOf ((p, w) :: P.zip vs) m p = _
    unfold bindL
    rw [bindL_out fun v hv => (List.nodup_cons.mp nd).1 (List.of_mem_zip hv).1, if_pos hk]
    simp
  | p :: P, w :: vs, i + 1, m, nd, h1, h2, hk => by
    show bindL kindOf ((p, w) :: P.zip vs) m x = _
    unfold bindL
    exact bindL_get (i := i) (List.nodup_cons.mp nd).2 (by simpa using h1) (by simpa using h2) hk
theorem bindC_get {kindOf : Str → Option NameKind} {x : Str} {v : Value} : ∀ {P : List Str} {vs : List Value} {i : Nat} {m : Str → Option Value}, P.Nodup → P[i]? = some x → vs[i]? = some v → kindOf x ≠ some .local →
    bindC kindOf (P.zip vs) m x = some v
  | [], _, _, _, _, h, _, _ => by simp at h
  | _ :: _, [], _, _, _, _, h, _ => by simp at h
  | p :: P, w :: vs, 0, m, nd, h1, h2, hk => by
    simp at h1 h2; subst h1; subst h2
    show bindC kindOf ((p, w) :: P.zip vs) m p = _
    unfold bindC
    rw [bindC_out fun v hv => (List.nodup_cons.mp nd).1 (List.of_mem_zip hv).1, if_neg hk]
    simp
  | p :: P, w :: vs, i + 1, m, nd, h1, h2, hk => by
    show bindC kindOf ((p, w) :: P.zip vs) m x = _
    unfold bindC
    exact bindC_get (i := i) (List.nodup_cons.mp nd).2 (by simpa using h1) (by simpa using h2) hk

/-- the names' values at the entry -/
def start (N : List Str) (vs : List V) : St := vs.map some ++ List.replicate (N.length - vs.length) none

/-- the context of a def's body, at its entry; an exception leaves the frame, then lies as CX says -/
def cxOf (CX : CXT) (P : Program) (w : World) (K : PySem.W.Frag) (mg : Str → Option Value) (base : Heap) (N : List Str) (qual : Str) (scope : Scope) (f : Addr) (cd : Value) (A : Around) (outer : List Env) (s : Shared) (H : Hp) (E : XK) : Cx where
  prog := P
  w := w
  K := K
  mg := mg
  base := base
  A := A.deeper (envOfC qual scope s.heap.objs.size f cd)
  N := N
  s₀ := s
  H₀ := H
  env := envOfC qual scope s.heap.objs.size f cd
  outer := outer
  stack := envOfC qual scope s.heap.objs.size f cd :: outer
  ex := []
  calm := true
  fn := fun _ => true
  pn := []
  xe := fun e s' => wpAny (model P w) (A.deeper (envOfC qual scope s.heap.objs.size f cd)) (leaving (envOfC qual scope s.heap.objs.size f cd) e) (fun _ s'' => CX outer H s E e s'') (fun e' s'' => CX outer H s E e' s'') s'

theorem cell_has {sc : Scope} {n : Nat} {x : Str} (h : sc.names.lookup x = some .cell) : ∃ c, (cellsFrom n sc.names []).lookup x = some c := by
  have q := PySem.W.cellsFrom_some sc.names n [] (.inl h)
  exact Option.isSome_iff_exists.mp q

theorem inv_start {CX : CXT} {P : Program} {w : World} {K : PySem.W.Frag} {mg : Str → Option Value} {base : Heap} {N ps : List Str} {qual : Str} {scope : Scope} {f : Addr} {cd : Value} {A : Around} {outer : List Env} {s s1 : Shared} {H : Hp} {E : XK} {us : List Value} {vs : List V}
    (S : FnScope N ps scope) (hd : A.handled = none) (e0 : Env0 P w K mg base A outer s H) (hl : vs.length = ps.length) (r : Vals vs us)
    (x : InCallC s s.heap.objs.size (bindL (envOfC qual scope s.heap.objs.size f cd).kindOf (ps.zip us) fun _ => none) (cellsFrom (s.heap.objs.size + 1) scope.names []) (bindC (envOfC qual scope s.heap.objs.size f cd).kindOf (ps.zip us) fun _ => none) s1) :
    Inv (cxOf CX P w K mg base N qual scope f cd A outer s H E) [] (start N vs) H s1 := by
  have hpl : ps.length ≤ N.length := by have := congrArg List.length S.pre; rw [List.length_take] at this; omega
  obtain ⟨h1, tk, rfl, hk⟩ := x.done
  have noA : ∀ b : Addr, b ∉ (cxOf CX P w K mg base N qual scope f cd A outer s H E).ex := fun b z => absurd (show b ∈ ([] : List Addr) from z) (by simp)
  refine ⟨⟨e0.mod, S.kind, rfl, rfl, Nat.le_refl _, fun y z c h1 h2 => ?_, fun y hy => ?_, fun y c _ h => ?_, fun _ => hd, Around.frames_deeper e0.frames, .inr ⟨rfl, rfl⟩, fun b z => absurd z (noA b), e0.bs, e0.bsz, fun b _ _ => noA b, fun b z => absurd z (noA b), e0.funs, e0.frf⟩,
    rfl, e0.bare, Un.kept hk, ⟨_, x.toInCall.ns, fun i y v h1 h2 h3 => ?_⟩, fun y c h => ⟨_, x.cell y c h⟩, e0.hok.fresh (Nat.le_refl _), fun y c h => ?_, fun p hp => absurd (show p ∈ ([] : List (Addr × Obj)) from hp) (by simp), e0.hok.kept hk, ?_⟩
  · exact name_of_addr x.apart (PySem.mem_of_lookup h1) (PySem.mem_of_lookup h2)
  · have hy : scope.names.lookup y = some .cell ∨ scope.names.lookup y = some .free := hy
    rcases hy with hy | hy
    · exact cell_has hy
    · exact absurd rfl (S.nofree _ (PySem.mem_of_lookup hy))
  · exact Nat.le_of_lt (x.above y c (PySem.mem_of_lookup h))
  · have hi : i < vs.length := by
      unfold start at h2
      by_cases hi : i < vs.length
      · exact hi
      · rw [List.getElem?_append_right (by simpa using hi)] at h2
        rw [List.getElem?_replicate] at h2
        split at h2 <;> cases h2
    have ha : vs[i]? = some v := by
      unfold start at h2
      rw [List.getElem?_append_left (by simpa using hi), List.getElem?_map] at h2
      cases e : vs[i]? with
      | none => rw [e] at h2; cases h2
      | some a => rw [e] at h2; cases h2; rfl
    obtain ⟨u, hu, rv⟩ := r.get ha
    have hp : ps[i]? = some y := by
      rw [← S.pre, List.getElem?_take_of_lt (by omega)]; exact h1
    have ndP : ps.Nodup := by rw [← S.pre]; exact S.nd.sublist (List.take_sublist _ _)
    refine ⟨u, rv, ?_⟩
    rcases S.par y (List.mem_of_getElem? hp) with k | k
    · exact .inl ⟨k, bindL_get ndP hp hu k⟩
    · obtain ⟨c, e⟩ := cell_has (n := s.heap.objs.size + 1) k
      refine .inr ⟨.inl k, c, e, ?_⟩
      have q := x.cell y c e
      rw [bindC_get ndP hp hu (by show scope.names.lookup y ≠ _; rw [k]; decide)] at q
      exact q
  · exact e0.hok.fresh (Nat.le_of_lt (x.above y c (PySem.mem_of_lookup h)))
  · unfold start
    show _ = N.length
    rw [List.length_append, List.length_map, List.length_replicate]
    omega

/-- THE RULE: a def (or a method) of the text, by its body. The body's reading t is chosen for each entry; it is run at the parameters' values -/
theorem fn_of {CX : CXT} {P : Program} {w : World} {K : PySem.W.Frag} {mg : Str → Option Value} {base : Heap} {k : Nat} {f : Addr} {name qual : Str} {params : Arguments} {body : List Stmt} {scope : Scope} {dV kV doc pm cdv ct oc : Value} {an od : Option Addr}
    {osl : Array (Option Value)} {N ps : List Str} {sp : Sp} (lk : K.lookup f = some ⟨oc, od, .func (PySem.W.fnOf name qual params body scope dV kV doc pm an cdv ct), osl⟩) (hcd : PySem.W.codeIn K cdv qual = true) (S : FnScope N ps scope)
    (len : ∀ vs H Q E, sp vs H Q E → vs.length = ps.length)
    (hbody : ∀ (A : Around) (outer : List Env) (s : Shared) (H : Hp) (vs : List V) (Q : VK) (E : XK), Room k (A.deeper (envOfC qual scope s.heap.objs.size f cdv)) → sp vs H Q E →
      ∃ t, PSs (cxOf CX P w K mg base N qual scope f cdv A outer s H E) body t ∧ t { nx := fun _ H' => Q .non H', rt := Q } (start N vs) H) :
    FnOk P w K mg base CX (k + 1) f (PySem.W.fnOf name qual params body scope dV kV doc pm an cdv ct) ps sp := by
  refine ⟨len, fun A outer s H args us vs Q E hr e0 hb r hsp => ?_⟩
  have hl := len _ _ _ _ hsp
  have KX : K.In s.heap := e0.mod.kin.keeps fun b o e => (e0.bs b o e).1
  have lim : s.heap.NoLimit := e0.mod.nolimit.keeps fun b o e => (e0.bs b o e).1
  have hkind : ∀ y ∈ ps.zip us, scope.names.lookup y.1 = some .local ∨ (scope.names.lookup y.1 = some .cell ∧ ((cellsFrom (s.heap.objs.size + 1) scope.names []).lookup y.1).isSome = true) := fun ⟨n, v⟩ hy => by
    rcases S.par n (List.of_mem_zip hy).1 with q | q
    · exact .inl q
    · exact .inr ⟨q, PySem.W.cellsFrom_some _ _ _ (.inl q)⟩
  refine codeAny_call_function hr.depth (KX _ _ lk) rfl S.co S.gen rfl (PySem.W.codeRec_of KX hcd) (hb _ _ _ _ ?_)
  refine wpAny_newFunctionEnv_cells S.kind hkind fun env he s1 x => ?_
  subst he
  refine ⟨lim.keeps x.toInCall.keep, codeAny_func ?_⟩
  obtain ⟨t, ht, hq⟩ := hbody A outer s H vs Q E (hr.deeper _) hsp
  have I : Inv (cxOf CX P w K mg base N qual scope f cdv A outer s H E) [] (start N vs) H s1 := inv_start S hr.hd e0 hl r x
  refine wpAny_mono (ht [] s1 (start N vs) H _ I hq) (fun fl s' hs => ?_) fun e s' hs => hs
  have fin : ∀ {σ' : St} {H' : Hp} {v : V} {u : Value}, Inv (cxOf CX P w K mg base N qual scope f cdv A outer s H E) [] σ' H' s' → RelV v u → Q v H' → CE outer P w H s Q u s' :=
    fun {σ' H' v u} J rv q => ⟨v, H', J.os, J.bare, J.base, J.hok, rv, q⟩
  cases fl with
  | ret u =>
    obtain ⟨v, σ', H', J, rv, q⟩ := hs
    exact fin J rv q
  | next =>
    obtain ⟨σ', H', J, q⟩ := hs
    exact fin (v := V.non) (u := Value.none) J rfl q
  | brk =>
    obtain ⟨_, _, _, q⟩ := hs
    exact False.elim q
  | cont =>
    obtain ⟨_, _, _, q⟩ := hs
    exact False.elim q
end L2

namespace L2
open PySem PySem.Spec PyProof.Rows
section
variable {X : Cx} {x : Str} {p pos : Pos} {e : Expr} {es : List Expr} {t : TA} {id T : String} {r : List V → Hp → VK → Prop}

def tCB (r : List V → Hp → VK → Prop) (t : TA) : TE := fun σ H Q => t σ H fun vs H1 => r vs H1 Q
/-- f(e, ..), f a built-in function -/
theorem pe_callB (hc : CallR X (.builtin id) r) (hg : Gl X x) (hm : X.mg x = none) (hv : bootBuiltins x = some (.builtin id)) (ha : PA X (e :: es) t) (hn : x ≠ "__name__" := by decide) (hdb : (x == ("__debug__" : Str)) = false := by decide)
    (he : starEach (e :: es) X.env = (false, eval e X.env) :: starEach es X.env := by rfl) (hpl : (backTo pos (starEach es X.env)).any (·.1) = false := by rfl) : PE X (.Call (.Name x p) (e :: es) [] pos) (tCB r t) := by
  intro pins s σ H Q I h
  refine wpAny_Call_Name_kw (ld_blt I hg hm hv ?_ hn hdb)
  exact PyProof.Rows.callWith_builtin1 (thn (ha pos pins s σ H _ I h) fun us s1 ⟨vs, H1, I1, r1, q1⟩ => hc pins s1 σ H1 vs us Q I1 r1 q1) he hpl
/-- T(e, ..), T a built-in type -/
theorem pe_callTy (hc : CallR X (.type T) r) (hg : Gl X x) (hm : X.mg x = none) (hv : bootBuiltins x = some (.type T)) (ha : PA X (e :: es) t) (hn : x ≠ "__name__" := by decide) (hdb : (x == ("__debug__" : Str)) = false := by decide)
    (he : starEach (e :: es) X.env = (false, eval e X.env) :: starEach es X.env := by rfl) (hpl : (backTo pos (starEach es X.env)).any (·.1) = false := by rfl) : PE X (.Call (.Name x p) (e :: es) [] pos) (tCB r t) := by
  intro pins s σ H Q I h
  refine wpAny_Call_Name_kw (ld_blt I hg hm hv ?_ hn hdb)
  exact PyProof.Rows.callWith_type1 (thn (ha pos pins s σ H _ I h) fun us s1 ⟨vs, H1, I1, r1, q1⟩ => hc pins s1 σ H1 vs us Q I1 r1 q1) he hpl
end
end L2

namespace HT
open PySem PyProof.Rows

section
open PySem.SeqAt
open PySem.AutoSeq1 (wpAny_loadPart')
open PySem.MeetsSeq PySem.MeetsSeq2 PySem.MeetsSeq3

end

section
variable {prog : Program} {w : World} {A : Around} {E : Value → Shared → Prop} {s : Shared}

/-- t + u, t not empty -/
theorem cat_tup {t b : Addr} {vs ws : List Value} {Q : Value → Shared → Prop} (ht : IsTup s.heap t vs.toArray) (hb : IsTup s.heap b ws.toArray) (hv : vs ≠ [])
    (h1 : ws = [] → Q (.ref t) s) (h2 : ws ≠ [] → Q (.ref s.heap.objs.size) { s with heap := s.heap.push { cls := .type "tuple", data := .seq (vs ++ ws).toArray } })
    (hsz : vs.length + ws.length ≤ sizeLine) : wpAny (model prog w) A (binaryOp .Add (.ref t) (.ref b)) Q E s := by
  obtain ⟨⟨cls, dd, data, sl⟩, ho, hc, n, hd⟩ := id ht
  obtain ⟨⟨cls2, dd2, data2, sl2⟩, ho2, hc2, n2, hd2⟩ := id hb
  simp only at hc hd hc2 hd2
  subst hc hd hc2 hd2
  have e : vs.toArray ++ ws.toArray = (vs ++ ws).toArray := by simp
  by_cases hw : ws = []
  · exact concat_meets ⟨_, ho, rfl⟩ ⟨_, ho2, rfl⟩ noFill_tuple_add seq_tuple_add PySem.F.slot_tuple_add PySem.F.entry_tuple_add (PySem.F.args_tuple_add_2 _ _)
      (tuple_addW1 t b vs.toArray ws.toArray n n2 dd dd2 sl sl2 (by simpa using hv) (by simp [hw])) ⟨ho, ho2, h1 hw⟩
  · refine concat_meets ⟨_, ho, rfl⟩ ⟨_, ho2, rfl⟩ noFill_tuple_add seq_tuple_add PySem.F.slot_tuple_add PySem.F.entry_tuple_add (PySem.F.args_tuple_add_2 _ _)
      (tuple_addW2 t b vs.toArray ws.toArray n n2 dd dd2 sl sl2 (by simpa using hv) (by simpa using hw) (by rw [List.size_toArray, List.size_toArray]; exact hsz)) ⟨ho, ho2, ?_⟩
    rw [e]
    exact h2 hw

/-! ### t[a:b], not the whole -/
/-- a slice's bound as a place among n (d where it is left out) -/
def sIx (n d : Nat) : Option Int → Nat
  | none => d
  | some v => if v < 0 then (v + (n : Int)).toNat else min v.toNat n
theorem sIx_le (n d : Nat) (hd : d ≤ n) (o : Option Int) : sIx n d o ≤ n := by
  cases o with
  | none => exact hd
  | some v =>
    show (if v < 0 then (v + (n : Int)).toNat else min v.toNat n) ≤ n
    by_cases hv : v < 0
    · rw [if_pos hv]; omega
    · rw [if_neg hv]; exact Nat.min_le_right _ _
theorem clip_eq (v : Int) (n d : Nat) : (if v < 0 then max (v + (n : Int)) 0 else min v (n : Int)) = ((sIx n d (some v) : Nat) : Int) := by
  show (if v < 0 then max (v + (n : Int)) 0 else min v (n : Int)) = (((if v < 0 then (v + (n : Int)).toNat else min v.toNat n) : Nat) : Int)
  by_cases hv : v < 0
  · simp only [if_pos hv]; omega
  · simp only [if_neg hv]; omega
theorem adjust_gen (lo hi : Option Int) (n : Nat) : Builtin.Slice.sliceAdjust lo hi 1 (n : Int) = (((sIx n 0 lo : Nat) : Int), ((sIx n n hi : Nat) : Int)) := by
  have h1 : ¬ ((1 : Int) < 0) := by omega
  unfold Builtin.Slice.sliceAdjust
  simp only [h1, if_false]
  refine Prod.ext ?_ ?_
  · cases lo with
    | none => rfl
    | some v => exact clip_eq v n 0
  · cases hi with
    | none => rfl
    | some v => exact clip_eq v n n
theorem places_gen (i j : Nat) : Builtin.Slice.slicePlaces (i : Int) (j : Int) 1 = j - i := by
  unfold Builtin.Slice.slicePlaces
  have h1 : (1 : Int) > 0 := by omega
  simp only [h1, if_true, Int.ediv_one]
  split <;> omega
theorem slicePart_ {v : Value} {o : Option Int} {Q : Option Int → Shared → Prop} (p : IsPart v o) (h : Q o s) : wpAny (model prog w) A (Builtin.Slice.slicePartIndex v) Q E s := by
  cases p with
  | none => exact slicePart_none h
  | int i t => exact slicePart_int h
theorem sliceApplied_gen {sl : Addr} {vl vu : Value} {lo hi : Option Int} {n : Nat} {Q : Int × Int × Nat → Shared → Prop} (hs : s.heap.IsSliceOf sl vl vu .none) (pl : IsPart vl lo) (pu : IsPart vu hi)
    (h : Q (((sIx n 0 lo : Nat) : Int), 1, sIx n n hi - sIx n 0 lo) s) : wpAny (model prog w) A (Builtin.Slice.sliceApplied (.ref sl) (pure (n : Int))) Q E s := by
  obtain ⟨os, hos, hcs, hds⟩ := id hs
  unfold Builtin.Slice.sliceApplied Builtin.Slice.sliceFields
  refine wpAny_bind (wpAny_bind (wpAny_field hos hds (x := vl) rfl (wpAny_bind (wpAny_field hos hds (x := vu) rfl (wpAny_bind (wpAny_field hos hds (x := .none) rfl (wpAny_pure ?_)))))))
  refine wpAny_bind (slicePart_none ?_)
  show wpAny _ _ (if ((1 : Int) == 0) = true then _ else _) _ _ s
  rw [if_neg (by decide)]
  refine wpAny_bind (slicePart_ pl (wpAny_bind (slicePart_ pu (wpAny_bind (wpAny_pure ?_)))))
  show wpAny _ _ (match Builtin.Slice.sliceAdjust lo hi 1 (n : Int) with | (lo, hi) => pure (lo, (1 : Int), Builtin.Slice.slicePlaces lo hi 1)) _ _ s
  rw [adjust_gen lo hi n]
  show wpAny _ _ (pure (((sIx n 0 lo : Nat) : Int), (1 : Int), Builtin.Slice.slicePlaces ((sIx n 0 lo : Nat) : Int) ((sIx n n hi : Nat) : Int) 1)) _ _ s
  rw [places_gen]
  exact wpAny_pure h
theorem pick_gen (xs : Array Value) (i k : Nat) : ((List.range k).filterMap fun (m : Nat) => xs[((i : Int) + (m : Int) * 1).toNat]?).toArray = ((xs.toList.drop i).take k).toArray := by
  have e : (fun (m : Nat) => xs[((i : Int) + (m : Int) * 1).toNat]?) = fun m => xs[i + m]? := by
    funext m
    have : ((i : Int) + (m : Int) * 1).toNat = i + m := by omega
    rw [this]
  rw [e]
  have := pick_run xs i k
  rw [List.filterMap_map] at this
  have e2 : ((fun x => xs[x]?) ∘ fun x => i + x) = fun m => xs[i + m]? := rfl
  rw [e2] at this
  rw [this]

theorem getItem_tuple_cut {t sl : Addr} {items : Array Value} {vl vu : Value} {lo hi : Option Int} {Q : Value → Shared → Prop} (ht : IsTup s.heap t items) (hs : s.heap.IsSliceOf sl vl vu .none) (pl : IsPart vl lo) (pu : IsPart vu hi)
    (hw : ¬ (sIx items.size 0 lo = 0 ∧ sIx items.size items.size hi = items.size))
    (h : Q (.ref s.heap.objs.size) { s with heap := s.heap.push { cls := .type "tuple", data := .seq ((items.toList.drop (sIx items.size 0 lo)).take (sIx items.size items.size hi - sIx items.size 0 lo)).toArray } })
    (hsz : items.size ≤ sizeLine) : wpAny (model prog w) A (getItem (.ref t) (.ref sl)) Q E s := by
  have htake : sizeOk (.seq ((items.toList.drop (sIx items.size 0 lo)).take (sIx items.size items.size hi - sIx items.size 0 lo)).toArray) := by
    show ((items.toList.drop (sIx items.size 0 lo)).take (sIx items.size items.size hi - sIx items.size 0 lo)).toArray.size ≤ sizeLine
    rw [List.size_toArray, List.length_take, List.length_drop, Array.length_toList]
    omega
  have hj : sIx items.size items.size hi ≤ items.size := sIx_le _ _ (Nat.le_refl _) hi
  obtain ⟨os, hos, hcs, hds⟩ := id hs
  have hTs : s.TypeIs (.ref sl) "slice" := ⟨os, hos, hcs⟩
  unfold getItem
  try with_reducible refine wpAny_holding ?_
  first | refine wpAny_bind (wpAny_pure ?_) | skip
  refine wpAny_bind (wpAny_sequenceKey ht.typeIs (by decide) ?_)
  refine wpAny_bind (wpAny_callSpecial?_slot (name := Str.ofString "__getitem__") ht.typeIs PyProof.Rows.slot_tuple_getitem
    (wpAny_call_entry PyProof.Rows.slot_tuple_getitem ht.typeIs entry_tuple_getitem ?_ (args_tuple_getitem _ _)))
  show wpAny _ _ (Builtin.Tuple.tupleItemsOf (.ref t) >>= _) _ _ s
  refine wpAny_bind (tupleItemsOf_ ht ?_)
  refine wpAny_bind (wpAny_typeOf hTs ?_)
  rw [if_pos (by decide)]
  refine wpAny_bind (sliceApplied_gen hs pl pu ?_)
  have hno : ¬ ((((sIx items.size 0 lo : Nat) : Int) == 0 && (1 : Int) == 1 && (sIx items.size items.size hi - sIx items.size 0 lo) == items.size) = true) := by
    intro q
    rw [Bool.and_eq_true, Bool.and_eq_true] at q
    have q1 : ((sIx items.size 0 lo : Nat) : Int) = 0 := eq_of_beq q.1.1
    have q2 : sIx items.size items.size hi - sIx items.size 0 lo = items.size := eq_of_beq q.2
    exact hw ⟨by omega, by omega⟩
  show wpAny _ _ (if (((sIx items.size 0 lo : Nat) : Int) == 0 && (1 : Int) == 1 && (sIx items.size items.size hi - sIx items.size 0 lo) == items.size) = true then _ else _) _ _ s
  rw [if_neg hno, pick_gen]
  first
    | exact wpAny_bind (m := Builtin.Tuple.tupleExact _) (wpAny_newObj_type (wpAny_pure ⟨_, rfl, wpAny_pure h⟩) htake)
    | exact wpAny_bind (m := Builtin.Tuple.tupleExact _) (wpAny_newObj_type (wpAny_bind (wpAny_pure (wpAny_pure ⟨_, rfl, wpAny_pure h⟩))) htake)
    | exact wpAny_bind (wpAny_bind (m := Builtin.Tuple.tupleExact _) (wpAny_newObj_type (wpAny_pure (wpAny_pure ⟨_, rfl, wpAny_pure h⟩)) htake))
    | exact wpAny_bind (wpAny_bind (m := Builtin.Tuple.tupleExact _) (wpAny_newObj_type (wpAny_pure ⟨_, rfl, wpAny_pure h⟩) htake))
end
end HT

namespace L2
open PySem PySem.Spec PyProof.Rows

/-! ### the parts of a slice -/
abbrev TO := St → Hp → (Option Int → Hp → Prop) → Prop
/-- a slice's part (left out, or an int) -/
def PO (X : Cx) (e : Option Expr) (t : TO) : Prop :=
  ∀ (pins : List (Addr × Obj)) (s : Shared) (σ : St) (H : Hp) (Q : Option Int → Hp → Prop), Inv X pins σ H s → t σ H Q →
    wpAny (model X.prog X.w) X.A (evalPart e X.env) (fun u s' => ∃ o H', Inv X pins σ H' s' ∧ IsPart u o ∧ Q o H') X.xe s
def tNoPart : TO := fun _ H Q => Q none H
def tPart (t : TE) : TO := fun σ H Q => t σ H fun x H1 => ∃ i, x = .int i ∧ Q (some i) H1

section
variable {X : Cx} {e : Expr} {te : TE} {lo hi : Option Expr} {tl th : TO} {pos p2 : Pos}

theorem po_none : PO X none tNoPart := by
  intro pins s σ H Q I h
  rw [evalPart_none]
  exact wpAny_pure ⟨none, H, I, .none, h⟩
theorem po_some (h : PE X e te) : PO X (some e) (tPart te) := by
  intro pins s σ H Q I hw
  rw [evalPart_some]
  refine thn (h pins s σ H _ I hw) fun u s1 ⟨x, H1, I1, r1, q1⟩ => ?_
  obtain ⟨i, rfl, q⟩ := q1
  obtain ⟨t, rfl⟩ := r1
  exact ⟨some i, H1, I1, .int i t, q⟩

/-- what a slice of a value is, by values: the slice object stands at sl -/
def SlR (X : Cx) (r : V → Option Int → Option Int → Hp → VK → Prop) : Prop :=
  ∀ (pins : List (Addr × Obj)) (s : Shared) (σ : St) (H : Hp) (x : V) (v vl vu : Value) (lo hi : Option Int) (sl : Addr) (Q : VK), Inv X pins σ H s → RelV x v → s.heap.IsSliceOf sl vl vu .none → IsPart vl lo → IsPart vu hi → r x lo hi H Q →
    ∃ T id, typeLookup (.type T) "__getitem__" = pure (some (.builtin id)) ∧ s.TypeIs v T ∧ wpAny (model X.prog X.w) X.A (getItem v (.ref sl)) (EP X pins σ Q) X.xe s
theorem SlR.or {r r' : V → Option Int → Option Int → Hp → VK → Prop} (h : SlR X r) (h' : SlR X r') : SlR X (fun x lo hi H Q => r x lo hi H Q ∨ r' x lo hi H Q) := by
  intro pins s σ H x v vl vu lo hi sl Q I rx hs pl pu q
  rcases q with q | q
  · exact h pins s σ H x v vl vu lo hi sl Q I rx hs pl pu q
  · exact h' pins s σ H x v vl vu lo hi sl Q I rx hs pl pu q
def tSl (r : V → Option Int → Option Int → Hp → VK → Prop) (te : TE) (tl th : TO) : TE := fun σ H Q => te σ H fun x H1 => tl σ H1 fun l H2 => th σ H2 fun u H3 => r x l u H3 Q
/-- a[lo:hi], any a -/
theorem pe_slice {r : V → Option Int → Option Int → Hp → VK → Prop} (hr : SlR X r) (he : PE X e te) (hl : PO X lo tl) (hu : PO X hi th) : PE X (.Subscript e (.Slice lo hi none p2) pos) (tSl r te tl th) := by
  intro pins s σ H Q I h
  refine Subscript_ (thn (he pins s σ H _ I h) fun v s1 ⟨x, H1, I1, r1, q1⟩ => ?_)
  refine wpAny_Slice (thn (hl pins s1 σ H1 _ I1 q1) fun vl s2 ⟨l, H2, I2, pl, q2⟩ => thn (hu pins s2 σ H2 _ I2 q2) fun vu s3 ⟨u, H3, I3, pu, q3⟩ => ?_)
  rw [evalPart_none]
  refine wpAny_pure ?_
  have I4 : Inv X pins σ H3 { s3 with heap := s3.heap.push { cls := .type "slice", data := .fields #[vl, vu, .none] } } := I3.kept (t' := s3.toks) fun b ob q => Heap.get?_push_of_some _ q
  obtain ⟨T, id, hT, ht, hg⟩ := hr pins { s3 with heap := s3.heap.push { cls := .type "slice", data := .fields #[vl, vu, .none] } } σ H3 x v vl vu l u s3.heap.objs.size Q I4 r1 (Heap.IsSliceOf.new ..) pl pu q3
  show wpAny (model X.prog X.w) X.A (subscriptTail e (.Slice lo hi none p2) v (.ref s3.heap.objs.size)) (EP X pins σ Q) X.xe { s3 with heap := s3.heap.push { cls := .type "slice", data := .fields #[vl, vu, .none] } }
  exact tail_any (ops := [.ref s3.heap.objs.size, v]) ht hT hg (by with_unfolding_all rfl)

/-- the items of xs[lo:hi] -/
def cutV (xs : List V) (lo hi : Option Int) : List V := (xs.drop (HT.sIx xs.length 0 lo)).take (HT.sIx xs.length xs.length hi - HT.sIx xs.length 0 lo)
theorem cutV_length (xs : List V) (lo hi : Option Int) : (cutV xs lo hi).length ≤ xs.length := by
  unfold cutV
  rw [List.length_take, List.length_drop]
  omega
/-- t[lo:hi], not the whole of it (the whole would be t itself) -/
def rSlT (K : PySem.W.Frag) : V → Option Int → Option Int → Hp → VK → Prop := fun x lo hi H Q => ∃ a xs, x = .ref a ∧ SqT K H a xs ∧
  ¬ (HT.sIx xs.length 0 lo = 0 ∧ HT.sIx xs.length xs.length hi = xs.length) ∧ ∀ p, H p = none → Q (.ref p) (upd H p (.tup (cutV xs lo hi)))
theorem sl_tup : SlR X (rSlT X.K) := by
  intro pins s σ H x v vl vu lo hi sl Q I rx hs pl pu h
  obtain ⟨a, xs, rfl, hx, hw, q⟩ := h
  cases rx
  obtain ⟨its, r, ht, hz⟩ := I.tuple hx
  have hlen : its.toArray.size = xs.length := by rw [List.size_toArray]; exact r.length.symm
  refine ⟨"tuple", _, PyProof.Rows.slot_tuple_getitem.lookup, ht.typeIs, ?_⟩
  refine HT.getItem_tuple_cut ht hs pl pu (by rw [hlen]; exact hw) ?_ (by rw [hlen]; exact hz)
  rw [hlen]
  refine ⟨.ref s.heap.objs.size, _, I.laid (t' := s.toks) (o := .tup (cutV xs lo hi)) (fun b ob q => Heap.get?_push_of_some _ q) (Nat.le_refl _) ?_, rfl, q _ (I.hok.fresh (Nat.le_refl _))⟩
  exact ⟨Nat.le_trans (cutV_length xs lo hi) hz, _, (r.drop (HT.sIx xs.length 0 lo)).take (HT.sIx xs.length xs.length hi - HT.sIx xs.length 0 lo), IsTup.new _ _⟩

/-! ### t < u, t + u -/
/-- t + u, t not empty: u empty gives t itself -/
def rCatT (K : PySem.W.Frag) : R2 := fun x y H Q => ∃ a b xs ys, x = .ref a ∧ y = .ref b ∧ SqT K H a xs ∧ SqT K H b ys ∧ xs ≠ [] ∧ xs.length + ys.length ≤ sizeLine ∧
  (ys = [] → Q (.ref a) H) ∧ (ys ≠ [] → ∀ p, H p = none → Q (.ref p) (upd H p (.tup (xs ++ ys))))
theorem Vals.nil_iff {xs : List V} {us : List Value} (r : Vals xs us) : us = [] ↔ xs = [] := by
  cases r with
  | nil => simp
  | cons _ _ => simp
theorem op_catT : OpR X (binaryOp .Add) (rCatT X.K) := by
  intro pins s σ H x y v u Q I rx ry h
  obtain ⟨a, b, xs, ys, rfl, rfl, ha, hb, hx, hz, q1, q2⟩ := h
  cases rx
  cases ry
  obtain ⟨its, r1, p1, _⟩ := I.tuple ha
  obtain ⟨its2, r2, p2, _⟩ := I.tuple hb
  refine HT.cat_tup p1 p2 (fun z => hx (r1.nil_iff.mp z)) (fun z => ⟨.ref a, H, I, rfl, q1 (r2.nil_iff.mp z)⟩) (fun z => ?_) (by rw [← r1.length, ← r2.length]; exact hz)
  refine ⟨.ref s.heap.objs.size, _, I.laid (t' := s.toks) (o := .tup (xs ++ ys)) (fun b ob q => Heap.get?_push_of_some _ q) (Nat.le_refl _) ?_, rfl, q2 (fun w => z (r2.nil_iff.mpr w)) _ (I.hok.fresh (Nat.le_refl _))⟩
  exact ⟨by rw [List.length_append]; exact hz, _, r1.append r2, IsTup.new _ _⟩
end
end L2

namespace L2
open PySem PySem.Spec PyProof.Rows

/-! ### places -/
/-- the place that an index of any sign means -/
def ixN (n : Nat) (i : Int) : Option Nat := if 0 ≤ i then (if i < n then some i.toNat else none) else if -(n : Int) ≤ i then some (i + n).toNat else none
def atI {α : Type} (xs : List α) (i : Int) : Option α := (ixN xs.length i).bind fun j => xs[j]?
theorem ixN_seq {n : Nat} {i : Int} {j : Nat} (h : ixN n i = some j) : seqIndex? i n = some j ∧ j < n ∧ -(n : Int) ≤ i ∧ i < n := by
  unfold ixN at h
  by_cases h0 : 0 ≤ i
  · rw [if_pos h0] at h
    by_cases h1 : i < n
    · rw [if_pos h1] at h
      have e : i.toNat = j := Option.some.inj h
      exact ⟨by rw [seqIndex_of h0 h1, e], by omega, by omega, h1⟩
    · rw [if_neg h1] at h; cases h
  · rw [if_neg h0] at h
    by_cases h1 : -(n : Int) ≤ i
    · rw [if_pos h1] at h
      have e : (i + n).toNat = j := Option.some.inj h
      exact ⟨by rw [seqIndex_neg (by omega) h1, e], by omega, h1, by omega⟩
    · rw [if_neg h1] at h; cases h
theorem atI_get {α : Type} {xs : List α} {i : Int} {v : α} (h : atI xs i = some v) : ∃ j, seqIndex? i xs.length = some j ∧ xs[j]? = some v ∧ j < xs.length ∧ -(xs.length : Int) ≤ i ∧ i < xs.length := by
  unfold atI at h
  cases e : ixN xs.length i with
  | none => rw [e] at h; cases h
  | some j =>
    rw [e] at h
    obtain ⟨h1, h2, h3, h4⟩ := ixN_seq e
    exact ⟨j, h1, h, h2, h3, h4⟩
/-! ### what may be subscripted -/
/-- what stands as an index of a plain subscript -/
def PlainIx (b : Expr) : Prop := ∀ o i, subscripted b false o i = operate [o, i] (getItem o i)
/-- a subscript by values -/
def IxR (X : Cx) (r : R2) : Prop :=
  ∀ (value slice : Expr) (pins : List (Addr × Obj)) (s : Shared) (σ : St) (H : Hp) (x y : V) (v u : Value) (Q : VK), Inv X pins σ H s → RelV x v → RelV y u → r x y H Q →
    subscripted slice false v u = operate [v, u] (getItem v u) → wpAny (model X.prog X.w) X.A (subscriptTail value slice v u) (EP X pins σ Q) X.xe s
/-- a call of a builtin's method by values: the receiver, the arguments -/
def MtR (X : Cx) (id : String) (r : V → List V → Hp → VK → Prop) : Prop :=
  ∀ (pins : List (Addr × Obj)) (s : Shared) (σ : St) (H : Hp) (x : V) (xs : List V) (v : Value) (us : List Value) (Q : VK), Inv X pins σ H s → RelV x v → Vals xs us → r x xs H Q →
    wpAny (model X.prog X.w) X.A (call (.builtin id) (v :: us)) (EP X pins σ Q) X.xe s
section
variable {X : Cx} {a b : Expr} {ta tb : TE} {pos : Pos}
theorem IxR.or {r r' : R2} (h : IxR X r) (h' : IxR X r') : IxR X (fun x y H Q => r x y H Q ∨ r' x y H Q) := by
  intro value slice pins s σ H x y v u Q I rx ry q hs
  rcases q with q | q
  · exact h value slice pins s σ H x y v u Q I rx ry q hs
  · exact h' value slice pins s σ H x y v u Q I rx ry q hs
theorem MtR.or {id : String} {r r' : V → List V → Hp → VK → Prop} (h : MtR X id r) (h' : MtR X id r') : MtR X id (fun x xs H Q => r x xs H Q ∨ r' x xs H Q) := by
  intro pins s σ H x xs v us Q I rx rs q
  rcases q with q | q
  · exact h pins s σ H x xs v us Q I rx rs q
  · exact h' pins s σ H x xs v us Q I rx rs q
/-- a[b] -/
theorem pe_ix {r : R2} (hr : IxR X r) (ha : PE X a ta) (hb : PE X b tb) (hs : PlainIx b) : PE X (.Subscript a b pos) (tOp r ta tb) := by
  intro pins s σ H Q I h
  exact Subscript_ (binT ha hb I h fun v u s2 x y H2 I2 rx ry q => hr a b pins s2 σ H2 x y v u Q I2 rx ry q (hs _ _))

def rIxL (K : PySem.W.Frag) : R2 := fun x y H Q => ∃ p xs i v, x = .ref p ∧ y = .int i ∧ SqL K H p xs ∧ atI xs i = some v ∧ Q v H
def rIxT (K : PySem.W.Frag) : R2 := fun x y H Q => ∃ p xs i v, x = .ref p ∧ y = .int i ∧ SqT K H p xs ∧ atI xs i = some v ∧ Q v H
def rIxS : R2 := fun x y H Q => ∃ z i c, x = .str z ∧ y = .int i ∧ z.length ≤ sizeLine ∧ atI z.cps.toList i = some c ∧ Q (.str ⟨#[c]⟩) H
theorem ix_list : IxR X (rIxL X.K) := by
  intro value slice pins s σ H x y v u Q I rx ry h hs
  obtain ⟨p, xs, i, z, rfl, rfl, hq, he, q⟩ := h
  cases rx
  obtain ⟨t, rfl⟩ := ry
  obtain ⟨its, r, pl, hz⟩ := I.list hq
  obtain ⟨j, h1, h2, h3, h4, h5⟩ := atI_get he
  obtain ⟨w, ew, rw'⟩ := r.get h2
  have hl := r.length
  have hn := line63
  have fin : EP X pins σ Q w s := ⟨z, H, I, rw', q⟩
  by_cases h0 : 0 ≤ i
  · have hj : i.toNat = j := by
      rw [seqIndex_of h0 h5] at h1
      exact Option.some.inj h1
    exact item_listR pl.isList h0 (by omega) (by rw [hj]; simpa using ew) fin hs
  · have hj : (i + (its.toArray.size : Int)).toNat = j := by
      rw [seqIndex_neg (by omega) h4] at h1
      rw [List.size_toArray, ← hl]
      exact Option.some.inj h1
    exact subscriptTail_builtinR (x := w) pl.isList.typeIs slot_list_getitem.lookup
      (wpAny_getItem_list_neg (Q := fun r s' => r = w ∧ EP X pins σ Q r s') pl.isList (by omega) (by rw [List.size_toArray] <;> omega) (by omega) (by rw [hj]; simpa using ew) ⟨rfl, fin⟩) hs
theorem ix_tup : IxR X (rIxT X.K) := by
  intro value slice pins s σ H x y v u Q I rx ry h hs
  obtain ⟨p, xs, i, z, rfl, rfl, hq, he, q⟩ := h
  cases rx
  obtain ⟨t, rfl⟩ := ry
  obtain ⟨its, r, pl, hz⟩ := I.tuple hq
  obtain ⟨j, h1, h2, h3, h4, h5⟩ := atI_get he
  obtain ⟨w, ew, rw'⟩ := r.get h2
  have hl := r.length
  have hn := line63
  have fin : EP X pins σ Q w s := ⟨z, H, I, rw', q⟩
  exact subscriptTail_builtinR (x := w) pl.typeIs slot_tuple_getitem.lookup
    (getItem_tuple (j := j) (Q := fun r s' => r = w ∧ EP X pins σ Q r s') pl (by omega) (by omega) (by rw [List.size_toArray, ← hl]; exact h1) (by simpa using ew) ⟨rfl, fin⟩) hs
theorem ix_str : IxR X rIxS := by
  intro value slice pins s σ H x y v u Q I rx ry h hs
  obtain ⟨z, i, c, rfl, rfl, hz, he, q⟩ := h
  obtain ⟨t, rfl⟩ := rx
  obtain ⟨t', rfl⟩ := ry
  obtain ⟨j, h1, h2, h3, h4, h5⟩ := atI_get he
  have hl : z.cps.toList.length = z.length := by simp [Str.length]
  rw [hl] at h1 h4 h5
  have hn := line63
  exact tail_any (typeIs_str s z t) slot_str_getitem.lookup (getItem_str (c := c) (by
    have e1 : decide (i < -(2 ^ 63 : Int)) = false := decide_eq_false (by omega)
    have e2 : decide (i ≥ 2 ^ 63) = false := decide_eq_false (by omega)
    rw [e1, e2, Bool.or_false]) (by rw [h1]; simpa using h2) ⟨.str ⟨#[c]⟩, H, I.tok _, ⟨_, rfl⟩, q⟩) hs
/-- list, tuple or str -/
def rIx (K : PySem.W.Frag) : R2 := fun x y H Q => rIxL K x y H Q ∨ rIxT K x y H Q ∨ rIxS x y H Q
theorem ix_seq : IxR X (rIx X.K) := ix_list.or (ix_tup.or ix_str)

/-! ### xs[i] = v, any sign -/
/-- the list's object behind a store -/
theorem mapSeq_set (its : List Value) (n j : Nat) (u : Value) : Obj.mapSeq (·.setIfInBounds j u) { cls := .type "list", data := .seq its.toArray n } = { cls := .type "list", data := .seq (its.set j u).toArray n } := by
  simp [Obj.mapSeq]
theorem Inv.lst {pins : List (Addr × Obj)} {σ : St} {H : Hp} {s : Shared} {p : Addr} {xs : List V} (I : Inv X pins σ H s) (h : H p = some (.lst xs)) :
    ∃ (its : List Value) (n : Nat), Vals xs its ∧ s.heap.get? p = some { cls := .type "list", data := .seq its.toArray n } ∧ xs.length ≤ sizeLine := by
  obtain ⟨z, its, n, r, e⟩ := I.hok p _ h
  exact ⟨its, n, r, e, z⟩
/-- the list at p is written by an update of its object -/
theorem Inv.lstUpd {pins : List (Addr × Obj)} {σ : St} {H : Hp} {s : Shared} {p : Addr} {xs ys : List V} {its its' : List Value} {n n' : Nat} {f : Obj → Obj} (I : Inv X pins σ H s) (h : H p = some (.lst xs))
    (ho : s.heap.get? p = some { cls := .type "list", data := .seq its.toArray n }) (hf : f { cls := .type "list", data := .seq its.toArray n } = { cls := .type "list", data := .seq its'.toArray n' }) (r : Vals ys its') (hz : ys.length ≤ sizeLine) (t : Nat) :
    Inv X pins σ (upd H p (.lst ys)) { s with heap := s.heap.update p f, toks := t } := by
  have e : (s.heap.update p f).get? p = some { cls := .type "list", data := .seq its'.toArray n' } := by
    rw [Heap.get?_update_self f ho (by rw [hf] <;> rfl), hf]
  refine I.write (x := p) (e := p) (by rw [h]; trivial) (.inl rfl) (fun b u hb q => (Heap.get?_update_other _ _ (Ne.symm hb)).trans q) ⟨_, e⟩ ?_
  exact ⟨hz, its', n', r, e⟩
def rSetL : V → V → V → Hp → (Hp → Prop) → Prop := fun o i v H Q => ∃ p xs k j, o = .ref p ∧ i = .int k ∧ H p = some (.lst xs) ∧ ixN xs.length k = some j ∧ Q (upd H p (.lst (xs.set j v)))
theorem set_list : PSet X rSetL := by
  intro pins s σ H o i v ov iv u Q I ro ri rv h
  obtain ⟨p, xs, k, j, rfl, rfl, hp, hj, q⟩ := h
  cases ro
  obtain ⟨t, rfl⟩ := ri
  obtain ⟨its, n, r, ho, hz⟩ := I.lst hp
  obtain ⟨h1, h2, h3, h4⟩ := ixN_seq hj
  have hl := r.length
  have hn := line63
  have I' : Inv X pins σ (upd H p (.lst (xs.set j v))) { s with heap := s.heap.update p (Obj.mapSeq (·.setIfInBounds j u)) } :=
    I.lstUpd hp ho (mapSeq_set its n j u) (r.set rv j) (by rw [List.length_set]; exact hz) s.toks
  by_cases h0 : 0 ≤ k
  · have hk : k.toNat = j := by
      rw [seqIndex_of h0 h4] at h1
      exact Option.some.inj h1
    exact PySem.W.ki_setAt ho h0 (by omega) (by rw [List.size_toArray, ← hl]; exact h4) (by rw [hk]; exact ⟨_, I', q⟩)
  · have hk : (k + (its.toArray.size : Int)).toNat = j := by
      rw [seqIndex_neg (by omega) h3] at h1
      rw [List.size_toArray, ← hl]
      exact Option.some.inj h1
    exact PySem.W.ki_setBack ho (by omega) (by rw [List.size_toArray, ← hl]; exact h3) (by omega) (by rw [hk]; exact ⟨_, I', q⟩)

/-! ### slices -/
theorem slice_bounds (lo hi : Option Int) (n : Nat) : (sliceBounds lo hi none n).1 = ((HT.sIx n 0 lo : Nat) : Int) ∧ (sliceBounds lo hi none n).2.1 = ((HT.sIx n n hi : Nat) : Int) ∧ (sliceBounds lo hi none n).2.2 = 1 := by
  refine ⟨?_, ?_, rfl⟩
  · cases lo with
    | none => simp [sliceBounds, HT.sIx]
    | some i =>
      simp only [sliceBounds, HT.sIx, Option.getD_none, show (1 : Int) > 0 by decide, if_true]
      by_cases h : i < 0
      · simp only [h, if_true] <;> omega
      · simp only [h, if_false] <;> omega
  · cases hi with
    | none => simp [sliceBounds, HT.sIx]
    | some i =>
      simp only [sliceBounds, HT.sIx, Option.getD_none, show (1 : Int) > 0 by decide, if_true]
      by_cases h : i < 0
      · simp only [h, if_true] <;> omega
      · simp only [h, if_false] <;> omega
theorem slicePick_cut (its : List Value) (lo hi : Option Int) : slicePick its.toArray lo hi none = ((its.drop (HT.sIx its.length 0 lo)).take (HT.sIx its.length its.length hi - HT.sIx its.length 0 lo)).toArray := by
  obtain ⟨h1, h2, h3⟩ := slice_bounds lo hi its.toArray.size
  unfold slicePick
  rw [h1, h2, h3]
  simp only [sliceRange_one, pick_run, List.size_toArray] <;> rfl
/-- xs[lo:hi] of a list: a new list -/
def rSlL (K : PySem.W.Frag) : V → Option Int → Option Int → Hp → VK → Prop := fun x lo hi H Q => ∃ a xs, x = .ref a ∧ SqL K H a xs ∧ ∀ p, H p = none → Q (.ref p) (upd H p (.lst (cutV xs lo hi)))
theorem sl_list : SlR X (rSlL X.K) := by
  intro pins s σ H x v vl vu lo hi sl Q I rx hs pl pu h
  obtain ⟨a, xs, rfl, hx, q⟩ := h
  cases rx
  obtain ⟨its, r, ht, hz⟩ := I.list hx
  have hlen := r.length
  refine ⟨"list", _, slot_list_getitem.lookup, ht.isList.typeIs, ?_⟩
  refine wpAny_getItem_list_slice ht.isList hs pl pu .none (by simp) ?_ (by rw [List.size_toArray] <;> omega)
  rw [slicePick_cut, ← hlen]
  refine ⟨.ref s.heap.objs.size, _, I.laid (t' := s.toks) (o := .lst (cutV xs lo hi)) (fun b ob q => Heap.get?_push_of_some _ q) (Nat.le_refl _) ?_, rfl, q _ (I.hok.fresh (Nat.le_refl _))⟩
  exact ⟨Nat.le_trans (cutV_length xs lo hi) hz, _, 0, (r.drop (HT.sIx xs.length 0 lo)).take (HT.sIx xs.length xs.length hi - HT.sIx xs.length 0 lo), Heap.get?_push_size _ rfl⟩

/-! ### in, not in: flat items -/
/-! ### len, list(x), tuple(x) of any list or tuple that is read -/
theorem call_len_seq : CallR X (.builtin "len") (fun xs H Q => ∃ p ys, xs = [.ref p] ∧ (SqL X.K H p ys ∨ SqT X.K H p ys) ∧ Q (.int ys.length) H) := by
  intro pins s σ H xs us Q I r h
  obtain ⟨p, ys, rfl, hq, q⟩ := h
  obtain ⟨u, rfl, rx⟩ := vals1 r
  cases rx
  have hn := line63
  rcases hq with hq | hq
  · obtain ⟨its, r', pl, hz⟩ := I.list hq
    have hlen := r'.length
    exact Calls.call_len_list pl.isList (by simp only [List.size_toArray] <;> omega) ⟨.int ys.length, H, I.tok _, ⟨s.toks + 1, by rw [List.size_toArray, hlen]⟩, q⟩
  · obtain ⟨its, r', pl, hz⟩ := I.tuple hq
    have hlen := r'.length
    exact len_tuple pl (by simp only [List.size_toArray] <;> omega) ⟨.int ys.length, H, I.tok _, ⟨s.toks + 1, by rw [List.size_toArray, hlen]⟩, q⟩
theorem call_len_str : CallR X (.builtin "len") (fun xs H Q => ∃ z, xs = [.str z] ∧ z.length ≤ sizeLine ∧ Q (.int z.length) H) := by
  intro pins s σ H xs us Q I r h
  obtain ⟨z, rfl, hz, q⟩ := h
  obtain ⟨u, rfl, t, rfl⟩ := vals1 r
  have hn := line63
  exact len_str (by omega) ⟨.int z.length, H, I.tok _, ⟨_, rfl⟩, q⟩
theorem CallR.or {f : Value} {r r' : List V → Hp → VK → Prop} (h : CallR X f r) (h' : CallR X f r') : CallR X f (fun xs H Q => r xs H Q ∨ r' xs H Q) := by
  intro pins s σ H xs us Q I rs q
  rcases q with q | q
  · exact h pins s σ H xs us Q I rs q
  · exact h' pins s σ H xs us Q I rs q
theorem call_list_of : CallR X (.type "list") (fun xs H Q => ∃ p ys, xs = [.ref p] ∧ (SqL X.K H p ys ∨ SqT X.K H p ys) ∧ ∀ l, H l = none → Q (.ref l) (upd H l (.lst ys))) := by
  intro pins s σ H xs us Q I r h
  obtain ⟨p, ys, rfl, hq, q⟩ := h
  obtain ⟨u, rfl, rx⟩ := vals1 r
  cases rx
  have fin : ∀ (its : List Value), Vals ys its → ys.length ≤ sizeLine → ∀ (h' : Heap) (c' : Nat), (∀ b o', s.heap.get? b = some o' → h'.get? b = some o') →
      h'.get? s.heap.objs.size = some { cls := .type "list", dict := none, data := .seq its.toArray c', slots := #[] } → EP X pins σ Q (.ref s.heap.objs.size) { s with heap := h' } := fun its r' hz h' c' kp e =>
    ⟨.ref s.heap.objs.size, _, I.laid (t' := s.toks) kp (Nat.le_refl _) (show ObjOk X.prog X.w _ h' _ (.lst ys) from ⟨hz, its, c', r', e⟩), rfl, q _ (I.hok.fresh (Nat.le_refl _))⟩
  rcases hq with hq | hq
  · obtain ⟨its, r', pl, hz⟩ := I.list hq
    have hlen := r'.length
    obtain ⟨o, ho, hc, n, hd⟩ := pl.isList
    exact call_list_seq p (.inl rfl) ho hc hd (fun h' c' kp e => fin its r' hz h' c' kp e) (by simp only [List.size_toArray] <;> omega)
  · obtain ⟨its, r', pl, hz⟩ := I.tuple hq
    have hlen := r'.length
    obtain ⟨o, ho, hc, n, hd⟩ := pl
    exact call_list_seq p (.inr rfl) ho hc hd (fun h' c' kp e => fin its r' hz h' c' kp e) (by simp only [List.size_toArray] <;> omega)
theorem call_tuple_of : CallR X (.type "tuple") (fun xs H Q => ∃ p ys, xs = [.ref p] ∧ ((SqL X.K H p ys ∧ ∀ l, H l = none → Q (.ref l) (upd H l (.tup ys))) ∨ (SqT X.K H p ys ∧ Q (.ref p) H))) := by
  intro pins s σ H xs us Q I r h
  obtain ⟨p, ys, rfl, h⟩ := h
  obtain ⟨u, rfl, rx⟩ := vals1 r
  cases rx
  rcases h with ⟨hq, q⟩ | ⟨hq, q⟩
  · obtain ⟨its, r', pl, hz⟩ := I.list hq
    have hlen := r'.length
    refine call_tuple_list pl.isList (fun h' kp => ?_) (by simp only [List.size_toArray] <;> omega)
    have I1 : Inv X pins σ H { s with heap := h' } := I.kept (t' := s.toks) kp
    have I2 : Inv X pins σ (upd H h'.objs.size (.tup ys)) { s with heap := h'.push { cls := .type "tuple", data := .seq its.toArray } } :=
      I1.laid (t' := s.toks) (fun b o e => Heap.get?_push_of_some _ e) (Nat.le_refl _) (show ObjOk X.prog X.w _ _ _ (.tup ys) from ⟨hz, its, r', IsTup.new _ _⟩)
    exact ⟨.ref h'.objs.size, _, I2, rfl, q _ (I1.hok.fresh (Nat.le_refl _))⟩
  · obtain ⟨its, r', pl, hz⟩ := I.tuple hq
    exact call_tuple_same pl ⟨.ref p, H, I, rfl, q⟩

/-! ### the call of a builtin's method: o.m(..) -/
/-- the value is of that builtin type -/
def tyV (K : PySem.W.Frag) (T : String) (x : V) (H : Hp) : Prop := match x with
  | .str _ => T = "str"
  | .int _ => T = "int"
  | .ref p => (T = "list" ∧ ∃ xs, SqL K H p xs) ∨ (T = "tuple" ∧ ∃ o, K.lookup p = some o ∧ o.cls = .type "tuple" ∧ o.dict = none) ∨
      (T = "dict" ∧ ((∃ kvs, H p = some (.dK kvs)) ∨ ∃ kvs, H p = some (.dT kvs))) ∨ (T = "set" ∧ ∃ S n, H p = some (.set S n))
  | _ => False
theorem tyV_is {pins : List (Addr × Obj)} {σ : St} {H : Hp} {s : Shared} {T : String} {x : V} {v : Value} (I : Inv X pins σ H s) (r : RelV x v) (ty : tyV X.K T x H) :
    s.TypeIs v T ∧ ∀ a, v = .ref a → ∃ ob, s.heap.get? a = some ob ∧ ob.dict = none := by
  cases x with
  | str z =>
    obtain ⟨t, rfl⟩ := r
    cases (show T = "str" from ty)
    exact ⟨typeIs_str s z t, fun _ e => nomatch e⟩
  | int i =>
    obtain ⟨t, rfl⟩ := r
    cases (show T = "int" from ty)
    exact ⟨typeIs_int s i t, fun _ e => nomatch e⟩
  | ref p =>
    cases r
    rcases ty with ⟨rfl, xs, hq⟩ | ⟨rfl, o, hk, hc, hd⟩ | ⟨rfl, hk⟩ | ⟨rfl, S, n, hk⟩
    · obtain ⟨its, _, pl, _⟩ := I.list hq
      refine ⟨pl.isList.typeIs, fun a e => ?_⟩
      cases e
      obtain ⟨o, n, e, c, hd, _⟩ := pl
      exact ⟨o, e, hd⟩
    · refine ⟨⟨o, I.kIn p o hk, hc⟩, fun a e => ?_⟩
      cases e
      exact ⟨o, I.kIn _ o hk, hd⟩
    · have z : ∃ o, s.heap.get? p = some o ∧ o.ExactDict := by
        rcases hk with ⟨kvs, hk⟩ | ⟨kvs, hk⟩
        · obtain ⟨_, _, _, _, o, _, _, e, ex, _⟩ := I.hok p _ hk
          exact ⟨o, e, ex⟩
        · obtain ⟨_, _, _, _, o, _, _, e, ex, _⟩ := I.hok p _ hk
          exact ⟨o, e, ex⟩
      obtain ⟨o, e, ex⟩ := z
      refine ⟨⟨o, e, ex.1⟩, fun a e2 => ?_⟩
      cases e2
      exact ⟨o, e, ex.2.1⟩
    · obtain ⟨o, _, _, _, e, ex, _⟩ := I.hok p _ hk
      refine ⟨⟨o, e, ex.1⟩, fun a e2 => ?_⟩
      cases e2
      exact ⟨o, e, ex.2.1⟩
  | _ => exact False.elim ty
def tBM (K : PySem.W.Frag) (T : String) (r : V → List V → Hp → VK → Prop) (to : TE) (t : TA) : TE := fun σ H Q => to σ H fun x H1 => tyV K T x H1 ∧ t σ H1 fun xs H2 => r x xs H2 Q
variable {o e : Expr} {es : List Expr} {to : TE} {t : TA} {name : Str} {apos cpos : Pos} {T id : String} {r : V → List V → Hp → VK → Prop}
theorem pe_bm (pa : PlainAttrs T) (slot : Slot T name id) (hty : typeOf (.builtin id) = pure (.type "method_descriptor")) (hm : MtR X id r) (ho : PE X o to) (ha : PA X (e :: es) t)
    (hbase : attributeBase o name X.env (eval o X.env) = eval o X.env := by rfl)
    (hfew : ((backTo cpos (starEach (e :: es) X.env)).all (fun x => !x.1) && (backToKw cpos (keywordEach [] X.env)).all (fun x => x.1.isSome)
      && decide ((e :: es).length + ([] : List Keyword).length + (if ([] : List Keyword).isEmpty then 0 else 1) < 30)) = true := by rfl)
    (hline : (apos.endLine == cpos.line) = true := by rfl) (hs : starEach (e :: es) X.env = (false, eval e X.env) :: starEach es X.env := by rfl) (hplain : (backTo cpos (starEach es X.env)).any (·.1) = false := by rfl) :
    PE X (.Call (.Attribute o name apos) (e :: es) [] cpos) (tBM X.K T r to t) := by
  intro pins s σ H Q I h
  refine wpAny_Call_method_late hbase hfew hline rfl (thn (ho pins s σ H _ I h) fun v s1 ⟨x, H1, I1, r1, ty, q1⟩ => ?_)
  obtain ⟨h1, h2⟩ := tyV_is I1 r1 ty
  refine ⟨T, id, pa, slot, hty, h1, h2, ?_⟩
  have hA := ha cpos pins s1 σ H1 _ I1 q1
  rw [hs] at hA ⊢
  refine Calls.callWith_builtin (by show (false || (backTo cpos (starEach es X.env)).any (·.1)) = false; rw [hplain] <;> rfl) (Calls.evalArgs_plain ?_)
  exact thn hA fun us s2 ⟨vs, H2, I2, r2, q2⟩ => hm pins s2 σ H2 x vs v us Q I2 r1 r2 q2
/- xs.append(e), list.index on a module's tuple .. are MtR facts of 06m -/
end
end L2

namespace L2
open PySem PySem.Spec PyProof.Rows

def MtM (X : Cx) (id : String) (r : V → List V → Hp → VK → Prop) : Prop :=
  ∀ (pins : List (Addr × Obj)) (s : Shared) (σ : St) (H : Hp) (x : V) (xs : List V) (v : Value) (us : List Value) (Q : VK), Inv X pins σ H s → RelV x v → Vals xs us → r x xs H Q →
    wpAny (model X.prog X.w) X.A (call (.builtin id) (v :: us)) (EP X pins σ Q) X.xe s

/-! ### lists of values -/
theorem Vals.one : ∀ {x : V} {us : List Value}, Vals [x] us → ∃ u, us = [u] ∧ RelV x u
  | _, _, .cons r .nil => ⟨_, rfl, r⟩
theorem Vals.two : ∀ {x y : V} {us : List Value}, Vals [x, y] us → ∃ u v, us = [u, v] ∧ RelV x u ∧ RelV y v
  | _, _, _, .cons r (.cons q .nil) => ⟨_, _, rfl, r, q⟩
theorem Vals.zero : ∀ {us : List Value}, Vals [] us → us = []
  | _, .nil => rfl
theorem Vals.dropLast {xs : List V} {us : List Value} (h : Vals xs us) : Vals xs.dropLast us.dropLast := by
  induction h with
  | nil => exact .nil
  | cons r t ih =>
    cases t with
    | nil => exact .nil
    | cons q t' => exact .cons r ih
theorem Vals.eraseIdx : ∀ {xs : List V} {us : List Value} (i : Nat), Vals xs us → Vals (xs.eraseIdx i) (us.eraseIdx i)
  | _, _, _, .nil => .nil
  | _, _, 0, .cons _ t => t
  | _, _, i + 1, .cons r t => .cons r (Vals.eraseIdx i t)
theorem Vals.reverse {xs : List V} {us : List Value} (h : Vals xs us) : Vals xs.reverse us.reverse := by
  induction h with
  | nil => exact .nil
  | cons r t ih => rw [List.reverse_cons, List.reverse_cons]; exact Vals.append ih (.cons r .nil)
theorem Vals.rep {xs : List V} {us : List Value} (h : Vals xs us) : ∀ k : Nat, Vals (List.replicate k xs).flatten (List.replicate k us).flatten
  | 0 => .nil
  | k + 1 => by
    rw [List.replicate_succ, List.replicate_succ, List.flatten_cons, List.flatten_cons]
    exact Vals.append h (Vals.rep h k)
theorem foldl_rep (its : List Value) : ∀ (k : Nat) (acc : List Value),
    List.foldl (fun x1 x2 => x1 ++ x2) acc.toArray (List.replicate k its.toArray) = (acc ++ (List.replicate k its).flatten).toArray
  | 0, acc => by simp
  | k + 1, acc => by
    have e : acc.toArray ++ its.toArray = (acc ++ its).toArray := by simp
    have e2 : (acc ++ its) ++ (List.replicate k its).flatten = acc ++ (List.replicate (k + 1) its).flatten := by
      rw [List.replicate_succ, List.flatten_cons, List.append_assoc]
    rw [← e2, ← foldl_rep its k (acc ++ its), ← e, List.replicate_succ, List.foldl_cons]

section
variable {X : Cx} {pins : List (Addr × Obj)} {σ : St} {H : Hp} {s : Shared} {l b : Addr} {xs ys zs : List V}

/-! ### the two steps: a tracked list is rewritten, a new list is laid -/
theorem Inv.lset {its its' : List Value} {n : Nat} {f : Array Value → Array Value} {t' : Nat} (I : Inv X pins σ H s) (hH : H l = some (.lst xs))
    (e : s.heap.get? l = some { cls := .type "list", data := .seq its.toArray n }) (hf : f its.toArray = its'.toArray) (hv : Vals ys its') (hz : ys.length ≤ sizeLine) :
    Inv X pins σ (upd H l (.lst ys)) { s with heap := s.heap.update l (Obj.mapSeq f), toks := t' } := by
  have q := PySem.IsL.update e f
  rw [hf] at q
  refine I.write (x := l) (e := l) (by rw [hH]; exact trivial) (.inl rfl) (fun b' u hb hu => (Heap.get?_update_other s.heap (Obj.mapSeq f) (Ne.symm hb)).trans hu) ⟨_, q⟩ ?_
  exact ⟨hz, its', _, hv, q⟩
theorem Inv.lnew {its : List Value} {t' : Nat} (I : Inv X pins σ H s) (hv : Vals ys its) (hz : ys.length ≤ sizeLine) :
    Inv X pins σ (upd H s.heap.objs.size (.lst ys)) { s with heap := s.heap.push { cls := .type "list", data := .seq its.toArray }, toks := t' } :=
  I.laid (fun _ _ q => Heap.get?_push_of_some _ q) (Nat.le_refl _) ⟨hz, its, 0, hv, Heap.get?_push_size _ rfl⟩
theorem Inv.fresh (I : Inv X pins σ H s) : H s.heap.objs.size = none := I.hok.fresh (Nat.le_refl _)
theorem Inv.lstM (I : Inv X pins σ H s) (hH : H l = some (.lst xs)) : xs.length ≤ sizeLine ∧ ∃ (its : List Value) (n : Nat), Vals xs its ∧ xs.length = its.length ∧ s.heap.get? l = some { cls := .type "list", data := .seq its.toArray n } := by
  obtain ⟨z, its, n, r, e⟩ := I.hok l _ hH
  exact ⟨z, its, n, r, r.length, e⟩

theorem notLongL {n : Nat} (h : n ≤ sizeLine) : Builtin.List.listTooLong n = false := by
  unfold Builtin.List.listTooLong
  exact decide_eq_false (by omega)
end

section
variable {X : Cx}

/-! ### methods -/
def rAppend : V → List V → Hp → VK → Prop := fun x vs H Q => ∃ l xs y, x = .ref l ∧ vs = [y] ∧ H l = some (.lst xs) ∧ xs.length < sizeLine ∧ Q .non (upd H l (.lst (xs ++ [y])))
theorem mt_append : MtM X "list.append" rAppend := by
  intro pins s σ H x vs v us Q I rx rv h
  obtain ⟨l, xs, y, rfl, rfl, hH, hz, q⟩ := h
  cases rx
  obtain ⟨u, rfl, ru⟩ := rv.one
  obtain ⟨z, its, n, r, hl, e⟩ := I.lstM hH
  refine call_meets F.slot_list_append ⟨_, e, rfl⟩ F.entry_list_append (F.args_list_append_2 _ _) (PySem.list_append l its.toArray n u (by rw [List.size_toArray]; omega)) ⟨e, ?_⟩
  refine ⟨.non, _, I.lset (its' := its ++ [u]) hH e (by simp) (r.append (.cons ru .nil)) ?_, rfl, q⟩
  rw [List.length_append, List.length_singleton]
  omega

/-! ### list + list, list += list, list * int -/
theorem len_rep {α : Type} (xs : List α) (k : Nat) : (List.replicate k xs).flatten.length = k * xs.length := by
  induction k with
  | zero => simp
  | succ k ih => rw [List.replicate_succ, List.flatten_cons, List.length_append, ih, Nat.succ_mul, Nat.add_comm]
/-! ### del xs[i] -/
end

/-! ### xs[a:b] = ys -/
section
variable {prog : Program} {w : World} {A : Around} {E : Value → Shared → Prop} {s : Shared}
end

section
variable {X : Cx}
end
end L2

namespace Att
open PySem PySem.W PySem.Calls PyProof.Rows

/-! ### the script -/
theorem ints_of_wellAll {P : Params} {h : Heap} : ∀ (ns : List Int) (vs : List Value), WellAll P h vs (ns.map WData.int) → IntsAre vs ns := by
  intro ns
  induction ns with
  | nil =>
    intro vs w
    rw [List.map_nil] at w
    cases w
    exact .nil
  | cons n ns ih =>
    intro vs w
    rw [List.map_cons] at w
    cases w with
    | cons a b =>
      cases a
      exact .cons _ _ (ih _ b)

theorem script_of {l : OpenLaw} {n : Nat} (hn : l.most = some n) {P : Params} {h : Heap} {args : List WData} {vals : List Value}
    (hpre : l.row.toRowW.claim.pre args = true) (hwl : WellAll P h vals args) :
    ∃ a vs ns, vals = [Value.ref a] ∧ args = [WData.list (ns.map WData.int)] ∧ h.get? a = some { cls := .type "list", data := .seq vs.toArray } ∧ IntsAre vs ns ∧ ns.length ≤ n := by
  have hsh : WShape.hasAll [] args [.list .int] = true := (pre_splitW hpre).1
  have hc : l.pre.holds [] { args := args } = true := (pre_splitW hpre).2
  obtain ⟨d, r, rfl, h1, h2⟩ := hasAllW_cons hsh
  obtain rfl := hasAllW_nil h2
  obtain ⟨xs, rfl, h3⟩ := hasW_list h1
  obtain ⟨ns, rfl⟩ := items_int h3
  have hlen : ns.length ≤ n := by
    unfold OpenLaw.pre at hc
    have h4 : (WTm.not (.lt (.lit (.int (n : Int))) (.len (.arg 0)))).holds [] { args := [.list (ns.map .int)] } = true := by
      have h4 := (holds_andW hc).1
      rw [hn] at h4
      exact h4
    have h5 := condW_of h4 (w_not (w_lt w_lit (w_len_list (w_arg rfl))))
    rw [List.length_map] at h5
    refine Nat.le_of_not_lt fun q => ?_
    have q' : (n : Int) < ((ns.length : Nat) : Int) := by omega
    first
      | (rw [decide_eq_true q'] at h5; exact absurd h5 (by decide))
      | (simp at h5; omega)
  cases hwl with
  | cons w1 w2 =>
    cases w2
    cases w1 with
    | list ho hall => exact ⟨_, _, ns, rfl, rfl, ho, ints_of_wellAll ns _ hall, hlen⟩

theorem post_true (l : OpenLaw) (args : List WData) : l.row.toRowW.claim.post args (.bool true) args = true :=
  postW_of (r := l.row.toRowW) (X := (true == true))
    (show WShape.has [] (.bool true) .bool = true by first | rfl | decide | simp [WShape.has, WShape.arms, WShape.armsAll])
    (show (WTm.eq .res (.lit (.bool true))).value [] { args := args, res := some (.bool true), after := args } = some (.bool (true == true)) from w_eq_bool (w_res rfl) w_lit) rfl

/-! ### the attachment: holds_open's last premise (the goal 'hc' behind k_head) from a wpAny of the law's body -/
/-- the same from a codeAny of the CALL (for a layer whose function contracts speak of calls) -/
theorem attach_call {l : OpenLaw} {n : Nat} {q : Program} {loose : List Str} {XP : (Str → Option Value) → Heap → Prop} {YP : World → Heap → Prop} {d : DefRec}
    (hn : l.most = some n) (hdf : d.params.defaults = [])
    (call : ∀ (w : World) (s₀ s₁ : Shared) (mg mb : Str → Option Value) (fa : Addr) (o : Obj) (pm cd doc : Value) (a : Addr) (vs : List Value) (ns : List Int),
      Ground q loose [] XP w s₀ mg mb s₁.heap → YP w s₁.heap →
      s₁.heap.get? fa = some o → o.data = .func (docDef d.name d.params d.body d.scope pm cd doc) → s₁.heap.CodeRec cd d.name → mg d.name = some (.ref fa) →
      s₁.heap.get? a = some { cls := .type "list", data := .seq vs.toArray } → IntsAre vs ns → ns.length ≤ n → s₁.gens = #[] →
      codeAny (model l.prog w) callerA (.call (.ref fa) ⟨[.ref a], []⟩) (fun r s' => r = .ok (.ret (.bool true)) ∧ OldK s₁.heap s'.heap ∧ s'.os = s₁.os ∧ AllBare s'.gens) s₁) :
    WalkO q loose XP YP l.row.toRowW d [] (fun f vs => PySem.call f vs) := by
  intro w s₀ s₁ mg mb G Y fa o pm cd doc dV kV ho hd hcd hD hmg hg args vals as hpre hlay hrd hwl hlo
  obtain rfl : dV = .none := Dflts.none hD hdf
  obtain rfl : kV = .none := Dflts.noKw hD
  obtain ⟨a, vs, ns, rfl, rfl, hobj, hints, hlen⟩ := script_of hn hpre hwl
  refine enter_call (codeAny_mono (call w s₀ s₁ mg mb fa o pm cd doc a vs ns G Y ho (fd_plain hd) hcd hmg hobj hints hlen hg) fun r s' hq => ?_)
  obtain ⟨rfl, h2, h3, h4⟩ := hq
  exact ⟨.inl ⟨.bool true, .bool true, [], rfl, fun _ => rfl, .bool true, post_true l _, fun _ => ⟨List.Pairwise.nil, fun _ hm => (nomatch hm)⟩⟩, h2, h3, h4⟩

/-! ### rules over ANY heap (no ledger) from facts about the written part K: the library's own take a ledger (News) for what they write -/
section
variable {prog : Program} {w : World} {A : Around} {E : Value → Shared → Prop} {s : Shared} {K : Frag}

/-! the whole heap as the ledger: makes every rule that writes through a ledger a rule over any heap -/
end
end Att

namespace L2
open PySem PySem.Spec PyProof.Rows

theorem vals_ints : ∀ {vs : List Value} {ns : List Int}, IntsAre vs ns → Vals (ns.map V.int) vs
  | _, _, .nil => .nil
  | _, _, .cons n t h => .cons ⟨t, rfl⟩ (vals_ints h)

/-- nothing is tracked but the script, known to the object (or it is an object of the module) -/
def Only (H : Hp) : Prop := ∀ b, H b = none ∨ ∃ o xs, H b = some (.frz o (.lst xs))

/-- THE HEAD: the law's promise, at the heap behind the top. F, the promise of the law's def, may use that base is part of the heap (so K.In base, base.Ns mainGlobals mg stand in Mod) -/
theorem law_call {P : Program} {w : World} {K : PySem.W.Frag} {mg mb : Str → Option Value} {CX : CXT} {k : Nat} {fa a : Addr} {fd : FuncData} {x : Str} {sp : Sp} {s₁ : Shared} {vs : List Value} {ns : List Int}
    (KX : K.In s₁.heap) (hns : s₁.heap.Ns mainGlobals mg) (hb : s₁.heap.Ns builtinsNs mb) (hbb : ∀ x : Str, x ≠ "__name__" → mb x = bootBuiltins x) (hlim : s₁.heap.NoLimit) (hg : s₁.gens = #[])
    (ha : s₁.heap.get? a = some { cls := .type "list", data := .seq vs.toArray }) (hi : IntsAre vs ns) (hl : ns.length ≤ sizeLine) (hr : Room k callerA)
    (F : ∀ base : Heap, K.In base → base.Ns mainGlobals mg → FnOk P w K mg base CX k fa fd [x] sp) (hbind : ∀ (s : Shared) (u : Value), BindsTo s fd ⟨[u], []⟩ [(x, u)])
    (hsp : ∀ H : Hp, Only H → SqL K H a (ns.map V.int) → sp [.ref a] H (fun v _ => v = .bl true) fun _ _ _ => False)
    (hCX : ∀ H e s', CX [] H s₁ (fun _ _ _ => False) e s' → False) :
    codeAny (model P w) callerA (.call (.ref fa) ⟨[.ref a], []⟩) (fun r s' => r = .ok (.ret (.bool true)) ∧ OldK s₁.heap s'.heap ∧ s'.os = s₁.os ∧ AllBare s'.gens) s₁ := by
  have rv := vals_ints hi
  have lenV := hi.length
  -- from an abstract heap in which nothing but the script may be tracked
  have core : ∀ H : Hp, Only H → SqL K H a (ns.map V.int) → HOk P w H s₁.heap → (∀ b, H b ≠ none → b = a) → (H a ≠ none → K.lookup a = none) →
      codeAny (model P w) callerA (.call (.ref fa) ⟨[.ref a], []⟩) (fun r s' => r = .ok (.ret (.bool true)) ∧ OldK s₁.heap s'.heap ∧ s'.os = s₁.os ∧ AllBare s'.gens) s₁ := by
    intro H hO hS hok hA hK
    have base_of : ∀ {b : Addr} {o : Obj}, s₁.heap.get? b = some o → H b = none → (hidT s₁.heap H).get? b = some o := fun e n => hidT_get e n
    have noA : ∀ {b : Addr} {o : Obj} {es : Array DictEntry} {ep : Nat}, s₁.heap.get? b = some o → o.data = .dict es ep → H b = none := fun {b o es ep} e d => by
      cases q : H b with
      | none => rfl
      | some u =>
        have e' : b = a := hA b (by rw [q]; simp)
        subst e'
        rw [ha] at e; cases e
        have d' : Data.seq vs.toArray _ = Data.dict es ep := d
        cases d'
    have nsK : ∀ {b : Addr} {m : Str → Option Value}, s₁.heap.Ns b m → (hidT s₁.heap H).Ns b m := fun {b m} ⟨o, es, ep, e, d, r⟩ => ⟨o, es, ep, base_of e (noA e d), d, r⟩
    have hKb : K.In (hidT s₁.heap H) := fun b o e => base_of (KX b o e) (by
      cases q : H b with
      | none => rfl
      | some u =>
        have e' : b = a := hA b (by rw [q]; simp)
        subst e'
        rw [hK (by rw [q]; simp)] at e; cases e)
    have hM : Mod K mg (hidT s₁.heap H) := ⟨hKb, nsK hns, ⟨mb, nsK hb, hbb⟩, let ⟨mc, h1, h2⟩ := hlim; ⟨mc, nsK h1, h2⟩⟩
    have e0 : Env0 P w K mg (hidT s₁.heap H) callerA [] s₁ H := ⟨rfl, hM, fun b o e => of_hidT e, Nat.le_of_eq (hidT_size _ _), trivial, fun b hb => absurd (show b ∈ ([] : List Addr) from hb) (by simp), hok, .of_eq hg⟩
    refine codeAny_mono ((F _ hKb (nsK hns)).run callerA [] s₁ H ⟨[.ref a], []⟩ [.ref a] [.ref a] _ _ hr e0 (hbind s₁ (.ref a)) (.cons rfl .nil) (hsp H hO hS)) fun r s' h => ?_
    cases r with
    | error e => exact (hCX H e s' h).elim
    | ok fl =>
      cases fl with
      | next => exact False.elim h
      | brk => exact False.elim h
      | cont => exact False.elim h
      | ret u =>
        obtain ⟨v, H', os, bare, un, hok', r', q⟩ := h
        have q' : v = .bl true := q
        subst q'
        obtain rfl : u = Value.bool true := r'
        refine ⟨rfl, OldK.of_keep fun b o e => ?_, os, bare⟩
        cases q : H b with
        | none => exact un.keep b o e q (by intro z; exact absurd (show b ∈ ([] : List Addr) from z) (by simp)) (by simp)
        | some u =>
          rcases hO b with z | ⟨ob, xs, z⟩
          · rw [q] at z; cases z
          · have z2 := un.frzs b ob _ z
            obtain ⟨e1, _⟩ := hok b _ z
            obtain ⟨e2, _⟩ := hok' b _ z2
            rw [e] at e1; cases e1
            exact e2
  cases hk : K.lookup a with
  | some o =>
    -- the script is one of the module's own objects
    have e := KX a o hk
    rw [ha] at e
    cases e
    refine core (fun _ => none) (fun _ => .inl rfl) (.inr ⟨_, vs.toArray, _, hk, rfl, rfl, rfl, by rw [List.size_toArray, lenV]; exact hl, by simpa using rv⟩) (fun b u z => by have z' : (none : Option HO) = some u := z; cases z') (fun b z => absurd rfl z) fun z => absurd rfl z
  | none =>
    refine core (fun b => if b = a then some (.frz { cls := .type "list", data := .seq vs.toArray } (.lst (ns.map V.int))) else none) (fun b => ?_) (.inl (.inr ⟨{ cls := .type "list", data := .seq vs.toArray }, if_pos rfl⟩)) (fun b u z => ?_) (fun b z => ?_) fun _ => hk
    · by_cases hb : b = a
      · exact .inr ⟨_, _, if_pos hb⟩
      · exact .inl (if_neg hb)
    · by_cases hb : b = a
      · have z' := (if_pos hb).symm.trans z
        cases z'
        subst hb
        exact ⟨ha, by rw [List.length_map]; exact hl, vs, _, rv, ha⟩
      · have z' := (if_neg hb).symm.trans z
        cases z'
    · by_cases hb : b = a
      · exact hb
      · exact absurd (if_neg hb) z
end L2

namespace L2
open PySem PySem.Spec PyProof.Rows

/-- the goal that k_head leaves (case hc), from the law's promise. F gives the function object fd (K's own) once, then the promise over every base -/
theorem walk_of {l : PySem.W.OpenLaw} {n k : Nat} {q : Program} {loose : List Str} {XP : (Str → Option Value) → Heap → Prop} {YP : World → Heap → Prop} {d : DefRec} {K : Params → PySem.W.Frag} {CX : World → CXT} {sp : World → Sp} {x : Str}
    (hn : l.most = some n) (hn2 : n ≤ sizeLine) (hdf : d.params.defaults = []) (hr : Room k callerA)
    (hY : ∀ (w : World) (h : Heap), YP w h → (K w.params).In h)
    (F : ∀ (w : World) (mg : Str → Option Value) (fa : Addr) (h : Heap), (K w.params).In h → h.Ns mainGlobals mg → mg d.name = some (.ref fa) →
      ∃ fd : FuncData, (∀ (s : Shared) (u : Value), BindsTo s fd ⟨[u], []⟩ [(x, u)]) ∧
        ∀ base : Heap, (K w.params).In base → base.Ns mainGlobals mg → FnOk l.prog w (K w.params) mg base (CX w) k fa fd [x] (sp w))
    (hsp : ∀ (w : World) (H : Hp) (a : Addr) (ns : List Int), ns.length ≤ n → Only H → SqL (K w.params) H a (ns.map V.int) → sp w [.ref a] H (fun v _ => v = .bl true) fun _ _ _ => False)
    (hCX : ∀ (w : World) (H : Hp) (s : Shared) (e : Value) (s' : Shared), CX w [] H s (fun _ _ _ => False) e s' → False) :
    PySem.W.WalkO q loose XP YP l.row.toRowW d [] (fun f vs => PySem.call f vs) := by
  refine Att.attach_call hn hdf fun w s₀ s₁ mg mb fa o pm cd doc a vs ns G Y ho hd hcd hmg hobj hints hlen hg => ?_
  have KX := hY w _ Y
  obtain ⟨fd, hb, hF⟩ := F w mg fa _ KX G.T.g hmg
  exact law_call KX G.T.g G.T.b G.T.builtins G.T.nolimit hg hobj hints (Nat.le_trans hlen hn2) hr hF hb (fun H hO hS => hsp w H a ns hlen hO hS) fun H e s' => hCX w H s₁ e s'
/-- the same where the promise hangs on the written part alone: (sp := My.sp_law), no hole under a binder -/
theorem walk_ofK {l : PySem.W.OpenLaw} {n k : Nat} {q : Program} {loose : List Str} {XP : (Str → Option Value) → Heap → Prop} {YP : World → Heap → Prop} {d : DefRec} {K : Params → PySem.W.Frag} {CX : CXT} {sp : PySem.W.Frag → Sp} {x : Str}
    (hn : l.most = some n) (hn2 : n ≤ sizeLine) (hdf : d.params.defaults = []) (hr : Room k callerA)
    (hY : ∀ (w : World) (h : Heap), YP w h → (K w.params).In h)
    (F : ∀ (w : World) (mg : Str → Option Value) (fa : Addr) (h : Heap), (K w.params).In h → h.Ns mainGlobals mg → mg d.name = some (.ref fa) →
      ∃ fd : FuncData, (∀ (s : Shared) (u : Value), BindsTo s fd ⟨[u], []⟩ [(x, u)]) ∧
        ∀ base : Heap, (K w.params).In base → base.Ns mainGlobals mg → FnOk l.prog w (K w.params) mg base CX k fa fd [x] (sp (K w.params)))
    (hsp : ∀ (K : PySem.W.Frag) (H : Hp) (a : Addr) (ns : List Int), ns.length ≤ n → Only H → SqL K H a (ns.map V.int) → sp K [.ref a] H (fun v _ => v = .bl true) fun _ _ _ => False)
    (hCX : ∀ (H : Hp) (s : Shared) (e : Value) (s' : Shared), CX [] H s (fun _ _ _ => False) e s' → False) :
    PySem.W.WalkO q loose XP YP l.row.toRowW d [] (fun f vs => PySem.call f vs) :=
  walk_of (K := K) (CX := fun _ => CX) (sp := fun w => sp (K w.params)) hn hn2 hdf hr hY F (fun w H a ns h1 h2 h3 => hsp (K w.params) H a ns h1 h2 h3) fun _ H s e s' => hCX H s e s'
end L2

/- THE LAST THEOREM (shape; LID, My.* are yours):
   My.Adr: a structure of the addresses that your layer names (classes, functions); My.Txt K t: a structure (Prop) of the equations over K;
   My.txt_mk : {K} {implicit addresses ..} (e1 : nsIn K mainGlobals "law" = some (some (.ref f))) (e2 : K.lookup f = some ⟨oc, od, .func (fnOf "law" "law" params body scope dV kV doc pm an cdv ct), sl⟩) (e3 : codeIn K cdv "law" = true) .. : ∃ t, My.Txt K t

set_option maxRecDepth 100000 in
set_option maxHeartbeats 0 in
theorem PySem.Challenge.cw_LID_holds : PySem.Challenge.rw_LID.Holds := by
  w_on; o_law; k_head; (case hw => w_witness2)
  k_fill
  refine L2.walk_of (l := PySem.Challenge.rw_LID) (n := 63) (k := 40) (x := "script") (CX := fun w => ..) (sp := fun _ => My.sp_law) rfl (by decide) rfl ⟨rfl, by decide, by decide⟩ (fun w h Y => PySem.W.kIn_of Y) ?F ?S ?C
  case F =>
    intro w mg fa h KX G hmg
    have T : ∃ t, My.Txt (L2.KOf KX) t := by
      dsimp only [L2.KOf]                          -- K must stand as «<heap const> w.params» for k_is
      refine' My.txt_mk ?e1 ?e2 ?e3 ..
      (case e1 => PySem.W.k_is)                    -- in the order: a name -> its address -> its object -> its parts
      (case e2 => PySem.W.k_is)
      ..
    obtain ⟨t, T⟩ := T
    have e0 := hmg.symm.trans (PySem.W.mg_of KX G T.law)
    cases e0                                       -- fa is the law's own address
    exact ⟨_, fun s u => .of_eq rfl, fun base kb nb => My.law_fn T kb nb⟩     -- if «.of_eq rfl» comes too early: refine' ⟨_, ?b, fun base kb nb => My.law_fn T kb nb⟩; exact fun s u => .of_eq rfl
  case S => exact fun w H a ns hl hO hS => ..
  case C => exact ..
(the tactic k_is has no namespace: write k_is) -/

/-! SHORT WORDS over the layer: a def of the text, its body, what a loop and a test want. -/
namespace L2
open PySem PySem.Spec PyProof.Rows

/-! ### the text by places -/
def defArgs (s : Stmt) : Arguments := match s with
  | .FunctionDef _ a _ _ _ _ _ _ _ _ => a
  | _ => { posonlyargs := [], args := [], vararg := none, kwonlyargs := [], kw_defaults := [], kwarg := none, defaults := [] }
def defBody (s : Stmt) : List Stmt := match s with
  | .FunctionDef _ _ b _ _ _ _ _ _ _ => b
  | _ => []
def defScope (s : Stmt) : Scope := match s with
  | .FunctionDef _ _ _ _ _ _ sc _ _ _ => sc
  | _ => { kind := .function, names := [], isGenerator := false, isCoroutine := false }

/-! ### no exception leaves a def -/
abbrev CX0 : CXT := fun _ _ _ _ _ _ => False
abbrev E0 : XK := fun _ _ _ => False
theorem pass0 {X : Cx} : Passes CX0 X E0 := fun _ _ _ _ _ _ _ h => h.elim

/-! ### a def (or method) of the text as it stands behind the top -/
structure Fun (K : PySem.W.Frag) (x qual : Str) (st : Stmt) (f : Addr) (fd : FuncData) : Prop where
  ex : ∃ (oc : Value) (od : Option Addr) (kV doc pm : Value) (an : Option Addr) (cdv ct : Value) (osl : Array (Option Value)),
    fd = PySem.W.fnOf x qual (defArgs st) (defBody st) (defScope st) .none kV doc pm an cdv ct ∧ K.lookup f = some ⟨oc, od, .func fd, osl⟩ ∧ PySem.W.codeIn K cdv qual = true
  kp : PySem.W.keepIn K (.ref f) = true
section
variable {P : Program} {w : World} {K : PySem.W.Frag} {mg : Str → Option Value} {base : Heap}
/-- THE RULE for a def: its body as a term of rules, and the reading of that term -/
theorem Fun.ok {x qual : Str} {st : Stmt} {f : Addr} {fd : FuncData} {N ps : List Str} {k : Nat} {sp : Sp} (F : Fun K x qual st f fd) (S : FnScope N ps (defScope st)) (len : ∀ vs H Q E, sp vs H Q E → vs.length = ps.length)
    (hbody : ∀ (cdv : Value) (A : Around) (outer : List Env) (s : Shared) (H : Hp) (vs : List V) (Q : VK) (E : XK), Room k (A.deeper (envOfC qual (defScope st) s.heap.objs.size f cdv)) → sp vs H Q E →
      ∃ t, PSs (cxOf CX0 P w K mg base N qual (defScope st) f cdv A outer s H E).nox (defBody st) t ∧ t { nx := fun _ H' => Q .non H', rt := Q } (start N vs) H) : FnOk P w K mg base CX0 (k + 1) f fd ps sp := by
  obtain ⟨oc, od, kV, doc, pm, an, cdv, ct, osl, rfl, lk, hcd⟩ := F.ex
  refine fn_of lk hcd S len fun A outer s H vs Q E hr hsp => ?_
  obtain ⟨t, h, q⟩ := hbody cdv A outer s H vs Q E hr hsp
  exact ⟨t, h.nox, q⟩
/-- how its arguments bind (no defaults): h is «fun _ _ _ _ _ _ us hl => match us, hl with | [_, _], _ => rfl», one _ a parameter -/
theorem Fun.binds {x qual : Str} {st : Stmt} {f : Addr} {fd : FuncData} {ps : List Str} (F : Fun K x qual st f fd)
    (h : ∀ (kV doc pm : Value) (an : Option Addr) (cdv ct : Value) (us : List Value), us.length = ps.length → bindArgs (PySem.W.fnOf x qual (defArgs st) (defBody st) (defScope st) .none kV doc pm an cdv ct) ⟨us, []⟩ = pure (ps.zip us)) : Binds K fd ps [] := by
  obtain ⟨oc, od, kV, doc, pm, an, cdv, ct, osl, rfl, lk, hcd⟩ := F.ex
  exact .all (h kV doc pm an cdv ct)
theorem fun_mk {x qual : Str} {st : Stmt} {f : Addr} {oc : Value} {od an : Option Addr} {osl : Array (Option Value)} {kV doc pm cdv ct : Value} (l : K.lookup f = some ⟨oc, od, .func (PySem.W.fnOf x qual (defArgs st) (defBody st) (defScope st) .none kV doc pm an cdv ct), osl⟩)
    (c : PySem.W.codeIn K cdv qual = true) (k : PySem.W.keepIn K (.ref f) = true) : Fun K x qual st f (PySem.W.fnOf x qual (defArgs st) (defBody st) (defScope st) .none kV doc pm an cdv ct) := ⟨⟨oc, od, kV, doc, pm, an, cdv, ct, osl, rfl, l, c⟩, k⟩
end
/-! ### expressions in short: the name that stands in the i-th slot -/
section
variable {X : Cx}
end

/-! ### tests -/
/-! ### heaps -/
/-- all that was tracked is as it was -/
def Same (H H' : Hp) : Prop := ∀ b o, H b = some o → H' b = some o
theorem Same.refl (H : Hp) : Same H H := fun _ _ h => h
theorem Same.trans {H H1 H2 : Hp} (a : Same H H1) (b : Same H1 H2) : Same H H2 := fun c o h => b c o (a c o h)
theorem Same.free {H H' : Hp} (e : Same H H') {l : Addr} (h : H' l = Option.none) : H l = Option.none := by
  cases q : H l with
  | none => rfl
  | some o =>
    rw [e l o q] at h
    cases h
theorem Same.seq {K : PySem.W.Frag} {H H' : Hp} {a : Addr} {xs : List V} (e : Same H H') (h : SqL K H a xs) : SqL K H' a xs := by
  rcases h with (h | ⟨o, h⟩) | h
  · exact .inl (.inl (e _ _ h))
  · exact .inl (.inr ⟨o, e _ _ h⟩)
  · exact .inr h

end L2
set_option maxHeartbeats 0
namespace L2
open PySem PySem.Spec PyProof.Rows

/-! ### lists of pairs as tables -/
section
variable {κ : Type} [DecidableEq κ]
def valV (kvs : List (κ × V)) (k : κ) : Option V := (kvs.find? fun kv => decide (kv.1 = k)).map (·.2)
/-- in its place, or at the end -/
def putK (kvs : List (κ × V)) (k : κ) (v : V) : List (κ × V) :=
  if (kvs.any fun kv => decide (kv.1 = k)) = true then kvs.map (fun kv => if kv.1 = k then (kv.1, v) else kv) else kvs ++ [(k, v)]
def dropK (kvs : List (κ × V)) (k : κ) : List (κ × V) := kvs.filter fun kv => decide (kv.1 ≠ k)

theorem RelO.getD {o : Option V} {u : Option Value} {d : V} {d' : Value} (r : RelO o u) (rd : RelV d d') : RelV (o.getD d) (u.getD d') := by
  cases o with
  | none => cases u with
    | none => exact rd
    | some _ => exact (show False from r).elim
  | some _ => cases u with
    | none => exact (show False from r).elim
    | some _ => exact r

theorem KV.any {kvs : List (κ × V)} {vs : List (κ × Value)} (r : KV kvs vs) (k : κ) : (kvs.any fun kv => decide (kv.1 = k)) = vs.any fun kv => decide (kv.1 = k) := by
  unfold KV at r
  induction r with
  | nil => rfl
  | cons h t ih => rw [List.any_cons, List.any_cons, ih, h.1]
theorem KV.drop {kvs : List (κ × V)} {vs : List (κ × Value)} (r : KV kvs vs) (k : κ) : KV (dropK kvs k) (without vs k) := by
  unfold KV at r ⊢
  unfold dropK without
  induction r with
  | nil => exact .nil
  | @cons p q ps qs h t ih =>
    obtain ⟨h1, h2⟩ := h
    rw [List.filter_cons, List.filter_cons]
    by_cases e : p.1 = k
    · have a : ¬ decide (p.1 ≠ k) = true := by simp [e]
      have b : ¬ decide (q.1 ≠ k) = true := by simp [h1.symm.trans e]
      rw [if_neg a, if_neg b]; exact ih
    · have e' : ¬ q.1 = k := fun z => e (h1.trans z)
      have a : decide (p.1 ≠ k) = true := by simp [e]
      have b : decide (q.1 ≠ k) = true := by simp [e']
      rw [if_pos a, if_pos b]; exact .cons ⟨h1, h2⟩ ih
theorem KV.length {kvs : List (κ × V)} {vs : List (κ × Value)} (r : KV kvs vs) : kvs.length = vs.length := Paired.length r
end


/-! ### a tracked dict, its keys ints and texts or tuples of these -/
/-- raw entries of a dict with tuple keys -/
abbrev KT (H : Hp) : List (List Key × V) → List (List Key × Addr × Value) → Prop := Paired fun p q => p.1 = q.1 ∧ H q.2.1 = some (.tup (p.1.map kV)) ∧ RelV p.2 q.2.2
theorem KT.keeps {H H' : Hp} {kvs : List (List Key × V)} {xs : List (List Key × Addr × Value)} (r : KT H kvs xs) (ht : ∀ b ys, H b = some (.tup ys) → H' b = some (.tup ys)) : KT H' kvs xs :=
  Paired.mapP r fun _ _ z => ⟨z.1, ht _ _ z.2.1, z.2.2⟩

section
variable {P : Program} {w : World} {H : Hp} {h : Heap} {a : Addr}
end

/-- what the dict at a holds at the key y -/
def DGet (H : Hp) (a : Addr) (y : V) (r : Option V) : Prop :=
  (∃ kvs k, Rd H a (.dK kvs) ∧ y = kV k ∧ r = valV kvs k) ∨ ∃ kvs k b, Rd H a (.dT kvs) ∧ y = .ref b ∧ H b = some (.tup (k.map kV)) ∧ r = valV kvs k
/-- the heap behind a[y] = v -/
def DPut (H : Hp) (a : Addr) (y v : V) (H' : Hp) : Prop :=
  (∃ kvs k, H a = some (.dK kvs) ∧ y = kV k ∧ kvs.length < sizeLine ∧ H' = upd H a (.dK (putK kvs k v))) ∨
  ∃ kvs k b, H a = some (.dT kvs) ∧ y = .ref b ∧ H b = some (.tup (k.map kV)) ∧ kvs.length < sizeLine ∧ H' = upd H a (.dT (putK kvs k v))
theorem DGet.k {H : Hp} {a : Addr} {kvs : List (Key × V)} {k : Key} (e : H a = some (.dK kvs)) : DGet H a (kV k) (valV kvs k) := .inl ⟨kvs, k, .inl e, rfl, rfl⟩
theorem DGet.t {H : Hp} {a b : Addr} {kvs : List (List Key × V)} {k : List Key} (e : H a = some (.dT kvs)) (eb : H b = some (.tup (k.map kV))) : DGet H a (.ref b) (valV kvs k) := .inr ⟨kvs, k, b, .inl e, rfl, eb, rfl⟩
theorem DPut.k {H : Hp} {a : Addr} {kvs : List (Key × V)} {k : Key} {v : V} (e : H a = some (.dK kvs)) (hl : kvs.length < sizeLine) : DPut H a (kV k) v (upd H a (.dK (putK kvs k v))) := .inl ⟨kvs, k, e, rfl, hl, rfl⟩
theorem DPut.t {H : Hp} {a b : Addr} {kvs : List (List Key × V)} {k : List Key} {v : V} (e : H a = some (.dT kvs)) (eb : H b = some (.tup (k.map kV))) (hl : kvs.length < sizeLine) :
    DPut H a (.ref b) v (upd H a (.dT (putK kvs k v))) := .inr ⟨kvs, k, b, e, rfl, eb, hl, rfl⟩


section
variable {X : Cx} {pins : List (Addr × Obj)} {σ : St} {H : Hp} {s : Shared} {a : Addr} {y v : V} {u r : Value} {o : Option V} {A : Around} {E : Value → Shared → Prop}

end

section
variable {X : Cx} {pins : List (Addr × Obj)} {σ : St} {H : Hp} {s : Shared} {a : Addr} {kvs : List (Key × V)} {k : Key} {u : Value} {A : Around} {E : Value → Shared → Prop}
end


/-! ### readings and rules -/
section
variable {X : Cx} {o i e value : Expr} {pos pos' tpos : Pos} {td ty tv : TE}
end


/-! ### displays -/
section
variable {X : Cx} {pos : Pos}
end

/-! ### methods -/
/-- a method call o.m(e) of a built-in, with one argument: what must be seen of the text -/
structure M1 (X : Cx) (o : Expr) (m : Str) (apos : Pos) (e : Expr) (cpos : Pos) : Prop where
  base : attributeBase o m X.env (eval o X.env) = eval o X.env
  few : ((backTo cpos (starEach [e] X.env)).all (fun x => !x.1) && (backToKw cpos (keywordEach [] X.env)).all (fun x => x.1.isSome)
    && decide (([e] : List Expr).length + ([] : List Keyword).length + (if ([] : List Keyword).isEmpty then 0 else 1) < 30)) = true
  line : (apos.endLine == cpos.line) = true
  trees : backTo cpos (starEach [e] X.env) = [(false, eval e X.env)]
structure M2 (X : Cx) (o : Expr) (m : Str) (apos : Pos) (e f : Expr) (cpos : Pos) : Prop where
  base : attributeBase o m X.env (eval o X.env) = eval o X.env
  few : ((backTo cpos (starEach [e, f] X.env)).all (fun x => !x.1) && (backToKw cpos (keywordEach [] X.env)).all (fun x => x.1.isSome)
    && decide (([e, f] : List Expr).length + ([] : List Keyword).length + (if ([] : List Keyword).isEmpty then 0 else 1) < 30)) = true
  line : (apos.endLine == cpos.line) = true
  trees : backTo cpos (starEach [e, f] X.env) = [(false, eval e X.env), (false, eval f X.env)]

section
variable {X : Cx} {pins : List (Addr × Obj)} {σ : St} {H : Hp} {s : Shared} {a : Addr} {y d : V} {u r : Value} {o : Option V} {A : Around} {E : Value → Shared → Prop}
end

section
variable {X : Cx} {o e f : Expr} {apos cpos : Pos} {td ty tx : TE}
end

/-! ### dict(d): a copy -/
section
variable {X : Cx} {pins : List (Addr × Obj)} {σ : St} {H : Hp} {s : Shared} {a : Addr} {kvs : List (Key × V)} {A : Around} {E : Value → Shared → Prop}
end


section
variable {X : Cx} {pins : List (Addr × Obj)} {σ : St} {H : Hp} {s : Shared} {a : Addr} {y : V} {u : Value} {A : Around} {E : Value → Shared → Prop}
end
end L2
/-! More rules over the hand layer: walks over a text, comprehensions, all, join, slices of a text, isinstance. -/
namespace L2
open PySem PySem.Spec PyProof.Rows

/-! ### the signs of a text, walked -/
def Its (x : Str) : It := ⟨fun i _ => i < x.cps.size, fun i H v H' => H' = H ∧ ∃ c, x.cps[i]? = some c ∧ v = .str ⟨#[c]⟩, fun i _ => x.cps.size ≤ i⟩
theorem turn_str {P : Program} {w : World} {K : PySem.W.Frag} {tg : Expr} (it : Addr) (T : String) (hT : T = "str_ascii_iterator" ∨ T = "str_iterator") (x : Str) (t : Tok) :
    Turn P w K tg (Its x) [it] it (fun i h => h.IsStrIter it T x t i) where
  mem := by simp
  obj := fun i h st b hb => by
    have e : b = it := by simpa using hb
    subst e
    obtain ⟨o, e, c, d⟩ := st
    exact ⟨o, e, fun v z => by rw [d] at z; cases z⟩
  keep := fun i h h' st k => by
    obtain ⟨o, e, r⟩ := st
    exact ⟨o, k it (by simp) o e, r⟩
  item := by
    intro X hP hw hK hc i pins s σ H E I hf st hg
    subst hP hw hK
    have hlt : i < x.cps.size := hg
    have hx : x.cps[i]? = some x.cps[i] := by simp [hlt]
    obtain ⟨f0, f1, f2, f3, f4, f5⟩ := hf it (by simp)
    have fin : ∀ h', h'.IsStrIter it T x t (i + 1) → Heap.SameBut it s.heap h' →
        ∃ u, (some (Value.str ⟨#[x.cps[i]]⟩ s.toks)) = some u ∧ wpAny (model X.prog X.w) X.A (letOwnedTupleGo tg (.ref it) u) (fun _ s2 => ∃ x_1 H', Inv X pins σ H' s2 ∧ RelV x_1 u ∧ (Its x).yld i H x_1 H' ∧ s2.heap.IsStrIter it T x t (i + 1) ∧ ∀ b ∈ [it], H' b = none) E { s with heap := h', toks := s.toks + 1 } := by
      intro h' st' sb
      have I1 : Inv X pins σ H { s with heap := h', toks := s.toks + 1 } := I.turned (fun b o hb e => (sb.2 b hb).trans e) f0 f1 f3 f4 f5
      obtain ⟨o, e, c, d⟩ := id st'
      refine ⟨_, rfl, go_of (s := { s with heap := h', toks := s.toks + 1 }) (n := T) e c d (by rcases hT with rfl | rfl <;> decide) ⟨.str ⟨#[x.cps[i]]⟩, H, I1, ⟨_, rfl⟩, ⟨rfl, _, hx, rfl⟩, st', fun b hb => (hf b hb).1⟩⟩
    rcases hT with rfl | rfl
    · exact wpAny_pyNext_ascii_item st hx fun h' st' sb => fin h' st' sb
    · exact wpAny_pyNext_wide_item st hx fun h' st' sb => fin h' st' sb
  done := by
    intro X hP hw hK hc i pins s σ H E I hf st hg
    subst hP hw hK
    have hge : x.cps.size ≤ i := hg
    have hx : x.cps[i]? = none := by simp [hge]
    obtain ⟨f0, f1, f2, f3, f4, f5⟩ := hf it (by simp)
    rcases hT with rfl | rfl
    · exact wpAny_pyNext_ascii_end (I.ok.hd hc) st hx fun h' eb => ⟨rfl, I.turned (t' := s.toks) (fun b o hb e => eb b o hb e) f0 f1 f3 f4 f5⟩
    · exact wpAny_pyNext_wide_end (I.ok.hd hc) st hx fun h' eb => ⟨rfl, I.turned (t' := s.toks) (fun b o hb e => eb b o hb e) f0 f1 f3 f4 f5⟩
  self := fun _ _ _ _ _ st h => by
    rcases hT with rfl | rfl
    · exact wpAny_pyIter_striter_ascii st h
    · exact wpAny_pyIter_striter_wide st h
def iStr (te : TE) : TI := fun σ H R => te σ H fun v H1 => ∃ x, v = .str x ∧ R (Its x) H1
theorem pi_str {X : Cx} {tg e : Expr} {te : TE} (he : PE X e te) : PI X tg e (iStr te) := by
  intro pins s σ H R I h
  refine thn (he pins s σ H _ I h) fun v s1 ⟨y, H1, I1, r1, q1⟩ => ?_
  obtain ⟨x, rfl, q⟩ := q1
  obtain ⟨t, rfl⟩ := r1
  have fp : ∀ (o : Obj), ∀ b ∈ [s1.heap.objs.size], FpOk X pins H1 b := fun o b hb => by
    have e : b = s1.heap.objs.size := by simpa using hb
    subst e
    exact I1.fpOk (Nat.le_refl _) (I1.hok.fresh (Nat.le_refl _))
  cases ha : x.cps.all (· < 128) with
  | true =>
    exact wpAny_pyIter_ascii ha ⟨s1.heap.objs.size, [s1.heap.objs.size], _, _, H1, rfl, I1.kept (t' := s1.toks) fun b o e => Heap.get?_push_of_some _ e, turn_str _ "str_ascii_iterator" (.inl rfl) x t, ⟨_, Heap.get?_push_size _ rfl, rfl, rfl⟩, fp default, q⟩
  | false =>
    exact wpAny_pyIter_wide ha ⟨s1.heap.objs.size, [s1.heap.objs.size], _, _, H1, rfl, I1.kept (t' := s1.toks) fun b o e => Heap.get?_push_of_some _ e, turn_str _ "str_iterator" (.inr rfl) x t, ⟨_, Heap.get?_push_size _ rfl, rfl, rfl⟩, fp default, q⟩

/-! ### comprehensions -/
/-- a comprehension's block, within the body X: its own names N' -/
def cxComp (X : Cx) (scope : Scope) (cl : List (Str × Addr)) (N' : List Str) (s : Shared) (H : Hp) (ex : List Addr) : Cx :=
  { X with N := N', s₀ := s, H₀ := H, env := compEnvC scope cl s.heap.objs.size X.env, outer := X.stack, ex := ex, fn := fun _ => false, pn := [], xe := fun _ _ => False }
/-- N' is n names of the comprehension's own (its targets), then captured ones, those of the body's places caps -/
structure CompOk (sc scope : Scope) (N N' : List Str) (n : Nat) (caps : List Nat) : Prop where
  kind : scope.kind = .function
  nocell : ∀ y ∈ scope.names, y.2 ≠ .cell
  loc : ∀ y ∈ scope.names, y.2 = .local → scope.names.lookup y.1 = some .local
  free : ∀ y ∈ scope.names, y.2 = .free → sc.names.lookup y.1 = some .cell ∨ sc.names.lookup y.1 = some .free
  nd : N'.Nodup
  len : N'.length = n + caps.length
  cap : ∀ k ∈ List.range caps.length, N'[n + k]? = (caps[k]?).bind (N[·]?) ∧ (N'[n + k]?).all (fun y => scope.names.lookup y == some .free) = true
def sComp (n : Nat) (caps : List Nat) (σ : St) : St := List.replicate n none ++ caps.map fun j => (σ[j]?).join
theorem sComp_len (n : Nat) (caps : List Nat) (σ : St) : (sComp n caps σ).length = n + caps.length := by simp [sComp]

theorem closure_some {env : Env} : ∀ (names : List (Str × NameKind)), (∀ x ∈ names, x.2 = .free → ∃ c, env.cells.lookup x.1 = some c) → ∀ acc : List (Str × Addr),
    ∃ cl : List (Str × Addr), (forIn names acc (fun (x : Str × NameKind) (cs : List (Str × Addr)) => if (x.2 == .free) = true then do let a ← cellOf env x.1; pure (ForInStep.yield ((x.1, a) :: cs)) else pure (ForInStep.yield cs)) : Sem (List (Str × Addr))) = pure cl ∧
      (∀ y c, cl.lookup y = some c → env.cells.lookup y = some c ∨ acc.lookup y = some c) ∧ (∀ x ∈ names, x.2 = .free → ∃ c, cl.lookup x.1 = some c) ∧ (∀ y c, acc.lookup y = some c → ∃ c', cl.lookup y = some c')
  | [], _, acc => ⟨acc, rfl, fun _ _ h => .inr h, (fun _ h => nomatch h), fun _ c h => ⟨c, h⟩⟩
  | (n, k) :: r, h, acc => by
    cases hk : (k == NameKind.free) with
    | true =>
      have hk' : k = .free := by simpa using hk
      obtain ⟨c, hc⟩ := h (n, k) List.mem_cons_self hk'
      obtain ⟨cl, e, h1, h2, h3⟩ := closure_some r (fun x hx => h x (List.mem_cons_of_mem _ hx)) ((n, c) :: acc)
      refine ⟨cl, ?_, fun y d hy => ?_, fun x hx hf => ?_, fun y d hy => ?_⟩
      · rw [List.forIn_cons]
        simp only [hk, if_true, cellOf, hc, pure_bind]
        exact e
      · rcases h1 y d hy with z | z
        · exact .inl z
        · rw [List.lookup_cons] at z
          cases q : (y == n) with
          | true =>
            rw [q] at z
            cases z
            have : y = n := by simpa using q
            subst this
            exact .inl hc
          | false =>
            rw [q] at z
            exact .inr z
      · rcases List.mem_cons.mp hx with rfl | hx
        · exact h3 n c (by simp [List.lookup_cons])
        · exact h2 x hx hf
      · by_cases q : y = n
        · subst q
          exact h3 y c (by simp [List.lookup_cons])
        · refine h3 y d ?_
          have : (y == n) = false := by simpa using q
          rw [List.lookup_cons, this]
          exact hy
    | false =>
      obtain ⟨cl, e, h1, h2, h3⟩ := closure_some r (fun x hx => h x (List.mem_cons_of_mem _ hx)) acc
      refine ⟨cl, ?_, h1, fun x hx hf => ?_, h3⟩
      · rw [List.forIn_cons]
        simp only [hk, Bool.false_eq_true, if_false, pure_bind]
        exact e
      · rcases List.mem_cons.mp hx with rfl | hx
        · have : k = .free := hf
          rw [this] at hk
          exact absurd hk (by decide)
        · exact h2 x hx hf
theorem closureFor_some {env : Env} {scope : Scope} (h : ∀ x ∈ scope.names, x.2 = .free → ∃ c, env.cells.lookup x.1 = some c) :
    ∃ cl : List (Str × Addr), closureFor scope env = pure cl ∧ (∀ y c, cl.lookup y = some c → env.cells.lookup y = some c) ∧ ∀ x ∈ scope.names, x.2 = .free → ∃ c, cl.lookup x.1 = some c := by
  obtain ⟨cl, e, h1, h2, _⟩ := closure_some scope.names h []
  refine ⟨cl, ?_, fun y c hy => (h1 y c hy).elim id (fun z => nomatch z), h2⟩
  simp only [closureFor]
  rw [← bind_pure (forIn _ _ _)] at e
  first
    | exact e
    | (refine Eq.trans ?_ e; rfl)
theorem lookup_relabel {env : Env} : ∀ (names : List (Str × NameKind)) (x : Str),
    (names.map fun (n, k) => if (k == NameKind.free && env.scope.kind == .function && env.kindOf n == some .cell) then (n, NameKind.cell) else (n, k)).lookup x =
      (names.lookup x).map fun k => if (k == NameKind.free && env.scope.kind == .function && env.kindOf x == some .cell) = true then NameKind.cell else k
  | [], _ => rfl
  | (n, k) :: r, x => by
    have ih := @lookup_relabel env r x
    have l1 : List.lookup x (((n, k) :: r).map fun (n, k) => if (k == NameKind.free && env.scope.kind == .function && env.kindOf n == some .cell) then (n, NameKind.cell) else (n, k)) =
        List.lookup x ((if (k == NameKind.free && env.scope.kind == .function && env.kindOf n == some .cell) = true then (n, NameKind.cell) else (n, k)) :: r.map fun (n, k) => if (k == NameKind.free && env.scope.kind == .function && env.kindOf n == some .cell) then (n, NameKind.cell) else (n, k)) := rfl
    rw [l1, List.lookup_cons (as := r)]
    by_cases hc : (k == NameKind.free && env.scope.kind == .function && env.kindOf n == some .cell) = true
    · rw [if_pos hc, List.lookup_cons]
      cases hx : x == n with
      | true =>
        have e : x = n := by simpa using hx
        subst e
        show some NameKind.cell = some (if (k == NameKind.free && env.scope.kind == .function && env.kindOf x == some .cell) = true then NameKind.cell else k)
        rw [if_pos hc]
      | false => exact ih
    · rw [if_neg hc, List.lookup_cons]
      cases hx : x == n with
      | true =>
        have e : x = n := by simpa using hx
        subst e
        show some k = some (if (k == NameKind.free && env.scope.kind == .function && env.kindOf x == some .cell) = true then NameKind.cell else k)
        rw [if_neg hc]
      | false => exact ih
end L2
namespace L2
open PySem PySem.Spec PyProof.Rows

section
variable {prog : Program} {w : World} {A : Around} {R : Result → Shared → Prop} {s : Shared}
/-- the loop of a comprehension, any target -/
theorem compLoop_any {elt target iter : Expr} {ifs : List Expr} {scope : Scope} {pos : Pos} {it acc : Value} {env : Env} (I : Nat → Shared → Prop)
    (turn : ∀ n s, I n s → wpAny (model prog w) A (pyNext it) (fun r s₁ => match r with
      | none => R (.ok .next) s₁
      | some v => wpAny (model prog w) A (letOwnedTupleGo target it v) (fun _ s₁' => wpAny (model prog w) A (assign target env v) (fun _ s₂ =>
          wpAny (model prog w) A (forIn ifs true fun c r => if r = true then do let ok ← isTrue c env (eval c env); pure (ForInStep.yield ok) else pure (ForInStep.yield r)) (fun ok s₃ =>
            if ok = true then wpAny (model prog w) A (eval elt env) (fun x s₄ =>
              wpAny (model prog w) A (call (.builtin "list.append") [acc, x]) (fun _ s₅ => ∃ m, m < n ∧ I m s₅) (fun _ _ => False) s₄) (fun _ _ => False) s₃
            else ∃ m, m < n ∧ I m s₃) (fun _ _ => False) s₂) (fun _ _ => False) s₁') (fun _ _ => False) s₁) (fun _ _ => False) s)
    (n : Nat) (h : I n s) :
    codeAny (model prog w) A (.compLoop (.ListComp elt [⟨target, iter, ifs, 0⟩] scope pos) 0 it acc env) R s := by
  refine codeAny_loop rfl I (fun n s hI => ?_) n h
  show wpAny _ A ((compTurn (.ListComp elt [⟨target, iter, ifs, 0⟩] scope pos) 0 it acc env).onRaise (fun x => do noteFrame x env; theTreesLotGoes x)) _ _ s
  refine wpAny_noted ?_
  rw [compTurn_list]
  refine wpAny_bind (wpAny_standAt (wpAny_bind (wpAny_mono (turn n s hI) (fun r s₁ h₁ => ?_) fun _ _ h' => h'.elim)))
  cases r with
  | none => exact wpAny_pure h₁
  | some v =>
    refine wpAny_bind (wpAny_mono h₁ (fun _ s₁' h₁' => ?_) fun _ _ h' => h'.elim)
    refine wpAny_bind (wpAny_mono h₁' (fun _ s₂ h₂ => wpAny_bind (wpAny_mono h₂ (fun ok s₃ h₃ => ?_) fun _ _ h' => h'.elim)) fun _ _ h' => h'.elim)
    cases ok with
    | false => exact wpAny_pure ⟨rfl, h₃⟩
    | true =>
      exact wpAny_bind (wpAny_bind (wpAny_mono h₃ (fun x s₄ h₄ => wpAny_bind (wpAny_mono h₄ (fun _ s₅ h₅ => wpAny_pure (wpAny_pure ⟨rfl, h₅⟩)) fun _ _ h' => h'.elim)) fun _ _ h' => h'.elim))
end

/-- the tests of a clause -/
def PF (X : Cx) (ifs : List Expr) (t : TT) : Prop :=
  ∀ (pins : List (Addr × Obj)) (s : Shared) (σ : St) (H : Hp) (Q : Bool → Hp → Prop), Inv X pins σ H s → t σ H Q →
    wpAny (model X.prog X.w) X.A (forIn ifs true fun c r => if r = true then do let ok ← isTrue c X.env (eval c X.env); pure (ForInStep.yield ok) else pure (ForInStep.yield r)) (TP X pins σ Q) X.xe s
theorem pf_nil {X : Cx} : PF X [] fun _ H Q => Q true H := fun _ _ _ H _ I h => wpAny_tests_nil ⟨H, I, h⟩
theorem pf_one {X : Cx} {c : Expr} {t : TT} (h : PT X c t) : PF X [c] t := fun pins s σ H Q I q => wpAny_tests_one (h pins s σ H Q I q)

/-- what a comprehension is worth: D the list that grows, W the invariant (turn, measure, the list so far, heap) -/
def Wk (σ σ' : St) : Prop := σ'.length = σ.length ∧ ∀ (j : Nat) (v : V), σ[j]? = some (some v) → σ'[j]? = some (some v)
def tComp (n : Nat) (caps : List Nat) (wi : TI) (g : TG) (tt : TT) (te : TE) : TE := fun σ H Q => wi σ H fun J H1 => ∀ D, H1 D = none →
  ∃ W : Nat → Nat → List V → Hp → Prop, (∃ m, W 0 m [] (upd H1 D (.lst []))) ∧ ∀ i m ys H2, W i m ys H2 →
    (J.stop i H2 ∧ Q (.ref D) H2) ∨ (J.go i H2 ∧ ∀ x H3, J.yld i H2 x H3 → g x (sComp n caps σ) H3 fun σ4 H4 => Wk (sComp n caps σ) σ4 ∧ tt σ4 H4 fun b H5 =>
      if b = true then te σ4 H5 fun y H6 => H6 D = some (.lst ys) ∧ ys.length < sizeLine ∧ ∃ m', m' < m ∧ W (i + 1) m' (ys ++ [y]) (upd H6 D (.lst (ys ++ [y]))) else ∃ m', m' < m ∧ W (i + 1) m' ys H5)

section
variable {X : Cx} {sc : Scope} {elt iter tg : Expr} {ifs : List Expr} {scope : Scope} {pos : Pos} {N' : List Str} {n : Nat} {caps : List Nat} {wi : TI} {g : TG} {tt : TT} {te : TE}

/-- where the block's own dict stands: nothing of the body's -/
def Aside (X : Cx) (pins : List (Addr × Obj)) (H : Hp) (C : Addr) : Prop :=
  H C = none ∧ C ≠ X.env.locals ∧ X.s₀.heap.objs.size ≤ C ∧ (∀ x c, X.env.cells.lookup x = some c → c ≠ C) ∧ ∀ p ∈ X.pn ++ pins, p.1 ≠ C

theorem comp_core {pins : List (Addr × Obj)} {σ : St} {H2 : Hp} {s2 : Shared} {it : Addr} {fp : List Addr} {tn : Nat → Heap → Prop} {J : It} {cl : List (Str × Addr)} {Q : VK} {RR : Value → Addr → Result → Shared → Prop} {E : Value → Shared → Prop}
    (hc : X.calm = true) (hsc : X.env.scope = sc) (ok : CompOk sc scope X.N N' n caps)
    (hcl1 : ∀ y c, cl.lookup y = some c → X.env.cells.lookup y = some c) (hcl2 : ∀ x ∈ scope.names, x.2 = .free → ∃ c, cl.lookup x.1 = some c)
    (hg : ∀ s H ex, PG (cxComp X scope cl N' s H ex) tg g) (ht : ∀ s H ex, PF (cxComp X scope cl N' s H ex) ifs tt) (he : ∀ s H ex, PE (cxComp X scope cl N' s H ex) elt te)
    (I2 : Inv X pins σ H2 s2) (T : Turn X.prog X.w X.K tg J fp it tn) (st2 : tn 0 s2.heap) (f2 : ∀ b ∈ fp, FpOk X pins H2 b)
    (q : ∀ D, H2 D = none → ∃ W : Nat → Nat → List V → Hp → Prop, (∃ m, W 0 m [] (upd H2 D (.lst []))) ∧ ∀ i m ys H2, W i m ys H2 →
      (J.stop i H2 ∧ Q (.ref D) H2) ∨ (J.go i H2 ∧ ∀ x H3, J.yld i H2 x H3 → g x (sComp n caps σ) H3 fun σ4 H4 => Wk (sComp n caps σ) σ4 ∧ tt σ4 H4 fun b H5 =>
        if b = true then te σ4 H5 fun y H6 => H6 D = some (.lst ys) ∧ ys.length < sizeLine ∧ ∃ m', m' < m ∧ W (i + 1) m' (ys ++ [y]) (upd H6 D (.lst (ys ++ [y]))) else ∃ m', m' < m ∧ W (i + 1) m' ys H5))
    (hend : ∀ (D C : Addr) (H' : Hp) (s' : Shared) (m : Str → Option Value), Inv X pins σ H' s' → Aside X pins H' C → s'.heap.Ns C m → Q (.ref D) H' → RR (.ref D) C (.ok .next) s') :
    wpAny (model X.prog X.w) X.A (newList []) (fun acc s₃ => wpAny (model X.prog X.w) X.A (newFunctionEnv scope X.env.globals cl [] X.env.qual none .none (some X.env)) (fun cenv s₄ =>
      codeAny (model X.prog X.w) X.A (.compStart (.ListComp elt [⟨tg, iter, ifs, 0⟩] scope pos) 0 (.ref it) acc { cenv with scope := relabel scope X.env }) (RR acc cenv.locals) s₄) E s₃) E s2 := by
  refine wpAny_newObj_type (wpAny_newFunctionEnv ok.nocell (by intro y hy; simp at hy) (fun h₁ hns₁ hsb₁ => ?_) ok.kind)
  dsimp only at hns₁ hsb₁ ⊢
  -- the list, its address
  obtain ⟨D, hD⟩ : ∃ D, D = s2.heap.objs.size := ⟨_, rfl⟩
  have I3 : Inv X pins σ (upd H2 s2.heap.objs.size (.lst [])) { s2 with heap := s2.heap.push { cls := .type "list", data := .seq ([] : List Value).toArray } } := I2.lnew (its := []) (t' := s2.toks) .nil (Nat.zero_le _)
  have hfD : H2 s2.heap.objs.size = none := I2.fresh
  obtain ⟨W, ⟨m0, w0⟩, turn⟩ := q s2.heap.objs.size hfD
  generalize hs3 : ({ s2 with heap := s2.heap.push { cls := .type "list", data := .seq ([] : List Value).toArray } } : Shared) = s3 at *
  have hs3h : s2.heap.push { cls := .type "list", data := .seq ([] : List Value).toArray } = s3.heap := by rw [← hs3]
  have hs3t : s2.toks = s3.toks := by rw [← hs3]
  rw [hs3h] at hns₁ hsb₁ ⊢
  generalize hH3 : upd H2 s2.heap.objs.size (HO.lst []) = H3 at *
  rw [← hD] at turn hH3 hfD ⊢
  have old : ∀ b o, s3.heap.get? b = some o → h₁.get? b = some o := fun b o e => hsb₁.extBut b o (Nat.ne_of_lt (Heap.lt_size e)) (Heap.get?_push_of_some _ e)
  have old2 : ∀ b o, s2.heap.get? b = some o → s3.heap.get? b = some o := fun b o e => by rw [← hs3h]; exact Heap.get?_push_of_some _ e
  have fpl : ∀ b ∈ fp, b < s3.heap.objs.size := fun b hb => by
    obtain ⟨o, e, _⟩ := T.obj _ _ st2 b hb
    exact Heap.lt_size (old2 b o e)
  have fpD : ∀ b ∈ fp, b ≠ D := fun b hb z => by
    obtain ⟨o, e, _⟩ := T.obj _ _ st2 b hb
    rw [z, hD] at e
    exact absurd (Heap.lt_size e) (Nat.lt_irrefl _)
  -- the block's context
  obtain ⟨X', hX'⟩ : ∃ X', X' = cxComp X scope cl N' s3 H3 fp := ⟨_, rfl⟩
  have okX : X'.Ok := by
    subst hX'
    refine ⟨I3.ok.mod, ok.kind, I3.ok.glob, I3.ok.blt, Nat.le_refl _, fun x y c h1 h2 => I3.ok.inj x y c (hcl1 x c h1) (hcl1 y c h2), fun x hx => ?_, fun x c h _ => absurd h (by simp [cxComp]), I3.ok.hd, I3.ok.frames, .inl rfl,
      fun b hb => ⟨Nat.ne_of_lt (fpl b hb), fun x c e => (f2 b hb).2.2.2.2.1 x c (hcl1 x c e)⟩, fun b o e => I3.bs b o e, Nat.le_trans I3.ok.bsz I3.sz, fun b o e hb => ?_, fun b hb hf => ?_, I3.stack, I3.stkFree⟩
    · have hx' : ((relabel scope X.env).names.lookup x = some .cell) ∨ ((relabel scope X.env).names.lookup x = some .free) := hx
      have q2 := lookup_relabel (env := X.env) scope.names x
      have q3 : (relabel scope X.env).names.lookup x = (scope.names.lookup x).map fun k => if (k == NameKind.free && X.env.scope.kind == .function && X.env.kindOf x == some .cell) = true then NameKind.cell else k := q2
      cases e : scope.names.lookup x with
      | none =>
        rw [q3, e] at hx'
        rcases hx' with z | z <;> cases z
      | some k =>
        have hk : k = .free := by
          rw [q3, e] at hx'
          have nc := ok.nocell (x, k) (PySem.mem_of_lookup e)
          cases k <;> first
            | rfl
            | exact absurd rfl nc
            | (rcases hx' with z | z <;> simp at z)
        subst hk
        exact hcl2 (x, .free) (PySem.mem_of_lookup e) rfl
    · rcases (f2 b hb).2.2.2.1 with z | z
      · exact I3.ok.noex b o e z
      · exact absurd (Nat.lt_of_lt_of_le (Heap.lt_size (I3.ok.bs b o e).1) z) (Nat.lt_irrefl _)
    · rcases List.mem_cons.mp (I3.stkSub b hf) with z | z
      · exact (f2 b hb).2.1 z
      · exact (f2 b hb).2.2.1 z
  have I4 : Inv X' [] (sComp n caps σ) H3 { s3 with heap := h₁, toks := s2.toks + ([] : List (Str × Value)).length } := by
    refine ⟨okX, ?_, ?_, ?_, ?_, fun x c e => ?_, ?_, fun x c e => ?_, fun p hp => ?_, (by subst hX'; exact I3.hok.kept old), ?_⟩
    · subst hX'; rfl
    · exact I3.bare
    · subst hX'; exact Un.kept old
    · subst hX'
      refine ⟨_, hns₁, fun i x v e1 e2 e3 => ?_⟩
      have hi : n ≤ i := by
        by_cases hi : i < n
        · unfold sComp at e2
          rw [List.getElem?_append_left (by simpa using hi), List.getElem?_replicate, if_pos hi] at e2
          cases e2
        · omega
      obtain ⟨k, rfl⟩ : ∃ k, i = n + k := ⟨i - n, by omega⟩
      have hk : k < caps.length := by
        have := (List.getElem?_eq_some_iff.mp e1).1
        have e5 : (cxComp X scope cl N' s3 H3 fp).N.length = n + caps.length := ok.len
        omega
      obtain ⟨c1, c2⟩ := ok.cap k (List.mem_range.mpr hk)
      have e1' : N'[n + k]? = some x := e1
      unfold sComp at e2
      rw [List.getElem?_append_right (by simp), List.length_replicate, Nat.add_sub_cancel_left, List.getElem?_map] at e2
      obtain ⟨j, hj⟩ : ∃ j, caps[k]? = some j := ⟨caps[k], by simp [hk]⟩
      rw [hj] at e2 c1
      have hj2 : X.N[j]? = some x := by rw [← e1', c1]; rfl
      have e2' : (σ[j]?).join = some v := Option.some.inj e2
      have e2'' : σ[j]? = some (some v) := by
        cases q : σ[j]? with
        | none => rw [q] at e2'; cases e2'
        | some o => rw [q] at e2'; rw [show o = some v from e2']
      rw [e1'] at c2
      have hfree : scope.names.lookup x = some .free := by simpa using c2
      have hvis := ok.free (x, .free) (PySem.mem_of_lookup hfree) rfl
      obtain ⟨m, hn, hl⟩ := I3.loc
      obtain ⟨u, ru, l⟩ := hl j x v hj2 e2'' (by
        rcases hvis with z | z
        · exact .inr (.inl (by rw [hsc]; exact z))
        · exact .inr (.inr (by rw [hsc]; exact z)))
      refine ⟨u, ru, .inr ⟨?_, ?_⟩⟩
      · have q3 : (relabel scope X.env).names.lookup x = (scope.names.lookup x).map fun k => if (k == NameKind.free && X.env.scope.kind == .function && X.env.kindOf x == some .cell) = true then NameKind.cell else k := lookup_relabel scope.names x
        rw [hfree] at q3
        show (relabel scope X.env).names.lookup x = _ ∨ (relabel scope X.env).names.lookup x = _
        rw [q3]
        by_cases hcc : (NameKind.free == NameKind.free && X.env.scope.kind == .function && X.env.kindOf x == some .cell) = true
        · left; simp only [Option.map_some, if_pos hcc]
        · right; simp only [Option.map_some, if_neg hcc]
      · obtain ⟨c', hc'⟩ := hcl2 (x, .free) (PySem.mem_of_lookup hfree) rfl
        rcases l with ⟨hkk, _⟩ | ⟨_, c, hc2, hcell⟩
        · have hkk' : X.env.scope.names.lookup x = some .local := hkk
          rw [hsc] at hkk'
          rcases hvis with z | z <;> (rw [hkk'] at z; cases z)
        · have := hcl1 x c' hc'
          rw [hc2] at this
          cases this
          obtain ⟨o, ho, hd⟩ := hcell
          exact ⟨_, hc', o, old _ o ho, hd⟩
    · have e' : cl.lookup x = some c := by subst hX'; exact e
      obtain ⟨v, o, ho, hd⟩ := I3.cell x c (hcl1 x c e')
      exact ⟨v, o, old _ o ho, hd⟩
    · subst hX'; exact I3.hok.fresh (Nat.le_refl _)
    · have e' : cl.lookup x = some c := by subst hX'; exact e
      exact I3.freeC x c (hcl1 x c e')
    · subst hX'; exact absurd hp (by simp [cxComp])
    · subst hX'
      show _ = N'.length
      rw [sComp_len, ok.len]
  have hX'c : X'.calm = true := by subst hX'; exact hc
  have hfpX : ∀ {H' : Hp}, (∀ b ∈ fp, H' b = none) → ∀ b ∈ fp, FpOk X' [] H' b := fun {H'} hn b hb => by
    subst hX'
    refine ⟨hn b hb, Nat.ne_of_lt (fpl b hb), fun hf => ?_, .inl hb, fun x c e => (f2 b hb).2.2.2.2.1 x c (hcl1 x c e), fun p hp => absurd hp (by simp [cxComp])⟩
    rcases List.mem_cons.mp (I3.stkSub b hf) with z | z
    · exact (f2 b hb).2.1 z
    · exact (f2 b hb).2.2.1 z
  have fr3 : ∀ b ∈ fp, H3 b = none := fun b hb => by rw [← hH3, upd_ne (fpD b hb)]; exact (f2 b hb).1
  have st4 : tn 0 h₁ := T.keep _ _ _ st2 fun b hb o e => old b o (old2 b o e)
  have loop : ∀ s4 : Shared, s4 = { s3 with heap := h₁, toks := s2.toks + ([] : List (Str × Value)).length } →
      codeAny (model X.prog X.w) X.A (.compLoop (.ListComp elt [⟨tg, iter, ifs, 0⟩] scope pos) 0 (.ref it) (.ref D) X'.env) (RR (.ref D) s3.heap.objs.size) s4 := by
    rintro s4 rfl
    refine compLoop_any (fun k s' => ∃ i ys H', Inv X' [] (sComp n caps σ) H' s' ∧ tn i s'.heap ∧ (∀ b ∈ fp, H' b = none) ∧ W i k ys H') ?_ m0 ⟨0, [], H3, I4, st4, fr3, w0⟩
    rintro k s5 ⟨i, ys, H5, I5, st5, fr5, w5⟩
    have eP : X'.prog = X.prog := by subst hX'; rfl
    have ew : X'.w = X.w := by subst hX'; rfl
    have eK : X'.K = X.K := by subst hX'; rfl
    have eA : X'.A = X.A := by subst hX'; rfl
    rcases turn i k ys H5 w5 with ⟨stop, qe⟩ | ⟨go, step⟩
    · have T' := T.done X' eP ew eK hX'c i [] s5 (sComp n caps σ) H5 (fun _ _ => False) I5 (hfpX fr5) st5 stop
      rw [eA] at T'
      refine thn T' fun r s6 ⟨hr, I6⟩ => ?_
      subst hr
      -- the block's end: back to the body
      have un6 : Un (frs X.stack) fp H3 H5 s3.heap s6.heap := by have := I6.base; subst hX'; exact this
      have hos : s6.os = s3.os := by have := I6.os; subst hX'; exact this
      have hok6 : HOk X.prog X.w H5 s6.heap := by have := I6.hok; subst hX'; exact this
      have IX : Inv X pins σ H5 s6 := I3.call' hos un6 hok6 I6.bare fun b hb => ⟨(f2 b hb).2.2.2.1, (f2 b hb).2.1, (f2 b hb).2.2.2.2.1, (f2 b hb).2.2.2.2.2⟩
      obtain ⟨m6, hn6, _⟩ := I6.loc
      have hn6' : s6.heap.Ns s3.heap.objs.size m6 := by subst hX'; exact hn6
      refine hend D s3.heap.objs.size H5 s6 m6 IX ⟨by have := I6.free; subst hX'; exact this, Nat.ne_of_gt I3.lt, I3.sz, fun x c e z => ?_, fun p hp z => ?_⟩ hn6' qe
      · obtain ⟨v, qc⟩ := I3.cell x c e
        exact absurd (Nat.lt_of_lt_of_le qc.lt (Nat.le_of_eq z.symm)) (Nat.lt_irrefl _)
      · exact absurd (Nat.lt_of_lt_of_le (Heap.lt_size (I3.pin p hp).1) (Nat.le_of_eq z.symm)) (Nat.lt_irrefl _)
    · have T' := T.item X' eP ew eK hX'c i [] s5 (sComp n caps σ) H5 (fun _ _ => False) I5 (hfpX fr5) st5 go
      rw [eA] at T'
      refine thn T' fun r s6 ⟨u, hr, h6⟩ => ?_
      subst hr
      refine thn h6 fun _ s7 ⟨x, H7, I7, r7, y7, st7, fr7⟩ => ?_
      have I7' := I7.pinned (hfpX fr7) (T.obj _ _ st7)
      have hg' := hg s3 H3 fp
      have ht' := ht s3 H3 fp
      have he' := he s3 H3 fp
      rw [← hX'] at hg' ht' he'
      have g1 := hg' _ s7 (sComp n caps σ) H7 x u _ I7' r7 (step x H7 y7)
      rw [eP, ew, eA] at g1
      have exe : X'.xe = fun _ _ => False := by subst hX'; rfl
      rw [exe] at g1
      refine thn g1 fun _ s8 ⟨σ8, H8, I8, wk8, q8⟩ => ?_
      have t1 := ht' _ s8 σ8 H8 _ I8 q8
      rw [eP, ew, eA, exe] at t1
      refine thn t1 fun b s9 ⟨H9, I9, q9⟩ => ?_
      have back : ∀ {σa : St} {Ha : Hp} {sa : Shared} {ysa : List V} {ma : Nat}, Inv X' ([] ++ pinsAt fp s7.heap) σa Ha sa → σa.length = (sComp n caps σ).length → (∀ (j : Nat) v, (sComp n caps σ)[j]? = some (some v) → σa[j]? = some (some v)) → W (i + 1) ma ysa Ha →
          ∃ i ys H', Inv X' [] (sComp n caps σ) H' sa ∧ tn i sa.heap ∧ (∀ b ∈ fp, H' b = none) ∧ W i ma ys H' := fun {σa Ha sa ysa ma} Ia hl hw wa => by
        refine ⟨i + 1, ysa, Ha, (Ia.weak hl.symm hw).unpinned, T.keep _ _ _ st7 fun b hb o e => (Ia.pin (b, o) (List.mem_append_right _ (List.mem_append_right _ (mem_pinsAt hb e)))).1, fun b hb => ?_, wa⟩
        obtain ⟨o, e, d⟩ := T.obj _ _ st7 b hb
        exact (Ia.pin (b, o) (List.mem_append_right _ (List.mem_append_right _ (mem_pinsAt hb e)))).2.1
      cases b with
      | false =>
        rw [if_neg Bool.false_ne_true]
        rw [if_neg Bool.false_ne_true] at q9
        obtain ⟨m', hm, w9⟩ := q9
        exact ⟨m', hm, back I9 wk8.1 wk8.2 w9⟩
      | true =>
        rw [if_pos rfl]
        rw [if_pos rfl] at q9
        have e1 := he' _ s9 σ8 H9 _ I9 q9
        rw [eP, ew, eA, exe] at e1
        refine thn e1 fun v s10 ⟨y, H10, I10, r10, hD10, hlen, m', hm, w10⟩ => ?_
        have a1 := mt_append (X := X') _ s10 σ8 H10 (.ref D) [y] (.ref D) [v] (fun _ H' => W (i + 1) m' (ys ++ [y]) H') I10 rfl (.cons r10 .nil) ⟨D, ys, y, rfl, rfl, hD10, hlen, w10⟩
        rw [eP, ew, eA, exe] at a1
        refine thn a1 fun _ s11 ⟨_, H11, I11, _, w11⟩ => ?_
        exact ⟨m', hm, back I11 wk8.1 wk8.2 w11⟩
  subst hX'
  exact codeAny_compStart_list (loop _ (by rw [← hs3])) (T.self X.A 0 _ _ _ st4 (loop _ (by rw [← hs3])))

/-- a comprehension as a value -/
theorem pe_comp (hc : X.calm = true) (hsc : X.env.scope = sc) (ok : CompOk sc scope X.N N' n caps) (hi : PI X tg iter wi)
    (hg : ∀ cl s H ex, PG (cxComp X scope cl N' s H ex) tg g) (ht : ∀ cl s H ex, PF (cxComp X scope cl N' s H ex) ifs tt) (he : ∀ cl s H ex, PE (cxComp X scope cl N' s H ex) elt te)
    (hs : ∀ x, foldedSetIterable iter X.env x = pure x := by intro _; rfl) :
    PE X (.ListComp elt [⟨tg, iter, ifs, 0⟩] scope pos) (tComp n caps wi g tt te) := by
  intro pins s σ H Q I h
  obtain ⟨cl, hclos, hcl1, hcl2⟩ := closureFor_some (env := X.env) (scope := scope) fun x hx hf => I.ok.has x.1 (by
    rcases ok.free x hx hf with z | z
    · exact .inl (by show X.env.scope.names.lookup x.1 = _; rw [hsc]; exact z)
    · exact .inr (by show X.env.scope.names.lookup x.1 = _; rw [hsc]; exact z))
  rw [eval_ListComp]
  refine wpAny_comprehension_free (use := none) rfl hs hclos ok.kind ok.loc (thn (hi pins s σ H _ I h) fun v s1 h1 => thn h1 fun itv s2 h2 => ?_)
  obtain ⟨it, fp, tn, J, H2, rfl, I2, T, st2, f2, q2⟩ := h2
  refine comp_core (Q := Q) (RR := fun acc C => compPost (model X.prog X.w) X.A X.xe none (EP X pins σ Q) acc C) hc hsc ok hcl1 hcl2 (hg cl) (ht cl) (he cl) I2 T st2 f2 q2 ?_
  intro D C H' s' m IX as hn qe
  refine ⟨m, hn, fun h' sb => ⟨.ref D, H', IX.turned (t' := s'.toks) (fun b o hb e => (sb.2 b hb).trans e) as.1 as.2.1 (.inr as.2.2.1) as.2.2.2.1 as.2.2.2.2, rfl, qe⟩⟩
/-- y = [.. for ..] -/
theorem ps_setComp {i : Nat} {y : Str} {py spos : Pos} (hN : X.N.Nodup) (hiN : X.N[i]? = some y) (hy : Loc X.env.scope y) (hc : X.calm = true) (hsc : X.env.scope = sc) (ok : CompOk sc scope X.N N' n caps) (hi : PI X tg iter wi)
    (hg : ∀ cl s H ex, PG (cxComp X scope cl N' s H ex) tg g) (ht : ∀ cl s H ex, PF (cxComp X scope cl N' s H ex) ifs tt) (he : ∀ cl s H ex, PE (cxComp X scope cl N' s H ex) elt te)
    (hsw : swapsWith (.ListComp elt [⟨tg, iter, ifs, 0⟩] scope pos) (some (.Name y py)) spos.line X.env = pure true := by rfl)
    (hs : ∀ x, foldedSetIterable iter X.env x = pure x := by intro _; rfl)
    (hf : X.fn y = true ∨ X.env.scope.names.lookup y = some .local := by first | exact .inl rfl | exact .inr rfl | assumption) :
    PS X (.Assign [.Name y py] (.ListComp elt [⟨tg, iter, ifs, 0⟩] scope pos) spos) (fun D σ H => tComp n caps wi g tt te σ H fun v H' => D.nx (σ.set i (some v)) H') := by
  intro pins s σ H D I h
  obtain ⟨cl, hclos, hcl1, hcl2⟩ := closureFor_some (env := X.env) (scope := scope) fun x hx hf => I.ok.has x.1 (by
    rcases ok.free x hx hf with z | z
    · exact .inl (by show X.env.scope.names.lookup x.1 = _; rw [hsc]; exact z)
    · exact .inr (by show X.env.scope.names.lookup x.1 = _; rw [hsc]; exact z))
  rw [exec_Assign_Name_used _ _ _ _ hsw]
  refine wpAny_bind (wpAny_standAt (wpAny_bind ?_))
  show wpAny _ X.A (do let _ ← comprehension (.ListComp elt [⟨tg, iter, ifs, 0⟩] scope pos) scope X.env _ (newList []) false (eval iter X.env) (some (assign (.Name y py) X.env))) _ _ s
  refine wpAny_bind (wpAny_mono (wpAny_comprehension_free (use := some (assign (.Name y py) X.env)) (Q := fun _ s' => SP X pins D .next s') rfl hs hclos ok.kind ok.loc
    (thn (hi pins s σ H _ I h) fun v s1 h1 => thn h1 fun itv s2 h2 => ?_)) (fun _ s' hq => wpAny_pure (wpAny_pure hq)) fun _ _ e => e)
  obtain ⟨it, fp, tn, J, H2, rfl, I2, T, st2, f2, q2⟩ := h2
  refine comp_core (Q := fun v H' => D.nx (σ.set i (some v)) H') (RR := fun acc C => compPost (model X.prog X.w) X.A X.xe (some (assign (.Name y py) X.env)) (fun _ s' => SP X pins D .next s') acc C) hc hsc ok hcl1 hcl2 (hg cl) (ht cl) (he cl) I2 T st2 f2 q2 ?_
  intro Da C H' s' m IX as hn qe
  show wpAny _ X.A (assign (.Name y py) X.env (.ref Da)) _ _ _
  refine wpAny_assign_Name (store_ok2 IX hN hiN hy (v := .ref Da) rfl (fun s'' I'' ⟨a, sb, ha⟩ => ?_) hf)
  have hCa : C ≠ a := by
    rcases ha with z | z
    · rw [z]; exact as.2.1
    · exact Ne.symm (as.2.2.2.1 y a z)
  refine ⟨m, hn.sameBut sb hCa, fun h' sb' => ⟨_, H', I''.turned (t' := s''.toks) (fun b o hb e => (sb'.2 b hb).trans e) as.1 as.2.1 (.inr as.2.2.1) as.2.2.2.1 as.2.2.2.2, qe⟩⟩
end
end L2
/-! Data, and what a pure piece of the text is worth as a function over data. -/
namespace DL
open PySem PySem.Spec PyProof.Rows

inductive D where
  | non | bl (b : Bool) | int (i : Int) | str (x : Str) | tup (ds : List D) | lst (ds : List D) | dct (ks : List (Sum Int Str)) (ds : List D)
  deriving Inhabited
/-- a name of a body: unknown, a value, a list or dict of its own -/
inductive Sl where
  | un | sh (d : D) | ow (d : D)
abbrev Ds := List Sl
inductive Res where
  | nx (δ : Ds) | rt (d : D) | bk (δ : Ds) | ct (δ : Ds) | rf (d : D)
abbrev GE := Ds → Option D
abbrev GB := Ds → Option Bool
abbrev GA := Ds → Option (List D)
abbrev GS := Ds → Option Res
@[simp] def asB : D → Option Bool
  | .bl b => some b
  | _ => none
@[simp] def asI : D → Option Int
  | .int i => some i
  | _ => none
@[simp] def gv (i : Nat) : GE := fun δ => match δ[i]? with
  | some (.sh d) => some d
  | _ => none
@[simp] def gc (d : D) : GE := fun _ => some d
@[simp] def o2 (ga gb : GE) (f : D → D → Option D) : GE := fun δ => (ga δ).bind fun x => (gb δ).bind fun y => f x y
@[simp] def ob (g : GE) : GB := fun δ => (g δ).bind asB
@[simp] def tNotG (g : GB) : GB := fun δ => (g δ).map (!·)
@[simp] def tAndG (gt gu : GB) : GB := fun δ => (gt δ).bind fun t => if t = true then gu δ else some false
@[simp] def tOrG (gt gu : GB) : GB := fun δ => (gt δ).bind fun t => if t = true then some true else gu δ
@[simp] def andG (ga gb : GE) : GE := fun δ => (ob ga δ).bind fun t => if t = true then gb δ else some (.bl false)
@[simp] def orG (ga gb : GE) : GE := fun δ => (ob ga δ).bind fun t => if t = true then some (.bl true) else gb δ
@[simp] def notG (ga : GE) : GE := fun δ => (ob ga δ).map fun t => .bl (!t)
@[simp] def ifG (gt : GB) (ga gb : GE) : GE := fun δ => (gt δ).bind fun t => if t = true then ga δ else gb δ
@[simp] def nilA : GA := fun _ => some []
@[simp] def consA (g : GE) (gA : GA) : GA := fun δ => (g δ).bind fun d => (gA δ).map fun ds => d :: ds
@[simp] def tupG (gA : GA) : GE := fun δ => (gA δ).bind fun ds => if ds.length ≤ sizeLine then some (.tup ds) else none
@[simp] def lstG (gA : GA) : GE := fun δ => (gA δ).bind fun ds => if ds.length ≤ sizeLine then some (.lst ds) else none
@[simp] def oA (gA : GA) (f : List D → Option D) : GE := fun δ => (gA δ).bind f
@[simp] def isiG (f : D → Bool) (g : GE) : GE := fun δ => (g δ).map fun d => .bl (f d)
@[simp] def negD (d : D) : Option D := match d with
  | .int i => some (.int (-i))
  | _ => none
@[simp] def unG (f : D → Option D) (g : GE) : GE := fun δ => (g δ).bind f
/-! statements -/
@[simp] def seqD (G1 G2 : GS) : GS := fun δ => match G1 δ with
  | some (.nx δ') => G2 δ'
  | r => r
@[simp] def nilD : GS := fun δ => some (.nx δ)
@[simp] def retD (g : GE) : GS := fun δ => (g δ).map .rt
@[simp] def gN (i : Nat) : D → Ds → Option Ds := fun d δ => some (δ.set i (.sh d))
@[simp] def setD (f : D → Ds → Option Ds) (g : GE) : GS := fun δ => (g δ).bind fun d => (f d δ).map .nx
@[simp] def ifD (gt : GB) (Ga Gb : GS) : GS := fun δ => (gt δ).bind fun t => if t = true then Ga δ else Gb δ
@[simp] def dropD (g : GE) : GS := fun δ => (g δ).map fun _ => .nx δ
def forD (f : D → Ds → Option Ds) (G : GS) : List D → Ds → Option Res
  | [], δ => some (.nx δ)
  | d :: ds, δ => match (f d δ).bind G with
    | some (.nx δ') => forD f G ds δ'
    | some (.ct δ') => forD f G ds δ'
    | some (.bk δ') => some (.nx δ')
    | r => r
@[simp] def forG (gi : GA) (f : D → Ds → Option Ds) (G : GS) : GS := fun δ => (gi δ).bind fun items => forD f G items δ
/-! walks -/
@[simp] def asLst : D → Option (List D)
  | .lst ds => some ds
  | _ => none
@[simp] def asTup : D → Option (List D)
  | .tup ds => some ds
  | _ => none
def signs (x : Str) : List D := x.cps.toList.map fun c => .str ⟨#[c]⟩
@[simp] def asSigns : D → Option (List D)
  | .str x => some (signs x)
  | _ => none
@[simp] def lstI (g : GE) : GA := fun δ => (g δ).bind asLst
@[simp] def tupI (g : GE) : GA := fun δ => (g δ).bind asTup
@[simp] def strI (g : GE) : GA := fun δ => (g δ).bind asSigns
def rngD (lo hi : Int) : List D := (List.range (hi - lo).toNat).map fun k => .int (lo + (k : Nat))
@[simp] def rng1D (ds : List D) : Option (List D) := match ds with
  | [.int j] => if -(2 ^ 62) ≤ j ∧ j < 2 ^ 62 then some (rngD 0 j) else none
  | _ => none
@[simp] def rng2D (ds : List D) : Option (List D) := match ds with
  | [.int i, .int j] => if (-(2 ^ 62) ≤ i ∧ i < 2 ^ 62) ∧ -(2 ^ 62) ≤ j ∧ j < 2 ^ 62 then some (rngD i j) else none
  | _ => none
@[simp] def rng1I (gA : GA) : GA := fun δ => (gA δ).bind rng1D
@[simp] def rng2I (gA : GA) : GA := fun δ => (gA δ).bind rng2D
/-! comprehensions -/
@[simp] def noT : GB := fun _ => some true
@[simp] def capSl : Option Sl → Sl
  | some (.sh d) => .sh d
  | _ => .un
@[simp] def dComp (n : Nat) (caps : List Nat) (δ : Ds) : Ds := List.replicate n .un ++ caps.map fun j => capSl δ[j]?
def compD (f : D → Ds → Option Ds) (gt : GB) (ge : GE) (δ : Ds) : List D → Option (List D)
  | [] => some []
  | d :: ds => match f d δ with
    | none => none
    | some δ' => match gt δ' with
      | none => none
      | some false => compD f gt ge δ ds
      | some true => match ge δ' with
        | none => none
        | some y => (compD f gt ge δ ds).map fun r => y :: r
@[simp] def compG (n : Nat) (caps : List Nat) (gi : GA) (f : D → Ds → Option Ds) (gt : GB) (ge : GE) : GE :=
  fun δ => (gi δ).bind fun items => if items.length ≤ sizeLine then (compD f gt ge (dComp n caps δ) items).map .lst else none
@[simp] def dStart (N : List Str) (ds : List D) : Ds := ds.map .sh ++ List.replicate (N.length - ds.length) .un
/-! operations -/
@[simp] def isInt : D → Bool
  | .int _ => true | .bl _ => true | _ => false
@[simp] def isStr : D → Bool
  | .str _ => true | _ => false
@[simp] def isBool : D → Bool
  | .bl _ => true | _ => false
@[simp] def isTup : D → Bool
  | .tup _ => true | _ => false
@[simp] def isLst : D → Bool
  | .lst _ => true | _ => false
@[simp] def ii (f : Int → Int → Option D) : D → D → Option D
  | .int i, .int j => f i j
  | _, _ => none
@[simp] def subD : D → D → Option D := ii fun i j => some (.int (i - j))
@[simp] def mulD : D → D → Option D := ii fun i j => if (-(2 ^ 64) < i ∧ i < 2 ^ 64) ∨ (-(2 ^ 64) < j ∧ j < 2 ^ 64) then some (.int (i * j)) else none
@[simp] def fdivD : D → D → Option D := ii fun i j => if 0 < j ∧ j < 1073741824 then some (.int (i / j)) else none
@[simp] def modD : D → D → Option D := ii fun i j => if 0 < j then some (.int (i % j)) else none
@[simp] def powD : D → D → Option D := ii fun i j => if 0 ≤ j ∧ j ≤ 1000000 ∧ i.natAbs < 2 ^ 64 then some (.int (i ^ j.toNat)) else none
@[simp] def addD : D → D → Option D
  | .int i, .int j => some (.int (i + j))
  | .str x, .str y => if x.length + y.length ≤ sizeLine then some (.str (x ++ y)) else none
  | .lst xs, .lst ys => if xs.length + ys.length ≤ sizeLine then some (.lst (xs ++ ys)) else none
  | .tup xs, .tup ys => if xs ≠ [] ∧ xs.length + ys.length ≤ sizeLine then some (.tup (xs ++ ys)) else none
  | _, _ => none
@[simp] def ltD : D → D → Option D := ii fun i j => some (.bl (decide (i < j)))
@[simp] def leD : D → D → Option D := ii fun i j => some (.bl (decide (i ≤ j)))
@[simp] def gtD : D → D → Option D := ii fun i j => some (.bl (decide (j < i)))
@[simp] def geD : D → D → Option D := ii fun i j => some (.bl (decide (j ≤ i)))
@[simp] def eqS : D → D → Option Bool
  | .non, .non => some true
  | .non, .int _ => some false | .int _, .non => some false | .non, .bl _ => some false | .bl _, .non => some false | .non, .str _ => some false | .str _, .non => some false
  | .int i, .int j => some (decide (i = j))
  | .bl i, .bl j => some (decide (i = j))
  | .str i, .str j => some (decide (i = j))
  | .int _, .str _ => some false | .str _, .int _ => some false | .bl _, .str _ => some false | .str _, .bl _ => some false
  | _, _ => none
@[simp] def eqD (x y : D) : Option D := (eqS x y).map .bl
@[simp] def neD (x y : D) : Option D := (eqS x y).map fun b => .bl (!b)
def inS (x y : Str) : Bool := !(Builtin.Str.occurrences y x 0 y.length 1).isEmpty
@[simp] def inD : D → D → Option D
  | .str x, .str y => some (.bl (inS x y))
  | _, _ => none
@[simp] def ninD : D → D → Option D
  | .str x, .str y => some (.bl (!inS x y))
  | _, _ => none
@[simp] def isNon : D → Bool
  | .non => true | _ => false
@[simp] def isND (x y : D) : Option D := match y with
  | .non => some (.bl (isNon x))
  | _ => none
def ixN (n : Nat) (i : Int) : Option Nat := if 0 ≤ i then (if i < n then some i.toNat else none) else if -(n : Int) ≤ i then some (i + n).toNat else none
def atI {α : Type} (xs : List α) (i : Int) : Option α := (ixN xs.length i).bind fun j => xs[j]?
@[simp] def ixD : D → D → Option D
  | .lst xs, .int i => atI xs i
  | .tup xs, .int i => atI xs i
  | .str z, .int i => if z.length ≤ sizeLine then (atI z.cps.toList i).map fun c => .str ⟨#[c]⟩ else none
  | _, _ => none
def sIx (n d : Nat) : Option Int → Nat
  | none => d
  | some v => if v < 0 then (v + (n : Int)).toNat else min v.toNat n
def cutD (xs : List D) (lo hi : Option Int) : List D := (xs.drop (sIx xs.length 0 lo)).take (sIx xs.length xs.length hi - sIx xs.length 0 lo)
@[simp] def slD (d : D) (lo hi : Option Int) : Option D := match d with
  | .str z => if z.length ≤ sizeLine then some (.str (Txt.slice z lo hi)) else none
  | .lst xs => some (.lst (cutD xs lo hi))
  | .tup xs => if sIx xs.length 0 lo = 0 ∧ sIx xs.length xs.length hi = xs.length then none else some (.tup (cutD xs lo hi))
  | _ => none
abbrev GO := Ds → Option (Option Int)
@[simp] def noneO : GO := fun _ => some none
@[simp] def someO (g : GE) : GO := fun δ => (g δ).bind fun d => (asI d).map some
@[simp] def slG (g : GE) (gl gh : GO) : GE := fun δ => (g δ).bind fun d => (gl δ).bind fun l => (gh δ).bind fun h => slD d l h
@[simp] def lenD : List D → Option D
  | [.str z] => if z.length ≤ sizeLine then some (.int z.length) else none
  | [.lst xs] => some (.int xs.length)
  | [.tup xs] => some (.int xs.length)
  | _ => none
@[simp] def absD : List D → Option D
  | [.int i] => some (.int (if i < 0 then -i else i))
  | _ => none
def bools : List D → Option (List Bool)
  | [] => some []
  | .bl b :: ds => (bools ds).map fun r => b :: r
  | _ => none
@[simp] def allD : List D → Option D
  | [.lst ds] => (bools ds).map fun bs => .bl (bs.all id)
  | _ => none
@[simp] def strOfD : List D → Option D
  | [.int i] => if i.natAbs.log2 < 1920 then some (.str (toString i)) else none
  | _ => none
def strL : List D → Option (List Str)
  | [] => some []
  | .str b :: ds => (strL ds).map fun r => b :: r
  | _ => none
@[simp] def joinD (d : D) (ds : List D) : Option D := match d, ds with
  | .str sep, [.lst xs] => (strL xs).bind fun ys => if (ys.map (·.length)).sum + ys.length * sep.length ≤ 16777216 then some (.str (Txt.join sep ys)) else none
  | _, _ => none
@[simp] def joinG (g : GE) (gA : GA) : GE := fun δ => (g δ).bind fun d => (gA δ).bind fun ds => joinD d ds
@[simp] def tupOfD : List D → Option D
  | [.lst ds] => some (.tup ds)
  | [.tup ds] => some (.tup ds)
  | _ => none

/-! ### over data alone -/
theorem compD_filter {f : D → Ds → Option Ds} {gt : GB} {ge : GE} {δ : Ds} (p : D → Bool) (h : D → D) : ∀ {items : List D}, (∀ d ∈ items, ∃ δ', f d δ = some δ' ∧ gt δ' = some (p d) ∧ (p d = true → ge δ' = some (h d))) →
    compD f gt ge δ items = some ((items.filter p).map h)
  | [], _ => rfl
  | d :: ds, H => by
    obtain ⟨δ', e1, e2, e3⟩ := H d List.mem_cons_self
    have ih := compD_filter p h fun d hd => H d (List.mem_cons_of_mem _ hd)
    unfold compD
    rw [e1]
    dsimp only
    rw [e2]
    cases hp : p d with
    | false =>
      dsimp only
      rw [List.filter_cons_of_neg (by simp [hp])]
      exact ih
    | true =>
      dsimp only
      rw [e3 hp, ih, List.filter_cons_of_pos hp]
      rfl
theorem compD_map {f : D → Ds → Option Ds} {gt : GB} {ge : GE} {δ : Ds} (h : D → D) {items : List D} (H : ∀ d ∈ items, ∃ δ', f d δ = some δ' ∧ gt δ' = some true ∧ ge δ' = some (h d)) : compD f gt ge δ items = some (items.map h) := by
  have := compD_filter (f := f) (gt := gt) (ge := ge) (δ := δ) (fun _ => true) h (items := items) fun d hd => by
    obtain ⟨δ', a, b, c⟩ := H d hd
    exact ⟨δ', a, b, fun _ => c⟩
  rw [List.filter_eq_self.mpr (by simp)] at this
  exact this
theorem bools_map {α : Type} (h : α → Bool) : ∀ l : List α, bools (l.map fun a => .bl (h a)) = some (l.map h)
  | [] => rfl
  | a :: l => by
    show (bools (l.map fun a => .bl (h a))).map (fun r => h a :: r) = _
    rw [bools_map h l]
    rfl
theorem strs_map {α : Type} (h : α → Str) : ∀ l : List α, strL (l.map fun a => .str (h a)) = some (l.map h)
  | [] => rfl
  | a :: l => by
    show (strL (l.map fun a => .str (h a))).map (fun r => h a :: r) = _
    rw [strs_map h l]
    rfl
/-- a loop whose every turn goes on -/
theorem forD_inv {f : D → Ds → Option Ds} {G : GS} (P : Nat → Ds → Prop) : ∀ (items : List D) (i : Nat) (δ : Ds), (∀ j d δ, items[j]? = some d → P (i + j) δ → ∃ δ1 δ2, f d δ = some δ1 ∧ G δ1 = some (.nx δ2) ∧ P (i + j + 1) δ2) → P i δ →
    ∃ δ', forD f G items δ = some (.nx δ') ∧ P (i + items.length) δ'
  | [], i, δ, _, h => ⟨δ, rfl, h⟩
  | d :: ds, i, δ, H, h => by
    obtain ⟨δ1, δ2, e1, e2, h2⟩ := H 0 d δ rfl h
    obtain ⟨δ', e3, h3⟩ := forD_inv P ds (i + 1) δ2 (fun j d δ hj hp => by
      have q : i + (j + 1) = i + 1 + j := by omega
      obtain ⟨a, b, c, d', e⟩ := H (j + 1) d δ (by simpa using hj) (by rw [q]; exact hp)
      exact ⟨a, b, c, d', by rw [q] at e; exact e⟩) h2
    have q : i + (d :: ds).length = i + 1 + ds.length := by rw [List.length_cons]; omega
    refine ⟨δ', ?_, by rw [q]; exact h3⟩
    unfold forD
    rw [e1]
    simp only [Option.bind_some, e2]
    exact e3
theorem seq_nx {G1 G2 : GS} {δ δ' : Ds} (h : G1 δ = some (.nx δ')) : seqD G1 G2 δ = G2 δ' := by unfold seqD; rw [h]
theorem seq_rt {G1 G2 : GS} {δ : Ds} {d : D} (h : G1 δ = some (.rt d)) : seqD G1 G2 δ = some (.rt d) := by unfold seqD; rw [h]
theorem ret_of {g : GE} {δ : Ds} {d : D} (h : g δ = some d) : retD g δ = some (.rt d) := by unfold retD; rw [h]; rfl
theorem set_of {g : GE} {i : Nat} {δ : Ds} {d : D} (h : g δ = some d) : setD (gN i) g δ = some (.nx (δ.set i (.sh d))) := by unfold setD; rw [h]; rfl
theorem if_t {g : GB} {Ga Gb : GS} {δ : Ds} (h : g δ = some true) : ifD g Ga Gb δ = Ga δ := by unfold ifD; rw [h]; rfl
theorem if_f {g : GB} {Ga Gb : GS} {δ : Ds} (h : g δ = some false) : ifD g Ga Gb δ = Gb δ := by unfold ifD; rw [h]; rfl
theorem comp_of {n : Nat} {caps : List Nat} {gi : GA} {f : D → Ds → Option Ds} {gt : GB} {ge : GE} {δ : Ds} {items out : List D} (h1 : gi δ = some items) (h2 : items.length ≤ sizeLine) (h3 : compD f gt ge (dComp n caps δ) items = some out) : compG n caps gi f gt ge δ = some (.lst out) := by
  unfold compG
  rw [h1]
  show (if items.length ≤ sizeLine then (compD f gt ge (dComp n caps δ) items).map D.lst else none) = _
  rw [if_pos h2, h3]
  rfl
theorem for_of {gi : GA} {f : D → Ds → Option Ds} {G : GS} {δ : Ds} {items : List D} {r : Option Res} (h1 : gi δ = some items) (h2 : forD f G items δ = r) : forG gi f G δ = r := by
  unfold forG
  rw [h1]
  exact h2
theorem cons_of {g : GE} {gA : GA} {δ : Ds} {d : D} {ds : List D} (h1 : g δ = some d) (h2 : gA δ = some ds) : consA g gA δ = some (d :: ds) := by unfold consA; rw [h1, h2]; rfl
theorem oA_of {gA : GA} {δ : Ds} {ds : List D} {f : List D → Option D} (h : gA δ = some ds) : oA gA f δ = f ds := by unfold oA; rw [h]; rfl
theorem o2_of {ga gb : GE} {δ : Ds} {x y : D} {f : D → D → Option D} (h1 : ga δ = some x) (h2 : gb δ = some y) : o2 ga gb f δ = f x y := by unfold o2; rw [h1, h2]; rfl
theorem join_of {g : GE} {gA : GA} {δ : Ds} {x : D} {ds : List D} (h1 : g δ = some x) (h2 : gA δ = some ds) : joinG g gA δ = joinD x ds := by unfold joinG; rw [h1, h2]; rfl
theorem for_cons {f : D → Ds → Option Ds} {G : GS} {d : D} {ds : List D} {δ δ1 δ2 : Ds} (h1 : f d δ = some δ1) (h2 : G δ1 = some (.nx δ2)) : forD f G (d :: ds) δ = forD f G ds δ2 := by
  conv => lhs; unfold forD
  rw [h1]
  simp only [Option.bind_some, h2]
theorem atI_in {α : Type} {xs : List α} {i : Int} (h0 : 0 ≤ i) (h1 : i < xs.length) (d : α) : atI xs i = some (xs.getD i.toNat d) := by
  unfold atI ixN
  rw [if_pos h0, if_pos h1]
  show xs[i.toNat]? = _
  have : i.toNat < xs.length := by omega
  simp [List.getD_eq_getElem?_getD, this]
theorem inS_one (c : Nat) (y : Str) : inS ⟨#[c]⟩ y = decide (c ∈ y.cps.toList) := PySem.StrLaws.found_one y c
end DL
/-! Data, second part: lists and dicts of one's own, borrowing, while, equality of data, more of Python's own functions. -/
namespace DL
open PySem PySem.Spec PyProof.Rows
@[simp] def frz1 : Sl → Sl
  | .ow d => .sh d
  | s => s
@[simp] def frz (δ : Ds) : Ds := δ.map frz1
@[simp] def flat : D → Bool
  | .non => true | .bl _ => true | .int _ => true | .str _ => true | _ => false
/-- a piece that reads lists of one's own and is worth a flat value -/
@[simp] def borE (g : GE) : GE := fun δ => (g (frz δ)).bind fun d => if flat d = true then some d else none
@[simp] def borB (g : GB) : GB := fun δ => g (frz δ)
@[simp] def borA (g : GE) : GE := fun δ => g (frz δ)
@[simp] def frzAt (i : Nat) (δ : Ds) : Ds := match δ[i]? with
  | some s => δ.set i (frz1 s)
  | none => δ
@[simp] def frzS (i : Nat) (G : GS) : GS := fun δ => G (frzAt i δ)
/-- x = a new list or dict, one's own -/
@[simp] def ownD (i : Nat) (g : GE) : GS := fun δ => (g δ).map fun d => .nx (δ.set i (.ow d))
/-- an expression that may change what is one's own -/
abbrev GX := Ds → Option (D × Ds)
@[simp] def pureX (g : GE) : GX := fun δ => (g δ).map fun d => (d, δ)
@[simp] def asgX (gx : GX) (ft : D → Ds → Option Ds) : GS := fun δ => (gx δ).bind fun r => (ft r.1 r.2).map .nx
@[simp] def exprX (gx : GX) : GS := fun δ => (gx δ).map fun r => .nx r.2
@[simp] def owL (i : Nat) (δ : Ds) : Option (List D) := match δ[i]? with
  | some (.ow (.lst ds)) => some ds
  | _ => none
@[simp] def appX (i : Nat) (g : GE) : GX := fun δ => (owL i δ).bind fun ds => (g δ).bind fun d => if ds.length < sizeLine then some (.non, δ.set i (.ow (.lst (ds ++ [d])))) else none
@[simp] def extX (i : Nat) (g : GE) : GX := fun δ => (owL i δ).bind fun ds => (g δ).bind fun d => match d with
  | .lst es => if ds.length + es.length ≤ sizeLine then some (.non, δ.set i (.ow (.lst (ds ++ es)))) else none
  | _ => none
@[simp] def popX (i : Nat) : GX := fun δ => (owL i δ).bind fun ds => (ds.getLast?).map fun d => (d, δ.set i (.ow (.lst ds.dropLast)))
@[simp] def popAtX (i : Nat) (g : GE) : GX := fun δ => (owL i δ).bind fun ds => (g δ).bind fun d => match d with
  | .int k => if 0 ≤ k ∧ k < ds.length then (ds[k.toNat]?).map fun d => (d, δ.set i (.ow (.lst (ds.eraseIdx k.toNat)))) else none
  | _ => none
/-- x[e] = v, a list of one's own -/
@[simp] def setAt (i : Nat) (g : GE) : D → Ds → Option Ds := fun v δ => (owL i δ).bind fun ds => (g δ).bind fun d => match d with
  | .int k => (ixN ds.length k).map fun j => δ.set i (.ow (.lst (ds.set j v)))
  | _ => none
abbrev KeyD := Sum Int Str
@[simp] def asKey : D → Option KeyD
  | .int i => some (.inl i)
  | .str x => some (.inr x)
  | _ => none
def getK : List KeyD → List D → KeyD → Option D
  | k :: ks, d :: ds, q => if k = q then some d else getK ks ds q
  | _, _, _ => none
/-- in its place, or at the end -/
def hasK (ks : List KeyD) (k : KeyD) : Bool := ks.any fun q => decide (q = k)
def putKs (ks : List KeyD) (k : KeyD) : List KeyD := if hasK ks k = true then ks else ks ++ [k]
def putDs (ks : List KeyD) (ds : List D) (q : KeyD) (v : D) : List D := if hasK ks q = true then (ks.zip ds).map (fun p => if p.1 = q then v else p.2) else ds ++ [v]
@[simp] def owDc (i : Nat) (δ : Ds) : Option (List KeyD × List D) := match δ[i]? with
  | some (.ow (.dct ks ds)) => some (ks, ds)
  | _ => none
/-- x[e] = v, a dict of one's own -/
@[simp] def putAt (i : Nat) (g : GE) : D → Ds → Option Ds := fun v δ => (owDc i δ).bind fun r => (g δ).bind fun d => (asKey d).bind fun k =>
  if r.1.length < sizeLine then some (δ.set i (.ow (.dct (putKs r.1 k) (putDs r.1 r.2 k v)))) else none
/-- d[k], k in d -/
@[simp] def dgetD : D → D → Option D
  | .dct ks ds, d => (asKey d).bind fun k => getK ks ds k
  | _, _ => none
@[simp] def inDctD (neg : Bool) : D → D → Option D
  | d, .dct ks ds => (asKey d).map fun k => .bl (xor neg (hasK ks k))
  | _, _ => none
@[simp] def tup2 (i j : Nat) : D → Ds → Option Ds
  | .tup [a, b], δ => some ((δ.set i (.sh a)).set j (.sh b))
  | _, _ => none
/-! equality of data -/
mutual
def deq : D → D → Bool
  | .non, .non => true
  | .bl a, .bl b => a == b
  | .bl a, .int b => (if a then 1 else 0) == b
  | .int a, .bl b => a == (if b then 1 else 0)
  | .int a, .int b => a == b
  | .str a, .str b => a == b
  | .tup xs, .tup ys => deqs xs ys
  | .lst xs, .lst ys => deqs xs ys
  | _, _ => false
def deqs : List D → List D → Bool
  | [], [] => true
  | x :: xs, y :: ys => deq x y && deqs xs ys
  | _, _ => false
end
mutual
/-- without dicts, at most so deep -/
def lean : D → Nat → Bool
  | .dct _ _, _ => false
  | .tup xs, n + 1 => leans xs n
  | .lst xs, n + 1 => leans xs n
  | .tup _, 0 => false
  | .lst _, 0 => false
  | _, _ => true
def leans : List D → Nat → Bool
  | [], _ => true
  | x :: xs, n => lean x n && leans xs n
end
@[simp] def eqDD (x y : D) : Option D := if lean x 50 = true ∧ lean y 50 = true then some (.bl (deq x y)) else none
@[simp] def neDD (x y : D) : Option D := if lean x 50 = true ∧ lean y 50 = true then some (.bl (!deq x y)) else none
@[simp] def eqF : D → D → Bool
  | .non, .non => true
  | .bl a, .bl b => a == b
  | .bl a, .int b => (if a then 1 else 0) == b
  | .int a, .bl b => a == (if b then 1 else 0)
  | .int a, .int b => a == b
  | .str a, .str b => a == b
  | _, _ => false
/-- x in a list or tuple of flat things -/
@[simp] def inSeqD (neg : Bool) : D → D → Option D
  | x, .lst ys => if flat x = true ∧ ys.all flat = true then some (.bl (xor neg (ys.any fun y => eqF y x))) else none
  | x, .tup ys => if flat x = true ∧ ys.all flat = true then some (.bl (xor neg (ys.any fun y => eqF y x))) else none
  | _, _ => none
@[simp] def inAny : D → D → Option D
  | x, .lst ys => inSeqD false x (.lst ys)
  | x, .tup ys => inSeqD false x (.tup ys)
  | x, .dct ks ds => inDctD false x (.dct ks ds)
  | .str x, .str y => some (.bl (inS x y))
  | _, _ => none
@[simp] def ninAny : D → D → Option D
  | x, .lst ys => inSeqD true x (.lst ys)
  | x, .tup ys => inSeqD true x (.tup ys)
  | x, .dct ks ds => inDctD true x (.dct ks ds)
  | .str x, .str y => some (.bl (!inS x y))
  | _, _ => none
/-- xs[i], also of a dict -/
@[simp] def ixAny : D → D → Option D
  | .dct ks ds, d => dgetD (.dct ks ds) d
  | x, d => ixD x d
@[simp] def isDct : D → Bool
  | .dct _ _ => true | _ => false
/-! more functions -/
@[simp] def minD : List D → Option D
  | [.int i, .int j] => some (.int (if j < i then j else i))
  | _ => none
@[simp] def intOfD : List D → Option D
  | [.int i] => some (.int i)
  | [.bl k] => some (.int (if k then 1 else 0))
  | _ => none
@[simp] def lstOfD : List D → Option D
  | [.lst ds] => some (.lst ds)
  | [.tup ds] => some (.lst ds)
  | _ => none
def hasS (acc : List Str) (y : Str) : Bool := acc.any fun z => decide (z = y)
def insS (acc : List Str) (y : Str) : List Str := if hasS acc y = true then acc else acc ++ [y]
/-- each once, as first met -/
def onceS (ys : List Str) : List Str := ys.foldl insS []
@[simp] def lenSetD : List D → Option D
  | [.lst ds] => (strL ds).bind fun ys => if ys.length ≤ 4000 then some (.int (onceS ys).length) else none
  | _ => none
/-- a def, as its body tells -/
def mkF (n : Nat) (N : List Str) (G : GS) (ds : List D) : Option D := if ds.length = n then (match G (dStart N ds) with
  | some (.rt d) => some d
  | some (.rf d) => some d
  | some (.nx _) => some .non
  | _ => none) else none
theorem mkF_ok {n : Nat} {N : List Str} {G : GS} {ds : List D} {d : D} (h : mkF n N G ds = some d) : ds.length = n ∧ (G (dStart N ds) = some (.rt d) ∨ (d = .non ∧ ∃ δ, G (dStart N ds) = some (.nx δ)) ∨ G (dStart N ds) = some (.rf d)) := by
  unfold mkF at h
  split at h
  · rename_i hl
    refine ⟨hl, ?_⟩
    split at h
    · rename_i e; cases h; exact .inl e
    · rename_i e; cases h; exact .inr (.inr e)
    · rename_i e; cases h; exact .inr (.inl ⟨rfl, _, e⟩)
    · cases h
  · cases h
/-- a def that gives back a new list or dict -/
def mkN (n : Nat) (N : List Str) (G : GS) (ds : List D) : Option D := if ds.length = n then (match G (dStart N ds) with
  | some (.rf d) => some d
  | _ => none) else none
theorem mkN_rf {n : Nat} {N : List Str} {G : GS} {ds : List D} {d : D} (hl : ds.length = n) (h : G (dStart N ds) = some (.rf d)) : mkN n N G ds = some d := by
  unfold mkN
  rw [if_pos hl, h]
@[simp] def retF (g : GE) : GS := fun δ => (g δ).map .rf
@[simp] def retO (i : Nat) : GS := fun δ => match δ[i]? with
  | some (.ow d) => some (.rf d)
  | _ => none
theorem seq_rf {G1 G2 : GS} {δ : Ds} {d : D} (h : G1 δ = some (.rf d)) : seqD G1 G2 δ = some (.rf d) := by unfold seqD; rw [h]
theorem retF_of {g : GE} {δ : Ds} {d : D} (h : g δ = some d) : retF g δ = some (.rf d) := by unfold retF; rw [h]; rfl
theorem mkF_rt {n : Nat} {N : List Str} {G : GS} {ds : List D} {d : D} (hl : ds.length = n) (h : G (dStart N ds) = some (.rt d)) : mkF n N G ds = some d := by
  unfold mkF
  rw [if_pos hl, h]
theorem seq_to {G1 G2 : GS} {δ δ' : Ds} {r : Option Res} (h : G1 δ = some (.nx δ')) (k : G2 δ' = r) : seqD G1 G2 δ = r := (seq_nx h).trans k
/-! + and * and slices in full -/
@[simp] def addA : D → D → Option D
  | .int i, .int j => some (.int (i + j))
  | .str x, .str y => if x.length + y.length ≤ sizeLine then some (.str (x ++ y)) else none
  | .lst xs, .lst ys => if xs.length + ys.length ≤ sizeLine then some (.lst (xs ++ ys)) else none
  | .tup xs, .tup ys => if xs.length + ys.length ≤ sizeLine then some (.tup (xs ++ ys)) else none
  | _, _ => none
def repD (x : Str) (n : Int) : Str := ⟨(List.replicate n.toNat x.cps).foldl (· ++ ·) #[]⟩
@[simp] def mulA : D → D → Option D
  | .int i, .int j => if (-(2 ^ 64) < i ∧ i < 2 ^ 64) ∨ (-(2 ^ 64) < j ∧ j < 2 ^ 64) then some (.int (i * j)) else none
  | .str x, .int n => if -(2 ^ 62) ≤ n ∧ n < 2 ^ 62 ∧ x.length * n.toNat ≤ sizeLine then some (.str (repD x n)) else none
  | .tup xs, .int k => if xs ≠ [] ∧ 2 ≤ k ∧ k < 2 ^ 62 ∧ xs.length * k.toNat ≤ sizeLine then some (.tup (List.replicate k.toNat xs).flatten) else none
  | _, _ => none
@[simp] def slA (d : D) (lo hi : Option Int) : Option D := match d with
  | .str z => if z.length ≤ sizeLine then some (.str (Txt.slice z lo hi)) else none
  | .lst xs => some (.lst (cutD xs lo hi))
  | .tup xs => some (.tup (cutD xs lo hi))
  | _ => none
@[simp] def slAG (g : GE) (gl gh : GO) : GE := fun δ => (g δ).bind fun d => (gl δ).bind fun l => (gh δ).bind fun h => slA d l h
end DL
namespace DL
open PySem PySem.Spec PyProof.Rows
@[simp] def catD : D → D → Option D
  | .lst xs, .lst ys => if xs.length + ys.length ≤ sizeLine then some (.lst (xs ++ ys)) else none
  | _, _ => none
theorem tup_of {gA : GA} {δ : Ds} {ds : List D} (h : gA δ = some ds) (hl : ds.length ≤ sizeLine) : tupG gA δ = some (.tup ds) := by
  unfold tupG
  rw [h, Option.bind_some, if_pos hl]
theorem lst_of {gA : GA} {δ : Ds} {ds : List D} (h : gA δ = some ds) (hl : ds.length ≤ sizeLine) : lstG gA δ = some (.lst ds) := by
  unfold lstG
  rw [h, Option.bind_some, if_pos hl]
theorem rng_mem {n : Int} {d : D} (h : d ∈ rngD 0 n) : ∃ k : Nat, (k : Int) < n ∧ d = .int (k : Int) := by
  obtain ⟨k, hk, rfl⟩ := List.mem_map.mp h
  have := List.mem_range.mp hk
  exact ⟨k, by omega, by rw [Int.zero_add]⟩
theorem rng_map {α : Type} (f : D → α) (n : Int) : (rngD 0 n).map f = (List.range n.toNat).map fun (k : Nat) => f (.int (k : Int)) := by
  unfold rngD
  rw [List.map_map]
  have : n - 0 = n := by omega
  rw [this]
  refine List.map_congr_left fun k _ => ?_
  show f (.int (0 + (k : Int))) = _
  rw [Int.zero_add]
theorem rng_len (n : Int) : (rngD 0 n).length = n.toNat := by unfold rngD; simp
theorem rng_get {n : Int} {j : Nat} {d : D} (h : (rngD 0 n)[j]? = some d) : j < n.toNat ∧ d = .int (j : Int) := by
  have hj : j < n.toNat := by
    have := (List.getElem?_eq_some_iff.mp h).1
    rwa [rng_len] at this
  refine ⟨hj, ?_⟩
  unfold rngD at h
  rw [List.getElem?_map, List.getElem?_range (by simpa using hj)] at h
  have := Option.some.inj h
  rw [← this]
  show D.int (0 + (j : Int)) = _
  rw [Int.zero_add]
theorem getD_map_range {α : Type} (f : Nat → α) (n j : Nat) (d : α) (h : j < n) : ((List.range n).map f).getD j d = f j := by
  simp [List.getD_eq_getElem?_getD, h]
/-- one comprehension over range(n) -/
theorem comp_rng {gt : GB} {ge : GE} {δ : Ds} {n : Int} (h : Nat → D) (H : ∀ k : Nat, (k : Int) < n → ∃ δ', gN 0 (.int (k : Int)) δ = some δ' ∧ gt δ' = some true ∧ ge δ' = some (h k)) :
    compD (gN 0) gt ge δ (rngD 0 n) = some ((List.range n.toNat).map h) := by
  rw [compD_map (fun d => match d with | .int j => h j.toNat | _ => .non) (fun d hd => by
    obtain ⟨k, hk, rfl⟩ := rng_mem hd
    exact H k hk), rng_map]
  rfl
end DL
/-! Values without a heap: what a pure piece of the text is worth, as a function over data. -/
namespace DL
open PySem PySem.Spec PyProof.Rows L2

abbrev BS := Addr → Prop
abbrev St := L2.St
abbrev noH : Hp := fun _ => none
def SqT' (K : PySem.W.Frag) (H : Hp) (B : BS) (a : Addr) (xs : List V) : Prop := (¬ B a ∧ Rd H a (.tup xs)) ∨ SqT K noH a xs
def SqL' (K : PySem.W.Frag) (H : Hp) (B : BS) (a : Addr) (xs : List V) : Prop := (¬ B a ∧ Rd H a (.lst xs)) ∨ SqL K noH a xs
section
variable {K : PySem.W.Frag} {H H' : Hp} {B B' : BS} {a : Addr} {xs : List V}
theorem rd_no {a : Addr} {u : HO} (h : Rd noH a u) : False := by
  rcases h with h | ⟨o, h⟩ <;> cases h
theorem SqT'.to (h : SqT' K H B a xs) : SqT K H a xs := by
  rcases h with h | h | h
  · exact .inl h.2
  · exact (rd_no h).elim
  · exact .inr h
theorem SqL'.to (h : SqL' K H B a xs) : SqL K H a xs := by
  rcases h with h | h | h
  · exact .inl h.2
  · exact (rd_no h).elim
  · exact .inr h
/-- H' and B' hold all that H off B does -/
def Gr (H H' : Hp) (B B' : BS) : Prop := ∀ b o, ¬ B b → H b = some o → ¬ B' b ∧ H' b = some o
theorem SqT'.mono (g : Gr H H' B B') (h : SqT' K H B a xs) : SqT' K H' B' a xs := by
  rcases h with ⟨n, h | ⟨o, h⟩⟩ | h
  · exact .inl ⟨(g _ _ n h).1, .inl (g _ _ n h).2⟩
  · exact .inl ⟨(g _ _ n h).1, .inr ⟨o, (g _ _ n h).2⟩⟩
  · exact .inr h
theorem SqL'.mono (g : Gr H H' B B') (h : SqL' K H B a xs) : SqL' K H' B' a xs := by
  rcases h with ⟨n, h | ⟨o, h⟩⟩ | h
  · exact .inl ⟨(g _ _ n h).1, .inl (g _ _ n h).2⟩
  · exact .inl ⟨(g _ _ n h).1, .inr ⟨o, (g _ _ n h).2⟩⟩
  · exact .inr h
theorem Gr.same (s : Same H H') : Gr H H' B B := fun b o n h => ⟨n, s b o h⟩
theorem Gr.less (h : ∀ a, B' a → B a) : Gr H H B B' := fun b o n e => ⟨fun z => n (h b z), e⟩
end

mutual
def Rp (K : PySem.W.Frag) (H : Hp) (B : BS) : D → V → Prop
  | .non, v => v = .non
  | .bl b, v => v = .bl b
  | .int i, v => v = .int i
  | .str x, v => v = .str x
  | .tup ds, v => ∃ a xs, v = .ref a ∧ SqT' K H B a xs ∧ Rps K H B ds xs
  | .lst ds, v => ∃ a xs, v = .ref a ∧ SqL' K H B a xs ∧ Rps K H B ds xs
  | .dct ks ds, v => ∃ a xs, v = .ref a ∧ ¬ B a ∧ H a = some (.dK (ks.zip xs)) ∧ ks.length = xs.length ∧ Rps K H B ds xs
def Rps (K : PySem.W.Frag) (H : Hp) (B : BS) : List D → List V → Prop
  | [], xs => xs = []
  | d :: ds, xs => ∃ x r, xs = x :: r ∧ Rp K H B d x ∧ Rps K H B ds r
end
mutual
theorem Rp.mono {K : PySem.W.Frag} {H H' : Hp} {B B' : BS} (g : Gr H H' B B') : ∀ {d : D} {v : V}, Rp K H B d v → Rp K H' B' d v
  | .non, _, h => by unfold Rp at h ⊢; exact h
  | .bl _, _, h => by unfold Rp at h ⊢; exact h
  | .int _, _, h => by unfold Rp at h ⊢; exact h
  | .str _, _, h => by unfold Rp at h ⊢; exact h
  | .tup ds, _, h => by
    unfold Rp at h ⊢
    obtain ⟨a, xs, e, q, r⟩ := h
    exact ⟨a, xs, e, q.mono g, Rps.mono g r⟩
  | .lst ds, _, h => by
    unfold Rp at h ⊢
    obtain ⟨a, xs, e, q, r⟩ := h
    exact ⟨a, xs, e, q.mono g, Rps.mono g r⟩
  | .dct ks ds, _, h => by
    unfold Rp at h ⊢
    obtain ⟨a, xs, e, n, q, l, r⟩ := h
    exact ⟨a, xs, e, (g _ _ n q).1, (g _ _ n q).2, l, Rps.mono g r⟩
theorem Rps.mono {K : PySem.W.Frag} {H H' : Hp} {B B' : BS} (g : Gr H H' B B') : ∀ {ds : List D} {xs : List V}, Rps K H B ds xs → Rps K H' B' ds xs
  | [], _, h => by unfold Rps at h ⊢; exact h
  | d :: ds, _, h => by
    unfold Rps at h ⊢
    obtain ⟨x, r, e, h1, h2⟩ := h
    exact ⟨x, r, e, Rp.mono g h1, Rps.mono g h2⟩
end
section
variable {K : PySem.W.Frag} {H H' : Hp} {B B' : BS} {v : V}
theorem rp_non : Rp K H B .non v = (v = .non) := by unfold Rp; rfl
theorem rp_bl {b : Bool} : Rp K H B (.bl b) v = (v = .bl b) := by unfold Rp; rfl
theorem rp_int {i : Int} : Rp K H B (.int i) v = (v = .int i) := by unfold Rp; rfl
theorem rp_str {x : Str} : Rp K H B (.str x) v = (v = .str x) := by unfold Rp; rfl
theorem rp_tup {ds : List D} : Rp K H B (.tup ds) v = ∃ a xs, v = .ref a ∧ SqT' K H B a xs ∧ Rps K H B ds xs := by conv => lhs; unfold Rp
theorem rp_lst {ds : List D} : Rp K H B (.lst ds) v = ∃ a xs, v = .ref a ∧ SqL' K H B a xs ∧ Rps K H B ds xs := by conv => lhs; unfold Rp
theorem rp_dct {ks : List Key} {ds : List D} : Rp K H B (.dct ks ds) v = ∃ a xs, v = .ref a ∧ ¬ B a ∧ H a = some (.dK (ks.zip xs)) ∧ ks.length = xs.length ∧ Rps K H B ds xs := by conv => lhs; unfold Rp
theorem rps_nil {xs : List V} : Rps K H B [] xs = (xs = []) := by unfold Rps; rfl
theorem rps_cons {d : D} {ds : List D} {xs : List V} : Rps K H B (d :: ds) xs = ∃ x r, xs = x :: r ∧ Rp K H B d x ∧ Rps K H B ds r := by conv => lhs; unfold Rps
theorem Rps.length : ∀ {ds : List D} {xs : List V}, Rps K H B ds xs → xs.length = ds.length
  | [], _, h => by rw [rps_nil] at h; subst h; rfl
  | d :: ds, _, h => by
    rw [rps_cons] at h
    obtain ⟨x, r, rfl, _, h2⟩ := h
    simp [Rps.length h2]
theorem Rps.get : ∀ {ds : List D} {xs : List V} {i : Nat} {d : D}, Rps K H B ds xs → ds[i]? = some d → ∃ x, xs[i]? = some x ∧ Rp K H B d x
  | [], _, _, _, _, e => by simp at e
  | d :: ds, _, 0, d', h, e => by
    rw [rps_cons] at h
    obtain ⟨x, r, rfl, h1, _⟩ := h
    simp at e; subst e
    exact ⟨x, rfl, h1⟩
  | d :: ds, _, i + 1, d', h, e => by
    rw [rps_cons] at h
    obtain ⟨x, r, rfl, _, h2⟩ := h
    obtain ⟨y, e1, e2⟩ := Rps.get (i := i) h2 (by simpa using e)
    exact ⟨y, by simpa using e1, e2⟩
theorem Rps.snoc : ∀ {ds : List D} {xs : List V} {d : D} {x : V}, Rps K H B ds xs → Rp K H B d x → Rps K H B (ds ++ [d]) (xs ++ [x])
  | [], _, _, _, h, r => by
    rw [rps_nil] at h; subst h
    rw [List.nil_append, List.nil_append, rps_cons]
    exact ⟨_, [], rfl, r, by rw [rps_nil]⟩
  | d :: ds, _, _, _, h, r => by
    rw [rps_cons] at h
    obtain ⟨y, t, rfl, h1, h2⟩ := h
    rw [List.cons_append, List.cons_append, rps_cons]
    exact ⟨y, _, rfl, h1, Rps.snoc h2 r⟩
theorem Rps.append : ∀ {ds es : List D} {xs ys : List V}, Rps K H B ds xs → Rps K H B es ys → Rps K H B (ds ++ es) (xs ++ ys)
  | [], _, _, _, h, r => by rw [rps_nil] at h; subst h; exact r
  | d :: ds, _, _, _, h, r => by
    rw [rps_cons] at h
    obtain ⟨y, t, rfl, h1, h2⟩ := h
    rw [List.cons_append, List.cons_append, rps_cons]
    exact ⟨y, _, rfl, h1, Rps.append h2 r⟩
theorem Rps.drop : ∀ {ds : List D} {xs : List V} (n : Nat), Rps K H B ds xs → Rps K H B (ds.drop n) (xs.drop n)
  | _, _, 0, h => h
  | [], _, n + 1, h => by rw [rps_nil] at h; subst h; simpa [rps_nil]
  | d :: ds, _, n + 1, h => by
    rw [rps_cons] at h
    obtain ⟨y, t, rfl, h1, h2⟩ := h
    simpa using Rps.drop n h2
theorem Rps.take : ∀ {ds : List D} {xs : List V} (n : Nat), Rps K H B ds xs → Rps K H B (ds.take n) (xs.take n)
  | _, _, 0, h => by simp [rps_nil]
  | [], _, n + 1, h => by rw [rps_nil] at h; subst h; simp [rps_nil]
  | d :: ds, _, n + 1, h => by
    rw [rps_cons] at h
    obtain ⟨y, t, rfl, h1, h2⟩ := h
    rw [List.take_succ_cons, List.take_succ_cons, rps_cons]
    exact ⟨y, _, rfl, h1, Rps.take n h2⟩
theorem Rps.same {ds : List D} {xs : List V} (s : Same H H') (h : Rps K H B ds xs) : Rps K H' B ds xs := Rps.mono (Gr.same s) h
theorem Rp.same {d : D} {v : V} (s : Same H H') (h : Rp K H B d v) : Rp K H' B d v := Rp.mono (Gr.same s) h
end

/-! ### the names of a body -/
/-- the object at a is the list or dict d -/
def RpO (K : PySem.W.Frag) (H : Hp) (B : BS) (d : D) (a : Addr) : Prop := match d with
  | .lst ds => ∃ xs, H a = some (.lst xs) ∧ Rps K H B ds xs
  | .dct ks ds => ∃ xs, H a = some (.dK (ks.zip xs)) ∧ ks.length = xs.length ∧ Rps K H B ds xs
  | _ => False
theorem RpO.same {K : PySem.W.Frag} {H H' : Hp} {B : BS} {d : D} {a : Addr} (s : Same H H') (h : RpO K H B d a) : RpO K H' B d a := by
  cases d <;> try exact h.elim
  · obtain ⟨xs, e, r⟩ := h; exact ⟨xs, s _ _ e, r.same s⟩
  · obtain ⟨xs, e, l, r⟩ := h; exact ⟨xs, s _ _ e, l, r.same s⟩
theorem RpO.rp {K : PySem.W.Frag} {H : Hp} {B B' : BS} {d : D} {a : Addr} (l : ∀ a, B' a → B a) (n : ¬ B' a) (h : RpO K H B d a) : Rp K H B' d (.ref a) := by
  cases d <;> try exact h.elim
  · obtain ⟨xs, e, r⟩ := h
    rw [rp_lst]
    exact ⟨a, xs, rfl, .inl ⟨n, .inl e⟩, r.mono (Gr.less l)⟩
  · obtain ⟨xs, e, q, r⟩ := h
    rw [rp_dct]
    exact ⟨a, xs, rfl, n, e, q, r.mono (Gr.less l)⟩
theorem RpO.live {K : PySem.W.Frag} {H : Hp} {B : BS} {d : D} {a : Addr} (h : RpO K H B d a) : H a ≠ none := by
  cases d <;> try exact h.elim
  · obtain ⟨xs, e, r⟩ := h; rw [e]; exact fun z => nomatch z
  · obtain ⟨xs, e, q, r⟩ := h; rw [e]; exact fun z => nomatch z
def SlR (K : PySem.W.Frag) (H : Hp) (B : BS) (o : Option V) : Sl → Prop
  | .un => True
  | .sh d => ∃ v, o = some v ∧ Rp K H B d v
  | .ow d => ∃ a, o = some (.ref a) ∧ B a ∧ RpO K H B d a
theorem Pd.get {α β : Type} {F : α → β → Prop} : ∀ {l : List α} {m : List β} {i : Nat} {b : β}, Paired F l m → m[i]? = some b → ∃ a, l[i]? = some a ∧ F a b
  | _, _, _, _, .nil, e => by simp at e
  | _, _, 0, _, .cons r _, e => by simp at e; subst e; exact ⟨_, rfl, r⟩
  | _, _, i + 1, b, .cons _ t, e => by
    obtain ⟨u, h1, h2⟩ := Pd.get (i := i) (b := b) t (by simpa using e)
    exact ⟨u, by simpa using h1, h2⟩
theorem Pd.imp {α β : Type} {F G : α → β → Prop} (h : ∀ a b, F a b → G a b) : ∀ {l : List α} {m : List β}, Paired F l m → Paired G l m
  | _, _, .nil => .nil
  | _, _, .cons r t => .cons (h _ _ r) (Pd.imp h t)
theorem Pd.set {α β : Type} {F : α → β → Prop} {a : α} {b : β} (r : F a b) : ∀ {l : List α} {m : List β} (i : Nat), Paired F l m → Paired F (l.set i a) (m.set i b)
  | _, _, _, .nil => .nil
  | _, _, 0, .cons _ t => .cons r t
  | _, _, i + 1, .cons q t => .cons q (Pd.set r i t)
theorem Pd.len {α β : Type} {F : α → β → Prop} : ∀ {l : List α} {m : List β}, Paired F l m → l.length = m.length
  | _, _, .nil => rfl
  | _, _, .cons _ t => by simp [Pd.len t]
theorem Pd.app {α β : Type} {F : α → β → Prop} : ∀ {l l' : List α} {m m' : List β}, Paired F l m → Paired F l' m' → Paired F (l ++ l') (m ++ m')
  | _, _, _, _, .nil, s => s
  | _, _, _, _, .cons r t, s => .cons r (Pd.app t s)

structure Env (K : PySem.W.Frag) (H : Hp) (B : BS) (σ : St) (δ : Ds) : Prop where
  all : Paired (SlR K H B) σ δ
  bad : ∀ a, B a → H a ≠ none
  own : ∀ (i j : Nat) (a : Addr) (ds es : D), δ[i]? = some (.ow ds) → δ[j]? = some (.ow es) → σ[i]? = some (some (.ref a)) → σ[j]? = some (some (.ref a)) → i = j
section
variable {K : PySem.W.Frag} {H H' : Hp} {B : BS} {σ σ' : St} {δ δ' : Ds}
theorem SlR.same {o : Option V} {s : Sl} (q : Same H H') (h : SlR K H B o s) : SlR K H' B o s := by
  cases s with
  | un => trivial
  | sh d => obtain ⟨v, e, r⟩ := h; exact ⟨v, e, r.same q⟩
  | ow d => obtain ⟨a, e, b, r⟩ := h; exact ⟨a, e, b, r.same q⟩
theorem Env.same (q : Same H H') (e : Env K H B σ δ) : Env K H' B σ δ :=
  ⟨Pd.imp (fun _ _ h => h.same q) e.all, (fun a b z => by
    cases h : H a with
    | none => exact e.bad a b h
    | some o => rw [q a o h] at z; cases z), e.own⟩
theorem Env.free (e : Env K H B σ δ) {p : Addr} (h : H p = none) : ¬ B p := fun z => e.bad p z h
theorem Env.get (e : Env K H B σ δ) {i : Nat} {d : D} (h : δ[i]? = some (.sh d)) : ∃ v, σ[i]? = some (some v) ∧ Rp K H B d v := by
  obtain ⟨o, h1, v, rfl, r⟩ := Pd.get e.all h
  exact ⟨v, h1, r⟩
theorem Env.set (e : Env K H B σ δ) (i : Nat) {d : D} {v : V} (r : Rp K H B d v) : Env K H B (σ.set i (some v)) (δ.set i (.sh d)) := by
  refine ⟨Pd.set ⟨v, rfl, r⟩ i e.all, e.bad, fun j k a ds es h1 h2 h3 h4 => ?_⟩
  have hj : j ≠ i := by
    rintro rfl
    by_cases hl : j < δ.length
    · rw [List.getElem?_set_self hl] at h1; cases h1
    · rw [List.getElem?_eq_none (by simpa using hl)] at h1; cases h1
  have hk : k ≠ i := by
    rintro rfl
    by_cases hl : k < δ.length
    · rw [List.getElem?_set_self hl] at h2; cases h2
    · rw [List.getElem?_eq_none (by simpa using hl)] at h2; cases h2
  rw [List.getElem?_set_ne (Ne.symm hj)] at h1 h3
  rw [List.getElem?_set_ne (Ne.symm hk)] at h2 h4
  exact e.own j k a ds es h1 h2 h3 h4
end
theorem same_upd {H : Hp} {p : Addr} {o : HO} (h : H p = none) : Same H (upd H p o) := fun b u e => by rw [upd_ne (ne_of_none e h)]; exact e

/-! ### the judgements -/
def tD (K : PySem.W.Frag) (B : BS) (δ : Ds) (g : Ds → Option D) : TE := fun σ H Q => ∃ d, Env K H B σ δ ∧ g δ = some d ∧ ∀ v H', Same H H' → Rp K H' B d v → Q v H'
structure PD (X : Cx) (e : Expr) (g : Ds → Option D) : Prop where
  mk :: go : ∀ B δ, PE X e (tD X.K B δ g)
instance {X : Cx} {e : Expr} {g : Ds → Option D} : CoeFun (PD X e g) (fun _ => ∀ B δ, PE X e (tD X.K B δ g)) := ⟨PD.go⟩
def tDT (K : PySem.W.Frag) (B : BS) (δ : Ds) (g : Ds → Option Bool) : TT := fun σ H Q => ∃ b, Env K H B σ δ ∧ g δ = some b ∧ ∀ H', Same H H' → Q b H'
structure PTD (X : Cx) (e : Expr) (g : Ds → Option Bool) : Prop where
  mk :: go : ∀ B δ, PT X e (tDT X.K B δ g)
instance {X : Cx} {e : Expr} {g : Ds → Option Bool} : CoeFun (PTD X e g) (fun _ => ∀ B δ, PT X e (tDT X.K B δ g)) := ⟨PTD.go⟩
structure PWD (X : Cx) (e : Expr) (g : Ds → Option Bool) : Prop where
  mk :: go : ∀ B δ, PW X e (tDT X.K B δ g)
instance {X : Cx} {e : Expr} {g : Ds → Option Bool} : CoeFun (PWD X e g) (fun _ => ∀ B δ, PW X e (tDT X.K B δ g)) := ⟨PWD.go⟩
def tDA (K : PySem.W.Frag) (B : BS) (δ : Ds) (g : Ds → Option (List D)) : TA := fun σ H Q => ∃ ds, Env K H B σ δ ∧ g δ = some ds ∧ ∀ vs H', Same H H' → Rps K H' B ds vs → Q vs H'
structure PDA (X : Cx) (es : List Expr) (g : Ds → Option (List D)) : Prop where
  mk :: go : ∀ B δ, PA X es (tDA X.K B δ g)
instance {X : Cx} {es : List Expr} {g : Ds → Option (List D)} : CoeFun (PDA X es g) (fun _ => ∀ B δ, PA X es (tDA X.K B δ g)) := ⟨PDA.go⟩
theorem asB_eq {d : D} {b : Bool} (h : asB d = some b) : d = .bl b := by
  cases d <;> simp [asB] at h
  subst h; rfl
/-- an operation of two values, by data -/
def Op2 (K : PySem.W.Frag) (r : R2) (f : D → D → Option D) : Prop := ∀ (H : Hp) (B : BS) (x y : V) (dx dy d : D) (Q : VK), (∀ a, B a → H a ≠ none) → Rp K H B dx x → Rp K H B dy y → f dx dy = some d → (∀ v H', Same H H' → Rp K H' B d v → Q v H') → r x y H Q
/-- a call by values, by data -/
def FnR (K : PySem.W.Frag) (r : List V → Hp → VK → Prop) (f : List D → Option D) : Prop := ∀ (H : Hp) (B : BS) (xs : List V) (ds : List D) (d : D) (Q : VK), (∀ a, B a → H a ≠ none) → Rps K H B ds xs → f ds = some d → (∀ v H', Same H H' → Rp K H' B d v → Q v H') → r xs H Q
section
variable {X : Cx} {e a b c : Expr} {es : List Expr} {pos : Pos} {g ga gb : Ds → Option D} {gA : Ds → Option (List D)} {gt gu : Ds → Option Bool} {rest : List Expr}
theorem _root_.L2.PE.imp {t t' : TE} (h : PE X e t) (q : ∀ σ H Q, t' σ H Q → t σ H Q) : PE X e t' := fun pins s σ H Q I z => h pins s σ H Q I (q σ H Q z)
theorem _root_.L2.PT.imp {t t' : TT} (h : PT X e t) (q : ∀ σ H Q, t' σ H Q → t σ H Q) : PT X e t' := fun pins s σ H Q I z => h pins s σ H Q I (q σ H Q z)
theorem _root_.L2.PW.imp {t t' : TT} (h : PW X e t) (q : ∀ σ H Q, t' σ H Q → t σ H Q) : PW X e t' := fun w pins s σ H Q I z => h w pins s σ H Q I (q σ H Q z)
theorem _root_.L2.PA.imp {t t' : TA} (h : PA X es t) (q : ∀ σ H Q, t' σ H Q → t σ H Q) : PA X es t' := fun p pins s σ H Q I z => h p pins s σ H Q I (q σ H Q z)
theorem gv_eq {i : Nat} {δ : Ds} {d : D} (h : gv i δ = some d) : δ[i]? = some (.sh d) := by
  unfold gv at h
  split at h
  · cases h; assumption
  · cases h
theorem pd_var (i : Nat) {x : Str} (hN : X.N[i]? = some x := by rfl) (hv : Vis X.env.scope x := by first | exact Or.inl rfl | exact Or.inr (Or.inl rfl) | exact Or.inr (Or.inr rfl)) (hd : (x == ("__debug__" : Str)) = false := by decide)
    (hcd : (x == ("__classdict__" : Str)) = false := by decide) : PD X (.Name x pos) (gv i) := .mk fun B δ => (pe_var (i := i) hN hv hd hcd).imp fun σ H Q ⟨d, en, h, k⟩ => by
  obtain ⟨v, e, r⟩ := en.get (gv_eq h)
  exact ⟨v, e, k v H (Same.refl H) r⟩
theorem pd_int {i : Int} {j : Nat} : PD X (.Constant (.int i) j pos) (gc (.int i)) := .mk fun B δ => pe_int.imp fun σ H Q ⟨d, en, h, k⟩ => by cases h; exact k _ H (Same.refl H) (by rw [rp_int])
theorem pd_bl {i : Bool} {j : Nat} : PD X (.Constant (.bool i) j pos) (gc (.bl i)) := .mk fun B δ => pe_bl.imp fun σ H Q ⟨d, en, h, k⟩ => by cases h; exact k _ H (Same.refl H) (by rw [rp_bl])
theorem pd_non {j : Nat} : PD X (.Constant .none j pos) (gc .non) := .mk fun B δ => pe_non.imp fun σ H Q ⟨d, en, h, k⟩ => by cases h; exact k _ H (Same.refl H) (by rw [rp_non])
theorem pd_str {x : Str} {j : Nat} : PD X (.Constant (.str x) j pos) (gc (.str x)) := .mk fun B δ => pe_str.imp fun σ H Q ⟨d, en, h, k⟩ => by cases h; exact k _ H (Same.refl H) (by rw [rp_str])
theorem pd_gstr {x y : Str} (hm : ∃ t, X.mg x = some (.str y t)) (hg : Gl X x := by rfl) (hd : (x == ("__debug__" : Str)) = false := by decide) : PD X (.Name x pos) (gc (.str y)) := .mk fun B δ => by
  obtain ⟨t, hm⟩ := hm
  exact (pe_glob (v := .str y) hg hm ⟨t, rfl⟩ hd).imp fun σ H Q ⟨d, en, h, k⟩ => by cases h; exact k _ H (Same.refl H) (by rw [rp_str])
theorem pd_gint {x : Str} {i : Int} (hm : ∃ t, X.mg x = some (.int i t)) (hg : Gl X x := by rfl) (hd : (x == ("__debug__" : Str)) = false := by decide) : PD X (.Name x pos) (gc (.int i)) := .mk fun B δ => by
  obtain ⟨t, hm⟩ := hm
  exact (pe_glob (v := .int i) hg hm ⟨t, rfl⟩ hd).imp fun σ H Q ⟨d, en, h, k⟩ => by cases h; exact k _ H (Same.refl H) (by rw [rp_int])

/-- two values in a row -/
theorem o2_red {K : PySem.W.Frag} {r : R2} {f : D → D → Option D} (hf : Op2 K r f) {B : BS} {δ : Ds} {σ : St} {H : Hp} {Q : VK} (h : tD K B δ (o2 ga gb f) σ H Q) : tOp r (tD K B δ ga) (tD K B δ gb) σ H Q := by
  obtain ⟨d, en, h, k⟩ := h
  unfold o2 at h
  cases e1 : ga δ with
  | none => rw [e1] at h; cases h
  | some x =>
    cases e2 : gb δ with
    | none => rw [e1, e2] at h; cases h
    | some y =>
      rw [e1, e2] at h
      refine ⟨x, en, e1, fun v1 H1 s1 r1 => ⟨y, en.same s1, e2, fun v2 H2 s2 r2 => ?_⟩⟩
      exact hf H2 B v1 v2 x y d Q ((en.same s1).same s2).bad (r1.same s2) r2 h fun v H' s r => k v H' ((s1.trans s2).trans s) r
theorem pd_op {op : Operator} {r : R2} {f : D → D → Option D} (ho : OpR X (binaryOp op) r) (hf : Op2 X.K r f) (ha : PD X a ga) (hb : PD X b gb) : PD X (.BinOp a op b pos) (o2 ga gb f) := .mk fun B δ => (pe_op ho (ha B δ) (hb B δ)).imp fun σ H Q h => o2_red hf h
theorem pd_cmp {op : CmpOp} {r : R2} {f : D → D → Option D} (ho : OpR X (compareOp op) r) (hf : Op2 X.K r f) (ha : PD X a ga) (hb : PD X b gb) (hm : behindInMarks op b = false := by first | exact nomark _ | with_unfolding_all rfl) : PD X (.Compare a [op] [b] pos) (o2 ga gb f) :=
  .mk fun B δ => (pe_cmpR ho (ha B δ) (hb B δ) hm).imp fun σ H Q h => o2_red hf h
theorem pd_ix {r : R2} {f : D → D → Option D} (ho : IxR X r) (hf : Op2 X.K r f) (ha : PD X a ga) (hb : PD X b gb) (hs : PlainIx b := by exact fun _ _ => rfl) : PD X (.Subscript a b pos) (o2 ga gb f) :=
  .mk fun B δ => (pe_ix ho (ha B δ) (hb B δ) hs).imp fun σ H Q h => o2_red hf h
theorem ptd_cmp {op : CmpOp} {r : R2} {f : D → D → Option D} (ho : OpR X (compareOp op) r) (hf : Op2 X.K r f) (ha : PD X a ga) (hb : PD X b gb) (hm : behindInMarks op b = false := by first | exact nomark _ | with_unfolding_all rfl) : PTD X (.Compare a [op] [b] pos) (ob (o2 ga gb f)) :=
  .mk fun B δ => (pt_cmpR ho (ha B δ) (hb B δ) hm).imp fun σ H Q ⟨t, en, h, k⟩ => by
    unfold ob at h
    cases e : o2 ga gb f δ with
    | none => rw [e] at h; cases h
    | some d =>
      rw [e] at h
      cases asB_eq h
      exact o2_red hf ⟨_, en, e, fun v H' s r => ⟨t, by rw [rp_bl] at r; exact r, k H' s⟩⟩
theorem ptd_val (h : PD X e g) (he : ∀ whole, isTrue e X.env whole = (do let v ← whole; standAt e.pos; holding [v] (truthy v)) := by intro _; rfl) : PTD X e (ob g) :=
  .mk fun B δ => (pt_val (h B δ) he).imp fun σ H Q ⟨t, en, h, k⟩ => by
    unfold ob at h
    cases e : g δ with
    | none => rw [e] at h; cases h
    | some d =>
      rw [e] at h
      cases asB_eq h
      exact ⟨_, en, e, fun v H' s r => ⟨t, by rw [rp_bl] at r; exact r, k H' s⟩⟩
theorem ptd_not (h : PTD X a gt) : PTD X (.UnaryOp .Not a pos) (tNotG gt) :=
  .mk fun B δ => (pt_not (h B δ)).imp fun σ H Q ⟨t, en, h, k⟩ => by
    unfold tNotG at h
    cases e : gt δ with
    | none => rw [e] at h; cases h
    | some b =>
      rw [e] at h
      cases h
      exact ⟨b, en, e, fun H' s => k H' s⟩
theorem pwd_and1 (h : PTD X a gt) : PWD X (.BoolOp .And [a] pos) gt := .mk fun B δ => pw_and1 (h B δ)
theorem pwd_or1 (h : PTD X a gt) : PWD X (.BoolOp .Or [a] pos) gt := .mk fun B δ => pw_or1 (h B δ)
theorem pwd_and (ha : PTD X a gt) (hb : PWD X (.BoolOp .And (b :: rest) pos) gu) : PWD X (.BoolOp .And (a :: b :: rest) pos) (tAndG gt gu) :=
  .mk fun B δ => (pw_and (ha B δ) (hb B δ)).imp fun σ H Q ⟨t, en, h, k⟩ => by
    unfold tAndG at h
    cases e : gt δ with
    | none => rw [e] at h; cases h
    | some b =>
      rw [e] at h
      refine ⟨b, en, e, fun H' s => ?_⟩
      cases b with
      | true => exact ⟨t, en.same s, h, fun H'' s' => k H'' (s.trans s')⟩
      | false =>
        simp at h
        subst h
        rw [if_neg Bool.false_ne_true]
        exact k H' s
theorem pwd_or (ha : PTD X a gt) (hb : PWD X (.BoolOp .Or (b :: rest) pos) gu) : PWD X (.BoolOp .Or (a :: b :: rest) pos) (tOrG gt gu) :=
  .mk fun B δ => (pw_or (ha B δ) (hb B δ)).imp fun σ H Q ⟨t, en, h, k⟩ => by
    unfold tOrG at h
    cases e : gt δ with
    | none => rw [e] at h; cases h
    | some b =>
      rw [e] at h
      refine ⟨b, en, e, fun H' s => ?_⟩
      cases b with
      | false => exact ⟨t, en.same s, h, fun H'' s' => k H'' (s.trans s')⟩
      | true =>
        simp at h
        subst h
        rw [if_pos rfl]
        exact k H' s
theorem PWD.pt (h : PWD X e gt) : PTD X e gt := .mk fun B δ => (h B δ).pt
theorem pd_one {op} (h : PD X a g) : PD X (.BoolOp op [a] pos) g := .mk fun B δ => pe_one (h B δ)
theorem pd_and (ha : PD X a ga) (hb : PD X (.BoolOp .And (b :: rest) pos) gb) : PD X (.BoolOp .And (a :: b :: rest) pos) (andG ga gb) :=
  .mk fun B δ => (pe_and (ha B δ) (hb B δ)).imp fun σ H Q ⟨d, en, h, k⟩ => by
    unfold andG ob at h
    cases e : ga δ with
    | none => rw [e] at h; cases h
    | some x =>
      rw [e] at h
      refine ⟨x, en, e, fun v H' s r => ?_⟩
      cases x with
      | bl c =>
        rw [rp_bl] at r
        refine ⟨c, r, ?_⟩
        cases c with
        | true => exact ⟨d, en.same s, h, fun v H'' s' => k v H'' (s.trans s')⟩
        | false =>
          simp [asB] at h
          rw [if_neg Bool.false_ne_true]
          exact k _ H' s (by rw [← h, rp_bl])
      | _ => simp [asB] at h
theorem pd_or (ha : PD X a ga) (hb : PD X (.BoolOp .Or (b :: rest) pos) gb) : PD X (.BoolOp .Or (a :: b :: rest) pos) (orG ga gb) :=
  .mk fun B δ => (pe_or (ha B δ) (hb B δ)).imp fun σ H Q ⟨d, en, h, k⟩ => by
    unfold orG ob at h
    cases e : ga δ with
    | none => rw [e] at h; cases h
    | some x =>
      rw [e] at h
      refine ⟨x, en, e, fun v H' s r => ?_⟩
      cases x with
      | bl c =>
        rw [rp_bl] at r
        refine ⟨c, r, ?_⟩
        cases c with
        | false => exact ⟨d, en.same s, h, fun v H'' s' => k v H'' (s.trans s')⟩
        | true =>
          simp [asB] at h
          rw [if_pos rfl]
          exact k _ H' s (by rw [← h, rp_bl])
      | _ => simp [asB] at h
theorem pd_not (ha : PD X a ga) : PD X (.UnaryOp .Not a pos) (notG ga) :=
  .mk fun B δ => (pe_not (ha B δ)).imp fun σ H Q ⟨d, en, h, k⟩ => by
    unfold notG ob at h
    cases e : ga δ with
    | none => rw [e] at h; cases h
    | some x =>
      rw [e] at h
      refine ⟨x, en, e, fun v H' s r => ?_⟩
      cases x with
      | bl c =>
        rw [rp_bl] at r
        simp [asB] at h
        exact ⟨c, r, k _ H' s (by rw [← h, rp_bl])⟩
      | _ => simp [asB] at h
/-! ### argument lists, displays, calls -/
theorem pda_nil : PDA X [] nilA := .mk fun B δ => pa_nil.imp fun σ H Q ⟨ds, en, h, k⟩ => by cases h; exact k [] H (Same.refl H) (by rw [rps_nil])
theorem pda_cons (ha : PD X e g) (hr : PDA X es gA) (hs : starEach (e :: es) X.env = (false, eval e X.env) :: starEach es X.env := by rfl) : PDA X (e :: es) (consA g gA) :=
  .mk fun B δ => (pa_cons (ha B δ) (hr B δ) hs).imp fun σ H Q ⟨ds, en, h, k⟩ => by
    unfold consA at h
    cases e1 : g δ with
    | none => rw [e1] at h; cases h
    | some d =>
      cases e2 : gA δ with
      | none => rw [e1, e2] at h; cases h
      | some es' =>
        rw [e1, e2] at h
        cases h
        refine ⟨d, en, e1, fun v H1 s1 r1 => ⟨es', en.same s1, e2, fun vs H2 s2 r2 => k _ H2 (s1.trans s2) ?_⟩⟩
        rw [rps_cons]
        exact ⟨v, vs, rfl, r1.same s2, r2⟩
theorem pd_tup {x1} (h : PDA X es gA) : PD X (.Tuple es x1 pos) (tupG gA) :=
  .mk fun B δ => (pe_tup (h B δ)).imp fun σ H Q ⟨d, en, h, k⟩ => by
    unfold tupG at h
    cases e1 : gA δ with
    | none => rw [e1] at h; cases h
    | some ds =>
      rw [e1] at h
      by_cases hl : ds.length ≤ sizeLine
      · simp only [Option.bind_some, if_pos hl] at h
        cases h
        refine ⟨ds, en, e1, fun vs H1 s1 r1 => ⟨by rw [r1.length]; exact hl, fun p hp => k _ _ (s1.trans (same_upd hp)) ?_⟩⟩
        rw [rp_tup]
        exact ⟨p, vs, rfl, .inl ⟨(en.same s1).free hp, .inl upd_same⟩, r1.same (same_upd hp)⟩
      · simp only [Option.bind_some, if_neg hl] at h
        cases h
theorem pd_lst (h : PDA X es gA) : PD X (.List es pos) (lstG gA) :=
  .mk fun B δ => (pe_lst (h B δ)).imp fun σ H Q ⟨d, en, h, k⟩ => by
    unfold lstG at h
    cases e1 : gA δ with
    | none => rw [e1] at h; cases h
    | some ds =>
      rw [e1] at h
      by_cases hl : ds.length ≤ sizeLine
      · simp only [Option.bind_some, if_pos hl] at h
        cases h
        refine ⟨ds, en, e1, fun vs H1 s1 r1 => ⟨by rw [r1.length]; exact hl, fun p hp => k _ _ (s1.trans (same_upd hp)) ?_⟩⟩
        rw [rp_lst]
        exact ⟨p, vs, rfl, .inl ⟨(en.same s1).free hp, .inl upd_same⟩, r1.same (same_upd hp)⟩
      · simp only [Option.bind_some, if_neg hl] at h
        cases h
theorem oA_red {K : PySem.W.Frag} {r : List V → Hp → VK → Prop} {f : List D → Option D} (hf : FnR K r f) {B : BS} {δ : Ds} {σ : St} {H : Hp} {Q : VK} (h : tD K B δ (oA gA f) σ H Q) : tCB r (tDA K B δ gA) σ H Q := by
  obtain ⟨d, en, h, k⟩ := h
  unfold oA at h
  cases e1 : gA δ with
  | none => rw [e1] at h; cases h
  | some ds =>
    rw [e1] at h
    exact ⟨ds, en, e1, fun vs H1 s1 r1 => hf H1 B vs ds d Q (en.same s1).bad r1 h fun v H' s r => k v H' (s1.trans s) r⟩
theorem pd_callB {id : String} {x : Str} {p : Pos} {r : List V → Hp → VK → Prop} {f : List D → Option D} (hc : CallR X (.builtin id) r) (hf : FnR X.K r f) (hm : X.mg x = none) (hv : bootBuiltins x = some (.builtin id)) (ha : PDA X (e :: es) gA) (hg : Gl X x := by rfl)
    (hn : x ≠ "__name__" := by decide) (hdb : (x == ("__debug__" : Str)) = false := by decide) (he : starEach (e :: es) X.env = (false, eval e X.env) :: starEach es X.env := by rfl) (hpl : (backTo pos (starEach es X.env)).any (·.1) = false := by rfl) :
    PD X (.Call (.Name x p) (e :: es) [] pos) (oA gA f) := .mk fun B δ => (pe_callB hc hg hm hv (ha B δ) hn hdb he hpl).imp fun σ H Q h => oA_red hf h
theorem pd_callTy {T : String} {x : Str} {p : Pos} {r : List V → Hp → VK → Prop} {f : List D → Option D} (hc : CallR X (.type T) r) (hf : FnR X.K r f) (hm : X.mg x = none) (hv : bootBuiltins x = some (.type T)) (ha : PDA X (e :: es) gA) (hg : Gl X x := by rfl)
    (hn : x ≠ "__name__" := by decide) (hdb : (x == ("__debug__" : Str)) = false := by decide) (he : starEach (e :: es) X.env = (false, eval e X.env) :: starEach es X.env := by rfl) (hpl : (backTo pos (starEach es X.env)).any (·.1) = false := by rfl) :
    PD X (.Call (.Name x p) (e :: es) [] pos) (oA gA f) := .mk fun B δ => (pe_callTy hc hg hm hv (ha B δ) hn hdb he hpl).imp fun σ H Q h => oA_red hf h
/-- a def's promise, by data -/
def spD (K : PySem.W.Frag) (f : List D → Option D) : Sp := fun vs H Q _ => ∃ (B : BS) (ds : List D) (d : D), (∀ a, B a → H a ≠ none) ∧ Rps K H B ds vs ∧ f ds = some d ∧ ∀ v H', Same H H' → Rp K H' B d v → Q v H'
theorem pd_call {k : Nat} {fa : Addr} {fd : FuncData} {ps : List Str} {x : Str} {p : Pos} {f : List D → Option D} (F : FnOk X.prog X.w X.K X.mg X.base CX0 k fa fd ps (spD X.K f)) (hr : Room k X.A) (hm : X.mg x = some (.ref fa)) (hk : PySem.W.keepIn X.K (.ref fa) = true) (hb : Binds X.K fd ps [])
    (ha : PDA X (e :: es) gA) (hg : Gl X x := by rfl) (hdb : (x == ("__debug__" : Str)) = false := by decide) (he : starEach (e :: es) X.env = (false, eval e X.env) :: starEach es X.env := by rfl) (hpl : (backTo pos (starEach es X.env)).any (·.1) = false := by rfl) :
    PD X (.Call (.Name x p) (e :: es) [] pos) (oA gA f) := .mk fun B δ => (pe_call (E := E0) F hr hg hm hk hb .nil pass0 (ha B δ) hdb he hpl).imp fun σ H Q h => by
  obtain ⟨d, en, h, k⟩ := h
  unfold oA at h
  cases e1 : gA δ with
  | none => rw [e1] at h; cases h
  | some ds =>
    rw [e1] at h
    refine ⟨ds, en, e1, fun vs H1 s1 r1 => ?_⟩
    show spD X.K f (vs ++ []) H1 Q E0
    rw [List.append_nil]
    exact ⟨B, ds, d, (en.same s1).bad, r1, h, fun v H' s r => k v H' (s1.trans s) r⟩
end
end DL
namespace DL
open PySem PySem.Spec PyProof.Rows L2

/-! ### statements -/
structure EnvS (K : PySem.W.Frag) (H₀ : Hp) (B₀ : BS) (H : Hp) (σ : St) (δ : Ds) : Prop where
  same : Same H₀ H
  ex : ∃ B : BS, (∀ a, B₀ a → B a) ∧ (∀ a, B a → B₀ a ∨ H₀ a = none) ∧ Env K H B σ δ
  fr : ∀ (i : Nat) (ds : D) (a : Addr), δ[i]? = some (.ow ds) → σ[i]? = some (some (.ref a)) → H₀ a = none
  b0 : ∀ a, B₀ a → H₀ a ≠ none
def ResK (K : PySem.W.Frag) (H₀ : Hp) (B₀ : BS) (D : Ends) : Res → Prop
  | .nx δ => ∀ σ H, EnvS K H₀ B₀ H σ δ → D.nx σ H
  | .rt d => ∀ v H, Same H₀ H → Rp K H B₀ d v → D.rt v H
  | .bk δ => ∀ σ H, EnvS K H₀ B₀ H σ δ → D.bk σ H
  | .ct δ => ∀ σ H, EnvS K H₀ B₀ H σ δ → D.ct σ H
  | .rf d => ∀ p H, H₀ p = none → Same H₀ H → RpO K H (fun a => B₀ a ∨ a = p) d p → D.rt (.ref p) H
def tDS (K : PySem.W.Frag) (H₀ : Hp) (B₀ : BS) (δ : Ds) (G : Ds → Option Res) : TS := fun D σ H => ∃ r, EnvS K H₀ B₀ H σ δ ∧ G δ = some r ∧ ResK K H₀ B₀ D r
structure PSD (X : Cx) (st : Stmt) (G : Ds → Option Res) : Prop where
  mk :: go : ∀ H₀ B₀ δ, PS X st (tDS X.K H₀ B₀ δ G)
instance {X : Cx} {st : Stmt} {G : Ds → Option Res} : CoeFun (PSD X st G) (fun _ => ∀ H₀ B₀ δ, PS X st (tDS X.K H₀ B₀ δ G)) := ⟨PSD.go⟩
structure PSsD (X : Cx) (st : List Stmt) (G : Ds → Option Res) : Prop where
  mk :: go : ∀ H₀ B₀ δ, PSs X st (tDS X.K H₀ B₀ δ G)
instance {X : Cx} {st : List Stmt} {G : Ds → Option Res} : CoeFun (PSsD X st G) (fun _ => ∀ H₀ B₀ δ, PSs X st (tDS X.K H₀ B₀ δ G)) := ⟨PSsD.go⟩
section
variable {K : PySem.W.Frag} {H₀ H H' : Hp} {B₀ : BS} {σ : St} {δ : Ds}
theorem EnvS.grow (e : EnvS K H₀ B₀ H σ δ) (s : Same H H') : EnvS K H₀ B₀ H' σ δ := ⟨e.same.trans s, let ⟨B, b1, b2, en⟩ := e.ex; ⟨B, b1, b2, en.same s⟩, e.fr, e.b0⟩
end

/-- a target: which slots it writes -/
structure Wr (idx : List Nat) (σ σ' : St) (δ δ' : Ds) : Prop where
  len : σ'.length = σ.length
  oth : ∀ j, j ∉ idx → σ'[j]? = σ[j]? ∧ δ'[j]? = δ[j]?
  own : ∀ j ∈ idx, ∀ ds, δ'[j]? ≠ some (.ow ds)
def tDG (K : PySem.W.Frag) (idx : List Nat) (f : D → Ds → Option Ds) (B : BS) (d : D) (δ : Ds) : TG := fun v σ H Q => ∃ δ', Rp K H B d v ∧ Env K H B σ δ ∧ f d δ = some δ' ∧ ∀ σ', Wr idx σ σ' δ δ' → Env K H B σ' δ' → Q σ' H
structure PGD (X : Cx) (tg : Expr) (idx : List Nat) (f : D → Ds → Option Ds) : Prop where
  mk :: go : ∀ B d δ, PG X tg (tDG X.K idx f B d δ)
instance {X : Cx} {tg : Expr} {idx : List Nat} {f : D → Ds → Option Ds} : CoeFun (PGD X tg idx f) (fun _ => ∀ B d δ, PG X tg (tDG X.K idx f B d δ)) := ⟨PGD.go⟩
theorem _root_.L2.PG.imp {X : Cx} {tg : Expr} {t t' : TG} (h : PG X tg t) (q : ∀ v σ H Q, t' v σ H Q → t v σ H Q) : PG X tg t' := fun pins s σ H v u Q I r z => h pins s σ H v u Q I r (q v σ H Q z)
theorem wr_set {σ : St} {δ : Ds} {i : Nat} {v : V} {d : D} : Wr [i] σ (σ.set i (some v)) δ (δ.set i (.sh d)) := by
  refine ⟨by simp, fun j hj => ?_, fun j hj ds h => ?_⟩
  · have : j ≠ i := by simpa using hj
    rw [List.getElem?_set_ne (Ne.symm this), List.getElem?_set_ne (Ne.symm this)]
    exact ⟨rfl, rfl⟩
  · have : j = i := by simpa using hj
    subst this
    by_cases hl : j < δ.length
    · rw [List.getElem?_set_self hl] at h; cases h
    · rw [List.getElem?_eq_none (by simpa using hl)] at h; cases h
theorem pgd_name (i : Nat) {X : Cx} {x : Str} {pos : Pos} (hN : X.N.Nodup) (hi : X.N[i]? = some x := by rfl) (hx : Loc X.env.scope x := by first | exact Or.inl rfl | exact Or.inr rfl)
    (hf : X.fn x = true ∨ X.env.scope.names.lookup x = some .local := by first | exact .inl rfl | exact .inr rfl | assumption) : PGD X (.Name x pos) [i] (gN i) := .mk fun B d δ => (pg_name (i := i) hN hi hx hf).imp fun v σ H Q ⟨δ', r, en, e, k⟩ => by
  cases e
  exact k _ wr_set (en.set i r)

section
variable {X : Cx} {e tg : Expr} {st : Stmt} {rest : List Stmt} {pos : Pos} {g : Ds → Option D} {G G1 G2 Ga Gb : Ds → Option Res} {gt : Ds → Option Bool} {c : Expr} {as bs body : List Stmt}
theorem PSD.imp (h : PSD X st G) (q : ∀ δ r, G1 δ = some r → G δ = some r) : PSD X st G1 := .mk fun H₀ B₀ δ pins s σ H D I ⟨r, en, e, k⟩ => h H₀ B₀ δ pins s σ H D I ⟨r, en, q δ r e, k⟩
theorem pssd_nil : PSsD X [] nilD := .mk fun H₀ B₀ δ pins s σ H D I ⟨r, en, e, k⟩ => by
  cases e
  exact pss_nil pins s σ H D I (k σ H en)
theorem pssd_cons (h1 : PSD X st G1) (h2 : PSsD X rest G2) : PSsD X (st :: rest) (seqD G1 G2) := .mk fun H₀ B₀ δ pins s σ H D I ⟨r, en, e, k⟩ => by
  unfold seqD at e
  cases e1 : G1 δ with
  | none => rw [e1] at e; cases e
  | some r1 =>
    rw [e1] at e
    cases r1 with
    | nx δ' => exact pss_cons (h1 H₀ B₀ δ) (h2 H₀ B₀ δ') pins s σ H D I ⟨_, en, e1, fun σ' H' en' => ⟨r, en', e, k⟩⟩
    | rt d => cases e; exact pss_cons (h1 H₀ B₀ δ) pss_never pins s σ H D I ⟨_, en, e1, k⟩
    | bk δ' => cases e; exact pss_cons (h1 H₀ B₀ δ) pss_never pins s σ H D I ⟨_, en, e1, k⟩
    | ct δ' => cases e; exact pss_cons (h1 H₀ B₀ δ) pss_never pins s σ H D I ⟨_, en, e1, k⟩
    | rf d => cases e; exact pss_cons (h1 H₀ B₀ δ) pss_never pins s σ H D I ⟨_, en, e1, k⟩
theorem psd_ret (h : PD X e g) : PSD X (.Return (some e) pos) (retD g) := .mk fun H₀ B₀ δ pins s σ H D I ⟨r, en, e1, k⟩ => by
  unfold retD at e1
  obtain ⟨B, b1, b2, env⟩ := en.ex
  cases e2 : g δ with
  | none => rw [e2] at e1; cases e1
  | some d =>
    rw [e2] at e1
    cases e1
    exact ps_ret (h B δ) pins s σ H D I ⟨d, env, e2, fun v H' s' r => k v H' (en.same.trans s') (r.mono (Gr.less b1))⟩
theorem EnvS.wr {K : PySem.W.Frag} {H₀ H H' : Hp} {B₀ B : BS} {σ σ' : St} {δ δ' : Ds} {idx : List Nat} (e : EnvS K H₀ B₀ H σ δ) (b1 : ∀ a, B₀ a → B a) (b2 : ∀ a, B a → B₀ a ∨ H₀ a = none) (s : Same H H') (w : Wr idx σ σ' δ δ') (en : Env K H' B σ' δ') : EnvS K H₀ B₀ H' σ' δ' := by
  refine ⟨e.same.trans s, ⟨B, b1, b2, en⟩, fun i ds a h1 h2 => ?_, e.b0⟩
  by_cases hi : i ∈ idx
  · exact absurd h1 (w.own i hi ds)
  · rw [(w.oth i hi).2] at h1
    rw [(w.oth i hi).1] at h2
    exact e.fr i ds a h1 h2
theorem psd_asg {idx : List Nat} {f : D → Ds → Option Ds} (h : PD X e g) (hg : PGD X tg idx f) (hs : swapsWithSole [tg] e pos.line X.env = pure false := by rfl) (hw : swappedStores [tg] e X.env = pure none := by rfl)
    (h1 : (assignEach [tg] X.env).map (·.2) = [assign tg X.env] := by rfl) : PSD X (.Assign [tg] e pos) (setD f g) := .mk fun H₀ B₀ δ pins s σ H D I ⟨r, en, e1, k⟩ => by
  unfold setD at e1
  obtain ⟨B, b1, b2, env⟩ := en.ex
  cases e2 : g δ with
  | none => rw [e2] at e1; cases e1
  | some d =>
    rw [e2] at e1
    simp only [Option.bind_some] at e1
    cases e3 : f d δ with
    | none => rw [e3] at e1; cases e1
    | some δ' =>
      rw [e3] at e1
      cases e1
      exact ps_asg (h B δ) (hg B d δ) hs hw h1 pins s σ H D I ⟨d, env, e2, fun v H' s' r => ⟨δ', r, env.same s', e3, fun σ' w en' => k σ' H' (en.wr b1 b2 s' w en')⟩⟩
theorem psd_if (hc : PTD X c gt) (ha : PSsD X as Ga) (hb : PSsD X bs Gb) : PSD X (.If c as bs pos) (ifD gt Ga Gb) := .mk fun H₀ B₀ δ pins s σ H D I ⟨r, en, e1, k⟩ => by
  unfold ifD at e1
  obtain ⟨B, b1, b2, env⟩ := en.ex
  cases e2 : gt δ with
  | none => rw [e2] at e1; cases e1
  | some t =>
    rw [e2] at e1
    refine ps_if (hc B δ) (ha H₀ B₀ δ) (hb H₀ B₀ δ) pins s σ H D I ⟨t, env, e2, fun H' s' => ?_⟩
    cases t with
    | true => exact ⟨r, en.grow s', e1, k⟩
    | false => exact ⟨r, en.grow s', e1, k⟩
/-! ### what is walked -/
/-- J yields the data items, at every heap that still holds all of H₁ off B -/
structure ItD (K : PySem.W.Frag) (B : BS) (J : It) (items : List D) (H₁ : Hp) : Prop where
  go : ∀ i H, Gr H₁ H B B → i < items.length → J.go i H
  yld : ∀ i H x H', Gr H₁ H B B → J.yld i H x H' → i < items.length → Same H H' ∧ ∃ d, items[i]? = some d ∧ ∀ B' : BS, Gr H₁ H' B B' → (∀ a, B' a → H a ≠ none) → Rp K H' B' d x
  stop : ∀ i H, Gr H₁ H B B → items.length ≤ i → J.stop i H
def tDI (K : PySem.W.Frag) (B : BS) (δ : Ds) (g : Ds → Option (List D)) : TI := fun σ H R => ∃ items, Env K H B σ δ ∧ g δ = some items ∧ ∀ J H', Same H H' → ItD K B J items H' → R J H'
structure PID (X : Cx) (tg e : Expr) (g : Ds → Option (List D)) : Prop where
  mk :: go : ∀ B δ, PI X tg e (tDI X.K B δ g)
instance {X : Cx} {tg e : Expr} {g : Ds → Option (List D)} : CoeFun (PID X tg e g) (fun _ => ∀ B δ, PI X tg e (tDI X.K B δ g)) := ⟨PID.go⟩
theorem _root_.L2.PI.imp {t t' : TI} (h : PI X tg e t) (q : ∀ σ H R, t' σ H R → t σ H R) : PI X tg e t' := fun pins s σ H R I z => h pins s σ H R I (q σ H R z)
theorem pid_list (h : PD X e g) : PID X tg e (lstI g) := .mk fun B δ => L2.PI.imp (pi_list (h B δ)) fun σ H R ⟨items, en, e1, k⟩ => by
  unfold lstI at e1
  cases e2 : g δ with
  | none => rw [e2] at e1; cases e1
  | some d =>
    rw [e2] at e1
    cases d <;> simp [asLst] at e1
    subst e1
    refine ⟨_, en, e2, fun v H' s' r => ?_⟩
    rw [rp_lst] at r
    obtain ⟨a, xs, rfl, q, rs⟩ := r
    refine ⟨a, rfl, ⟨xs, q.to⟩, k _ H' s' ⟨fun i H2 g2 hi => ?_, fun i H2 x H3 g2 y hi => ?_, fun i H2 g2 hi => ?_⟩⟩
    · have : i < xs.length := by rw [rs.length]; exact hi
      exact ⟨xs, xs[i], (q.mono g2).to, by simp [this]⟩
    · obtain ⟨e3, y⟩ := y
      obtain ⟨x', e4, r'⟩ := rs.get (i := i) (d := _) (List.getElem?_eq_getElem hi)
      have := y xs (q.mono g2).to
      rw [e4] at this
      cases this
      subst e3
      exact ⟨Same.refl _, _, List.getElem?_eq_getElem hi, fun B' gB _ => r'.mono gB⟩
    · exact ⟨xs, (q.mono g2).to, by rw [rs.length]; exact hi⟩
theorem pid_tup (h : PD X e g) : PID X tg e (tupI g) := .mk fun B δ => L2.PI.imp (pi_tup (h B δ)) fun σ H R ⟨items, en, e1, k⟩ => by
  unfold tupI at e1
  cases e2 : g δ with
  | none => rw [e2] at e1; cases e1
  | some d =>
    rw [e2] at e1
    cases d <;> simp [asTup] at e1
    subst e1
    refine ⟨_, en, e2, fun v H' s' r => ?_⟩
    rw [rp_tup] at r
    obtain ⟨a, xs, rfl, q, rs⟩ := r
    refine ⟨a, rfl, ⟨xs, q.to⟩, k _ H' s' ⟨fun i H2 g2 hi => ?_, fun i H2 x H3 g2 y hi => ?_, fun i H2 g2 hi => ?_⟩⟩
    · have : i < xs.length := by rw [rs.length]; exact hi
      exact ⟨xs, xs[i], (q.mono g2).to, by simp [this]⟩
    · obtain ⟨e3, y⟩ := y
      obtain ⟨x', e4, r'⟩ := rs.get (i := i) (d := _) (List.getElem?_eq_getElem hi)
      have := y xs (q.mono g2).to
      rw [e4] at this
      cases this
      subst e3
      exact ⟨Same.refl _, _, List.getElem?_eq_getElem hi, fun B' gB _ => r'.mono gB⟩
    · exact ⟨xs, (q.mono g2).to, by rw [rs.length]; exact hi⟩
theorem signs_len (x : Str) : (signs x).length = x.cps.size := by simp [signs]
theorem pid_str (h : PD X e g) : PID X tg e (strI g) := .mk fun B δ => L2.PI.imp (pi_str (h B δ)) fun σ H R ⟨items, en, e1, k⟩ => by
  unfold strI at e1
  cases e2 : g δ with
  | none => rw [e2] at e1; cases e1
  | some d =>
    rw [e2] at e1
    cases d <;> simp [asSigns] at e1
    subst e1
    refine ⟨_, en, e2, fun v H' s' r => ?_⟩
    rw [rp_str] at r
    refine ⟨_, r, k _ H' s' ⟨fun i H2 g2 hi => ?_, fun i H2 x H3 g2 y hi => ?_, fun i H2 g2 hi => ?_⟩⟩
    · rw [signs_len] at hi; exact hi
    · obtain ⟨e3, c, hc, rfl⟩ := y
      subst e3
      refine ⟨Same.refl _, .str ⟨#[c]⟩, ?_, fun B' gB _ => by rw [rp_str]⟩
      unfold signs
      rw [List.getElem?_map, Array.getElem?_toList, hc]
      rfl
    · rw [signs_len] at hi; exact hi
theorem rngD_len (lo hi : Int) : (rngD lo hi).length = (hi - lo).toNat := by simp [rngD]
theorem itd_rng {K : PySem.W.Frag} {B : BS} {H : Hp} (lo hi : Int) : ItD K B (Itr lo (hi - lo).toNat) (rngD lo hi) H := by
  refine ⟨fun i H2 g2 hi => ?_, fun i H2 x H3 g2 y hi => ?_, fun i H2 g2 hi => ?_⟩
  · rw [rngD_len] at hi; exact hi
  · obtain ⟨e3, rfl⟩ := y
    rw [rngD_len] at hi
    subst e3
    exact ⟨Same.refl _, .int (lo + i), by simp [rngD, hi], fun B' gB _ => by rw [rp_int]⟩
  · rw [rngD_len] at hi; exact hi
theorem pid_range1 {a : Expr} {gA : Ds → Option (List D)} {p : Pos} (hm : X.mg "range" = none) (ha : PDA X [a] gA) (hg : Gl X "range" := by rfl) (hs : starEach [a] X.env = [(false, eval a X.env)] := by rfl) : PID X tg (.Call (.Name "range" p) [a] [] pos) (rng1I gA) :=
  .mk fun B δ => L2.PI.imp (pi_range1 hg hm (ha B δ) hs) fun σ H R ⟨items, en, e1, k⟩ => by
  unfold rng1I at e1
  cases e2 : gA δ with
  | none => rw [e2] at e1; cases e1
  | some ds =>
    rw [e2] at e1
    simp only [Option.bind_some] at e1
    unfold rng1D at e1
    split at e1
    · split at e1
      · rename_i j hj
        cases e1
        refine ⟨_, en, e2, fun vs H' s' r => ?_⟩
        rw [rps_cons] at r
        obtain ⟨x, t, rfl, r1, r2⟩ := r
        rw [rps_nil] at r2
        subst r2
        rw [rp_int] at r1
        subst r1
        refine ⟨j, rfl, hj.1, hj.2, k _ H' s' ?_⟩
        have := itd_rng (K := X.K) (B := B) (H := H') 0 j
        rw [Int.sub_zero] at this
        exact this
      · cases e1
    · cases e1
/-! ### for -/
theorem EnvS.lower {K : PySem.W.Frag} {H₀ H₁ H : Hp} {B₀ : BS} {σ : St} {δ : Ds} (e : EnvS K H₁ B₀ H σ δ) (s : Same H₀ H₁) (b0 : ∀ a, B₀ a → H₀ a ≠ none) : EnvS K H₀ B₀ H σ δ := by
  obtain ⟨B, b1, b2, en⟩ := e.ex
  exact ⟨s.trans e.same, ⟨B, b1, fun a z => (b2 a z).imp id fun q => s.free q, en⟩, fun i ds a h1 h2 => s.free (e.fr i ds a h1 h2), b0⟩
open Classical in
theorem psd_for {iter : Expr} {gi : Ds → Option (List D)} {idx : List Nat} {f : D → Ds → Option Ds} (hp : PassesOwn (model X.prog X.w) X.A X.env X.xe) (hc : X.calm = true) (hi : PID X tg iter gi) (hg : PGD X tg idx f) (hb : PSsD X body G)
    (hs : ∀ x, foldedSetIterable iter X.env x = pure x := by intro _; rfl) : PSD X (.For tg iter body [] pos) (forG gi f G) := .mk fun H₀ B₀ δ pins s σ H D I ⟨r, en, e1, k⟩ => by
  unfold forG at e1
  obtain ⟨B, b1, b2, env⟩ := en.ex
  cases e2 : gi δ with
  | none => rw [e2] at e1; cases e1
  | some items =>
    rw [e2] at e1
    simp only [Option.bind_some] at e1
    have hg' : PG X tg (fun v σ H Q => ∃ B d δ, tDG X.K idx f B d δ v σ H Q) := fun pins s σ H v u Q I r ⟨B, d, δ, h⟩ => hg B d δ pins s σ H v u Q I r h
    have hb' : PSs X body (fun D σ H => ∃ H₀ B₀ δ, tDS X.K H₀ B₀ δ G D σ H) := fun pins s σ H D I ⟨H₀, B₀, δ, h⟩ => hb H₀ B₀ δ pins s σ H D I h
    refine ps_for hp hc (hi B δ) hg' hb' hs pins s σ H D I ⟨items, env, e2, fun J H1 s1 it => ?_⟩
    -- the heap at the loop's start, without the lists that the body owns
    obtain ⟨Hh, hHh⟩ : ∃ Hh : Hp, Hh = fun b => if B b ∧ ¬ B₀ b then none else H1 b := ⟨_, rfl⟩
    have hoff : ∀ b, ¬ B b → Hh b = H1 b := fun b n => by rw [hHh]; exact if_neg fun z => n z.1
    have hown : ∀ b, B b → ¬ B₀ b → Hh b = none := fun b n n' => by rw [hHh]; exact if_pos ⟨n, n'⟩
    have hin : ∀ b, B₀ b → Hh b = H1 b := fun b n => by rw [hHh]; exact if_neg fun z => z.2 n
    have hle : Same Hh H1 := fun b o h => by
      by_cases z : B b ∧ ¬ B₀ b
      · rw [hown b z.1 z.2] at h; cases h
      · rw [hHh] at h
        have h' : (if B b ∧ ¬ B₀ b then none else H1 b) = some o := h
        rw [if_neg z] at h'
        exact h'
    have hS : Same H₀ Hh := fun b o h => by
      have h1 := s1 b o (en.same b o h)
      by_cases z : B b
      · rcases b2 b z with q | q
        · rw [hin b q]; exact h1
        · rw [h] at q; cases q
      · rw [hoff b z]; exact h1
    have env1 := env.same s1
    have start : EnvS X.K Hh B₀ H1 σ δ := by
      refine ⟨hle, ⟨B, b1, fun a z => ?_, env1⟩, fun i ds a h1 h2 => ?_, fun a z => ?_⟩
      · by_cases q : B₀ a
        · exact .inl q
        · exact .inr (hown a z q)
      · have hn := en.fr i ds a h1 h2
        have nb : ¬ B₀ a := fun z => en.b0 a z hn
        obtain ⟨o, e3, a', e4, hB, _⟩ := Pd.get env1.all h1
        rw [h2] at e3
        cases e3
        cases e4
        exact hown a hB nb
      · rw [hin a z]
        exact env1.bad a (b1 a z)
    refine ⟨fun i m σ H => m = items.length - i ∧ i ≤ items.length ∧ ∃ δi, EnvS X.K Hh B₀ H σ δi ∧ forD f G (items.drop i) δi = some r, ⟨_, rfl, Nat.zero_le _, δ, start, e1⟩, ?_⟩
    rintro i m σi Hi ⟨rfl, hil, δi, eni, ei⟩
    have gr : Gr H1 Hi B B := fun b o n h => ⟨n, eni.same b o (by rw [hoff b n]; exact h)⟩
    by_cases hlt : i < items.length
    · refine .inr ⟨it.go i Hi gr hlt, fun σ' H' => ∃ δn, EnvS X.K Hh B₀ H' σ' δn ∧ forD f G (items.drop (i + 1)) δn = some r, fun σ' H' ⟨δn, en', e'⟩ => ⟨items.length - (i + 1), by omega, rfl, hlt, δn, en', e'⟩, fun x H' y => ?_⟩
      obtain ⟨sm, d, hd, rd⟩ := it.yld i Hi x H' gr y hlt
      obtain ⟨B', c1, c2, env0⟩ := eni.ex
      have rd' : Rp X.K H' B' d x := rd B' (fun b o n h => by
        have h' : Hh b = some o := by rw [hoff b n]; exact h
        refine ⟨fun z => ?_, sm b o (eni.same b o h')⟩
        rcases c2 b z with q | q
        · exact n (b1 b q)
        · rw [h'] at q; cases q) env0.bad
      have env' := env0.same sm
      replace eni := eni.grow sm
      have hdrop : items.drop i = d :: items.drop (i + 1) := by
        rw [List.drop_eq_getElem_cons hlt]
        congr 1
        rw [List.getElem?_eq_getElem hlt] at hd
        exact Option.some.inj hd
      rw [hdrop] at ei
      unfold forD at ei
      cases e3 : f d δi with
      | none => rw [e3] at ei; cases ei
      | some δ2 =>
        rw [e3] at ei
        simp only [Option.bind_some] at ei
        refine ⟨B', d, δi, δ2, rd', env', e3, fun σ' w en' => ?_⟩
        have enb : EnvS X.K Hh B₀ H' σ' δ2 := eni.wr c1 c2 (Same.refl _) w en'
        cases e4 : G δ2 with
        | none => rw [e4] at ei; cases ei
        | some rb =>
          rw [e4] at ei
          refine ⟨Hh, B₀, δ2, rb, enb, e4, ?_⟩
          cases rb with
          | nx δn => exact fun σ' H' en' => ⟨δn, en', ei⟩
          | ct δn => exact fun σ' H' en' => ⟨δn, en', ei⟩
          | bk δn =>
            cases ei
            exact fun σ' H' en' => k σ' H' (en'.lower hS en.b0)
          | rt d' =>
            cases ei
            exact fun v H' s' r' => k v H' (hS.trans s') r'
          | rf d' =>
            cases ei
            exact fun p H' hp s' r' => k p H' (hS.free hp) (hS.trans s') r'
    · have e : i = items.length := by omega
      subst e
      refine .inl ⟨it.stop _ Hi gr (Nat.le_refl _), ?_⟩
      rw [List.drop_length] at ei
      cases ei
      exact k σi Hi (eni.lower hS en.b0)

/-! ### comprehensions -/
structure PFD (X : Cx) (ifs : List Expr) (g : Ds → Option Bool) : Prop where
  mk :: go : ∀ B δ, PF X ifs (tDT X.K B δ g)
instance {X : Cx} {ifs : List Expr} {g : Ds → Option Bool} : CoeFun (PFD X ifs g) (fun _ => ∀ B δ, PF X ifs (tDT X.K B δ g)) := ⟨PFD.go⟩
theorem pfd_nil : PFD X [] noT := .mk fun B δ pins s σ H Q I ⟨b, en, e, k⟩ => by
  cases e
  exact pf_nil pins s σ H Q I (k H (Same.refl H))
theorem pfd_one (h : PTD X c gt) : PFD X [c] gt := .mk fun B δ => pf_one (h B δ)
theorem sComp_lt {n : Nat} {caps : List Nat} {σ : St} {j : Nat} (h : j < n) : (sComp n caps σ)[j]? = some none := by
  unfold sComp
  rw [List.getElem?_append_left (by simpa using h), List.getElem?_replicate, if_pos h]
theorem rep_un {K : PySem.W.Frag} {H : Hp} {B : BS} : ∀ n : Nat, Paired (SlR K H B) (List.replicate n (none : Option V)) (List.replicate n Sl.un)
  | 0 => .nil
  | n + 1 => .cons trivial (rep_un n)
theorem caps_rel {K : PySem.W.Frag} {H : Hp} {B : BS} {σ : St} {δ : Ds} (en : Env K H B σ δ) : ∀ caps : List Nat, Paired (SlR K H B) (caps.map fun j => (σ[j]?).join) (caps.map fun j => capSl δ[j]?)
  | [] => .nil
  | j :: caps => by
    refine .cons ?_ (caps_rel en caps)
    show SlR K H B (σ[j]?).join (capSl δ[j]?)
    cases h : δ[j]? with
    | none => trivial
    | some sl =>
      cases sl with
      | un => trivial
      | ow ds => trivial
      | sh d =>
        obtain ⟨v, e, r⟩ := en.get h
        rw [e]
        exact ⟨v, rfl, r⟩
theorem capSl_ow {o : Option Sl} {ds : D} (h : capSl o = .ow ds) : False := by
  cases o with
  | none => cases h
  | some s => cases s <;> cases h
theorem dComp_ow {n : Nat} {caps : List Nat} {δ : Ds} {i : Nat} {ds : D} (h : (dComp n caps δ)[i]? = some (.ow ds)) : False := by
  unfold dComp at h
  by_cases hi : i < n
  · rw [List.getElem?_append_left (by simpa using hi), List.getElem?_replicate, if_pos hi] at h
    cases h
  · rw [List.getElem?_append_right (by simpa using hi), List.getElem?_map] at h
    cases q : caps[i - (List.replicate n Sl.un).length]? with
    | none => rw [q] at h; cases h
    | some j =>
      rw [q] at h
      exact capSl_ow (Option.some.inj h)
theorem Env.comp {K : PySem.W.Frag} {H : Hp} {B : BS} {σ : St} {δ : Ds} (en : Env K H B σ δ) (n : Nat) (caps : List Nat) : Env K H B (sComp n caps σ) (dComp n caps δ) :=
  ⟨Pd.app (rep_un n) (caps_rel en caps), en.bad, fun i j a ds es h1 _ _ _ => (dComp_ow h1).elim⟩
theorem SlR.gr {K : PySem.W.Frag} {H H' : Hp} {B B' : BS} {o : Option V} {s : Sl} (g : Gr H H' B B') (no : ∀ ds, s ≠ .ow ds) (h : SlR K H B o s) : SlR K H' B' o s := by
  cases s with
  | un => trivial
  | sh d => obtain ⟨v, e, r⟩ := h; exact ⟨v, e, r.mono g⟩
  | ow ds => exact absurd rfl (no ds)
theorem Pd.impG {K : PySem.W.Frag} {H H' : Hp} {B B' : BS} (g : Gr H H' B B') : ∀ {σ : St} {δ : Ds}, (∀ (i : Nat) (ds : D), δ[i]? ≠ some (.ow ds)) → Paired (SlR K H B) σ δ → Paired (SlR K H' B') σ δ
  | _, _, _, .nil => .nil
  | _, _, no, .cons r t => .cons (r.gr g fun ds z => no 0 ds (by rw [← z]; rfl)) (Pd.impG g (fun i ds z => no (i + 1) ds (by simpa using z)) t)
/-- a new list or dict -/
def tDF (K : PySem.W.Frag) (B : BS) (δ : Ds) (g : Ds → Option D) : TE := fun σ H Q => ∃ d, Env K H B σ δ ∧ g δ = some d ∧ ∀ p H', H p = none → Same H H' → RpO K H' (fun a => B a ∨ a = p) d p → Q (.ref p) H'
structure PDF (X : Cx) (e : Expr) (g : Ds → Option D) : Prop where
  mk :: go : ∀ B δ, PE X e (tDF X.K B δ g)
instance {X : Cx} {e : Expr} {g : Ds → Option D} : CoeFun (PDF X e g) (fun _ => ∀ B δ, PE X e (tDF X.K B δ g)) := ⟨PDF.go⟩
theorem tD.toF {K : PySem.W.Frag} {B : BS} {δ : Ds} {g : Ds → Option D} {σ : St} {H : Hp} {Q : VK} (h : tD K B δ g σ H Q) : tDF K B δ g σ H Q := by
  obtain ⟨d, en, e, k⟩ := h
  exact ⟨d, en, e, fun p H' hp s r => k _ H' s (r.rp (fun a z => .inl z) (en.free hp))⟩
theorem PDF.pd {X : Cx} {e : Expr} {g : Ds → Option D} (h : PDF X e g) : PD X e g := .mk fun B δ => (h B δ).imp fun σ H Q z => z.toF
/-- the comprehension's list, as data -/
theorem comp_read {K : PySem.W.Frag} {B : BS} {δ : Ds} {σ : St} {H : Hp} {Q : VK} {n : Nat} {caps : List Nat} {gi : Ds → Option (List D)} {idx : List Nat} {f : D → Ds → Option Ds} {gt : Ds → Option Bool} {ge : Ds → Option D} (hidx : ∀ j ∈ idx, j < n)
    (h : tDF K B δ (compG n caps gi f gt ge) σ H Q) :
    tComp n caps (tDI K B δ gi) (fun v σ H Q => ∃ B d δ, tDG K idx f B d δ v σ H Q) (fun σ H Q => ∃ B δ, tDT K B δ gt σ H Q) (fun σ H Q => ∃ B δ, tD K B δ ge σ H Q) σ H Q := by
  obtain ⟨d, en, h, k⟩ := h
  unfold compG at h
  cases e1 : gi δ with
  | none => rw [e1] at h; cases h
  | some items =>
    rw [e1] at h
    simp only [Option.bind_some] at h
    by_cases hsz : items.length ≤ sizeLine
    · rw [if_pos hsz] at h
      cases e2 : compD f gt ge (dComp n caps δ) items with
      | none => rw [e2] at h; cases h
      | some out =>
        rw [e2] at h
        cases h
        refine ⟨items, en, e1, fun J H1 s1 it => fun L hL => ?_⟩
        have en1 := en.same s1
        have nBL : ¬ B L := en1.free hL
        obtain ⟨Bp, hBp⟩ : ∃ Bp : BS, Bp = fun a => B a ∨ a = L := ⟨_, rfl⟩
        have bpL : Bp L := by rw [hBp]; exact .inr rfl
        have bpB : ∀ a, B a → Bp a := fun a z => by rw [hBp]; exact .inl z
        have bpI : ∀ a, Bp a → B a ∨ a = L := fun a z => by rw [hBp] at z; exact z
        have gr : ∀ {H2 : Hp}, Same H1 H2 → Gr H1 H2 B Bp := fun {H2} s2 b o nb hb => ⟨(fun z => by
          rcases bpI b z with q | q
          · exact nb q
          · subst q; rw [hL] at hb; cases hb), s2 b o hb⟩
        refine ⟨fun i m ys H2 => m = items.length - i ∧ i ≤ items.length ∧ H2 L = some (.lst ys) ∧ Same H1 H2 ∧ ys.length ≤ i ∧ ∃ pre rest, out = pre ++ rest ∧ Rps K H2 Bp pre ys ∧ compD f gt ge (dComp n caps δ) (items.drop i) = some rest,
          ⟨_, rfl, Nat.zero_le _, upd_same, same_upd hL, Nat.le_refl _, [], out, rfl, by rw [rps_nil], e2⟩, ?_⟩
        rintro i m ys H2 ⟨rfl, hil, hD, s2, hyl, pre, rest, ho, rp, ec⟩
        have en2 : Env K H2 Bp (sComp n caps σ) (dComp n caps δ) := by
          refine ⟨Pd.impG (gr s2) (fun i ds z => dComp_ow z) (en1.comp n caps).all, fun a z => ?_, fun i j a ds es h1 _ _ _ => (dComp_ow h1).elim⟩
          rcases bpI a z with q | q
          · exact (en1.same s2).bad a q
          · subst q; rw [hD]; exact fun z => nomatch z
        by_cases hlt : i < items.length
        · refine .inr ⟨it.go i H2 (Gr.same s2) hlt, fun x H3 y => ?_⟩
          obtain ⟨sm, dx, hdx, rx⟩ := it.yld i H2 x H3 (Gr.same s2) y hlt
          have rx' : Rp K H3 Bp dx x := rx Bp (gr (s2.trans sm)) en2.bad
          replace en2 := en2.same sm
          replace s2 := s2.trans sm
          replace hD := sm _ _ hD
          replace rp := rp.same sm
          have hdrop : items.drop i = dx :: items.drop (i + 1) := by
            rw [List.drop_eq_getElem_cons hlt]
            congr 1
            rw [List.getElem?_eq_getElem hlt] at hdx
            exact Option.some.inj hdx
          rw [hdrop] at ec
          unfold compD at ec
          cases e3 : f dx (dComp n caps δ) with
          | none => rw [e3] at ec; cases ec
          | some δ' =>
            rw [e3] at ec
            dsimp only at ec
            refine ⟨Bp, dx, dComp n caps δ, δ', rx', en2, e3, fun σ4 w en4 => ⟨⟨w.len, fun j v z => ?_⟩, ?_⟩⟩
            · by_cases hj : j ∈ idx
              · rw [sComp_lt (hidx j hj)] at z; cases z
              · rw [(w.oth j hj).1]; exact z
            · cases e4 : gt δ' with
              | none => rw [e4] at ec; cases ec
              | some t =>
                rw [e4] at ec
                refine ⟨Bp, δ', t, en4, e4, fun H5 s5 => ?_⟩
                cases t with
                | false =>
                  rw [if_neg Bool.false_ne_true]
                  exact ⟨items.length - (i + 1), by omega, rfl, hlt, s5 _ _ hD, s2.trans s5, by omega, pre, rest, ho, rp.same s5, ec⟩
                | true =>
                  rw [if_pos rfl]
                  dsimp only at ec
                  cases e5 : ge δ' with
                  | none => rw [e5] at ec; cases ec
                  | some yd =>
                    rw [e5] at ec
                    dsimp only at ec
                    cases e6 : compD f gt ge (dComp n caps δ) (items.drop (i + 1)) with
                    | none => rw [e6] at ec; cases ec
                    | some rest' =>
                      rw [e6] at ec
                      cases ec
                      refine ⟨Bp, δ', yd, en4.same s5, e5, fun v H6 s6 r6 => ?_⟩
                      have hD6 : H6 L = some (.lst ys) := s6 _ _ (s5 _ _ hD)
                      have g6 : Gr H6 (upd H6 L (.lst (ys ++ [v]))) Bp Bp := fun b o nb hb => ⟨nb, by
                        rw [upd_ne (fun z => nb (by rw [z]; exact bpL))]; exact hb⟩
                      refine ⟨hD6, by omega, items.length - (i + 1), by omega, rfl, hlt, upd_same, fun b o hb => ?_, by simp; omega, pre ++ [yd], rest', by rw [ho]; simp, ?_, e6⟩
                      · have nbL : b ≠ L := fun z => by rw [z, hL] at hb; cases hb
                        rw [upd_ne nbL]
                        exact s6 _ _ (s5 _ _ (s2 _ _ hb))
                      · exact (Rps.snoc ((rp.same s5).same s6) r6).mono g6
        · have e : i = items.length := by omega
          subst e
          refine .inl ⟨it.stop _ H2 (Gr.same s2) (Nat.le_refl _), ?_⟩
          rw [List.drop_length] at ec
          have ec' : ([] : List D) = rest := Option.some.inj ec
          subst ec'
          rw [List.append_nil] at ho
          subst ho
          refine k L H2 (s1.free hL) (s1.trans s2) ⟨ys, hD, ?_⟩
          rw [hBp] at rp
          exact rp
    · rw [if_neg hsz] at h; cases h
theorem pdf_comp {sc scope : Scope} {elt iter : Expr} {ifs : List Expr} {N' : List Str} {n : Nat} {caps : List Nat} {gi : Ds → Option (List D)} {idx : List Nat} {f : D → Ds → Option Ds} {ge : Ds → Option D}
    (hc : X.calm = true) (hsc : X.env.scope = sc) (ok : CompOk sc scope X.N N' n caps) (hidx : ∀ j ∈ idx, j < n) (hi : PID X tg iter gi)
    (hg : ∀ cl s H ex, PGD (cxComp X scope cl N' s H ex) tg idx f) (ht : ∀ cl s H ex, PFD (cxComp X scope cl N' s H ex) ifs gt) (he : ∀ cl s H ex, PD (cxComp X scope cl N' s H ex) elt ge)
    (hs : ∀ x, foldedSetIterable iter X.env x = pure x := by intro _; rfl) :
    PDF X (.ListComp elt [⟨tg, iter, ifs, 0⟩] scope pos) (compG n caps gi f gt ge) := .mk fun B δ =>
  (pe_comp hc hsc ok (hi B δ) (g := fun v σ H Q => ∃ B d δ, tDG X.K idx f B d δ v σ H Q) (tt := fun σ H Q => ∃ B δ, tDT X.K B δ gt σ H Q) (te := fun σ H Q => ∃ B δ, tD X.K B δ ge σ H Q)
    (fun cl s H ex pins s' σ H v u Q I r ⟨B, d, δ, h⟩ => hg cl s _ ex B d δ pins s' σ H v u Q I r h)
    (fun cl s H ex pins s' σ H Q I ⟨B, δ, h⟩ => ht cl s _ ex B δ pins s' σ H Q I h)
    (fun cl s H ex pins s' σ H Q I ⟨B, δ, h⟩ => he cl s _ ex B δ pins s' σ H Q I h) hs).imp fun σ H Q h => comp_read hidx h
theorem pd_comp {sc scope : Scope} {elt iter : Expr} {ifs : List Expr} {N' : List Str} {n : Nat} {caps : List Nat} {gi : Ds → Option (List D)} {idx : List Nat} {f : D → Ds → Option Ds} {ge : Ds → Option D}
    (hc : X.calm = true) (hsc : X.env.scope = sc) (ok : CompOk sc scope X.N N' n caps) (hidx : ∀ j ∈ idx, j < n) (hi : PID X tg iter gi)
    (hg : ∀ cl s H ex, PGD (cxComp X scope cl N' s H ex) tg idx f) (ht : ∀ cl s H ex, PFD (cxComp X scope cl N' s H ex) ifs gt) (he : ∀ cl s H ex, PD (cxComp X scope cl N' s H ex) elt ge)
    (hs : ∀ x, foldedSetIterable iter X.env x = pure x := by intro _; rfl) :
    PD X (.ListComp elt [⟨tg, iter, ifs, 0⟩] scope pos) (compG n caps gi f gt ge) := (pdf_comp hc hsc ok hidx hi hg ht he hs).pd
end

/-! ### a def, by data -/
theorem start_rel {K : PySem.W.Frag} {H : Hp} {B : BS} {N : List Str} : ∀ {ds : List D} {vs : List V}, Rps K H B ds vs → Paired (SlR K H B) (vs.map some) (ds.map Sl.sh)
  | [], _, h => by rw [rps_nil] at h; subst h; exact .nil
  | d :: ds, _, h => by
    rw [rps_cons] at h
    obtain ⟨x, r, rfl, h1, h2⟩ := h
    exact .cons ⟨x, rfl, h1⟩ (start_rel (N := N) h2)
theorem dStart_ow {N : List Str} {ds : List D} {i : Nat} {es : D} (h : (dStart N ds)[i]? = some (.ow es)) : False := by
  unfold dStart at h
  by_cases hi : i < ds.length
  · rw [List.getElem?_append_left (by simpa using hi), List.getElem?_map] at h
    cases q : ds[i]? with
    | none => rw [q] at h; cases h
    | some d => rw [q] at h; cases h
  · rw [List.getElem?_append_right (by simpa using hi), List.getElem?_replicate] at h
    split at h <;> cases h
section
variable {P : Program} {w : World} {K : PySem.W.Frag} {mg : Str → Option Value} {base : Heap}
theorem okD {x qual : Str} {st : Stmt} {fa : Addr} {fd : FuncData} {N ps : List Str} {k : Nat} {f : List D → Option D} {G : Ds → Option Res} (F : Fun K x qual st fa fd) (S : FnScope N ps (defScope st))
    (body : ∀ (cdv : Value) (A : Around) (outer : List PySem.Env) (s : Shared) (H : Hp) (E : XK), Room k (A.deeper (envOfC qual (defScope st) s.heap.objs.size fa cdv)) → PSsD (cxOf CX0 P w K mg base N qual (defScope st) fa cdv A outer s H E).nox (defBody st) G)
    (hf : ∀ ds d, f ds = some d → ds.length = ps.length ∧ (G (dStart N ds) = some (.rt d) ∨ (d = .non ∧ ∃ δ, G (dStart N ds) = some (.nx δ)) ∨ G (dStart N ds) = some (.rf d))) :
    FnOk P w K mg base CX0 (k + 1) fa fd ps (spD K f) := by
  refine F.ok S (fun vs H Q E ⟨B, ds, d, _, r, h, _⟩ => ?_) (fun cdv A outer s H vs Q E hr ⟨B, ds, d, hb, r, h, q⟩ => ?_)
  · rw [r.length]; exact (hf ds d h).1
  · refine ⟨_, body cdv A outer s H E hr H B (dStart N ds), ?_⟩
    have en : EnvS K H B H (L2.start N vs) (dStart N ds) := by
      refine ⟨Same.refl H, ⟨B, fun _ z => z, fun _ z => .inl z, ⟨?_, hb, fun i j a ds' es h1 _ _ _ => (dStart_ow h1).elim⟩⟩, fun i ds' a h1 _ => (dStart_ow h1).elim, hb⟩
      unfold L2.start dStart
      rw [r.length]
      exact Pd.app (start_rel (N := N) r) (rep_un _)
    rcases (hf ds d h).2 with e | ⟨rfl, δ, e⟩ | e
    · exact ⟨_, en, e, fun v H' s' r' => q v H' s' r'⟩
    · exact ⟨_, en, e, fun σ' H' en' => q .non H' en'.same (by rw [rp_non])⟩
    · exact ⟨_, en, e, fun p H' hp s' r' => q _ H' s' (r'.rp (fun a z => .inl z) (fun z => hb p z hp))⟩
end
end DL
namespace L2
open PySem PySem.Spec PyProof.Rows
section
variable {X : Cx}
/-! ### all -/
theorem bools_at : ∀ {bs : List Bool} {us : List Value} {i : Nat} {v : Value}, Vals (bs.map V.bl) us → us[i]? = some v → v = .bool (bs.getD i true)
  | [], _, _, _, r, e => by
    rw [List.map_nil] at r
    cases r
    simp at e
  | b :: bs, _, 0, v, r, e => by
    rw [List.map_cons] at r
    cases r with
    | cons r1 r2 => simp at e; subst e; exact r1
  | b :: bs, _, i + 1, v, r, e => by
    rw [List.map_cons] at r
    cases r with
    | cons r1 r2 => simpa using bools_at (i := i) r2 (by simpa using e)
theorem all_range (bs : List Bool) : (List.range bs.length).all (fun i => bs.getD i true) = bs.all id := by
  rw [Bool.eq_iff_iff, List.all_eq_true, List.all_eq_true]
  constructor
  · intro h b hb
    obtain ⟨i, hi, rfl⟩ := List.mem_iff_getElem.mp hb
    have := h i (List.mem_range.mpr hi)
    simpa [List.getD_eq_getElem?_getD, hi] using this
  · intro h i hi
    have hi' := List.mem_range.mp hi
    have := h bs[i] (List.getElem_mem hi')
    simpa [List.getD_eq_getElem?_getD, hi'] using this
theorem call_all (hc : X.calm = true) : CallR X (.builtin "all") (fun xs H Q => ∃ (p : Addr) (bs : List Bool), xs = [.ref p] ∧ SqL X.K H p (bs.map V.bl) ∧ Q (.bl (bs.all id)) H) := by
  intro pins s σ H xs us Q I rs h
  obtain ⟨p, bs, rfl, hq, q⟩ := h
  obtain ⟨u, rfl, ru⟩ := rs.one
  cases ru
  obtain ⟨its, rv, pl, hz⟩ := I.list hq
  refine call_all_walk (wpAny_pyIter_list pl.isList ?_)
  have hp : p ≠ s.heap.objs.size := by
    obtain ⟨o, n, e, _⟩ := pl
    exact Nat.ne_of_lt (Heap.lt_size e)
  refine ⟨_, _, _, _, _, _, fun i => bs.getD i true, rfl, Walks.list (A := X.A.in1) (I.ok.hd hc) s.heap.objs.size p hp its.toArray, ⟨⟨_, Heap.get?_push_size _ rfl, rfl, rfl⟩, pl.isList.push _⟩, ?_, ?_⟩
  · intro i v s' Q' E' hP hQ
    have e := bools_at rv (i := i) (v := v) (by simpa using hP)
    subst e
    exact wpAny_truthy_bool hQ
  · intro h' tk hk
    have e1 : its.toArray.size = bs.length := by
      have := rv.length
      simp at this
      simp [this]
    rw [e1, all_range]
    refine ⟨.bl (bs.all id), H, I.kept (t' := tk) fun b o e => ?_, rfl, q⟩
    refine hk b o ?_ (Heap.get?_push_of_some _ e)
    intro z
    have z' : b = s.heap.objs.size := by simpa using z
    subst z'
    exact absurd (Heap.lt_size e) (Nat.lt_irrefl _)
/-! ### join -/
theorem strs_are : ∀ {ys : List Str} {us : List Value}, Vals (ys.map V.str) us → StrsAre us ys
  | [], _, r => by rw [List.map_nil] at r; cases r; exact .nil
  | y :: ys, _, r => by
    rw [List.map_cons] at r
    cases r with
    | cons r1 r2 =>
      obtain ⟨t, e⟩ := r1
      subst e
      exact .cons y t (strs_are r2)
theorem mt_join : MtR X "str.join" (fun x xs H Q => ∃ (sep : Str) (p : Addr) (ys : List Str), x = .str sep ∧ xs = [.ref p] ∧ SqL X.K H p (ys.map V.str) ∧ (ys.map (·.length)).sum + ys.length * sep.length ≤ 16777216 ∧ Q (.str (Txt.join sep ys)) H) := by
  intro pins s σ H x xs v us Q I rx rs h
  obtain ⟨sep, p, ys, rfl, rfl, hq, hz, q⟩ := h
  obtain ⟨t, rfl⟩ := rx
  obtain ⟨u, rfl, ru⟩ := rs.one
  cases ru
  obtain ⟨its, rv, pl, _⟩ := I.list hq
  exact join_list pl.isList (by simpa using strs_are rv) hz fun t' k => ⟨.str _, H, I.tok k, ⟨t', rfl⟩, q⟩
/-! ### slices of a text -/
theorem part_of {u : Value} {o : Option Int} (p : IsPart u o) : ∃ l : Option (Int × Tok), u = partValue l ∧ l.map (·.1) = o := by
  cases p with
  | none => exact ⟨none, rfl, rfl⟩
  | int i t => exact ⟨some (i, t), rfl, rfl⟩
theorem sl_str : SlR X (fun x lo hi H Q => ∃ z, x = .str z ∧ z.length ≤ sizeLine ∧ Q (.str (Txt.slice z lo hi)) H) := by
  intro pins s σ H x v vl vu lo hi sl Q I rx hs pl pu h
  obtain ⟨z, rfl, hz, q⟩ := h
  obtain ⟨t, rfl⟩ := rx
  obtain ⟨l, rfl, rfl⟩ := part_of pl
  obtain ⟨u, rfl, rfl⟩ := part_of pu
  refine ⟨"str", _, F.slot_str_getitem.lookup, typeIs_str _ _ _, wpAny_getItem_str_slice (l := l) (u := u) (st := none) ?_ rfl (post_val_or_str ⟨Nat.le_trans (Txt.slice_le z _ _) hz, fun t' k => ⟨.str _, H, I.tok k, ⟨t', rfl⟩, q⟩⟩)⟩
  obtain ⟨o, h1, h2, h3⟩ := hs
  exact ⟨o, h1, h2, h3⟩
end
end L2

namespace DL
open PySem PySem.Spec PyProof.Rows L2
/-! ### isinstance -/
def tyD : D → String
  | .non => "NoneType" | .bl _ => "bool" | .int _ => "int" | .str _ => "str" | .tup _ => "tuple" | .lst _ => "list" | .dct _ _ => "dict"
def okT (T : String) (f : D → Bool) : Prop := ∀ (K : PySem.W.Frag) (d : D), PySem.W.kitOne K (.type (tyD d)) (.type T) = some (f d)
theorem okT_int : okT "int" isInt := fun K d => by cases d <;> kernel_rfl
theorem okT_str : okT "str" isStr := fun K d => by cases d <;> kernel_rfl
theorem okT_bool : okT "bool" isBool := fun K d => by cases d <;> kernel_rfl
theorem okT_tuple : okT "tuple" isTup := fun K d => by cases d <;> kernel_rfl
section
variable {X : Cx}
theorem call_isi {T : String} {f : D → Bool} (hT : okT T f) : CallR X (.builtin "isinstance") (fun xs H Q => ∃ B d x, xs = [x, .ty T] ∧ Rp X.K H B d x ∧ Q (.bl (f d)) H) := by
  intro pins s σ H xs us Q I rs h
  obtain ⟨B, d, x, rfl, r, q⟩ := h
  obtain ⟨u, c, rfl, ru, rc⟩ := rs.two
  obtain rfl : c = Value.type T := rc
  have fin : ∀ tk, EP X pins σ Q (.bool (f d)) { s with toks := tk } := fun tk => ⟨.bl _, H, I.tok tk, rfl, q⟩
  have e := hT X.K d
  cases d with
  | non => rw [rp_non] at r; subst r; cases (show u = Value.none from ru); exact PySem.W.kia_one PySem.W.kitx_none I.kIn True.intro e (fun z => nomatch z) fin
  | bl y => rw [rp_bl] at r; subst r; cases (show u = Value.bool y from ru); exact PySem.W.kia_one PySem.W.kitx_bool I.kIn True.intro e (fun z => nomatch z) fin
  | int i => rw [rp_int] at r; subst r; obtain ⟨t, rfl⟩ := (show ∃ t, u = Value.int i t from ru); exact PySem.W.kia_one PySem.W.kitx_int I.kIn True.intro e (fun z => nomatch z) fin
  | str y => rw [rp_str] at r; subst r; obtain ⟨t, rfl⟩ := (show ∃ t, u = Value.str y t from ru); exact PySem.W.kia_one PySem.W.kitx_str I.kIn True.intro e (fun z => nomatch z) fin
  | tup ds =>
    rw [rp_tup] at r
    obtain ⟨a, xs, rfl, hq, _⟩ := r
    cases (show u = Value.ref a from ru)
    obtain ⟨its, _, p, _⟩ := I.tuple hq.to
    obtain ⟨o, h1, h2, _⟩ := p
    exact PySem.W.kia_one PySem.W.kitx_tuple I.kIn ⟨o, h1, h2⟩ e (fun z => nomatch z) fin
  | lst ds =>
    rw [rp_lst] at r
    obtain ⟨a, xs, rfl, hq, _⟩ := r
    cases (show u = Value.ref a from ru)
    obtain ⟨its, _, p, _⟩ := I.list hq.to
    obtain ⟨o, n, h1, h2, _⟩ := p
    exact PySem.W.kia_one PySem.W.kitx_list I.kIn ⟨o, h1, h2⟩ e (fun z => nomatch z) fin
  | dct ks ds =>
    rw [rp_dct] at r
    obtain ⟨a, xs, rfl, _, hq, _⟩ := r
    cases (show u = Value.ref a from ru)
    obtain ⟨_, _, vs, _, p⟩ := (show ObjOk X.prog X.w H s.heap a (.dK (ks.zip xs)) from I.hok a _ hq)
    obtain ⟨o, es, ep, h1, h2, _⟩ := p
    exact PySem.W.kia_one PySem.W.kitx_dict I.kIn ⟨o, h1, h2.1⟩ e (fun z => nomatch z) fin
theorem pd_isi {T : String} {f : D → Bool} {Tn : Str} {e : Expr} {g : Ds → Option D} {p p2 pos : Pos} (hT : okT T f) (hb : bootBuiltins Tn = some (.type T)) (hm : X.mg "isinstance" = none) (hmT : X.mg Tn = none) (h : PD X e g) (hg : Gl X "isinstance" := by rfl) (hgT : Gl X Tn := by rfl)
    (hn : Tn ≠ "__name__" := by decide) (hd : (Tn == ("__debug__" : Str)) = false := by decide)
    (he : starEach [e, .Name Tn p2] X.env = (false, eval e X.env) :: starEach [.Name Tn p2] X.env := by rfl) (he2 : starEach [.Name Tn p2] X.env = (false, eval (.Name Tn p2) X.env) :: starEach [] X.env := by rfl)
    (hpl : (backTo pos (starEach [.Name Tn p2] X.env)).any (·.1) = false := by rfl) :
    PD X (.Call (.Name "isinstance" p) [e, .Name Tn p2] [] pos) (isiG f g) :=
  .mk fun B δ => (pe_callB (call_isi hT) hg hm PyProof.Rows.boot_isinstance (pa_cons (h B δ) (pa_cons (pe_bltn (v := .ty T) hgT hmT hb rfl hn hd) pa_nil he2) he) (by decide) (by decide) he hpl).imp fun σ H Q ⟨d, en, h, k⟩ => by
    unfold isiG at h
    cases e1 : g δ with
    | none => rw [e1] at h; cases h
    | some x =>
      rw [e1] at h
      cases h
      exact ⟨x, en, e1, fun v H1 s1 r1 => ⟨B, x, v, rfl, r1, k _ H1 s1 (by rw [rp_bl])⟩⟩

/-! ### operations -/
theorem op2_ii {K : PySem.W.Frag} {C : Int → Int → Prop} [∀ i j, Decidable (C i j)] {g : Int → Int → V} {g' : Int → Int → D} (hg : ∀ i j H B, Rp K H B (g' i j) (g i j)) : Op2 K (rI C g) (ii fun i j => if C i j then some (g' i j) else none) := by
  intro H B x y dx dy d Q hb rx ry h k
  cases dx <;> cases dy <;> simp only [ii] at h <;> try cases h
  rename_i i j
  split at h
  · cases h
    rw [rp_int] at rx ry
    subst rx ry
    exact ⟨i, j, rfl, rfl, by assumption, k _ H (Same.refl H) (hg i j H B)⟩
  · cases h
theorem op2_i0 {K : PySem.W.Frag} {g : Int → Int → V} {g' : Int → Int → D} (hg : ∀ i j H B, Rp K H B (g' i j) (g i j)) : Op2 K (rI0 g) (ii fun i j => some (g' i j)) := by
  intro H B x y dx dy d Q hb rx ry h k
  cases dx <;> cases dy <;> simp only [ii] at h <;> try cases h
  rename_i i j
  rw [rp_int] at rx ry
  subst rx ry
  exact ⟨i, j, rfl, rfl, k _ H (Same.refl H) (hg i j H B)⟩
instance decDiv (i j : Int) : Decidable (CDiv i j) := inferInstanceAs (Decidable (0 < j ∧ j < 1073741824))
instance decPow (i j : Int) : Decidable (CPow i j) := inferInstanceAs (Decidable (0 ≤ j ∧ j ≤ 1000000 ∧ i.natAbs < 2 ^ 64))
instance decMul (i j : Int) : Decidable (CMul i j) := inferInstanceAs (Decidable ((-(2 ^ 64) < i ∧ i < 2 ^ 64) ∨ (-(2 ^ 64) < j ∧ j < 2 ^ 64)))
variable {e a b : Expr} {pos : Pos} {g ga gb : Ds → Option D}
theorem pd_sub (ha : PD X a ga) (hb : PD X b gb) : PD X (.BinOp a .Sub b pos) (o2 ga gb subD) := pd_op op_sub (op2_i0 (g' := fun i j => .int (i - j)) fun _ _ _ _ => by rw [rp_int]) ha hb
theorem pd_fdiv (ha : PD X a ga) (hb : PD X b gb) : PD X (.BinOp a .FloorDiv b pos) (o2 ga gb fdivD) := pd_op op_fdiv (op2_ii (C := CDiv) (g' := fun i j => .int (i / j)) fun _ _ _ _ => by rw [rp_int]) ha hb
theorem pd_mod (ha : PD X a ga) (hb : PD X b gb) : PD X (.BinOp a .Mod b pos) (o2 ga gb modD) := pd_op op_mod (op2_ii (C := fun _ j => 0 < j) (g' := fun i j => .int (i % j)) fun _ _ _ _ => by rw [rp_int]) ha hb
theorem pd_pow (ha : PD X a ga) (hb : PD X b gb) : PD X (.BinOp a .Pow b pos) (o2 ga gb powD) := pd_op op_pow (op2_ii (C := CPow) (g' := fun i j => .int (i ^ j.toNat)) fun _ _ _ _ => by rw [rp_int]) ha hb
end
end DL
namespace L2
open PySem PySem.Spec PyProof.Rows
section
variable {X : Cx}
/-- list + list, whatever they are -/
def rCatL (K : PySem.W.Frag) : R2 := fun x y H Q => ∃ l b xs zs, x = .ref l ∧ y = .ref b ∧ SqL K H l xs ∧ SqL K H b zs ∧ xs.length + zs.length ≤ sizeLine ∧ ∀ p, H p = none → Q (.ref p) (upd H p (.lst (xs ++ zs)))
theorem op_catL : OpR X (binaryOp .Add) (rCatL X.K) := by
  intro pins s σ H x y v u Q I rx ry h
  obtain ⟨l, b, xs, zs, rfl, rfl, hH, hB, hz, q⟩ := h
  cases rx
  cases ry
  obtain ⟨its, r, p1, z1⟩ := I.list hH
  obtain ⟨its2, r2, p2, z2⟩ := I.list hB
  obtain ⟨⟨cls, dd, data, sl⟩, ho, hc, n, hd⟩ := p1.isList
  obtain ⟨⟨cls2, dd2, data2, sl2⟩, ho2, hc2, n2, hd2⟩ := p2.isList
  simp only at hc hd hc2 hd2
  subst hc hd hc2 hd2
  have e : its.toArray ++ its2.toArray = (its ++ its2).toArray := by simp
  have hsz : its.toArray.size + its2.toArray.size ≤ sizeLine := by
    rw [List.size_toArray, List.size_toArray, ← r.length, ← r2.length]; exact hz
  refine concat_meets ⟨_, ho, rfl⟩ ⟨_, ho2, rfl⟩ noFill_list_add seq_list_add PySem.F.slot_list_add PySem.F.entry_list_add (PySem.F.args_list_add_2 _ _) (list_addW l b its.toArray its2.toArray n n2 dd dd2 sl sl2 hsz) ⟨ho, ho2, ?_⟩
  rw [e]
  exact ⟨.ref _, _, I.lnew (t' := s.toks) (r.append r2) (by rw [List.length_append]; exact hz), rfl, q _ I.fresh⟩
end
end L2
namespace DL
open PySem PySem.Spec PyProof.Rows L2
section
variable {X : Cx} {K : PySem.W.Frag} {e a b : Expr} {es : List Expr} {pos p : Pos} {g ga gb : Ds → Option D} {gA : Ds → Option (List D)}
theorem fresh_not {H : Hp} {B : BS} (hb : ∀ a, B a → H a ≠ none) {p : Addr} (h : H p = none) : ¬ B p := fun z => hb p z h
theorem rp_newL {H : Hp} {B : BS} {p : Addr} {ds : List D} {xs : List V} (hb : ∀ a, B a → H a ≠ none) (h : H p = none) (r : Rps K H B ds xs) : Rp K (upd H p (.lst xs)) B (.lst ds) (.ref p) := by
  rw [rp_lst]
  exact ⟨p, xs, rfl, .inl ⟨fresh_not hb h, .inl upd_same⟩, r.same (same_upd h)⟩
theorem rp_newT {H : Hp} {B : BS} {p : Addr} {ds : List D} {xs : List V} (hb : ∀ a, B a → H a ≠ none) (h : H p = none) (r : Rps K H B ds xs) : Rp K (upd H p (.tup xs)) B (.tup ds) (.ref p) := by
  rw [rp_tup]
  exact ⟨p, xs, rfl, .inl ⟨fresh_not hb h, .inl upd_same⟩, r.same (same_upd h)⟩
/-! ### comparisons -/
theorem op2_lt : Op2 K (rI0 fun i j => .bl (decide (i < j))) ltD := op2_i0 (g' := fun i j => .bl (decide (i < j))) fun _ _ _ _ => by rw [rp_bl]
theorem op2_le : Op2 K (rI0 fun i j => .bl (decide (i ≤ j))) leD := op2_i0 (g' := fun i j => .bl (decide (i ≤ j))) fun _ _ _ _ => by rw [rp_bl]
theorem op2_gt : Op2 K (rI0 fun i j => .bl (decide (j < i))) gtD := op2_i0 (g' := fun i j => .bl (decide (j < i))) fun _ _ _ _ => by rw [rp_bl]
theorem op2_ge : Op2 K (rI0 fun i j => .bl (decide (j ≤ i))) geD := op2_i0 (g' := fun i j => .bl (decide (j ≤ i))) fun _ _ _ _ => by rw [rp_bl]
theorem eqS_ok {H : Hp} {B : BS} {x y : V} {dx dy : D} {b : Bool} (rx : Rp K H B dx x) (ry : Rp K H B dy y) (h : eqS dx dy = some b) : scal x y = true ∧ decide (x = y) = b := by
  cases dx <;> cases dy <;> simp only [eqS] at h <;> try cases h
  all_goals
    simp only [rp_non, rp_bl, rp_int, rp_str] at rx ry
    subst rx ry
    refine ⟨rfl, ?_⟩
    simp
theorem op2_eq : Op2 K rEq eqD := by
  intro H B x y dx dy d Q hb rx ry h k
  unfold eqD at h
  cases e : eqS dx dy with
  | none => rw [e] at h; cases h
  | some b =>
    rw [e] at h
    cases h
    obtain ⟨h1, h2⟩ := eqS_ok rx ry e
    exact ⟨h1, by rw [h2]; exact k _ H (Same.refl H) (by rw [rp_bl])⟩
theorem op2_in : Op2 K (fun x y H Q => ∃ i j, x = .str i ∧ y = .str j ∧ Q (.bl (!(Builtin.Str.occurrences j i 0 j.length 1).isEmpty)) H) inD := by
  intro H B x y dx dy d Q hb rx ry h k
  cases dx <;> cases dy <;> simp only [inD] at h <;> try cases h
  rw [rp_str] at rx ry
  subst rx ry
  exact ⟨_, _, rfl, rfl, k _ H (Same.refl H) (by rw [rp_bl]; rfl)⟩
theorem op2_isN : Op2 K (fun x y H Q => y = .non ∧ Q (.bl (decide (x = .non))) H) isND := by
  intro H B x y dx dy d Q hb rx ry h k
  have hy : dy = .non := by cases dy <;> first | rfl | cases h
  subst hy
  cases h
  rw [rp_non] at ry
  refine ⟨ry, k _ H (Same.refl H) ?_⟩
  rw [rp_bl]
  cases dx <;> simp only [rp_non, rp_bl, rp_int, rp_str, rp_tup, rp_lst, rp_dct] at rx
  all_goals first
    | (subst rx; rfl)
    | (obtain ⟨a, xs, rfl, _⟩ := rx; rfl)

/-! ### places -/
theorem atI_eq {α : Type} (xs : List α) (i : Int) : L2.atI xs i = DL.atI xs i := rfl
theorem sIx_eq (n d : Nat) (o : Option Int) : HT.sIx n d o = sIx n d o := by cases o <;> rfl
theorem atI_rel {H : Hp} {B : BS} {ds : List D} {xs : List V} {i : Int} {d : D} (r : Rps K H B ds xs) (h : DL.atI ds i = some d) : ∃ v, L2.atI xs i = some v ∧ Rp K H B d v := by
  rw [atI_eq]
  unfold DL.atI at h ⊢
  rw [r.length]
  cases e : DL.ixN ds.length i with
  | none => rw [e] at h; cases h
  | some j =>
    rw [e] at h
    exact r.get h
theorem op2_ix : Op2 K (rIx K) ixD := by
  intro H B x y dx dy d Q hb rx ry h k
  cases dx <;> cases dy <;> simp only [ixD] at h <;> try cases h
  · split at h
    · rename_i hz
      rw [rp_str] at rx
      rw [rp_int] at ry
      subst rx ry
      obtain ⟨c, hc, rfl⟩ := Option.map_eq_some_iff.mp h
      exact .inr (.inr ⟨_, _, c, rfl, rfl, hz, hc, k _ H (Same.refl H) (by rw [rp_str])⟩)
    · cases h
  · rw [rp_tup] at rx
    rw [rp_int] at ry
    subst ry
    obtain ⟨a, xs, rfl, q, r⟩ := rx
    obtain ⟨v, hv, rv⟩ := atI_rel r h
    exact .inr (.inl ⟨a, xs, _, v, rfl, rfl, q.to, hv, k _ H (Same.refl H) rv⟩)
  · rw [rp_lst] at rx
    rw [rp_int] at ry
    subst ry
    obtain ⟨a, xs, rfl, q, r⟩ := rx
    obtain ⟨v, hv, rv⟩ := atI_rel r h
    exact .inl ⟨a, xs, _, v, rfl, rfl, q.to, hv, k _ H (Same.refl H) rv⟩
theorem pd_ix' (ha : PD X a ga) (hb : PD X b gb) (hs : PlainIx b := by exact fun _ _ => rfl) : PD X (.Subscript a b pos) (o2 ga gb ixD) := pd_ix ix_seq op2_ix ha hb hs

/-! ### slices -/
structure PDO (X : Cx) (e : Option Expr) (g : Ds → Option (Option Int)) : Prop where
  mk :: go : ∀ B δ, PO X e (fun σ H Q => ∃ o, Env X.K H B σ δ ∧ g δ = some o ∧ ∀ H', Same H H' → Q o H')
instance {X : Cx} {e : Option Expr} {g : Ds → Option (Option Int)} : CoeFun (PDO X e g) (fun _ => ∀ B δ, PO X e (fun σ H Q => ∃ o, Env X.K H B σ δ ∧ g δ = some o ∧ ∀ H', Same H H' → Q o H')) := ⟨PDO.go⟩
theorem pdo_none : PDO X none noneO := .mk fun B δ pins s σ H Q I ⟨o, en, h, k⟩ => by
  cases h
  exact po_none pins s σ H Q I (k H (Same.refl H))
theorem pdo_some (h : PD X e g) : PDO X (some e) (someO g) := .mk fun B δ pins s σ H Q I ⟨o, en, hq, k⟩ => by
  unfold someO at hq
  cases e1 : g δ with
  | none => rw [e1] at hq; cases hq
  | some d =>
    rw [e1] at hq
    cases d <;> simp [asI] at hq
    subst hq
    exact po_some (h B δ) pins s σ H Q I ⟨_, en, e1, fun v H' s' r => ⟨_, by rw [rp_int] at r; exact r, k H' s'⟩⟩
theorem cut_rel {H : Hp} {B : BS} {ds : List D} {xs : List V} (r : Rps K H B ds xs) (lo hi : Option Int) : Rps K H B (cutD ds lo hi) (cutV xs lo hi) := by
  unfold cutD cutV
  rw [r.length, sIx_eq, sIx_eq]
  exact (r.drop _).take _
/-! ### built-in functions -/
theorem rps_one {H : Hp} {B : BS} {d : D} {xs : List V} (h : Rps K H B [d] xs) : ∃ v, xs = [v] ∧ Rp K H B d v := by
  rw [rps_cons] at h
  obtain ⟨x, r, rfl, h1, h2⟩ := h
  rw [rps_nil] at h2
  subst h2
  exact ⟨x, rfl, h1⟩
theorem fn_len : FnR K (fun xs H Q => (∃ z, xs = [.str z] ∧ z.length ≤ sizeLine ∧ Q (.int z.length) H) ∨ ∃ p ys, xs = [.ref p] ∧ (SqL K H p ys ∨ SqT K H p ys) ∧ Q (.int ys.length) H) lenD := by
  intro H B xs ds d Q hb r h k
  unfold lenD at h
  split at h
  · split at h
    · cases h
      obtain ⟨v, rfl, r1⟩ := rps_one r
      rw [rp_str] at r1
      subst r1
      exact .inl ⟨_, rfl, by assumption, k _ H (Same.refl H) (by rw [rp_int])⟩
    · cases h
  · cases h
    obtain ⟨v, rfl, r1⟩ := rps_one r
    rw [rp_lst] at r1
    obtain ⟨a, ys, rfl, q, rr⟩ := r1
    exact .inr ⟨a, ys, rfl, .inl q.to, k _ H (Same.refl H) (by rw [rp_int, rr.length])⟩
  · cases h
    obtain ⟨v, rfl, r1⟩ := rps_one r
    rw [rp_tup] at r1
    obtain ⟨a, ys, rfl, q, rr⟩ := r1
    exact .inr ⟨a, ys, rfl, .inr q.to, k _ H (Same.refl H) (by rw [rp_int, rr.length])⟩
  · cases h
theorem pd_len (hm : X.mg "len" = none) (ha : PDA X [e] gA) (hg : Gl X "len" := by rfl) (he : starEach [e] X.env = (false, eval e X.env) :: starEach [] X.env := by rfl) (hpl : (backTo pos (starEach [] X.env)).any (·.1) = false := by rfl) :
    PD X (.Call (.Name "len" p) [e] [] pos) (oA gA lenD) := pd_callB (call_len_str.or call_len_seq) fn_len hm PySem.boot_len ha hg (by decide) (by decide) he hpl
theorem bools_rel {H : Hp} {B : BS} : ∀ {ds : List D} {xs : List V} {bs : List Bool}, Rps K H B ds xs → bools ds = some bs → xs = bs.map V.bl
  | [], _, _, r, h => by
    cases h
    rw [rps_nil] at r
    exact r
  | d :: ds, _, bs, r, h => by
    rw [rps_cons] at r
    obtain ⟨x, t, rfl, r1, r2⟩ := r
    cases d <;> simp only [bools] at h <;> try cases h
    obtain ⟨t', e, rfl⟩ := Option.map_eq_some_iff.mp h
    rw [rp_bl] at r1
    rw [r1, bools_rel r2 e]
    rfl
theorem fn_all : FnR K (fun xs H Q => ∃ (p : Addr) (bs : List Bool), xs = [.ref p] ∧ SqL K H p (bs.map V.bl) ∧ Q (.bl (bs.all id)) H) allD := by
  intro H B xs ds d Q hb r h k
  unfold allD at h
  split at h
  · obtain ⟨bs, e, rfl⟩ := Option.map_eq_some_iff.mp h
    obtain ⟨v, rfl, r1⟩ := rps_one r
    rw [rp_lst] at r1
    obtain ⟨a, ys, rfl, q, rr⟩ := r1
    have := bools_rel rr e
    subst this
    exact ⟨a, bs, rfl, q.to, k _ H (Same.refl H) (by rw [rp_bl])⟩
  · cases h
theorem fn_str : FnR K (fun xs H Q => ∃ i, xs = [.int i] ∧ i.natAbs.log2 < 1920 ∧ Q (.str (toString i)) H) strOfD := by
  intro H B xs ds d Q hb r h k
  unfold strOfD at h
  split at h
  · split at h
    · cases h
      obtain ⟨v, rfl, r1⟩ := rps_one r
      rw [rp_int] at r1
      subst r1
      exact ⟨_, rfl, by assumption, k _ H (Same.refl H) (by rw [rp_str])⟩
    · cases h
  · cases h
theorem strL_rel {H : Hp} {B : BS} : ∀ {ds : List D} {xs : List V} {bs : List Str}, Rps K H B ds xs → strL ds = some bs → xs = bs.map V.str
  | [], _, _, r, h => by
    cases h
    rw [rps_nil] at r
    exact r
  | d :: ds, _, bs, r, h => by
    rw [rps_cons] at r
    obtain ⟨x, t, rfl, r1, r2⟩ := r
    cases d <;> simp only [strL] at h <;> try cases h
    obtain ⟨t', e, rfl⟩ := Option.map_eq_some_iff.mp h
    rw [rp_str] at r1
    rw [r1, strL_rel r2 e]
    rfl
theorem pd_join {o : Expr} {apos cpos : Pos} (ho : PD X o g) (ha : PDA X [e] gA) (hbase : attributeBase o "join" X.env (eval o X.env) = eval o X.env := by rfl)
    (hfew : ((backTo cpos (starEach [e] X.env)).all (fun x => !x.1) && (backToKw cpos (keywordEach [] X.env)).all (fun x => x.1.isSome)
      && decide ([e].length + ([] : List Keyword).length + (if ([] : List Keyword).isEmpty then 0 else 1) < 30)) = true := by rfl)
    (hline : (apos.endLine == cpos.line) = true := by rfl) (hs : starEach [e] X.env = (false, eval e X.env) :: starEach [] X.env := by rfl) (hplain : (backTo cpos (starEach [] X.env)).any (·.1) = false := by rfl) :
    PD X (.Call (.Attribute o "join" apos) [e] [] cpos) (joinG g gA) := .mk fun B δ =>
  (pe_bm F.plainAttrs_str F.slot_str_join F.type_str_join mt_join (ho B δ) (ha B δ) hbase hfew hline hs hplain).imp fun σ H Q ⟨d, en, h, k⟩ => by
    unfold joinG at h
    cases e1 : g δ with
    | none => rw [e1] at h; cases h
    | some x =>
      cases e2 : gA δ with
      | none => rw [e1, e2] at h; cases h
      | some ds =>
        rw [e1, e2] at h
        simp only [Option.bind_some] at h
        unfold joinD at h
        split at h
        · cases e3 : strL _ with
          | none => rw [e3] at h; cases h
          | some ys =>
            rw [e3] at h
            simp only [Option.bind_some] at h
            split at h
            · cases h
              refine ⟨_, en, e1, fun v H1 s1 r1 => ?_⟩
              rw [rp_str] at r1
              subst r1
              refine ⟨rfl, _, en.same s1, e2, fun vs H2 s2 r2 => ?_⟩
              obtain ⟨w, rfl, r3⟩ := rps_one r2
              rw [rp_lst] at r3
              obtain ⟨a, zs, rfl, q, rr⟩ := r3
              have := strL_rel rr e3
              subst this
              exact ⟨_, a, ys, rfl, rfl, q.to, by assumption, k _ H2 (s1.trans s2) (by rw [rp_str])⟩
            · cases h
        · cases h
theorem fn_tup : FnR K (fun xs H Q => ∃ p ys, xs = [.ref p] ∧ ((SqL K H p ys ∧ ∀ l, H l = none → Q (.ref l) (upd H l (.tup ys))) ∨ (SqT K H p ys ∧ Q (.ref p) H))) tupOfD := by
  intro H B xs ds d Q hb r h k
  unfold tupOfD at h
  split at h
  · cases h
    obtain ⟨v, rfl, r1⟩ := rps_one r
    rw [rp_lst] at r1
    obtain ⟨a, ys, rfl, q, rr⟩ := r1
    exact ⟨a, ys, rfl, .inl ⟨q.to, fun l hl => k _ _ (same_upd hl) (rp_newT hb hl rr)⟩⟩
  · cases h
    obtain ⟨v, rfl, r1⟩ := rps_one r
    have r1' := r1
    rw [rp_tup] at r1
    obtain ⟨a, ys, rfl, q, rr⟩ := r1
    exact ⟨a, ys, rfl, .inr ⟨q.to, k _ H (Same.refl H) r1'⟩⟩
  · cases h
end
end DL
namespace DL
open PySem PySem.Spec PyProof.Rows L2
section
variable {X : Cx} {K : PySem.W.Frag} {e a b : Expr} {es : List Expr} {pos p : Pos} {g ga gb : Ds → Option D} {gA : Ds → Option (List D)}
theorem pd_neg (h : PD X a ga) : PD X (.UnaryOp .USub a pos) (unG negD ga) := .mk fun B δ => (pe_un un_neg (h B δ)).imp fun σ H Q ⟨d, en, h, k⟩ => by
  unfold unG at h
  cases e1 : ga δ with
  | none => rw [e1] at h; cases h
  | some x =>
    rw [e1] at h
    cases x <;> simp [negD] at h
    subst h
    exact ⟨_, en, e1, fun v H' s r => ⟨_, by rw [rp_int] at r; exact r, k _ H' s (by rw [rp_int])⟩⟩
/-- a def of the text, by its name -/
def FnD (P : Program) (w : World) (K : PySem.W.Frag) (mg : Str → Option Value) (base : Heap) (x : Str) (k : Nat) (ps : List Str) (f : List D → Option D) : Prop :=
  ∃ (fa : Addr) (fd : FuncData), FnOk P w K mg base CX0 k fa fd ps (spD K f) ∧ mg x = some (.ref fa) ∧ PySem.W.keepIn K (.ref fa) = true ∧ Binds K fd ps []
theorem pd_fn {k m : Nat} {ps : List Str} {x : Str} {f : List D → Option D} (C : FnD X.prog X.w X.K X.mg X.base x k ps f) (hr : Room m X.A) (hk : k ≤ m) (ha : PDA X (e :: es) gA) (hg : Gl X x := by rfl) (hdb : (x == ("__debug__" : Str)) = false := by decide)
    (he : starEach (e :: es) X.env = (false, eval e X.env) :: starEach es X.env := by rfl) (hpl : (backTo pos (starEach es X.env)).any (·.1) = false := by rfl) : PD X (.Call (.Name x p) (e :: es) [] pos) (oA gA f) := by
  obtain ⟨fa, fd, F, hm, kp, hb⟩ := C
  exact pd_call F (hr.mono hk) hm kp hb ha hg hdb he hpl
theorem pd_cmpD {sc scope : Scope} {elt iter tg : Expr} {ifs : List Expr} {N N' : List Str} {n : Nat} {caps : List Nat} {gi : Ds → Option (List D)} {idx : List Nat} {f : D → Ds → Option Ds} {gt : Ds → Option Bool} {ge : Ds → Option D}
    (ok : CompOk sc scope N N' n caps) (hidx : ∀ j ∈ idx, j < n) (hi : PID X tg iter gi)
    (hg : ∀ cl s H ex, PGD (cxComp X scope cl N' s H ex) tg idx f) (ht : ∀ cl s H ex, PFD (cxComp X scope cl N' s H ex) ifs gt) (he : ∀ cl s H ex, PD (cxComp X scope cl N' s H ex) elt ge)
    (hc : X.calm = true := by rfl) (hsc : X.env.scope = sc := by rfl) (hN : X.N = N := by rfl) (hs : ∀ x, foldedSetIterable iter X.env x = pure x := by intro _; rfl) :
    PD X (.ListComp elt [⟨tg, iter, ifs, 0⟩] scope pos) (compG n caps gi f gt ge) := pd_comp hc hsc (hN ▸ ok) hidx hi hg ht he hs
end

end DL
namespace DL
open PySem PySem.Spec PyProof.Rows L2
/-! ### what is one's own -/
section
variable {K : PySem.W.Frag} {H H' : Hp} {B B' : BS} {σ σ' : St} {δ δ' : Ds}
theorem Gr.fresh {p : Addr} {o : HO} (h : H p = none) : Gr H (upd H p o) B (fun a => B a ∨ a = p) := fun b u n e => by
  have hb : b ≠ p := ne_of_none e h
  exact ⟨fun z => z.elim n hb, by rw [upd_ne hb]; exact e⟩
theorem Gr.own {a : Addr} {o : HO} (h : B a) : Gr H (upd H a o) B B := fun b u n e => ⟨n, by rw [upd_ne (fun z => n (by rw [z]; exact h))]; exact e⟩
theorem RpO.mono {d : D} {a : Addr} (s : ∀ o, H a = some o → H' a = some o) (g : Gr H H' B B') (h : RpO K H B d a) : RpO K H' B' d a := by
  cases d <;> try exact h.elim
  · obtain ⟨xs, e, r⟩ := h; exact ⟨xs, s _ e, r.mono g⟩
  · obtain ⟨xs, e, l, r⟩ := h; exact ⟨xs, s _ e, l, r.mono g⟩
theorem Pd.impI {α β : Type} {F G : α → β → Prop} : ∀ {l : List α} {m : List β}, (∀ (i : Nat) a b, l[i]? = some a → m[i]? = some b → F a b → G a b) → Paired F l m → Paired G l m
  | _, _, _, .nil => .nil
  | _, _, h, .cons r t => .cons (h 0 _ _ rfl rfl r) (Pd.impI (fun i a b e1 e2 => h (i + 1) a b (by simpa using e1) (by simpa using e2)) t)
theorem set_self {α : Type} : ∀ {l : List α} {i : Nat} {a : α}, l[i]? = some a → l.set i a = l
  | [], _, _, h => by simp at h
  | x :: l, 0, a, h => by simp at h; subst h; rfl
  | x :: l, i + 1, a, h => by rw [List.set_cons_succ, set_self (by simpa using h)]
theorem Pd.setR {α β : Type} {F : α → β → Prop} {a : α} {b : β} {i : Nat} (r : F a b) {l : List α} {m : List β} (e : l[i]? = some a) (h : Paired F l m) : Paired F l (m.set i b) := by
  have := Pd.set r i h
  rwa [set_self e] at this
theorem get_set {α : Type} {l : List α} {i j : Nat} {a b : α} (h : (l.set i a)[j]? = some b) : (i = j ∧ a = b ∧ j < l.length) ∨ (i ≠ j ∧ l[j]? = some b) := by
  by_cases e : i = j
  · subst e
    by_cases hl : i < l.length
    · rw [List.getElem?_set_self hl] at h
      exact .inl ⟨rfl, Option.some.inj h, hl⟩
    · rw [List.getElem?_eq_none (by simpa using hl)] at h; cases h
  · rw [List.getElem?_set_ne e] at h
    exact .inr ⟨e, h⟩
theorem Env.len (e : Env K H B σ δ) : σ.length = δ.length := Pd.len e.all
/-- an owned slot's object -/
theorem Env.at (e : Env K H B σ δ) {i : Nat} {d : D} (h : δ[i]? = some (.ow d)) : ∃ a, σ[i]? = some (some (.ref a)) ∧ B a ∧ RpO K H B d a := by
  obtain ⟨o, h1, a, rfl, hb, r⟩ := Pd.get e.all h
  exact ⟨a, h1, hb, r⟩
/-- an owned object is changed -/
theorem Env.mut (e : Env K H B σ δ) {i : Nat} {d0 d : D} {a : Addr} {o : HO} (hi : δ[i]? = some (.ow d0)) (hs : σ[i]? = some (some (.ref a))) (r : RpO K (upd H a o) B d a) : Env K (upd H a o) B σ (δ.set i (.ow d)) := by
  obtain ⟨a', h1, hb, _⟩ := e.at hi
  rw [hs] at h1
  cases h1
  refine ⟨?_, fun b z => ?_, fun j k b ds es h1 h2 h3 h4 => ?_⟩
  · -- slot by slot
    have h0 : Paired (fun (o' : Option V) (s : Sl) => SlR K (upd H a o) B o' s ∨ (∃ d, s = .ow d ∧ o' = some (.ref a))) σ δ := Pd.imp (fun o' s h => by
      cases s with
      | un => exact .inl trivial
      | sh d => obtain ⟨v, e, r⟩ := h; exact .inl ⟨v, e, r.mono (Gr.own hb)⟩
      | ow d =>
        obtain ⟨b, e, hb', r⟩ := h
        by_cases z : b = a
        · subst z; exact .inr ⟨d, rfl, e⟩
        · exact .inl ⟨b, e, hb', r.mono (fun o h => by rw [upd_ne z]; exact h) (Gr.own hb)⟩) e.all
    have h1 := Pd.setR (i := i) (b := Sl.ow d) (.inl ⟨a, rfl, hb, r⟩) hs h0
    refine Pd.impI (fun j o' s e1 e2 h => ?_) h1
    rcases h with h | ⟨d', rfl, rfl⟩
    · exact h
    · rcases get_set e2 with ⟨rfl, e3, _⟩ | ⟨hne, e3⟩
      · cases e3; exact ⟨a, rfl, hb, r⟩
      · exact absurd (e.own i j a d0 d' hi e3 hs e1) hne
  · by_cases z' : b = a
    · subst z'; rw [upd_same]; exact fun z => nomatch z
    · rw [upd_ne z']; exact e.bad b z
  · have q1 : ∃ d, δ[j]? = some (.ow d) := by
      rcases get_set h1 with ⟨rfl, _, _⟩ | ⟨_, h⟩
      · exact ⟨_, hi⟩
      · exact ⟨_, h⟩
    have q2 : ∃ d, δ[k]? = some (.ow d) := by
      rcases get_set h2 with ⟨rfl, _, _⟩ | ⟨_, h⟩
      · exact ⟨_, hi⟩
      · exact ⟨_, h⟩
    obtain ⟨d1, q1⟩ := q1
    obtain ⟨d2, q2⟩ := q2
    exact e.own j k b d1 d2 q1 q2 h3 h4
theorem EnvS.mut {H₀ : Hp} {B₀ : BS} (en : EnvS K H₀ B₀ H σ δ) (s : Same H H') (b1 : ∀ a, B₀ a → B a) (b2 : ∀ a, B a → B₀ a ∨ H₀ a = none) {i : Nat} {d0 d : D} {a : Addr} {o : HO} (hi : δ[i]? = some (.ow d0)) (hs : σ[i]? = some (some (.ref a)))
    (env : Env K (upd H' a o) B σ (δ.set i (.ow d))) : EnvS K H₀ B₀ (upd H' a o) σ (δ.set i (.ow d)) := by
  have h0 := en.fr i d0 a hi hs
  refine ⟨fun b u h => ?_, ⟨B, b1, b2, env⟩, fun j ds b h1 h2 => ?_, en.b0⟩
  · have : b ≠ a := fun z => by rw [z, h0] at h; cases h
    rw [upd_ne this]
    exact s _ _ (en.same b u h)
  · rcases get_set h1 with ⟨rfl, _, _⟩ | ⟨_, h⟩
    · rw [hs] at h2; cases h2; exact h0
    · exact en.fr j ds b h h2
/-- a new object becomes one's own -/
theorem EnvS.take {H₀ : Hp} {B₀ : BS} (en : EnvS K H₀ B₀ H σ δ) (b1 : ∀ a, B₀ a → B a) (b2 : ∀ a, B a → B₀ a ∨ H₀ a = none) (e : Env K H B σ δ) (i : Nat) {d : D} {p : Addr} (hp : H p = none) (s : Same H H')
    (r : RpO K H' (fun a => B a ∨ a = p) d p) : EnvS K H₀ B₀ H' (σ.set i (some (.ref p))) (δ.set i (.ow d)) := by
  have g : Gr H H' B (fun a => B a ∨ a = p) := fun b u n h => ⟨fun z => z.elim n (ne_of_none h hp), s _ _ h⟩
  have h0p : H₀ p = none := en.same.free hp
  have live : ∀ {j : Nat} {d' : D} {b : Addr}, δ[j]? = some (.ow d') → σ[j]? = some (some (.ref b)) → b ≠ p := fun {j d' b} h1 h2 => by
    obtain ⟨a, q1, q2, q3⟩ := e.at h1
    rw [h2] at q1; cases q1
    exact fun z => e.bad _ q2 (by rw [z]; exact hp)
  refine ⟨en.same.trans s, ⟨fun a => B a ∨ a = p, fun a z => .inl (b1 a z), fun a z => ?_, ?_, fun a z => ?_, fun j k a ds es h1 h2 h3 h4 => ?_⟩, fun j ds a h1 h2 => ?_, en.b0⟩
  · rcases z with z | rfl
    · exact b2 a z
    · exact .inr h0p
  · refine Pd.set ⟨p, rfl, .inr rfl, r⟩ i (Pd.imp (fun o sl h => ?_) e.all)
    cases sl with
    | un => trivial
    | sh d => obtain ⟨v, e, r⟩ := h; exact ⟨v, e, r.mono g⟩
    | ow d => obtain ⟨b, e, hb', r⟩ := h; exact ⟨b, e, .inl hb', r.mono (fun o h => s _ _ h) g⟩
  · rcases z with z | rfl
    · intro q
      cases h : H a with
      | none => exact e.bad a z h
      | some u => rw [s _ _ h] at q; cases q
    · exact r.live
  · rcases get_set h1 with ⟨rfl, _, _⟩ | ⟨n1, h1⟩
    · rcases get_set h2 with ⟨rfl, _, _⟩ | ⟨n2, h2⟩
      · rfl
      · rcases get_set h3 with ⟨_, e3, _⟩ | ⟨n3, _⟩
        · cases e3
          rw [List.getElem?_set_ne n2] at h4
          exact absurd rfl (live h2 h4)
        · exact absurd rfl n3
    · rcases get_set h2 with ⟨rfl, _, _⟩ | ⟨n2, h2⟩
      · rcases get_set h4 with ⟨_, e4, _⟩ | ⟨n4, _⟩
        · cases e4
          rw [List.getElem?_set_ne n1] at h3
          exact absurd rfl (live h1 h3)
        · exact absurd rfl n4
      · rw [List.getElem?_set_ne n1] at h3
        rw [List.getElem?_set_ne n2] at h4
        exact e.own j k a ds es h1 h2 h3 h4
  · rcases get_set h1 with ⟨rfl, _, _⟩ | ⟨n1, h1⟩
    · rcases get_set h2 with ⟨_, e3, _⟩ | ⟨n3, _⟩
      · cases e3; exact h0p
      · exact absurd rfl n3
    · rw [List.getElem?_set_ne n1] at h2
      exact en.fr j ds a h1 h2
/-- all that is one's own, given away -/
theorem Env.frz (e : Env K H B σ δ) : ∃ B' : BS, (∀ a, B' a → B a) ∧ (∀ a, B a → B' a ∨ ∃ (i : Nat) (d : D), δ[i]? = some (.ow d) ∧ σ[i]? = some (some (.ref a))) ∧ Env K H B' σ (DL.frz δ) := by
  refine ⟨fun a => B a ∧ ¬ ∃ (i : Nat) (d : D), δ[i]? = some (.ow d) ∧ σ[i]? = some (some (.ref a)), fun a z => z.1, fun a z => ?_, ?_, fun a z => e.bad a z.1, fun i j a ds es h1 _ _ _ => ?_⟩
  · by_cases q : ∃ (i : Nat) (d : D), δ[i]? = some (.ow d) ∧ σ[i]? = some (some (.ref a))
    · exact .inr q
    · exact .inl ⟨z, q⟩
  · have : Paired (fun o s => SlR K H (fun a => B a ∧ ¬ ∃ (i : Nat) (d : D), δ[i]? = some (.ow d) ∧ σ[i]? = some (some (.ref a))) o (frz1 s)) σ δ := Pd.impI (fun i o s e1 e2 h => by
      cases s with
      | un => trivial
      | sh d => obtain ⟨v, e, r⟩ := h; exact ⟨v, e, r.mono (Gr.less fun a z => z.1)⟩
      | ow d =>
        obtain ⟨a, rfl, hb, r⟩ := h
        exact ⟨_, rfl, r.rp (fun a z => z.1) fun z => z.2 ⟨i, d, e2, e1⟩⟩) e.all
    have mp : ∀ {l : St} {m : Ds} {F : Option V → Sl → Prop}, Paired (fun o s => F o (frz1 s)) l m → Paired F l (m.map frz1) := by
      intro l m F h
      induction h with
      | nil => exact .nil
      | cons r t ih => exact .cons r ih
    exact mp this
  · unfold DL.frz at h1
    rw [List.getElem?_map] at h1
    cases q : δ[i]? with
    | none => rw [q] at h1; cases h1
    | some s => rw [q] at h1; cases s <;> cases h1
theorem EnvS.frz {H₀ : Hp} {B₀ : BS} (en : EnvS K H₀ B₀ H σ δ) : EnvS K H₀ B₀ H σ (DL.frz δ) := by
  obtain ⟨B, b1, b2, env⟩ := en.ex
  obtain ⟨B', c1, c2, env'⟩ := env.frz
  refine ⟨en.same, ⟨B', fun a z => ?_, fun a z => b2 a (c1 a z), env'⟩, fun i ds a h1 _ => ?_, en.b0⟩
  · rcases c2 a (b1 a z) with q | ⟨i, d, q1, q2⟩
    · exact q
    · exact absurd (en.fr i d a q1 q2) (en.b0 a z)
  · unfold DL.frz at h1
    rw [List.getElem?_map] at h1
    cases q : δ[i]? with
    | none => rw [q] at h1; cases h1
    | some s => rw [q] at h1; cases s <;> cases h1
theorem Env.frzAt (e : Env K H B σ δ) (i : Nat) : ∃ B' : BS, (∀ a, B' a → B a) ∧ (∀ a, B a → B' a ∨ ∃ (d : D), δ[i]? = some (.ow d) ∧ σ[i]? = some (some (.ref a))) ∧ Env K H B' σ (DL.frzAt i δ) := by
  unfold DL.frzAt
  cases h : δ[i]? with
  | none => exact ⟨B, fun _ z => z, fun _ z => .inl z, e⟩
  | some s =>
    cases s with
    | un => dsimp only [frz1]; rw [set_self h]; exact ⟨B, fun _ z => z, fun _ z => .inl z, e⟩
    | sh d => dsimp only [frz1]; rw [set_self h]; exact ⟨B, fun _ z => z, fun _ z => .inl z, e⟩
    | ow d =>
      obtain ⟨a, h1, hb, r⟩ := e.at h
      refine ⟨fun b => B b ∧ b ≠ a, fun b z => z.1, fun b z => ?_, ?_, fun b z => e.bad b z.1, fun j k b ds es h1' h2' h3 h4 => ?_⟩
      · by_cases q : b = a
        · subst q; exact .inr ⟨d, rfl, h1⟩
        · exact .inl ⟨z, q⟩
      · have h0 : Paired (fun (o' : Option V) (s : Sl) => SlR K H (fun b => B b ∧ b ≠ a) o' s ∨ (∃ d, s = .ow d ∧ o' = some (.ref a))) σ δ := Pd.imp (fun o' s h => by
          cases s with
          | un => exact .inl trivial
          | sh d => obtain ⟨v, e, r⟩ := h; exact .inl ⟨v, e, r.mono (Gr.less fun a z => z.1)⟩
          | ow d =>
            obtain ⟨b, e, hb', r⟩ := h
            by_cases z : b = a
            · subst z; exact .inr ⟨d, rfl, e⟩
            · exact .inl ⟨b, e, ⟨hb', z⟩, r.mono (fun o h => h) (Gr.less fun a z => z.1)⟩) e.all
        have h2 := Pd.setR (i := i) (b := Sl.sh d) (.inl ⟨.ref a, rfl, r.rp (fun b z => z.1) fun z => z.2 rfl⟩) h1 h0
        refine Pd.impI (fun j o' s e1 e2 hh => ?_) h2
        rcases hh with hh | ⟨d', rfl, rfl⟩
        · exact hh
        · rcases get_set e2 with ⟨rfl, e3, _⟩ | ⟨hne, e3⟩
          · cases e3
          · exact absurd (e.own i j a d d' h e3 h1 e1) hne
      · rcases get_set h1' with ⟨_, q, _⟩ | ⟨_, q1⟩
        · cases q
        · rcases get_set h2' with ⟨_, q, _⟩ | ⟨_, q2⟩
          · cases q
          · exact e.own j k b ds es q1 q2 h3 h4
theorem EnvS.frzAt {H₀ : Hp} {B₀ : BS} (en : EnvS K H₀ B₀ H σ δ) (i : Nat) : EnvS K H₀ B₀ H σ (DL.frzAt i δ) := by
  obtain ⟨B, b1, b2, env⟩ := en.ex
  obtain ⟨B', c1, c2, env'⟩ := env.frzAt i
  refine ⟨en.same, ⟨B', fun a z => ?_, fun a z => b2 a (c1 a z), env'⟩, fun j ds a h1 h2 => ?_, en.b0⟩
  · rcases c2 a (b1 a z) with q | ⟨d, q1, q2⟩
    · exact q
    · exact absurd (en.fr i d a q1 q2) (en.b0 a z)
  · unfold DL.frzAt at h1
    cases q : δ[i]? with
    | none => rw [q] at h1; exact en.fr j ds a h1 h2
    | some s =>
      rw [q] at h1
      rcases get_set h1 with ⟨rfl, q', _⟩ | ⟨_, q1⟩
      · cases s <;> cases q'
      · exact en.fr j ds a q1 h2
theorem flat_rp {d : D} {v : V} (h : flat d = true) (r : Rp K H B d v) : Rp K H' B' d v := by
  cases d <;> simp [flat] at h
  · rw [rp_non] at r ⊢; exact r
  · rw [rp_bl] at r ⊢; exact r
  · rw [rp_int] at r ⊢; exact r
  · rw [rp_str] at r ⊢; exact r
end
/-! ### borrowing -/
section
variable {X : Cx} {e tg : Expr} {st : Stmt} {pos : Pos} {g : GE} {gt : GB} {G : GS}
theorem pd_bor (h : PD X e g) : PD X e (borE g) := .mk fun B δ pins s σ H Q I ⟨d, en, hq, k⟩ => by
  obtain ⟨B', c1, c2, en'⟩ := en.frz
  unfold borE at hq
  cases e1 : g (frz δ) with
  | none => rw [e1] at hq; cases hq
  | some x =>
    rw [e1] at hq
    by_cases hf : flat x = true
    · simp only [Option.bind_some, if_pos hf] at hq
      cases hq
      exact h B' (frz δ) pins s σ H Q I ⟨_, en', e1, fun v H' s' r => k v H' s' (flat_rp hf r)⟩
    · simp only [Option.bind_some, if_neg hf] at hq
      cases hq
theorem psd_retB (h : PD X e g) : PSD X (.Return (some e) pos) (retD (borA g)) := .mk fun H₀ B₀ δ pins s σ H D I ⟨r, en, hq, k⟩ =>
  psd_ret h H₀ B₀ (frz δ) pins s σ H D I ⟨r, en.frz, hq, k⟩
/-! ### new lists and dicts -/
theorem pdf_lst {es : List Expr} {gA : GA} (h : PDA X es gA) : PDF X (.List es pos) (lstG gA) :=
  .mk fun B δ => (pe_lst (h B δ)).imp fun σ H Q ⟨d, en, h, k⟩ => by
    unfold lstG at h
    cases e1 : gA δ with
    | none => rw [e1] at h; cases h
    | some ds =>
      rw [e1] at h
      by_cases hl : ds.length ≤ sizeLine
      · simp only [Option.bind_some, if_pos hl] at h
        cases h
        refine ⟨ds, en, e1, fun vs H1 s1 r1 => ⟨by rw [r1.length]; exact hl, fun p hp => k _ _ (s1.free hp) (s1.trans (same_upd hp)) ⟨vs, upd_same, r1.mono (Gr.fresh hp)⟩⟩⟩
      · simp only [Option.bind_some, if_neg hl] at h
        cases h
theorem psd_own (i : Nat) {x : Str} {px : Pos} (h : PDF X e g) (hN : X.N.Nodup) (hi : X.N[i]? = some x := by rfl) (hx : Loc X.env.scope x := by first | exact Or.inl rfl | exact Or.inr rfl)
    (hs : swapsWithSole [.Name x px] e pos.line X.env = pure false := by rfl) (hw : swappedStores [.Name x px] e X.env = pure none := by rfl)
    (h1 : (assignEach [.Name x px] X.env).map (·.2) = [assign (.Name x px) X.env] := by rfl)
    (hf : X.fn x = true ∨ X.env.scope.names.lookup x = some .local := by first | exact .inl rfl | exact .inr rfl | assumption) : PSD X (.Assign [.Name x px] e pos) (ownD i g) := .mk fun H₀ B₀ δ pins s σ H D I ⟨r, en, e1, k⟩ => by
  unfold ownD at e1
  obtain ⟨B, b1, b2, env⟩ := en.ex
  cases e2 : g δ with
  | none => rw [e2] at e1; cases e1
  | some d =>
    rw [e2] at e1
    cases e1
    exact ps_asg (h B δ) (pg_name (i := i) hN hi hx hf) hs hw h1 pins s σ H D I ⟨d, env, e2, fun p H' hp s' r => k _ H' (en.take b1 b2 env i hp s' r)⟩
end
end DL
namespace L2
open PySem PySem.Spec PyProof.Rows
open PySem.AutoSeq1 (wpAny_loadPart')
theorem extend_any (p : Addr) (xs : Array Value) (k : Nat) (q : Addr) (ys : Array Value) (m : Nat) (dq : Option Addr) (sq : Array (Option Value)) (h0 : ¬ (!xs.isEmpty && Builtin.List.listTooLong (xs.size + ys.size)) = true) (h1 : xs.size ≤ sizeLine) (h2 : xs.size + ys.size ≤ sizeLine + 1) :
    Meets (Builtin.«list.extend» ⟨[.ref p, .ref q], []⟩) (fun _ R s => s.heap.get? p = some { cls := .type "list", dict := none, data := .seq xs k, slots := #[] } ∧ s.heap.get? q = some { cls := .type "list", dict := dq, data := .seq ys m, slots := sq } ∧ R (.ok (.ret Value.none)) { s with heap := s.heap.update p (Obj.mapSeq fun z => z ++ ys) }) :=
  .of_wp fun prog w A R s h => by
    obtain ⟨hp, g, d, tk, os⟩ := s
    obtain ⟨hl, hb, h⟩ := h
    have f1 := AutoSeq1.idx_int
    have f2 := AutoSeq1.sub_tuple_tuple
    have f3 := AutoSeq1.sub_list_list
    have f4 := AutoSeq1.sub_tuple_list
    have f5 := AutoSeq1.sub_list_tuple
    have hz' : (xs ++ ys).size ≤ sizeLine + 1 := by rw [Array.size_append]; exact h2
    wp_walk using (wpAny_updateSeq hl rfl (hz := h1) (_hz' := hz')), wpAny_loadPart' hl, wpAny_loadPart' hb
    exact ⟨_, rfl, h⟩
section
variable {X : Cx}
/-- xs.extend(ys), ys whatever list -/
def rExtendL (K : PySem.W.Frag) : V → List V → Hp → VK → Prop := fun x vs H Q => ∃ l b xs zs, x = .ref l ∧ vs = [.ref b] ∧ H l = some (.lst xs) ∧ SqL K H b zs ∧ xs.length + zs.length ≤ sizeLine ∧ Q .non (upd H l (.lst (xs ++ zs)))
theorem mt_extendL : MtM X "list.extend" (rExtendL X.K) := by
  intro pins s σ H x vs v us Q I rx rv h
  obtain ⟨l, b, xs, zs, rfl, rfl, hH, hB, hz, q⟩ := h
  cases rx
  obtain ⟨u, rfl, ru⟩ := rv.one
  cases ru
  obtain ⟨z, its, n, r, hl, e⟩ := I.lstM hH
  obtain ⟨its2, r2, p2, z2⟩ := I.list hB
  obtain ⟨⟨cls2, dd2, data2, sl2⟩, ho2, hc2, n2, hd2⟩ := p2.isList
  simp only at hc2 hd2
  subst hc2 hd2
  have hl2 := r2.length
  have hsz : its.toArray.size + its2.toArray.size ≤ sizeLine := by rw [List.size_toArray, List.size_toArray]; omega
  have hlong : ¬ (!its.toArray.isEmpty && Builtin.List.listTooLong (its.toArray.size + its2.toArray.size)) = true := by
    rw [notLongL hsz, Bool.and_false]
    exact Bool.false_ne_true
  refine call_meets F.slot_list_extend ⟨_, e, rfl⟩ F.entry_list_extend (F.args_list_extend_2 _ _)
    (extend_any l its.toArray n b its2.toArray n2 dd2 sl2 hlong (by rw [List.size_toArray]; omega) (by omega)) ⟨e, ho2, ?_⟩
  refine ⟨.non, _, I.lset (its' := its ++ its2) hH e (by simp) (r.append r2) ?_, rfl, q⟩
  rw [List.length_append]
  omega
end
end L2
namespace DL
open PySem PySem.Spec PyProof.Rows L2
section
variable {K : PySem.W.Frag} {H H' : Hp} {B B' : BS} {σ σ' : St} {δ δ' : Ds}
theorem Rps.set : ∀ {ds : List D} {xs : List V} {d : D} {v : V} (j : Nat), Rps K H B ds xs → Rp K H B d v → Rps K H B (ds.set j d) (xs.set j v)
  | [], _, _, _, _, h, _ => by rw [rps_nil] at h; subst h; simp [rps_nil]
  | d :: ds, _, _, _, 0, h, r => by
    rw [rps_cons] at h
    obtain ⟨y, t, rfl, h1, h2⟩ := h
    rw [List.set_cons_zero, List.set_cons_zero, rps_cons]
    exact ⟨_, _, rfl, r, h2⟩
  | d :: ds, _, _, _, j + 1, h, r => by
    rw [rps_cons] at h
    obtain ⟨y, t, rfl, h1, h2⟩ := h
    rw [List.set_cons_succ, List.set_cons_succ, rps_cons]
    exact ⟨_, _, rfl, h1, Rps.set j h2 r⟩
theorem Rps.dropLast {ds : List D} {xs : List V} (h : Rps K H B ds xs) : Rps K H B ds.dropLast xs.dropLast := by
  rw [List.dropLast_eq_take, List.dropLast_eq_take, h.length]
  exact h.take _
structure EnvV (K : PySem.W.Frag) (H₀ : Hp) (B₀ : BS) (H : Hp) (σ : St) (δ : Ds) (d : D) (v : V) : Prop where
  same : Same H₀ H
  ex : ∃ B : BS, (∀ a, B₀ a → B a) ∧ (∀ a, B a → B₀ a ∨ H₀ a = none) ∧ Env K H B σ δ ∧ Rp K H B d v
  fr : ∀ (i : Nat) (ds : D) (a : Addr), δ[i]? = some (.ow ds) → σ[i]? = some (some (.ref a)) → H₀ a = none
  b0 : ∀ a, B₀ a → H₀ a ≠ none
theorem EnvV.s {H₀ : Hp} {B₀ : BS} {d : D} {v : V} (h : EnvV K H₀ B₀ H σ δ d v) : EnvS K H₀ B₀ H σ δ := ⟨h.same, let ⟨B, b1, b2, e, _⟩ := h.ex; ⟨B, b1, b2, e⟩, h.fr, h.b0⟩
theorem EnvV.mk' {H₀ : Hp} {B₀ : BS} {d : D} {v : V} (h : EnvS K H₀ B₀ H σ δ) (b1 : ∀ a, B₀ a → B a) (b2 : ∀ a, B a → B₀ a ∨ H₀ a = none) (e : Env K H B σ δ) (r : Rp K H B d v) : EnvV K H₀ B₀ H σ δ d v := ⟨h.same, ⟨B, b1, b2, e, r⟩, h.fr, h.b0⟩
end
def tX (K : PySem.W.Frag) (H₀ : Hp) (B₀ : BS) (δ : Ds) (gx : GX) : TE := fun σ H Q => ∃ r, EnvS K H₀ B₀ H σ δ ∧ gx δ = some r ∧ ∀ v H', EnvV K H₀ B₀ H' σ r.2 r.1 v → Q v H'
structure PX (X : Cx) (e : Expr) (gx : GX) : Prop where
  mk :: go : ∀ H₀ B₀ δ, PE X e (tX X.K H₀ B₀ δ gx)
instance {X : Cx} {e : Expr} {gx : GX} : CoeFun (PX X e gx) (fun _ => ∀ H₀ B₀ δ, PE X e (tX X.K H₀ B₀ δ gx)) := ⟨PX.go⟩
def tTG (K : PySem.W.Frag) (H₀ : Hp) (B₀ : BS) (ft : D → Ds → Option Ds) (d : D) (δ : Ds) : TG := fun v σ H Q => ∃ δ', EnvV K H₀ B₀ H σ δ d v ∧ ft d δ = some δ' ∧ ∀ σ' H', EnvS K H₀ B₀ H' σ' δ' → Q σ' H'
structure PTG (X : Cx) (tg : Expr) (ft : D → Ds → Option Ds) : Prop where
  mk :: go : ∀ H₀ B₀ d δ, PG X tg (tTG X.K H₀ B₀ ft d δ)
instance {X : Cx} {tg : Expr} {ft : D → Ds → Option Ds} : CoeFun (PTG X tg ft) (fun _ => ∀ H₀ B₀ d δ, PG X tg (tTG X.K H₀ B₀ ft d δ)) := ⟨PTG.go⟩
section
variable {X : Cx} {e tg : Expr} {st : Stmt} {pos apos cpos px : Pos} {g : GE} {gt : GB} {G : GS} {x : Str}
theorem px_pure (h : PD X e g) : PX X e (pureX g) := .mk fun H₀ B₀ δ pins s σ H Q I ⟨r, en, e1, k⟩ => by
  unfold pureX at e1
  obtain ⟨B, b1, b2, env⟩ := en.ex
  cases e2 : g δ with
  | none => rw [e2] at e1; cases e1
  | some d =>
    rw [e2] at e1
    cases e1
    exact h B δ pins s σ H Q I ⟨d, env, e2, fun v H' s' r => k v H' (EnvV.mk' (en.grow s') b1 b2 (env.same s') r)⟩
theorem owL_eq {i : Nat} {δ : Ds} {ds : List D} (h : owL i δ = some ds) : δ[i]? = some (.ow (.lst ds)) := by
  unfold owL at h
  split at h
  · cases h; assumption
  · cases h
theorem px_app (i : Nat) (h : PD X e g) (hN : X.N[i]? = some x := by rfl) (hv : Vis X.env.scope x := by first | exact Or.inl rfl | exact Or.inr (Or.inl rfl) | exact Or.inr (Or.inr rfl)) (hd : (x == ("__debug__" : Str)) = false := by decide) (hcd : (x == ("__classdict__" : Str)) = false := by decide)
    (hbase : attributeBase (.Name x px) "append" X.env (eval (.Name x px) X.env) = eval (.Name x px) X.env := by rfl)
    (hfew : ((backTo cpos (starEach [e] X.env)).all (fun x => !x.1) && (backToKw cpos (keywordEach [] X.env)).all (fun x => x.1.isSome)
      && decide (([e] : List Expr).length + ([] : List Keyword).length + (if ([] : List Keyword).isEmpty then 0 else 1) < 30)) = true := by rfl)
    (hline : (apos.endLine == cpos.line) = true := by rfl) (hs : starEach [e] X.env = (false, eval e X.env) :: starEach [] X.env := by rfl) (hplain : (backTo cpos (starEach [] X.env)).any (·.1) = false := by rfl) :
    PX X (.Call (.Attribute (.Name x px) "append" apos) [e] [] cpos) (appX i g) := .mk fun H₀ B₀ δ pins s σ H Q I ⟨r, en, e1, k⟩ => by
  unfold appX at e1
  obtain ⟨B, b1, b2, env⟩ := en.ex
  cases e2 : owL i δ with
  | none => rw [e2] at e1; cases e1
  | some ds =>
    cases e3 : g δ with
    | none => rw [e2, e3] at e1; cases e1
    | some d =>
      rw [e2, e3] at e1
      simp only [Option.bind_some] at e1
      split at e1
      · rename_i hz
        cases e1
        have hi := owL_eq e2
        obtain ⟨a, hs', hb, xs, hx, rx⟩ := env.at hi
        refine pe_bm PySem.F.plainAttrs_list PySem.F.slot_list_append PySem.F.type_list_append mt_append (pe_var (i := i) hN hv hd hcd) (pa_cons (h B δ) pa_nil hs) hbase hfew hline hs hplain pins s σ H Q I
          ⟨_, hs', .inl ⟨rfl, xs, .inl (.inl hx)⟩, d, env, e3, fun v H1 s1 r1 => ⟨a, xs, v, rfl, rfl, s1 _ _ hx, by rw [rx.length]; exact hz, ?_⟩⟩
        have env2 : Env X.K (upd H1 a (.lst (xs ++ [v]))) B σ (δ.set i (.ow (.lst (ds ++ [d])))) := (env.same s1).mut hi hs' ⟨_, upd_same, (Rps.snoc (rx.same s1) r1).mono (Gr.own hb)⟩
        exact k _ _ (EnvV.mk' (en.mut s1 b1 b2 hi hs' env2) b1 b2 env2 (by rw [rp_non]))
      · cases e1
theorem px_ext (i : Nat) (h : PD X e g) (hN : X.N[i]? = some x := by rfl) (hv : Vis X.env.scope x := by first | exact Or.inl rfl | exact Or.inr (Or.inl rfl) | exact Or.inr (Or.inr rfl)) (hd : (x == ("__debug__" : Str)) = false := by decide) (hcd : (x == ("__classdict__" : Str)) = false := by decide)
    (hbase : attributeBase (.Name x px) "extend" X.env (eval (.Name x px) X.env) = eval (.Name x px) X.env := by rfl)
    (hfew : ((backTo cpos (starEach [e] X.env)).all (fun x => !x.1) && (backToKw cpos (keywordEach [] X.env)).all (fun x => x.1.isSome)
      && decide (([e] : List Expr).length + ([] : List Keyword).length + (if ([] : List Keyword).isEmpty then 0 else 1) < 30)) = true := by rfl)
    (hline : (apos.endLine == cpos.line) = true := by rfl) (hs : starEach [e] X.env = (false, eval e X.env) :: starEach [] X.env := by rfl) (hplain : (backTo cpos (starEach [] X.env)).any (·.1) = false := by rfl) :
    PX X (.Call (.Attribute (.Name x px) "extend" apos) [e] [] cpos) (extX i g) := .mk fun H₀ B₀ δ pins s σ H Q I ⟨r, en, e1, k⟩ => by
  unfold extX at e1
  obtain ⟨B, b1, b2, env⟩ := en.ex
  cases e2 : owL i δ with
  | none => rw [e2] at e1; cases e1
  | some ds =>
    cases e3 : g δ with
    | none => rw [e2, e3] at e1; cases e1
    | some d =>
      rw [e2, e3] at e1
      simp only [Option.bind_some] at e1
      cases d <;> try cases e1
      rename_i es
      dsimp only at e1
      split at e1
      · rename_i hz
        cases e1
        have hi := owL_eq e2
        obtain ⟨a, hs', hb, xs, hx, rx⟩ := env.at hi
        refine pe_bm PySem.F.plainAttrs_list PySem.F.slot_list_extend PySem.F.type_list_extend mt_extendL (pe_var (i := i) hN hv hd hcd) (pa_cons (h B δ) pa_nil hs) hbase hfew hline hs hplain pins s σ H Q I
          ⟨_, hs', .inl ⟨rfl, xs, .inl (.inl hx)⟩, _, env, e3, fun v H1 s1 r1 => ?_⟩
        rw [rp_lst] at r1
        obtain ⟨b, zs, rfl, hq, rz⟩ := r1
        refine ⟨a, b, xs, zs, rfl, rfl, s1 _ _ hx, hq.to, by rw [rx.length, rz.length]; exact hz, ?_⟩
        have env2 : Env X.K (upd H1 a (.lst (xs ++ zs))) B σ (δ.set i (.ow (.lst (ds ++ es)))) := (env.same s1).mut hi hs' ⟨_, upd_same, (Rps.append (rx.same s1) rz).mono (Gr.own hb)⟩
        exact k _ _ (EnvV.mk' (en.mut s1 b1 b2 hi hs' env2) b1 b2 env2 (by rw [rp_non]))
      · cases e1
/-! ### targets -/
theorem ptg_set (i : Nat) (h : PD X e g) (hN : X.N[i]? = some x := by rfl) (hv : Vis X.env.scope x := by first | exact Or.inl rfl | exact Or.inr (Or.inl rfl) | exact Or.inr (Or.inr rfl)) (hd : (x == ("__debug__" : Str)) = false := by decide) (hcd : (x == ("__classdict__" : Str)) = false := by decide)
    (ha : ∀ v, assign (.Subscript (.Name x px) e pos) X.env v = (do
      let ov ← holding [v] (eval (.Name x px) X.env)
      let iv ← holding [v, ov] (eval e X.env)
      standAt pos
      holding [v, ov, iv] (setItem ov iv v)
      release [v, ov, iv] []) := by intro _; rfl) : PTG X (.Subscript (.Name x px) e pos) (setAt i g) := .mk fun H₀ B₀ d δ pins s σ H v u Q I r ⟨δ', en, e1, k⟩ => by
  unfold setAt at e1
  obtain ⟨B, b1, b2, env, rv⟩ := en.ex
  cases e2 : owL i δ with
  | none => rw [e2] at e1; cases e1
  | some ds =>
    cases e3 : g δ with
    | none => rw [e2, e3] at e1; cases e1
    | some dk =>
      rw [e2, e3] at e1
      simp only [Option.bind_some] at e1
      cases dk <;> try cases e1
      rename_i kk
      dsimp only at e1
      cases e4 : ixN ds.length kk with
      | none => rw [e4] at e1; cases e1
      | some j =>
        rw [e4] at e1
        cases e1
        have hi := owL_eq e2
        obtain ⟨a, hs', hb, xs, hx, rx⟩ := env.at hi
        refine pg_sub (pe_var (i := i) hN hv hd hcd) (h B δ) set_list ha pins s σ H v u Q I r ⟨_, hs', _, env, e3, fun iv H1 s1 r1 => ?_⟩
        rw [rp_int] at r1
        subst r1
        refine ⟨a, xs, kk, j, rfl, rfl, s1 _ _ hx, by rw [rx.length]; exact e4, ?_⟩
        have env2 : Env X.K (upd H1 a (.lst (xs.set j v))) B σ (δ.set i (.ow (.lst (ds.set j d)))) := (env.same s1).mut hi hs' ⟨_, upd_same, (Rps.set j (rx.same s1) (rv.same s1)).mono (Gr.own hb)⟩
        exact k _ _ (en.s.mut s1 b1 b2 hi hs' env2)
      
/-! ### statements -/
theorem psd_asgX {gx : GX} {ft : D → Ds → Option Ds} (h : PX X e gx) (hg : PTG X tg ft) (hs : swapsWithSole [tg] e pos.line X.env = pure false := by rfl) (hw : swappedStores [tg] e X.env = pure none := by rfl)
    (h1 : (assignEach [tg] X.env).map (·.2) = [assign tg X.env] := by rfl) : PSD X (.Assign [tg] e pos) (asgX gx ft) := .mk fun H₀ B₀ δ pins s σ H D I ⟨r, en, e1, k⟩ => by
  unfold asgX at e1
  cases e2 : gx δ with
  | none => rw [e2] at e1; cases e1
  | some q =>
    rw [e2] at e1
    simp only [Option.bind_some] at e1
    cases e3 : ft q.1 q.2 with
    | none => rw [e3] at e1; cases e1
    | some δ' =>
      rw [e3] at e1
      cases e1
      exact ps_asg (h H₀ B₀ δ) (hg H₀ B₀ q.1 q.2) hs hw h1 pins s σ H D I ⟨q, en, e2, fun v H' en' => ⟨δ', en', e3, fun σ' H'' en'' => k σ' H'' en''⟩⟩
theorem psd_exprX {gx : GX} (h : PX X e gx) (hs : swapsWith e none pos.line X.env = pure false := by rfl) : PSD X (.Expr e pos) (exprX gx) := .mk fun H₀ B₀ δ pins s σ H D I ⟨r, en, e1, k⟩ => by
  unfold exprX at e1
  cases e2 : gx δ with
  | none => rw [e2] at e1; cases e1
  | some q =>
    rw [e2] at e1
    cases e1
    exact ps_expr (h H₀ B₀ δ) hs pins s σ H D I ⟨q, en, e2, fun v H' en' => k σ H' en'.s⟩
/-- for (a, b) in .., (a, b) = .. -/
theorem pgd_tup2 (i j : Nat) {y : Str} {p2 p3 : Pos} {kk} (hN : X.N.Nodup) (hij : i ≠ j) (hc : X.calm = true := by rfl) (hi : X.N[i]? = some x := by rfl) (hj : X.N[j]? = some y := by rfl)
    (hx : Loc X.env.scope x := by first | exact Or.inl rfl | exact Or.inr rfl) (hy : Loc X.env.scope y := by first | exact Or.inl rfl | exact Or.inr rfl)
    (hf : X.fn x = true ∨ X.env.scope.names.lookup x = some .local := by first | exact .inl rfl | exact .inr rfl | assumption) (hf2 : X.fn y = true ∨ X.env.scope.names.lookup y = some .local := by first | exact .inl rfl | exact .inr rfl | assumption)
    (hs1 : (assignEach [.Name x p2, .Name y p3] X.env).map (·.2) = assign (.Name x p2) X.env :: (assignEach [.Name y p3] X.env).map (·.2) := by rfl) (hs2 : (assignEach [.Name y p3] X.env).map (·.2) = assign (.Name y p3) X.env :: (assignEach [] X.env).map (·.2) := by rfl)
    (hn : (assignEach [.Name x p2, .Name y p3] X.env).length = 2 := by rfl) (hst : (assignEach [.Name x p2, .Name y p3] X.env).findIdx? (·.1) = none := by rfl) :
    PGD X (.Tuple [.Name x p2, .Name y p3] kk pos) [i, j] (tup2 i j) := .mk fun B d δ => (pg_tup hc (pgs_cons (pg_name (i := i) hN hi hx hf) (pgs_cons (pg_name (i := j) hN hj hy hf2) pgs_nil hs2) hs1) hn hst).imp fun v σ H Q ⟨δ', r, en, e1, k⟩ => by
  unfold tup2 at e1
  split at e1
  · rename_i da db
    cases e1
    rw [rp_tup] at r
    obtain ⟨p, xs, rfl, hq, rs⟩ := r
    rw [rps_cons] at rs
    obtain ⟨va, t1, rfl, ra, rs⟩ := rs
    rw [rps_cons] at rs
    obtain ⟨vb, t2, rfl, rb, rs⟩ := rs
    rw [rps_nil] at rs
    subst rs
    refine ⟨p, _, rfl, hq.to, rfl, va, [vb], rfl, vb, [], rfl, rfl, k _ ?_ ((en.set i ra).set j rb)⟩
    refine ⟨by simp, fun q hq => ?_, fun q hq ds h => ?_⟩
    · have h1 : q ≠ i := fun z => hq (by rw [z]; exact List.mem_cons_self)
      have h2 : q ≠ j := fun z => hq (by rw [z]; exact List.mem_cons_of_mem _ List.mem_cons_self)
      rw [List.getElem?_set_ne (Ne.symm h2), List.getElem?_set_ne (Ne.symm h1), List.getElem?_set_ne (Ne.symm h2), List.getElem?_set_ne (Ne.symm h1)]
      exact ⟨rfl, rfl⟩
    · rcases get_set h with ⟨rfl, e3, _⟩ | ⟨n1, e3⟩
      · cases e3
      · rcases get_set e3 with ⟨rfl, e4, _⟩ | ⟨n2, e4⟩
        · cases e4
        · simp at hq
          rcases hq with z | z
          · exact n2 z.symm
          · exact n1 z.symm
  · cases e1
end
end DL
namespace HT
open PySem PyProof.Rows
section
variable {prog : Program} {w : World} {A : Around} {E : Value → Shared → Prop} {s : Shared}
/-- the whole of a tuple, sliced, is itself -/
theorem getItem_tuple_whole {t sl : Addr} {items : Array Value} {vl vu : Value} {lo hi : Option Int} {Q : Value → Shared → Prop} (ht : IsTup s.heap t items) (hs : s.heap.IsSliceOf sl vl vu .none) (pl : IsPart vl lo) (pu : IsPart vu hi)
    (hw : sIx items.size 0 lo = 0 ∧ sIx items.size items.size hi = items.size) (h : Q (.ref t) s) : wpAny (model prog w) A (getItem (.ref t) (.ref sl)) Q E s := by
  obtain ⟨os, hos, hcs, hds⟩ := id hs
  have hTs : s.TypeIs (.ref sl) "slice" := ⟨os, hos, hcs⟩
  unfold getItem
  try with_reducible refine wpAny_holding ?_
  first | refine wpAny_bind (wpAny_pure ?_) | skip
  refine wpAny_bind (wpAny_sequenceKey ht.typeIs (by decide) ?_)
  refine wpAny_bind (wpAny_callSpecial?_slot (name := Str.ofString "__getitem__") ht.typeIs PyProof.Rows.slot_tuple_getitem
    (wpAny_call_entry PyProof.Rows.slot_tuple_getitem ht.typeIs entry_tuple_getitem ?_ (args_tuple_getitem _ _)))
  show wpAny _ _ (Builtin.Tuple.tupleItemsOf (.ref t) >>= _) _ _ s
  refine wpAny_bind (tupleItemsOf_ ht ?_)
  refine wpAny_bind (wpAny_typeOf hTs ?_)
  rw [if_pos (by decide)]
  refine wpAny_bind (sliceApplied_gen hs pl pu ?_)
  have hyes : (((sIx items.size 0 lo : Nat) : Int) == 0 && (1 : Int) == 1 && (sIx items.size items.size hi - sIx items.size 0 lo) == items.size) = true := by
    rw [hw.1, hw.2]
    simp
  show wpAny _ _ (if (((sIx items.size 0 lo : Nat) : Int) == 0 && (1 : Int) == 1 && (sIx items.size items.size hi - sIx items.size 0 lo) == items.size) = true then _ else _) _ _ s
  rw [if_pos hyes]
  unfold Builtin.Tuple.tupleIsExact
  refine wpAny_bind (wpAny_bind (wpAny_typeOf ht.typeIs (wpAny_pure ?_)))
  rw [if_pos (by decide)]
  exact wpAny_bind (wpAny_rule (wpAny_pure ⟨_, rfl, wpAny_pure h⟩))
end
end HT
namespace L2
open PySem PySem.Spec PyProof.Rows
section
variable {X : Cx}
def rSlTW (K : PySem.W.Frag) : V → Option Int → Option Int → Hp → VK → Prop := fun x lo hi H Q => ∃ a xs, x = .ref a ∧ SqT K H a xs ∧ (HT.sIx xs.length 0 lo = 0 ∧ HT.sIx xs.length xs.length hi = xs.length) ∧ Q (.ref a) H
theorem sl_tupW : SlR X (rSlTW X.K) := by
  intro pins s σ H x v vl vu lo hi sl Q I rx hs pl pu h
  obtain ⟨a, xs, rfl, hx, hw, q⟩ := h
  cases rx
  obtain ⟨its, r, ht, hz⟩ := I.tuple hx
  have hlen : its.toArray.size = xs.length := by rw [List.size_toArray]; exact r.length.symm
  exact ⟨"tuple", _, PyProof.Rows.slot_tuple_getitem.lookup, ht.typeIs, HT.getItem_tuple_whole ht hs pl pu (by rw [hlen]; exact hw) ⟨.ref a, H, I, rfl, q⟩⟩
/-- () + t is t -/
def rCatT0 (K : PySem.W.Frag) : R2 := fun x y H Q => ∃ a b ys, x = .ref a ∧ y = .ref b ∧ SqT K H a [] ∧ SqT K H b ys ∧ Q (.ref b) H
theorem op_catT0 : OpR X (binaryOp .Add) (rCatT0 X.K) := by
  intro pins s σ H x y v u Q I rx ry h
  obtain ⟨a, b, ys, rfl, rfl, ha, hb, q⟩ := h
  cases rx
  cases ry
  obtain ⟨its, r1, p1, _⟩ := I.tuple ha
  obtain ⟨its2, r2, p2, _⟩ := I.tuple hb
  have e : its = [] := r1.zero
  subst e
  obtain ⟨⟨cls, dd, data, sl⟩, ho, hc, n, hd⟩ := id p1
  obtain ⟨⟨cls2, dd2, data2, sl2⟩, ho2, hc2, n2, hd2⟩ := id p2
  simp only at hc hd hc2 hd2
  subst hc hd hc2 hd2
  exact concat_meets ⟨_, ho, rfl⟩ ⟨_, ho2, rfl⟩ noFill_tuple_add seq_tuple_add PySem.F.slot_tuple_add PySem.F.entry_tuple_add (PySem.F.args_tuple_add_2 _ _)
    (tuple_addW0 a b _ its2.toArray n n2 dd dd2 sl sl2 rfl) ⟨ho, ho2, ⟨.ref b, H, I, rfl, q⟩⟩
/-- a text times an int -/
def repS (x : Str) (n : Int) : Str := ⟨(List.replicate n.toNat x.cps).foldl (· ++ ·) #[]⟩
def rMulS : R2 := fun x y H Q => ∃ z n, x = .str z ∧ y = .int n ∧ -(2 ^ 62) ≤ n ∧ n < 2 ^ 62 ∧ z.length * n.toNat ≤ sizeLine ∧ Q (.str (repS z n)) H
theorem op_mulS : OpR X (binaryOp .Mult) rMulS := by
  intro pins s σ H x y v u Q I rx ry h
  obtain ⟨z, n, rfl, rfl, h1, h2, hz, q⟩ := h
  obtain ⟨t, rfl⟩ := rx
  obtain ⟨t', rfl⟩ := ry
  have fin : ∀ t'' k, EP X pins σ Q (.str (repS z n) t'') { s with toks := k } := fun t'' k => ⟨.str _, H, I.tok k, ⟨t'', rfl⟩, q⟩
  have hsl : (sizeLine : Nat) < 2 ^ 40 := by decide
  have hdiv : ¬ n < 1 → ¬ ((z.length : Int) > (2 ^ 63 - 1) / n) := by
    intro hn
    have hn' : 0 < n := by omega
    have : (z.length : Int) * n ≤ 2 ^ 63 - 1 := by
      have e : n = (n.toNat : Int) := by omega
      rw [e]
      have : ((z.length * n.toNat : Nat) : Int) ≤ 2 ^ 40 := by exact_mod_cast (by omega : z.length * n.toNat ≤ 2 ^ 40)
      rw [Int.natCast_mul] at this
      omega
    exact Int.not_lt.mpr ((Int.le_ediv_iff_mul_le hn').mpr this)
  refine PySem.P.mul_str (by rw [decide_eq_false (by omega), decide_eq_false (by omega)]; rfl) (fun hn _ => hdiv hn) (fun _ _ => ?_) ?_
  · show decide (z.length * n.toNat > sizeLine) = false
    exact decide_eq_false (by omega)
  · by_cases hn : n < 1
    · rw [if_pos hn]
      have e : repS z n = Str.empty := by
        unfold repS
        rw [show n.toNat = 0 by omega]
        rfl
      refine ⟨by decide, ?_⟩
      rw [← e]
      exact fin _ _
    · rw [if_neg hn]
      by_cases h3 : (n == 1 || z.length == 0) = true
      · rw [if_pos h3]
        have e : repS z n = z := by
          rw [Bool.or_eq_true] at h3
          rcases h3 with h3 | h3
          · have : n = 1 := eq_of_beq h3
            subst this
            unfold repS
            show (⟨#[] ++ z.cps⟩ : Str) = z
            rw [Array.empty_append]
          · have h3 : z.length = 0 := eq_of_beq h3
            have hz0 : z.cps = #[] := Array.eq_empty_of_size_eq_zero h3
            have : ∀ k : Nat, (List.replicate k (#[] : Array Nat)).foldl (· ++ ·) #[] = #[] := by
              intro k
              induction k with
              | zero => rfl
              | succ k ih => rw [List.replicate_succ, List.foldl_cons]; exact ih
            unfold repS
            rw [hz0, this]
            cases z
            simp at hz0
            rw [hz0]
        have := fin t s.toks
        rw [e] at this
        exact this
      · rw [if_neg h3]
        have hl2 : ∀ (k : Nat) (acc : Array Nat), ((List.replicate k z.cps).foldl (· ++ ·) acc).size = acc.size + k * z.cps.size := by
          intro k
          induction k with
          | zero => intro acc; simp
          | succ k ih => intro acc; rw [List.replicate_succ, List.foldl_cons, ih, Array.size_append, Nat.succ_mul]; omega
        refine ⟨?_, fin _ _⟩
        show ((List.replicate n.toNat z.cps).foldl (· ++ ·) #[]).size ≤ _
        rw [hl2]
        have : z.length = z.cps.size := rfl
        rw [this, Nat.mul_comm] at hz
        simpa using hz
/-- a tuple times an int -/
theorem noFill_tup_mul : fillsNumberSlot (.type "tuple") "mul" = pure false :=
  PySem.fillsNumberSlot_seq (id := "tuple.__mul__") (r := some (.builtin "tuple.__rmul__")) PySem.F.slot_tuple_mul.lookup (by decide +kernel) PySem.F.slot_tuple_rmul.lookup (by decide +kernel)
theorem repeat_tup : seqRepeat? (.type "tuple") = pure (some (.builtin "tuple.__mul__")) := by
  unfold seqRepeat?
  rw [PySem.seqSlot_of (T := "tuple") (name := "__mul__") (id := "tuple.__mul__") PySem.F.slot_tuple_mul.lookup (by decide +kernel), PySem.seqSlot_of (T := "tuple") (name := "__rmul__") (id := "tuple.__rmul__") PySem.F.slot_tuple_rmul.lookup (by decide +kernel)]
  rfl
theorem rmul_int_tup (a : Int) (t : Tok) (l : Addr) (items : Array Value) (n : Nat) (dd : Option Addr) (sl : Array (Option Value)) :
    Meets (Builtin.«int.__rmul__» ⟨[.int a t, .ref l], []⟩) (fun _ R s => s.heap.get? l = some { cls := .type "tuple", dict := dd, data := .seq items n, slots := sl } ∧ R (.ok (.ret Value.notImplemented)) s) :=
  .of_wp fun prog w A R s h => by
    obtain ⟨hp, g, d, tk, os⟩ := s
    obtain ⟨hl, h⟩ := h
    wp_walk
    exact ⟨_, rfl, h⟩
theorem tup_mulW (l : Addr) (items : Array Value) (n : Nat) (dd : Option Addr) (sl : Array (Option Value)) (k : Int) (t : Tok) (h2 : 2 ≤ k) (h3 : k < 2 ^ 62) (he : items.isEmpty = false) (hsz : items.size * k.toNat ≤ sizeLine) :
    Meets (Builtin.«tuple.__mul__» ⟨[.ref l, .int k t], []⟩) (fun _ R s => s.heap.get? l = some { cls := .type "tuple", dict := dd, data := .seq items n, slots := sl } ∧ R (.ok (.ret (Value.ref s.heap.objs.size))) { s with heap := s.heap.push { cls := .type "tuple", data := .seq ((List.replicate k.toNat items).foldl (· ++ ·) #[]) } }) :=
  .of_wp fun prog w A R s h => by
    obtain ⟨hp, g, d, tk, os⟩ := s
    obtain ⟨hl, h⟩ := h
    have f1 := AutoSeq1.idx_int
    have c1 : ¬ ((decide (k < -(2 ^ 63 : Int)) || decide (k ≥ 2 ^ 63)) = true) := by
      rw [decide_eq_false (by omega), decide_eq_false (by omega)]; exact Bool.false_ne_true
    have c2 : ¬ ((items.isEmpty || k == 1) = true) := by
      rw [he, beq_eq_false_iff_ne.mpr (by omega)]; exact Bool.false_ne_true
    have c3 : ¬ ((decide (k ≤ 0) || items.isEmpty) = true) := by
      rw [he, decide_eq_false (by omega)]; exact Bool.false_ne_true
    have hk : ((items.size : Int) * k) = ((items.size * k.toNat : Nat) : Int) := by
      rw [Int.natCast_mul]; congr 1; omega
    have hb : (sizeLine : Nat) < 2 ^ 40 := by decide
    have c4 : ¬ ((items.size : Int) * k > (2 ^ 63 - 1) / 8) := by
      rw [hk]; omega
    have c5 : ¬ (Builtin.Tuple.tupleTooMany ((items.size : Int) * k) = true) := by
      rw [hk]
      unfold Builtin.Tuple.tupleTooMany
      simp only [decide_eq_true_eq]
      omega
    have hsz2 : ∀ (m : Nat) (acc : Array Value), ((List.replicate m items).foldl (· ++ ·) acc).size = acc.size + m * items.size := by
      intro m
      induction m with
      | zero => intro acc; simp
      | succ m ih => intro acc; rw [List.replicate_succ, List.foldl_cons, ih, Array.size_append, Nat.succ_mul]; omega
    have htake : sizeOk (.seq ((List.replicate k.toNat items).foldl (· ++ ·) #[])) := by
      show ((List.replicate k.toNat items).foldl (· ++ ·) #[]).size ≤ sizeLine
      rw [hsz2, Nat.mul_comm]
      simpa using hsz
    wp_walk
    rw [if_neg c1]
    show wpAny _ _ (Builtin.Tuple.tupleItemsOf (.ref l) >>= _) _ _ _
    refine wpAny_bind (tupleItemsOf_ ⟨_, hl, rfl, n, rfl⟩ ?_)
    dsimp only
    rw [if_neg c2, if_neg c3]
    rw [if_neg c4, if_neg c5]
    exact wpAny_bind (m := Builtin.Tuple.tupleExact _) (wpAny_newObj_type (wpAny_pure ⟨_, rfl, h⟩) htake)
def rMulT (K : PySem.W.Frag) : R2 := fun x y H Q => ∃ a xs k, x = .ref a ∧ y = .int k ∧ SqT K H a xs ∧ xs ≠ [] ∧ 2 ≤ k ∧ k < 2 ^ 62 ∧ xs.length * k.toNat ≤ sizeLine ∧ ∀ p, H p = none → Q (.ref p) (upd H p (.tup (List.replicate k.toNat xs).flatten))
theorem op_mulT : OpR X (binaryOp .Mult) (rMulT X.K) := by
  intro pins s σ H x y v u Q I rx ry h
  obtain ⟨a, xs, k, rfl, rfl, ha, hx, h2, h3, hz, q⟩ := h
  cases rx
  obtain ⟨t, rfl⟩ := ry
  obtain ⟨its, r1, p1, _⟩ := I.tuple ha
  obtain ⟨⟨cls, dd, data, sl⟩, ho, hc, n, hd⟩ := id p1
  simp only at hc hd
  subst hc hd
  have hl := r1.length
  have he : its.toArray.isEmpty = false := by
    cases its with
    | nil => exact absurd (r1.nil_iff.mp rfl) hx
    | cons a b => rfl
  have hlen : its.toArray.size * k.toNat ≤ sizeLine := by rw [List.size_toArray, ← hl]; exact hz
  have hnew : (List.replicate k.toNat its.toArray).foldl (· ++ ·) #[] = (List.replicate k.toNat its).flatten.toArray := by
    have := foldl_rep its k.toNat []
    rw [List.nil_append] at this
    exact this
  refine wpAny_binaryOp_repeat_ref (T := "tuple") (U := "int") (by decide) ⟨_, ho, rfl⟩ (fun s' => typeIs_int s' k t) noFill_tup_mul F.fills_int_mul F.slot_int_rmul repeat_tup F.slot_int_index.lookup
    (call_meets F.slot_int_rmul (typeIs_int s k t) F.entry_int_rmul (F.args_int_rmul_2 _ _) (rmul_int_tup k t a its.toArray n dd sl)
      ⟨ho, rfl, ⟨_, ho, rfl⟩, call_meets F.slot_tuple_mul ⟨_, ho, rfl⟩ F.entry_tuple_mul (F.args_tuple_mul_2 _ _) (tup_mulW a its.toArray n dd sl k t h2 h3 he hlen) ⟨ho, ?_⟩⟩)
  rw [hnew]
  refine ⟨.ref s.heap.objs.size, _, I.laid (t' := s.toks) (o := .tup (List.replicate k.toNat xs).flatten) (fun b ob q => Heap.get?_push_of_some _ q) (Nat.le_refl _) ?_, rfl, q _ (I.hok.fresh (Nat.le_refl _))⟩
  exact ⟨by rw [len_rep, Nat.mul_comm]; exact hz, _, r1.rep k.toNat, IsTup.new _ _⟩
end
end L2
namespace DL
open PySem PySem.Spec PyProof.Rows L2
/-! ### equality of data -/
mutual
theorem deq_refl : ∀ (d : D) (n : Nat), lean d n = true → deq d d = true
  | .non, _, _ => by unfold deq; rfl
  | .bl b, _, _ => by unfold deq; simp
  | .int b, _, _ => by unfold deq; simp
  | .str b, _, _ => by unfold deq; simp
  | .tup ds, 0, h => by unfold lean at h; cases h
  | .tup ds, n + 1, h => by unfold lean at h; unfold deq; exact deqs_refl ds n h
  | .lst ds, 0, h => by unfold lean at h; cases h
  | .lst ds, n + 1, h => by unfold lean at h; unfold deq; exact deqs_refl ds n h
  | .dct _ _, n, h => by unfold lean at h; cases h
theorem deqs_refl : ∀ (ds : List D) (n : Nat), leans ds n = true → deqs ds ds = true
  | [], _, _ => by unfold deqs; rfl
  | d :: ds, n, h => by
    unfold leans at h
    rw [Bool.and_eq_true] at h
    unfold deqs
    rw [deq_refl d n h.1, deqs_refl ds n h.2]
    rfl
end
theorem deqs_range : ∀ ds es : List D, deqs ds es = ((List.range (min ds.length es.length)).all (fun j => deq (ds.getD j .non) (es.getD j .non)) && ds.length == es.length)
  | [], [] => by unfold deqs; simp
  | [], _ :: _ => by unfold deqs; simp
  | _ :: _, [] => by unfold deqs; simp
  | d :: ds, e :: es => by
    unfold deqs
    rw [deqs_range ds es]
    have h1 : min (d :: ds).length (e :: es).length = min ds.length es.length + 1 := by simp only [List.length_cons]; omega
    rw [h1, List.range_succ_eq_map, List.all_cons, List.all_map]
    have h2 : ((d :: ds).length == (e :: es).length) = (ds.length == es.length) := by
      rw [Bool.eq_iff_iff]
      simp
    rw [h2, Bool.and_assoc]
    rfl
theorem leans_get : ∀ {ds : List D} {n j : Nat} {d : D}, leans ds n = true → ds[j]? = some d → lean d n = true
  | [], _, _, _, _, h => by simp at h
  | d :: ds, n, 0, _, h, e => by
    unfold leans at h
    rw [Bool.and_eq_true] at h
    simp at e; subst e; exact h.1
  | d :: ds, n, j + 1, _, h, e => by
    unfold leans at h
    rw [Bool.and_eq_true] at h
    exact leans_get (j := j) h.2 (by simpa using e)
section
variable {X : Cx} {pins : List (Addr × Obj)} {σ : St} {H : Hp} {s : Shared}
mutual
theorem Rp.inj (I : Inv X pins σ H s) {B B' : BS} : ∀ {d e : D} {n m : Nat} {v : V}, lean d n = true → lean e m = true → Rp X.K H B d v → Rp X.K H B' e v → d = e
  | .non, e, _, m, v, _, le, h, h' => by
    rw [rp_non] at h; subst h
    cases e with
    | non => rfl
    | bl b => rw [rp_bl] at h'; cases h'
    | int b => rw [rp_int] at h'; cases h'
    | str b => rw [rp_str] at h'; cases h'
    | tup b => rw [rp_tup] at h'; obtain ⟨_, _, z, _⟩ := h'; cases z
    | lst b => rw [rp_lst] at h'; obtain ⟨_, _, z, _⟩ := h'; cases z
    | dct a b => unfold lean at le; cases le
  | .bl c, e, _, m, v, _, le, h, h' => by
    rw [rp_bl] at h; subst h
    cases e with
    | non => rw [rp_non] at h'; cases h'
    | bl b => rw [rp_bl] at h'; cases h'; rfl
    | int b => rw [rp_int] at h'; cases h'
    | str b => rw [rp_str] at h'; cases h'
    | tup b => rw [rp_tup] at h'; obtain ⟨_, _, z, _⟩ := h'; cases z
    | lst b => rw [rp_lst] at h'; obtain ⟨_, _, z, _⟩ := h'; cases z
    | dct a b => unfold lean at le; cases le
  | .int c, e, _, m, v, _, le, h, h' => by
    rw [rp_int] at h; subst h
    cases e with
    | non => rw [rp_non] at h'; cases h'
    | bl b => rw [rp_bl] at h'; cases h'
    | int b => rw [rp_int] at h'; cases h'; rfl
    | str b => rw [rp_str] at h'; cases h'
    | tup b => rw [rp_tup] at h'; obtain ⟨_, _, z, _⟩ := h'; cases z
    | lst b => rw [rp_lst] at h'; obtain ⟨_, _, z, _⟩ := h'; cases z
    | dct a b => unfold lean at le; cases le
  | .str c, e, _, m, v, _, le, h, h' => by
    rw [rp_str] at h; subst h
    cases e with
    | non => rw [rp_non] at h'; cases h'
    | bl b => rw [rp_bl] at h'; cases h'
    | int b => rw [rp_int] at h'; cases h'
    | str b => rw [rp_str] at h'; cases h'; rfl
    | tup b => rw [rp_tup] at h'; obtain ⟨_, _, z, _⟩ := h'; cases z
    | lst b => rw [rp_lst] at h'; obtain ⟨_, _, z, _⟩ := h'; cases z
    | dct a b => unfold lean at le; cases le
  | .tup ds, e, 0, m, v, ld, _, _, _ => by unfold lean at ld; cases ld
  | .tup ds, e, n + 1, m, v, ld, le, h, h' => by
    rw [rp_tup] at h
    obtain ⟨a, xs, rfl, q, r⟩ := h
    unfold lean at ld
    cases e with
    | non => rw [rp_non] at h'; cases h'
    | bl b => rw [rp_bl] at h'; cases h'
    | int b => rw [rp_int] at h'; cases h'
    | str b => rw [rp_str] at h'; cases h'
    | tup es =>
      cases m with
      | zero => unfold lean at le; cases le
      | succ m =>
        unfold lean at le
        rw [rp_tup] at h'
        obtain ⟨a', ys, z, q', r'⟩ := h'
        cases z
        have := I.tuple_inj q.to q'.to
        subst this
        rw [Rps.inj I ld le r r']
    | lst es =>
      rw [rp_lst] at h'
      obtain ⟨a', ys, z, q', r'⟩ := h'
      cases z
      obtain ⟨_, _, ⟨o, e1, c1, _⟩, _⟩ := I.tuple q.to
      obtain ⟨_, _, p, _⟩ := I.list q'.to
      obtain ⟨o', e2, c2, _⟩ := p.isList
      rw [e1] at e2; cases e2
      rw [c1] at c2
      injection c2 with z
      exact absurd z (by decide)
    | dct a b => unfold lean at le; cases le
  | .lst ds, e, 0, m, v, ld, _, _, _ => by unfold lean at ld; cases ld
  | .lst ds, e, n + 1, m, v, ld, le, h, h' => by
    rw [rp_lst] at h
    obtain ⟨a, xs, rfl, q, r⟩ := h
    unfold lean at ld
    cases e with
    | non => rw [rp_non] at h'; cases h'
    | bl b => rw [rp_bl] at h'; cases h'
    | int b => rw [rp_int] at h'; cases h'
    | str b => rw [rp_str] at h'; cases h'
    | lst es =>
      cases m with
      | zero => unfold lean at le; cases le
      | succ m =>
        unfold lean at le
        rw [rp_lst] at h'
        obtain ⟨a', ys, z, q', r'⟩ := h'
        cases z
        have := I.list_inj q.to q'.to
        subst this
        rw [Rps.inj I ld le r r']
    | tup es =>
      rw [rp_tup] at h'
      obtain ⟨a', ys, z, q', r'⟩ := h'
      cases z
      obtain ⟨_, _, ⟨o, e1, c1, _⟩, _⟩ := I.tuple q'.to
      obtain ⟨_, _, p, _⟩ := I.list q.to
      obtain ⟨o', e2, c2, _⟩ := p.isList
      rw [e1] at e2; cases e2
      rw [c1] at c2
      injection c2 with z
      exact absurd z (by decide)
    | dct a b => unfold lean at le; cases le
  | .dct a b, e, n, m, v, ld, _, _, _ => by unfold lean at ld; cases ld
theorem Rps.inj (I : Inv X pins σ H s) {B B' : BS} : ∀ {ds es : List D} {n m : Nat} {xs : List V}, leans ds n = true → leans es m = true → Rps X.K H B ds xs → Rps X.K H B' es xs → ds = es
  | [], es, _, _, _, _, _, h, h' => by
    rw [rps_nil] at h; subst h
    have := h'.length
    cases es with
    | nil => rfl
    | cons a b => simp at this
  | d :: ds, es, n, m, _, ld, le, h, h' => by
    rw [rps_cons] at h
    obtain ⟨x, r, rfl, h1, h2⟩ := h
    cases es with
    | nil => rw [rps_nil] at h'; cases h'
    | cons e es =>
      rw [rps_cons] at h'
      obtain ⟨x', r', z, h1', h2'⟩ := h'
      cases z
      unfold leans at ld le
      rw [Bool.and_eq_true] at ld le
      rw [Rp.inj I ld.1 le.1 h1 h1', Rps.inj I ld.2 le.2 h2 h2']
end
/-- what stands behind data -/
theorem view (I : Inv X pins σ H s) {B : BS} {d : D} {n : Nat} {x : V} {u : Value} (l : lean d n = true) (h : Rp X.K H B d x) (r : RelV x u) :
    (d = .non ∧ u = .none) ∨ (∃ b, d = .bl b ∧ u = .bool b) ∨ (∃ i t, d = .int i ∧ u = .int i t) ∨ (∃ z t, d = .str z ∧ u = .str z t) ∨
    (∃ m ds a xs its, n = m + 1 ∧ leans ds m = true ∧ d = .tup ds ∧ x = .ref a ∧ u = .ref a ∧ Rps X.K H B ds xs ∧ Vals xs its ∧ s.heap.IsTuple a its.toArray) ∨
    (∃ m ds a xs its, n = m + 1 ∧ leans ds m = true ∧ d = .lst ds ∧ x = .ref a ∧ u = .ref a ∧ Rps X.K H B ds xs ∧ Vals xs its ∧ s.heap.IsList a its.toArray) := by
  cases d with
  | non => rw [rp_non] at h; subst h; exact .inl ⟨rfl, r⟩
  | bl b => rw [rp_bl] at h; subst h; exact .inr (.inl ⟨b, rfl, r⟩)
  | int i => rw [rp_int] at h; subst h; obtain ⟨t, e⟩ := r; exact .inr (.inr (.inl ⟨i, t, rfl, e⟩))
  | str z => rw [rp_str] at h; subst h; obtain ⟨t, e⟩ := r; exact .inr (.inr (.inr (.inl ⟨z, t, rfl, e⟩)))
  | tup ds =>
    cases n with
    | zero => unfold lean at l; cases l
    | succ m =>
      unfold lean at l
      rw [rp_tup] at h
      obtain ⟨a, xs, rfl, q, rr⟩ := h
      obtain ⟨its, rv, p, _⟩ := I.tuple q.to
      exact .inr (.inr (.inr (.inr (.inl ⟨m, ds, a, xs, its, rfl, l, rfl, rfl, r, rr, rv, p⟩))))
  | lst ds =>
    cases n with
    | zero => unfold lean at l; cases l
    | succ m =>
      unfold lean at l
      rw [rp_lst] at h
      obtain ⟨a, xs, rfl, q, rr⟩ := h
      obtain ⟨its, rv, p, _⟩ := I.list q.to
      exact .inr (.inr (.inr (.inr (.inr ⟨m, ds, a, xs, its, rfl, l, rfl, rfl, r, rr, rv, p.isList⟩))))
  | dct a b => unfold lean at l; cases l
theorem in1_units {A : Around} : A.in1.units = A.units + 1 := rfl
/-- the items' answers, of two rows of data -/
theorem items_eq {ds es : List D} {xs ys : List V} {us ws : List Value} {n m : Nat} {B B' : BS} {A : Around} (ld : leans ds n = true) (le : leans es m = true) (r1 : Rps X.K H B ds xs) (r2 : Rps X.K H B' es ys) (v1 : Vals xs us) (v2 : Vals ys ws)
    (ih : ∀ d e x y u w, lean d n = true → lean e m = true → Rp X.K H B d x → Rp X.K H B' e y → RelV x u → RelV y w → SeqAt.EqAt A s u w (deq d e)) :
    ∀ j (h1 : j < us.toArray.size) (h2 : j < ws.toArray.size), SeqAt.EqAt A s us.toArray[j] ws.toArray[j] (deq (ds.getD j .non) (es.getD j .non)) := by
  intro j h1 h2
  have l1 : j < ds.length := by rw [← r1.length, v1.length]; simpa using h1
  have l2 : j < es.length := by rw [← r2.length, v2.length]; simpa using h2
  obtain ⟨x, ex, rx⟩ := r1.get (List.getElem?_eq_getElem l1)
  obtain ⟨y, ey, ry⟩ := r2.get (List.getElem?_eq_getElem l2)
  obtain ⟨u, eu, ru⟩ := v1.get ex
  obtain ⟨w, ew, rw'⟩ := v2.get ey
  have hu : us.toArray[j] = u := by
    have : us[j]? = some u := eu
    simp at h1
    rw [List.getElem?_eq_getElem h1] at this
    simpa using Option.some.inj this
  have hw : ws.toArray[j] = w := by
    have : ws[j]? = some w := ew
    simp at h2
    rw [List.getElem?_eq_getElem h2] at this
    simpa using Option.some.inj this
  rw [hu, hw]
  have e1 : ds.getD j .non = ds[j] := by simp [List.getD_eq_getElem?_getD, l1]
  have e2 : es.getD j .non = es[j] := by simp [List.getD_eq_getElem?_getD, l2]
  rw [e1, e2]
  exact ih _ _ _ _ _ _ (leans_get ld (List.getElem?_eq_getElem l1)) (leans_get le (List.getElem?_eq_getElem l2)) rx ry ru rw'
set_option maxHeartbeats 0 in
theorem eqAt_D (I : Inv X pins σ H s) {B B' : BS} : ∀ (n m : Nat) (d e : D) (x y : V) (u w : Value) (A : Around), A.units + n < cLine → lean d n = true → lean e m = true → Rp X.K H B d x → Rp X.K H B' e y → RelV x u → RelV y w → SeqAt.EqAt A s u w (deq d e) := by
  intro n
  induction n with
  | zero =>
    intro m d e x y u w A hu ld le hx hy rx ry
    have hu' : A.units < cLine := by omega
    rcases view I ld hx rx with ⟨rfl, rfl⟩ | ⟨b, rfl, rfl⟩ | ⟨i, t, rfl, rfl⟩ | ⟨z, t, rfl, rfl⟩ | ⟨n', _, _, _, _, hn, _⟩ | ⟨n', _, _, _, _, hn, _⟩ <;> (try (exact absurd hn (by omega))) <;>
    rcases view I le hy ry with ⟨rfl, rfl⟩ | ⟨b', rfl, rfl⟩ | ⟨i', t', rfl, rfl⟩ | ⟨z', t', rfl, rfl⟩ | ⟨m', es, a', ys, its', rfl, le', rfl, rfl, rfl, rr', rv', p'⟩ | ⟨m', es, a', ys, its', rfl, le', rfl, rfl, rfl, rr', rv', p'⟩ <;>
    unfold deq <;>
    first
    | with_reducible exact SeqAt.EqAt.same _ | with_reducible exact SeqAt.EqAt.bool_bool _ _ | with_reducible exact SeqAt.EqAt.int_int _ _ _ _ | with_reducible exact SeqAt.EqAt.str_str _ _ _ _ | with_reducible exact SeqAt.EqAt.bool_int _ _ _ | with_reducible exact SeqAt.EqAt.int_bool _ _ _
    | with_reducible exact SeqAt.EqAt.none_bool _ | with_reducible exact SeqAt.EqAt.none_int _ _ | with_reducible exact SeqAt.EqAt.none_str _ _ | with_reducible exact SeqAt.EqAt.bool_none _ | with_reducible exact SeqAt.EqAt.bool_str _ _ _ | with_reducible exact SeqAt.EqAt.int_none _ _ | with_reducible exact SeqAt.EqAt.int_str _ _ _ _
    | with_reducible exact SeqAt.EqAt.str_none _ _ | with_reducible exact SeqAt.EqAt.str_bool _ _ _ | with_reducible exact SeqAt.EqAt.str_int _ _ _ _
    | with_reducible exact SeqAt.EqAt.none_list p' hu' | with_reducible exact SeqAt.EqAt.bool_list _ p' hu' | with_reducible exact SeqAt.EqAt.int_list _ _ p' hu' | with_reducible exact SeqAt.EqAt.str_list _ _ p' hu'
    | with_reducible exact SeqAt.EqAt.none_tuple p' hu' | with_reducible exact SeqAt.EqAt.bool_tuple _ p' hu' | with_reducible exact SeqAt.EqAt.int_tuple _ _ p' hu' | with_reducible exact SeqAt.EqAt.str_tuple _ _ p' hu'
  | succ n ih =>
    intro m d e x y u w A hu ld le hx hy rx ry
    have hu' : A.units < cLine := by omega
    have hin : A.in1.units + n < cLine := by rw [in1_units]; omega
    rcases view I ld hx rx with ⟨rfl, rfl⟩ | ⟨b, rfl, rfl⟩ | ⟨i, t, rfl, rfl⟩ | ⟨z, t, rfl, rfl⟩ | ⟨n', ds, a, xs, its, hn, ld', rfl, rfl, rfl, rr, rv, p⟩ | ⟨n', ds, a, xs, its, hn, ld', rfl, rfl, rfl, rr, rv, p⟩ <;>
    rcases view I le hy ry with ⟨rfl, rfl⟩ | ⟨b', rfl, rfl⟩ | ⟨i', t', rfl, rfl⟩ | ⟨z', t', rfl, rfl⟩ | ⟨m', es, a', ys, its', rfl, le', rfl, rfl, rfl, rr', rv', p'⟩ | ⟨m', es, a', ys, its', rfl, le', rfl, rfl, rfl, rr', rv', p'⟩
    case inr.inr.inr.inr.inl.inr.inr.inr.inr.inl =>
      cases hn
      by_cases hab : a = a'
      · subst hab
        have e : D.tup ds = D.tup es := Rp.inj I ld le hx hy
        rw [← e, deq_refl _ _ ld]
        exact SeqAt.EqAt.same _
      · refine SeqAt.EqAt.of_refs hab ?_
        have := SeqAt.RcAt.tuples (e := fun j => deq (ds.getD j .non) (es.getD j .non)) p p' hu' (items_eq ld' le' rr rr' rv rv' fun d e x y u w h1 h2 h3 h4 h5 h6 => ih m' d e x y u w A.in1 hin h1 h2 h3 h4 h5 h6)
        unfold deq
        rw [deqs_range]
        simpa [← rv.length, ← rv'.length, rr.length, rr'.length] using this
    case inr.inr.inr.inr.inr.inr.inr.inr.inr.inr =>
      cases hn
      by_cases hab : a = a'
      · subst hab
        have e : D.lst ds = D.lst es := Rp.inj I ld le hx hy
        rw [← e, deq_refl _ _ ld]
        exact SeqAt.EqAt.same _
      · refine SeqAt.EqAt.of_refs hab ?_
        have s1 : its.toArray.size = ds.length := by rw [List.size_toArray, ← rv.length, rr.length]
        have s2 : its'.toArray.size = es.length := by rw [List.size_toArray, ← rv'.length, rr'.length]
        unfold deq
        rw [deqs_range]
        by_cases hl : ds.length = es.length
        · have := SeqAt.RcAt.lists (e := fun j => deq (ds.getD j .non) (es.getD j .non)) p p' (by rw [s1, s2, hl]) hu' (items_eq ld' le' rr rr' rv rv' fun d e x y u w h1 h2 h3 h4 h5 h6 => ih m' d e x y u w A.in1 hin h1 h2 h3 h4 h5 h6)
          rw [s1] at this
          rw [hl] at this ⊢
          simpa using this
        · have := SeqAt.RcAt.lists_lengths (A := A) p p' (by rw [s1, s2]; simpa using hl) hu'
          rw [beq_eq_false_iff_ne.mpr hl, Bool.and_false]
          exact this
    all_goals
      unfold deq
      first
      | with_reducible exact SeqAt.EqAt.same _ | with_reducible exact SeqAt.EqAt.bool_bool _ _ | with_reducible exact SeqAt.EqAt.int_int _ _ _ _ | with_reducible exact SeqAt.EqAt.str_str _ _ _ _ | with_reducible exact SeqAt.EqAt.bool_int _ _ _ | with_reducible exact SeqAt.EqAt.int_bool _ _ _
      | with_reducible exact SeqAt.EqAt.none_bool _ | with_reducible exact SeqAt.EqAt.none_int _ _ | with_reducible exact SeqAt.EqAt.none_str _ _ | with_reducible exact SeqAt.EqAt.bool_none _ | with_reducible exact SeqAt.EqAt.bool_str _ _ _ | with_reducible exact SeqAt.EqAt.int_none _ _ | with_reducible exact SeqAt.EqAt.int_str _ _ _ _
      | with_reducible exact SeqAt.EqAt.str_none _ _ | with_reducible exact SeqAt.EqAt.str_bool _ _ _ | with_reducible exact SeqAt.EqAt.str_int _ _ _ _
      | with_reducible exact SeqAt.EqAt.none_list p' hu' | with_reducible exact SeqAt.EqAt.bool_list _ p' hu' | with_reducible exact SeqAt.EqAt.int_list _ _ p' hu' | with_reducible exact SeqAt.EqAt.str_list _ _ p' hu'
      | with_reducible exact SeqAt.EqAt.none_tuple p' hu' | with_reducible exact SeqAt.EqAt.bool_tuple _ p' hu' | with_reducible exact SeqAt.EqAt.int_tuple _ _ p' hu' | with_reducible exact SeqAt.EqAt.str_tuple _ _ p' hu'
      | with_reducible exact SeqAt.EqAt.list_none p hu' | with_reducible exact SeqAt.EqAt.list_bool _ p hu' | with_reducible exact SeqAt.EqAt.list_int _ _ p hu' | with_reducible exact SeqAt.EqAt.list_str _ _ p hu'
      | with_reducible exact SeqAt.EqAt.tuple_none p hu' | with_reducible exact SeqAt.EqAt.tuple_bool _ p hu' | with_reducible exact SeqAt.EqAt.tuple_int _ _ p hu' | with_reducible exact SeqAt.EqAt.tuple_str _ _ p hu'
      | with_reducible exact SeqAt.EqAt.list_tuple p p' hu' | with_reducible exact SeqAt.EqAt.tuple_list p p' hu'
end
end DL
namespace DL
open PySem PySem.Spec PyProof.Rows L2
section
variable {X : Cx} {pins : List (Addr × Obj)} {σ : St} {H : Hp} {s : Shared}
set_option maxHeartbeats 0 in
theorem rcAt_D (I : Inv X pins σ H s) {B B' : BS} (n m : Nat) (d e : D) (x y : V) (u w : Value) (A : Around) (hu : A.units + n < cLine) (ld : lean d n = true) (le : lean e m = true) (hx : Rp X.K H B d x) (hy : Rp X.K H B' e y) (rx : RelV x u) (ry : RelV y w) :
    SeqAt.RcAt A s u w (deq d e) ∧ SeqAt.RcNeAt A s u w (!deq d e) := by
  have hu' : A.units < cLine := by omega
  rcases view I ld hx rx with ⟨rfl, rfl⟩ | ⟨b, rfl, rfl⟩ | ⟨i, t, rfl, rfl⟩ | ⟨z, t, rfl, rfl⟩ | ⟨n', ds, a, xs, its, hn, ld', rfl, rfl, rfl, rr, rv, p⟩ | ⟨n', ds, a, xs, its, hn, ld', rfl, rfl, rfl, rr, rv, p⟩ <;>
  rcases view I le hy ry with ⟨rfl, rfl⟩ | ⟨b', rfl, rfl⟩ | ⟨i', t', rfl, rfl⟩ | ⟨z', t', rfl, rfl⟩ | ⟨m', es, a', ys, its', rfl, le', rfl, rfl, rfl, rr', rv', p'⟩ | ⟨m', es, a', ys, its', rfl, le', rfl, rfl, rfl, rr', rv', p'⟩
  case inr.inr.inr.inr.inl.inr.inr.inr.inr.inl =>
    subst hn
    have hin : A.in1.units + n' < cLine := by rw [in1_units]; omega
    have hit := items_eq (A := A.in1) ld' le' rr rr' rv rv' fun d e x y u w h1 h2 h3 h4 h5 h6 => eqAt_D I n' m' d e x y u w A.in1 hin h1 h2 h3 h4 h5 h6
    have q1 := SeqAt.RcAt.tuples (e := fun j => deq (ds.getD j .non) (es.getD j .non)) p p' hu' hit
    have q2 := SeqAt.RcNeAt.tuples (e := fun j => deq (ds.getD j .non) (es.getD j .non)) p p' hu' hit
    unfold deq
    rw [deqs_range]
    have s1 : its.toArray.size = ds.length := by rw [List.size_toArray, ← rv.length, rr.length]
    have s2 : its'.toArray.size = es.length := by rw [List.size_toArray, ← rv'.length, rr'.length]
    rw [s1, s2] at q1 q2
    exact ⟨q1, q2⟩
  case inr.inr.inr.inr.inr.inr.inr.inr.inr.inr =>
    subst hn
    have hin : A.in1.units + n' < cLine := by rw [in1_units]; omega
    have hit := items_eq (A := A.in1) ld' le' rr rr' rv rv' fun d e x y u w h1 h2 h3 h4 h5 h6 => eqAt_D I n' m' d e x y u w A.in1 hin h1 h2 h3 h4 h5 h6
    have s1 : its.toArray.size = ds.length := by rw [List.size_toArray, ← rv.length, rr.length]
    have s2 : its'.toArray.size = es.length := by rw [List.size_toArray, ← rv'.length, rr'.length]
    unfold deq
    rw [deqs_range]
    by_cases hl : ds.length = es.length
    · have q1 := SeqAt.RcAt.lists (e := fun j => deq (ds.getD j .non) (es.getD j .non)) p p' (by rw [s1, s2, hl]) hu' hit
      have q2 := SeqAt.RcNeAt.lists (e := fun j => deq (ds.getD j .non) (es.getD j .non)) p p' (by rw [s1, s2, hl]) hu' hit
      rw [s1] at q1 q2
      rw [hl] at q1 q2 ⊢
      simp only [Nat.min_self, beq_self_eq_true, Bool.and_true]
      exact ⟨q1, q2⟩
    · have q1 := SeqAt.RcAt.lists_lengths (A := A) p p' (by rw [s1, s2]; simpa using hl) hu'
      have q2 := SeqAt.RcNeAt.lists_lengths (A := A) p p' (by rw [s1, s2]; simpa using hl) hu'
      rw [beq_eq_false_iff_ne.mpr hl, Bool.and_false]
      exact ⟨q1, q2⟩
  all_goals
    unfold deq
    constructor
    · first
      | with_reducible exact SeqAt.RcAt.none_none | with_reducible exact SeqAt.RcAt.bool_bool _ _ | with_reducible exact SeqAt.RcAt.int_int _ _ _ _ | with_reducible exact SeqAt.RcAt.str_str _ _ _ _ | with_reducible exact SeqAt.RcAt.bool_int _ _ _ | with_reducible exact SeqAt.RcAt.int_bool _ _ _
      | with_reducible exact SeqAt.RcAt.none_bool _ | with_reducible exact SeqAt.RcAt.none_int _ _ | with_reducible exact SeqAt.RcAt.none_str _ _ | with_reducible exact SeqAt.RcAt.bool_none _ | with_reducible exact SeqAt.RcAt.bool_str _ _ _ | with_reducible exact SeqAt.RcAt.int_none _ _ | with_reducible exact SeqAt.RcAt.int_str _ _ _ _
      | with_reducible exact SeqAt.RcAt.str_none _ _ | with_reducible exact SeqAt.RcAt.str_bool _ _ _ | with_reducible exact SeqAt.RcAt.str_int _ _ _ _
      | with_reducible exact SeqAt.RcAt.none_list p' hu' | with_reducible exact SeqAt.RcAt.bool_list _ p' hu' | with_reducible exact SeqAt.RcAt.int_list _ _ p' hu' | with_reducible exact SeqAt.RcAt.str_list _ _ p' hu'
      | with_reducible exact SeqAt.RcAt.none_tuple p' hu' | with_reducible exact SeqAt.RcAt.bool_tuple _ p' hu' | with_reducible exact SeqAt.RcAt.int_tuple _ _ p' hu' | with_reducible exact SeqAt.RcAt.str_tuple _ _ p' hu'
      | with_reducible exact SeqAt.RcAt.list_none p hu' | with_reducible exact SeqAt.RcAt.list_bool _ p hu' | with_reducible exact SeqAt.RcAt.list_int _ _ p hu' | with_reducible exact SeqAt.RcAt.list_str _ _ p hu'
      | with_reducible exact SeqAt.RcAt.tuple_none p hu' | with_reducible exact SeqAt.RcAt.tuple_bool _ p hu' | with_reducible exact SeqAt.RcAt.tuple_int _ _ p hu' | with_reducible exact SeqAt.RcAt.tuple_str _ _ p hu'
      | with_reducible exact SeqAt.RcAt.list_tuple p p' hu' | with_reducible exact SeqAt.RcAt.tuple_list p p' hu'
    · try rw [Bool.not_false]
      try rw [Bool.not_true]
      first
      | with_reducible exact SeqAt.RcNeAt.none_none | with_reducible exact SeqAt.RcNeAt.bool_bool _ _ | with_reducible exact SeqAt.RcNeAt.int_int _ _ _ _ | with_reducible exact SeqAt.RcNeAt.str_str _ _ _ _ | with_reducible exact SeqAt.RcNeAt.bool_int _ _ _ | with_reducible exact SeqAt.RcNeAt.int_bool _ _ _
      | with_reducible exact SeqAt.RcNeAt.none_bool _ | with_reducible exact SeqAt.RcNeAt.none_int _ _ | with_reducible exact SeqAt.RcNeAt.none_str _ _ | with_reducible exact SeqAt.RcNeAt.bool_none _ | with_reducible exact SeqAt.RcNeAt.bool_str _ _ _ | with_reducible exact SeqAt.RcNeAt.int_none _ _ | with_reducible exact SeqAt.RcNeAt.int_str _ _ _ _
      | with_reducible exact SeqAt.RcNeAt.str_none _ _ | with_reducible exact SeqAt.RcNeAt.str_bool _ _ _ | with_reducible exact SeqAt.RcNeAt.str_int _ _ _ _
      | with_reducible exact SeqAt.RcNeAt.none_list p' hu' | with_reducible exact SeqAt.RcNeAt.bool_list _ p' hu' | with_reducible exact SeqAt.RcNeAt.int_list _ _ p' hu' | with_reducible exact SeqAt.RcNeAt.str_list _ _ p' hu'
      | with_reducible exact SeqAt.RcNeAt.none_tuple p' hu' | with_reducible exact SeqAt.RcNeAt.bool_tuple _ p' hu' | with_reducible exact SeqAt.RcNeAt.int_tuple _ _ p' hu' | with_reducible exact SeqAt.RcNeAt.str_tuple _ _ p' hu'
      | with_reducible exact SeqAt.RcNeAt.list_none p hu' | with_reducible exact SeqAt.RcNeAt.list_bool _ p hu' | with_reducible exact SeqAt.RcNeAt.list_int _ _ p hu' | with_reducible exact SeqAt.RcNeAt.list_str _ _ p hu'
      | with_reducible exact SeqAt.RcNeAt.tuple_none p hu' | with_reducible exact SeqAt.RcNeAt.tuple_bool _ p hu' | with_reducible exact SeqAt.RcNeAt.tuple_int _ _ p hu' | with_reducible exact SeqAt.RcNeAt.tuple_str _ _ p hu'
      | with_reducible exact SeqAt.RcNeAt.list_tuple p p' hu' | with_reducible exact SeqAt.RcNeAt.tuple_list p p' hu'
end
section
variable {X : Cx} {K : PySem.W.Frag} {e a b : Expr} {es : List Expr} {pos p : Pos} {g ga gb : Ds → Option D} {gA : Ds → Option (List D)}
def rEqX (K : PySem.W.Frag) (neg : Bool) : R2 := fun x y H Q => ∃ B B' dx dy, Rp K H B dx x ∧ Rp K H B' dy y ∧ lean dx 50 = true ∧ lean dy 50 = true ∧ Q (.bl (xor neg (deq dx dy))) H
theorem op_eqX (hu : X.A.units + 64 < cLine) : OpR X (compareOp .Eq) (rEqX X.K false) := by
  intro pins s σ H x y v u Q I rx ry h
  obtain ⟨B, B', dx, dy, hx, hy, lx, ly, q⟩ := h
  exact (rcAt_D I 50 50 dx dy x y v u X.A (by omega) lx ly hx hy rx ry).1 _ _ _ _ ⟨.bl _, H, I, rfl, by rw [Bool.false_xor] at q; exact q⟩
theorem op_neX (hu : X.A.units + 64 < cLine) : OpR X (compareOp .NotEq) (rEqX X.K true) := by
  intro pins s σ H x y v u Q I rx ry h
  obtain ⟨B, B', dx, dy, hx, hy, lx, ly, q⟩ := h
  exact (rcAt_D I 50 50 dx dy x y v u X.A (by omega) lx ly hx hy rx ry).2 _ _ _ _ ⟨.bl _, H, I, rfl, by rw [Bool.true_xor] at q; exact q⟩
theorem op2_eqX : Op2 K (rEqX K false) eqDD := by
  intro H B x y dx dy d Q hb rx ry h k
  unfold eqDD at h
  split at h
  · rename_i hl
    cases h
    exact ⟨B, B, dx, dy, rx, ry, hl.1, hl.2, k _ H (Same.refl H) (by rw [rp_bl, Bool.false_xor])⟩
  · cases h
theorem op2_neX : Op2 K (rEqX K true) neDD := by
  intro H B x y dx dy d Q hb rx ry h k
  unfold neDD at h
  split at h
  · rename_i hl
    cases h
    exact ⟨B, B, dx, dy, rx, ry, hl.1, hl.2, k _ H (Same.refl H) (by rw [rp_bl, Bool.true_xor])⟩
  · cases h
/-! ### + and * and slices in full -/
theorem op2_addA : Op2 K (fun x y H Q => rI0 (fun i j => .int (i + j)) x y H Q ∨ (∃ i j, x = .str i ∧ y = .str j ∧ i.length + j.length ≤ sizeLine ∧ Q (.str (i ++ j)) H) ∨ rCatL K x y H Q ∨ rCatT K x y H Q ∨ rCatT0 K x y H Q) addA := by
  intro H B x y dx dy d Q hb rx ry h k
  cases dx <;> cases dy <;> simp only [addA] at h <;> try cases h
  · rw [rp_int] at rx ry
    subst rx ry
    exact .inl ⟨_, _, rfl, rfl, k _ H (Same.refl H) (by rw [rp_int])⟩
  · split at h
    · cases h
      rw [rp_str] at rx ry
      subst rx ry
      exact .inr (.inl ⟨_, _, rfl, rfl, by assumption, k _ H (Same.refl H) (by rw [rp_str])⟩)
    · cases h
  · split at h
    · rename_i hz
      cases h
      have ry0 := ry
      have rx0 := rx
      rw [rp_tup] at rx ry
      obtain ⟨a, xs, rfl, q1, r1⟩ := rx
      obtain ⟨b, ys, rfl, q2, r2⟩ := ry
      by_cases he : xs = []
      · subst he
        have e : ‹List D› = ‹List D› := rfl
        have hn := r1.length
        simp at hn
        have hn' := List.length_eq_zero_iff.mp hn.symm
        subst hn'
        exact .inr (.inr (.inr (.inr ⟨a, b, ys, rfl, rfl, q1.to, q2.to, k _ H (Same.refl H) (by rw [List.nil_append]; exact ry0)⟩)))
      · refine .inr (.inr (.inr (.inl ⟨a, b, xs, ys, rfl, rfl, q1.to, q2.to, he, by rw [r1.length, r2.length]; exact hz, fun z => ?_, fun z p hp => k _ _ (same_upd hp) (rp_newT hb hp (r1.append r2))⟩)))
        subst z
        have hn := r2.length
        simp at hn
        have hn' := List.length_eq_zero_iff.mp hn.symm
        subst hn'
        exact k _ H (Same.refl H) (by rw [List.append_nil]; exact rx0)
    · cases h
  · split at h
    · rename_i hz
      cases h
      rw [rp_lst] at rx ry
      obtain ⟨a, xs, rfl, q1, r1⟩ := rx
      obtain ⟨b, ys, rfl, q2, r2⟩ := ry
      exact .inr (.inr (.inl ⟨a, b, xs, ys, rfl, rfl, q1.to, q2.to, by rw [r1.length, r2.length]; exact hz, fun p hp => k _ _ (same_upd hp) (rp_newL hb hp (r1.append r2))⟩))
    · cases h
theorem pd_addA (ha : PD X a ga) (hb : PD X b gb) : PD X (.BinOp a .Add b pos) (o2 ga gb addA) := pd_op (op_add.or (op_add_str.or (op_catL.or (op_catT.or op_catT0)))) op2_addA ha hb
theorem rps_rep {H : Hp} {B : BS} {ds : List D} {xs : List V} (h : Rps K H B ds xs) : ∀ k : Nat, Rps K H B (List.replicate k ds).flatten (List.replicate k xs).flatten
  | 0 => by simp [rps_nil]
  | k + 1 => by
    rw [List.replicate_succ, List.replicate_succ, List.flatten_cons, List.flatten_cons]
    exact h.append (rps_rep h k)
theorem op2_mulA : Op2 K (fun x y H Q => rI CMul (fun i j => .int (i * j)) x y H Q ∨ rMulS x y H Q ∨ rMulT K x y H Q) mulA := by
  intro H B x y dx dy d Q hb rx ry h k
  cases dx <;> cases dy <;> simp only [mulA] at h <;> try cases h
  · split at h
    · cases h
      rw [rp_int] at rx ry
      subst rx ry
      exact .inl ⟨_, _, rfl, rfl, by assumption, k _ H (Same.refl H) (by rw [rp_int])⟩
    · cases h
  · split at h
    · rename_i hz
      cases h
      rw [rp_str] at rx
      rw [rp_int] at ry
      subst rx ry
      exact .inr (.inl ⟨_, _, rfl, rfl, hz.1, hz.2.1, hz.2.2, k _ H (Same.refl H) (by rw [rp_str]; rfl)⟩)
    · cases h
  · split at h
    · rename_i hz
      cases h
      rw [rp_tup] at rx
      rw [rp_int] at ry
      subst ry
      obtain ⟨a, xs, rfl, q1, r1⟩ := rx
      refine .inr (.inr ⟨a, xs, _, rfl, rfl, q1.to, fun z => hz.1 ?_, hz.2.1, hz.2.2.1, by rw [r1.length]; exact hz.2.2.2, fun p hp => k _ _ (same_upd hp) (rp_newT hb hp (rps_rep r1 _))⟩)
      subst z
      have hn := r1.length
      simp at hn
      exact List.length_eq_zero_iff.mp hn.symm
    · cases h
theorem pd_mulA (ha : PD X a ga) (hb : PD X b gb) : PD X (.BinOp a .Mult b pos) (o2 ga gb mulA) := pd_op (op_mul.or (op_mulS.or op_mulT)) op2_mulA ha hb
theorem cut_whole {xs : List D} {lo hi : Option Int} (h : sIx xs.length 0 lo = 0 ∧ sIx xs.length xs.length hi = xs.length) : cutD xs lo hi = xs := by
  unfold cutD
  rw [h.1, h.2]
  simp
theorem pd_sliceA {lo hi : Option Expr} {gl gh : Ds → Option (Option Int)} {p2 : Pos} (he : PD X e g) (hl : PDO X lo gl) (hh : PDO X hi gh) :
    PD X (.Subscript e (.Slice lo hi none p2) pos) (slAG g gl gh) := .mk fun B δ =>
  (pe_slice (sl_str.or (sl_list.or (sl_tup.or sl_tupW))) (he B δ) (hl B δ) (hh B δ)).imp fun σ H Q ⟨d, en, h, k⟩ => by
    unfold slAG at h
    cases e1 : g δ with
    | none => rw [e1] at h; cases h
    | some x =>
      cases e2 : gl δ with
      | none => rw [e1, e2] at h; cases h
      | some l =>
        cases e3 : gh δ with
        | none => rw [e1, e2, e3] at h; cases h
        | some u =>
          rw [e1, e2, e3] at h
          simp only [Option.bind_some] at h
          refine ⟨x, en, e1, fun v H1 s1 r1 => ⟨l, en.same s1, (by first | exact e2 | rfl), fun H2 s2 => ⟨u, (en.same s1).same s2, (by first | exact e3 | rfl), fun H3 s3 => ?_⟩⟩⟩
          have S := (s1.trans s2).trans s3
          have r3 := (r1.same s2).same s3
          have hb := (((en.same s1).same s2).same s3).bad
          cases x <;> simp only [slA] at h <;> try cases h
          · split at h
            · cases h
              rw [rp_str] at r3
              exact .inl ⟨_, r3, by assumption, k _ H3 S (by rw [rp_str])⟩
            · cases h
          · have r4 := r3
            rw [rp_tup] at r3
            obtain ⟨a, xs, rfl, q, r⟩ := r3
            rename_i dxs
            by_cases hw : sIx dxs.length 0 l = 0 ∧ sIx dxs.length dxs.length u = dxs.length
            · refine .inr (.inr (.inr ⟨a, xs, rfl, q.to, by rw [r.length, sIx_eq, sIx_eq]; exact hw, k _ _ S ?_⟩))
              rw [cut_whole hw]
              exact r4
            · exact .inr (.inr (.inl ⟨a, xs, rfl, q.to, by rw [r.length, sIx_eq, sIx_eq]; exact hw, fun p hp => k _ _ (S.trans (same_upd hp)) (rp_newT hb hp (cut_rel r l u))⟩))
          · rw [rp_lst] at r3
            obtain ⟨a, xs, rfl, q, r⟩ := r3
            exact .inr (.inl ⟨a, xs, rfl, q.to, fun p hp => k _ _ (S.trans (same_upd hp)) (rp_newL hb hp (cut_rel r l u))⟩)
/-! ### more functions -/
theorem fn_int : FnR K (fun xs H Q => (∃ i, xs = [.int i] ∧ Q (.int i) H) ∨ ∃ k, xs = [.bl k] ∧ Q (.int (if k then 1 else 0)) H) intOfD := by
  intro H B xs ds d Q hb r h k
  unfold intOfD at h
  split at h
  · cases h
    obtain ⟨v, rfl, r1⟩ := rps_one r
    rw [rp_int] at r1
    subst r1
    exact .inl ⟨_, rfl, k _ H (Same.refl H) (by rw [rp_int])⟩
  · cases h
    obtain ⟨v, rfl, r1⟩ := rps_one r
    rw [rp_bl] at r1
    subst r1
    exact .inr ⟨_, rfl, k _ H (Same.refl H) (by rw [rp_int])⟩
  · cases h
theorem fn_list : FnR K (fun xs H Q => ∃ p ys, xs = [.ref p] ∧ (SqL K H p ys ∨ SqT K H p ys) ∧ ∀ l, H l = none → Q (.ref l) (upd H l (.lst ys))) lstOfD := by
  intro H B xs ds d Q hb r h k
  unfold lstOfD at h
  split at h
  · cases h
    obtain ⟨v, rfl, r1⟩ := rps_one r
    rw [rp_lst] at r1
    obtain ⟨a, ys, rfl, q, rr⟩ := r1
    exact ⟨a, ys, rfl, .inl q.to, fun l hl => k _ _ (same_upd hl) (rp_newL hb hl rr)⟩
  · cases h
    obtain ⟨v, rfl, r1⟩ := rps_one r
    rw [rp_tup] at r1
    obtain ⟨a, ys, rfl, q, rr⟩ := r1
    exact ⟨a, ys, rfl, .inr q.to, fun l hl => k _ _ (same_upd hl) (rp_newL hb hl rr)⟩
  · cases h
end
end DL
/-! A set made of a list of texts, and its length. -/
namespace SetS
open PySem PySem.Spec PyProof.Rows DL
theorem onceS_succ (ys : List Str) (y : Str) : onceS (ys ++ [y]) = insS (onceS ys) y := by unfold onceS; rw [List.foldl_append]; rfl
theorem onceS_le : ∀ (n : Nat) (ys : List Str), ys.length = n → (onceS ys).length ≤ n
  | 0, ys, h => by have := List.length_eq_zero_iff.mp h; subst this; exact Nat.le_refl _
  | n + 1, ys, h => by
    have hne : ys ≠ [] := fun z => by subst z; simp at h
    rw [← List.dropLast_concat_getLast hne, onceS_succ]
    have ih := onceS_le n ys.dropLast (by rw [List.length_dropLast, h]; rfl)
    unfold insS
    split
    · omega
    · rw [List.length_append, List.length_singleton]; omega
theorem strs_get : ∀ {us : List Value} {ys : List Str} {i : Nat} {v : Value}, StrsAre us ys → us[i]? = some v → ∃ y t, ys[i]? = some y ∧ v = .str y t
  | _, _, _, _, .nil, h => by simp at h
  | _, _, 0, v, .cons y t r, h => by simp at h; exact ⟨y, t, rfl, h.symm⟩
  | _, _, i + 1, v, .cons y t r, h => by
    obtain ⟨y', t', e1, e2⟩ := strs_get (i := i) r (by simpa using h)
    exact ⟨y', t', by simpa using e1, e2⟩
/-- the members after i items -/
def memS (ys : List Str) (k : Str) : Bool := hasS (onceS ys) k
theorem mem_step (ys : List Str) (y k : Str) : memS (ys ++ [y]) k = (memS ys k || decide (k = y)) := by
  unfold memS
  rw [onceS_succ]
  unfold insS
  by_cases h : hasS (onceS ys) y = true
  · rw [if_pos h]
    by_cases e : k = y
    · subst e; rw [h]; simp
    · simp [e]
  · rw [if_neg h]
    unfold hasS
    rw [List.any_append]
    by_cases e : k = y
    · subst e; simp
    · have : ¬ y = k := fun z => e z.symm
      simp [e, this]
theorem len_step (ys : List Str) (y : Str) : (onceS (ys ++ [y])).length = if memS ys y = true then (onceS ys).length else (onceS ys).length + 1 := by
  rw [onceS_succ]
  unfold insS memS
  split <;> simp
section
variable {prog : Program} {w : World} {A : Around} {R : Result → Shared → Prop} {I : Addr} {fp wr : List Addr} {G : Array GenState → Array GenState → Prop} {P : Nat → Value → Prop} {St : Nat → Shared → Prop}
/-- the loop that fills the set, item by item -/
theorem fill (ys : List Str) (W : WalksS prog w A.in1 I fp wr G ys.length P St) (C : Addr) (hC : C ∉ fp) (hv : ∀ i v, P i v → ∃ y t, ys[i]? = some y ∧ v = .str y t) (hb : ys.length + 1 < scanBound) :
    ∀ (k i : Nat) (s : Shared), ys.length - i = k → i ≤ ys.length → St i s → s.heap.SetOf (strKind prog w) C (memS (ys.take i)) (onceS (ys.take i)).length →
      (∀ s', Moved (C :: wr) G s s' → s'.heap.SetOf (strKind prog w) C (memS ys) (onceS ys).length → R (.ok (.ret .none)) s') →
      codeAny (model prog w) A (.builtin "set.update.loop" ⟨[.ref C, .ref I], []⟩) R s := by
  have hCw : C ∉ wr := fun h => hC (W.sub _ h)
  have sub : ∀ b ∈ wr, b ∈ C :: wr := fun b z => List.mem_cons_of_mem _ z
  have stays : ∀ {s s' : Shared} {S : Str → Bool} {n : Nat}, Moved wr G s s' → s.heap.SetOf (strKind prog w) C S n → s'.heap.SetOf (strKind prog w) C S n := fun {s s' S n} m h => by
    obtain ⟨o, es, ep, tb, e, rest⟩ := h
    exact ⟨o, es, ep, tb, m.heap C _ hCw e, rest⟩
  intro k
  induction k with
  | zero =>
    intro i s hk hi st hS hR
    obtain rfl : i = ys.length := by omega
    rw [List.take_length] at hS
    refine codeAny_builtin PyProof.Rows.F.entry_set_update_loop (by
      rw [Around.under_plainId PyProof.Rows.F.plain_set_update_loop _]
      exact wpAny_bind (W.done s _ _ st fun s' m => wpAny_pure (hR s' (m.mono sub) (stays m hS))))
  | succ k ih =>
    intro i s hk hi st hS hR
    have lt : i < ys.length := by omega
    refine codeAny_builtin PyProof.Rows.F.entry_set_update_loop (by
      rw [Around.under_plainId PyProof.Rows.F.plain_set_update_loop _]
      refine wpAny_bind (W.item i s _ _ lt st fun v s' hP st' m => ?_)
      obtain ⟨y, t, ey, rfl⟩ := hv i v hP
      have hS' := stays m hS
      show wpAny _ A.in1 (holding [Value.str y t] (setAdd C (.str y t)) >>= _) _ _ s'
      refine wpAny_bind (wpAny_holding (by
        unfold setAdd
        refine wpAny_holding (wpAny_bind ((strKind prog w).pyHash (k := y) (by exact decide_eq_true rfl) ?_))
        have room : (onceS (ys.take i)).length + 1 < scanBound := by
          have := onceS_le _ (ys.take i) rfl
          rw [List.length_take] at this
          omega
        refine wpAny_setAddHashed_of (knd := strKind prog w) (s := { s' with toks := s'.toks + 1 }) (k := y) (by exact decide_eq_true rfl) rfl hS' room fun h' hsb hS2 => ?_
        have tk : ys.take (i + 1) = ys.take i ++ [y] := by
          rw [List.take_add_one, ey]; rfl
        have hSi : h'.SetOf (strKind prog w) C (memS (ys.take (i + 1))) (onceS (ys.take (i + 1))).length := PyProof.Rows.SetOf_congr hS2 (fun k' => by rw [tk, mem_step]) (by rw [tk, len_step])
        refine wpAny_pure ⟨plainId_quiet PyProof.Rows.F.plain_set_update_loop _, ih (i + 1) _ (by omega) lt (W.frame _ s' _ _ st' (Nat.le_succ _) fun b hb o e => ?_) hSi fun s'' m2 hS3 => ?_⟩
        · rw [hsb.2 b (fun z : b = C => hC (by rw [← z]; exact hb))]; exact e
        · refine hR s'' (Moved.trans W.gtrans ((m.mono sub).then_heap (Nat.le_succ _) fun b o hb e => ?_) m2) hS3
          rw [hsb.2 b (fun z : b = C => hb (by rw [z]; exact List.mem_cons_self))]; exact e)))
end
section
variable {prog : Program} {w : World} {A : Around} {E : Value → Shared → Prop} {s : Shared}
abbrev new0 (led : Bool) : Obj := { cls := .type "set", dict := none, data := .set #[] 0 (.fresh 0 0 led) }
set_option maxHeartbeats 3200000 in
/-- set(a list of texts) -/
theorem call_set_texts {p : Addr} {its : Array Value} {ys : List Str} {Q : Value → Shared → Prop} (hh : A.handled = none) (hp : s.heap.IsList p its) (hy : StrsAre its.toList ys) (hb : ys.length + 1 < scanBound)
    (h : ∀ (h' : Heap) (tk : Nat), h'.SetOf (strKind prog w) s.heap.objs.size (memS ys) (onceS ys).length → (∀ b o, b < s.heap.objs.size → s.heap.get? b = some o → h'.get? b = some o) → Q (.ref s.heap.objs.size) { s with heap := h', toks := tk }) :
    wpAny (model prog w) A (call (.type "set") [.ref p]) Q E s := by
  have hlen : ys.length = its.size := by rw [← hy.length]; simp
  obtain ⟨c0, tl0, mro⟩ := PySem.F.called_set.mro
  have made := PySem.F.called_set.made
  have subt := PySem.F.called_set.sub
  refine wpAny_call (codeAny_of_tree (by
    show wpAny _ _ (callAny (.type "set") _) _ _ _
    refine wpAny_pure ⟨Code.quiet_builtin _ (by decide +kernel), codeAny_builtin PySem.F.entry_type_call (by
      rw [Around.under_plain (weight_type_call_type "set" [.ref p] []) rfl]
      have n1 := PySem.F.called_set.notType
      have n2 := PySem.F.called_set.canCreate
      have ct := PySem.F.typeCall_set_1 (.ref p)
      repeat (any_goals (first | assumption | wp_step))
      refine codeAny_mono (code_set_new_1 (.ref p) (E := E) (Q₁ := fun ob s1 => ∃ led : Bool, ob = .ref s.heap.objs.size ∧ s1 = { s with heap := s.heap.push (new0 led) }) fun led => ⟨led, rfl, rfl⟩) fun r1 s1 hr => ?_
      cases r1 with
      | error e => exact hr
      | ok f1 =>
        cases f1 with
        | ret ob =>
          obtain ⟨led, rfl, rfl⟩ := hr
          have gC : (s.heap.push (new0 led)).get? s.heap.objs.size = some (new0 led) := Heap.get?_push_size _ rfl
          have tC : Shared.TypeIs { s with heap := s.heap.push (new0 led) } (.ref s.heap.objs.size) "set" := ⟨_, gC, rfl⟩
          have li := PySem.F.called_set.init.lookup
          have bi := PySem.F.called_set.init.bind (.ref s.heap.objs.size)
          repeat (any_goals (first | assumption | wp_step))
          refine codeAny_mono (codeAny_call_builtin (R := wants (fun r s2 => r = .none ∧ ∃ h' tk, s2 = { s with heap := h', toks := tk } ∧ h'.SetOf (strKind prog w) s.heap.objs.size (memS ys) (onceS ys).length ∧
              (∀ b o, b < s.heap.objs.size → s.heap.get? b = some o → h'.get? b = some o)) E) PySem.F.called_set.init.plain PySem.F.entry_set_init (check_set_init_1 tC ?_)) fun r2 s2 hr2 => ?_
          · obtain ⟨op, gp, kp, np, dp⟩ := hp
            obtain ⟨pc, pd, pdt, ps⟩ := op
            simp only at kp dp
            subst kp; subst dp
            have gp' : (s.heap.push (new0 led)).get? p = some { cls := .type "list", dict := pd, data := .seq its np, slots := ps } := Heap.get?_push_of_some _ gp
            have s1 := PySem.F.sub_list_set
            have s2 := PySem.F.sub_list_frozenset
            have ne : (Value.type "list" == Value.type "dict") = false := by decide
            have hp1 : (s.heap.push (new0 led)).IsList p its := ⟨_, gp', rfl, np, rfl⟩
            unfold Builtin.«set.__init__» noKeywords Builtin.Frozenset.updateFrom
            generalize hPI : pyIter = PI
            wp_walk
            subst hPI
            have ltp : p < s.heap.objs.size := Heap.lt_size gp
            have hd3 : A.in1.in1.in1.handled = none := by simp [hh]
            have neI : p ≠ (s.heap.push (new0 led)).objs.size := by rw [Heap.size_push]; exact Nat.ne_of_lt (Nat.lt_succ_of_lt ltp)
            have notf : s.heap.objs.size ∉ [(s.heap.push (new0 led)).objs.size, p] := by
              rw [Heap.size_push]; simp only [List.mem_cons, List.mem_singleton, List.not_mem_nil, or_false, not_or]; exact ⟨Nat.ne_of_lt (Nat.lt_succ_self _), Nat.ne_of_gt ltp⟩
            have vals : ∀ (i : Nat) (v : Value), its[i]? = some v → ∃ y t, ys[i]? = some y ∧ v = .str y t := fun i v hv => by
              have hv' : its.toList[i]? = some v := by rw [Array.getElem?_toList]; exact hv
              exact strs_get hy hv'
            have Wk := (Walks.list hd3 (s.heap.push (new0 led)).objs.size p neI its).toS (prog := prog) (w := w)
            rw [← hlen] at Wk
            refine wpAny_pyIter_list hp1 (wpAny_bind (wpAny_runValue (fill ys Wk s.heap.objs.size notf vals hb (ys.length - 0) 0 _ (by omega) (Nat.zero_le _) ⟨⟨_, Heap.get?_push_size _ rfl, rfl, rfl⟩, (hp1.push _)⟩ ?c1 ?c2)))
            case c1 =>
              have g0 : ((s.heap.push (new0 led)).push { cls := .type "list_iterator", data := .fields #[.ref p, .int 0 0] }).get? s.heap.objs.size = some (new0 led) := Heap.get?_push_of_some _ gC
              exact PyProof.Rows.SetOf_congr ((PyProof.Rows.setObjOf_fresh (knd := strKind prog w) led).setOf g0 (by unfold scanBound; omega)) (fun _ => rfl) rfl
            case c2 =>
              intro s' m hS'
              obtain ⟨h', g', d', tk', os'⟩ := s'
              obtain rfl : g' = s.gens := m.gens
              obtain rfl : d' = s.drawn := m.drawn
              obtain rfl : os' = s.os := m.os
              show wpAny _ _ _ _ _ _
              refine wpAny_pure (wpAny_pure ⟨rfl, h', tk', rfl, hS', fun b o hb e => ?_⟩)
              refine m.heap b o ?_ (Heap.get?_push_of_some _ (Heap.get?_push_of_some _ e))
              simp only [List.mem_cons, List.mem_singleton, List.not_mem_nil, or_false, not_or]
              exact ⟨Nat.ne_of_lt hb, by rw [Heap.size_push]; exact Nat.ne_of_lt (Nat.lt_succ_of_lt hb)⟩
          · cases r2 with
            | error e => exact hr2
            | ok f2 =>
              cases f2 with
              | ret r =>
                obtain ⟨rfl, h', tk, rfl, hS', hk'⟩ := hr2
                repeat (any_goals (first | assumption | wp_step))
                exact h _ _ hS' hk'
              | _ => exact hr2.elim
        | _ => exact hr.elim)⟩))
end
end SetS
namespace DL
open PySem PySem.Spec PyProof.Rows L2
section
variable {X : Cx} {K : PySem.W.Frag} {e a b : Expr} {es : List Expr} {pos p pos2 p2 : Pos} {g ga gb : Ds → Option D} {gA : Ds → Option (List D)}
/-- len(set(e)), e a list of texts -/
theorem pe_lenSet {te : TE} (hc : X.calm = true) (hl : X.mg "len" = none) (hs : X.mg "set" = none) (he : PE X e te) (bs : bootBuiltins "set" = some (.type "set")) (hgl : Gl X "len" := by rfl) (hgs : Gl X "set" := by rfl)
    (e1 : starEach [.Call (.Name "set" p2) [e] [] pos2] X.env = (false, eval (.Call (.Name "set" p2) [e] [] pos2) X.env) :: starEach [] X.env := by rfl) (e2 : starEach [e] X.env = (false, eval e X.env) :: starEach [] X.env := by rfl)
    (h1 : (backTo pos (starEach [] X.env)).any (·.1) = false := by rfl) (h2 : (backTo pos2 (starEach [] X.env)).any (·.1) = false := by rfl) :
    PE X (.Call (.Name "len" p) [.Call (.Name "set" p2) [e] [] pos2] [] pos) (fun σ H Q => te σ H fun v H' => ∃ q ys, v = .ref q ∧ SqL X.K H' q (ys.map V.str) ∧ ys.length ≤ 4000 ∧ Q (.int (onceS ys).length) H') := by
  intro pins s σ H Q I h
  refine wpAny_Call_Name_kw (ld_blt I hgl hl PySem.boot_len ?_ (by decide) (by decide))
  refine PyProof.Rows.callWith_builtin1 ?_ e1 h1
  rw [e1]
  show wpAny _ _ (spliced ((false, eval (.Call (.Name "set" p2) [e] [] pos2) X.env) :: backTo pos (starEach [] X.env))) _ _ s
  refine Calls.spliced_cons ?_
  refine wpAny_Call_Name_kw (ld_blt I hgs hs bs ?_ (by decide) (by decide))
  refine PyProof.Rows.callWith_type1 ?_ e2 h2
  rw [e2]
  show wpAny _ _ (spliced ((false, eval e X.env) :: backTo pos2 (starEach [] X.env))) _ _ s
  refine Calls.spliced_cons (thn (he pins s σ H _ I h) fun u s1 ⟨v, H1, I1, r1, q, ys, ev, hq, hy, k⟩ => Calls.spliced_nil ?_)
  subst ev
  obtain rfl : u = Value.ref q := r1
  obtain ⟨its, rv, pl, _⟩ := I1.list hq
  refine SetS.call_set_texts (I1.ok.hd hc) pl.isList (by simpa using strs_are rv) (by show ys.length + 1 < 4096; omega) fun h' tk hS hk => Calls.spliced_nil ?_
  obtain ⟨o, els, ep, t, ho, hex, hd, hel, hmem, hb, hf, hn⟩ := hS
  refine PySem.call_len_set (s := { s1 with heap := h', toks := tk }) ho hex hd hf (by
    have := hb
    have z : scanBound = 4096 := rfl
    omega) ?_
  rw [hn]
  have I2 : Inv X pins σ H1 { s1 with heap := h', toks := tk + 1 + 1 } := I1.kept fun b o e => hk b o (Heap.lt_size e) e
  exact ⟨.int _, H1, I2, ⟨_, rfl⟩, k⟩
theorem b_set : bootBuiltins "set" = some (.type "set") := by decide +kernel
theorem pd_lenSet (hl : X.mg "len" = none) (hs : X.mg "set" = none) (he : PD X e g) (hc : X.calm = true := by rfl) (hgl : Gl X "len" := by rfl) (hgs : Gl X "set" := by rfl)
    (e1 : starEach [.Call (.Name "set" p2) [e] [] pos2] X.env = (false, eval (.Call (.Name "set" p2) [e] [] pos2) X.env) :: starEach [] X.env := by rfl) (e2 : starEach [e] X.env = (false, eval e X.env) :: starEach [] X.env := by rfl)
    (h1 : (backTo pos (starEach [] X.env)).any (·.1) = false := by rfl) (h2 : (backTo pos2 (starEach [] X.env)).any (·.1) = false := by rfl) :
    PD X (.Call (.Name "len" p) [.Call (.Name "set" p2) [e] [] pos2] [] pos) (oA (consA g nilA) lenSetD) := .mk fun B δ =>
  (pe_lenSet hc hl hs (he B δ) b_set hgl hgs e1 e2 h1 h2).imp fun σ H Q ⟨d, en, h, k⟩ => by
    unfold oA consA nilA at h
    cases e3 : g δ with
    | none => rw [e3] at h; cases h
    | some x =>
      rw [e3] at h
      simp only [Option.bind_some, Option.map_some] at h
      unfold lenSetD at h
      cases x <;> try cases h
      rename_i ds
      dsimp only at h
      cases e4 : strL ds with
      | none => rw [e4] at h; cases h
      | some ys =>
        rw [e4] at h
        simp only [Option.bind_some] at h
        split at h
        · rename_i hz
          cases h
          refine ⟨_, en, e3, fun v H' s r => ?_⟩
          rw [rp_lst] at r
          obtain ⟨q, xs, rfl, hq, rr⟩ := r
          have := strL_rel rr e4
          subst this
          exact ⟨q, ys, rfl, hq.to, hz, k _ H' s (by rw [rp_int])⟩
        · cases h
/-! ### x = [.. for ..], one's own -/
theorem psd_ownCmp (i : Nat) {y : Str} {tg : Expr} {py spos : Pos} {sc scope : Scope} {elt iter : Expr} {ifs : List Expr} {N N' : List Str} {n : Nat} {caps : List Nat} {gi : Ds → Option (List D)} {idx : List Nat} {f : D → Ds → Option Ds} {gt : Ds → Option Bool} {ge : Ds → Option D}
    (hnd : N.Nodup) (ok : CompOk sc scope N N' n caps) (hidx : ∀ j ∈ idx, j < n) (hi : PID X tg iter gi)
    (hg : ∀ cl s H ex, PGD (cxComp X scope cl N' s H ex) tg idx f) (ht : ∀ cl s H ex, PFD (cxComp X scope cl N' s H ex) ifs gt) (he : ∀ cl s H ex, PD (cxComp X scope cl N' s H ex) elt ge)
    (hc : X.calm = true := by rfl) (hsc : X.env.scope = sc := by rfl) (hN : X.N = N := by rfl)
    (hiN : X.N[i]? = some y := by rfl) (hy : Loc X.env.scope y := by first | exact Or.inl rfl | exact Or.inr rfl)
    (hsw : swapsWith (.ListComp elt [⟨tg, iter, ifs, 0⟩] scope pos) (some (.Name y py)) spos.line X.env = pure true := by rfl)
    (hs : ∀ x, foldedSetIterable iter X.env x = pure x := by intro _; rfl)
    (hf : X.fn y = true ∨ X.env.scope.names.lookup y = some .local := by first | exact .inl rfl | exact .inr rfl | assumption) :
    PSD X (.Assign [.Name y py] (.ListComp elt [⟨tg, iter, ifs, 0⟩] scope pos) spos) (ownD i (compG n caps gi f gt ge)) := .mk fun H₀ B₀ δ pins s σ H D I ⟨r, en, e1, k⟩ => by
  unfold ownD at e1
  obtain ⟨B, b1, b2, env⟩ := en.ex
  cases e2 : compG n caps gi f gt ge δ with
  | none => rw [e2] at e1; cases e1
  | some d =>
    rw [e2] at e1
    cases e1
    refine ps_setComp (i := i) (hN ▸ hnd) hiN hy hc hsc (hN ▸ ok) (hi B δ) (g := fun v σ H Q => ∃ B d δ, tDG X.K idx f B d δ v σ H Q) (tt := fun σ H Q => ∃ B δ, tDT X.K B δ gt σ H Q) (te := fun σ H Q => ∃ B δ, tD X.K B δ ge σ H Q)
      (fun cl s H ex pins s' σ H v u Q I r ⟨B, d, δ, h⟩ => hg cl s _ ex B d δ pins s' σ H v u Q I r h)
      (fun cl s H ex pins s' σ H Q I ⟨B, δ, h⟩ => ht cl s _ ex B δ pins s' σ H Q I h)
      (fun cl s H ex pins s' σ H Q I ⟨B, δ, h⟩ => he cl s _ ex B δ pins s' σ H Q I h) hsw hs hf pins s σ H D I (comp_read hidx ⟨d, env, e2, fun p H' hp s' r' => k _ H' (en.take b1 b2 env i hp s' r')⟩)
end
end DL
namespace DL
open PySem PySem.Spec PyProof.Rows L2
section
variable {X : Cx} {K : PySem.W.Frag} {e a b : Expr} {es : List Expr} {pos p pos2 p2 : Pos} {g ga gb : Ds → Option D} {gA : Ds → Option (List D)}
end
end DL
namespace DL
open PySem PySem.Spec PyProof.Rows L2
section
variable {X : Cx} {e : Expr} {es : List Expr} {pos p : Pos} {g : Ds → Option D} {gA : Ds → Option (List D)}
end
end DL
namespace DL
open PySem
/-! tuple(zip(a, b)) over data -/
@[simp] def zipTD : List D → Option D
  | [.lst ds, .lst es] => some (.tup ((ds.zip es).map fun p => .tup [p.1, p.2]))
  | _ => none
@[simp] def revD : List D → Option D
  | [.lst ds] => some (.lst ds.reverse)
  | _ => none
@[simp] def dictOfD : List D → Option D
  | [.dct ks ds] => some (.dct ks ds)
  | _ => none
@[simp] def asSeq : D → Option (List D)
  | .lst ds => some ds
  | .tup ds => some ds
  | _ => none
@[simp] def anyI (g : GE) : GA := fun δ => (g δ).bind asSeq
mutual
/-- neither lists nor dicts -/
def tree : D → Bool
  | .lst _ => false
  | .dct _ _ => false
  | .tup ds => trees ds
  | _ => true
def trees : List D → Bool
  | [] => true
  | d :: ds => tree d && trees ds
end
def methG (g : GE) (gA : GA) (f : D → List D → Option D) : GE := fun δ => (g δ).bind fun d => (gA δ).bind fun ds => f d ds
theorem meth_of {g : GE} {gA : GA} {f : D → List D → Option D} {δ : Ds} {d : D} {ds : List D} (h1 : g δ = some d) (h2 : gA δ = some ds) : methG g gA f δ = f d ds := by
  unfold methG
  rw [h1, h2]
  rfl
def startsD : D → List D → Option D
  | .str a, [.str b] => some (.bl (Txt.startswith a b))
  | _, _ => none
def endsD : D → List D → Option D
  | .str a, [.str b] => some (.bl (Txt.endswith a b))
  | _, _ => none
def splitD : D → List D → Option D
  | .str a, [.str b] => if (b.length == 0) = false ∧ a.length + 2 ≤ sizeLine ∧ (Txt.split a b).length ≤ sizeLine then some (.lst ((Txt.split a b).map .str)) else none
  | _, _ => none
def partD : D → List D → Option D
  | .str a, [.str b] => if (b.length == 0) = false ∧ a.length ≤ sizeLine then some (.tup [.str (Txt.partition a b).1, .str (Txt.partition a b).2.1, .str (Txt.partition a b).2.2]) else none
  | _, _ => none
def intTD : List D → Option D
  | [.str a] => if a.length ≤ 640 then (PySem.intText? a).map .int else none
  | _ => none
def neverD : GS := fun _ => none
theorem rng1_of {gA : GA} {δ : Ds} {n : Int} (h : gA δ = some [.int n]) (h1 : -(2 ^ 62) ≤ n) (h2 : n < 2 ^ 62) : rng1I gA δ = some (rngD 0 n) := by
  unfold rng1I
  rw [h, Option.bind_some]
  simp only [rng1D]
  rw [if_pos ⟨h1, h2⟩]
end DL
/-! list(reversed(xs)). -/
namespace RevL
open PySem PySem.Spec PyProof.Rows
section
variable {prog : Program} {w : World} {A : Around} {s : Shared} {R : Result → Shared → Prop}
variable {I : Addr} {fp wr : List Addr} {G : Array GenState → Array GenState → Prop} {n : Nat} {P : Nat → Value → Prop} {St : Nat → Shared → Prop}
end
section
variable {prog : Program} {w : World} {A : Around} {E : Value → Shared → Prop} {s : Shared}
variable {I : Addr} {fp wr : List Addr} {G : Array GenState → Array GenState → Prop} {n : Nat} {P : Nat → Value → Prop} {St : Nat → Shared → Prop}
end
end RevL
namespace DL
open PySem PySem.Spec PyProof.Rows L2
theorem Rps.reverse {K : PySem.W.Frag} {H : Hp} {B : BS} : ∀ {ds : List D} {xs : List V}, Rps K H B ds xs → Rps K H B ds.reverse xs.reverse
  | [], _, h => by rw [rps_nil] at h; subst h; simp [rps_nil]
  | d :: ds, _, h => by
    rw [rps_cons] at h
    obtain ⟨x, r, rfl, h1, h2⟩ := h
    rw [List.reverse_cons, List.reverse_cons]
    exact Rps.snoc (Rps.reverse h2) h1
section
variable {X : Cx} {e : Expr} {pos p pos2 p2 : Pos} {g : Ds → Option D}
end
end DL
namespace DL
open PySem PySem.Spec PyProof.Rows L2
/-! ### dicts -/
section
variable {K : PySem.W.Frag} {H : Hp} {B : BS}
end
section
variable {X : Cx} {e a b o : Expr} {es : List Expr} {pos p px : Pos} {g ga gb : Ds → Option D} {x : Str}
end
end DL
namespace L2
open PySem PySem.Spec PyProof.Rows
/-- a def of the text whose defaults stand in dV -/
structure FunV (K : PySem.W.Frag) (x qual : Str) (st : Stmt) (f : Addr) (fd : FuncData) (dV : Value) : Prop where
  ex : ∃ (oc : Value) (od : Option Addr) (kV doc pm : Value) (an : Option Addr) (cdv ct : Value) (osl : Array (Option Value)),
    fd = PySem.W.fnOf x qual (defArgs st) (defBody st) (defScope st) dV kV doc pm an cdv ct ∧ K.lookup f = some ⟨oc, od, .func fd, osl⟩ ∧ PySem.W.codeIn K cdv qual = true
  kp : PySem.W.keepIn K (.ref f) = true
section
variable {P : Program} {w : World} {K : PySem.W.Frag} {mg : Str → Option Value} {base : Heap}
theorem FunV.ok {x qual : Str} {st : Stmt} {f : Addr} {fd : FuncData} {dV : Value} {N ps : List Str} {k : Nat} {sp : Sp} (F : FunV K x qual st f fd dV) (S : FnScope N ps (defScope st)) (len : ∀ vs H Q E, sp vs H Q E → vs.length = ps.length)
    (hbody : ∀ (cdv : Value) (A : Around) (outer : List Env) (s : Shared) (H : Hp) (vs : List V) (Q : VK) (E : XK), Room k (A.deeper (envOfC qual (defScope st) s.heap.objs.size f cdv)) → sp vs H Q E →
      ∃ t, PSs (cxOf CX0 P w K mg base N qual (defScope st) f cdv A outer s H E).nox (defBody st) t ∧ t { nx := fun _ H' => Q .non H', rt := Q } (start N vs) H) : FnOk P w K mg base CX0 (k + 1) f fd ps sp := by
  obtain ⟨oc, od, kV, doc, pm, an, cdv, ct, osl, rfl, lk, hcd⟩ := F.ex
  refine fn_of lk hcd S len fun A outer s H vs Q E hr hsp => ?_
  obtain ⟨t, h, q⟩ := hbody cdv A outer s H vs Q E hr hsp
  exact ⟨t, h.nox, q⟩
end
end L2
namespace DL
open PySem PySem.Spec PyProof.Rows L2
section
variable {P : Program} {w : World} {K : PySem.W.Frag} {mg : Str → Option Value} {base : Heap}
end
section
variable {X : Cx} {e a b : Expr} {es : List Expr} {pos p : Pos} {g ga gb : Ds → Option D} {gA : Ds → Option (List D)}
/-! ### in, of lists and tuples of flat things -/
end
end DL
namespace DL
open PySem PySem.Spec PyProof.Rows L2
end DL
namespace DL
open PySem
end DL
/-! tuple(zip(a, b)): each pair is kept, so the zip's own tuple is not used again. -/
namespace ZipL
open PySem PySem.Spec PyProof.Rows
abbrev IsZ (h : Heap) (z TI TO a : Addr) (f : Bool) : Prop :=
  h.get? z = some { cls := .type "zip", dict := none, data := .fields #[rawInt a, .bool f, .bool false, .ref TI, .ref TO], slots := #[] }
section
variable {prog : Program} {w : World} {A : Around} {E : Value → Shared → Prop} {s : Shared}
end

structure ZSt (h : Heap) (z TI TO i1 i2 l1 l2 S : Addr) (xs ys : Array Value) (i : Nat) : Prop where
  own : (i = 0 ∧ IsZip h z TI TO .none ∧ ∃ p q, IsPair h TO p q) ∨ ∃ a f oa, IsZ h z TI TO a f ∧ h.get? a = some oa ∧ a ≠ z ∧ a ≠ i1 ∧ a ≠ i2 ∧ a ≠ S
  hTI : IsPair h TI (.ref i1) (.ref i2)
  h1 : h.IsListIter i1 l1 i
  h2 : h.IsListIter i2 l2 i
  hl1 : h.IsList l1 xs
  hl2 : h.IsList l2 ys
structure ZLow (z TI TO i1 i2 l1 l2 S : Addr) : Prop where
  z : z < S
  TI : TI < S
  TO : TO < S
  i1 : i1 < S
  i2 : i2 < S
  l1 : l1 < S
  l2 : l2 < S
structure ZG (xs ys : Array Value) (S : Addr) (h : Heap) (as : List Addr) : Prop where
  rise : as.Pairwise (· < ·)
  above : ∀ a ∈ as, S < a
  pairs : ∀ (j : Nat) (a : Addr), as[j]? = some a → ∃ x y, xs[j]? = some x ∧ ys[j]? = some y ∧ IsPair h a x y
section
variable {prog : Program} {w : World} {A : Around} {E : Value → Shared → Prop} {s : Shared} {z TI TO i1 i2 l1 l2 S : Addr} {xs ys : Array Value} {h h' : Heap} {i : Nat}
theorem ZG.there {as : List Addr} (g : ZG xs ys S h as) {a : Addr} (ha : a ∈ as) : a < h.objs.size := by
  obtain ⟨j, hj⟩ := List.mem_iff_getElem?.mp ha
  obtain ⟨_, _, _, _, e⟩ := g.pairs j a hj
  exact Heap.lt_size e
theorem ZSt.keep (x : ZSt h z TI TO i1 i2 l1 l2 S xs ys i) (L : ZLow z TI TO i1 i2 l1 l2 S) (hk : ∀ b o, b ≠ S → h.get? b = some o → h'.get? b = some o) : ZSt h' z TI TO i1 i2 l1 l2 S xs ys i := by
  refine ⟨?_, hk _ _ (Nat.ne_of_lt L.TI) x.hTI, x.h1.at fun o e => hk _ o (Nat.ne_of_lt L.i1) e, x.h2.at fun o e => hk _ o (Nat.ne_of_lt L.i2) e, x.hl1.at fun o e => hk _ o (Nat.ne_of_lt L.l1) e, x.hl2.at fun o e => hk _ o (Nat.ne_of_lt L.l2) e⟩
  rcases x.own with ⟨e, hz, p, q, hp⟩ | ⟨a, f, oa, hz, ha, n1, n2, n3, n4⟩
  · exact .inl ⟨e, hk _ _ (Nat.ne_of_lt L.z) hz, p, q, hk _ _ (Nat.ne_of_lt L.TO) hp⟩
  · exact .inr ⟨a, f, oa, hk _ _ (Nat.ne_of_lt L.z) hz, hk _ _ n4 ha, n1, n2, n3, n4⟩
end
section
variable {prog : Program} {w : World} {A : Around} {s : Shared} {R : Result → Shared → Prop} {z TI TO i1 i2 l1 l2 S lo : Addr} {xs ys : Array Value} {h₁ : Heap}
end
section
variable {prog : Program} {w : World} {A : Around} {E : Value → Shared → Prop} {s : Shared} {z TI TO i1 i2 l1 l2 lo : Addr} {xs ys : Array Value}
end
end ZipL
namespace ZipL
open PySem PySem.Spec PyProof.Rows
section
variable {prog : Program} {w : World} {A : Around} {E : Value → Shared → Prop} {s : Shared} {z TI TO i1 i2 l1 l2 lo : Addr} {xs ys : Array Value}
end
end ZipL
namespace L2
open PySem PySem.Spec PyProof.Rows
section
variable {X : Cx} {pins : List (Addr × Obj)} {σ : List (Option V)} {H : Hp} {s : Shared} {h' : Heap}
end
section
variable {X : Cx} {e : Expr} {es : List Expr} {pos p pos2 p2 : Pos} {x1 x2 : Str} {T1 T2 : String} {r : List V → Hp → VK → Prop} {t : TA}
end
end L2
namespace DL
open PySem PySem.Spec PyProof.Rows L2
section
variable {X : Cx} {e : Expr} {es : List Expr} {pos p pos2 p2 : Pos} {x1 x2 : Str} {T1 T2 : String} {r : List V → Hp → VK → Prop} {gA : Ds → Option (List D)} {f : List D → Option D}
end
end DL
/-! Walks over zip(a, b) and enumerate(a) with two names; dict(a dict); list(range(n)). -/
namespace L2
open PySem PySem.Spec PyProof.Rows
section
variable {X : Cx} {pins : List (Addr × Obj)} {σ : List (Option V)} {H : Hp} {s : Shared} {h' : Heap}
end
section
variable {X : Cx} {elts : List Expr} {x1 : Nat} {tpos : Pos}
end
end L2
namespace DL
open PySem PySem.Spec PyProof.Rows L2
section
variable {X : Cx} {elts : List Expr} {x1 : Nat} {tpos : Pos} {a b : Expr} {p pos : Pos} {gA : Ds → Option (List D)}
end
/-! what is borrowed and gives a tree -/
section
variable {K : PySem.W.Frag} {H : Hp} {B B' : BS}
end
/-! dict(a dict) -/
section
variable {X : Cx} {K : PySem.W.Frag} {e : Expr} {pos p : Pos} {g : Ds → Option D}
end
/-! list(range(n)) -/
section
variable {X : Cx} {e : Expr} {pos p pos2 p2 : Pos} {gA : Ds → Option (List D)}
end
end DL
/-! Methods of texts: startswith, endswith, split, partition; int(text); raise where it is never come to. -/
namespace TxtL
open PySem PySem.Spec PyProof.Rows Builtin Builtin.Str
section
variable {prog : Program} {w : World} {A : Around} {E : Value → Shared → Prop} {s : Shared} {Q : Value → Shared → Prop} {x y : PySem.Str} {t u : Tok}
theorem split_call (hy : (y.length == 0) = false) (hz : x.length + 2 ≤ sizeLine)
    (hq : ∀ (l : List (PySem.Str × Tok)) (k : Nat), l.map (·.1) = Txt.split x y → Q (.ref s.heap.objs.size) { s with heap := s.heap.push { cls := .type "list", data := .seq (strValues l).toArray }, toks := k }) :
    wpAny (model prog w) A (call (.builtin "str.split") [.str x t, .str y u]) Q E s := by
  have hsz : x.length ≤ sizeLine := by omega
  have hsz2 : (partsBetween x (occurrences x y 0 x.length (x.length + 1)) y.length).length ≤ sizeLine := by
    rw [StrLaws.partsBetween_eq]
    have hp : ∀ (cuts : List Nat) (a : Nat), (StrLaws.partsFrom x y.length a cuts).length = cuts.length + 1 := by
      intro cuts
      induction cuts with
      | nil => intro a; rfl
      | cons c r ih => intro a; show (StrLaws.partsFrom x y.length (c + y.length) r).length + 1 = _; rw [ih]; rfl
    rw [hp]
    have := StrLaws.occ_length_le x y 0 x.length (x.length + 1)
    omega
  cases h1 : (decide (x.length < y.length) || decide (strKind x < strKind y))
  · cases hf : (occurrences x y 0 x.length (x.length + 1)).isEmpty
    · refine call_meets F.slot_str_split (typeIs_str _ _ _) F.entry_str_split (F.args_str_split_2 _ _) (meets_str_split_sep x y t u h1 hy hf hsz hsz2) ?_
      show wants Q E _ { s with toks := _, heap := s.heap.push { cls := .type "list", data := .seq (strsFrom s.toks (partsBetween x (occurrences x y 0 x.length (x.length + 1)) y.length)).toArray } }
      rw [strsFrom_eq]
      exact hq (numbered s.toks _) _ ((numbered_texts _ _).trans ((if_neg (ne_true_of_eq_false h1)).trans (if_neg (ne_true_of_eq_false hf))).symm)
    · exact call_meets F.slot_str_split (typeIs_str _ _ _) F.entry_str_split (F.args_str_split_2 _ _) (meets_str_split_not_found x y t u h1 hy hf)
        (hq [(x, t)] s.toks ((if_neg (ne_true_of_eq_false h1)).trans (if_pos hf)).symm)
  · exact call_meets F.slot_str_split (typeIs_str _ _ _) F.entry_str_split (F.args_str_split_2 _ _) (meets_str_split_cannot_occur x y t u h1)
      (hq [(x, t)] s.toks (if_pos h1).symm)
theorem part_call (hy : (y.length == 0) = false) (hz : x.length ≤ sizeLine)
    (h : ∀ ta tb tc k, Q (.ref s.heap.objs.size) { s with heap := s.heap.push { cls := .type "tuple", data := .seq #[.str (Txt.partition x y).1 ta, .str (Txt.partition x y).2.1 tb, .str (Txt.partition x y).2.2 tc] }, toks := k }) :
    wpAny (model prog w) A (call (.builtin "str.partition") [.str x t, .str y u]) Q E s := by
  refine call_meets F.slot_str_partition (typeIs_str _ _ _) F.entry_str_partition (F.args_str_partition_2 _ _) (meets_str_partition x y t u hy hz) ?_
  have h' := h
  unfold Txt.partition at h'
  revert h'
  cases occurrences x y 0 x.length 1 with
  | nil => intro h'; exact h' _ _ _ _
  | cons i r => intro h'; exact h' _ _ _ _
end
end TxtL
namespace L2
open PySem PySem.Spec PyProof.Rows
section
variable {X : Cx}
theorem mt_starts : MtR X "str.startswith" (fun x xs H Q => ∃ a b : PySem.Str, x = .str a ∧ xs = [.str b] ∧ Q (.bl (Txt.startswith a b)) H) := by
  intro pins s σ H x xs v us Q I rx rs h
  obtain ⟨a, b, rfl, rfl, q⟩ := h
  obtain ⟨t, rfl⟩ := rx
  cases rs with
  | cons r rr =>
    cases rr
    obtain ⟨u, rfl⟩ := r
    exact SC.startswith ⟨.bl _, H, I, rfl, q⟩
theorem mt_ends : MtR X "str.endswith" (fun x xs H Q => ∃ a b : PySem.Str, x = .str a ∧ xs = [.str b] ∧ Q (.bl (Txt.endswith a b)) H) := by
  intro pins s σ H x xs v us Q I rx rs h
  obtain ⟨a, b, rfl, rfl, q⟩ := h
  obtain ⟨t, rfl⟩ := rx
  cases rs with
  | cons r rr =>
    cases rr
    obtain ⟨u, rfl⟩ := r
    exact SC.endswith ⟨.bl _, H, I, rfl, q⟩
theorem vals_strs : ∀ l : List (PySem.Str × Tok), Vals ((l.map (·.1)).map V.str) (strValues l)
  | [] => .nil
  | p :: l => .cons ⟨p.2, rfl⟩ (vals_strs l)
theorem mt_split : MtR X "str.split" (fun x xs H Q => ∃ a b : PySem.Str, x = .str a ∧ xs = [.str b] ∧ (b.length == 0) = false ∧ a.length + 2 ≤ sizeLine ∧ (Txt.split a b).length ≤ sizeLine ∧ ∀ l, H l = none → Q (.ref l) (upd H l (.lst ((Txt.split a b).map V.str)))) := by
  intro pins s σ H x xs v us Q I rx rs h
  obtain ⟨a, b, rfl, rfl, hb, hz, hl, q⟩ := h
  obtain ⟨t, rfl⟩ := rx
  cases rs with
  | cons r rr =>
    cases rr
    obtain ⟨u, rfl⟩ := r
    refine TxtL.split_call hb hz fun l k e => ?_
    have hf : H s.heap.objs.size = none := I.hok.fresh (Nat.le_refl _)
    refine ⟨.ref s.heap.objs.size, _, I.laid (a := s.heap.objs.size) (o := .lst ((Txt.split a b).map V.str)) (t' := k) (fun _ _ q => Heap.get?_push_of_some _ q) (Nat.le_refl _) ⟨by rw [List.length_map]; exact hl, strValues l, 0, by rw [← e]; exact vals_strs l, Heap.get?_push_size _ rfl⟩, rfl, q _ hf⟩
theorem mt_part : MtR X "str.partition" (fun x xs H Q => ∃ a b : PySem.Str, x = .str a ∧ xs = [.str b] ∧ (b.length == 0) = false ∧ a.length ≤ sizeLine ∧ ∀ l, H l = none → Q (.ref l) (upd H l (.tup [.str (Txt.partition a b).1, .str (Txt.partition a b).2.1, .str (Txt.partition a b).2.2]))) := by
  intro pins s σ H x xs v us Q I rx rs h
  obtain ⟨a, b, rfl, rfl, hb, hz, q⟩ := h
  obtain ⟨t, rfl⟩ := rx
  cases rs with
  | cons r rr =>
    cases rr
    obtain ⟨u, rfl⟩ := r
    refine TxtL.part_call hb hz fun ta tb tc k => ?_
    have hf : H s.heap.objs.size = none := I.hok.fresh (Nat.le_refl _)
    refine ⟨.ref s.heap.objs.size, _, I.laid (a := s.heap.objs.size) (o := .tup [.str (Txt.partition a b).1, .str (Txt.partition a b).2.1, .str (Txt.partition a b).2.2]) (t' := k) (fun _ _ q => Heap.get?_push_of_some _ q) (Nat.le_refl _)
      ⟨(by show 3 ≤ sizeLine; decide), [.str (Txt.partition a b).1 ta, .str (Txt.partition a b).2.1 tb, .str (Txt.partition a b).2.2 tc], .cons ⟨_, rfl⟩ (.cons ⟨_, rfl⟩ (.cons ⟨_, rfl⟩ .nil)), ⟨_, Heap.get?_push_size _ rfl, rfl, _, rfl⟩⟩, rfl, q _ hf⟩
theorem call_int_text : CallR X (.type "int") (fun xs H Q => ∃ (a : PySem.Str) (n : Int), xs = [.str a] ∧ PySem.intText? a = some n ∧ a.length ≤ 640 ∧ Q (.int n) H) := by
  intro pins s σ H xs us Q I rs h
  obtain ⟨a, n, rfl, hn, hl, q⟩ := h
  cases rs with
  | cons r rr =>
    cases rr
    obtain ⟨u, rfl⟩ := r
    exact PySem.W.KIN.call_text hn hl ⟨.int n, H, I.tok _, ⟨_, rfl⟩, q⟩
end
end L2
namespace DL
open PySem PySem.Spec PyProof.Rows L2
section
variable {X : Cx} {K : PySem.W.Frag} {o e : Expr} {apos cpos : Pos} {g : Ds → Option D} {gA : Ds → Option (List D)} {name : PySem.Str} {id : String} {r : V → List V → Hp → VK → Prop} {f : D → List D → Option D}
/-- a method of a text, by data -/
def MfR (K : PySem.W.Frag) (r : V → List V → Hp → VK → Prop) (f : D → List D → Option D) : Prop := ∀ (H : Hp) (B : BS) (dx : D) (xs : List V) (ds : List D) (d : D) (Q : VK), (∀ a, B a → H a ≠ none) → Rps K H B ds xs → f dx ds = some d → (∀ v H', Same H H' → Rp K H' B d v → Q v H') → ∃ a, dx = .str a ∧ r (.str a) xs H Q
theorem pd_smeth (slot : Slot "str" name id) (hty : typeOf (.builtin id) = pure (.type "method_descriptor")) (hm : MtR X id r) (hf : MfR X.K r f) (hstr : ∀ d ds e, f d ds = some e → ∃ a, d = .str a) (ho : PD X o g) (ha : PDA X [e] gA) (hbase : attributeBase o name X.env (eval o X.env) = eval o X.env := by rfl)
    (hfew : ((backTo cpos (starEach [e] X.env)).all (fun x => !x.1) && (backToKw cpos (keywordEach [] X.env)).all (fun x => x.1.isSome)
      && decide ([e].length + ([] : List Keyword).length + (if ([] : List Keyword).isEmpty then 0 else 1) < 30)) = true := by rfl)
    (hline : (apos.endLine == cpos.line) = true := by rfl) (hs : starEach [e] X.env = (false, eval e X.env) :: starEach [] X.env := by rfl) (hplain : (backTo cpos (starEach [] X.env)).any (·.1) = false := by rfl) :
    PD X (.Call (.Attribute o name apos) [e] [] cpos) (methG g gA f) := .mk fun B δ =>
  (pe_bm F.plainAttrs_str slot hty hm (ho B δ) (ha B δ) hbase hfew hline hs hplain).imp fun σ H Q ⟨d, en, h, k⟩ => by
    unfold methG at h
    cases e1 : g δ with
    | none => rw [e1] at h; cases h
    | some x =>
      cases e2 : gA δ with
      | none => rw [e1, e2] at h; cases h
      | some ds =>
        rw [e1, e2] at h
        simp only [Option.bind_some] at h
        obtain ⟨a, rfl⟩ := hstr x ds d h
        refine ⟨_, en, e1, fun v H1 s1 r1 => ?_⟩
        rw [rp_str] at r1
        subst r1
        refine ⟨rfl, _, en.same s1, e2, fun vs H2 s2 r2 => ?_⟩
        obtain ⟨a', e', q⟩ := hf H2 B (.str a) vs ds d Q ((en.same s1).same s2).bad r2 h fun v H' s' r' => k v H' ((s1.trans s2).trans s') r'
        cases e'
        exact q
theorem one_str {H : Hp} {B : BS} {y : PySem.Str} {xs : List V} (r : Rps K H B [.str y] xs) : xs = [.str y] := by
  rw [rps_cons] at r
  obtain ⟨x, t, rfl, r1, r2⟩ := r
  rw [rps_nil] at r2
  rw [rp_str] at r1
  rw [r1, r2]
theorem mf_starts : MfR K (fun x xs H Q => ∃ a b : PySem.Str, x = .str a ∧ xs = [.str b] ∧ Q (.bl (Txt.startswith a b)) H) startsD := by
  intro H B dx xs ds d Q bad r h k
  unfold startsD at h
  split at h <;> try cases h
  exact ⟨_, rfl, _, _, rfl, one_str r, k _ H (Same.refl H) (by rw [rp_bl])⟩
theorem mf_ends : MfR K (fun x xs H Q => ∃ a b : PySem.Str, x = .str a ∧ xs = [.str b] ∧ Q (.bl (Txt.endswith a b)) H) endsD := by
  intro H B dx xs ds d Q bad r h k
  unfold endsD at h
  split at h <;> try cases h
  exact ⟨_, rfl, _, _, rfl, one_str r, k _ H (Same.refl H) (by rw [rp_bl])⟩
theorem rps_strs {H : Hp} {B : BS} : ∀ l : List PySem.Str, Rps K H B (l.map D.str) (l.map V.str)
  | [] => by simp [rps_nil]
  | x :: l => by rw [List.map_cons, List.map_cons, rps_cons]; exact ⟨_, _, rfl, by rw [rp_str], rps_strs l⟩
theorem mf_split : MfR K (fun x xs H Q => ∃ a b : PySem.Str, x = .str a ∧ xs = [.str b] ∧ (b.length == 0) = false ∧ a.length + 2 ≤ sizeLine ∧ (Txt.split a b).length ≤ sizeLine ∧ ∀ l, H l = none → Q (.ref l) (upd H l (.lst ((Txt.split a b).map V.str)))) splitD := by
  intro H B dx xs ds d Q bad r h k
  unfold splitD at h
  split at h <;> try cases h
  split at h <;> try cases h
  rename_i a b hc
  refine ⟨_, rfl, _, _, rfl, one_str r, hc.1, hc.2.1, hc.2.2, fun l hl => k _ _ (same_upd hl) ?_⟩
  rw [rp_lst]
  exact ⟨l, _, rfl, .inl ⟨fun z => bad l z hl, .inl upd_same⟩, rps_strs _⟩
theorem mf_part : MfR K (fun x xs H Q => ∃ a b : PySem.Str, x = .str a ∧ xs = [.str b] ∧ (b.length == 0) = false ∧ a.length ≤ sizeLine ∧ ∀ l, H l = none → Q (.ref l) (upd H l (.tup [.str (Txt.partition a b).1, .str (Txt.partition a b).2.1, .str (Txt.partition a b).2.2]))) partD := by
  intro H B dx xs ds d Q bad r h k
  unfold partD at h
  split at h <;> try cases h
  split at h <;> try cases h
  rename_i a b hc
  refine ⟨_, rfl, _, _, rfl, one_str r, hc.1, hc.2, fun l hl => k _ _ (same_upd hl) ?_⟩
  rw [rp_tup]
  exact ⟨l, _, rfl, .inl ⟨fun z => bad l z hl, .inl upd_same⟩, rps_strs [_, _, _]⟩
theorem str_starts (d : D) (ds : List D) (e : D) (h : startsD d ds = some e) : ∃ a, d = .str a := by
  unfold startsD at h
  split at h <;> try cases h
  exact ⟨_, rfl⟩
theorem str_ends (d : D) (ds : List D) (e : D) (h : endsD d ds = some e) : ∃ a, d = .str a := by
  unfold endsD at h
  split at h <;> try cases h
  exact ⟨_, rfl⟩
theorem str_split (d : D) (ds : List D) (e : D) (h : splitD d ds = some e) : ∃ a, d = .str a := by
  unfold splitD at h
  split at h <;> try cases h
  exact ⟨_, rfl⟩
theorem str_part (d : D) (ds : List D) (e : D) (h : partD d ds = some e) : ∃ a, d = .str a := by
  unfold partD at h
  split at h <;> try cases h
  exact ⟨_, rfl⟩
theorem fn_intT : FnR K (fun xs H Q => ∃ (a : PySem.Str) (n : Int), xs = [.str a] ∧ PySem.intText? a = some n ∧ a.length ≤ 640 ∧ Q (.int n) H) intTD := by
  intro H B xs ds d Q bad r h k
  unfold intTD at h
  split at h <;> try cases h
  rename_i a
  split at h <;> try cases h
  rename_i hl
  cases e : PySem.intText? a with
  | none => rw [e] at h; cases h
  | some n =>
    rw [e] at h
    cases h
    exact ⟨a, n, one_str r, e, hl, k _ H (Same.refl H) (by rw [rp_int])⟩
/-- a def of which nothing is asked -/
theorem fnOk_never {P : Program} {w : World} {K : PySem.W.Frag} {mg : PySem.Str → Option Value} {base : Heap} {k : Nat} {f : Addr} {fd : FuncData} {ps : List PySem.Str} : FnOk P w K mg base CX0 k f fd ps (spD K fun _ => none) :=
  ⟨fun vs H Q E ⟨_, _, _, _, _, h, _⟩ => (by cases h), fun A outer s H args us vs Q E _ _ _ _ ⟨_, _, _, _, _, h, _⟩ => (by cases h)⟩
/-- a statement that is never come to -/
theorem psd_never {st : Stmt} : PSD X st neverD := .mk fun H₀ B₀ δ pins s σ H D I ⟨r, en, hq, k⟩ => by unfold neverD at hq; cases hq
end
end DL
namespace W
open PySem DL
def m_is_whole : List D → Option D
  | [d] => some (.bl (isInt d && !isBool d))
  | _ => none
def G_is_whole : GS := (seqD (retD (andG (isiG isInt (gv 0)) (notG (isiG isBool (gv 0)))))
  nilD)
theorem hf_is_whole (ds : List D) (d : D) (h : m_is_whole ds = some d) : ds.length = 1 ∧ G_is_whole (dStart ["thing"] ds) = some (.rt d) := by
  unfold m_is_whole at h
  split at h
  · cases h
    refine ⟨rfl, ?_⟩
    rename_i x
    cases x <;> rfl
  · cases h
def hasAll (x s : Str) : Bool := x.cps.toList.all fun c => decide (c ∈ s.cps.toList)
def m_is_spelled : List D → Option D
  | [.str x, .str s, .int m] => if x.length ≤ sizeLine then some (.bl (decide ((x.length : Int) ≤ m) && hasAll x s)) else none
  | [_, .str _, .int _] => some (.bl false)
  | _ => none
def G_is_spelled : GS := (seqD (retD (andG (isiG isStr (gv 0)) (andG (o2 (oA (consA (gv 0) nilA) lenD) (gv 2) leD) (oA (consA (compG 1 [1] (strI (gv 0)) (gN 0) noT (o2 (gv 0) (gv 1) inD)) nilA) allD))))
  nilD)
theorem comp_in (x s : Str) : compD (gN 0) noT (o2 (gv 0) (gv 1) inD) [.un, .sh (.str s)] (signs x) = some (x.cps.toList.map fun c => .bl (decide (c ∈ s.cps.toList))) := by
  have h := compD_map (f := gN 0) (gt := noT) (ge := o2 (gv 0) (gv 1) inD) (δ := [.un, .sh (.str s)]) (fun d => match d with | .str c => .bl (inS c s) | _ => .non) (items := signs x) (fun d hd => by
    obtain ⟨c, _, rfl⟩ := List.mem_map.mp hd
    exact ⟨[.sh (.str ⟨#[c]⟩), .sh (.str s)], rfl, rfl, rfl⟩)
  rw [h]
  unfold signs
  rw [List.map_map]
  congr 1
  refine List.map_congr_left fun c _ => ?_
  show D.bl (inS ⟨#[c]⟩ s) = _
  rw [inS_one]
theorem hf_is_spelled (ds : List D) (d : D) (h : m_is_spelled ds = some d) : ds.length = 3 ∧ G_is_spelled (dStart ["thing", "signs", "most"] ds) = some (.rt d) := by
  unfold m_is_spelled at h
  split at h
  · split at h
    · rename_i x s m hz
      cases h
      refine ⟨rfl, ?_⟩
      have hs : (signs x).length ≤ sizeLine := by unfold signs; rw [List.length_map]; exact hz
      have e1 := comp_in x s
      unfold G_is_spelled
      simp only [dStart, seqD, retD, andG, isiG, gv, ob, asB, o2, oA, consA, nilA, lenD, leD, ii, hz, hs, strI, asSigns, compG, dComp, capSl, allD, isStr, nilD, List.map, List.length, List.replicate, List.append, if_true, Option.bind_some, Option.map_some, List.getElem?_cons_zero, List.getElem?_cons_succ, List.append_nil, List.nil_append, List.cons_append, e1, bools_map]
      by_cases hm : (x.length : Int) ≤ m
      · simp [hm, hasAll]
      · simp [hm]
    · cases h
  · cases h
    refine ⟨rfl, ?_⟩
    rename_i y _ _ hn
    cases y <;> first | rfl | exact (hn _ rfl).elim | exact (hn _ _ rfl).elim | exact (hn _ _ _ rfl).elim
  · cases h
def nameS : Str := "0123456789abcdefghijklmnopqrstuvwxyz"
def wordS : Str := " 0123456789abcdefghijklmnopqrstuvwxyz"
def isName (x : Str) : Bool := (decide ((x.length : Int) ≤ 8) && hasAll x nameS) && decide (0 < (x.length : Int))
def isWord (x : Str) : Bool := decide ((x.length : Int) ≤ 20) && hasAll x wordS
def m_is_name : List D → Option D
  | [.str x] => if x.length ≤ sizeLine then some (.bl (isName x)) else none
  | [_] => some (.bl false)
  | _ => none
def G_is_name : GS := (seqD (retD (andG (oA (consA (gv 0) (consA (gc (.str "0123456789abcdefghijklmnopqrstuvwxyz")) (consA (gc (.int 8)) nilA))) m_is_spelled) (o2 (oA (consA (gv 0) nilA) lenD) (gc (.int 0)) gtD)))
  nilD)
theorem hf_is_name (ds : List D) (d : D) (h : m_is_name ds = some d) : ds.length = 1 ∧ G_is_name (dStart ["thing"] ds) = some (.rt d) := by
  unfold m_is_name at h
  split at h
  · split at h
    · rename_i x hz
      cases h
      refine ⟨rfl, ?_⟩
      unfold G_is_name
      have e1 : m_is_spelled [.str x, .str nameS, .int 8] = some (.bl (decide ((x.length : Int) ≤ 8) && hasAll x nameS)) := by
        exact if_pos hz
      have e2 : ("0123456789abcdefghijklmnopqrstuvwxyz" : Str) = nameS := rfl
      cases hb : (decide ((x.length : Int) ≤ 8) && hasAll x nameS) <;> simp [e1, e2, hb, hz, isName]
    · cases h
  · cases h
    refine ⟨rfl, ?_⟩
    rename_i y hn
    cases y <;> first | rfl | exact (hn _ rfl).elim
  · cases h
def m_is_word : List D → Option D
  | [.str x] => if x.length ≤ sizeLine then some (.bl (isWord x)) else none
  | [_] => some (.bl false)
  | _ => none
def G_is_word : GS := (seqD (retD (oA (consA (gv 0) (consA (gc (.str " 0123456789abcdefghijklmnopqrstuvwxyz")) (consA (gc (.int 20)) nilA))) m_is_spelled))
  nilD)
theorem hf_is_word (ds : List D) (d : D) (h : m_is_word ds = some d) : ds.length = 1 ∧ G_is_word (dStart ["thing"] ds) = some (.rt d) := by
  unfold m_is_word at h
  split at h
  · split at h
    · rename_i x hz
      cases h
      refine ⟨rfl, ?_⟩
      unfold G_is_word
      have e1 : m_is_spelled [.str x, .str wordS, .int 20] = some (.bl (decide ((x.length : Int) ≤ 20) && hasAll x wordS)) := by
        exact if_pos hz
      have e2 : (" 0123456789abcdefghijklmnopqrstuvwxyz" : Str) = wordS := rfl
      simp [e1, e2, isWord]
    · cases h
  · cases h
    refine ⟨rfl, ?_⟩
    rename_i y hn
    cases y <;> first | rfl | exact (hn _ rfl).elim
  · cases h
def marks (x : D) (m : Str) : Bool := match x with
  | .str y => decide (y = m)
  | _ => false
def m_is_marked : List D → Option D
  | [.tup xs, .str m, .int c] => match xs with
    | x :: r => some (.bl (decide (((r.length + 1 : Nat) : Int) = c) && marks x m))
    | [] => if (0 : Int) = c then none else some (.bl false)
  | [_, .str _, .int _] => some (.bl false)
  | _ => none
def G_is_marked : GS := (seqD (retD (andG (isiG isTup (gv 0)) (andG (o2 (oA (consA (gv 0) nilA) lenD) (gv 2) eqD) (andG (isiG isStr (o2 (gv 0) (gc (.int 0)) ixD)) (o2 (o2 (gv 0) (gc (.int 0)) ixD) (gv 1) eqD)))))
  nilD)
theorem hf_is_marked (ds : List D) (d : D) (h : m_is_marked ds = some d) : ds.length = 3 ∧ G_is_marked (dStart ["thing", "mark", "count"] ds) = some (.rt d) := by
  unfold m_is_marked at h
  split at h
  · rename_i xs m c
    cases xs with
    | nil =>
      dsimp only at h
      split at h
      · cases h
      · rename_i hc
        cases h
        refine ⟨rfl, ?_⟩
        simp [G_is_marked, hc]
    | cons x r =>
      cases h
      refine ⟨rfl, ?_⟩
      by_cases hc : ((r.length + 1 : Nat) : Int) = c
      · have hx : atI (x :: r) 0 = some x := by simp [atI, ixN]
        cases x <;> simp [G_is_marked, hc, hx, marks] <;> simp_all
      · have hc' : ¬ ((r.length : Int) + 1 = c) := by simpa using hc
        simp [G_is_marked, hc']
  · cases h
    refine ⟨rfl, ?_⟩
    rename_i y _ _ hn
    cases y <;> first | rfl | exact (hn _ rfl).elim | exact (hn _ _ rfl).elim | exact (hn _ _ _ rfl).elim
  · cases h
def m_is_link : List D → Option D
  | [.tup [x, .int i]] => some (.bl (marks x "at" && decide (0 ≤ i)))
  | [_] => some (.bl false)
  | _ => none
def G_is_link : GS := (seqD (retD (andG (oA (consA (gv 0) (consA (gc (.str "at")) (consA (gc (.int 2)) nilA))) m_is_marked) (andG (oA (consA (o2 (gv 0) (gc (.int 1)) ixD) nilA) m_is_whole) (o2 (o2 (gv 0) (gc (.int 1)) ixD) (gc (.int 0)) geD))))
  nilD)
theorem hf_is_link (ds : List D) (d : D) (h : m_is_link ds = some d) : ds.length = 1 ∧ G_is_link (dStart ["thing"] ds) = some (.rt d) := by
  have key : ∀ x : D, ∃ b, m_is_link [x] = some (.bl b) ∧ G_is_link (dStart ["thing"] [x]) = some (.rt (.bl b)) := by
    intro x
    cases x with
    | tup xs =>
      match xs with
      | [] => exact ⟨false, rfl, rfl⟩
      | [x] => exact ⟨false, rfl, by simp [G_is_link, m_is_marked]⟩
      | [x, y] =>
        have e1 : m_is_marked [.tup [x, y], .str "at", .int 2] = some (.bl (marks x "at")) := by simp [m_is_marked]
        have e2 : atI [x, y] 1 = some y := rfl
        cases hm : marks x "at" with
        | false =>
          refine ⟨false, ?_, by simp [G_is_link, e1, hm]⟩
          cases y <;> simp [m_is_link, hm]
        | true =>
          cases y with
          | int i => exact ⟨decide (0 ≤ i), by simp [m_is_link, hm], by simp [G_is_link, e1, hm, e2, m_is_whole]⟩
          | _ => exact ⟨false, by simp [m_is_link], by simp [G_is_link, e1, hm, e2, m_is_whole]⟩
      | x :: y :: z :: r =>
        refine ⟨false, by simp [m_is_link], ?_⟩
        have : ¬ ((r.length : Int) + 1 + 1 + 1 = 2) := by omega
        simp [G_is_link, m_is_marked, this]
    | _ => exact ⟨false, rfl, rfl⟩
  match ds, h with
  | [x], h =>
    obtain ⟨b, h1, h2⟩ := key x
    rw [h1] at h
    cases h
    exact ⟨rfl, h2⟩
  | x :: y :: r, h => simp [m_is_link] at h
def m_is_value : List D → Option D
  | [.non] => some (.bl true)
  | [.int _] => some (.bl true)
  | [.tup xs] => m_is_link [.tup xs]
  | [_] => some (.bl false)
  | _ => none
def G_is_value : GS := (seqD (retD (orG (o2 (gv 0) (gc .non) isND) (orG (oA (consA (gv 0) nilA) m_is_whole) (oA (consA (gv 0) nilA) m_is_link))))
  nilD)
theorem hf_is_value (ds : List D) (d : D) (h : m_is_value ds = some d) : ds.length = 1 ∧ G_is_value (dStart ["thing"] ds) = some (.rt d) := by
  match ds, h with
  | [x], h =>
    refine ⟨rfl, ?_⟩
    cases x with
    | tup xs =>
      have h' : m_is_link [.tup xs] = some d := h
      have e1 : m_is_whole [.tup xs] = some (.bl false) := rfl
      simp [G_is_value, e1, h']
    | non => cases h; rfl
    | int i => cases h; rfl
    | bl b => cases h; rfl
    | str x => cases h; rfl
    | lst x => cases h; rfl
    | dct x y => cases h; rfl
  | x :: y :: r, h => simp [m_is_value] at h
def G_is_tuple : GS := (seqD (retD (andG (isiG isTup (gv 0)) (o2 (oA (consA (gv 0) nilA) lenD) (gv 1) leD)))
  nilD)
def N_is_tuple : List Str := ["thing", "most"]
def m_is_tuple : List D → Option D := mkF 2 N_is_tuple G_is_tuple
def G_is_values : GS := (seqD (retD (andG (oA (consA (gv 0) (consA (gc (.int 12)) nilA)) m_is_tuple) (oA (consA (compG 1 [] (tupI (gv 0)) (gN 0) noT (oA (consA (gv 0) nilA) m_is_value)) nilA) allD)))
  nilD)
def N_is_values : List Str := ["thing"]
def m_is_values : List D → Option D := mkF 1 N_is_values G_is_values
def G_is_pair : GS := (seqD (retD (andG (isiG isTup (gv 0)) (andG (o2 (oA (consA (gv 0) nilA) lenD) (gc (.int 2)) eqD) (andG (oA (consA (o2 (gv 0) (gc (.int 0)) ixD) nilA) m_is_name) (oA (consA (o2 (gv 0) (gc (.int 1)) ixD) nilA) m_is_value)))))
  nilD)
def N_is_pair : List Str := ["thing"]
def m_is_pair : List D → Option D := mkF 1 N_is_pair G_is_pair
def G_is_pairs : GS := (seqD (ifD (tOrG (tNotG (ob (oA (consA (gv 0) (consA (gc (.int 12)) nilA)) m_is_tuple))) (tNotG (ob (oA (consA (compG 1 [] (tupI (gv 0)) (gN 0) noT (oA (consA (gv 0) nilA) m_is_pair)) nilA) allD))))
  (seqD (retD (gc (.bl false)))
  nilD)
  nilD)
  (seqD (retD (o2 (oA (consA (compG 1 [] (tupI (gv 0)) (gN 0) noT (o2 (gv 0) (gc (.int 0)) ixD)) nilA) lenSetD) (oA (consA (gv 0) nilA) lenD) eqD))
  nilD))
def N_is_pairs : List Str := ["thing"]
def m_is_pairs : List D → Option D := mkF 1 N_is_pairs G_is_pairs
def G_is_part : GS := (seqD (ifD (ob (oA (consA (gv 0) (consA (gc (.str "text")) (consA (gc (.int 2)) nilA))) m_is_marked))
  (seqD (retD (oA (consA (o2 (gv 0) (gc (.int 1)) ixD) nilA) m_is_word))
  nilD)
  nilD)
  (seqD (ifD (ob (oA (consA (gv 0) (consA (gc (.str "row")) (consA (gc (.int 2)) nilA))) m_is_marked))
  (seqD (retD (oA (consA (o2 (gv 0) (gc (.int 1)) ixD) nilA) m_is_values))
  nilD)
  nilD)
  (seqD (ifD (ob (oA (consA (gv 0) (consA (gc (.str "table")) (consA (gc (.int 2)) nilA))) m_is_marked))
  (seqD (retD (oA (consA (o2 (gv 0) (gc (.int 1)) ixD) nilA) m_is_pairs))
  nilD)
  nilD)
  (seqD (retD (andG (oA (consA (gv 0) (consA (gc (.str "record")) (consA (gc (.int 3)) nilA))) m_is_marked) (andG (oA (consA (o2 (gv 0) (gc (.int 1)) ixD) nilA) m_is_name) (oA (consA (o2 (gv 0) (gc (.int 2)) ixD) nilA) m_is_pairs))))
  nilD))))
def N_is_part : List Str := ["thing"]
def m_is_part : List D → Option D := mkF 1 N_is_part G_is_part
def G_values : GS := (seqD (ifD (ob (o2 (o2 (gv 0) (gc (.int 0)) ixD) (gc (.str "text")) eqD))
  (seqD (retD (lstG nilA))
  nilD)
  nilD)
  (seqD (ifD (ob (o2 (o2 (gv 0) (gc (.int 0)) ixD) (gc (.str "row")) eqD))
  (seqD (retD (oA (consA (o2 (gv 0) (gc (.int 1)) ixD) nilA) lstOfD))
  nilD)
  nilD)
  (seqD (retD (compG 1 [] (tupI (o2 (gv 0) (unG negD (gc (.int 1))) ixD)) (gN 0) noT (o2 (gv 0) (gc (.int 1)) ixD)))
  nilD)))
def N_values : List Str := ["part"]
def m_values : List D → Option D := mkF 1 N_values G_values
def G_links : GS := (seqD (retD (compG 1 [] (lstI (oA (consA (gv 0) nilA) m_values)) (gN 0) (ob (isiG isTup (gv 0))) (o2 (gv 0) (gc (.int 1)) ixD)))
  nilD)
def N_links : List Str := ["part"]
def m_links : List D → Option D := mkF 1 N_links G_links
def G_links_lead : GS := (seqD (forG (tupI (gv 0)) (gN 1)
  (seqD (forG (lstI (oA (consA (gv 1) nilA) m_links)) (gN 2)
  (seqD (ifD (ob (o2 (gv 2) (oA (consA (gv 0) nilA) lenD) geD))
  (seqD (retD (gc (.bl false)))
  nilD)
  nilD)
  nilD))
  nilD))
  (seqD (retD (gc (.bl true)))
  nilD))
def N_links_lead : List Str := ["web", "part", "k"]
def m_links_lead : List D → Option D := mkF 1 N_links_lead G_links_lead
def G_pair_names : GS := (seqD (ifD (tOrG (ob (o2 (o2 (gv 0) (gc (.int 0)) ixD) (gc (.str "text")) eqD)) (ob (o2 (o2 (gv 0) (gc (.int 0)) ixD) (gc (.str "row")) eqD)))
  (seqD (retD (lstG nilA))
  nilD)
  nilD)
  (seqD (retD (compG 1 [] (tupI (o2 (gv 0) (unG negD (gc (.int 1))) ixD)) (gN 0) noT (o2 (gv 0) (gc (.int 0)) ixD)))
  nilD))
def N_pair_names : List Str := ["part"]
def m_pair_names : List D → Option D := mkF 1 N_pair_names G_pair_names
def G_count_names : GS := (seqD (ownD 1 (lstG nilA))
  (seqD (forG (tupI (gv 0)) (gN 2)
  (seqD (exprX (extX 1 (oA (consA (gv 2) nilA) m_pair_names)))
  (seqD (ifD (ob (o2 (o2 (gv 2) (gc (.int 0)) ixD) (gc (.str "record")) eqD))
  (seqD (exprX (appX 1 (o2 (gv 2) (gc (.int 1)) ixD)))
  nilD)
  nilD)
  nilD)))
  (seqD (retD (borA (oA (consA (gv 1) nilA) lenSetD)))
  nilD)))
def N_count_names : List Str := ["web", "names", "part"]
def m_count_names : List D → Option D := mkF 1 N_count_names G_count_names
def G_is_web : GS := (seqD (ifD (tOrG (tNotG (ob (oA (consA (gv 0) (consA (gc (.int 60)) nilA)) m_is_tuple))) (ob (o2 (oA (consA (gv 0) nilA) lenD) (gc (.int 0)) eqD)))
  (seqD (retD (gc (.bl false)))
  nilD)
  nilD)
  (seqD (ifD (tNotG (ob (oA (consA (compG 1 [] (tupI (gv 0)) (gN 0) noT (oA (consA (gv 0) nilA) m_is_part)) nilA) allD)))
  (seqD (retD (gc (.bl false)))
  nilD)
  nilD)
  (seqD (retD (andG (oA (consA (gv 0) nilA) m_links_lead) (o2 (oA (consA (gv 0) nilA) m_count_names) (gc (.int 60)) leD)))
  nilD)))
def N_is_web : List Str := ["thing"]
def m_is_web : List D → Option D := mkF 1 N_is_web G_is_web
end W
namespace W
open PySem DL
/-! ### what is_part tells -/
theorem tuple_t (ds : List D) (m : Int) : m_is_tuple [.tup ds, .int m] = some (.bl (decide ((ds.length : Int) ≤ m))) := by
  simp [m_is_tuple, mkF, N_is_tuple, G_is_tuple]
def valB : D → Bool
  | .non => true
  | .int _ => true
  | .tup [x, .int i] => marks x "at" && decide (0 ≤ i)
  | _ => false
theorem value_b (d : D) : m_is_value [d] = some (.bl (valB d)) := by
  cases d with
  | tup xs =>
    match xs with
    | [] => rfl
    | [x] => rfl
    | [x, y] => cases y <;> rfl
    | x :: y :: z :: r => simp [m_is_value, m_is_link, valB]
  | _ => rfl
theorem comp_vals (ds : List D) : compD (gN 0) noT (oA (consA (gv 0) nilA) m_is_value) [.un] ds = some (ds.map fun d => .bl (valB d)) :=
  compD_map (fun d => .bl (valB d)) fun d _ => ⟨[.sh d], rfl, rfl, value_b d⟩
theorem values_t (ds : List D) (hl : ds.length ≤ sizeLine) : m_is_values [.tup ds] = some (.bl (decide ((ds.length : Int) ≤ 12) && ds.all valB)) := by
  have e1 := comp_vals ds
  have e2 := tuple_t ds 12
  have e3 := bools_map valB ds
  by_cases h : (ds.length : Int) ≤ 12
  · simp [m_is_values, mkF, N_is_values, G_is_values, e1, e2, e3, hl, h]
  · simp [m_is_values, mkF, N_is_values, G_is_values, e2, h]
def nameB : D → Bool
  | .str x => isName x
  | _ => false
/-- a text not too long -/
def okS : D → Prop
  | .str x => x.length ≤ sizeLine
  | _ => True
theorem name_b (d : D) (h : okS d) : m_is_name [d] = some (.bl (nameB d)) := by
  cases d <;> first | rfl | exact if_pos h
def pairB : D → Bool
  | .tup [n, v] => nameB n && valB v
  | _ => false
def okP : D → Prop
  | .tup (n :: _) => okS n
  | _ => True
theorem pair_b (d : D) (h : okP d) : m_is_pair [d] = some (.bl (pairB d)) := by
  cases d with
  | tup xs =>
    match xs, h with
    | [], _ => rfl
    | [x], h => simp [m_is_pair, mkF, N_is_pair, G_is_pair, pairB]
    | [x, y], h =>
      have e1 := name_b x h
      have e2 := value_b y
      have a0 : atI [x, y] 0 = some x := rfl
      have a1 : atI [x, y] 1 = some y := rfl
      cases hn : nameB x <;> simp [m_is_pair, mkF, N_is_pair, G_is_pair, pairB, e1, e2, a0, a1, hn]
    | x :: y :: z :: r, h =>
      have : ¬ ((r.length : Int) + 1 + 1 + 1 = 2) := by omega
      simp [m_is_pair, mkF, N_is_pair, G_is_pair, pairB, this]
  | _ => rfl
def fstS : D → Str
  | .tup (.str n :: _) => n
  | _ => ""
theorem comp_pairs (ds : List D) (h : ∀ d ∈ ds, okP d) : compD (gN 0) noT (oA (consA (gv 0) nilA) m_is_pair) [.un] ds = some (ds.map fun d => .bl (pairB d)) :=
  compD_map (fun d => .bl (pairB d)) fun d hd => ⟨[.sh d], rfl, rfl, pair_b d (h d hd)⟩
theorem comp_firsts (ds : List D) (h : ds.all pairB = true) : compD (gN 0) noT (o2 (gv 0) (gc (.int 0)) ixD) [.un] ds = some (ds.map fun d => .str (fstS d)) :=
  compD_map (fun d => .str (fstS d)) fun d hd => by
    refine ⟨[.sh d], rfl, rfl, ?_⟩
    have hp := List.all_eq_true.mp h d hd
    cases d with
    | tup xs =>
      match xs, hp with
      | [n, v], hp =>
        cases n with
        | str x => rfl
        | _ => simp [pairB, nameB] at hp
    | _ => simp [pairB] at hp
theorem pairs_t (ds : List D) (hl : ds.length ≤ sizeLine) (h : ∀ d ∈ ds, okP d) :
    m_is_pairs [.tup ds] = some (.bl (decide ((ds.length : Int) ≤ 12) && ds.all pairB && decide (((onceS (ds.map fstS)).length : Int) = (ds.length : Int)))) := by
  have e1 := comp_pairs ds h
  have e2 := tuple_t ds 12
  have e3 := bools_map pairB ds
  by_cases hz : (ds.length : Int) ≤ 12
  · cases ha : ds.all pairB with
    | false =>
      have ha' : (ds.map pairB).all id = false := by rw [List.all_map]; exact ha
      simp [m_is_pairs, mkF, N_is_pairs, G_is_pairs, e1, e2, e3, hl, hz, ha']
    | true =>
      have ha' : (ds.map pairB).all id = true := by rw [List.all_map]; exact ha
      have e4 := comp_firsts ds ha
      have e5 := strs_map fstS ds
      have e6 : (ds.map fstS).length ≤ 4000 := by rw [List.length_map]; omega
      simp only [List.length_map] at e6
      simp [m_is_pairs, mkF, N_is_pairs, G_is_pairs, e1, e2, e3, e4, e5, e6, hl, hz, ha']
  · simp [m_is_pairs, mkF, N_is_pairs, G_is_pairs, e2, hz]
/-! ### each once -/
theorem hasS_mem (l : List Str) (y : Str) : hasS l y = true ↔ y ∈ l := by
  unfold hasS
  rw [List.any_eq_true]
  constructor
  · rintro ⟨z, hz, e⟩
    have := of_decide_eq_true e
    subst this; exact hz
  · intro h; exact ⟨y, h, decide_eq_true rfl⟩
theorem foldl_ins : ∀ (ys acc : List Str), (ys.foldl insS acc).length ≤ acc.length + ys.length ∧ ((ys.foldl insS acc).length = acc.length + ys.length ↔ ys.Nodup ∧ ∀ y ∈ ys, y ∉ acc)
  | [], acc => by simp
  | y :: ys, acc => by
    rw [List.foldl_cons]
    unfold insS
    by_cases h : hasS acc y = true
    · rw [if_pos h]
      have ih := foldl_ins ys acc
      unfold insS at ih
      have hm := (hasS_mem acc y).mp h
      refine ⟨by rw [List.length_cons]; omega, ?_⟩
      constructor
      · intro e; rw [List.length_cons] at e; omega
      · rintro ⟨_, h2⟩; exact absurd hm (h2 y List.mem_cons_self)
    · rw [if_neg h]
      have ih := foldl_ins ys (acc ++ [y])
      unfold insS at ih
      have hm : y ∉ acc := fun z => h ((hasS_mem acc y).mpr z)
      rw [List.length_append, List.length_singleton] at ih
      refine ⟨by rw [List.length_cons]; omega, ?_⟩
      rw [List.length_cons]
      constructor
      · intro e
        obtain ⟨h1, h2⟩ := ih.2.mp (by omega)
        refine ⟨List.nodup_cons.mpr ⟨fun z => h2 y z (by simp), h1⟩, fun z hz => ?_⟩
        rcases List.mem_cons.mp hz with rfl | hz
        · exact hm
        · exact fun q => h2 z hz (by simp [q])
      · rintro ⟨h1, h2⟩
        obtain ⟨h3, h4⟩ := List.nodup_cons.mp h1
        have := ih.2.mpr ⟨h4, fun z hz q => by
          rcases List.mem_append.mp q with q | q
          · exact h2 z (List.mem_cons_of_mem _ hz) q
          · have := List.mem_singleton.mp q
            subst this; exact h3 hz⟩
        omega
theorem once_iff (ys : List Str) : (onceS ys).length = ys.length ↔ ys.Nodup := by
  have := (foldl_ins ys []).2
  unfold onceS
  simpa using this
/-! ### is_part of tuples -/
theorem part_text (w : D) : m_is_part [.tup [.str "text", w]] = m_is_word [w] := by
  have e1 : m_is_marked [.tup [.str "text", w], .str "text", .int 2] = some (.bl true) := rfl
  have a1 : atI [D.str "text", w] 1 = some w := rfl
  cases h : m_is_word [w] <;> simp [m_is_part, mkF, N_is_part, G_is_part, e1, a1, h]
theorem part_row (w : D) : m_is_part [.tup [.str "row", w]] = m_is_values [w] := by
  have e1 : m_is_marked [.tup [.str "row", w], .str "text", .int 2] = some (.bl false) := by simp [m_is_marked, marks]; decide
  have e2 : m_is_marked [.tup [.str "row", w], .str "row", .int 2] = some (.bl true) := rfl
  have a1 : atI [D.str "row", w] 1 = some w := rfl
  cases h : m_is_values [w] <;> simp [m_is_part, mkF, N_is_part, G_is_part, e1, e2, a1, h]
theorem part_table (w : D) : m_is_part [.tup [.str "table", w]] = m_is_pairs [w] := by
  have e1 : m_is_marked [.tup [.str "table", w], .str "text", .int 2] = some (.bl false) := by simp [m_is_marked, marks]; decide
  have e2 : m_is_marked [.tup [.str "table", w], .str "row", .int 2] = some (.bl false) := by simp [m_is_marked, marks]; decide
  have e3 : m_is_marked [.tup [.str "table", w], .str "table", .int 2] = some (.bl true) := rfl
  have a1 : atI [D.str "table", w] 1 = some w := rfl
  cases h : m_is_pairs [w] <;> simp [m_is_part, mkF, N_is_part, G_is_part, e1, e2, e3, a1, h]
theorem part_record (c w : D) (hc : okS c) : m_is_part [.tup [.str "record", c, w]] = if nameB c = true then m_is_pairs [w] else some (.bl false) := by
  have e1 : m_is_marked [.tup [.str "record", c, w], .str "text", .int 2] = some (.bl false) := by simp [m_is_marked]
  have e2 : m_is_marked [.tup [.str "record", c, w], .str "row", .int 2] = some (.bl false) := by simp [m_is_marked]
  have e3 : m_is_marked [.tup [.str "record", c, w], .str "table", .int 2] = some (.bl false) := by simp [m_is_marked]
  have e4 : m_is_marked [.tup [.str "record", c, w], .str "record", .int 3] = some (.bl true) := rfl
  have a1 : atI [D.str "record", c, w] 1 = some c := rfl
  have a2 : atI [D.str "record", c, w] 2 = some w := rfl
  have e5 := name_b c hc
  cases hn : nameB c
  · simp [m_is_part, mkF, N_is_part, G_is_part, e1, e2, e3, e4, e5, a1, a2, hn]
  · cases h : m_is_pairs [w] <;> simp [m_is_part, mkF, N_is_part, G_is_part, e1, e2, e3, e4, e5, a1, a2, hn, h]
end W
/-! Parts and webs, as data, and what the program tells of them. -/
namespace W
open PySem DL
inductive Pt where
  | text (w : Str) | row (vs : List D) | table (ps : List (Str × D)) | rcd (c : Str) (ps : List (Str × D))
def pr (p : Str × D) : D := .tup [.str p.1, p.2]
def Pt.d : Pt → D
  | .text w => .tup [.str "text", .str w]
  | .row vs => .tup [.str "row", .tup vs]
  | .table ps => .tup [.str "table", .tup (ps.map pr)]
  | .rcd c ps => .tup [.str "record", .str c, .tup (ps.map pr)]
def Pt.vals : Pt → List D
  | .text _ => []
  | .row vs => vs
  | .table ps => ps.map (·.2)
  | .rcd _ ps => ps.map (·.2)
def Pt.pnames : Pt → List Str
  | .text _ => []
  | .row _ => []
  | .table ps => ps.map (·.1)
  | .rcd _ ps => ps.map (·.1)
def Pt.cls : Pt → List Str
  | .rcd c _ => [c]
  | _ => []
def Pt.all (p : Pt) : List Str := p.pnames ++ p.cls
/-- a link's number -/
def lk : D → Option Int
  | .tup [_, .int i] => some i
  | _ => none
def Pt.links (p : Pt) : List Int := p.vals.filterMap lk
structure PsOk (ps : List (Str × D)) : Prop where
  len : ps.length ≤ 12
  names : ∀ p ∈ ps, isName p.1 = true
  vals : ∀ p ∈ ps, valB p.2 = true
  nd : (ps.map (·.1)).Nodup
def Pt.Ok : Pt → Prop
  | .text w => isWord w = true
  | .row vs => vs.length ≤ 12 ∧ ∀ v ∈ vs, valB v = true
  | .table ps => PsOk ps
  | .rcd c ps => isName c = true ∧ PsOk ps
theorem name_short {n : Str} (h : isName n = true) : n.length ≤ 8 := by
  unfold isName at h
  simp only [Bool.and_eq_true, decide_eq_true_eq] at h
  omega
theorem name_line {n : Str} (h : isName n = true) : n.length ≤ sizeLine := Nat.le_trans (name_short h) (by decide)
theorem word_line {n : Str} (h : isWord n = true) : n.length ≤ sizeLine := by
  unfold isWord at h
  simp only [Bool.and_eq_true, decide_eq_true_eq] at h
  have : (20 : Nat) ≤ sizeLine := by decide
  omega
theorem PsOk.pairs {ps : List (Str × D)} (h : PsOk ps) : m_is_pairs [.tup (ps.map pr)] = some (.bl true) := by
  have hl : (ps.map pr).length ≤ sizeLine := by rw [List.length_map]; exact Nat.le_trans h.len (by decide)
  rw [pairs_t _ hl (fun d hd => by
    obtain ⟨p, hp, rfl⟩ := List.mem_map.mp hd
    exact name_line (h.names p hp))]
  have h1 : (((ps.map pr).length : Int) ≤ 12) := by have := h.len; rw [List.length_map]; omega
  have h2 : (ps.map pr).all pairB = true := List.all_eq_true.mpr fun d hd => by
    obtain ⟨p, hp, rfl⟩ := List.mem_map.mp hd
    simp [pr, pairB, nameB, h.names p hp, h.vals p hp]
  have h3 : (onceS ((ps.map pr).map fstS)).length = (ps.map pr).length := by
    have e : (ps.map pr).map fstS = ps.map (·.1) := by rw [List.map_map]; rfl
    rw [e, List.length_map]
    have := (once_iff (ps.map (·.1))).mpr h.nd
    rwa [List.length_map] at this
  rw [h2, h3, decide_eq_true h1]
  simp
theorem Pt.Ok.part {p : Pt} (h : p.Ok) : m_is_part [p.d] = some (.bl true) := by
  cases p with
  | text w =>
    show m_is_part [.tup [.str "text", .str w]] = _
    rw [part_text]
    show (if w.length ≤ sizeLine then _ else _) = _
    rw [if_pos (word_line h), show isWord w = true from h]
  | row vs =>
    show m_is_part [.tup [.str "row", .tup vs]] = _
    have hl : vs.length ≤ 12 := h.1
    rw [part_row, values_t _ (Nat.le_trans hl (by decide)), List.all_eq_true.mpr h.2, decide_eq_true (by omega)]
    rfl
  | table ps =>
    show m_is_part [.tup [.str "table", .tup (ps.map pr)]] = _
    rw [part_table]
    exact PsOk.pairs h
  | rcd c ps =>
    show m_is_part [.tup [.str "record", .str c, .tup (ps.map pr)]] = _
    rw [part_record (.str c) _ (name_line h.1), if_pos (show nameB (.str c) = true from h.1)]
    exact h.2.pairs
/-! ### values, links, names -/
theorem comp_snd (ps : List (Str × D)) : compD (gN 0) noT (o2 (gv 0) (gc (.int 1)) ixD) [.un] (ps.map pr) = some (ps.map (·.2)) := by
  rw [compD_map (fun d => match d with | .tup [_, v] => v | _ => .non) (fun d hd => by
    obtain ⟨p, hp, rfl⟩ := List.mem_map.mp hd
    exact ⟨[.sh (pr p)], rfl, rfl, rfl⟩), List.map_map]
  rfl
theorem comp_fst (ps : List (Str × D)) : compD (gN 0) noT (o2 (gv 0) (gc (.int 0)) ixD) [.un] (ps.map pr) = some ((ps.map (·.1)).map .str) := by
  rw [compD_map (fun d => .str (fstS d)) (fun d hd => by
    obtain ⟨p, hp, rfl⟩ := List.mem_map.mp hd
    exact ⟨[.sh (pr p)], rfl, rfl, rfl⟩), List.map_map, List.map_map]
  rfl
def Pt.few (p : Pt) : Prop := p.vals.length ≤ sizeLine
theorem Pt.Ok.few {p : Pt} (h : p.Ok) : p.few := by
  have z : (12 : Nat) ≤ sizeLine := by decide
  cases p with
  | text w => exact Nat.zero_le _
  | row vs => exact Nat.le_trans h.1 z
  | table ps => exact Nat.le_trans (by show (ps.map _).length ≤ 12; rw [List.length_map]; exact PsOk.len h) z
  | rcd c ps => exact Nat.le_trans (by show (ps.map _).length ≤ 12; rw [List.length_map]; exact h.2.len) z
theorem values_ok (p : Pt) (h : p.few) : m_values [p.d] = some (.lst p.vals) := by
  cases p with
  | text w => kernel_rfl
  | row vs =>
    refine mkF_rt rfl (seq_to (δ' := [.sh (Pt.row vs).d]) (by rw [if_f (by kernel_rfl)]; rfl) (seq_rt (by rw [if_t (by kernel_rfl)]; rfl)))
  | table ps =>
    refine mkF_rt rfl (seq_to (δ' := [.sh (Pt.table ps).d]) (by rw [if_f (by kernel_rfl)]; rfl) (seq_to (δ' := [.sh (Pt.table ps).d]) (by rw [if_f (by kernel_rfl)]; rfl) (seq_rt (ret_of ?_))))
    exact comp_of (items := ps.map pr) rfl (by have : (ps.map (·.2)).length ≤ sizeLine := h; simpa using this) (comp_snd ps)
  | rcd c ps =>
    refine mkF_rt rfl (seq_to (δ' := [.sh (Pt.rcd c ps).d]) (by rw [if_f (by kernel_rfl)]; rfl) (seq_to (δ' := [.sh (Pt.rcd c ps).d]) (by rw [if_f (by kernel_rfl)]; rfl) (seq_rt (ret_of ?_))))
    exact comp_of (items := ps.map pr) rfl (by have : (ps.map (·.2)).length ≤ sizeLine := h; simpa using this) (comp_snd ps)
theorem pair_names_ok (p : Pt) (h : p.few) : m_pair_names [p.d] = some (.lst (p.pnames.map .str)) := by
  cases p with
  | text w => kernel_rfl
  | row vs => kernel_rfl
  | table ps =>
    refine mkF_rt rfl (seq_to (δ' := [.sh (Pt.table ps).d]) (by rw [if_f (by kernel_rfl)]; rfl) (seq_rt (ret_of ?_)))
    exact comp_of (items := ps.map pr) rfl (by have : (ps.map (·.2)).length ≤ sizeLine := h; simpa using this) (comp_fst ps)
  | rcd c ps =>
    refine mkF_rt rfl (seq_to (δ' := [.sh (Pt.rcd c ps).d]) (by rw [if_f (by kernel_rfl)]; rfl) (seq_rt (ret_of ?_)))
    exact comp_of (items := ps.map pr) rfl (by have : (ps.map (·.2)).length ≤ sizeLine := h; simpa using this) (comp_fst ps)
/-- values are values -/
def Pt.sane (p : Pt) : Prop := p.few ∧ ∀ v ∈ p.vals, valB v = true
theorem Pt.Ok.sane {p : Pt} (h : p.Ok) : p.sane := by
  refine ⟨h.few, fun v hv => ?_⟩
  cases p with
  | text w => cases hv
  | row vs => exact h.2 v hv
  | table ps => obtain ⟨p, hp, rfl⟩ := List.mem_map.mp hv; exact PsOk.vals h p hp
  | rcd c ps => obtain ⟨p, hp, rfl⟩ := List.mem_map.mp hv; exact h.2.vals p hp
theorem val_cases {v : D} (h : valB v = true) : v = .non ∨ (∃ i, v = .int i) ∨ ∃ i, v = .tup [.str "at", .int i] ∧ 0 ≤ i := by
  cases v with
  | non => exact .inl rfl
  | int i => exact .inr (.inl ⟨i, rfl⟩)
  | tup xs =>
    match xs, h with
    | [x, .int i], h =>
      simp only [valB, Bool.and_eq_true, decide_eq_true_eq] at h
      cases x <;> simp [marks] at h
      exact .inr (.inr ⟨i, by rw [h.1], h.2⟩)
  | _ => cases h
theorem links_ok (p : Pt) (h : p.sane) : m_links [p.d] = some (.lst (p.links.map .int)) := by
  have hf := h.1
  refine mkF_rt rfl (seq_rt (ret_of ?_))
  refine comp_of (items := p.vals) (by
    unfold lstI
    rw [oA_of (ds := [p.d]) rfl, values_ok p hf]
    rfl) hf ?_
  have hd : dComp 1 [] (dStart N_links [p.d]) = [.un] := rfl
  rw [hd, compD_filter isTup (fun d => match lk d with | some i => .int i | none => .non) (fun v hv => by
    rcases val_cases (h.2 v hv) with rfl | ⟨i, rfl⟩ | ⟨i, rfl, _⟩
    · exact ⟨[.sh .non], rfl, rfl, fun z => by cases z⟩
    · exact ⟨[.sh (.int i)], rfl, rfl, fun z => by cases z⟩
    · exact ⟨[.sh (.tup [.str "at", .int i])], rfl, rfl, fun _ => rfl⟩)]
  have key : ∀ vs : List D, (∀ v ∈ vs, valB v = true) → (vs.filter isTup).map (fun d => match lk d with | some i => D.int i | none => D.non) = (vs.filterMap lk).map D.int := by
    intro vs hv
    induction vs with
    | nil => rfl
    | cons v vs ih =>
      have ih := ih fun u hu => hv u (List.mem_cons_of_mem _ hu)
      rcases val_cases (hv v List.mem_cons_self) with rfl | ⟨i, rfl⟩ | ⟨i, rfl, _⟩
      · exact ih
      · exact ih
      · show D.int i :: (vs.filter isTup).map _ = D.int i :: (vs.filterMap lk).map .int
        rw [ih]
  exact congrArg some (key p.vals h.2)
/-- for part in web: for k in links(part) -/
def InnerL : GS := (seqD (ifD (ob (o2 (gv 2) (oA (consA (gv 0) nilA) lenD) geD))
  (seqD (retD (gc (.bl false)))
  nilD)
  nilD)
  nilD)
theorem inner_lead (n : Nat) (ds : List D) (hn : ds.length = n) (a : Sl) : ∀ (ks : List Int) (s : Sl), (∀ k ∈ ks, k < n) → ∃ s', forD (gN 2) InnerL (ks.map .int) [.sh (.tup ds), a, s] = some (.nx [.sh (.tup ds), a, s'])
  | [], s, _ => ⟨s, rfl⟩
  | k :: ks, s, h => by
    obtain ⟨s', e⟩ := inner_lead n ds hn a ks (.sh (.int k)) fun q hq => h q (List.mem_cons_of_mem _ hq)
    refine ⟨s', ?_⟩
    rw [List.map_cons, for_cons (δ1 := [.sh (.tup ds), a, .sh (.int k)]) (δ2 := [.sh (.tup ds), a, .sh (.int k)]) rfl (by
      refine seq_to (δ' := [.sh (.tup ds), a, .sh (.int k)]) (by
        rw [if_f (by
          have := h k List.mem_cons_self
          show some (decide ((ds.length : Int) ≤ k)) = _
          rw [decide_eq_false (by omega)])]
        rfl) rfl)]
    exact e
def OuterL : GS := (seqD (forG (lstI (oA (consA (gv 1) nilA) m_links)) (gN 2) InnerL) nilD)
theorem outer_iter (p : Pt) (h : p.sane) (a s : Sl) : lstI (oA (consA (gv 1) nilA) m_links) [a, .sh p.d, s] = some (p.links.map .int) := by
  unfold lstI
  rw [oA_of (ds := [p.d]) rfl, links_ok p h]
  rfl
theorem outer_lead (n : Nat) (ds : List D) (hn : ds.length = n) : ∀ (ps : List Pt) (a s : Sl), (∀ p ∈ ps, p.sane ∧ ∀ k ∈ p.links, k < n) → ∃ a' s', forD (gN 1) OuterL (ps.map Pt.d) [.sh (.tup ds), a, s] = some (.nx [.sh (.tup ds), a', s'])
  | [], a, s, _ => ⟨a, s, rfl⟩
  | p :: ps, a, s, h => by
    obtain ⟨hs, hk⟩ := h p List.mem_cons_self
    obtain ⟨s1, e1⟩ := inner_lead n ds hn (.sh p.d) p.links s hk
    obtain ⟨a', s', e2⟩ := outer_lead n ds hn ps (.sh p.d) s1 fun q hq => h q (List.mem_cons_of_mem _ hq)
    refine ⟨a', s', ?_⟩
    rw [List.map_cons, for_cons (G := OuterL) (δ1 := [.sh (.tup ds), .sh p.d, s]) (δ2 := [.sh (.tup ds), .sh p.d, s1]) rfl (seq_to (for_of (outer_iter p hs _ _) e1) rfl)]
    exact e2
theorem lead_ok (ps : List Pt) (h : ∀ p ∈ ps, p.sane ∧ ∀ k ∈ p.links, k < ps.length) : m_links_lead [.tup (ps.map Pt.d)] = some (.bl true) := by
  obtain ⟨a', s', e⟩ := outer_lead ps.length (ps.map Pt.d) (by simp) ps .un .un h
  exact mkF_rt rfl (seq_to (for_of (items := ps.map Pt.d) rfl e) rfl)
/-! ### names counted -/
def BodyC : GS := (seqD (exprX (extX 1 (oA (consA (gv 2) nilA) m_pair_names)))
  (seqD (ifD (ob (o2 (o2 (gv 2) (gc (.int 0)) ixD) (gc (.str "record")) eqD))
  (seqD (exprX (appX 1 (o2 (gv 2) (gc (.int 1)) ixD)))
  nilD)
  nilD)
  nilD))
theorem pn_len {p : Pt} (h : p.Ok) : p.pnames.length ≤ 12 := by
  cases p with
  | text w => exact Nat.zero_le _
  | row vs => exact Nat.zero_le _
  | table ps => show (ps.map _).length ≤ 12; rw [List.length_map]; exact PsOk.len h
  | rcd c ps => show (ps.map _).length ≤ 12; rw [List.length_map]; exact h.2.len
theorem bodyC_ok (p : Pt) (h : p.Ok) (a : Sl) (acc : List Str) (hz : acc.length ≤ 10000) : BodyC [a, .ow (.lst (acc.map .str)), .sh p.d] = some (.nx [a, .ow (.lst ((acc ++ p.all).map .str)), .sh p.d]) := by
  have z : (10000 : Nat) + 100 ≤ sizeLine := by decide
  have hl := pn_len h
  have e1 : exprX (extX 1 (oA (consA (gv 2) nilA) m_pair_names)) [a, .ow (.lst (acc.map .str)), .sh p.d] = some (.nx [a, .ow (.lst ((acc ++ p.pnames).map .str)), .sh p.d]) := by
    unfold exprX extX
    rw [oA_of (ds := [p.d]) rfl, pair_names_ok p h.few]
    show Option.map _ (if (acc.map D.str).length + (p.pnames.map D.str).length ≤ sizeLine then _ else _) = _
    rw [if_pos (by rw [List.length_map, List.length_map]; omega), List.map_append]
    rfl
  refine seq_to e1 ?_
  cases p with
  | rcd c ps =>
    refine seq_to (δ' := [a, .ow (.lst ((acc ++ (Pt.rcd c ps).all).map .str)), .sh (Pt.rcd c ps).d]) (by
      rw [if_t (by kernel_rfl)]
      refine seq_to (δ' := [a, .ow (.lst ((acc ++ (Pt.rcd c ps).all).map .str)), .sh (Pt.rcd c ps).d]) ?_ rfl
      unfold exprX appX
      have e2 : o2 (gv 2) (gc (.int 1)) ixD [a, .ow (.lst ((acc ++ (Pt.rcd c ps).pnames).map .str)), .sh (Pt.rcd c ps).d] = some (.str c) := rfl
      rw [e2]
      show Option.map _ (if ((acc ++ (Pt.rcd c ps).pnames).map D.str).length < sizeLine then _ else _) = _
      rw [if_pos (by rw [List.length_map, List.length_append]; omega)]
      have e3 : (acc ++ (Pt.rcd c ps).all).map D.str = (acc ++ (Pt.rcd c ps).pnames).map D.str ++ [.str c] := by
        unfold Pt.all
        rw [← List.append_assoc, List.map_append]
        rfl
      rw [e3]
      rfl) rfl
  | text w =>
    refine seq_to (δ' := [a, .ow (.lst ((acc ++ (Pt.text w).all).map .str)), .sh (Pt.text w).d]) (by
      rw [if_f (by kernel_rfl)]; rfl) rfl
  | row vs =>
    refine seq_to (δ' := [a, .ow (.lst ((acc ++ (Pt.row vs).all).map .str)), .sh (Pt.row vs).d]) (by
      rw [if_f (by kernel_rfl)]; rfl) rfl
  | table ps =>
    refine seq_to (δ' := [a, .ow (.lst ((acc ++ (Pt.table ps).all).map .str)), .sh (Pt.table ps).d]) (by
      rw [if_f (by kernel_rfl)]
      unfold Pt.all Pt.cls
      rw [List.append_nil]
      rfl) rfl
theorem all_len {p : Pt} (h : p.Ok) : p.all.length ≤ 13 := by
  have := pn_len h
  unfold Pt.all
  rw [List.length_append]
  have : p.cls.length ≤ 1 := by cases p <;> simp [Pt.cls]
  omega
theorem loopC_ok (a : Sl) : ∀ (ps : List Pt) (acc : List Str) (s : Sl), (∀ p ∈ ps, p.Ok) → acc.length + 13 * ps.length ≤ 10000 → ∃ s', forD (gN 2) BodyC (ps.map Pt.d) [a, .ow (.lst (acc.map .str)), s] = some (.nx [a, .ow (.lst ((acc ++ ps.flatMap Pt.all).map .str)), s'])
  | [], acc, s, _, _ => ⟨s, by rw [List.flatMap_nil, List.append_nil]; rfl⟩
  | p :: ps, acc, s, h, hz => by
    rw [List.length_cons] at hz
    have hp := h p List.mem_cons_self
    have hl := all_len hp
    obtain ⟨s', e⟩ := loopC_ok a ps (acc ++ p.all) (.sh p.d) (fun q hq => h q (List.mem_cons_of_mem _ hq)) (by rw [List.length_append]; omega)
    refine ⟨s', ?_⟩
    rw [List.map_cons, for_cons (δ1 := [a, .ow (.lst (acc.map .str)), .sh p.d]) rfl (bodyC_ok p hp a acc (by omega)), e, List.flatMap_cons, List.append_assoc]
theorem flat_len : ∀ (ps : List Pt), (∀ p ∈ ps, p.Ok) → (ps.flatMap Pt.all).length ≤ 13 * ps.length
  | [], _ => Nat.le_refl _
  | p :: ps, h => by
    rw [List.flatMap_cons, List.length_append, List.length_cons]
    have := all_len (h p List.mem_cons_self)
    have := flat_len ps fun q hq => h q (List.mem_cons_of_mem _ hq)
    omega
theorem count_ok (ps : List Pt) (h : ∀ p ∈ ps, p.Ok) (hz : ps.length ≤ 300) : m_count_names [.tup (ps.map Pt.d)] = some (.int (onceS (ps.flatMap Pt.all)).length) := by
  obtain ⟨s', e⟩ := loopC_ok (.sh (.tup (ps.map Pt.d))) ps [] .un h (by simp; omega)
  rw [List.nil_append] at e
  have hl := flat_len ps h
  have e3 : strL ((ps.flatMap Pt.all).map D.str) = some (ps.flatMap Pt.all) := by
    have := strs_map id (ps.flatMap Pt.all)
    simpa using this
  refine mkF_rt rfl (seq_to (δ' := [.sh (.tup (ps.map Pt.d)), .ow (.lst []), .un]) rfl (seq_to (for_of (items := ps.map Pt.d) rfl e) (seq_rt (ret_of ?_))))
  show lenSetD [.lst ((ps.flatMap Pt.all).map D.str)] = _
  unfold lenSetD
  dsimp only
  rw [e3, Option.bind_some, if_pos (by omega)]
/-! ### webs -/
theorem comp_parts (ds : List D) (f : D → Bool) (h : ∀ d ∈ ds, m_is_part [d] = some (.bl (f d))) : compD (gN 0) noT (oA (consA (gv 0) nilA) m_is_part) [.un] ds = some (ds.map fun d => .bl (f d)) :=
  compD_map (fun d => .bl (f d)) fun d hd => ⟨[.sh d], rfl, rfl, h d hd⟩
theorem web_step (ds : List D) (h0 : ds ≠ []) (hl : ds.length ≤ 60) (f : D → Bool) (h : ∀ d ∈ ds, m_is_part [d] = some (.bl (f d))) (r : Bool)
    (hr : ds.all f = true → ∃ b, m_links_lead [.tup ds] = some (.bl b) ∧ (b = true → ∃ n : Nat, m_count_names [.tup ds] = some (.int n) ∧ decide ((n : Int) ≤ 60) = r) ∧ (b = false → r = false)) (hf : ds.all f = false → r = false) : m_is_web [.tup ds] = some (.bl r) := by
  have e1 := tuple_t ds 60
  rw [decide_eq_true (by omega)] at e1
  have hne : ¬ ((ds.length : Int) = 0) := by
    intro z; exact h0 (List.length_eq_zero_iff.mp (by omega))
  have hall : ob (oA (consA (compG 1 [] (tupI (gv 0)) (gN 0) noT (oA (consA (gv 0) nilA) m_is_part)) nilA) allD) [.sh (.tup ds)] = some (ds.all f) := by
    unfold ob
    rw [oA_of (ds := [.lst (ds.map fun d => .bl (f d))]) (cons_of (comp_of (items := ds) rfl (Nat.le_trans hl (by decide)) (comp_parts ds f h)) rfl)]
    show ((bools (ds.map fun d => .bl (f d))).map fun bs => D.bl (bs.all id)).bind asB = _
    rw [bools_map]
    show some ((ds.map f).all id) = _
    rw [List.all_map]
    rfl
  refine mkF_rt rfl (seq_to (δ' := [.sh (.tup ds)]) (by
    rw [if_f (by
      unfold tOrG tNotG
      have q1 : ob (oA (consA (gv 0) (consA (gc (.int 60)) nilA)) m_is_tuple) [.sh (.tup ds)] = some true := by
        unfold ob
        rw [oA_of (ds := [.tup ds, .int 60]) rfl, e1]
        rfl
      have q2 : ob (o2 (oA (consA (gv 0) nilA) lenD) (gc (.int 0)) eqD) [.sh (.tup ds)] = some false := by
        show some (decide ((ds.length : Int) = 0)) = _
        rw [decide_eq_false hne]
      show ((ob (oA (consA (gv 0) (consA (gc (.int 60)) nilA)) m_is_tuple) [.sh (.tup ds)]).map (!·)).bind _ = _
      rw [q1]
      exact q2)]
    rfl) ?_)
  cases ha : ds.all f with
  | false =>
    refine seq_rt ?_
    rw [if_t (by unfold tNotG; rw [hall, ha]; rfl), hf ha]
    rfl
  | true =>
    refine seq_to (δ' := [.sh (.tup ds)]) (by rw [if_f (by unfold tNotG; rw [hall, ha]; rfl)]; rfl) (seq_rt (ret_of ?_))
    obtain ⟨b, hb, hb1, hb2⟩ := hr ha
    unfold andG ob
    rw [oA_of (ds := [.tup ds]) rfl, hb]
    cases b with
    | false => rw [hb2 rfl]; rfl
    | true =>
      obtain ⟨n, hn, hd⟩ := hb1 rfl
      show o2 (oA (consA (gv 0) nilA) m_count_names) (gc (.int 60)) leD [.sh (.tup ds)] = _
      rw [o2_of (x := .int n) (y := .int 60) (by rw [oA_of (ds := [.tup ds]) rfl]; exact hn) rfl, ← hd]
      rfl
theorem all_ok (ps : List Pt) (h : ∀ p ∈ ps, p.Ok) : ∀ d ∈ ps.map Pt.d, m_is_part [d] = some (.bl ((fun _ => true) d)) := fun d hd => by
  obtain ⟨p, hp, rfl⟩ := List.mem_map.mp hd
  exact (h p hp).part
structure WebOk (ps : List Pt) : Prop where
  ne : ps ≠ []
  len : ps.length ≤ 60
  ok : ∀ p ∈ ps, p.Ok
  lead : ∀ p ∈ ps, ∀ k ∈ p.links, k < ps.length
  few : (onceS (ps.flatMap Pt.all)).length ≤ 60
theorem WebOk.web {ps : List Pt} (h : WebOk ps) : m_is_web [.tup (ps.map Pt.d)] = some (.bl true) := by
  have := h.len
  refine web_step _ (by simpa using h.ne) (by simpa using h.len) (fun _ => true) (all_ok ps h.ok) true (fun _ => ⟨true, lead_ok ps fun p hp => ⟨(h.ok p hp).sane, h.lead p hp⟩, fun _ => ⟨_, count_ok ps h.ok (by omega), decide_eq_true (by have := h.few; omega)⟩, fun z => by cases z⟩) (fun z => ?_)
  rw [List.all_eq_true.mpr fun _ _ => rfl] at z
  cases z
end W
namespace W
open PySem DL
/-! ### names -/
def signS : Str := "abcdefghijklmnopqrstuvwxyz0123456789"
def cg (i : Int) : Nat := signS.cps.toList.getD i.toNat 0
theorem sign_at (i : Int) (h0 : 0 ≤ i) (h1 : i < 36) : ixD (.str signS) (.int i) = some (.str ⟨#[cg i]⟩) := by
  have hl : signS.cps.toList.length = 36 := by decide +kernel
  have hz : signS.length ≤ sizeLine := by decide +kernel
  have := atI_in (xs := signS.cps.toList) (i := i) h0 (by rw [hl]; omega) 0
  simp only [ixD, if_pos hz, this, Option.map_some]
  rfl
theorem cg_mem (i : Int) (h0 : 0 ≤ i) (h1 : i < 36) : cg i ∈ nameS.cps.toList := by
  have h : ∀ n : Nat, n < 36 → signS.cps.toList.getD n 0 ∈ nameS.cps.toList := by decide +kernel
  exact h i.toNat (by omega)
theorem cg_inj (i j : Int) (h0 : 0 ≤ i) (h1 : i < 36) (h2 : 0 ≤ j) (h3 : j < 36) (e : cg i = cg j) : i = j := by
  have h : ∀ n : Nat, n < 36 → ∀ m : Nat, m < 36 → signS.cps.toList.getD n 0 = signS.cps.toList.getD m 0 → n = m := by decide +kernel
  have := h i.toNat (by omega) j.toNat (by omega) e
  omega
/-- the signs but for the drawn place -/
def base (x : Int) : List Nat := (List.range (1 + x % 8).toNat).map fun (j : Nat) => cg ((x / ((j : Int) + 3) + (j : Int) * (j : Int)) % 36)
def plc (x : Int) : Nat := (x / 8 % (1 + x % 8)).toNat
def codes (x k : Int) : List Nat := (base x).set (plc x) (cg ((x / 64 + k) % 36))
def ones (l : List Nat) : List Str := l.map fun c => ⟨#[c]⟩
def strOf (l : List Nat) : Str := ⟨l.toArray⟩
theorem join_ones (l : List Nat) : Txt.join "" (ones l) = strOf l := by
  have key : ∀ (l : List Nat) (acc : List Nat), (ones l).foldl (fun a p => a ++ ("" : Str).cps ++ p.cps) acc.toArray = (acc ++ l).toArray := by
    intro l
    induction l with
    | nil => intro acc; simp [ones]
    | cons c l ih =>
      intro acc
      show (ones l).foldl _ (acc.toArray ++ ("" : Str).cps ++ #[c]) = _
      have e : acc.toArray ++ ("" : Str).cps ++ #[c] = (acc ++ [c]).toArray := by
        have : ("" : Str).cps = #[] := rfl
        rw [this]; simp
      rw [e, ih]
      simp
  cases l with
  | nil => rfl
  | cons c l =>
    show (⟨_⟩ : Str) = _
    unfold strOf
    congr 1
    exact key l [c]
theorem comp_base (x : Int) (h0 : 0 ≤ x) : compD (gN 0) noT (o2 (gv 2) (o2 (o2 (o2 (gv 1) (o2 (gv 0) (gc (.int 3)) addA) fdivD) (o2 (gv 0) (gv 0) mulA) addA) (gc (.int 36)) modD) ixD) [.un, .sh (.int x), .sh (.str signS)] (rngD 0 (1 + x % 8)) = some ((ones (base x)).map .str) := by
  have h := compD_map (f := gN 0) (gt := noT) (ge := o2 (gv 2) (o2 (o2 (o2 (gv 1) (o2 (gv 0) (gc (.int 3)) addA) fdivD) (o2 (gv 0) (gv 0) mulA) addA) (gc (.int 36)) modD) ixD) (δ := [.un, .sh (.int x), .sh (.str signS)])
    (fun d => match d with | .int j => .str ⟨#[cg ((x / (j + 3) + j * j) % 36)]⟩ | _ => .non) (items := rngD 0 (1 + x % 8)) (fun d hd => by
    obtain ⟨k, hk, rfl⟩ := List.mem_map.mp hd
    have hk' := List.mem_range.mp hk
    refine ⟨[.sh (.int (0 + (k : Int))), .sh (.int x), .sh (.str signS)], rfl, rfl, ?_⟩
    have hj : (0 + (k : Int)) = (k : Int) := by omega
    rw [hj]
    have hk2 : (k : Int) < 8 := by omega
    have e1 : fdivD (.int x) (.int ((k : Int) + 3)) = some (.int (x / ((k : Int) + 3))) := by simp only [fdivD, ii]; rw [if_pos (by omega)]
    have e2 : mulA (.int (k : Int)) (.int (k : Int)) = some (.int ((k : Int) * (k : Int))) := by simp only [mulA]; rw [if_pos (by omega)]
    have e3 : modD (.int (x / ((k : Int) + 3) + (k : Int) * (k : Int))) (.int 36) = some (.int ((x / ((k : Int) + 3) + (k : Int) * (k : Int)) % 36)) := rfl
    have e4 := sign_at ((x / ((k : Int) + 3) + (k : Int) * (k : Int)) % 36) (by omega) (by omega)
    rw [o2_of (x := .str signS) (y := .int ((x / ((k : Int) + 3) + (k : Int) * (k : Int)) % 36)) rfl (by
      rw [o2_of (x := .int (x / ((k : Int) + 3) + (k : Int) * (k : Int))) (y := .int 36) (by
        rw [o2_of (x := .int (x / ((k : Int) + 3))) (y := .int ((k : Int) * (k : Int))) (by
          rw [o2_of (x := .int x) (y := .int ((k : Int) + 3)) rfl rfl]; exact e1) (by
          rw [o2_of (x := .int (k : Int)) (y := .int (k : Int)) rfl rfl]; exact e2)]
        rfl) rfl]
      exact e3)]
    exact e4)
  rw [h]
  unfold rngD ones base
  rw [List.map_map, List.map_map, List.map_map]
  have : ((1 + x % 8) - 0 : Int) = 1 + x % 8 := by omega
  rw [this]
  congr 1
  refine List.map_congr_left fun k _ => ?_
  have hj : (0 + (k : Int)) = (k : Int) := by omega
  simp only [Function.comp, hj]
theorem base_len (x : Int) : (base x).length = (1 + x % 8).toNat := by unfold base; simp
theorem plc_lt (x : Int) (h0 : 0 ≤ x) : plc x < (base x).length := by
  rw [base_len]
  unfold plc
  have h1 : 0 < 1 + x % 8 := by omega
  have := Int.emod_lt_of_pos (x / 8) h1
  have := Int.emod_nonneg (x / 8) (by omega : 1 + x % 8 ≠ 0)
  omega
theorem ones_set (l : List Nat) (i c : Nat) : (ones l).set i ⟨#[c]⟩ = ones (l.set i c) := by
  unfold ones
  rw [List.map_set]
theorem map_str_set (l : List Str) (i : Nat) (s : Str) : (l.map D.str).set i (.str s) = (l.set i s).map D.str := by rw [List.map_set]
theorem sum_ones' : ∀ l : List Nat, ((ones l).map (·.length)).sum = l.length
  | [] => rfl
  | c :: l => by
    show 1 + ((ones l).map (·.length)).sum = l.length + 1
    rw [sum_ones' l]; omega
theorem codes_len (x k : Int) : (codes x k).length = (1 + x % 8).toNat := by unfold codes; rw [List.length_set, base_len]
/-! ### the names are names, and unlike -/
theorem isName_of (l : List Nat) (h1 : 0 < l.length) (h2 : l.length ≤ 8) (h3 : ∀ c ∈ l, c ∈ nameS.cps.toList) : isName (strOf l) = true := by
  unfold isName hasAll
  have e : (strOf l).length = l.length := by show l.toArray.size = _; simp
  have e2 : (strOf l).cps.toList = l := by simp [strOf]
  rw [e, e2]
  simp only [Bool.and_eq_true, decide_eq_true_eq, List.all_eq_true]
  exact ⟨⟨by omega, fun c hc => by simpa using h3 c hc⟩, by omega⟩
theorem base_mem (x : Int) : ∀ c ∈ base x, c ∈ nameS.cps.toList := by
  intro c hc
  unfold base at hc
  obtain ⟨j, _, rfl⟩ := List.mem_map.mp hc
  exact cg_mem _ (by omega) (by omega)
theorem codes_mem (x k : Int) : ∀ c ∈ codes x k, c ∈ nameS.cps.toList := by
  intro c hc
  rcases List.mem_or_eq_of_mem_set hc with h | rfl
  · exact base_mem x c h
  · exact cg_mem _ (by omega) (by omega)
theorem codes_name (x k : Int) (h0 : 0 ≤ x) : isName (strOf (codes x k)) = true :=
  isName_of _ (by rw [codes_len]; omega) (by rw [codes_len]; omega) (codes_mem x k)
theorem strOf_inj {l m : List Nat} (h : strOf l = strOf m) : l = m := by
  unfold strOf at h
  injection h with h
  simpa using congrArg Array.toList h
theorem codes_inj (x : Int) (h0 : 0 ≤ x) (k j : Nat) (hk : k < 36) (hj : j < 36) (h : codes x (k : Int) = codes x (j : Int)) : k = j := by
  have hp := plc_lt x h0
  have e1 : (codes x (k : Int))[plc x]? = some (cg ((x / 64 + k) % 36)) := by unfold codes; rw [List.getElem?_set_self hp]
  have e2 : (codes x (j : Int))[plc x]? = some (cg ((x / 64 + j) % 36)) := by unfold codes; rw [List.getElem?_set_self hp]
  rw [h, e2] at e1
  have := cg_inj _ _ (by omega) (by omega) (by omega) (by omega) (Option.some.inj e1)
  omega
/-- the names alike but at a drawn place -/
def nameL (n : Nat) (x : Int) : List Str := (List.range n).map fun (k : Nat) => strOf (codes x (k : Int))
theorem nameL_nodup (n : Nat) (hn : n ≤ 36) (x : Int) (h0 : 0 ≤ x) : (nameL n x).Nodup := by
  unfold nameL
  refine List.nodup_iff_pairwise_ne.mpr (List.pairwise_map.mpr ?_)
  refine (List.nodup_range (n := n)).imp_of_mem ?_
  intro a b ha hb hab e
  exact hab (codes_inj x h0 a b (by have := List.mem_range.mp ha; omega) (by have := List.mem_range.mp hb; omega) (strOf_inj e))
theorem nameL_names (n : Nat) (x : Int) (h0 : 0 ≤ x) : ∀ s ∈ nameL n x, isName s = true := by
  intro s hs
  unfold nameL at hs
  obtain ⟨k, _, rfl⟩ := List.mem_map.mp hs
  exact codes_name x _ h0
theorem nameL_len (n : Nat) (x : Int) : (nameL n x).length = n := by simp [nameL]
/-! ### how many unlike ones -/
theorem nodup_sub : ∀ {l m : List Str}, l.Nodup → (∀ a ∈ l, a ∈ m) → l.length ≤ m.length
  | [], m, _, _ => Nat.zero_le _
  | a :: l, m, h, hs => by
    obtain ⟨h1, h2⟩ := List.nodup_cons.mp h
    have ha := hs a List.mem_cons_self
    obtain ⟨m1, m2, rfl⟩ := List.append_of_mem ha
    have := nodup_sub (m := m1 ++ m2) h2 fun b hb => by
      have := hs b (List.mem_cons_of_mem _ hb)
      rcases List.mem_append.mp this with q | q
      · exact List.mem_append.mpr (.inl q)
      · rcases List.mem_cons.mp q with rfl | q
        · exact absurd hb h1
        · exact List.mem_append.mpr (.inr q)
    simp only [List.length_append, List.length_cons] at this ⊢
    omega
theorem once_nodup : ∀ (ys acc : List Str), acc.Nodup → (ys.foldl insS acc).Nodup ∧ ∀ a ∈ ys.foldl insS acc, a ∈ acc ∨ a ∈ ys
  | [], acc, h => ⟨h, fun a ha => .inl ha⟩
  | y :: ys, acc, h => by
    rw [List.foldl_cons]
    have hi : (insS acc y).Nodup ∧ ∀ a ∈ insS acc y, a ∈ acc ∨ a = y := by
      unfold insS
      by_cases q : hasS acc y = true
      · rw [if_pos q]; exact ⟨h, fun a ha => .inl ha⟩
      · rw [if_neg q]
        have hm : y ∉ acc := fun z => q ((hasS_mem acc y).mpr z)
        refine ⟨List.nodup_append.mpr ⟨h, by simp, ?_⟩, fun a ha => ?_⟩
        · intro a ha b hb e
          have := List.mem_singleton.mp hb
          subst this; subst e; exact hm ha
        · rcases List.mem_append.mp ha with z | z
          · exact .inl z
          · exact .inr (List.mem_singleton.mp z)
    obtain ⟨q1, q2⟩ := once_nodup ys _ hi.1
    refine ⟨q1, fun a ha => ?_⟩
    rcases q2 a ha with z | z
    · rcases hi.2 a z with z | rfl
      · exact .inl z
      · exact .inr List.mem_cons_self
    · exact .inr (List.mem_cons_of_mem _ z)
theorem once_le (ys L : List Str) (h : ∀ y ∈ ys, y ∈ L) : (onceS ys).length ≤ L.length := by
  obtain ⟨h1, h2⟩ := once_nodup ys [] List.nodup_nil
  exact nodup_sub h1 fun a ha => by
    rcases h2 a ha with z | z
    · cases z
    · exact h a z
end W
/-! Parts: values, names, heads, other values; equality of data. -/
namespace Pn
open PySem DL W
def G_pair_names : GS := (seqD (ifD (tOrG (ob (o2 (o2 (gv 0) (gc (.int 0)) ixD) (gc (.str "text")) eqD)) (ob (o2 (o2 (gv 0) (gc (.int 0)) ixD) (gc (.str "row")) eqD)))
  (seqD (retF (lstG nilA))
  nilD)
  nilD)
  (seqD (retF (compG 1 [] (tupI (o2 (gv 0) (unG negD (gc (.int 1))) ixD)) (gN 0) noT (o2 (gv 0) (gc (.int 0)) ixD)))
  nilD))
def N_pair_names : List Str := ["part"]
def m_pair_names : List D → Option D := mkN 1 N_pair_names G_pair_names
def G_values : GS := (seqD (ifD (ob (o2 (o2 (gv 0) (gc (.int 0)) ixD) (gc (.str "text")) eqD))
  (seqD (retF (lstG nilA))
  nilD)
  nilD)
  (seqD (ifD (ob (o2 (o2 (gv 0) (gc (.int 0)) ixD) (gc (.str "row")) eqD))
  (seqD (retF (oA (consA (o2 (gv 0) (gc (.int 1)) ixD) nilA) lstOfD))
  nilD)
  nilD)
  (seqD (retF (compG 1 [] (tupI (o2 (gv 0) (unG negD (gc (.int 1))) ixD)) (gN 0) noT (o2 (gv 0) (gc (.int 1)) ixD)))
  nilD)))
def N_values : List Str := ["part"]
def m_values : List D → Option D := mkN 1 N_values G_values
theorem values_ok (p : Pt) (h : p.few) : m_values [p.d] = some (.lst p.vals) := by
  cases p with
  | text w => kernel_rfl
  | row vs =>
    refine mkN_rf rfl (seq_to (δ' := [.sh (Pt.row vs).d]) (by rw [if_f (by kernel_rfl)]; rfl) (seq_rf (by rw [if_t (by kernel_rfl)]; rfl)))
  | table ps =>
    refine mkN_rf rfl (seq_to (δ' := [.sh (Pt.table ps).d]) (by rw [if_f (by kernel_rfl)]; rfl) (seq_to (δ' := [.sh (Pt.table ps).d]) (by rw [if_f (by kernel_rfl)]; rfl) (seq_rf (retF_of ?_))))
    exact comp_of (items := ps.map pr) rfl (by have : (ps.map (·.2)).length ≤ sizeLine := h; simpa using this) (comp_snd ps)
  | rcd c ps =>
    refine mkN_rf rfl (seq_to (δ' := [.sh (Pt.rcd c ps).d]) (by rw [if_f (by kernel_rfl)]; rfl) (seq_to (δ' := [.sh (Pt.rcd c ps).d]) (by rw [if_f (by kernel_rfl)]; rfl) (seq_rf (retF_of ?_))))
    exact comp_of (items := ps.map pr) rfl (by have : (ps.map (·.2)).length ≤ sizeLine := h; simpa using this) (comp_snd ps)
theorem pair_names_ok (p : Pt) (h : p.few) : m_pair_names [p.d] = some (.lst (p.pnames.map .str)) := by
  cases p with
  | text w => kernel_rfl
  | row vs => kernel_rfl
  | table ps =>
    refine mkN_rf rfl (seq_to (δ' := [.sh (Pt.table ps).d]) (by rw [if_f (by kernel_rfl)]; rfl) (seq_rf (retF_of ?_)))
    exact comp_of (items := ps.map pr) rfl (by have : (ps.map (·.2)).length ≤ sizeLine := h; simpa using this) (comp_fst ps)
  | rcd c ps =>
    refine mkN_rf rfl (seq_to (δ' := [.sh (Pt.rcd c ps).d]) (by rw [if_f (by kernel_rfl)]; rfl) (seq_rf (retF_of ?_)))
    exact comp_of (items := ps.map pr) rfl (by have : (ps.map (·.2)).length ≤ sizeLine := h; simpa using this) (comp_fst ps)
def hd : Pt → D
  | .text w => .tup [.str "text", .str w]
  | .row vs => .tup [.str "row", .int vs.length]
  | .table ps => .tup [.str "table", .tup ((ps.map (·.1)).map .str)]
  | .rcd c ps => .tup [.str "record", .str c, .tup ((ps.map (·.1)).map .str)]
/-! ### equality of data -/
theorem leans_of {l : List D} {n : Nat} (h : ∀ d ∈ l, lean d n = true) : leans l n = true := by
  induction l with
  | nil => unfold leans; rfl
  | cons d l ih =>
    unfold leans
    rw [h d List.mem_cons_self, ih fun e he => h e (List.mem_cons_of_mem _ he)]
    rfl
theorem lean_val {v : D} (h : valB v = true) (n : Nat) : lean v (n + 1) = true := by
  rcases val_cases h with rfl | ⟨i, rfl⟩ | ⟨i, rfl, _⟩
  · unfold lean; rfl
  · unfold lean; rfl
  · unfold lean; exact leans_of fun d hd => by
      simp only [List.mem_cons, List.not_mem_nil, or_false] at hd
      rcases hd with rfl | rfl <;> (unfold lean; rfl)
theorem lean_str (s : Str) (n : Nat) : lean (.str s) n = true := by unfold lean; rfl
theorem lean_tup {l : List D} {n : Nat} (h : ∀ d ∈ l, lean d n = true) : lean (.tup l) (n + 1) = true := by unfold lean; exact leans_of h
theorem lean_pt (p : Pt) (h : ∀ v ∈ p.vals, valB v = true) (n : Nat) : lean p.d (n + 4) = true := by
  have prs : ∀ ps : List (Str × D), (∀ v ∈ ps.map (·.2), valB v = true) → lean (.tup (ps.map pr)) (n + 3) = true := fun ps hv => lean_tup fun d hd => by
    obtain ⟨q, hq, rfl⟩ := List.mem_map.mp hd
    refine lean_tup fun e he => ?_
    simp only [List.mem_cons, List.not_mem_nil, or_false] at he
    rcases he with rfl | rfl
    · exact lean_str _ _
    · exact lean_val (hv q.2 (List.mem_map.mpr ⟨q, hq, rfl⟩)) n
  cases p with
  | text w =>
      refine lean_tup fun d hd => ?_
      simp only [List.mem_cons, List.not_mem_nil, or_false] at hd
      rcases hd with rfl | rfl <;> exact lean_str _ _
  | row vs =>
      refine lean_tup fun d hd => ?_
      simp only [List.mem_cons, List.not_mem_nil, or_false] at hd
      rcases hd with rfl | rfl
      · exact lean_str _ _
      · exact lean_tup fun v hv => lean_val (h v hv) (n + 1)
  | table ps =>
      refine lean_tup fun d hd => ?_
      simp only [List.mem_cons, List.not_mem_nil, or_false] at hd
      rcases hd with rfl | rfl
      · exact lean_str _ _
      · exact prs ps h
  | rcd c ps =>
      refine lean_tup fun d hd => ?_
      simp only [List.mem_cons, List.not_mem_nil, or_false] at hd
      rcases hd with rfl | rfl | rfl
      · exact lean_str _ _
      · exact lean_str _ _
      · exact prs ps h
mutual
theorem deq_self : ∀ (d : D) (n : Nat), lean d n = true → deq d d = true
  | .non, _, _ => by unfold deq; rfl
  | .bl b, _, _ => by unfold deq; simp
  | .int b, _, _ => by unfold deq; simp
  | .str b, _, _ => by unfold deq; simp
  | .tup ds, 0, h => by unfold lean at h; cases h
  | .tup ds, n + 1, h => by unfold lean at h; unfold deq; exact deqs_self ds n h
  | .lst ds, 0, h => by unfold lean at h; cases h
  | .lst ds, n + 1, h => by unfold lean at h; unfold deq; exact deqs_self ds n h
  | .dct _ _, n, h => by unfold lean at h; cases h
theorem deqs_self : ∀ (ds : List D) (n : Nat), leans ds n = true → deqs ds ds = true
  | [], _, _ => by unfold deqs; rfl
  | d :: ds, n, h => by
    unfold leans at h
    rw [Bool.and_eq_true] at h
    unfold deqs
    rw [deq_self d n h.1, deqs_self ds n h.2]
    rfl
end
mutual
/-- neither truths nor dicts -/
def nb : D → Bool
  | .bl _ => false
  | .dct _ _ => false
  | .tup xs => nbs xs
  | .lst xs => nbs xs
  | _ => true
def nbs : List D → Bool
  | [] => true
  | x :: xs => nb x && nbs xs
end
/-- data that are alike just where they are equal -/
structure Pl (d : D) : Prop where
  le : lean d 50 = true
  nb : nb d = true
theorem eq_t {d : D} (h : lean d 50 = true) : eqDD d d = some (.bl true) := by
  unfold eqDD
  rw [if_pos ⟨h, h⟩, deq_self d 50 h]
theorem ne_f {d : D} (h : lean d 50 = true) : neDD d d = some (.bl false) := by
  unfold neDD
  rw [if_pos ⟨h, h⟩, deq_self d 50 h]
  rfl
/-! ### names that differ at a place -/
def NB : GS := (seqD (ownD 6 (compG 1 [0, 1] (rng1I (consA (gv 2) nilA)) (gN 0) noT (o2 (gv 2) (o2 (o2 (o2 (gv 1) (o2 (gv 0) (gc (.int 3)) addA) fdivD) (o2 (gv 0) (gv 0) mulA) addA) (gc (.int 36)) modD) ixD)))
  (seqD (asgX (pureX (o2 (gv 1) (o2 (o2 (o2 (gv 0) (gc (.int 64)) fdivD) (gv 5) addA) (gc (.int 36)) modD) ixD)) (setAt 6 (gv 3)))
  (seqD (exprX (appX 4 (borE (joinG (gc (.str "")) (consA (gv 6) nilA)))))
  nilD)))
theorem NB_ok (x k : Int) (h0 : 0 ≤ x) (hk : 0 ≤ k) (s7 : Sl) (acc : List D) (hz : acc.length < sizeLine) :
    NB [.sh (.int x), .sh (.str signS), .sh (.int (1 + x % 8)), .sh (.int (x / 8 % (1 + x % 8))), .ow (.lst acc), .sh (.int k), s7] =
    some (.nx [.sh (.int x), .sh (.str signS), .sh (.int (1 + x % 8)), .sh (.int (x / 8 % (1 + x % 8))), .ow (.lst (acc ++ [.str (strOf (codes x k))])), .sh (.int k), .ow (.lst ((ones (codes x k)).map .str))]) := by
  have hr : rng1D [.int (1 + x % 8)] = some (rngD 0 (1 + x % 8)) := by simp only [rng1D]; rw [if_pos (by omega)]
  have hlen : (rngD 0 (1 + x % 8)).length ≤ sizeLine := by
    rw [rng_len]
    have : (8 : Nat) ≤ sizeLine := by decide
    omega
  have hat : 0 ≤ x / 8 % (1 + x % 8) ∧ x / 8 % (1 + x % 8) < 1 + x % 8 := ⟨Int.emod_nonneg _ (by omega), Int.emod_lt_of_pos _ (by omega)⟩
  have s1 : ownD 6 (compG 1 [0, 1] (rng1I (consA (gv 2) nilA)) (gN 0) noT (o2 (gv 2) (o2 (o2 (o2 (gv 1) (o2 (gv 0) (gc (.int 3)) addA) fdivD) (o2 (gv 0) (gv 0) mulA) addA) (gc (.int 36)) modD) ixD))
      [.sh (.int x), .sh (.str signS), .sh (.int (1 + x % 8)), .sh (.int (x / 8 % (1 + x % 8))), .ow (.lst acc), .sh (.int k), s7] =
      some (.nx [.sh (.int x), .sh (.str signS), .sh (.int (1 + x % 8)), .sh (.int (x / 8 % (1 + x % 8))), .ow (.lst acc), .sh (.int k), .ow (.lst ((ones (base x)).map .str))]) := by
    unfold ownD
    rw [comp_of (items := rngD 0 (1 + x % 8)) hr hlen (comp_base x h0)]
    rfl
  have s2 : asgX (pureX (o2 (gv 1) (o2 (o2 (o2 (gv 0) (gc (.int 64)) fdivD) (gv 5) addA) (gc (.int 36)) modD) ixD)) (setAt 6 (gv 3))
      [.sh (.int x), .sh (.str signS), .sh (.int (1 + x % 8)), .sh (.int (x / 8 % (1 + x % 8))), .ow (.lst acc), .sh (.int k), .ow (.lst ((ones (base x)).map .str))] =
      some (.nx [.sh (.int x), .sh (.str signS), .sh (.int (1 + x % 8)), .sh (.int (x / 8 % (1 + x % 8))), .ow (.lst acc), .sh (.int k), .ow (.lst ((ones (codes x k)).map .str))]) := by
    have e4 := sign_at ((x / 64 + k) % 36) (by omega) (by omega)
    have hv : (o2 (gv 1) (o2 (o2 (o2 (gv 0) (gc (.int 64)) fdivD) (gv 5) addA) (gc (.int 36)) modD) ixD) [.sh (.int x), .sh (.str signS), .sh (.int (1 + x % 8)), .sh (.int (x / 8 % (1 + x % 8))), .ow (.lst acc), .sh (.int k), .ow (.lst ((ones (base x)).map .str))] = some (.str ⟨#[cg ((x / 64 + k) % 36)]⟩) := by
      rw [o2_of (x := .str signS) (y := .int ((x / 64 + k) % 36)) rfl rfl]
      exact e4
    have hix : ixN ((ones (base x)).map D.str).length (x / 8 % (1 + x % 8)) = some (plc x) := by
      unfold ixN
      have hl : ((ones (base x)).map D.str).length = (1 + x % 8).toNat := by unfold ones; simp [base_len]
      rw [if_pos hat.1, if_pos (by rw [hl]; omega)]
      rfl
    unfold asgX pureX
    rw [hv]
    show ((ixN ((ones (base x)).map D.str).length (x / 8 % (1 + x % 8))).map fun j => [.sh (.int x), .sh (.str signS), .sh (.int (1 + x % 8)), .sh (.int (x / 8 % (1 + x % 8))), .ow (.lst acc), .sh (.int k), Sl.ow (.lst (((ones (base x)).map D.str).set j (.str ⟨#[cg ((x / 64 + k) % 36)]⟩)))]).map Res.nx = _
    rw [hix, Option.map_some, Option.map_some, map_str_set, ones_set]
    rfl
  have s3 : exprX (appX 4 (borE (joinG (gc (.str "")) (consA (gv 6) nilA))))
      [.sh (.int x), .sh (.str signS), .sh (.int (1 + x % 8)), .sh (.int (x / 8 % (1 + x % 8))), .ow (.lst acc), .sh (.int k), .ow (.lst ((ones (codes x k)).map .str))] =
      some (.nx [.sh (.int x), .sh (.str signS), .sh (.int (1 + x % 8)), .sh (.int (x / 8 % (1 + x % 8))), .ow (.lst (acc ++ [.str (strOf (codes x k))])), .sh (.int k), .ow (.lst ((ones (codes x k)).map .str))]) := by
    have hj : joinD (.str "") [.lst ((ones (codes x k)).map D.str)] = some (.str (strOf (codes x k))) := by
      have e1 := strs_map id (ones (codes x k))
      simp only [joinD]
      have e1' : strL ((ones (codes x k)).map D.str) = some (ones (codes x k)) := by simpa using e1
      rw [e1', Option.bind_some, sum_ones', codes_len, join_ones, if_pos]
      have : ("" : Str).length = 0 := by decide +kernel
      rw [this]; omega
    have hb : borE (joinG (gc (.str "")) (consA (gv 6) nilA)) [.sh (.int x), .sh (.str signS), .sh (.int (1 + x % 8)), .sh (.int (x / 8 % (1 + x % 8))), .ow (.lst acc), .sh (.int k), .ow (.lst ((ones (codes x k)).map .str))] = some (.str (strOf (codes x k))) := by
      unfold borE
      rw [join_of (x := .str "") (ds := [.lst ((ones (codes x k)).map D.str)]) rfl rfl, hj]
      rfl
    unfold exprX appX
    rw [hb]
    show Option.map _ (if acc.length < sizeLine then _ else _) = _
    rw [if_pos hz]
    rfl
  unfold NB
  rw [seq_nx s1, seq_nx s2, seq_nx s3]
  rfl
end Pn
/-! Texts as lists of signs: cut apart, begun, ended. -/
namespace W
open PySem DL StrLaws Builtin.Str
theorem strOf_list (l : List Nat) : (strOf l).cps.toList = l := by simp [strOf]
theorem strOf_len (l : List Nat) : (strOf l).length = l.length := by show l.toArray.size = _; simp
theorem strOf_of (x : PySem.Str) : strOf x.cps.toList = x := by cases x; simp [strOf]
theorem strSub_of (l : List Nat) (i j : Nat) : strSub (strOf l) i j = strOf ((l.drop i).take (j - i)) := by
  have := strSub_toList (strOf l) i j
  rw [strOf_list] at this
  rw [← this, strOf_of]
def joinL (sep : List Nat) : List (List Nat) → List Nat
  | [] => []
  | [p] => p
  | p :: q :: r => p ++ sep ++ joinL sep (q :: r)
def cutsFrom (w : Nat) : Nat → List (List Nat) → List Nat
  | a, p :: q :: r => (a + p.length) :: cutsFrom w (a + p.length + w) (q :: r)
  | _, _ => []
theorem at_sign {X : List Nat} {c : Nat} {s : List Nat} {k : Nat} (h : At (strOf X) (strOf (c :: s)) (strOf X).length k) : X[k]? = some c := by
  obtain ⟨h1, h2⟩ := h
  rw [subAt_eq, strOf_list, strOf_list, strOf_len] at h2
  have e := eq_of_beq h2
  have : ((X.drop k).take (c :: s).length)[0]? = some c := by rw [e]; rfl
  rw [List.getElem?_take, if_pos (by simp), List.getElem?_drop] at this
  simpa using this
theorem chain_unique {x y : PySem.Str} {hi : Nat} : ∀ {a : Nat} {cs ds : List Nat} {f g : Nat}, ChainG x y hi a cs f → ChainG x y hi a ds g → (∀ k, f ≤ k → ¬ At x y hi k) → (∀ k, g ≤ k → ¬ At x y hi k) → cs = ds
  | a, [], [], f, g, _, _, _, _ => rfl
  | a, [], d :: ds, f, g, h1, h2, n1, n2 => by
    have e : f = a := h1
    subst e
    exact absurd h2.2.1 (n1 d h2.1)
  | a, c :: cs, [], f, g, h1, h2, n1, n2 => by
    have e : g = a := h2
    subst e
    exact absurd h1.2.1 (n2 c h1.1)
  | a, c :: cs, d :: ds, f, g, h1, h2, n1, n2 => by
    have e : c = d := by
      rcases Nat.lt_trichotomy c d with q | q | q
      · exact absurd h1.2.1 (h2.2.2.1 c h1.1 q)
      · exact q
      · exact absurd h2.2.1 (h1.2.2.1 d h2.1 q)
    subst e
    rw [chain_unique h1.2.2.2 h2.2.2.2 n1 n2]
theorem cuts_chain (c : Nat) (s : List Nat) : ∀ (parts : List (List Nat)) (pre : List Nat), parts ≠ [] → (∀ p ∈ parts, c ∉ p) → ∃ f, ChainG (strOf (pre ++ joinL (c :: s) parts)) (strOf (c :: s)) (strOf (pre ++ joinL (c :: s) parts)).length pre.length (cutsFrom (c :: s).length pre.length parts) f ∧
    (∀ k, f ≤ k → ¬ At (strOf (pre ++ joinL (c :: s) parts)) (strOf (c :: s)) (strOf (pre ++ joinL (c :: s) parts)).length k) ∧
    partsFrom (strOf (pre ++ joinL (c :: s) parts)) (c :: s).length pre.length (cutsFrom (c :: s).length pre.length parts) = parts.map strOf
  | [], _, h, _ => absurd rfl h
  | [p], pre, _, hp => by
    refine ⟨pre.length, rfl, fun k hk h => ?_, ?_⟩
    · have e := at_sign h
      have e : (pre ++ p)[k]? = some c := e
      rw [List.getElem?_append_right hk] at e
      exact hp p List.mem_cons_self (List.mem_of_getElem? e)
    · show [strSub (strOf (pre ++ p)) pre.length (strOf (pre ++ p)).length] = [strOf p]
      rw [strSub_of, strOf_len]
      simp
  | p :: q :: r, pre, _, hp => by
    obtain ⟨f, h1, h2, h3⟩ := cuts_chain c s (q :: r) (pre ++ p ++ (c :: s)) (by simp) fun t ht => hp t (List.mem_cons_of_mem _ ht)
    have eX : pre ++ joinL (c :: s) (p :: q :: r) = pre ++ p ++ (c :: s) ++ joinL (c :: s) (q :: r) := by
      show pre ++ (p ++ (c :: s) ++ joinL (c :: s) (q :: r)) = _
      simp [List.append_assoc]
    have el : (pre ++ p ++ (c :: s)).length = pre.length + p.length + (c :: s).length := by simp only [List.length_append]
    rw [el] at h1 h3
    rw [eX]
    refine ⟨f, ⟨Nat.le_add_right _ _, ?_, fun k hk hk' h => ?_, ?_⟩, h2, ?_⟩
    · refine ⟨?_, ?_⟩
      · rw [strOf_len, strOf_len]; simp only [List.length_append]; omega
      · rw [subAt_eq, strOf_list, strOf_list, strOf_len]
        rw [List.append_assoc, List.append_assoc, ← List.append_assoc pre p, List.drop_append_of_le_length (by simp), List.drop_of_length_le (by simp), List.nil_append, List.take_append_of_le_length (by simp), List.take_of_length_le (by simp)]
        simp
    · have e := at_sign h
      rw [List.append_assoc, List.append_assoc, List.getElem?_append_right hk, List.getElem?_append_left (by omega)] at e
      exact hp p List.mem_cons_self (List.mem_of_getElem? e)
    · rw [strOf_len (c :: s)]
      exact h1
    · show strSub _ pre.length (pre.length + p.length) :: partsFrom _ (c :: s).length (pre.length + p.length + (c :: s).length) (cutsFrom (c :: s).length (pre.length + p.length + (c :: s).length) (q :: r)) = _
      rw [h3, strSub_of, List.map_cons]
      congr 2
      rw [List.append_assoc, List.append_assoc, List.drop_append_of_le_length (by simp), List.drop_of_length_le (by simp), List.nil_append, show pre.length + p.length - pre.length = p.length by omega, List.take_append_of_le_length (by simp), List.take_of_length_le (by simp)]
/-- what was joined is cut apart again -/
theorem split_joined (c : Nat) (s : List Nat) (hk : Builtin.Str.strKind (strOf (c :: s)) = 1) (parts : List (List Nat)) (h0 : parts ≠ []) (hp : ∀ p ∈ parts, c ∉ p) : Txt.split (strOf (joinL (c :: s) parts)) (strOf (c :: s)) = parts.map strOf := by
  obtain ⟨f, h1, h2, h3⟩ := cuts_chain c s parts [] h0 hp
  rw [List.nil_append] at h1 h2 h3
  obtain ⟨g, g1, g2⟩ := occ_tight (strOf (joinL (c :: s) parts)) (strOf (c :: s)) (by rw [strOf_len]; simp)
  have e := chain_unique g1 h1 g2 h2
  have hone : cutsFrom (c :: s).length ([] : List Nat).length parts = [] → [strOf (joinL (c :: s) parts)] = parts.map strOf := fun z => by
    match parts, h0, z with
    | [p], _, _ => rfl
    | p :: q :: r, _, z => exact absurd z (by simp [cutsFrom])
  unfold Txt.split
  split
  · rename_i hc
    rw [Bool.or_eq_true, decide_eq_true_eq, decide_eq_true_eq] at hc
    refine hone ?_
    have : 1 ≤ Builtin.Str.strKind (strOf (joinL (c :: s) parts)) := by
      unfold Builtin.Str.strKind
      split
      · omega
      · split <;> omega
    rcases hc with hc | hc
    · rw [← e]
      cases q : occurrences (strOf (joinL (c :: s) parts)) (strOf (c :: s)) 0 (strOf (joinL (c :: s) parts)).length ((strOf (joinL (c :: s) parts)).length + 1) with
      | nil => rfl
      | cons i r =>
        rw [q] at g1
        have := g1.2.1.1
        omega
    · omega
  · split
    · rename_i hc
      rw [e] at hc
      exact hone (List.isEmpty_iff.mp hc)
    · rw [partsBetween_eq, e, strOf_len]
      exact h3
theorem starts_one (a b : Nat) (l : List Nat) : Txt.startswith (strOf (a :: l)) ⟨#[b]⟩ = decide (a = b) := by
  unfold Txt.startswith
  rw [subAt_eq, strOf_list, strOf_len]
  show (decide (0 + 1 ≤ (a :: l).length) && ((a :: l).drop 0).take 1 == [b]) = _
  by_cases h : a = b <;> simp [h]
theorem ends_one (l : List Nat) (a b : Nat) : Txt.endswith (strOf (l ++ [a])) ⟨#[b]⟩ = decide (a = b) := by
  unfold Txt.endswith
  rw [subAt_eq, strOf_list, strOf_len]
  show (decide (0 + 1 ≤ (l ++ [a]).length) && ((l ++ [a]).drop ((l ++ [a]).length - 1)).take 1 == [b]) = _
  have : (l ++ [a]).drop ((l ++ [a]).length - 1) = [a] := by simp
  rw [this]
  by_cases h : a = b <;> simp [h]
theorem part_one (l r : List Nat) (c : Nat) (h : c ∉ l) : Txt.partition (strOf (l ++ c :: r)) ⟨#[c]⟩ = (strOf l, ⟨#[c]⟩, strOf r) := by
  have hat : At (strOf (l ++ c :: r)) ⟨#[c]⟩ (strOf (l ++ c :: r)).length l.length := (subAt_one _ c l.length).mpr (by rw [strOf_list]; simp)
  unfold Txt.partition
  rcases occ_head (strOf (l ++ c :: r)) ⟨#[c]⟩ 1 (Nat.le_refl _) with ⟨_, hn⟩ | ⟨i, r', e, hi, hn⟩
  · exact absurd hat (hn l.length)
  · have ei : i = l.length := by
      rcases Nat.lt_trichotomy i l.length with q | q | q
      · have := (subAt_one _ c i).mp hi
        rw [strOf_list, List.getElem?_append_left q] at this
        exact absurd (List.mem_of_getElem? this) h
      · exact q
      · exact absurd hat (hn l.length q)
    subst ei
    rw [e]
    show (strSub _ 0 l.length, (⟨#[c]⟩ : PySem.Str), strSub _ (l.length + 1) (strOf (l ++ c :: r)).length) = _
    rw [strSub_of, strSub_of, strOf_len]
    congr 2
    · simp
    · congr 1
      simp
      exact List.take_of_length_le (by omega)
end W
namespace W
open PySem DL StrLaws
theorem slice_mid (a b : Nat) (l : List Nat) : Txt.slice (strOf (a :: (l ++ [b]))) (some 1) (some (-1)) = strOf l := by
  have hl : (strOf (a :: (l ++ [b]))).length = l.length + 2 := by rw [strOf_len]; simp
  show sliceText _ _ _ = _
  rw [sliceText_neg_hi _ _ (by omega) (by rw [hl]; omega), hl]
  have e1 : (-1 : Int) + ((l.length + 2 : Nat) : Int) = ((l.length + 1 : Nat) : Int) := by omega
  rw [e1, show (1 : Int) = ((1 : Nat) : Int) from rfl, sliceText_nat _ (by omega) (by omega), strOf_list]
  unfold strOf
  congr 2
  simp
theorem slice_tail (a : Nat) (l : List Nat) : Txt.slice (strOf (a :: l)) (some 1) none = strOf l := by
  show sliceText _ _ _ = _
  rw [sliceText_from ⟨by omega, by rw [strOf_list]; simp only [List.length_cons]; omega⟩, strOf_list]
  unfold strOf
  congr 2
  show ((a :: l).drop 1).take _ = l
  rw [List.drop_one, List.tail_cons, List.take_of_length_le]
  simp only [List.length_cons]
  omega
theorem slice_init (l : List Nat) (b : Nat) : Txt.slice (strOf (l ++ [b])) none (some (-1)) = strOf l := by
  have hl : (strOf (l ++ [b])).length = l.length + 1 := by rw [strOf_len]; simp
  show sliceText _ _ _ = _
  rw [sliceText_to_neg (by omega) (by rw [hl]; omega), strOf_list, hl]
  unfold strOf
  congr 2
  rw [List.drop_zero, show ((-1 : Int) + ((l.length + 1 : Nat) : Int) - 0).toNat = l.length by omega]
  simp
/-! ### numbers -/
def dg (m : Nat) : List Nat := (Nat.toDigits 10 m).map Char.toNat
theorem dg_num (m : Nat) : PySem.Str.ofString (toString ((m : Nat) : Int)) = strOf (dg m) := by
  rw [← strOf_of (PySem.Str.ofString (toString ((m : Nat) : Int))), PySem.W.KIN.signs_num]
  rfl
theorem dg_small {m : Nat} (h : m < 10) : dg m = [48 + m] := by
  unfold dg
  rw [Nat.toDigits_of_lt_base h]
  have : ∀ k : Nat, k < 10 → (Nat.digitChar k).toNat = 48 + k := by decide
  show [(Nat.digitChar m).toNat] = _
  rw [this m h]
theorem dg_step {m : Nat} (h : 10 ≤ m) : dg m = dg (m / 10) ++ [48 + m % 10] := by
  have hm : m % 10 < 10 := Nat.mod_lt m (by decide)
  have t : Nat.toDigits 10 (m / 10) ++ Nat.toDigits 10 (m % 10) = Nat.toDigits 10 (10 * (m / 10) + m % 10) := Nat.toDigits_append_toDigits (by decide) (by omega) hm
  rw [Nat.div_add_mod] at t
  have q := dg_small hm
  unfold dg at q ⊢
  rw [← t, List.map_append, q]
theorem dg_all (m : Nat) : ∀ c ∈ dg m, 48 ≤ c ∧ c ≤ 57 := by
  induction m using Nat.strongRecOn with
  | _ m ih =>
    by_cases h : m < 10
    · rw [dg_small h]
      intro c hc
      have := List.mem_singleton.mp hc
      omega
    · rw [dg_step (by omega)]
      intro c hc
      rcases List.mem_append.mp hc with z | z
      · exact ih (m / 10) (by omega) c z
      · have := List.mem_singleton.mp z
        omega
theorem dg_ne (m : Nat) : dg m ≠ [] := by
  by_cases h : m < 10
  · rw [dg_small h]; simp
  · rw [dg_step (by omega)]; simp
theorem dg_len : ∀ (k m : Nat), m < 10 ^ (k + 1) → (dg m).length ≤ k + 1
  | 0, m, h => by rw [dg_small (by simpa using h)]; simp
  | k + 1, m, h => by
    by_cases hm : m < 10
    · rw [dg_small hm]; simp
    · rw [dg_step (by omega), List.length_append, List.length_singleton]
      have := dg_len k (m / 10) (by
        rw [Nat.pow_succ] at h
        exact Nat.div_lt_of_lt_mul (by omega))
      omega
theorem dg_head (m : Nat) (h0 : 0 < m) : ∃ c l, dg m = c :: l ∧ c ≠ 48 := by
  induction m using Nat.strongRecOn with
  | _ m ih =>
    by_cases h : m < 10
    · exact ⟨_, _, dg_small h, by omega⟩
    · obtain ⟨c, l, e, hc⟩ := ih (m / 10) (by omega) (by omega)
      exact ⟨c, l ++ [48 + m % 10], by rw [dg_step (by omega), e]; rfl, hc⟩
theorem dg_reads (m : Nat) (hl : (dg m).length ≤ 4300) : PySem.intText? (strOf (dg m)) = some (m : Int) := by
  have e := PySem.intText_digits (x := strOf (dg m)) (by rw [strOf_list]; exact dg_all m) (by rw [strOf_list]; exact dg_ne m) (by rw [strOf_len]; exact hl)
  rw [strOf_list] at e
  rw [e]
  unfold dg
  rw [PySem.W.KIN.val_back]
/-- a number's signs -/
def ig (i : Int) : List Nat := if 0 ≤ i then dg i.toNat else 45 :: dg (-i).toNat
theorem ig_num (i : Int) : PySem.Str.ofString (toString i) = strOf (ig i) := by
  unfold ig
  by_cases h : 0 ≤ i
  · rw [if_pos h]
    have := dg_num i.toNat
    rw [show ((i.toNat : Nat) : Int) = i by omega] at this
    exact this
  · rw [if_neg h]
    obtain ⟨k, rfl⟩ : ∃ k : Nat, i = Int.negSucc k := ⟨(-i - 1).toNat, by omega⟩
    have e : (-(Int.negSucc k)).toNat = k + 1 := by omega
    rw [e]
    have q := dg_num (k + 1)
    have e2 : toString (Int.negSucc k) = "-" ++ toString (((k + 1 : Nat) : Nat) : Int) := rfl
    rw [e2, ← strOf_of (PySem.Str.ofString _)]
    congr 1
    rw [PyProof.Rows.signs_ofString]
    rw [← strOf_of (PySem.Str.ofString (toString (((k + 1 : Nat) : Nat) : Int)))] at q
    have q' := strOf_inj q
    rw [PyProof.Rows.signs_ofString] at q'
    rw [String.toList_append, List.map_append, q']
    rfl
end W
namespace K7
open PySem DL W
def G_shown_value : GS := (seqD (ifD (ob (o2 (gv 0) (gc .non) isND))
  (seqD (retD (gc (.str "nil")))
  nilD)
  nilD)
  (seqD (ifD (ob (isiG isTup (gv 0)))
  (seqD (retD (o2 (gc (.str "@")) (oA (consA (o2 (gv 0) (gc (.int 1)) ixD) nilA) strOfD) addA))
  nilD)
  nilD)
  (seqD (retD (oA (consA (gv 0) nilA) strOfD))
  nilD)))
def N_shown_value : List Str := ["value"]
def m_shown_value : List D → Option D := mkF 1 N_shown_value G_shown_value
def G_shown_pairs : GS := (seqD (retD (o2 (o2 (gc (.str "{")) (joinG (gc (.str ", ")) (consA (compG 1 [] (tupI (gv 0)) (gN 0) noT (o2 (o2 (o2 (gv 0) (gc (.int 0)) ixD) (gc (.str "=")) addA) (oA (consA (o2 (gv 0) (gc (.int 1)) ixD) nilA) m_shown_value) addA)) nilA)) addA) (gc (.str "}")) addA))
  nilD)
def N_shown_pairs : List Str := ["pairs"]
def m_shown_pairs : List D → Option D := mkF 1 N_shown_pairs G_shown_pairs
def G_shown_part : GS := (seqD (ifD (ob (o2 (o2 (gv 0) (gc (.int 0)) ixD) (gc (.str "text")) eqD))
  (seqD (retD (o2 (o2 (gc (.str "'")) (o2 (gv 0) (gc (.int 1)) ixD) addA) (gc (.str "'")) addA))
  nilD)
  nilD)
  (seqD (ifD (ob (o2 (o2 (gv 0) (gc (.int 0)) ixD) (gc (.str "row")) eqD))
  (seqD (retD (o2 (o2 (gc (.str "[")) (joinG (gc (.str ", ")) (consA (compG 1 [] (tupI (o2 (gv 0) (gc (.int 1)) ixD)) (gN 0) noT (oA (consA (gv 0) nilA) m_shown_value)) nilA)) addA) (gc (.str "]")) addA))
  nilD)
  nilD)
  (seqD (ifD (ob (o2 (o2 (gv 0) (gc (.int 0)) ixD) (gc (.str "table")) eqD))
  (seqD (retD (oA (consA (o2 (gv 0) (gc (.int 1)) ixD) nilA) m_shown_pairs))
  nilD)
  nilD)
  (seqD (retD (o2 (o2 (gv 0) (gc (.int 1)) ixD) (oA (consA (o2 (gv 0) (gc (.int 2)) ixD) nilA) m_shown_pairs) addA))
  nilD))))
def N_shown_part : List Str := ["part"]
def m_shown_part : List D → Option D := mkF 1 N_shown_part G_shown_part
def G_shown : GS := (seqD (retD (joinG (gc (.str "; ")) (consA (compG 1 [] (tupI (gv 0)) (gN 0) noT (oA (consA (gv 0) nilA) m_shown_part)) nilA)))
  nilD)
def N_shown : List Str := ["web"]
def m_shown : List D → Option D := mkF 1 N_shown G_shown
def G_is_count_text : GS := (seqD (ifD (tOrG (ob (o2 (oA (consA (gv 0) nilA) lenD) (gc (.int 0)) eqD)) (tOrG (ob (o2 (oA (consA (gv 0) nilA) lenD) (gc (.int 60)) gtD)) (tNotG (ob (oA (consA (compG 1 [] (strI (gv 0)) (gN 0) noT (o2 (gv 0) (gc (.str "0123456789")) inD)) nilA) allD)))))
  (seqD (retD (gc (.bl false)))
  nilD)
  nilD)
  (seqD (retD (orG (o2 (gv 0) (gc (.str "0")) eqD) (notG (methG (gv 0) (consA (gc (.str "0")) nilA) startsD))))
  nilD))
def N_is_count_text : List Str := ["text"]
def m_is_count_text : List D → Option D := mkF 1 N_is_count_text G_is_count_text
def G_read_count : GS := (seqD (ifD (tNotG (ob (oA (consA (gv 0) nilA) m_is_count_text)))
  (seqD neverD
  nilD)
  nilD)
  (seqD (retD (oA (consA (gv 0) nilA) intTD))
  nilD))
def N_read_count : List Str := ["text"]
def m_read_count : List D → Option D := mkF 1 N_read_count G_read_count
def G_read_value : GS := (seqD (ifD (ob (o2 (gv 0) (gc (.str "nil")) eqD))
  (seqD (retD (gc .non))
  nilD)
  nilD)
  (seqD (ifD (ob (methG (gv 0) (consA (gc (.str "@")) nilA) startsD))
  (seqD (retD (tupG (consA (gc (.str "at")) (consA (oA (consA (slAG (gv 0) (someO (gc (.int 1))) noneO) nilA) m_read_count) nilA))))
  nilD)
  nilD)
  (seqD (ifD (ob (o2 (gv 0) (gc (.str "-0")) eqD))
  (seqD neverD
  nilD)
  nilD)
  (seqD (ifD (ob (methG (gv 0) (consA (gc (.str "-")) nilA) startsD))
  (seqD (retD (unG negD (oA (consA (slAG (gv 0) (someO (gc (.int 1))) noneO) nilA) m_read_count)))
  nilD)
  nilD)
  (seqD (retD (oA (consA (gv 0) nilA) m_read_count))
  nilD)))))
def N_read_value : List Str := ["text"]
def m_read_value : List D → Option D := mkF 1 N_read_value G_read_value
def G_read_pair : GS := (seqD (setD (gN 1) (methG (gv 0) (consA (gc (.str "=")) nilA) partD))
  (seqD (retD (tupG (consA (o2 (gv 1) (gc (.int 0)) ixD) (consA (oA (consA (o2 (gv 1) (gc (.int 2)) ixD) nilA) m_read_value) nilA))))
  nilD))
def N_read_pair : List Str := ["item", "halves"]
def m_read_pair : List D → Option D := mkF 1 N_read_pair G_read_pair
def G_parted_items : GS := (seqD (ifD (ob (o2 (gv 0) (gc (.str "")) eqD))
  (seqD (retD (lstG nilA))
  nilD)
  nilD)
  (seqD (retD (methG (gv 0) (consA (gc (.str ", ")) nilA) splitD))
  nilD))
def N_parted_items : List Str := ["inner"]
def m_parted_items : List D → Option D := mkF 1 N_parted_items G_parted_items
def G_read_paired : GS := (seqD (setD (gN 1) (methG (gv 0) (consA (gc (.str "{")) nilA) partD))
  (seqD (setD (gN 2) (oA (consA (compG 1 [] (lstI (oA (consA (slAG (o2 (gv 1) (gc (.int 2)) ixD) noneO (someO (unG negD (gc (.int 1))))) nilA) m_parted_items)) (gN 0) noT (oA (consA (gv 0) nilA) m_read_pair)) nilA) tupOfD))
  (seqD (ifD (ob (o2 (o2 (gv 1) (gc (.int 0)) ixD) (gc (.str "")) eqD))
  (seqD (retD (tupG (consA (gc (.str "table")) (consA (gv 2) nilA))))
  nilD)
  nilD)
  (seqD (retD (tupG (consA (gc (.str "record")) (consA (o2 (gv 1) (gc (.int 0)) ixD) (consA (gv 2) nilA)))))
  nilD))))
def N_read_paired : List Str := ["piece", "halves", "pairs"]
def m_read_paired : List D → Option D := mkF 1 N_read_paired G_read_paired
def G_read_part : GS := (seqD (ifD (tAndG (ob (o2 (oA (consA (gv 0) nilA) lenD) (gc (.int 1)) gtD)) (tAndG (ob (methG (gv 0) (consA (gc (.str "'")) nilA) startsD)) (ob (methG (gv 0) (consA (gc (.str "'")) nilA) endsD))))
  (seqD (retD (tupG (consA (gc (.str "text")) (consA (slAG (gv 0) (someO (gc (.int 1))) (someO (unG negD (gc (.int 1))))) nilA))))
  nilD)
  nilD)
  (seqD (ifD (tAndG (ob (methG (gv 0) (consA (gc (.str "[")) nilA) startsD)) (ob (methG (gv 0) (consA (gc (.str "]")) nilA) endsD)))
  (seqD (retD (tupG (consA (gc (.str "row")) (consA (oA (consA (compG 1 [] (lstI (oA (consA (slAG (gv 0) (someO (gc (.int 1))) (someO (unG negD (gc (.int 1))))) nilA) m_parted_items)) (gN 0) noT (oA (consA (gv 0) nilA) m_read_value)) nilA) tupOfD) nilA))))
  nilD)
  nilD)
  (seqD (ifD (tAndG (ob (o2 (gc (.str "{")) (gv 0) inD)) (ob (methG (gv 0) (consA (gc (.str "}")) nilA) endsD)))
  (seqD (retD (oA (consA (gv 0) nilA) m_read_paired))
  nilD)
  nilD)
  (seqD neverD
  nilD))))
def N_read_part : List Str := ["piece"]
def m_read_part : List D → Option D := mkF 1 N_read_part G_read_part
def G_read : GS := (seqD (ifD (tNotG (ob (isiG isStr (gv 0))))
  (seqD neverD
  nilD)
  nilD)
  (seqD (setD (gN 1) (oA (consA (compG 1 [] (lstI (methG (gv 0) (consA (gc (.str "; ")) nilA) splitD)) (gN 0) noT (oA (consA (gv 0) nilA) m_read_part)) nilA) tupOfD))
  (seqD (ifD (tNotG (ob (oA (consA (gv 1) nilA) m_is_web)))
  (seqD neverD
  nilD)
  nilD)
  (seqD (retD (gv 1))
  nilD))))
def N_read : List Str := ["text", "web"]
def m_read : List D → Option D := mkF 1 N_read G_read
def G__law_cell_at : GS := (seqD (ifD (ob (o2 (gv 1) (oA (consA (gv 0) nilA) lenD) ltD))
  (seqD (retD (o2 (gv 0) (gv 1) ixD))
  nilD)
  nilD)
  (seqD (retD (gc (.int 0)))
  nilD))
def N__law_cell_at : List Str := ["_law_script", "_law_k"]
def m__law_cell_at : List D → Option D := mkF 2 N__law_cell_at G__law_cell_at
def G__law_mixed : GS := (seqD (setD (gN 2) (o2 (oA (consA (gv 0) (consA (o2 (gc (.int 2)) (o2 (gc (.int 2)) (gv 1) mulA) addA) nilA)) m__law_cell_at) (gc (.int 1000000007)) modD))
  (seqD (setD (gN 3) (o2 (oA (consA (gv 0) (consA (o2 (gc (.int 3)) (o2 (gc (.int 2)) (gv 1) mulA) addA) nilA)) m__law_cell_at) (gc (.int 1000000007)) modD))
  (seqD (retD (o2 (o2 (o2 (o2 (o2 (gv 2) (gc (.int 48271)) mulA) (o2 (gv 3) (gc (.int 16807)) mulA) addA) (o2 (o2 (gc (.int 43)) (gv 1) mulA) (gv 1) mulA) addA) (o2 (gc (.int 17)) (gv 1) mulA) addA) (gc (.int 1000003)) modD))
  nilD)))
def N__law_mixed : List Str := ["_law_script", "_law_k", "_law_a", "_law_b"]
def m__law_mixed : List D → Option D := mkF 2 N__law_mixed G__law_mixed
def G__law_names : GS := (seqD (setD (gN 1) (gc (.str "abcdefghijklmnopqrstuvwxyz0123456789")))
  (seqD (setD (gN 2) (o2 (gc (.int 1)) (o2 (gv 0) (gc (.int 8)) modD) addA))
  (seqD (setD (gN 3) (o2 (o2 (gv 0) (gc (.int 8)) fdivD) (gv 2) modD))
  (seqD (ownD 4 (lstG nilA))
  (seqD (forG (rng1I (consA (gc (.int 13)) nilA)) (gN 5)
  (seqD (ownD 6 (compG 1 [0, 1] (rng1I (consA (gv 2) nilA)) (gN 0) noT (o2 (gv 2) (o2 (o2 (o2 (gv 1) (o2 (gv 0) (gc (.int 3)) addA) fdivD) (o2 (gv 0) (gv 0) mulA) addA) (gc (.int 36)) modD) ixD)))
  (seqD (asgX (pureX (o2 (gv 1) (o2 (o2 (o2 (gv 0) (gc (.int 64)) fdivD) (gv 5) addA) (gc (.int 36)) modD) ixD)) (setAt 6 (gv 3)))
  (seqD (exprX (appX 4 (borE (joinG (gc (.str "")) (consA (gv 6) nilA)))))
  nilD))))
  (seqD (retD (borA (gv 4)))
  nilD))))))
def N__law_names : List Str := ["_law_x", "_law_signs", "_law_size", "_law_at", "_law_names_here", "_law_k", "_law_name"]
def m__law_names : List D → Option D := mkF 1 N__law_names G__law_names
def G__law_value : GS := (seqD (ifD (ob (o2 (o2 (gv 0) (gc (.int 5)) modD) (gc (.int 0)) eqD))
  (seqD (retD (gc .non))
  nilD)
  nilD)
  (seqD (ifD (ob (o2 (o2 (gv 0) (gc (.int 5)) modD) (gc (.int 1)) eqD))
  (seqD (setD (gN 2) (o2 (o2 (lstG (consA (o2 (o2 (gv 0) (gc (.int 5)) fdivD) (gc (.int 41)) modD) (consA (o2 (o2 (gc (.int 10)) (gc (.int 40)) powD) (gv 0) subD) (consA (o2 (o2 (gc (.int 10)) (gc (.int 9)) powD) (gv 0) addA) (consA (gc (.int 0)) nilA))))) (o2 (o2 (gv 0) (gc (.int 205)) fdivD) (gc (.int 4)) modD) ixD) (o2 (lstG (consA (o2 (gc (.int 10)) (gc (.int 40)) powD) (consA (o2 (gc (.int 10)) (gc (.int 4)) powD) nilA))) (oA (consA (o2 (gv 1) (gc (.int 9)) gtD) nilA) intOfD) ixD) modD))
  (seqD (retD (o2 (gv 2) (o2 (lstG (consA (gc (.int 1)) (consA (unG negD (gc (.int 1))) nilA))) (o2 (o2 (gv 0) (gc (.int 820)) fdivD) (gc (.int 2)) modD) ixD) mulA))
  nilD))
  nilD)
  (seqD (retD (tupG (consA (gc (.str "at")) (consA (o2 (o2 (gv 0) (gc (.int 5)) fdivD) (gv 1) modD) nilA))))
  nilD)))
def N__law_value : List Str := ["_law_x", "_law_many", "_law_number"]
def m__law_value : List D → Option D := mkF 2 N__law_value G__law_value
def G__law_part : GS := (seqD (setD (gN 3) (o2 (o2 (gv 0) (gc (.int 4)) fdivD) (gc (.int 6)) modD))
  (seqD (ifD (tAndG (ob (o2 (o2 (o2 (gv 0) (gc (.int 24)) fdivD) (gc (.int 9)) modD) (gc (.int 1)) eqD)) (ob (o2 (gv 1) (gc (.int 10)) ltD)))
  (seqD (setD (gN 3) (gc (.int 12)))
  nilD)
  nilD)
  (seqD (setD (gN 4) (compG 1 [0, 1] (rng1I (consA (gv 3) nilA)) (gN 0) noT (oA (consA (o2 (o2 (gv 1) (o2 (gv 0) (gc (.int 2)) addA) fdivD) (o2 (o2 (gc (.int 5)) (gv 0) mulA) (gv 0) mulA) addA) (consA (gv 2) nilA)) m__law_value)))
  (seqD (setD (gN 5) (oA (consA (compG 1 [0, 2, 4] (rng1I (consA (gv 3) nilA)) (gN 0) noT (tupG (consA (o2 (gv 2) (o2 (o2 (o2 (gv 1) (gc (.int 9)) fdivD) (gv 0) addA) (gc (.int 13)) modD) ixD) (consA (o2 (gv 3) (gv 0) ixD) nilA)))) nilA) tupOfD))
  (seqD (ifD (ob (o2 (o2 (gv 0) (gc (.int 4)) modD) (gc (.int 0)) eqD))
  (seqD (setD (gN 6) (joinG (gc (.str "")) (consA (compG 1 [0] (rng1I (consA (o2 (o2 (gv 0) (gc (.int 4)) fdivD) (gc (.int 21)) modD) nilA)) (gN 0) noT (o2 (gc (.str "ab 9z0q m")) (o2 (o2 (o2 (gv 1) (o2 (gv 0) (gc (.int 1)) addA) fdivD) (o2 (gv 0) (gv 0) mulA) addA) (gc (.int 9)) modD) ixD)) nilA)))
  (seqD (retD (tupG (consA (gc (.str "text")) (consA (gv 6) nilA))))
  nilD))
  nilD)
  (seqD (ifD (ob (o2 (o2 (gv 0) (gc (.int 4)) modD) (gc (.int 1)) eqD))
  (seqD (retD (tupG (consA (gc (.str "row")) (consA (oA (consA (gv 4) nilA) tupOfD) nilA))))
  nilD)
  nilD)
  (seqD (ifD (ob (o2 (o2 (gv 0) (gc (.int 4)) modD) (gc (.int 2)) eqD))
  (seqD (retD (tupG (consA (gc (.str "table")) (consA (gv 5) nilA))))
  nilD)
  nilD)
  (seqD (retD (tupG (consA (gc (.str "record")) (consA (o2 (gv 2) (o2 (o2 (gv 0) (gc (.int 13)) fdivD) (gc (.int 13)) modD) ixD) (consA (gv 5) nilA)))))
  nilD))))))))
def N__law_part : List Str := ["_law_x", "_law_many", "_law_names_here", "_law_n", "_law_some", "_law_pairs", "_law_word"]
def m__law_part : List D → Option D := mkF 3 N__law_part G__law_part
def G__law_value_text : GS := (seqD (ifD (ob (o2 (gv 0) (gc .non) isND))
  (seqD (retD (gc (.str "nil")))
  nilD)
  nilD)
  (seqD (ifD (ob (isiG isInt (gv 0)))
  (seqD (retD (oA (consA (gv 0) nilA) strOfD))
  nilD)
  nilD)
  (seqD (retD (o2 (gc (.str "@")) (oA (consA (o2 (gv 0) (gc (.int 1)) ixD) nilA) strOfD) addA))
  nilD)))
def N__law_value_text : List Str := ["_law_value_here"]
def m__law_value_text : List D → Option D := mkF 1 N__law_value_text G__law_value_text
def G__law_text : GS := (seqD (ownD 1 (lstG nilA))
  (seqD (forG (tupI (gv 0)) (gN 2)
  (seqD (ifD (ob (o2 (o2 (gv 2) (gc (.int 0)) ixD) (gc (.str "text")) eqD))
  (seqD (exprX (appX 1 (o2 (o2 (gc (.str "'")) (o2 (gv 2) (gc (.int 1)) ixD) addA) (gc (.str "'")) addA)))
  nilD)
  (seqD (ifD (ob (o2 (o2 (gv 2) (gc (.int 0)) ixD) (gc (.str "row")) eqD))
  (seqD (exprX (appX 1 (o2 (o2 (gc (.str "[")) (joinG (gc (.str ", ")) (consA (compG 1 [] (tupI (o2 (gv 2) (gc (.int 1)) ixD)) (gN 0) noT (oA (consA (gv 0) nilA) m__law_value_text)) nilA)) addA) (gc (.str "]")) addA)))
  nilD)
  (seqD (setD (gN 3) (joinG (gc (.str ", ")) (consA (compG 2 [] (tupI (o2 (gv 2) (unG negD (gc (.int 1))) ixD)) (tup2 0 1) noT (o2 (o2 (gv 0) (gc (.str "=")) addA) (oA (consA (gv 1) nilA) m__law_value_text) addA)) nilA)))
  (seqD (setD (gN 4) (gc (.str "")))
  (seqD (ifD (ob (o2 (o2 (gv 2) (gc (.int 0)) ixD) (gc (.str "record")) eqD))
  (seqD (setD (gN 4) (o2 (gv 2) (gc (.int 1)) ixD))
  nilD)
  nilD)
  (seqD (exprX (appX 1 (o2 (o2 (o2 (gv 4) (gc (.str "{")) addA) (gv 3) addA) (gc (.str "}")) addA)))
  nilD)))))
  nilD))
  nilD))
  (seqD (retD (borA (joinG (gc (.str "; ")) (consA (gv 1) nilA))))
  nilD)))
def N__law_text : List Str := ["_law_web", "_law_parts", "_law_part_here", "_law_pairs", "_law_front"]
def m__law_text : List D → Option D := mkF 1 N__law_text G__law_text
def GR__law_kinds (m__law_kinds : List D → Option D) : GS := (seqD (ifD (ob (isiG isTup (gv 0)))
  (seqD (retD (o2 (oA (consA (compG 1 [] (tupI (gv 0)) (gN 0) (tNotG (ob (oA (consA (gv 0) nilA) m__law_kinds))) (gv 0)) nilA) lenD) (gc (.int 0)) eqD))
  nilD)
  nilD)
  (seqD (retD (orG (o2 (gv 0) (gc .non) isND) (orG (isiG isStr (gv 0)) (andG (isiG isInt (gv 0)) (notG (isiG isBool (gv 0)))))))
  nilD))
def N__law_kinds : List Str := ["_law_found"]
def mR__law_kinds : Nat → List D → Option D
  | 0 => fun _ => none
  | k + 1 => mkF 1 N__law_kinds (GR__law_kinds (mR__law_kinds k))
def m__law_kinds : List D → Option D := mR__law_kinds 8
def G_law : GS := (seqD (setD (gN 1) (o2 (oA (consA (gv 0) (consA (gc (.int 0)) nilA)) m__law_cell_at) (gc (.int 1000003)) modD))
  (seqD (setD (gN 2) (o2 (gc (.int 1)) (o2 (gv 1) (gc (.int 9)) modD) addA))
  (seqD (ifD (ob (o2 (o2 (o2 (gv 1) (gc (.int 9)) fdivD) (gc (.int 4)) modD) (gc (.int 1)) eqDD))
  (seqD (setD (gN 2) (o2 (gc (.int 59)) (o2 (o2 (gv 1) (gc (.int 36)) fdivD) (gc (.int 2)) modD) addA))
  nilD)
  nilD)
  (seqD (setD (gN 3) (oA (consA (o2 (oA (consA (gv 0) (consA (gc (.int 1)) nilA)) m__law_cell_at) (gc (.int 1000003)) modD) nilA) m__law_names))
  (seqD (setD (gN 4) (oA (consA (compG 1 [0, 2, 3] (rng1I (consA (gv 2) nilA)) (gN 0) noT (oA (consA (oA (consA (gv 1) (consA (gv 0) nilA)) m__law_mixed) (consA (gv 2) (consA (gv 3) nilA))) m__law_part)) nilA) tupOfD))
  (seqD (ifD (ob (o2 (o2 (gv 1) (gc (.int 3)) modD) (gc (.int 1)) eqDD))
  (seqD (setD (gN 4) (o2 (slAG (gv 4) noneO (someO (unG negD (gc (.int 1))))) (tupG (consA (tupG (consA (gc (.str "row")) (consA (tupG (consA (o2 (o2 (gc (.int 10)) (gc (.int 60)) powD) (gc (.int 1)) subD) (consA (o2 (gc (.int 1)) (o2 (gc (.int 10)) (gc (.int 60)) powD) subD) (consA (tupG (consA (gc (.str "at")) (consA (gc (.int 0)) nilA))) nilA)))) nilA))) nilA)) addA))
  nilD)
  nilD)
  (seqD (setD (gN 5) (oA (consA (gv 4) nilA) m__law_text))
  (seqD (ifD (tOrG (ob (o2 (oA (consA (gv 4) nilA) m_shown) (gv 5) neDD)) (ob (o2 (oA (consA (gv 4) nilA) m_shown) (gv 5) neDD)))
  (seqD (retD (gc (.bl false)))
  nilD)
  nilD)
  (seqD (setD (gN 6) (oA (consA (gv 5) nilA) m_read))
  (seqD (retD (andG (isiG isTup (gv 6)) (andG (o2 (gv 6) (gv 4) eqDD) (andG (oA (consA (gv 6) nilA) m__law_kinds) (o2 (oA (consA (gv 6) nilA) m_shown) (gv 5) eqDD)))))
  nilD))))))))))
def N_law : List Str := ["_law_script", "_law_first", "_law_many", "_law_names_here", "_law_web", "_law_text_here", "_law_found"]
def m_law : List D → Option D := mkF 1 N_law G_law
end K7
namespace K7
open PySem DL W
theorem app_of (a b : List Nat) : strOf a ++ strOf b = strOf (a ++ b) := by
  apply Str.ext'
  show a.toArray ++ b.toArray = (a ++ b).toArray
  simp
theorem add_s (a b : List Nat) (h : a.length + b.length ≤ sizeLine) : addA (.str (strOf a)) (.str (strOf b)) = some (.str (strOf (a ++ b))) := by
  simp only [addA]
  rw [if_pos (by rw [strOf_len, strOf_len]; exact h), app_of]
theorem join_of' (sep : List Nat) : ∀ parts : List (List Nat), Txt.join (strOf sep) (parts.map strOf) = strOf (joinL sep parts) := by
  intro parts
  unfold Txt.join
  rw [StrLaws.glued_eq_join]
  induction parts with
  | nil => rfl
  | cons p r ih =>
    cases r with
    | nil => rfl
    | cons q r =>
      show strOf p ++ strOf sep ++ PySem.Str.join (strOf sep) ((q :: r).map strOf) = strOf (p ++ sep ++ joinL sep (q :: r))
      rw [ih, app_of, app_of]
theorem joinG_of {g : GE} {δ : Ds} {S : PySem.Str} (sep : List Nat) (parts : List (List Nat)) (B : Nat) (hS : S = strOf sep) (hg : g δ = some (.lst (parts.map fun p => D.str (strOf p)))) (hB : ∀ p ∈ parts, p.length ≤ B) (hz : parts.length * (B + sep.length) ≤ 16777216) :
    joinG (gc (.str S)) (consA g nilA) δ = some (.str (strOf (joinL sep parts))) := by
  have hsum : ∀ l : List (List Nat), (∀ p ∈ l, p.length ≤ B) → ((l.map strOf).map (·.length)).sum ≤ l.length * B := by
    intro l
    induction l with
    | nil => intro _; simp
    | cons p l ih =>
      intro h
      have := ih fun q hq => h q (List.mem_cons_of_mem _ hq)
      have := h p List.mem_cons_self
      rw [List.map_cons, List.map_cons, List.sum_cons, List.length_cons, strOf_len, Nat.add_mul]
      omega
  have e1 := strs_map strOf parts
  rw [join_of (x := .str S) (ds := [.lst (parts.map fun p => D.str (strOf p))]) rfl (cons_of hg rfl)]
  simp only [joinD]
  rw [e1, Option.bind_some, if_pos, hS, join_of']
  have := hsum parts hB
  rw [hS, strOf_len, List.length_map]
  rw [Nat.mul_add] at hz
  omega
theorem comp_any {α : Type} (f h : α → D) {tg : D → Ds → Option Ds} {gt : GB} {ge : GE} {δ : Ds} : ∀ l : List α, (∀ a ∈ l, ∃ δ', tg (f a) δ = some δ' ∧ gt δ' = some true ∧ ge δ' = some (h a)) → compD tg gt ge δ (l.map f) = some (l.map h)
  | [], _ => rfl
  | a :: l, H => by
    obtain ⟨δ', e1, e2, e3⟩ := H a List.mem_cons_self
    have ih := comp_any f h (tg := tg) (gt := gt) (ge := ge) (δ := δ) l fun b hb => H b (List.mem_cons_of_mem _ hb)
    rw [List.map_cons, List.map_cons]
    unfold compD
    rw [e1]
    dsimp only
    rw [e2]
    dsimp only
    rw [e3, ih]
    rfl
theorem joinL_len (sep : List Nat) (B : Nat) : ∀ parts : List (List Nat), (∀ p ∈ parts, p.length ≤ B) → (joinL sep parts).length ≤ parts.length * (B + sep.length)
  | [], _ => by simp [joinL]
  | [p], h => by
    show p.length ≤ _
    have := h p List.mem_cons_self
    simp only [List.length_cons, List.length_nil]
    omega
  | p :: q :: r, h => by
    have := joinL_len sep B (q :: r) fun t ht => h t (List.mem_cons_of_mem _ ht)
    have := h p List.mem_cons_self
    show (p ++ sep ++ joinL sep (q :: r)).length ≤ ((q :: r).length + 1) * (B + sep.length)
    rw [List.length_append, List.length_append, Nat.add_mul]
    omega
/-! ### the text of a value -/
def vL : D → List Nat
  | .non => [110, 105, 108]
  | .int i => ig i
  | .tup [_, .int i] => 64 :: ig i
  | _ => []
def bnd : D → Prop
  | .int i => i.natAbs < 10 ^ 60
  | .tup [_, .int i] => i.natAbs < 10 ^ 60
  | _ => True
theorem ig_len (i : Int) (h : i.natAbs < 10 ^ 60) : (ig i).length ≤ 61 := by
  unfold ig
  split
  · exact Nat.le_trans (dg_len 59 i.toNat (by omega)) (by omega)
  · rw [List.length_cons]
    have := dg_len 59 (-i).toNat (by omega)
    omega
theorem vL_len (v : D) (hv : valB v = true) (hb : bnd v) : (vL v).length ≤ 62 := by
  rcases val_cases hv with rfl | ⟨i, rfl⟩ | ⟨i, rfl, _⟩
  · show 3 ≤ 62; decide
  · exact Nat.le_trans (ig_len i hb) (by omega)
  · show (ig i).length + 1 ≤ 62
    have := ig_len i hb
    omega
theorem num_str (i : Int) (h : i.natAbs < 10 ^ 60) : strOfD [.int i] = some (.str (strOf (ig i))) := by
  show (if i.natAbs.log2 < 1920 then some (D.str (PySem.Str.ofString (toString i))) else none) = _
  rw [if_pos, ig_num]
  by_cases hz : i.natAbs = 0
  · rw [hz]; decide
  · exact (Nat.log2_lt hz).mpr (Nat.lt_of_lt_of_le h (by decide +kernel))
theorem s_nil : (("nil" : PySem.Str)) = strOf [110, 105, 108] := by decide +kernel
theorem s_at : (("@" : PySem.Str)) = strOf [64] := by decide +kernel
theorem s_cm : ((", " : PySem.Str)) = strOf [44, 32] := by decide +kernel
theorem s_sc : (("; " : PySem.Str)) = strOf [59, 32] := by decide +kernel
theorem s_qu : (("'" : PySem.Str)) = strOf [39] := by decide +kernel
theorem s_lb : (("[" : PySem.Str)) = strOf [91] := by decide +kernel
theorem s_rb : (("]" : PySem.Str)) = strOf [93] := by decide +kernel
theorem s_lc : (("{" : PySem.Str)) = strOf [123] := by decide +kernel
theorem s_rc : (("}" : PySem.Str)) = strOf [125] := by decide +kernel
theorem s_eq : (("=" : PySem.Str)) = strOf [61] := by decide +kernel
theorem s_em : (("" : PySem.Str)) = strOf [] := by decide +kernel
theorem at_text (i : Int) (h : i.natAbs < 10 ^ 60) : addA (.str "@") (.str (strOf (ig i))) = some (.str (strOf (64 :: ig i))) := by
  rw [s_at]
  refine add_s [64] (ig i) ?_
  have := ig_len i h
  have z : (100 : Nat) ≤ sizeLine := by decide
  simp only [List.length_singleton]
  omega
theorem show_v (v : D) (hv : valB v = true) (hb : bnd v) : m_shown_value [v] = some (.str (strOf (vL v))) := by
  rcases val_cases hv with rfl | ⟨i, rfl⟩ | ⟨i, rfl, _⟩
  · refine mkF_rt rfl (seq_rt ?_)
    rw [if_t rfl]
    show some (Res.rt (.str "nil")) = _
    rw [s_nil]
    rfl
  · refine mkF_rt rfl (seq_to (δ' := [.sh (.int i)]) rfl (seq_to (δ' := [.sh (.int i)]) rfl (seq_rt (ret_of ?_))))
    rw [oA_of (ds := [.int i]) rfl]
    exact num_str i hb
  · refine mkF_rt rfl (seq_to (δ' := [.sh (.tup [.str "at", .int i])]) rfl (seq_rt ?_))
    rw [if_t rfl]
    refine seq_rt (ret_of ?_)
    rw [o2_of (x := .str "@") (y := .str (strOf (ig i))) rfl (by rw [oA_of (ds := [.int i]) rfl]; exact num_str i hb)]
    exact at_text i hb
theorem text_v (v : D) (hv : valB v = true) (hb : bnd v) : m__law_value_text [v] = some (.str (strOf (vL v))) := by
  rcases val_cases hv with rfl | ⟨i, rfl⟩ | ⟨i, rfl, _⟩
  · refine mkF_rt rfl (seq_rt ?_)
    rw [if_t rfl]
    show some (Res.rt (.str "nil")) = _
    rw [s_nil]
    rfl
  · refine mkF_rt rfl (seq_to (δ' := [.sh (.int i)]) rfl (seq_rt ?_))
    rw [if_t rfl]
    refine seq_rt (ret_of ?_)
    rw [oA_of (ds := [.int i]) rfl]
    exact num_str i hb
  · refine mkF_rt rfl (seq_to (δ' := [.sh (.tup [.str "at", .int i])]) rfl (seq_to (δ' := [.sh (.tup [.str "at", .int i])]) rfl (seq_rt (ret_of ?_))))
    rw [o2_of (x := .str "@") (y := .str (strOf (ig i))) rfl (by rw [oA_of (ds := [.int i]) rfl]; exact num_str i hb)]
    exact at_text i hb
/-! ### the text of a part -/
def nL (n : PySem.Str) : List Nat := n.cps.toList
def prL (p : PySem.Str × D) : List Nat := nL p.1 ++ [61] ++ vL p.2
def inR (vs : List D) : List Nat := joinL [44, 32] (vs.map vL)
def inP (ps : List (PySem.Str × D)) : List Nat := joinL [44, 32] (ps.map prL)
def pL : Pt → List Nat
  | .text w => 39 :: (nL w ++ [39])
  | .row vs => 91 :: (inR vs ++ [93])
  | .table ps => 123 :: (inP ps ++ [125])
  | .rcd c ps => nL c ++ 123 :: (inP ps ++ [125])
structure P7 (p : Pt) : Prop where
  ok : p.Ok
  bd : ∀ v ∈ p.vals, bnd v
theorem nL_of (n : PySem.Str) : strOf (nL n) = n := strOf_of n
theorem nL_len (n : PySem.Str) : (nL n).length = n.length := by show n.cps.toList.length = n.cps.size; simp
theorem prL_len {ps : List (PySem.Str × D)} (h : PsOk ps) (hb : ∀ v ∈ ps.map (·.2), bnd v) : ∀ t ∈ ps.map prL, t.length ≤ 71 := fun t ht => by
  obtain ⟨p, hp, rfl⟩ := List.mem_map.mp ht
  have h1 := name_short (h.names p hp)
  have h2 := vL_len p.2 (h.vals p hp) (hb p.2 (List.mem_map.mpr ⟨p, hp, rfl⟩))
  unfold prL
  rw [List.length_append, List.length_append, nL_len, List.length_singleton]
  omega
theorem inP_len {ps : List (PySem.Str × D)} (h : PsOk ps) (hb : ∀ v ∈ ps.map (·.2), bnd v) : (inP ps).length ≤ 876 := by
  have := joinL_len [44, 32] 71 (ps.map prL) (prL_len h hb)
  have hl := h.len
  rw [List.length_map] at this
  have : ps.length * (71 + 2) ≤ 12 * 73 := Nat.mul_le_mul hl (by omega)
  unfold inP
  simp only [List.length_cons, List.length_nil] at *
  omega
theorem inR_len {vs : List D} (h : vs.length ≤ 12) (hv : ∀ v ∈ vs, valB v = true) (hb : ∀ v ∈ vs, bnd v) : (inR vs).length ≤ 768 := by
  have := joinL_len [44, 32] 62 (vs.map vL) (fun t ht => by
    obtain ⟨v, hv', rfl⟩ := List.mem_map.mp ht
    exact vL_len v (hv v hv') (hb v hv'))
  rw [List.length_map] at this
  have : vs.length * (62 + 2) ≤ 12 * 64 := Nat.mul_le_mul h (by omega)
  unfold inR
  simp only [List.length_cons, List.length_nil] at *
  omega
theorem word_short {w : PySem.Str} (h : isWord w = true) : w.length ≤ 20 := by
  unfold isWord at h
  simp only [Bool.and_eq_true, decide_eq_true_eq] at h
  omega
theorem pL_len {p : Pt} (h : P7 p) : (pL p).length ≤ 900 := by
  cases p with
  | text w =>
    have : isWord w = true := h.ok
    have := word_short this
    show (39 :: (nL w ++ [39])).length ≤ 900
    simp only [List.length_cons, List.length_append, List.length_nil, nL_len]
    omega
  | row vs =>
    have := inR_len h.ok.1 h.ok.2 h.bd
    show (91 :: (inR vs ++ [93])).length ≤ 900
    simp only [List.length_cons, List.length_append, List.length_nil]
    omega
  | table ps =>
    have := inP_len h.ok h.bd
    show (123 :: (inP ps ++ [125])).length ≤ 900
    simp only [List.length_cons, List.length_append, List.length_nil]
    omega
  | rcd c ps =>
    have := inP_len h.ok.2 h.bd
    have := name_short h.ok.1
    show (nL c ++ 123 :: (inP ps ++ [125])).length ≤ 900
    simp only [List.length_cons, List.length_append, List.length_nil, nL_len]
    omega
theorem around (a b : Nat) (l : List Nat) (A B : PySem.Str) (hA : A = strOf [a]) (hB : B = strOf [b]) (hl : l.length ≤ 1000) {g : GE} {δ : Ds} (hg : g δ = some (.str (strOf l))) : o2 (o2 (gc (.str A)) g addA) (gc (.str B)) addA δ = some (.str (strOf (a :: (l ++ [b])))) := by
  have z : (2000 : Nat) ≤ sizeLine := by decide
  rw [o2_of (x := .str (strOf (a :: l))) (y := .str B) (by
    rw [o2_of (x := .str A) (y := .str (strOf l)) rfl hg, hA]
    exact add_s [a] l (by simp only [List.length_singleton]; omega)) rfl, hB, add_s (a :: l) [b] (by simp only [List.length_cons, List.length_nil]; omega)]
  rfl
theorem show_row (m : List D → Option D) (hm : ∀ v, valB v = true → bnd v → m [v] = some (.str (strOf (vL v)))) {vs : List D} (h : vs.length ≤ 12) (hv : ∀ v ∈ vs, valB v = true) (hb : ∀ v ∈ vs, bnd v) {gi : GA} {δ : Ds} (hg : gi δ = some vs) :
    joinG (gc (.str ", ")) (consA (compG 1 [] gi (gN 0) noT (oA (consA (gv 0) nilA) m)) nilA) δ = some (.str (strOf (inR vs))) := by
  have z : (100 : Nat) ≤ sizeLine := by decide
  refine joinG_of [44, 32] (vs.map vL) 62 s_cm (comp_of (items := vs) hg (by omega) ?_) (fun t ht => by
    obtain ⟨v, hv', rfl⟩ := List.mem_map.mp ht
    exact vL_len v (hv v hv') (hb v hv')) ?_
  · rw [List.map_map]
    exact compD_map (fun v => .str (strOf (vL v))) fun v hv' => ⟨[.sh v], rfl, rfl, by rw [oA_of (ds := [v]) rfl]; exact hm v (hv v hv') (hb v hv')⟩
  · rw [List.length_map]
    have : vs.length * (62 + 2) ≤ 12 * 64 := Nat.mul_le_mul h (by omega)
    simp only [List.length_cons, List.length_nil]
    omega
theorem pair_text (m : List D → Option D) (hm : ∀ v, valB v = true → bnd v → m [v] = some (.str (strOf (vL v)))) (n : PySem.Str) (v : D) (hn : n.length ≤ 8) (hv : valB v = true) (hb : bnd v) {ga gb : GE} {δ : Ds} (h1 : ga δ = some (.str n)) (h2 : gb δ = some v) :
    o2 (o2 ga (gc (.str "=")) addA) (oA (consA gb nilA) m) addA δ = some (.str (strOf (prL (n, v)))) := by
  have z : (2000 : Nat) ≤ sizeLine := by decide
  have hl := vL_len v hv hb
  have e : D.str n = .str (strOf (nL n)) := by rw [nL_of]
  rw [o2_of (x := .str (strOf (nL n ++ [61]))) (y := .str (strOf (vL v))) (by
    rw [o2_of (x := .str n) (y := .str "=") h1 rfl, e, s_eq]
    exact add_s _ _ (by rw [nL_len]; simp only [List.length_singleton]; omega)) (by rw [oA_of (ds := [v]) (cons_of h2 rfl)]; exact hm v hv hb)]
  exact add_s _ _ (by rw [List.length_append, nL_len]; simp only [List.length_singleton]; omega)
theorem show_pairs {ps : List (PySem.Str × D)} (h : PsOk ps) (hb : ∀ v ∈ ps.map (·.2), bnd v) : m_shown_pairs [.tup (ps.map pr)] = some (.str (strOf (123 :: (inP ps ++ [125])))) := by
  have z : (100 : Nat) ≤ sizeLine := by decide
  have hl := h.len
  refine mkF_rt rfl (seq_rt (ret_of (around 123 125 (inP ps) _ _ s_lc s_rc (by have := inP_len h hb; omega) ?_)))
  refine joinG_of [44, 32] (ps.map prL) 71 s_cm (comp_of (items := ps.map pr) rfl (by rw [List.length_map]; omega) ?_) (prL_len h hb) ?_
  · rw [compD_map (fun d => match d with | .tup [.str n, v] => .str (strOf (prL (n, v))) | _ => .non) fun d hd => ?_, List.map_map, List.map_map]
    · rfl
    · obtain ⟨p, hp, rfl⟩ := List.mem_map.mp hd
      exact ⟨[.sh (pr p)], rfl, rfl, pair_text m_shown_value show_v p.1 p.2 (name_short (h.names p hp)) (h.vals p hp) (hb p.2 (List.mem_map.mpr ⟨p, hp, rfl⟩)) rfl rfl⟩
  · rw [List.length_map]
    have : ps.length * (71 + 2) ≤ 12 * 73 := Nat.mul_le_mul hl (by omega)
    simp only [List.length_cons, List.length_nil]
    omega
theorem show_part {p : Pt} (h : P7 p) : m_shown_part [p.d] = some (.str (strOf (pL p))) := by
  have z : (2000 : Nat) ≤ sizeLine := by decide
  cases p with
  | text w =>
    have hw : isWord w = true := h.ok
    refine mkF_rt rfl (seq_rt ?_)
    rw [if_t (by kernel_rfl)]
    exact seq_rt (ret_of (around 39 39 (nL w) _ _ s_qu s_qu (by rw [nL_len]; have := word_short hw; omega) (by rw [nL_of]; rfl)))
  | row vs =>
    refine mkF_rt rfl (seq_to (δ' := [.sh (Pt.row vs).d]) (by rw [if_f (by kernel_rfl)]; rfl) (seq_rt ?_))
    rw [if_t (by kernel_rfl)]
    exact seq_rt (ret_of (around 91 93 (inR vs) _ _ s_lb s_rb (by have := inR_len h.ok.1 h.ok.2 h.bd; omega) (show_row m_shown_value show_v h.ok.1 h.ok.2 h.bd rfl)))
  | table ps =>
    refine mkF_rt rfl (seq_to (δ' := [.sh (Pt.table ps).d]) (by rw [if_f (by kernel_rfl)]; rfl) (seq_to (δ' := [.sh (Pt.table ps).d]) (by rw [if_f (by kernel_rfl)]; rfl) (seq_rt ?_)))
    rw [if_t (by kernel_rfl)]
    exact seq_rt (ret_of (by rw [oA_of (ds := [.tup (ps.map pr)]) rfl]; exact show_pairs h.ok h.bd))
  | rcd c ps =>
    refine mkF_rt rfl (seq_to (δ' := [.sh (Pt.rcd c ps).d]) (by rw [if_f (by kernel_rfl)]; rfl) (seq_to (δ' := [.sh (Pt.rcd c ps).d]) (by rw [if_f (by kernel_rfl)]; rfl) (seq_to (δ' := [.sh (Pt.rcd c ps).d]) (by rw [if_f (by kernel_rfl)]; rfl) (seq_rt (ret_of ?_)))))
    rw [o2_of (x := .str c) (y := .str (strOf (123 :: (inP ps ++ [125])))) rfl (by rw [oA_of (ds := [.tup (ps.map pr)]) rfl]; exact show_pairs h.ok.2 h.bd)]
    have e : D.str c = .str (strOf (nL c)) := by rw [nL_of]
    rw [e]
    refine add_s _ _ ?_
    have := inP_len h.ok.2 h.bd
    have := name_short h.ok.1
    rw [nL_len]
    simp only [List.length_cons, List.length_append, List.length_nil]
    omega
def wL (ps : List Pt) : List Nat := joinL [59, 32] (ps.map pL)
theorem show_web {ps : List Pt} (hl : ps.length ≤ 60) (h : ∀ p ∈ ps, P7 p) : m_shown [.tup (ps.map Pt.d)] = some (.str (strOf (wL ps))) := by
  have z : (2000 : Nat) ≤ sizeLine := by decide
  refine mkF_rt rfl (seq_rt (ret_of (joinG_of [59, 32] (ps.map pL) 900 s_sc (comp_of (items := ps.map Pt.d) rfl (by rw [List.length_map]; omega) ?_) (fun t ht => by
    obtain ⟨p, hp, rfl⟩ := List.mem_map.mp ht
    exact pL_len (h p hp)) ?_)))
  · rw [List.map_map]
    exact comp_any Pt.d (fun p => .str (strOf (pL p))) ps fun p hp => ⟨[.sh p.d], rfl, rfl, by rw [oA_of (ds := [p.d]) rfl]; exact show_part (h p hp)⟩
  · rw [List.length_map]
    have : ps.length * (900 + 2) ≤ 60 * 902 := Nat.mul_le_mul hl (by omega)
    simp only [List.length_cons, List.length_nil]
    omega
end K7
namespace K7
open PySem DL W
/-! ### the law's own text -/
def TB : GS := (seqD (ifD (ob (o2 (o2 (gv 2) (gc (.int 0)) ixD) (gc (.str "text")) eqD))
  (seqD (exprX (appX 1 (o2 (o2 (gc (.str "'")) (o2 (gv 2) (gc (.int 1)) ixD) addA) (gc (.str "'")) addA)))
  nilD)
  (seqD (ifD (ob (o2 (o2 (gv 2) (gc (.int 0)) ixD) (gc (.str "row")) eqD))
  (seqD (exprX (appX 1 (o2 (o2 (gc (.str "[")) (joinG (gc (.str ", ")) (consA (compG 1 [] (tupI (o2 (gv 2) (gc (.int 1)) ixD)) (gN 0) noT (oA (consA (gv 0) nilA) m__law_value_text)) nilA)) addA) (gc (.str "]")) addA)))
  nilD)
  (seqD (setD (gN 3) (joinG (gc (.str ", ")) (consA (compG 2 [] (tupI (o2 (gv 2) (unG negD (gc (.int 1))) ixD)) (tup2 0 1) noT (o2 (o2 (gv 0) (gc (.str "=")) addA) (oA (consA (gv 1) nilA) m__law_value_text) addA)) nilA)))
  (seqD (setD (gN 4) (gc (.str "")))
  (seqD (ifD (ob (o2 (o2 (gv 2) (gc (.int 0)) ixD) (gc (.str "record")) eqD))
  (seqD (setD (gN 4) (o2 (gv 2) (gc (.int 1)) ixD))
  nilD)
  nilD)
  (seqD (exprX (appX 1 (o2 (o2 (o2 (gv 4) (gc (.str "{")) addA) (gv 3) addA) (gc (.str "}")) addA)))
  nilD)))))
  nilD))
  nilD)
theorem app_ow {i : Nat} {g : GE} {δ : Ds} {l : List D} {d : D} (h1 : owL i δ = some l) (h2 : g δ = some d) (h3 : l.length < sizeLine) : exprX (appX i g) δ = some (.nx (δ.set i (.ow (.lst (l ++ [d]))))) := by
  unfold exprX appX
  rw [h1, h2]
  simp only [Option.bind_some]
  rw [if_pos h3]
  rfl
theorem pairs_text {ps : List (PySem.Str × D)} (h : PsOk ps) (hb : ∀ v ∈ ps.map (·.2), bnd v) {gi : GA} {δ : Ds} (hg : gi δ = some (ps.map pr)) :
    joinG (gc (.str ", ")) (consA (compG 2 [] gi (tup2 0 1) noT (o2 (o2 (gv 0) (gc (.str "=")) addA) (oA (consA (gv 1) nilA) m__law_value_text) addA)) nilA) δ = some (.str (strOf (inP ps))) := by
  have z : (100 : Nat) ≤ sizeLine := by decide
  have hl := h.len
  refine joinG_of [44, 32] (ps.map prL) 71 s_cm (comp_of (items := ps.map pr) hg (by rw [List.length_map]; omega) ?_) (prL_len h hb) ?_
  · rw [List.map_map]
    exact comp_any pr (fun p => .str (strOf (prL p))) ps fun p hp => ⟨[.sh (.str p.1), .sh p.2], rfl, rfl, pair_text m__law_value_text text_v p.1 p.2 (name_short (h.names p hp)) (h.vals p hp) (hb p.2 (List.mem_map.mpr ⟨p, hp, rfl⟩)) rfl rfl⟩
  · rw [List.length_map]
    have : ps.length * (71 + 2) ≤ 12 * 73 := Nat.mul_le_mul hl (by omega)
    simp only [List.length_cons, List.length_nil]
    omega
theorem close_text (f : List Nat) (hf : f.length ≤ 8) (l : List Nat) (hl : l.length ≤ 900) {ga gb : GE} {δ : Ds} (h1 : ga δ = some (.str (strOf f))) (h2 : gb δ = some (.str (strOf l))) : o2 (o2 (o2 ga (gc (.str "{")) addA) gb addA) (gc (.str "}")) addA δ = some (.str (strOf (f ++ 123 :: (l ++ [125])))) := by
  have z : (2000 : Nat) ≤ sizeLine := by decide
  rw [o2_of (x := .str (strOf (f ++ [123] ++ l))) (y := .str "}") (by
    rw [o2_of (x := .str (strOf (f ++ [123]))) (y := .str (strOf l)) (by
      rw [o2_of (x := .str (strOf f)) (y := .str "{") h1 rfl, s_lc]
      exact add_s _ _ (by simp only [List.length_singleton]; omega)) h2]
    exact add_s _ _ (by rw [List.length_append]; simp only [List.length_singleton]; omega)) rfl, s_rc, add_s _ _ (by rw [List.length_append, List.length_append]; simp only [List.length_singleton]; omega)]
  congr 3
  simp [List.append_assoc]
theorem tb_ok {p : Pt} (h : P7 p) (w : Sl) (acc : List D) (ha : acc.length < sizeLine) (s3 s4 : Sl) : ∃ t3 t4, TB [w, .ow (.lst acc), .sh p.d, s3, s4] = some (.nx [w, .ow (.lst (acc ++ [.str (strOf (pL p))])), .sh p.d, t3, t4]) := by
  cases p with
  | text wd =>
    have hw : isWord wd = true := h.ok
    refine ⟨s3, s4, seq_to ?_ rfl⟩
    rw [if_t (by kernel_rfl)]
    refine seq_to (app_ow (l := acc) rfl (around 39 39 (nL wd) _ _ s_qu s_qu (by rw [nL_len]; have := word_short hw; omega) (by rw [nL_of]; rfl)) ha) rfl
  | row vs =>
    refine ⟨s3, s4, seq_to ?_ rfl⟩
    rw [if_f (by kernel_rfl)]
    refine seq_to ?_ rfl
    rw [if_t (by kernel_rfl)]
    exact seq_to (app_ow (l := acc) rfl (around 91 93 (inR vs) _ _ s_lb s_rb (by have := inR_len h.ok.1 h.ok.2 h.bd; omega) (show_row m__law_value_text text_v h.ok.1 h.ok.2 h.bd rfl)) ha) rfl
  | table ps =>
    refine ⟨.sh (.str (strOf (inP ps))), .sh (.str ""), seq_to ?_ rfl⟩
    rw [if_f (by kernel_rfl)]
    refine seq_to ?_ rfl
    rw [if_f (by kernel_rfl)]
    refine seq_to (set_of (pairs_text h.ok h.bd rfl)) (seq_to (set_of (d := .str "") rfl) (seq_to (δ' := [w, .ow (.lst acc), .sh (Pt.table ps).d, .sh (.str (strOf (inP ps))), .sh (.str "")]) (by rw [if_f (by kernel_rfl)]; rfl) ?_))
    have := inP_len h.ok h.bd
    exact seq_to (app_ow (l := acc) rfl (close_text [] (by simp) (inP ps) (by omega) (by rw [← s_em]; rfl) rfl) ha) rfl
  | rcd c ps =>
    refine ⟨.sh (.str (strOf (inP ps))), .sh (.str c), seq_to ?_ rfl⟩
    rw [if_f (by kernel_rfl)]
    refine seq_to ?_ rfl
    rw [if_f (by kernel_rfl)]
    refine seq_to (set_of (pairs_text h.ok.2 h.bd rfl)) (seq_to (set_of (d := .str "") rfl) (seq_to (δ' := [w, .ow (.lst acc), .sh (Pt.rcd c ps).d, .sh (.str (strOf (inP ps))), .sh (.str c)]) (by rw [if_t (by kernel_rfl)]; rfl) ?_))
    have := inP_len h.ok.2 h.bd
    have := name_short h.ok.1
    exact seq_to (app_ow (l := acc) rfl (close_text (nL c) (by rw [nL_len]; omega) (inP ps) (by omega) (by rw [nL_of]; rfl) rfl) ha) rfl
theorem tb_loop (w : Sl) : ∀ (l : List Pt) (acc : List D) (s2 s3 s4 : Sl), (∀ p ∈ l, P7 p) → acc.length + l.length ≤ 1000 → ∃ t2 t3 t4, forD (gN 2) TB (l.map Pt.d) [w, .ow (.lst acc), s2, s3, s4] = some (.nx [w, .ow (.lst (acc ++ l.map fun p => D.str (strOf (pL p)))), t2, t3, t4])
  | [], acc, s2, s3, s4, _, _ => ⟨s2, s3, s4, by rw [List.map_nil, List.map_nil, List.append_nil]; rfl⟩
  | p :: l, acc, s2, s3, s4, h, hl => by
    have z : (2000 : Nat) ≤ sizeLine := by decide
    rw [List.length_cons] at hl
    obtain ⟨u3, u4, e⟩ := tb_ok (h p List.mem_cons_self) w acc (by omega) s3 s4
    obtain ⟨t2, t3, t4, e2⟩ := tb_loop w l (acc ++ [.str (strOf (pL p))]) (.sh p.d) u3 u4 (fun q hq => h q (List.mem_cons_of_mem _ hq)) (by rw [List.length_append, List.length_singleton]; omega)
    refine ⟨t2, t3, t4, ?_⟩
    rw [List.map_cons, for_cons (δ1 := [w, .ow (.lst acc), .sh p.d, s3, s4]) rfl e, e2, List.append_assoc]
    rfl
theorem text_web {ps : List Pt} (hl : ps.length ≤ 60) (h : ∀ p ∈ ps, P7 p) : m__law_text [.tup (ps.map Pt.d)] = some (.str (strOf (wL ps))) := by
  obtain ⟨t2, t3, t4, e⟩ := tb_loop (.sh (.tup (ps.map Pt.d))) ps [] .un .un .un h (by simp; omega)
  rw [List.nil_append] at e
  refine mkF_rt rfl (seq_to (δ' := [.sh (.tup (ps.map Pt.d)), .ow (.lst []), .un, .un, .un]) rfl (seq_to (for_of (items := ps.map Pt.d) rfl e) (seq_rt (ret_of ?_))))
  show joinG (gc (.str "; ")) (consA (gv 1) nilA) [.sh (.tup (ps.map Pt.d)), .sh (.lst (ps.map fun p => D.str (strOf (pL p)))), frz1 t2, frz1 t3, frz1 t4] = _
  refine joinG_of [59, 32] (ps.map pL) 900 s_sc (by rw [List.map_map]; rfl) (fun t ht => by
    obtain ⟨p, hp, rfl⟩ := List.mem_map.mp ht
    exact pL_len (h p hp)) ?_
  rw [List.length_map]
  have : ps.length * (900 + 2) ≤ 60 * 902 := Nat.mul_le_mul hl (by omega)
  simp only [List.length_cons, List.length_nil]
  omega
/-! ### numbers read -/
theorem starts_of {g : GE} {δ : Ds} (a : Nat) (l : List Nat) (b : Nat) {S : PySem.Str} (hS : S = strOf [b]) (hg : g δ = some (.str (strOf (a :: l)))) : methG g (consA (gc (.str S)) nilA) startsD δ = some (.bl (decide (a = b))) := by
  rw [meth_of hg (cons_of rfl rfl), hS]
  show some (D.bl (Txt.startswith (strOf (a :: l)) ⟨#[b]⟩)) = _
  rw [starts_one]
theorem ends_of {g : GE} {δ : Ds} (l : List Nat) (a b : Nat) {S : PySem.Str} (hS : S = strOf [b]) (hg : g δ = some (.str (strOf (l ++ [a])))) : methG g (consA (gc (.str S)) nilA) endsD δ = some (.bl (decide (a = b))) := by
  rw [meth_of hg (cons_of rfl rfl), hS]
  show some (D.bl (Txt.endswith (strOf (l ++ [a])) ⟨#[b]⟩)) = _
  rw [ends_one]
theorem s_zero : (("0" : PySem.Str)) = strOf [48] := by decide +kernel
theorem s_neg : (("-" : PySem.Str)) = strOf [45] := by decide +kernel
theorem s_neg0 : (("-0" : PySem.Str)) = strOf [45, 48] := by decide +kernel
theorem s_fig : (("0123456789" : PySem.Str)) = strOf [48, 49, 50, 51, 52, 53, 54, 55, 56, 57] := by decide +kernel
theorem len_str {g : GE} {δ : Ds} (l : List Nat) (hl : l.length ≤ sizeLine) (hg : g δ = some (.str (strOf l))) : oA (consA g nilA) lenD δ = some (.int (l.length : Int)) := by
  rw [oA_of (cons_of hg rfl)]
  show (if (strOf l).length ≤ sizeLine then some (D.int (strOf l).length) else none) = _
  rw [strOf_len, if_pos hl]
theorem count_text (m : Nat) (h : m < 10 ^ 60) : m_is_count_text [.str (strOf (dg m))] = some (.bl true) := by
  have z : (2000 : Nat) ≤ sizeLine := by decide
  have hl : (dg m).length ≤ 60 := dg_len 59 m h
  have h0 : 0 < (dg m).length := List.length_pos_iff.mpr (dg_ne m)
  have el := len_str (g := gv 0) (δ := [.sh (.str (strOf (dg m)))]) (dg m) (by omega) rfl
  refine mkF_rt rfl (seq_to (δ' := [.sh (.str (strOf (dg m)))]) ?_ (seq_rt (ret_of ?_)))
  · have e1 : ob (o2 (oA (consA (gv 0) nilA) lenD) (gc (.int 0)) eqD) [.sh (.str (strOf (dg m)))] = some false := by
      show (o2 _ _ eqD _).bind asB = _
      rw [o2_of el rfl]
      show some (decide (((dg m).length : Int) = 0)) = _
      rw [decide_eq_false (by omega)]
    have e2 : ob (o2 (oA (consA (gv 0) nilA) lenD) (gc (.int 60)) gtD) [.sh (.str (strOf (dg m)))] = some false := by
      show (o2 _ _ gtD _).bind asB = _
      rw [o2_of el rfl]
      show some (decide ((60 : Int) < ((dg m).length : Int))) = _
      rw [decide_eq_false (by omega)]
    have e3 : oA (consA (compG 1 [] (strI (gv 0)) (gN 0) noT (o2 (gv 0) (gc (.str "0123456789")) inD)) nilA) allD [.sh (.str (strOf (dg m)))] = some (.bl true) := by
      rw [oA_of (ds := [.lst ((dg m).map fun c => D.bl true)]) (cons_of (comp_of (items := (dg m).map fun c => D.str ⟨#[c]⟩) (by
        show some (signs (strOf (dg m))) = _
        unfold signs
        rw [strOf_list]) (by rw [List.length_map]; omega) (comp_any (fun c => D.str ⟨#[c]⟩) (fun c => .bl true) (dg m) fun c hc => ⟨[.sh (.str ⟨#[c]⟩)], rfl, rfl, by
          show some (D.bl (inS ⟨#[c]⟩ "0123456789")) = _
          rw [inS_one, s_fig, strOf_list, decide_eq_true]
          have := dg_all m c hc
          simp only [List.mem_cons, List.not_mem_nil, or_false]
          omega⟩)) rfl)]
      show (bools _).map _ = _
      rw [bools_map (fun _ => true)]
      show some (D.bl (((dg m).map fun _ => true).all id)) = _
      congr 2
      rw [List.all_eq_true]
      intro b hb
      obtain ⟨_, _, rfl⟩ := List.mem_map.mp hb
      rfl
    have e3' : tNotG (ob (oA (consA (compG 1 [] (strI (gv 0)) (gN 0) noT (o2 (gv 0) (gc (.str "0123456789")) inD)) nilA) allD)) [.sh (.str (strOf (dg m)))] = some false := by
      show ((oA (consA (compG 1 [] (strI (gv 0)) (gN 0) noT (o2 (gv 0) (gc (.str "0123456789")) inD)) nilA) allD [.sh (.str (strOf (dg m)))]).bind asB).map _ = _
      rw [e3]
      rfl
    change ifD _ _ _ [.sh (.str (strOf (dg m)))] = _
    rw [if_f (by
      unfold tOrG
      rw [e1]
      show (ob _ _).bind _ = _
      rw [e2]
      exact e3')]
    rfl
  · by_cases hm : m = 0
    · subst hm
      have e : dg 0 = [48] := dg_small (by decide)
      rw [e]
      show (Option.bind (ob _ _) _) = _
      have : ob (o2 (gv 0) (gc (.str "0")) eqD) [.sh (.str (strOf [48]))] = some true := by
        show some (decide (strOf [48] = ("0" : PySem.Str))) = _
        rw [decide_eq_true s_zero.symm]
      change Option.bind (ob (o2 (gv 0) (gc (.str "0")) eqD) [.sh (.str (strOf [48]))]) _ = _
      rw [this]
      rfl
    · obtain ⟨c, l, e, hc⟩ := dg_head m (by omega)
      rw [e]
      have q1 : ob (o2 (gv 0) (gc (.str "0")) eqD) [.sh (.str (strOf (c :: l)))] = some false := by
        show some (decide (strOf (c :: l) = ("0" : PySem.Str))) = _
        rw [decide_eq_false]
        rw [s_zero]
        intro z
        have := strOf_inj z
        injection this with z1 _
        exact hc z1
      have q2 : notG (methG (gv 0) (consA (gc (.str "0")) nilA) startsD) [.sh (.str (strOf (c :: l)))] = some (.bl true) := by
        show Option.map _ (Option.bind (methG (gv 0) (consA (gc (.str "0")) nilA) startsD [.sh (.str (strOf (c :: l)))]) asB) = _
        rw [starts_of c l 48 s_zero rfl, decide_eq_false hc]
        rfl
      change Option.bind (ob (o2 (gv 0) (gc (.str "0")) eqD) [.sh (.str (strOf (c :: l)))]) _ = _
      rw [q1]
      exact q2
theorem read_count (m : Nat) (h : m < 10 ^ 60) : m_read_count [.str (strOf (dg m))] = some (.int (m : Int)) := by
  have hl : (dg m).length ≤ 60 := dg_len 59 m h
  refine mkF_rt rfl (seq_to (δ' := [.sh (.str (strOf (dg m)))]) ?_ (seq_rt (ret_of ?_)))
  · have e : oA (consA (gv 0) nilA) m_is_count_text [.sh (.str (strOf (dg m)))] = some (.bl true) := by rw [oA_of (ds := [.str (strOf (dg m))]) rfl]; exact count_text m h
    change ifD _ _ _ [.sh (.str (strOf (dg m)))] = _
    rw [if_f (by
      show ((oA (consA (gv 0) nilA) m_is_count_text [.sh (.str (strOf (dg m)))]).bind asB).map _ = _
      rw [e]
      rfl)]
    rfl
  · change oA _ _ [.sh (.str (strOf (dg m)))] = _
    rw [oA_of (ds := [.str (strOf (dg m))]) rfl]
    show (if (strOf (dg m)).length ≤ 640 then (PySem.intText? (strOf (dg m))).map D.int else none) = _
    rw [strOf_len, if_pos (by omega), dg_reads m (by omega)]
    rfl
end K7
namespace K7
open PySem DL W
/-! ### signs -/
theorem nameS_codes : ∀ c ∈ nameS.cps.toList, (48 ≤ c ∧ c ≤ 57) ∨ (97 ≤ c ∧ c ≤ 122) := by decide +kernel
theorem wordS_codes : ∀ c ∈ wordS.cps.toList, c = 32 ∨ (48 ≤ c ∧ c ≤ 57) ∨ (97 ≤ c ∧ c ≤ 122) := by decide +kernel
theorem name_codes {n : PySem.Str} (h : isName n = true) : (∀ c ∈ nL n, (48 ≤ c ∧ c ≤ 57) ∨ (97 ≤ c ∧ c ≤ 122)) ∧ nL n ≠ [] := by
  unfold isName hasAll at h
  simp only [Bool.and_eq_true, decide_eq_true_eq, List.all_eq_true] at h
  refine ⟨fun c hc => nameS_codes c (by simpa using h.1.2 c hc), fun z => ?_⟩
  have := nL_len n
  rw [z] at this
  simp at this
  omega
theorem word_codes {n : PySem.Str} (h : isWord n = true) : ∀ c ∈ nL n, c = 32 ∨ (48 ≤ c ∧ c ≤ 57) ∨ (97 ≤ c ∧ c ≤ 122) := by
  unfold isWord hasAll at h
  simp only [Bool.and_eq_true, decide_eq_true_eq, List.all_eq_true] at h
  exact fun c hc => wordS_codes c (by simpa using h.2 c hc)
theorem ig_codes (i : Int) : ∀ c ∈ ig i, c = 45 ∨ (48 ≤ c ∧ c ≤ 57) := by
  unfold ig
  split
  · exact fun c hc => .inr (dg_all _ c hc)
  · intro c hc
    rcases List.mem_cons.mp hc with rfl | hc
    · exact .inl rfl
    · exact .inr (dg_all _ c hc)
theorem ig_ne (i : Int) : ig i ≠ [] := by
  unfold ig
  split
  · exact dg_ne _
  · simp
theorem vL_codes (v : D) (hv : valB v = true) : (∀ c ∈ vL v, c = 45 ∨ c = 64 ∨ (48 ≤ c ∧ c ≤ 57) ∨ (97 ≤ c ∧ c ≤ 122)) ∧ vL v ≠ [] := by
  rcases val_cases hv with rfl | ⟨i, rfl⟩ | ⟨i, rfl, _⟩
  · refine ⟨fun c hc => ?_, by show [110, 105, 108] ≠ []; simp⟩
    have hc : c ∈ [110, 105, 108] := hc
    simp only [List.mem_cons, List.not_mem_nil, or_false] at hc
    omega
  · refine ⟨fun c hc => ?_, ig_ne i⟩
    have := ig_codes i c hc
    omega
  · refine ⟨fun c hc => ?_, by show 64 :: ig i ≠ []; simp⟩
    rcases List.mem_cons.mp hc with rfl | hc
    · omega
    · have := ig_codes i c hc
      omega
theorem joinL_mem (sep : List Nat) : ∀ (parts : List (List Nat)) (c : Nat), c ∈ joinL sep parts → c ∈ sep ∨ ∃ p ∈ parts, c ∈ p
  | [], c, h => by cases h
  | [p], c, h => .inr ⟨p, List.mem_cons_self, h⟩
  | p :: q :: r, c, h => by
    rcases List.mem_append.mp h with h | h
    · rcases List.mem_append.mp h with h | h
      · exact .inr ⟨p, List.mem_cons_self, h⟩
      · exact .inl h
    · rcases joinL_mem sep (q :: r) c h with z | ⟨t, ht, z⟩
      · exact .inl z
      · exact .inr ⟨t, List.mem_cons_of_mem _ ht, z⟩
theorem prL_codes {ps : List (PySem.Str × D)} (h : PsOk ps) : ∀ t ∈ ps.map prL, (∀ c ∈ t, c = 45 ∨ c = 61 ∨ c = 64 ∨ (48 ≤ c ∧ c ≤ 57) ∨ (97 ≤ c ∧ c ≤ 122)) ∧ t ≠ [] := fun t ht => by
  obtain ⟨p, hp, rfl⟩ := List.mem_map.mp ht
  have h1 := name_codes (h.names p hp)
  have h2 := vL_codes p.2 (h.vals p hp)
  refine ⟨fun c hc => ?_, by unfold prL; simp⟩
  unfold prL at hc
  rcases List.mem_append.mp hc with hc | hc
  · rcases List.mem_append.mp hc with hc | hc
    · have := h1.1 c hc; omega
    · have := List.mem_singleton.mp hc; omega
  · have := h2.1 c hc; omega
theorem inP_codes {ps : List (PySem.Str × D)} (h : PsOk ps) : ∀ c ∈ inP ps, c ≠ 59 := fun c hc => by
  rcases joinL_mem _ _ c hc with z | ⟨t, ht, z⟩
  · simp only [List.mem_cons, List.not_mem_nil, or_false] at z; omega
  · have := (prL_codes h t ht).1 c z; omega
theorem pL_codes {p : Pt} (h : p.Ok) : 59 ∉ pL p := fun hc => by
  cases p with
  | text w =>
    have hc : 59 ∈ 39 :: (nL w ++ [39]) := hc
    rcases List.mem_cons.mp hc with z | z
    · omega
    · rcases List.mem_append.mp z with z | z
      · have := word_codes (show isWord w = true from h) 59 z; omega
      · have := List.mem_singleton.mp z; omega
  | row vs =>
    have hc : 59 ∈ 91 :: (inR vs ++ [93]) := hc
    rcases List.mem_cons.mp hc with z | z
    · omega
    · rcases List.mem_append.mp z with z | z
      · rcases joinL_mem _ _ 59 z with z | ⟨t, ht, z⟩
        · simp at z
        · obtain ⟨v, hv, rfl⟩ := List.mem_map.mp ht
          have := (vL_codes v (h.2 v hv)).1 59 z
          omega
      · have := List.mem_singleton.mp z; omega
  | table ps =>
    have hc : 59 ∈ 123 :: (inP ps ++ [125]) := hc
    rcases List.mem_cons.mp hc with z | z
    · omega
    · rcases List.mem_append.mp z with z | z
      · exact inP_codes h 59 z rfl
      · have := List.mem_singleton.mp z; omega
  | rcd c ps =>
    have hc : 59 ∈ nL c ++ 123 :: (inP ps ++ [125]) := hc
    rcases List.mem_append.mp hc with z | z
    · have := (name_codes h.1).1 59 z; omega
    · rcases List.mem_cons.mp z with z | z
      · omega
      · rcases List.mem_append.mp z with z | z
        · exact inP_codes h.2 59 z rfl
        · have := List.mem_singleton.mp z; omega
/-! ### values read -/
theorem ne_codes {a b : List Nat} {S : PySem.Str} (hS : S = strOf b) (h : a ≠ b) : decide (strOf a = S) = false := by
  rw [decide_eq_false]
  rw [hS]
  exact fun z => h (strOf_inj z)
theorem slice1 {g : GE} {δ : Ds} (a : Nat) (l : List Nat) (hl : l.length + 1 ≤ sizeLine) (hg : g δ = some (.str (strOf (a :: l)))) : slAG g (someO (gc (.int 1))) noneO δ = some (.str (strOf l)) := by
  unfold slAG
  rw [hg]
  show slA (.str (strOf (a :: l))) (some 1) none = _
  simp only [slA]
  rw [if_pos (by rw [strOf_len]; simpa using hl), slice_tail]
theorem read_val (v : D) (hv : valB v = true) (hb : bnd v) : m_read_value [.str (strOf (vL v))] = some v := by
  have z : (2000 : Nat) ≤ sizeLine := by decide
  have hd : ∀ m : Nat, ∃ c l, dg m = c :: l ∧ 48 ≤ c ∧ c ≤ 57 := fun m => by
    cases e : dg m with
    | nil => exact absurd e (dg_ne m)
    | cons c l => exact ⟨c, l, rfl, dg_all m c (by rw [e]; exact List.mem_cons_self)⟩
  have no : ∀ (a : Nat) (l : List Nat) (A : GS), a ≠ 110 → ifD (ob (o2 (gv 0) (gc (.str "nil")) eqD)) A nilD [.sh (.str (strOf (a :: l)))] = some (.nx [.sh (.str (strOf (a :: l)))]) := fun a l A h => by
    rw [if_f (by
      show some (decide (strOf (a :: l) = ("nil" : PySem.Str))) = _
      rw [ne_codes s_nil (by intro e; injection e with e _; exact h e)])]
    rfl
  have st : ∀ (a b : Nat) (l : List Nat) (S : PySem.Str) (A : GS), S = strOf [b] → a ≠ b → ifD (ob (methG (gv 0) (consA (gc (.str S)) nilA) startsD)) A nilD [.sh (.str (strOf (a :: l)))] = some (.nx [.sh (.str (strOf (a :: l)))]) := fun a b l S A hS h => by
    rw [if_f (by
      show (methG (gv 0) (consA (gc (.str S)) nilA) startsD [.sh (.str (strOf (a :: l)))]).bind asB = _
      rw [starts_of a l b hS rfl, decide_eq_false h]
      rfl)]
    rfl
  rcases val_cases hv with rfl | ⟨i, rfl⟩ | ⟨i, rfl, h0⟩
  · refine mkF_rt rfl (seq_rt ?_)
    change ifD _ _ _ [.sh (.str (strOf [110, 105, 108]))] = _
    rw [if_t (by
      show some (decide (strOf [110, 105, 108] = ("nil" : PySem.Str))) = _
      rw [decide_eq_true s_nil.symm])]
    rfl
  · by_cases hi : 0 ≤ i
    · have e : vL (.int i) = dg i.toNat := by show ig i = _; unfold ig; rw [if_pos hi]
      have hb' : i.natAbs < 10 ^ 60 := hb
      obtain ⟨c, l, ec, h1, h2⟩ := hd i.toNat
      have rc := read_count i.toNat (by omega)
      rw [e, ec]
      rw [ec] at rc
      refine mkF_rt rfl (seq_to (no c l _ (by omega)) (seq_to (st c 64 l _ _ s_at (by omega)) (seq_to (δ' := [.sh (.str (strOf (c :: l)))]) ?_ (seq_to (st c 45 l _ _ s_neg (by omega)) (seq_rt (ret_of ?_))))))
      · rw [if_f (by
          show some (decide (strOf (c :: l) = ("-0" : PySem.Str))) = _
          rw [ne_codes s_neg0 (by intro e; injection e with e _; omega)])]
        rfl
      · rw [oA_of (ds := [.str (strOf (c :: l))]) rfl, rc, show ((i.toNat : Nat) : Int) = i by omega]
    · have e : vL (.int i) = 45 :: dg (-i).toNat := by show ig i = _; unfold ig; rw [if_neg hi]
      have hb' : i.natAbs < 10 ^ 60 := hb
      have rc := read_count (-i).toNat (by omega)
      have hlen := dg_len 59 (-i).toNat (by omega)
      obtain ⟨c, l, ec, hc⟩ := dg_head (-i).toNat (by omega)
      rw [e]
      refine mkF_rt rfl (seq_to (no 45 _ _ (by omega)) (seq_to (st 45 64 _ _ _ s_at (by omega)) (seq_to (δ' := [.sh (.str (strOf (45 :: dg (-i).toNat)))]) ?_ (seq_rt ?_))))
      · rw [if_f (by
          show some (decide (strOf (45 :: dg (-i).toNat) = ("-0" : PySem.Str))) = _
          rw [ne_codes s_neg0 (by
            intro e
            injection e with _ e
            rw [ec] at e
            injection e with e _
            exact hc e)])]
        rfl
      · rw [if_t (by
          show (methG (gv 0) (consA (gc (.str "-")) nilA) startsD [.sh (.str (strOf (45 :: dg (-i).toNat)))]).bind asB = _
          rw [starts_of 45 _ 45 s_neg rfl]
          rfl)]
        refine seq_rt (ret_of ?_)
        unfold unG
        rw [oA_of (ds := [.str (strOf (dg (-i).toNat))]) (cons_of (slice1 45 _ (by omega) rfl) rfl), rc]
        show some (D.int (-(((-i).toNat : Nat) : Int))) = _
        rw [show -(((-i).toNat : Nat) : Int) = i by omega]
  · have e : vL (.tup [.str "at", .int i]) = 64 :: dg i.toNat := by show 64 :: ig i = _; unfold ig; rw [if_pos h0]
    have hb' : i.natAbs < 10 ^ 60 := hb
    have rc := read_count i.toNat (by omega)
    have hlen := dg_len 59 i.toNat (by omega)
    rw [e]
    refine mkF_rt rfl (seq_to (no 64 _ _ (by omega)) (seq_rt ?_))
    rw [if_t (by
      show (methG (gv 0) (consA (gc (.str "@")) nilA) startsD [.sh (.str (strOf (64 :: dg i.toNat)))]).bind asB = _
      rw [starts_of 64 _ 64 s_at rfl]
      rfl)]
    refine seq_rt (ret_of (tup_of (cons_of rfl (cons_of (d := .int i) ?_ rfl)) (by show 2 ≤ sizeLine; omega)))
    rw [oA_of (ds := [.str (strOf (dg i.toNat))]) (cons_of (slice1 64 _ (by omega) rfl) rfl), rc, show ((i.toNat : Nat) : Int) = i by omega]
theorem part_of' {g : GE} {δ : Ds} (l r : List Nat) (c : Nat) (h : c ∉ l) {S : PySem.Str} (hS : S = strOf [c]) (hz : (l ++ c :: r).length ≤ sizeLine) (hg : g δ = some (.str (strOf (l ++ c :: r)))) : methG g (consA (gc (.str S)) nilA) partD δ = some (.tup [.str (strOf l), .str (strOf [c]), .str (strOf r)]) := by
  rw [meth_of hg (cons_of rfl rfl), hS]
  show (if ((strOf [c]).length == 0) = false ∧ (strOf (l ++ c :: r)).length ≤ sizeLine then _ else _) = _
  rw [if_pos ⟨by rw [strOf_len]; rfl, by rw [strOf_len]; exact hz⟩]
  have e : Txt.partition (strOf (l ++ c :: r)) (strOf [c]) = (strOf l, strOf [c], strOf r) := part_one l r c h
  rw [e]
theorem read_pr {ps : List (PySem.Str × D)} (h : PsOk ps) (hb : ∀ v ∈ ps.map (·.2), bnd v) (p : PySem.Str × D) (hp : p ∈ ps) : m_read_pair [.str (strOf (prL p))] = some (pr p) := by
  have z : (2000 : Nat) ≤ sizeLine := by decide
  have hn := name_codes (h.names p hp)
  have hbv := hb p.2 (List.mem_map.mpr ⟨p, hp, rfl⟩)
  have hl := prL_len h hb (prL p) (List.mem_map.mpr ⟨p, hp, rfl⟩)
  have e : prL p = nL p.1 ++ 61 :: vL p.2 := by unfold prL; simp
  rw [e] at hl ⊢
  refine mkF_rt rfl (seq_to (set_of (part_of' (nL p.1) (vL p.2) 61 (fun c => by have := hn.1 61 c; omega) s_eq (by omega) rfl)) (seq_rt (ret_of (tup_of (cons_of (d := .str p.1) (by rw [o2_of (x := .tup [.str (strOf (nL p.1)), .str (strOf [61]), .str (strOf (vL p.2))]) (y := .int 0) rfl rfl, nL_of]; rfl) (cons_of (d := p.2) ?_ rfl)) (by show 2 ≤ sizeLine; omega)))))
  rw [oA_of (ds := [.str (strOf (vL p.2))]) (cons_of (by rw [o2_of (x := .tup [.str (strOf (nL p.1)), .str (strOf [61]), .str (strOf (vL p.2))]) (y := .int 2) rfl rfl]; rfl) rfl)]
  exact read_val p.2 (h.vals p hp) hbv
theorem items_ok (parts : List (List Nat)) (hp : ∀ t ∈ parts, 44 ∉ t ∧ t ≠ []) (hn : parts.length ≤ 12) (hl : (joinL [44, 32] parts).length ≤ 1000) : m_parted_items [.str (strOf (joinL [44, 32] parts))] = some (.lst (parts.map fun t => D.str (strOf t))) := by
  have z : (2000 : Nat) ≤ sizeLine := by decide
  by_cases h0 : parts = []
  · subst h0
    refine mkF_rt rfl (seq_rt ?_)
    change ifD _ _ _ [.sh (.str (strOf []))] = _
    rw [if_t (by
      show some (decide (strOf [] = ("" : PySem.Str))) = _
      rw [decide_eq_true s_em.symm])]
    rfl
  · refine mkF_rt rfl (seq_to (δ' := [.sh (.str (strOf (joinL [44, 32] parts)))]) ?_ (seq_rt (ret_of ?_)))
    · change ifD _ _ _ [.sh (.str (strOf (joinL [44, 32] parts)))] = _
      rw [if_f (by
        show some (decide (strOf (joinL [44, 32] parts) = ("" : PySem.Str))) = _
        rw [ne_codes s_em (by
          match parts, h0, hp with
          | [p], _, hp => exact (hp p List.mem_cons_self).2
          | p :: q :: r, _, hp =>
            intro e
            have e : p ++ [44, 32] ++ joinL [44, 32] (q :: r) = [] := e
            simp at e)])]
      rfl
    · change methG _ _ _ [.sh (.str (strOf (joinL [44, 32] parts)))] = _
      rw [meth_of rfl (cons_of rfl rfl), s_cm]
      have e := split_joined 44 [32] (by decide +kernel) parts h0 fun t ht => (hp t ht).1
      show (if ((strOf [44, 32]).length == 0) = false ∧ (strOf (joinL [44, 32] parts)).length + 2 ≤ sizeLine ∧ (Txt.split (strOf (joinL [44, 32] parts)) (strOf [44, 32])).length ≤ sizeLine then some (D.lst ((Txt.split (strOf (joinL [44, 32] parts)) (strOf [44, 32])).map D.str)) else none) = _
      rw [e, if_pos ⟨by rw [strOf_len]; rfl, by rw [strOf_len]; omega, by rw [List.length_map]; omega⟩, List.map_map]
      rfl
theorem slice_m {g : GE} {δ : Ds} (a b : Nat) (l : List Nat) (hl : l.length + 2 ≤ sizeLine) (hg : g δ = some (.str (strOf (a :: (l ++ [b]))))) : slAG g (someO (gc (.int 1))) (someO (unG negD (gc (.int 1)))) δ = some (.str (strOf l)) := by
  unfold slAG
  rw [hg]
  show slA (.str (strOf (a :: (l ++ [b])))) (some 1) (some (-1)) = _
  simp only [slA]
  rw [if_pos (by rw [strOf_len]; simpa using hl), slice_mid]
theorem slice_i {g : GE} {δ : Ds} (l : List Nat) (b : Nat) (hl : l.length + 1 ≤ sizeLine) (hg : g δ = some (.str (strOf (l ++ [b])))) : slAG g noneO (someO (unG negD (gc (.int 1)))) δ = some (.str (strOf l)) := by
  unfold slAG
  rw [hg]
  show slA (.str (strOf (l ++ [b]))) none (some (-1)) = _
  simp only [slA]
  rw [if_pos (by rw [strOf_len]; simpa using hl), slice_init]
theorem read_paired {ps : List (PySem.Str × D)} (h : PsOk ps) (hb : ∀ v ∈ ps.map (·.2), bnd v) (f : List Nat) (hf : f.length ≤ 8) (h1 : 123 ∉ f) : m_read_paired [.str (strOf (f ++ 123 :: (inP ps ++ [125])))] = some (if f = [] then .tup [.str "table", .tup (ps.map pr)] else .tup [.str "record", .str (strOf f), .tup (ps.map pr)]) := by
  have z : (2000 : Nat) ≤ sizeLine := by decide
  have hl := inP_len h hb
  have hn := h.len
  have ht : ∀ t ∈ ps.map prL, 44 ∉ t ∧ t ≠ [] := fun t ht => ⟨fun c => by have := (prL_codes h t ht).1 44 c; omega, (prL_codes h t ht).2⟩
  refine mkF_rt rfl (seq_to (set_of (part_of' f (inP ps ++ [125]) 123 h1 s_lc (by simp only [List.length_append, List.length_cons, List.length_nil]; omega) rfl)) ?_)
  refine seq_to (set_of (d := .tup (ps.map pr)) ?_) ?_
  · rw [oA_of (ds := [.lst (ps.map pr)]) (cons_of (comp_of (items := (ps.map prL).map fun t => D.str (strOf t)) (by
      unfold lstI
      rw [oA_of (ds := [.str (strOf (inP ps))]) (cons_of (slice_i (inP ps) 125 (by omega) (by
        rw [o2_of (x := .tup [.str (strOf f), .str (strOf [123]), .str (strOf (inP ps ++ [125]))]) (y := .int 2) rfl rfl]; rfl)) rfl), show m_parted_items [.str (strOf (inP ps))] = _ from items_ok (ps.map prL) ht (by rw [List.length_map]; omega) (by show (inP ps).length ≤ 1000; omega)]
      rfl) (by rw [List.length_map, List.length_map]; omega) (by
      rw [List.map_map]
      exact comp_any (fun p => D.str (strOf (prL p))) pr ps fun p hp => ⟨[.sh (.str (strOf (prL p)))], rfl, rfl, by rw [oA_of (ds := [.str (strOf (prL p))]) rfl]; exact read_pr h hb p hp⟩)) rfl)]
    rfl
  · by_cases h0 : f = []
    · subst h0
      rw [if_pos rfl]
      refine seq_rt ?_
      rw [if_t (by
        show some (decide (strOf [] = ("" : PySem.Str))) = _
        rw [decide_eq_true s_em.symm])]
      rfl
    · rw [if_neg h0]
      refine seq_to (δ' := [.sh (.str (strOf (f ++ 123 :: (inP ps ++ [125])))), .sh (.tup [.str (strOf f), .str (strOf [123]), .str (strOf (inP ps ++ [125]))]), .sh (.tup (ps.map pr))]) (by
        change ifD _ _ _ [.sh (.str (strOf (f ++ 123 :: (inP ps ++ [125])))), .sh (.tup [.str (strOf f), .str (strOf [123]), .str (strOf (inP ps ++ [125]))]), .sh (.tup (ps.map pr))] = _
        rw [if_f (by
          show some (decide (strOf f = ("" : PySem.Str))) = _
          rw [ne_codes s_em h0])]
        rfl) (seq_rt (ret_of ?_))
      exact tup_of (cons_of rfl (cons_of (by rw [o2_of (x := .tup [.str (strOf f), .str (strOf [123]), .str (strOf (inP ps ++ [125]))]) (y := .int 0) rfl rfl]; rfl) (cons_of rfl rfl))) (by show 3 ≤ sizeLine; omega)
theorem read_part {p : Pt} (h : P7 p) : m_read_part [.str (strOf (pL p))] = some p.d := by
  have z : (2000 : Nat) ≤ sizeLine := by decide
  have hl := pL_len h
  have n1 : ∀ (a : Nat) (l : List Nat) (A : GS), a ≠ 39 → (a :: l).length ≤ 1000 → ifD (tAndG (ob (o2 (oA (consA (gv 0) nilA) lenD) (gc (.int 1)) gtD)) (tAndG (ob (methG (gv 0) (consA (gc (.str "'")) nilA) startsD)) (ob (methG (gv 0) (consA (gc (.str "'")) nilA) endsD)))) A nilD [.sh (.str (strOf (a :: l)))] = some (.nx [.sh (.str (strOf (a :: l)))]) := fun a l A ha hl => by
    have e1 : ob (o2 (oA (consA (gv 0) nilA) lenD) (gc (.int 1)) gtD) [.sh (.str (strOf (a :: l)))] = some (decide ((1 : Int) < ((a :: l).length : Int))) := by
      show (o2 _ _ gtD _).bind asB = _
      rw [o2_of (len_str (a :: l) (by omega) rfl) rfl]
      rfl
    have e2 : ob (methG (gv 0) (consA (gc (.str "'")) nilA) startsD) [.sh (.str (strOf (a :: l)))] = some false := by
      show (methG (gv 0) (consA (gc (.str "'")) nilA) startsD [.sh (.str (strOf (a :: l)))]).bind asB = _
      rw [starts_of a l 39 s_qu rfl, decide_eq_false ha]
      rfl
    rw [if_f (by
      unfold tAndG
      rw [e1]
      show (if decide _ = true then _ else _) = _
      split
      · show (ob _ _).bind _ = _
        rw [e2]
        rfl
      · rfl)]
    rfl
  have n2 : ∀ (a : Nat) (l : List Nat) (A : GS), a ≠ 91 → ifD (tAndG (ob (methG (gv 0) (consA (gc (.str "[")) nilA) startsD)) (ob (methG (gv 0) (consA (gc (.str "]")) nilA) endsD))) A nilD [.sh (.str (strOf (a :: l)))] = some (.nx [.sh (.str (strOf (a :: l)))]) := fun a l A ha => by
    have e2 : ob (methG (gv 0) (consA (gc (.str "[")) nilA) startsD) [.sh (.str (strOf (a :: l)))] = some false := by
      show (methG (gv 0) (consA (gc (.str "[")) nilA) startsD [.sh (.str (strOf (a :: l)))]).bind asB = _
      rw [starts_of a l 91 s_lb rfl, decide_eq_false ha]
      rfl
    rw [if_f (by
      unfold tAndG
      rw [e2]
      rfl)]
    rfl
  have n3 : ∀ (f l : List Nat) (A : GS), ifD (tAndG (ob (o2 (gc (.str "{")) (gv 0) inD)) (ob (methG (gv 0) (consA (gc (.str "}")) nilA) endsD))) A nilD [.sh (.str (strOf (f ++ 123 :: (l ++ [125]))))] = A [.sh (.str (strOf (f ++ 123 :: (l ++ [125]))))] := fun f l A => by
    have e1 : ob (o2 (gc (.str "{")) (gv 0) inD) [.sh (.str (strOf (f ++ 123 :: (l ++ [125]))))] = some true := by
      show some (inS ("{" : PySem.Str) (strOf (f ++ 123 :: (l ++ [125])))) = _
      rw [s_lc]
      show some (inS ⟨#[123]⟩ _) = _
      rw [inS_one, strOf_list, decide_eq_true (by simp)]
    have e2 : ob (methG (gv 0) (consA (gc (.str "}")) nilA) endsD) [.sh (.str (strOf (f ++ 123 :: (l ++ [125]))))] = some true := by
      show (methG (gv 0) (consA (gc (.str "}")) nilA) endsD [.sh (.str (strOf (f ++ 123 :: (l ++ [125]))))]).bind asB = _
      rw [ends_of (f ++ 123 :: l) 125 125 s_rc (by simp [List.append_assoc])]
      rfl
    rw [if_t (by
      unfold tAndG
      rw [e1]
      exact e2)]
  cases p with
  | text w =>
    have hl : (39 :: (nL w ++ [39])).length ≤ 900 := hl
    have e1 : ob (o2 (oA (consA (gv 0) nilA) lenD) (gc (.int 1)) gtD) [.sh (.str (strOf (39 :: (nL w ++ [39]))))] = some true := by
      show (o2 _ _ gtD _).bind asB = _
      rw [o2_of (len_str (39 :: (nL w ++ [39])) (by omega) rfl) rfl]
      show some (decide ((1 : Int) < ((39 :: (nL w ++ [39])).length : Int))) = _
      rw [decide_eq_true (by simp only [List.length_cons, List.length_append, List.length_nil]; omega)]
    have e2 : ob (methG (gv 0) (consA (gc (.str "'")) nilA) startsD) [.sh (.str (strOf (39 :: (nL w ++ [39]))))] = some true := by
      show (methG (gv 0) (consA (gc (.str "'")) nilA) startsD [.sh (.str (strOf (39 :: (nL w ++ [39]))))]).bind asB = _
      rw [starts_of 39 _ 39 s_qu rfl]
      rfl
    have e3 : ob (methG (gv 0) (consA (gc (.str "'")) nilA) endsD) [.sh (.str (strOf (39 :: (nL w ++ [39]))))] = some true := by
      show (methG (gv 0) (consA (gc (.str "'")) nilA) endsD [.sh (.str (strOf (39 :: (nL w ++ [39]))))]).bind asB = _
      rw [ends_of (39 :: nL w) 39 39 s_qu rfl]
      rfl
    refine mkF_rt rfl (seq_rt ?_)
    change ifD _ _ _ [.sh (.str (strOf (39 :: (nL w ++ [39]))))] = _
    rw [if_t (by
      unfold tAndG
      rw [e1, Option.bind_some, if_pos rfl, e2]
      exact e3)]
    refine seq_rt (ret_of (tup_of (ds := [.str "text", .str w]) (cons_of rfl (cons_of (by
      rw [slice_m 39 39 (nL w) (by simp only [List.length_cons, List.length_append, List.length_nil] at hl; omega) rfl, nL_of]) rfl)) (by show 2 ≤ sizeLine; omega)))
  | row vs =>
    have hl : (91 :: (inR vs ++ [93])).length ≤ 900 := hl
    have hv := h.ok.2
    have hlen : vs.length ≤ 12 := h.ok.1
    have e2 : ob (methG (gv 0) (consA (gc (.str "[")) nilA) startsD) [.sh (.str (strOf (91 :: (inR vs ++ [93]))))] = some true := by
      show (methG (gv 0) (consA (gc (.str "[")) nilA) startsD [.sh (.str (strOf (91 :: (inR vs ++ [93]))))]).bind asB = _
      rw [starts_of 91 _ 91 s_lb rfl]
      rfl
    have e3 : ob (methG (gv 0) (consA (gc (.str "]")) nilA) endsD) [.sh (.str (strOf (91 :: (inR vs ++ [93]))))] = some true := by
      show (methG (gv 0) (consA (gc (.str "]")) nilA) endsD [.sh (.str (strOf (91 :: (inR vs ++ [93]))))]).bind asB = _
      rw [ends_of (91 :: inR vs) 93 93 s_rb rfl]
      rfl
    refine mkF_rt rfl (seq_to (n1 91 _ _ (by omega) (by omega)) (seq_rt ?_))
    rw [if_t (by
      unfold tAndG
      rw [e2]
      exact e3)]
    refine seq_rt (ret_of (tup_of (ds := [.str "row", .tup vs]) (cons_of rfl (cons_of ?_ rfl)) (by show 2 ≤ sizeLine; omega)))
    rw [oA_of (ds := [.lst vs]) (cons_of (comp_of (items := (vs.map vL).map fun t => D.str (strOf t)) (by
      unfold lstI
      rw [oA_of (ds := [.str (strOf (inR vs))]) (cons_of (slice_m 91 93 (inR vs) (by simp only [List.length_cons, List.length_append, List.length_nil] at hl; omega) rfl) rfl), show m_parted_items [.str (strOf (inR vs))] = _ from items_ok (vs.map vL) (fun t ht => by
        obtain ⟨v, hv', rfl⟩ := List.mem_map.mp ht
        have q := vL_codes v (hv v hv')
        exact ⟨fun c => by have := q.1 44 c; omega, q.2⟩) (by rw [List.length_map]; exact hlen) (by show (inR vs).length ≤ 1000; simp only [List.length_cons, List.length_append, List.length_nil] at hl; omega)]
      rfl) (by rw [List.length_map, List.length_map]; omega) (by
      have q := comp_any (fun v => D.str (strOf (vL v))) (fun v => v) (tg := gN 0) (gt := noT) (ge := oA (consA (gv 0) nilA) m_read_value) (δ := [.un]) vs fun v hv' => ⟨[.sh (.str (strOf (vL v)))], rfl, rfl, by rw [oA_of (ds := [.str (strOf (vL v))]) rfl]; exact read_val v (hv v hv') (h.bd v hv')⟩
      rw [List.map_id'] at q
      rw [List.map_map]
      exact q)) rfl)]
    rfl
  | table ps =>
    refine mkF_rt rfl (seq_to (n1 123 _ _ (by omega) (by have : (123 :: (inP ps ++ [125])).length ≤ 900 := hl; omega)) (seq_to (n2 123 _ _ (by omega)) (seq_rt ?_)))
    rw [show ([.sh (.str (strOf (123 :: (inP ps ++ [125]))))] : Ds) = [.sh (.str (strOf ([] ++ 123 :: (inP ps ++ [125]))))] from rfl, n3 [] (inP ps)]
    refine seq_rt (ret_of ?_)
    rw [oA_of (ds := [.str (strOf ([] ++ 123 :: (inP ps ++ [125])))]) rfl, read_paired h.ok h.bd [] (by simp) (by simp), if_pos rfl]
    rfl
  | rcd c ps =>
    obtain ⟨hc, hne⟩ := name_codes h.ok.1
    have hs := name_short h.ok.1
    obtain ⟨a, l, e⟩ : ∃ a l, nL c = a :: l := by
      cases q : nL c with
      | nil => exact absurd q hne
      | cons a l => exact ⟨a, l, rfl⟩
    have ha := hc a (by rw [e]; exact List.mem_cons_self)
    have hl : (nL c ++ 123 :: (inP ps ++ [125])).length ≤ 900 := hl
    have eX : pL (.rcd c ps) = a :: (l ++ 123 :: (inP ps ++ [125])) := by show nL c ++ _ = _; rw [e]; rfl
    have hl2 : (a :: (l ++ 123 :: (inP ps ++ [125]))).length ≤ 1000 := by rw [e] at hl; exact Nat.le_trans hl (by omega)
    rw [eX]
    refine mkF_rt rfl (seq_to (n1 a _ _ (by omega) hl2) (seq_to (n2 a _ _ (by omega)) (seq_rt ?_)))
    rw [show ([.sh (.str (strOf (a :: (l ++ 123 :: (inP ps ++ [125])))))] : Ds) = [.sh (.str (strOf ((a :: l) ++ 123 :: (inP ps ++ [125]))))] from rfl, n3 (a :: l) (inP ps), ← e]
    refine seq_rt (ret_of ?_)
    rw [oA_of (ds := [.str (strOf (nL c ++ 123 :: (inP ps ++ [125])))]) rfl, read_paired h.ok.2 h.bd (nL c) (by rw [nL_len]; omega) (fun z => by have := hc 123 z; omega), if_neg hne, nL_of]
    rfl
theorem read_web {ps : List Pt} (hw : WebOk ps) (h : ∀ p ∈ ps, P7 p) : m_read [.str (strOf (wL ps))] = some (.tup (ps.map Pt.d)) := by
  have z : (100000 : Nat) ≤ sizeLine := by decide
  have hn := hw.len
  have hl : (wL ps).length ≤ 60 * 902 := by
    have := joinL_len [59, 32] 900 (ps.map pL) (fun t ht => by
      obtain ⟨p, hp, rfl⟩ := List.mem_map.mp ht
      exact pL_len (h p hp))
    rw [List.length_map] at this
    exact Nat.le_trans this (Nat.mul_le_mul hn (by simp))
  have e := split_joined 59 [32] (by decide +kernel) (ps.map pL) (by simpa using hw.ne) fun t ht => by
    obtain ⟨p, hp, rfl⟩ := List.mem_map.mp ht
    exact pL_codes (hw.ok p hp)
  refine mkF_rt rfl (seq_to (δ' := [.sh (.str (strOf (wL ps))), .un]) rfl (seq_to (set_of (d := .tup (ps.map Pt.d)) ?_) (seq_to (δ' := [.sh (.str (strOf (wL ps))), .sh (.tup (ps.map Pt.d))]) ?_ (seq_rt rfl))))
  · change oA _ _ [.sh (.str (strOf (wL ps))), .un] = _
    rw [oA_of (ds := [.lst (ps.map Pt.d)]) (cons_of (comp_of (items := (ps.map pL).map fun t => D.str (strOf t)) (by
      unfold lstI
      rw [meth_of rfl (cons_of rfl rfl), s_sc]
      show (if ((strOf [59, 32]).length == 0) = false ∧ (strOf (wL ps)).length + 2 ≤ sizeLine ∧ (Txt.split (strOf (joinL [59, 32] (ps.map pL))) (strOf [59, 32])).length ≤ sizeLine then some (D.lst ((Txt.split (strOf (joinL [59, 32] (ps.map pL))) (strOf [59, 32])).map D.str)) else none).bind asLst = _
      rw [e, if_pos ⟨by rw [strOf_len]; rfl, by rw [strOf_len]; omega, by rw [List.length_map, List.length_map]; omega⟩, List.map_map]
      rfl) (by rw [List.length_map, List.length_map]; omega) (by
      rw [List.map_map]
      exact comp_any (fun p => D.str (strOf (pL p))) Pt.d ps fun p hp => ⟨[.sh (.str (strOf (pL p)))], rfl, rfl, by rw [oA_of (ds := [.str (strOf (pL p))]) rfl]; exact read_part (h p hp)⟩)) rfl)]
    rfl
  · have q : oA (consA (gv 1) nilA) m_is_web [.sh (.str (strOf (wL ps))), .sh (.tup (ps.map Pt.d))] = some (.bl true) := by
      rw [oA_of (ds := [.tup (ps.map Pt.d)]) rfl]
      exact hw.web
    rw [if_f (by
      show ((oA (consA (gv 1) nilA) m_is_web [.sh (.str (strOf (wL ps))), .sh (.tup (ps.map Pt.d))]).bind asB).map _ = _
      rw [q]
      rfl)]
    rfl
end K7
namespace K7
open PySem DL W
/-! ### kinds -/
def kt : Nat → D → Prop
  | _, .non => True
  | _, .int _ => True
  | _, .str _ => True
  | n + 1, .tup ds => ds.length ≤ 1000 ∧ ∀ d ∈ ds, kt n d
  | _, _ => False
theorem kinds_ok : ∀ (n : Nat) (d : D), kt n d → mR__law_kinds (n + 1) [d] = some (.bl true) := by
  intro n
  induction n with
  | zero =>
    intro d h
    cases d with
    | non => rfl
    | bl b => exact h.elim
    | int i => rfl
    | str x => rfl
    | tup ds => exact h.elim
    | lst ds => exact h.elim
    | dct ks ds => exact h.elim
  | succ n ih =>
    intro d h
    cases d with
    | non => rfl
    | bl b => exact h.elim
    | int i => rfl
    | str x => rfl
    | lst ds => exact h.elim
    | dct ks ds => exact h.elim
    | tup ds =>
      obtain ⟨hl, hd⟩ := h
      have z : (1000 : Nat) ≤ sizeLine := by decide
      refine mkF_rt rfl (seq_rt ?_)
      change ifD _ _ _ [.sh (.tup ds)] = _
      rw [if_t rfl]
      refine seq_rt (ret_of ?_)
      rw [o2_of (x := .int 0) (y := .int 0) (by
        rw [oA_of (ds := [.lst []]) (cons_of (comp_of (items := ds) rfl (by omega) (by
          have q := compD_filter (f := gN 0) (gt := tNotG (ob (oA (consA (gv 0) nilA) (mR__law_kinds (n + 1))))) (ge := gv 0) (δ := [.un]) (fun _ => false) (fun d => d) (items := ds) fun d hd' => ⟨[.sh d], rfl, by
            show ((oA (consA (gv 0) nilA) (mR__law_kinds (n + 1)) [.sh d]).bind asB).map _ = _
            rw [oA_of (ds := [d]) rfl, ih d (hd d hd')]
            rfl, fun z => by cases z⟩
          rw [List.filter_eq_nil_iff.mpr (by simp)] at q
          exact q)) rfl)]
        rfl) rfl]
      rfl
theorem kt_str (n : Nat) (s : PySem.Str) : kt n (.str s) := by unfold kt; trivial
theorem kt_int (n : Nat) (i : Int) : kt n (.int i) := by unfold kt; trivial
theorem kt_val (n : Nat) {v : D} (h : valB v = true) : kt (n + 1) v := by
  rcases val_cases h with rfl | ⟨i, rfl⟩ | ⟨i, rfl, _⟩
  · unfold kt; trivial
  · exact kt_int _ _
  · refine ⟨by show 2 ≤ 1000; omega, fun d hd => ?_⟩
    simp only [List.mem_cons, List.not_mem_nil, or_false] at hd
    rcases hd with rfl | rfl
    · exact kt_str _ _
    · exact kt_int _ _
theorem kt_prs (n : Nat) {ps : List (PySem.Str × D)} (h : PsOk ps) : kt (n + 3) (.tup (ps.map pr)) := by
  have hl := h.len
  refine ⟨by rw [List.length_map]; omega, fun d hd => ?_⟩
  obtain ⟨p, hp, rfl⟩ := List.mem_map.mp hd
  refine ⟨by show 2 ≤ 1000; omega, fun e he => ?_⟩
  simp only [List.mem_cons, List.not_mem_nil, or_false] at he
  rcases he with rfl | rfl
  · exact kt_str _ _
  · exact kt_val n (h.vals p hp)
theorem kt_pt (n : Nat) {p : Pt} (h : p.Ok) : kt (n + 4) p.d := by
  cases p with
  | text w =>
    refine ⟨by show 2 ≤ 1000; omega, fun e he => ?_⟩
    simp only [List.mem_cons, List.not_mem_nil, or_false] at he
    rcases he with rfl | rfl <;> exact kt_str _ _
  | row vs =>
    refine ⟨by show 2 ≤ 1000; omega, fun e he => ?_⟩
    simp only [List.mem_cons, List.not_mem_nil, or_false] at he
    rcases he with rfl | rfl
    · exact kt_str _ _
    · refine ⟨by have := h.1; omega, fun v hv => kt_val (n + 1) (h.2 v hv)⟩
  | table ps =>
    refine ⟨by show 2 ≤ 1000; omega, fun e he => ?_⟩
    simp only [List.mem_cons, List.not_mem_nil, or_false] at he
    rcases he with rfl | rfl
    · exact kt_str _ _
    · exact kt_prs n h
  | rcd c ps =>
    refine ⟨by show 3 ≤ 1000; omega, fun e he => ?_⟩
    simp only [List.mem_cons, List.not_mem_nil, or_false] at he
    rcases he with rfl | rfl | rfl
    · exact kt_str _ _
    · exact kt_str _ _
    · exact kt_prs n h.2
theorem kinds_web {ps : List Pt} (hl : ps.length ≤ 60) (h : ∀ p ∈ ps, p.Ok) : m__law_kinds [.tup (ps.map Pt.d)] = some (.bl true) :=
  kinds_ok 7 _ ⟨by rw [List.length_map]; omega, fun d hd => by
    obtain ⟨p, hp, rfl⟩ := List.mem_map.mp hd
    exact kt_pt 2 (h p hp)⟩
/-! ### cells, names -/
theorem cell_ok (ns : List Int) (k : Int) (h0 : 0 ≤ k) : ∃ z, m__law_cell_at [.lst (ns.map .int), .int k] = some (.int z) := by
  by_cases h : k < ns.length
  · have hlt : k.toNat < ns.length := by omega
    refine ⟨ns[k.toNat], mkF_rt rfl (seq_rt ?_)⟩
    rw [if_t (by
      show some (decide (k < (((ns.map D.int).length : Nat) : Int))) = _
      rw [decide_eq_true (by rw [List.length_map]; exact h)])]
    refine seq_rt (ret_of ?_)
    show atI (ns.map D.int) k = _
    rw [atI_in h0 (by rw [List.length_map]; exact h) .non]
    simp [List.getD_eq_getElem?_getD, hlt]
  · refine ⟨0, mkF_rt rfl (seq_to (δ' := [.sh (.lst (ns.map .int)), .sh (.int k)]) ?_ rfl)⟩
    rw [if_f (by
      show some (decide (k < (((ns.map D.int).length : Nat) : Int))) = _
      rw [decide_eq_false (by rw [List.length_map]; exact h)])]
    rfl
theorem mul_r (i j : Int) (h : -(2 ^ 64) < j ∧ j < 2 ^ 64) : mulA (.int i) (.int j) = some (.int (i * j)) := by simp only [mulA]; rw [if_pos (.inr h)]
theorem mixed_ok (ns : List Int) (k : Int) (h0 : 0 ≤ k) (h1 : k ≤ 1000) : ∃ x, 0 ≤ x ∧ m__law_mixed [.lst (ns.map .int), .int k] = some (.int x) := by
  obtain ⟨a, ea⟩ := cell_ok ns (2 + 2 * k) (by omega)
  obtain ⟨b, eb⟩ := cell_ok ns (3 + 2 * k) (by omega)
  refine ⟨((a % 1000000007) * 48271 + (b % 1000000007) * 16807 + 43 * k * k + 17 * k) % 1000003, Int.emod_nonneg _ (by decide), mkF_rt rfl (seq_to (set_of (d := .int (a % 1000000007)) ?_) (seq_to (set_of (d := .int (b % 1000000007)) ?_) (seq_rt (ret_of ?_))))⟩
  · rw [o2_of (x := .int a) (y := .int 1000000007) (by
      rw [oA_of (ds := [.lst (ns.map .int), .int (2 + 2 * k)]) (cons_of rfl (cons_of (d := .int (2 + 2 * k)) (by
        rw [o2_of (x := .int 2) (y := .int (2 * k)) rfl (by rw [o2_of (x := .int 2) (y := .int k) rfl rfl]; exact mul_r _ _ (by omega))]
        rfl) rfl))]
      exact ea) rfl]
    rfl
  · rw [o2_of (x := .int b) (y := .int 1000000007) (by
      rw [oA_of (ds := [.lst (ns.map .int), .int (3 + 2 * k)]) (cons_of rfl (cons_of (d := .int (3 + 2 * k)) (by
        rw [o2_of (x := .int 3) (y := .int (2 * k)) rfl (by rw [o2_of (x := .int 2) (y := .int k) rfl rfl]; exact mul_r _ _ (by omega))]
        rfl) rfl))]
      exact eb) rfl]
    rfl
  · rw [o2_of (x := .int ((a % 1000000007) * 48271 + (b % 1000000007) * 16807 + 43 * k * k + 17 * k)) (y := .int 1000003) (by
      rw [o2_of (x := .int ((a % 1000000007) * 48271 + (b % 1000000007) * 16807 + 43 * k * k)) (y := .int (17 * k)) (by
        rw [o2_of (x := .int ((a % 1000000007) * 48271 + (b % 1000000007) * 16807)) (y := .int (43 * k * k)) (by
          rw [o2_of (x := .int ((a % 1000000007) * 48271)) (y := .int ((b % 1000000007) * 16807)) (by rw [o2_of (x := .int (a % 1000000007)) (y := .int 48271) rfl rfl]; exact mul_r _ _ (by omega)) (by rw [o2_of (x := .int (b % 1000000007)) (y := .int 16807) rfl rfl]; exact mul_r _ _ (by omega))]
          rfl) (by
          rw [o2_of (x := .int (43 * k)) (y := .int k) (by rw [o2_of (x := .int 43) (y := .int k) rfl rfl]; exact mul_r _ _ (by omega)) rfl]; exact mul_r _ _ (by omega))]
        rfl) (by rw [o2_of (x := .int 17) (y := .int k) rfl rfl]; exact mul_r _ _ (by omega))]
      rfl) rfl]
    rfl
theorem names_ok (x : Int) (h0 : 0 ≤ x) : m__law_names [.int x] = some (.lst ((nameL 13 x).map .str)) := by
  refine mkF_rt rfl ?_
  have hmod : modD (.int (x / 8)) (.int (1 + x % 8)) = some (.int (x / 8 % (1 + x % 8))) := by simp only [modD, ii]; rw [if_pos (by omega)]
  have s3 : setD (gN 3) (o2 (o2 (gv 0) (gc (.int 8)) fdivD) (gv 2) modD) [.sh (.int x), .sh (.str signS), .sh (.int (1 + x % 8)), .un, .un, .un, .un] = some (.nx [.sh (.int x), .sh (.str signS), .sh (.int (1 + x % 8)), .sh (.int (x / 8 % (1 + x % 8))), .un, .un, .un]) := by
    refine set_of (d := .int (x / 8 % (1 + x % 8))) ?_
    rw [o2_of (x := .int (x / 8)) (y := .int (1 + x % 8)) rfl rfl]
    exact hmod
  have hsz : (13 : Nat) < sizeLine := by decide
  obtain ⟨δ', l1, l2⟩ := forD_inv (f := gN 5) (G := Pn.NB) (fun i δ => ∃ s5 s6, δ = [.sh (.int x), .sh (.str signS), .sh (.int (1 + x % 8)), .sh (.int (x / 8 % (1 + x % 8))), .ow (.lst ((nameL i x).map .str)), s5, s6]) (rngD 0 13) 0
    [.sh (.int x), .sh (.str signS), .sh (.int (1 + x % 8)), .sh (.int (x / 8 % (1 + x % 8))), .ow (.lst []), .un, .un] (by
      rintro j d δ hj ⟨s5, s6, rfl⟩
      obtain ⟨hj12, rfl⟩ := rng_get hj
      have hj12 : j < 13 := hj12
      rw [Nat.zero_add]
      refine ⟨_, _, rfl, Pn.NB_ok x (j : Int) h0 (by omega) _ _ (by rw [List.length_map, nameL_len]; omega), .sh (.int (j : Int)), .ow (.lst ((ones (codes x (j : Int))).map .str)), ?_⟩
      unfold nameL
      rw [List.range_succ, List.map_append, List.map_append]
      rfl) ⟨_, _, rfl⟩
  obtain ⟨s5, s6, rfl⟩ := l2
  refine seq_to (set_of (d := .str signS) rfl) (seq_to (set_of (d := .int (1 + x % 8)) rfl) (seq_to s3 (seq_to (δ' := [.sh (.int x), .sh (.str signS), .sh (.int (1 + x % 8)), .sh (.int (x / 8 % (1 + x % 8))), .ow (.lst []), .un, .un]) rfl (seq_to (for_of (items := rngD 0 13) rfl l1) ?_))))
  exact seq_rt rfl

/-! ### values -/
theorem pow40 : powD (.int 10) (.int 40) = some (.int (10 ^ 40)) := by kernel_rfl
theorem pow9 : powD (.int 10) (.int 9) = some (.int (10 ^ 9)) := by kernel_rfl
theorem pow4 : powD (.int 10) (.int 4) = some (.int (10 ^ 4)) := by kernel_rfl
theorem val_ex (x m : Int) (hm : 0 < m ∧ m ≤ 60) : ∃ v, m__law_value [.int x, .int m] = some v ∧ valB v = true ∧ bnd v ∧ ∀ k, lk v = some k → k < m := by
  have z : (100 : Nat) ≤ sizeLine := by decide
  have e : ∀ (k : Int) (s : Sl), ob (o2 (o2 (gv 0) (gc (.int 5)) modD) (gc (.int k)) eqD) [.sh (.int x), .sh (.int m), s] = some (decide (x % 5 = k)) := fun k s => rfl
  by_cases h0 : x % 5 = 0
  · refine ⟨.non, mkF_rt rfl (seq_rt ?_), rfl, trivial, fun k hk => by cases hk⟩
    change ifD _ _ _ [.sh (.int x), .sh (.int m), .un] = _
    rw [if_t (by rw [e, decide_eq_true h0])]
    rfl
  by_cases h1 : x % 5 = 1
  · obtain ⟨a, ha⟩ : ∃ a : Int, o2 (lstG (consA (o2 (o2 (gv 0) (gc (.int 5)) fdivD) (gc (.int 41)) modD) (consA (o2 (o2 (gc (.int 10)) (gc (.int 40)) powD) (gv 0) subD) (consA (o2 (o2 (gc (.int 10)) (gc (.int 9)) powD) (gv 0) addA) (consA (gc (.int 0)) nilA))))) (o2 (o2 (gv 0) (gc (.int 205)) fdivD) (gc (.int 4)) modD) ixD [.sh (.int x), .sh (.int m), .un] = some (.int a) := by
      rw [o2_of (x := .lst [.int (x / 5 % 41), .int (10 ^ 40 - x), .int (10 ^ 9 + x), .int 0]) (y := .int (x / 205 % 4)) (lst_of (cons_of rfl (cons_of (d := .int (10 ^ 40 - x)) (by
        rw [o2_of (x := .int (10 ^ 40)) (y := .int x) (by rw [o2_of (x := .int 10) (y := .int 40) rfl rfl]; exact pow40) rfl]
        rfl) (cons_of (d := .int (10 ^ 9 + x)) (by
        rw [o2_of (x := .int (10 ^ 9)) (y := .int x) (by rw [o2_of (x := .int 10) (y := .int 9) rfl rfl]; exact pow9) rfl]
        rfl) (cons_of rfl rfl)))) (by show 4 ≤ sizeLine; omega)) rfl]
      have q : x / 205 % 4 = 0 ∨ x / 205 % 4 = 1 ∨ x / 205 % 4 = 2 ∨ x / 205 % 4 = 3 := by omega
      rcases q with q | q | q | q <;> rw [q] <;> exact ⟨_, rfl⟩
    obtain ⟨b, hb, hb0, hb1⟩ : ∃ b : Int, o2 (lstG (consA (o2 (gc (.int 10)) (gc (.int 40)) powD) (consA (o2 (gc (.int 10)) (gc (.int 4)) powD) nilA))) (oA (consA (o2 (gv 1) (gc (.int 9)) gtD) nilA) intOfD) ixD [.sh (.int x), .sh (.int m), .un] = some (.int b) ∧ 0 < b ∧ b ≤ 10 ^ 40 := by
      rw [o2_of (x := .lst [.int (10 ^ 40), .int (10 ^ 4)]) (y := .int (if decide ((9 : Int) < m) = true then 1 else 0)) (lst_of (cons_of (by rw [o2_of (x := .int 10) (y := .int 40) rfl rfl]; exact pow40) (cons_of (by rw [o2_of (x := .int 10) (y := .int 4) rfl rfl]; exact pow4) rfl)) (by show 2 ≤ sizeLine; omega)) rfl]
      by_cases q : (9 : Int) < m
      · rw [if_pos (decide_eq_true q)]
        exact ⟨10 ^ 4, rfl, by decide, by decide⟩
      · rw [if_neg (by simpa using q)]
        exact ⟨10 ^ 40, rfl, by decide, by decide⟩
    obtain ⟨c, hc⟩ : ∃ c : Int, c = a % b := ⟨_, rfl⟩
    have c0 : 0 ≤ c := by rw [hc]; exact Int.emod_nonneg _ (by omega)
    have c1 : c < 10 ^ 40 := by rw [hc]; exact Int.lt_of_lt_of_le (Int.emod_lt_of_pos _ hb0) hb1
    obtain ⟨s, hs, hs1⟩ : ∃ s : Int, o2 (lstG (consA (gc (.int 1)) (consA (unG negD (gc (.int 1))) nilA))) (o2 (o2 (gv 0) (gc (.int 820)) fdivD) (gc (.int 2)) modD) ixD [.sh (.int x), .sh (.int m), .sh (.int c)] = some (.int s) ∧ (s = 1 ∨ s = -1) := by
      rw [o2_of (x := .lst [.int 1, .int (-1)]) (y := .int (x / 820 % 2)) (lst_of rfl (by show 2 ≤ sizeLine; omega)) rfl]
      have q : x / 820 % 2 = 0 ∨ x / 820 % 2 = 1 := by omega
      rcases q with q | q <;> rw [q]
      · exact ⟨1, rfl, .inl rfl⟩
      · exact ⟨-1, rfl, .inr rfl⟩
    have p60 : (10 : Nat) ^ 40 ≤ 10 ^ 60 := Nat.pow_le_pow_right (by decide) (by decide)
    have pc : ((10 : Nat) ^ 40 : Nat) = ((10 : Int) ^ 40) := by decide
    refine ⟨.int (c * s), mkF_rt rfl (seq_to (δ' := [.sh (.int x), .sh (.int m), .un]) (by
      change ifD _ _ _ [.sh (.int x), .sh (.int m), .un] = _
      rw [if_f (by rw [e, decide_eq_false h0])]; rfl) (seq_rt ?_)), rfl, ?_, fun k hk => by cases hk⟩
    · rw [if_t (by rw [e, decide_eq_true h1])]
      refine seq_to (set_of (d := .int c) (by
        rw [o2_of ha hb]
        simp only [modD, ii]
        rw [if_pos hb0, hc])) (seq_rt (ret_of ?_))
      change o2 _ _ _ [.sh (.int x), .sh (.int m), .sh (.int c)] = _
      rw [o2_of (x := .int c) (y := .int s) rfl hs]
      exact mul_r _ _ (by rcases hs1 with rfl | rfl <;> decide)
    · show (c * s).natAbs < 10 ^ 60
      have hn : c.natAbs < 10 ^ 40 := by omega
      rcases hs1 with rfl | rfl
      · rw [Int.mul_one]; omega
      · rw [Int.mul_neg, Int.mul_one, Int.natAbs_neg]; omega
  · have hk0 : 0 ≤ x / 5 % m := Int.emod_nonneg _ (by omega)
    have hk1 : x / 5 % m < m := Int.emod_lt_of_pos _ hm.1
    refine ⟨.tup [.str "at", .int (x / 5 % m)], mkF_rt rfl (seq_to (δ' := [.sh (.int x), .sh (.int m), .un]) (by
      change ifD _ _ _ [.sh (.int x), .sh (.int m), .un] = _
      rw [if_f (by rw [e, decide_eq_false h0])]; rfl) (seq_to (δ' := [.sh (.int x), .sh (.int m), .un]) (by rw [if_f (by rw [e, decide_eq_false h1])]; rfl) (seq_rt (ret_of (tup_of (cons_of rfl (cons_of (d := .int (x / 5 % m)) ?_ rfl)) (by show 2 ≤ sizeLine; omega)))))), by simp [valB, marks, hk0], ?_, fun k hk => ?_⟩
    · rw [o2_of (x := .int (x / 5)) (y := .int m) rfl rfl]
      simp only [modD, ii]
      rw [if_pos hm.1]
    · show (x / 5 % m).natAbs < 10 ^ 60
      have : (60 : Nat) < 10 ^ 60 := by decide
      omega
    · have := Option.some.inj hk
      omega
end K7
namespace K7
open PySem DL W
/-! ### parts -/
structure Q7 (p : Pt) (m : Int) (nm : List PySem.Str) : Prop where
  p7 : P7 p
  lks : ∀ k ∈ p.links, k < m
  nms : ∀ s ∈ p.all, s ∈ nm
def wsig : PySem.Str := "ab 9z0q m"
theorem wsig_ok : ∀ i : Nat, i < 9 → wsig.cps.toList.getD i 0 ∈ wordS.cps.toList := by decide +kernel
theorem wsig_at (i : Int) (h0 : 0 ≤ i) (h1 : i < 9) : ixD (.str wsig) (.int i) = some (.str ⟨#[wsig.cps.toList.getD i.toNat 0]⟩) := by
  have hl : wsig.cps.toList.length = 9 := by decide +kernel
  have hz : wsig.length ≤ sizeLine := by decide +kernel
  have := atI_in (xs := wsig.cps.toList) (i := i) h0 (by rw [hl]; omega) 0
  simp only [ixD, if_pos hz, this, Option.map_some]
theorem isWord_of (l : List Nat) (h2 : l.length ≤ 20) (h3 : ∀ c ∈ l, c ∈ wordS.cps.toList) : isWord (strOf l) = true := by
  unfold isWord hasAll
  rw [strOf_len, strOf_list]
  simp only [Bool.and_eq_true, decide_eq_true_eq, List.all_eq_true]
  exact ⟨by omega, fun c hc => by simpa using h3 c hc⟩
def pre7 (G : GS) : GS :=
  seqD (setD (gN 3) (o2 (o2 (gv 0) (gc (.int 4)) fdivD) (gc (.int 6)) modD))
  (seqD (ifD (tAndG (ob (o2 (o2 (o2 (gv 0) (gc (.int 24)) fdivD) (gc (.int 9)) modD) (gc (.int 1)) eqD)) (ob (o2 (gv 1) (gc (.int 10)) ltD)))
  (seqD (setD (gN 3) (gc (.int 12)))
  nilD)
  nilD)
  (seqD (setD (gN 4) (compG 1 [0, 1] (rng1I (consA (gv 3) nilA)) (gN 0) noT (oA (consA (o2 (o2 (gv 1) (o2 (gv 0) (gc (.int 2)) addA) fdivD) (o2 (o2 (gc (.int 5)) (gv 0) mulA) (gv 0) mulA) addA) (consA (gv 2) nilA)) m__law_value)))
  (seqD (setD (gN 5) (oA (consA (compG 1 [0, 2, 4] (rng1I (consA (gv 3) nilA)) (gN 0) noT (tupG (consA (o2 (gv 2) (o2 (o2 (o2 (gv 1) (gc (.int 9)) fdivD) (gv 0) addA) (gc (.int 13)) modD) ixD) (consA (o2 (gv 3) (gv 0) ixD) nilA)))) nilA) tupOfD)) G)))
theorem part_ex (x m y : Int) (h0 : 0 ≤ x) (hm : 0 < m ∧ m ≤ 60) (hy : 0 ≤ y) : ∃ p : Pt, m__law_part [.int x, .int m, .lst ((nameL 13 y).map .str)] = some p.d ∧ Q7 p m (nameL 13 y) := by
  have z : (100 : Nat) ≤ sizeLine := by decide
  obtain ⟨nm, hnm⟩ : ∃ nm, nm = nameL 13 y := ⟨_, rfl⟩
  have hnl : nm.length = 13 := by rw [hnm]; exact nameL_len 13 y
  have hnn : ∀ s ∈ nm, isName s = true := by rw [hnm]; exact nameL_names 13 y hy
  have hnd : nm.Nodup := by rw [hnm]; exact nameL_nodup 13 (by decide) y hy
  rw [← hnm]
  obtain ⟨n, hn⟩ : ∃ n : Nat, (n : Int) = if x / 24 % 9 = 1 ∧ m < 10 then 12 else x / 4 % 6 := ⟨(if x / 24 % 9 = 1 ∧ m < 10 then 12 else x / 4 % 6).toNat, by split <;> omega⟩
  have hn12 : n ≤ 12 := by split at hn <;> omega
  have hv := fun j : Nat => val_ex (x / ((j : Int) + 2) + 5 * (j : Int) * (j : Int)) m hm
  obtain ⟨V, hV⟩ := Classical.axiomOfChoice hv
  obtain ⟨vs, hvs⟩ : ∃ vs, vs = (List.range n).map V := ⟨_, rfl⟩
  have vl : vs.length = n := by rw [hvs]; simp
  have vb : ∀ v ∈ vs, valB v = true := fun v hv => by
    rw [hvs] at hv
    obtain ⟨j, _, rfl⟩ := List.mem_map.mp hv
    exact (hV j).2.1
  have vd : ∀ v ∈ vs, bnd v := fun v hv => by
    rw [hvs] at hv
    obtain ⟨j, _, rfl⟩ := List.mem_map.mp hv
    exact (hV j).2.2.1
  have vk : ∀ k ∈ vs.filterMap lk, k < m := fun k hk => by
    obtain ⟨v, hv, e⟩ := List.mem_filterMap.mp hk
    rw [hvs] at hv
    obtain ⟨j, _, rfl⟩ := List.mem_map.mp hv
    exact (hV j).2.2.2 k e
  obtain ⟨ns, hns⟩ : ∃ ns : Nat → PySem.Str, ns = fun (j : Nat) => nm.getD ((x / 9 + (j : Int)) % 13).toNat "" := ⟨_, rfl⟩
  have nsm : ∀ j, ns j ∈ nm := fun j => by
    rw [hns]
    have hlt : ((x / 9 + (j : Int)) % 13).toNat < nm.length := by omega
    show nm.getD _ "" ∈ nm
    rw [show nm.getD ((x / 9 + (j : Int)) % 13).toNat "" = nm[((x / 9 + (j : Int)) % 13).toNat] by simp [List.getD_eq_getElem?_getD, hlt]]
    exact List.getElem_mem hlt
  obtain ⟨ps, hps⟩ : ∃ ps : List (PySem.Str × D), ps = (List.range n).map fun j => (ns j, V j) := ⟨_, rfl⟩
  have snd : ps.map (·.2) = vs := by rw [hps, hvs, List.map_map]; rfl
  have pok : PsOk ps := by
    refine ⟨by rw [hps]; simp; omega, fun p hp => ?_, fun p hp => ?_, ?_⟩
    · rw [hps] at hp
      obtain ⟨j, _, rfl⟩ := List.mem_map.mp hp
      exact hnn _ (nsm j)
    · exact vb p.2 (by rw [← snd]; exact List.mem_map.mpr ⟨p, hp, rfl⟩)
    · rw [hps, List.map_map]
      refine List.nodup_iff_pairwise_ne.mpr (List.pairwise_map.mpr ?_)
      refine List.Pairwise.imp_of_mem ?_ (List.nodup_range (n := n))
      intro a b ha hb hab e
      have ha := List.mem_range.mp ha
      have hb := List.mem_range.mp hb
      have e : ns a = ns b := e
      rw [hns] at e
      have la : ((x / 9 + (a : Int)) % 13).toNat < nm.length := by omega
      have lb : ((x / 9 + (b : Int)) % 13).toNat < nm.length := by omega
      have e : nm.getD ((x / 9 + (a : Int)) % 13).toNat "" = nm.getD ((x / 9 + (b : Int)) % 13).toNat "" := e
      rw [show nm.getD ((x / 9 + (a : Int)) % 13).toNat "" = nm[((x / 9 + (a : Int)) % 13).toNat] by simp [List.getD_eq_getElem?_getD, la], show nm.getD ((x / 9 + (b : Int)) % 13).toNat "" = nm[((x / 9 + (b : Int)) % 13).toNat] by simp [List.getD_eq_getElem?_getD, lb]] at e
      have := (List.getElem_inj hnd).mp e
      omega
  have pnm : ∀ s ∈ ps.map (·.1), s ∈ nm := fun s hs => by
    obtain ⟨p, hp, rfl⟩ := List.mem_map.mp hs
    rw [hps] at hp
    obtain ⟨j, _, rfl⟩ := List.mem_map.mp hp
    exact nsm j
  have at_nm : ∀ i : Int, 0 ≤ i → i < 13 → ixD (.lst (nm.map .str)) (.int i) = some (.str (nm.getD i.toNat "")) := fun i hi0 hi1 => by
    have hlt : i.toNat < nm.length := by omega
    show atI (nm.map D.str) i = _
    rw [atI_in hi0 (by rw [List.length_map]; omega) .non]
    simp [List.getD_eq_getElem?_getD, hlt]
  -- the first rows
  have step : ∀ (G : GS) (r : Option Res), G [.sh (.int x), .sh (.int m), .sh (.lst (nm.map .str)), .sh (.int (n : Int)), .sh (.lst vs), .sh (.tup (ps.map pr)), .un] = r →
      pre7 G [.sh (.int x), .sh (.int m), .sh (.lst (nm.map .str)), .un, .un, .un, .un] = r := by
    intro G r hG
    refine seq_to (set_of (d := .int (x / 4 % 6)) rfl) ?_
    refine seq_to (δ' := [.sh (.int x), .sh (.int m), .sh (.lst (nm.map .str)), .sh (.int (n : Int)), .un, .un, .un]) ?_ ?_
    · have ta : tAndG (ob (o2 (o2 (o2 (gv 0) (gc (.int 24)) fdivD) (gc (.int 9)) modD) (gc (.int 1)) eqD)) (ob (o2 (gv 1) (gc (.int 10)) ltD)) [.sh (.int x), .sh (.int m), .sh (.lst (nm.map .str)), .sh (.int (x / 4 % 6)), .un, .un, .un] = some (decide (x / 24 % 9 = 1 ∧ m < 10)) := by
        show (if decide (x / 24 % 9 = 1) = true then some (decide (m < 10)) else some false) = _
        by_cases a : x / 24 % 9 = 1 <;> by_cases b : m < 10 <;> simp [a, b]
      change ifD _ _ _ [.sh (.int x), .sh (.int m), .sh (.lst (nm.map .str)), .sh (.int (x / 4 % 6)), .un, .un, .un] = _
      rw [hn]
      by_cases h : x / 24 % 9 = 1 ∧ m < 10
      · rw [if_t (by rw [ta, decide_eq_true h]), if_pos h]; rfl
      · rw [if_f (by rw [ta, decide_eq_false h]), if_neg h]; rfl
    refine seq_to (set_of (d := .lst vs) ?_) ?_
    · rw [comp_of (items := rngD 0 (n : Int)) (out := vs) (rng1_of (cons_of rfl rfl) (by omega) (by omega)) (by rw [rng_len]; omega) (by
        rw [hvs]
        have q := comp_rng (gt := noT) (ge := (oA (consA (o2 (o2 (gv 1) (o2 (gv 0) (gc (.int 2)) addA) fdivD) (o2 (o2 (gc (.int 5)) (gv 0) mulA) (gv 0) mulA) addA) (consA (gv 2) nilA)) m__law_value)) (δ := [.un, .sh (.int x), .sh (.int m)]) (n := (n : Int)) V (fun k hk => ⟨[.sh (.int (k : Int)), .sh (.int x), .sh (.int m)], rfl, rfl, by
          rw [oA_of (ds := [.int (x / ((k : Int) + 2) + 5 * (k : Int) * (k : Int)), .int m]) (cons_of (d := .int (x / ((k : Int) + 2) + 5 * (k : Int) * (k : Int))) (by
            rw [o2_of (x := .int (x / ((k : Int) + 2))) (y := .int (5 * (k : Int) * (k : Int))) (by
              rw [o2_of (x := .int x) (y := .int ((k : Int) + 2)) rfl rfl]
              simp only [fdivD, ii]; rw [if_pos (by omega)]) (by
              rw [o2_of (x := .int (5 * (k : Int))) (y := .int (k : Int)) (by rw [o2_of (x := .int 5) (y := .int (k : Int)) rfl rfl]; exact mul_r _ _ (by omega)) rfl]; exact mul_r _ _ (by omega))]
            rfl) rfl)]
          exact (hV k).1⟩)
        rw [Int.toNat_natCast] at q
        exact q)]
    refine seq_to (set_of (d := .tup (ps.map pr)) ?_) hG
    change oA _ _ [.sh (.int x), .sh (.int m), .sh (.lst (nm.map .str)), .sh (.int (n : Int)), .sh (.lst vs), .un, .un] = _
    rw [oA_of (ds := [.lst (ps.map pr)]) (cons_of (comp_of (items := rngD 0 (n : Int)) (rng1_of (cons_of rfl rfl) (by omega) (by omega)) (by rw [rng_len]; omega) (by
      rw [hps, List.map_map]
      have q := comp_rng (gt := noT) (ge := (tupG (consA (o2 (gv 2) (o2 (o2 (o2 (gv 1) (gc (.int 9)) fdivD) (gv 0) addA) (gc (.int 13)) modD) ixD) (consA (o2 (gv 3) (gv 0) ixD) nilA)))) (δ := [.un, .sh (.int x), .sh (.lst (nm.map .str)), .sh (.lst vs)]) (n := (n : Int)) (fun j => pr (ns j, V j)) (fun k hk => ⟨[.sh (.int (k : Int)), .sh (.int x), .sh (.lst (nm.map .str)), .sh (.lst vs)], rfl, rfl, by
        refine tup_of (cons_of (d := .str (ns k)) ?_ (cons_of (d := V k) ?_ rfl)) (by show 2 ≤ sizeLine; omega)
        · rw [o2_of (x := .lst (nm.map .str)) (y := .int ((x / 9 + (k : Int)) % 13)) rfl rfl, hns]
          exact at_nm _ (by omega) (by omega)
        · rw [o2_of (x := .lst vs) (y := .int (k : Int)) rfl rfl]
          show atI vs (k : Int) = _
          rw [atI_in (by omega) (by omega) .non, Int.toNat_natCast, hvs, getD_map_range _ _ _ _ (by omega)]⟩)
      rw [Int.toNat_natCast] at q
      exact q)) rfl)]
    rfl
  have e4 : ∀ (k : Int) (s : Sl), ob (o2 (o2 (gv 0) (gc (.int 4)) modD) (gc (.int k)) eqD) [.sh (.int x), .sh (.int m), .sh (.lst (nm.map .str)), .sh (.int (n : Int)), .sh (.lst vs), .sh (.tup (ps.map pr)), s] = some (decide (x % 4 = k)) := fun k s => rfl
  have no : ∀ (k : Int) (A : GS), ¬ x % 4 = k → ifD (ob (o2 (o2 (gv 0) (gc (.int 4)) modD) (gc (.int k)) eqD)) A nilD [.sh (.int x), .sh (.int m), .sh (.lst (nm.map .str)), .sh (.int (n : Int)), .sh (.lst vs), .sh (.tup (ps.map pr)), .un] = some (.nx [.sh (.int x), .sh (.int m), .sh (.lst (nm.map .str)), .sh (.int (n : Int)), .sh (.lst vs), .sh (.tup (ps.map pr)), .un]) := fun k A h => by
    rw [if_f (by rw [e4, decide_eq_false h])]; rfl
  by_cases c0 : x % 4 = 0
  · obtain ⟨l, hl⟩ : ∃ l : List Nat, l = (List.range (x / 4 % 21).toNat).map fun (j : Nat) => wsig.cps.toList.getD ((x / ((j : Int) + 1) + (j : Int) * (j : Int)) % 9).toNat 0 := ⟨_, rfl⟩
    have ll : l.length = (x / 4 % 21).toNat := by rw [hl]; simp
    have lw : ∀ c ∈ l, c ∈ wordS.cps.toList := fun c hc => by
      rw [hl] at hc
      obtain ⟨j, _, rfl⟩ := List.mem_map.mp hc
      exact wsig_ok _ (by omega)
    refine ⟨.text (strOf l), mkF_rt rfl (step _ _ (seq_rt ?_)), ⟨isWord_of l (by omega) lw, fun v hv => by cases hv⟩, (fun k hk => by cases hk), fun s hs => by cases hs⟩
    rw [if_t (by rw [e4, decide_eq_true c0])]
    refine seq_to (set_of (d := .str (strOf l)) ?_) (seq_rt rfl)
    have hc : compG 1 [0] (rng1I (consA (o2 (o2 (gv 0) (gc (.int 4)) fdivD) (gc (.int 21)) modD) nilA)) (gN 0) noT (o2 (gc (.str "ab 9z0q m")) (o2 (o2 (o2 (gv 1) (o2 (gv 0) (gc (.int 1)) addA) fdivD) (o2 (gv 0) (gv 0) mulA) addA) (gc (.int 9)) modD) ixD) [.sh (.int x), .sh (.int m), .sh (.lst (nm.map .str)), .sh (.int (n : Int)), .sh (.lst vs), .sh (.tup (ps.map pr)), .un] = some (.lst ((ones l).map .str)) := by
      refine comp_of (items := rngD 0 (x / 4 % 21)) (rng1_of (cons_of rfl rfl) (by omega) (by omega)) (by rw [rng_len]; omega) ?_
      have q := comp_rng (gt := noT) (ge := o2 (gc (.str "ab 9z0q m")) (o2 (o2 (o2 (gv 1) (o2 (gv 0) (gc (.int 1)) addA) fdivD) (o2 (gv 0) (gv 0) mulA) addA) (gc (.int 9)) modD) ixD) (δ := [.un, .sh (.int x)]) (n := x / 4 % 21) (fun (j : Nat) => .str ⟨#[wsig.cps.toList.getD ((x / ((j : Int) + 1) + (j : Int) * (j : Int)) % 9).toNat 0]⟩) (fun k hk => ⟨[.sh (.int (k : Int)), .sh (.int x)], rfl, rfl, by
        rw [o2_of (x := .str wsig) (y := .int ((x / ((k : Int) + 1) + (k : Int) * (k : Int)) % 9)) rfl (by
          rw [o2_of (x := .int (x / ((k : Int) + 1) + (k : Int) * (k : Int))) (y := .int 9) (by
            rw [o2_of (x := .int (x / ((k : Int) + 1))) (y := .int ((k : Int) * (k : Int))) (by
              rw [o2_of (x := .int x) (y := .int ((k : Int) + 1)) rfl rfl]
              simp only [fdivD, ii]; rw [if_pos (by omega)]) (by rw [o2_of (x := .int (k : Int)) (y := .int (k : Int)) rfl rfl]; exact mul_r _ _ (by omega))]
            rfl) rfl]
          rfl)]
        exact wsig_at _ (by omega) (by omega)⟩)
      have e : (ones l).map D.str = (List.range (x / 4 % 21).toNat).map fun (j : Nat) => D.str ⟨#[wsig.cps.toList.getD ((x / ((j : Int) + 1) + (j : Int) * (j : Int)) % 9).toNat 0]⟩ := by
        rw [hl]
        unfold ones
        rw [List.map_map, List.map_map]
        rfl
      rw [e]
      exact q
    rw [join_of (x := .str "") (ds := [.lst ((ones l).map .str)]) rfl (cons_of hc rfl)]
    have e1 := strs_map id (ones l)
    simp only [joinD]
    have e1' : strL ((ones l).map D.str) = some (ones l) := by simpa using e1
    rw [e1', Option.bind_some, sum_ones', join_ones, if_pos]
    have : ("" : PySem.Str).length = 0 := by decide +kernel
    rw [this]; omega
  by_cases c1 : x % 4 = 1
  · refine ⟨.row vs, mkF_rt rfl (step _ _ (seq_to (no 0 _ c0) (seq_rt ?_))), ⟨⟨by omega, vb⟩, vd⟩, vk, fun s hs => by cases hs⟩
    rw [if_t (by rw [e4, decide_eq_true c1])]
    exact seq_rt (ret_of (tup_of (cons_of rfl (cons_of (by rw [oA_of (ds := [.lst vs]) rfl]; rfl) rfl)) (by show 2 ≤ sizeLine; omega)))
  by_cases c2 : x % 4 = 2
  · refine ⟨.table ps, mkF_rt rfl (step _ _ (seq_to (no 0 _ c0) (seq_to (no 1 _ c1) (seq_rt ?_)))), ⟨pok, by show ∀ v ∈ ps.map (·.2), bnd v; rw [snd]; exact vd⟩, by show ∀ k ∈ (ps.map (·.2)).filterMap lk, k < m; rw [snd]; exact vk, fun s hs => pnm s (by simpa [Pt.all, Pt.pnames, Pt.cls] using hs)⟩
    rw [if_t (by rw [e4, decide_eq_true c2])]
    exact seq_rt (ret_of (tup_of (cons_of rfl (cons_of rfl rfl)) (by show 2 ≤ sizeLine; omega)))
  · have hlt : (x / 13 % 13).toNat < nm.length := by omega
    have hcm : nm.getD (x / 13 % 13).toNat "" ∈ nm := by
      rw [show nm.getD (x / 13 % 13).toNat "" = nm[(x / 13 % 13).toNat] by simp [List.getD_eq_getElem?_getD, hlt]]
      exact List.getElem_mem hlt
    refine ⟨.rcd (nm.getD (x / 13 % 13).toNat "") ps, mkF_rt rfl (step _ _ (seq_to (no 0 _ c0) (seq_to (no 1 _ c1) (seq_to (no 2 _ c2) (seq_rt (ret_of ?_)))))), ⟨⟨hnn _ hcm, pok⟩, by show ∀ v ∈ ps.map (·.2), bnd v; rw [snd]; exact vd⟩, by show ∀ k ∈ (ps.map (·.2)).filterMap lk, k < m; rw [snd]; exact vk, fun s hs => ?_⟩
    · exact tup_of (cons_of rfl (cons_of (by
        rw [o2_of (x := .lst (nm.map .str)) (y := .int (x / 13 % 13)) rfl rfl]
        exact at_nm _ (by omega) (by omega)) (cons_of rfl rfl))) (by show 3 ≤ sizeLine; omega)
    · rcases List.mem_append.mp hs with q | q
      · exact pnm s q
      · have := List.mem_singleton.mp q
        rw [this]; exact hcm
end K7
namespace K7
open PySem DL W
theorem eq_int (i j : Int) : eqDD (.int i) (.int j) = some (.bl (i == j)) := by
  unfold eqDD
  rw [if_pos ⟨by unfold lean; rfl, by unfold lean; rfl⟩]
  unfold deq
  rfl
theorem ob_ee {ga gb : GE} {δ : Ds} {x y : D} {b : Bool} (h1 : ga δ = some x) (h2 : gb δ = some y) (h : eqDD x y = some (.bl b)) : ob (o2 ga gb eqDD) δ = some b := by
  show (o2 ga gb eqDD δ).bind asB = _
  rw [o2_of h1 h2, h]; rfl
theorem ob_ne {ga gb : GE} {δ : Ds} {x y : D} {b : Bool} (h1 : ga δ = some x) (h2 : gb δ = some y) (h : neDD x y = some (.bl b)) : ob (o2 ga gb neDD) δ = some b := by
  show (o2 ga gb neDD δ).bind asB = _
  rw [o2_of h1 h2, h]; rfl
theorem or_f {g1 g2 : GB} {δ : Ds} (h1 : g1 δ = some false) (h2 : g2 δ = some false) : tOrG g1 g2 δ = some false := by
  unfold tOrG
  rw [h1]
  exact h2
theorem and_t {g1 g2 : GE} {δ : Ds} {d : D} (h1 : g1 δ = some (.bl true)) (h2 : g2 δ = some d) : andG g1 g2 δ = some d := by
  show ((g1 δ).bind asB).bind _ = _
  rw [h1]
  exact h2
theorem pow60 : powD (.int 10) (.int 60) = some (.int (10 ^ 60)) := by kernel_rfl
def lastP : Pt := .row [.int (10 ^ 60 - 1), .int (1 - 10 ^ 60), .tup [.str "at", .int 0]]
theorem last_ok (m : Int) (hm : 0 < m) (nm : List PySem.Str) : Q7 lastP m nm := by
  refine ⟨⟨⟨by show 3 ≤ 12; omega, fun v hv => ?_⟩, fun v hv => ?_⟩, fun k hk => ?_, fun s hs => by cases hs⟩
  · simp only [List.mem_cons, List.not_mem_nil, or_false] at hv
    rcases hv with rfl | rfl | rfl <;> rfl
  · have hv : v ∈ [D.int (10 ^ 60 - 1), .int (1 - 10 ^ 60), .tup [.str "at", .int 0]] := hv
    simp only [List.mem_cons, List.not_mem_nil, or_false] at hv
    rcases hv with rfl | rfl | rfl
    · show (10 ^ 60 - 1 : Int).natAbs < 10 ^ 60; decide +kernel
    · show (1 - 10 ^ 60 : Int).natAbs < 10 ^ 60; decide +kernel
    · show (0 : Int).natAbs < 10 ^ 60; decide +kernel
  · have hk : k ∈ [(0 : Int)] := hk
    rw [List.mem_singleton.mp hk]; exact hm
theorem lean_web {ps : List Pt} (h : ∀ p ∈ ps, P7 p) : lean (.tup (ps.map Pt.d)) 50 = true := Pn.lean_tup fun d hd => by
  obtain ⟨p, hp, rfl⟩ := List.mem_map.mp hd
  exact Pn.lean_pt p (h p hp).ok.sane.2 45
/-- the law, once its web is laid -/
theorem law_end {ps : List Pt} (hw : WebOk ps) (h : ∀ p ∈ ps, P7 p) (s0 s1 s2 s3 : Sl) :
    (seqD (setD (gN 5) (oA (consA (gv 4) nilA) m__law_text))
    (seqD (ifD (tOrG (ob (o2 (oA (consA (gv 4) nilA) m_shown) (gv 5) neDD)) (ob (o2 (oA (consA (gv 4) nilA) m_shown) (gv 5) neDD)))
    (seqD (retD (gc (.bl false)))
    nilD)
    nilD)
    (seqD (setD (gN 6) (oA (consA (gv 5) nilA) m_read))
    (seqD (retD (andG (isiG isTup (gv 6)) (andG (o2 (gv 6) (gv 4) eqDD) (andG (oA (consA (gv 6) nilA) m__law_kinds) (o2 (oA (consA (gv 6) nilA) m_shown) (gv 5) eqDD)))))
    nilD)))) [s0, s1, s2, s3, .sh (.tup (ps.map Pt.d)), .un, .un] = some (.rt (.bl true)) := by
  have hs := show_web hw.len h
  have ht := text_web hw.len h
  refine seq_to (set_of (d := .str (strOf (wL ps))) (by rw [oA_of (ds := [.tup (ps.map Pt.d)]) rfl]; exact ht)) ?_
  have ls : lean (.str (strOf (wL ps))) 50 = true := Pn.lean_str _ _
  have ne : ob (o2 (oA (consA (gv 4) nilA) m_shown) (gv 5) neDD) [s0, s1, s2, s3, .sh (.tup (ps.map Pt.d)), .sh (.str (strOf (wL ps))), .un] = some false :=
    ob_ne (x := .str (strOf (wL ps))) (by rw [oA_of (ds := [.tup (ps.map Pt.d)]) rfl]; exact hs) rfl (Pn.ne_f ls)
  refine seq_to (δ' := [s0, s1, s2, s3, .sh (.tup (ps.map Pt.d)), .sh (.str (strOf (wL ps))), .un]) (by
    change ifD _ _ _ [s0, s1, s2, s3, .sh (.tup (ps.map Pt.d)), .sh (.str (strOf (wL ps))), .un] = _
    rw [if_f (or_f ne ne)]; rfl) ?_
  refine seq_to (set_of (d := .tup (ps.map Pt.d)) (by rw [oA_of (ds := [.str (strOf (wL ps))]) rfl]; exact read_web hw h)) ?_
  refine seq_rt (ret_of (and_t rfl (and_t ?_ (and_t ?_ ?_))))
  · rw [o2_of (x := .tup (ps.map Pt.d)) (y := .tup (ps.map Pt.d)) rfl rfl]; exact Pn.eq_t (lean_web h)
  · rw [oA_of (ds := [.tup (ps.map Pt.d)]) rfl]; exact kinds_web hw.len fun p hp => (h p hp).ok
  · rw [o2_of (x := .str (strOf (wL ps))) (y := .str (strOf (wL ps))) (by rw [oA_of (ds := [.tup (ps.map Pt.d)]) rfl]; exact hs) rfl]; exact Pn.eq_t ls
theorem webOk_of {ps : List Pt} {m : Int} {y : Int} (hl : (ps.length : Int) = m) (h1 : 1 ≤ m) (h2 : m ≤ 60) (h : ∀ p ∈ ps, Q7 p m (nameL 13 y)) : WebOk ps := by
  refine ⟨fun z => ?_, by omega, fun p hp => (h p hp).p7.ok, fun p hp k hk => by rw [hl]; exact (h p hp).lks k hk, ?_⟩
  · rw [z] at hl; simp at hl; omega
  · refine Nat.le_trans (once_le _ (nameL 13 y) fun s hs => ?_) (by rw [nameL_len]; omega)
    obtain ⟨p, hp, hs⟩ := List.mem_flatMap.mp hs
    exact (h p hp).nms s hs
theorem law_true (ns : List Int) (hl : ns.length ≤ 63) : m_law [.lst (ns.map .int)] = some (.bl true) := by
  have z : (100 : Nat) ≤ sizeLine := by decide
  obtain ⟨c0, e0⟩ := cell_ok ns 0 (by omega)
  obtain ⟨c1, e1⟩ := cell_ok ns 1 (by omega)
  obtain ⟨f, hf⟩ : ∃ f : Int, f = c0 % 1000003 := ⟨_, rfl⟩
  obtain ⟨y, hy⟩ : ∃ y : Int, y = c1 % 1000003 := ⟨_, rfl⟩
  have hy0 : 0 ≤ y := by omega
  obtain ⟨m, hm⟩ : ∃ m : Int, m = if f / 9 % 4 = 1 then 59 + f / 36 % 2 else 1 + f % 9 := ⟨_, rfl⟩
  have hmb : 1 ≤ m ∧ m ≤ 60 := by rw [hm]; split <;> omega
  have hx : ∀ k : Nat, ∃ p : Pt, Q7 p m (nameL 13 y) ∧ ((k : Int) ≤ 1000 → ∃ x, m__law_mixed [.lst (ns.map .int), .int (k : Int)] = some (.int x) ∧ m__law_part [.int x, .int m, .lst ((nameL 13 y).map .str)] = some p.d) := fun k => by
    by_cases h : (k : Int) ≤ 1000
    · obtain ⟨x, h1, h2⟩ := mixed_ok ns (k : Int) (by omega) h
      obtain ⟨p, q1, q2⟩ := part_ex x m y h1 (by omega) hy0
      exact ⟨p, q2, fun _ => ⟨x, h2, q1⟩⟩
    · exact ⟨lastP, last_ok _ (by omega) _, fun z => absurd z h⟩
  obtain ⟨P, hP⟩ := Classical.axiomOfChoice hx
  obtain ⟨ps, hps⟩ : ∃ ps, ps = (List.range m.toNat).map P := ⟨_, rfl⟩
  have hpl : ps.length = m.toNat := by rw [hps]; simp
  have hQ : ∀ p ∈ ps, Q7 p m (nameL 13 y) := fun p hp => by
    rw [hps] at hp
    obtain ⟨k, _, rfl⟩ := List.mem_map.mp hp
    exact (hP k).1
  refine mkF_rt rfl ?_
  refine seq_to (set_of (d := .int f) (by
    rw [o2_of (x := .int c0) (y := .int 1000003) (by rw [oA_of (ds := [.lst (ns.map .int), .int 0]) rfl]; exact e0) rfl, hf]
    rfl)) ?_
  refine seq_to (set_of (d := .int (1 + f % 9)) rfl) ?_
  refine seq_to (δ' := [.sh (.lst (ns.map .int)), .sh (.int f), .sh (.int m), .un, .un, .un, .un]) (by
    have e := ob_ee (ga := o2 (o2 (gv 1) (gc (.int 9)) fdivD) (gc (.int 4)) modD) (gb := gc (.int 1)) (δ := [.sh (.lst (ns.map .int)), .sh (.int f), .sh (.int (1 + f % 9)), .un, .un, .un, .un]) (x := .int (f / 9 % 4)) rfl rfl (eq_int _ 1)
    change ifD _ _ _ [.sh (.lst (ns.map .int)), .sh (.int f), .sh (.int (1 + f % 9)), .un, .un, .un, .un] = _
    rw [hm]
    by_cases h : f / 9 % 4 = 1
    · rw [if_t (by rw [e, h]; rfl), if_pos h]; rfl
    · rw [if_f (by rw [e]; simpa using h), if_neg h]; rfl) ?_
  refine seq_to (set_of (d := .lst ((nameL 13 y).map .str)) (by
    rw [oA_of (ds := [.int y]) (cons_of (by
      rw [o2_of (x := .int c1) (y := .int 1000003) (by rw [oA_of (ds := [.lst (ns.map .int), .int 1]) rfl]; exact e1) rfl, hy]
      rfl) rfl)]
    exact names_ok y hy0)) ?_
  refine seq_to (set_of (d := .tup (ps.map Pt.d)) (by
    have hr : rng1D [.int m] = some (rngD 0 m) := by simp only [rng1D]; rw [if_pos (by omega)]
    rw [oA_of (ds := [.lst (ps.map Pt.d)]) (cons_of (comp_of (items := rngD 0 m) hr (by rw [rng_len]; omega) (by
      rw [hps, List.map_map]
      exact comp_rng _ fun k hk => ⟨[.sh (.int (k : Int)), .sh (.lst (ns.map .int)), .sh (.int m), .sh (.lst ((nameL 13 y).map .str))], rfl, rfl, by
        obtain ⟨x, h1, h2⟩ := (hP k).2 (by omega)
        rw [oA_of (ds := [.int x, .int m, .lst ((nameL 13 y).map .str)]) (cons_of (d := .int x) (by
          rw [oA_of (ds := [.lst (ns.map .int), .int (k : Int)]) rfl]
          exact h1) rfl)]
        exact h2⟩)) rfl)]
    rfl)) ?_
  have e3 := ob_ee (ga := o2 (gv 1) (gc (.int 3)) modD) (gb := gc (.int 1)) (δ := [.sh (.lst (ns.map .int)), .sh (.int f), .sh (.int m), .sh (.lst ((nameL 13 y).map .str)), .sh (.tup (ps.map Pt.d)), .un, .un]) (x := .int (f % 3)) rfl rfl (eq_int _ 1)
  by_cases h3 : f % 3 = 1
  · have hQ' : ∀ p ∈ ps.dropLast ++ [lastP], Q7 p m (nameL 13 y) := fun p hp => by
      rcases List.mem_append.mp hp with q | q
      · exact hQ p ((List.dropLast_subset ps) q)
      · rw [List.mem_singleton.mp q]; exact last_ok _ (by omega) _
    have hl' : ((ps.dropLast ++ [lastP]).length : Int) = m := by
      rw [List.length_append, List.length_dropLast, hpl]
      simp only [List.length_cons, List.length_nil]
      omega
    refine seq_to (δ' := [.sh (.lst (ns.map .int)), .sh (.int f), .sh (.int m), .sh (.lst ((nameL 13 y).map .str)), .sh (.tup ((ps.dropLast ++ [lastP]).map Pt.d)), .un, .un]) (by
      change ifD _ _ _ [.sh (.lst (ns.map .int)), .sh (.int f), .sh (.int m), .sh (.lst ((nameL 13 y).map .str)), .sh (.tup (ps.map Pt.d)), .un, .un] = _
      rw [if_t (by rw [e3, h3]; rfl)]
      refine seq_to (set_of (d := .tup ((ps.dropLast ++ [lastP]).map Pt.d)) ?_) rfl
      have p60 : ∀ δ, o2 (gc (.int 10)) (gc (.int 60)) powD δ = some (.int (10 ^ 60)) := fun δ => by rw [o2_of (x := .int 10) (y := .int 60) rfl rfl]; exact pow60
      rw [o2_of (x := .tup (ps.dropLast.map Pt.d)) (y := .tup [lastP.d]) (by
        show slA (.tup (ps.map Pt.d)) none (some (-1)) = _
        unfold slA
        have i1 : sIx (ps.map Pt.d).length (ps.map Pt.d).length (some (-1)) = ps.length - 1 := by
          rw [List.length_map]
          show (if (-1 : Int) < 0 then ((-1 : Int) + (ps.length : Int)).toNat else min (-1 : Int).toNat ps.length) = _
          rw [if_pos (by decide)]
          omega
        have i0 : sIx (ps.map Pt.d).length 0 none = 0 := rfl
        have : cutD (ps.map Pt.d) none (some (-1)) = ps.dropLast.map Pt.d := by
          unfold cutD
          rw [i1, i0, List.drop_zero, Nat.sub_zero, List.dropLast_eq_take, List.map_take]
        simp only [this]) (tup_of (cons_of (d := lastP.d) (tup_of (cons_of rfl (cons_of (tup_of (cons_of (d := .int (10 ^ 60 - 1)) (by
          rw [o2_of (x := .int (10 ^ 60)) (y := .int 1) (p60 _) rfl]; rfl) (cons_of (d := .int (1 - 10 ^ 60)) (by
          rw [o2_of (x := .int 1) (y := .int (10 ^ 60)) rfl (p60 _)]; rfl) (cons_of rfl rfl))) (by show 3 ≤ sizeLine; omega)) rfl)) (by show 2 ≤ sizeLine; omega)) rfl) (by show 1 ≤ sizeLine; omega))]
      rw [List.map_append]
      show (if (ps.dropLast.map Pt.d).length + 1 ≤ sizeLine then _ else none) = _
      rw [if_pos (by rw [List.length_map, List.length_dropLast]; omega)]
      rfl) ?_
    exact law_end (webOk_of hl' hmb.1 hmb.2 hQ') (fun p hp => (hQ' p hp).p7) _ _ _ _
  · refine seq_to (δ' := [.sh (.lst (ns.map .int)), .sh (.int f), .sh (.int m), .sh (.lst ((nameL 13 y).map .str)), .sh (.tup (ps.map Pt.d)), .un, .un]) (by
      change ifD _ _ _ [.sh (.lst (ns.map .int)), .sh (.int f), .sh (.int m), .sh (.lst ((nameL 13 y).map .str)), .sh (.tup (ps.map Pt.d)), .un, .un] = _
      rw [if_f (by rw [e3]; simpa using h3)]; rfl) ?_
    exact law_end (webOk_of (by omega) hmb.1 hmb.2 hQ) (fun p hp => (hQ p hp).p7) _ _ _ _
end K7
namespace K7
open PySem L2 DL W
def top (i : Nat) : Stmt := PySem.Challenge.pw_graphpack_k07_webs_shown.main.body.getD i (.Pass ⟨0, 0, 0, 0⟩)
theorem b_all : bootBuiltins "all" = some (.builtin "all") := by decide +kernel
theorem b_bool : bootBuiltins "bool" = some (.type "bool") := by decide +kernel
theorem b_int : bootBuiltins "int" = some (.type "int") := by decide +kernel
theorem b_list : bootBuiltins "list" = some (.type "list") := by decide +kernel
theorem b_str : bootBuiltins "str" = some (.type "str") := by decide +kernel
theorem b_tuple : bootBuiltins "tuple" = some (.type "tuple") := by decide +kernel
structure Txt (mg : Str → Option Value) : Prop where
  b_all : mg "all" = none
  b_bool : mg "bool" = none
  b_int : mg "int" = none
  b_isinstance : mg "isinstance" = none
  b_len : mg "len" = none
  b_list : mg "list" = none
  b_range : mg "range" = none
  b_set : mg "set" = none
  b_str : mg "str" = none
  b_tuple : mg "tuple" = none
  c_FIGURES : ∃ t, mg "FIGURES" = some (.str "0123456789" t)
  c_MOST_FIGURES : ∃ t, mg "MOST_FIGURES" = some (.int 60 t)
  c_MOST_NAMES : ∃ t, mg "MOST_NAMES" = some (.int 60 t)
  c_MOST_NAME_SIGNS : ∃ t, mg "MOST_NAME_SIGNS" = some (.int 8 t)
  c_MOST_PARTS : ∃ t, mg "MOST_PARTS" = some (.int 60 t)
  c_MOST_VALUES : ∃ t, mg "MOST_VALUES" = some (.int 12 t)
  c_MOST_WORD_SIGNS : ∃ t, mg "MOST_WORD_SIGNS" = some (.int 20 t)
  c_NAME_SIGNS : ∃ t, mg "NAME_SIGNS" = some (.str "0123456789abcdefghijklmnopqrstuvwxyz" t)
  c_WORD_SIGNS : ∃ t, mg "WORD_SIGNS" = some (.str " 0123456789abcdefghijklmnopqrstuvwxyz" t)
section
variable {P : Program} {w : World} {K : PySem.W.Frag} {mg : Str → Option Value} {base : Heap}
theorem sc_is_whole : FnScope ["thing"] ["thing"] (defScope (top 11)) := ⟨rfl, rfl, rfl, by decide +kernel, rfl, by decide +kernel, by decide +kernel⟩
set_option maxHeartbeats 0 in
theorem ok_is_whole {fa : Addr} {fd : FuncData} (F : Fun K "is_whole" "is_whole" (top 11) fa fd) (T : Txt mg)  : FnOk P w K mg base CX0 1 fa fd ["thing"] (spD K m_is_whole) :=
  okD (k := 0) (G := G_is_whole) F sc_is_whole (fun cdv A outer s H E hr => (pssd_cons (psd_ret (pd_and (pd_isi okT_int b_int T.b_isinstance T.b_int (pd_var 0)) (pd_one (pd_not (pd_isi okT_bool b_bool T.b_isinstance T.b_bool (pd_var 0))))))
      pssd_nil)) (fun ds d h => ⟨(hf_is_whole ds d h).1, .inl (hf_is_whole ds d h).2⟩)
theorem sc_is_spelled : FnScope ["thing", "signs", "most"] ["thing", "signs", "most"] (defScope (top 12)) := ⟨rfl, rfl, rfl, by decide +kernel, rfl, by decide +kernel, by decide +kernel⟩
set_option maxHeartbeats 0 in
theorem ok_is_spelled {fa : Addr} {fd : FuncData} (F : Fun K "is_spelled" "is_spelled" (top 12) fa fd) (T : Txt mg)  : FnOk P w K mg base CX0 1 fa fd ["thing", "signs", "most"] (spD K m_is_spelled) :=
  okD (k := 0) (G := G_is_spelled) F sc_is_spelled (fun cdv A outer s H E hr => (pssd_cons (psd_ret (pd_and (pd_isi okT_str b_str T.b_isinstance T.b_str (pd_var 0)) (pd_and (pd_cmp op_le op2_le (pd_len T.b_len (pda_cons (pd_var 0) pda_nil)) (pd_var 2)) (pd_one (pd_callB (call_all rfl) fn_all T.b_all b_all (pda_cons (pd_cmpD (sc := defScope (top 12)) (N := ["thing", "signs", "most"]) (N' := ["sign", "signs"]) (n := 1) (caps := [1]) ⟨rfl, by decide +kernel, by decide +kernel, by decide +kernel, by decide +kernel, rfl, by decide +kernel⟩ (by decide) (pid_str (pd_var 0)) (fun cl s H ex => pgd_name 0 (by decide +kernel : (["sign", "signs"] : List Str).Nodup)) (fun cl s H ex => pfd_nil) (fun cl s H ex => (pd_cmp op_in_str op2_in (pd_var 0) (pd_var 1)))) pda_nil))))))
      pssd_nil)) (fun ds d h => ⟨(hf_is_spelled ds d h).1, .inl (hf_is_spelled ds d h).2⟩)
theorem sc_is_name : FnScope ["thing"] ["thing"] (defScope (top 13)) := ⟨rfl, rfl, rfl, by decide +kernel, rfl, by decide +kernel, by decide +kernel⟩
set_option maxHeartbeats 0 in
theorem ok_is_name {fa : Addr} {fd : FuncData} (F : Fun K "is_name" "is_name" (top 13) fa fd) (T : Txt mg) (C_is_spelled : FnD P w K mg base "is_spelled" 1 ["thing", "signs", "most"] m_is_spelled) : FnOk P w K mg base CX0 2 fa fd ["thing"] (spD K m_is_name) :=
  okD (k := 1) (G := G_is_name) F sc_is_name (fun cdv A outer s H E hr => (pssd_cons (psd_ret (pd_and (pd_fn C_is_spelled hr (by decide) (pda_cons (pd_var 0) (pda_cons (pd_gstr T.c_NAME_SIGNS) (pda_cons (pd_gint T.c_MOST_NAME_SIGNS) pda_nil)))) (pd_one (pd_cmp op_gt op2_gt (pd_len T.b_len (pda_cons (pd_var 0) pda_nil)) pd_int))))
      pssd_nil)) (fun ds d h => ⟨(hf_is_name ds d h).1, .inl (hf_is_name ds d h).2⟩)
theorem sc_is_word : FnScope ["thing"] ["thing"] (defScope (top 14)) := ⟨rfl, rfl, rfl, by decide +kernel, rfl, by decide +kernel, by decide +kernel⟩
set_option maxHeartbeats 0 in
theorem ok_is_word {fa : Addr} {fd : FuncData} (F : Fun K "is_word" "is_word" (top 14) fa fd) (T : Txt mg) (C_is_spelled : FnD P w K mg base "is_spelled" 1 ["thing", "signs", "most"] m_is_spelled) : FnOk P w K mg base CX0 2 fa fd ["thing"] (spD K m_is_word) :=
  okD (k := 1) (G := G_is_word) F sc_is_word (fun cdv A outer s H E hr => (pssd_cons (psd_ret (pd_fn C_is_spelled hr (by decide) (pda_cons (pd_var 0) (pda_cons (pd_gstr T.c_WORD_SIGNS) (pda_cons (pd_gint T.c_MOST_WORD_SIGNS) pda_nil)))))
      pssd_nil)) (fun ds d h => ⟨(hf_is_word ds d h).1, .inl (hf_is_word ds d h).2⟩)
theorem sc_is_marked : FnScope ["thing", "mark", "count"] ["thing", "mark", "count"] (defScope (top 15)) := ⟨rfl, rfl, rfl, by decide +kernel, rfl, by decide +kernel, by decide +kernel⟩
set_option maxHeartbeats 0 in
theorem ok_is_marked {fa : Addr} {fd : FuncData} (F : Fun K "is_marked" "is_marked" (top 15) fa fd) (T : Txt mg)  : FnOk P w K mg base CX0 1 fa fd ["thing", "mark", "count"] (spD K m_is_marked) :=
  okD (k := 0) (G := G_is_marked) F sc_is_marked (fun cdv A outer s H E hr => (pssd_cons (psd_ret (pd_and (pd_isi okT_tuple b_tuple T.b_isinstance T.b_tuple (pd_var 0)) (pd_and (pd_cmp op_eq op2_eq (pd_len T.b_len (pda_cons (pd_var 0) pda_nil)) (pd_var 2)) (pd_and (pd_isi okT_str b_str T.b_isinstance T.b_str (pd_ix' (pd_var 0) pd_int)) (pd_one (pd_cmp op_eq op2_eq (pd_ix' (pd_var 0) pd_int) (pd_var 1)))))))
      pssd_nil)) (fun ds d h => ⟨(hf_is_marked ds d h).1, .inl (hf_is_marked ds d h).2⟩)
theorem sc_is_link : FnScope ["thing"] ["thing"] (defScope (top 16)) := ⟨rfl, rfl, rfl, by decide +kernel, rfl, by decide +kernel, by decide +kernel⟩
set_option maxHeartbeats 0 in
theorem ok_is_link {fa : Addr} {fd : FuncData} (F : Fun K "is_link" "is_link" (top 16) fa fd) (T : Txt mg) (C_is_marked : FnD P w K mg base "is_marked" 1 ["thing", "mark", "count"] m_is_marked) (C_is_whole : FnD P w K mg base "is_whole" 1 ["thing"] m_is_whole) : FnOk P w K mg base CX0 2 fa fd ["thing"] (spD K m_is_link) :=
  okD (k := 1) (G := G_is_link) F sc_is_link (fun cdv A outer s H E hr => (pssd_cons (psd_ret (pd_and (pd_fn C_is_marked hr (by decide) (pda_cons (pd_var 0) (pda_cons pd_str (pda_cons pd_int pda_nil)))) (pd_and (pd_fn C_is_whole hr (by decide) (pda_cons (pd_ix' (pd_var 0) pd_int) pda_nil)) (pd_one (pd_cmp op_ge op2_ge (pd_ix' (pd_var 0) pd_int) pd_int)))))
      pssd_nil)) (fun ds d h => ⟨(hf_is_link ds d h).1, .inl (hf_is_link ds d h).2⟩)
theorem sc_is_value : FnScope ["thing"] ["thing"] (defScope (top 17)) := ⟨rfl, rfl, rfl, by decide +kernel, rfl, by decide +kernel, by decide +kernel⟩
set_option maxHeartbeats 0 in
theorem ok_is_value {fa : Addr} {fd : FuncData} (F : Fun K "is_value" "is_value" (top 17) fa fd) (T : Txt mg) (C_is_link : FnD P w K mg base "is_link" 2 ["thing"] m_is_link) (C_is_whole : FnD P w K mg base "is_whole" 1 ["thing"] m_is_whole) : FnOk P w K mg base CX0 3 fa fd ["thing"] (spD K m_is_value) :=
  okD (k := 2) (G := G_is_value) F sc_is_value (fun cdv A outer s H E hr => (pssd_cons (psd_ret (pd_or (pd_cmp op_isN op2_isN (pd_var 0) pd_non) (pd_or (pd_fn C_is_whole hr (by decide) (pda_cons (pd_var 0) pda_nil)) (pd_one (pd_fn C_is_link hr (by decide) (pda_cons (pd_var 0) pda_nil))))))
      pssd_nil)) (fun ds d h => ⟨(hf_is_value ds d h).1, .inl (hf_is_value ds d h).2⟩)
theorem sc_is_tuple : FnScope ["thing", "most"] ["thing", "most"] (defScope (top 18)) := ⟨rfl, rfl, rfl, by decide +kernel, rfl, by decide +kernel, by decide +kernel⟩
set_option maxHeartbeats 0 in
theorem ok_is_tuple {fa : Addr} {fd : FuncData} (F : Fun K "is_tuple" "is_tuple" (top 18) fa fd) (T : Txt mg)  : FnOk P w K mg base CX0 1 fa fd ["thing", "most"] (spD K m_is_tuple) :=
  okD (k := 0) (G := G_is_tuple) F sc_is_tuple (fun cdv A outer s H E hr => (pssd_cons (psd_ret (pd_and (pd_isi okT_tuple b_tuple T.b_isinstance T.b_tuple (pd_var 0)) (pd_one (pd_cmp op_le op2_le (pd_len T.b_len (pda_cons (pd_var 0) pda_nil)) (pd_var 1)))))
      pssd_nil)) (fun ds d h => mkF_ok h)
theorem sc_is_values : FnScope ["thing"] ["thing"] (defScope (top 19)) := ⟨rfl, rfl, rfl, by decide +kernel, rfl, by decide +kernel, by decide +kernel⟩
set_option maxHeartbeats 0 in
theorem ok_is_values {fa : Addr} {fd : FuncData} (F : Fun K "is_values" "is_values" (top 19) fa fd) (T : Txt mg) (C_is_tuple : FnD P w K mg base "is_tuple" 1 ["thing", "most"] m_is_tuple) (C_is_value : FnD P w K mg base "is_value" 3 ["thing"] m_is_value) : FnOk P w K mg base CX0 4 fa fd ["thing"] (spD K m_is_values) :=
  okD (k := 3) (G := G_is_values) F sc_is_values (fun cdv A outer s H E hr => (pssd_cons (psd_ret (pd_and (pd_fn C_is_tuple hr (by decide) (pda_cons (pd_var 0) (pda_cons (pd_gint T.c_MOST_VALUES) pda_nil))) (pd_one (pd_callB (call_all rfl) fn_all T.b_all b_all (pda_cons (pd_cmpD (sc := defScope (top 19)) (N := ["thing"]) (N' := ["value"]) (n := 1) (caps := []) ⟨rfl, by decide +kernel, by decide +kernel, by decide +kernel, by decide +kernel, rfl, by decide +kernel⟩ (by decide) (pid_tup (pd_var 0)) (fun cl s H ex => pgd_name 0 (by decide +kernel : (["value"] : List Str).Nodup)) (fun cl s H ex => pfd_nil) (fun cl s H ex => (pd_fn C_is_value hr (by decide) (pda_cons (pd_var 0) pda_nil)))) pda_nil)))))
      pssd_nil)) (fun ds d h => mkF_ok h)
theorem sc_is_pair : FnScope ["thing"] ["thing"] (defScope (top 20)) := ⟨rfl, rfl, rfl, by decide +kernel, rfl, by decide +kernel, by decide +kernel⟩
set_option maxHeartbeats 0 in
theorem ok_is_pair {fa : Addr} {fd : FuncData} (F : Fun K "is_pair" "is_pair" (top 20) fa fd) (T : Txt mg) (C_is_name : FnD P w K mg base "is_name" 2 ["thing"] m_is_name) (C_is_value : FnD P w K mg base "is_value" 3 ["thing"] m_is_value) : FnOk P w K mg base CX0 4 fa fd ["thing"] (spD K m_is_pair) :=
  okD (k := 3) (G := G_is_pair) F sc_is_pair (fun cdv A outer s H E hr => (pssd_cons (psd_ret (pd_and (pd_isi okT_tuple b_tuple T.b_isinstance T.b_tuple (pd_var 0)) (pd_and (pd_cmp op_eq op2_eq (pd_len T.b_len (pda_cons (pd_var 0) pda_nil)) pd_int) (pd_and (pd_fn C_is_name hr (by decide) (pda_cons (pd_ix' (pd_var 0) pd_int) pda_nil)) (pd_one (pd_fn C_is_value hr (by decide) (pda_cons (pd_ix' (pd_var 0) pd_int) pda_nil)))))))
      pssd_nil)) (fun ds d h => mkF_ok h)
theorem sc_is_pairs : FnScope ["thing"] ["thing"] (defScope (top 21)) := ⟨rfl, rfl, rfl, by decide +kernel, rfl, by decide +kernel, by decide +kernel⟩
set_option maxHeartbeats 0 in
theorem ok_is_pairs {fa : Addr} {fd : FuncData} (F : Fun K "is_pairs" "is_pairs" (top 21) fa fd) (T : Txt mg) (C_is_pair : FnD P w K mg base "is_pair" 4 ["thing"] m_is_pair) (C_is_tuple : FnD P w K mg base "is_tuple" 1 ["thing", "most"] m_is_tuple) : FnOk P w K mg base CX0 5 fa fd ["thing"] (spD K m_is_pairs) :=
  okD (k := 4) (G := G_is_pairs) F sc_is_pairs (fun cdv A outer s H E hr => (pssd_cons (psd_if (PWD.pt (pwd_or (ptd_not (ptd_val (pd_fn C_is_tuple hr (by decide) (pda_cons (pd_var 0) (pda_cons (pd_gint T.c_MOST_VALUES) pda_nil))))) (pwd_or1 (ptd_not (ptd_val (pd_callB (call_all rfl) fn_all T.b_all b_all (pda_cons (pd_cmpD (sc := defScope (top 21)) (N := ["thing"]) (N' := ["pair"]) (n := 1) (caps := []) ⟨rfl, by decide +kernel, by decide +kernel, by decide +kernel, by decide +kernel, rfl, by decide +kernel⟩ (by decide) (pid_tup (pd_var 0)) (fun cl s H ex => pgd_name 0 (by decide +kernel : (["pair"] : List Str).Nodup)) (fun cl s H ex => pfd_nil) (fun cl s H ex => (pd_fn C_is_pair hr (by decide) (pda_cons (pd_var 0) pda_nil)))) pda_nil)))))))
      (pssd_cons (psd_ret pd_bl)
      pssd_nil)
      pssd_nil)
      (pssd_cons (psd_ret (pd_cmp op_eq op2_eq (pd_lenSet T.b_len T.b_set (pd_cmpD (sc := defScope (top 21)) (N := ["thing"]) (N' := ["pair"]) (n := 1) (caps := []) ⟨rfl, by decide +kernel, by decide +kernel, by decide +kernel, by decide +kernel, rfl, by decide +kernel⟩ (by decide) (pid_tup (pd_var 0)) (fun cl s H ex => pgd_name 0 (by decide +kernel : (["pair"] : List Str).Nodup)) (fun cl s H ex => pfd_nil) (fun cl s H ex => (pd_ix' (pd_var 0) pd_int)))) (pd_len T.b_len (pda_cons (pd_var 0) pda_nil))))
      pssd_nil))) (fun ds d h => mkF_ok h)
theorem sc_is_part : FnScope ["thing"] ["thing"] (defScope (top 22)) := ⟨rfl, rfl, rfl, by decide +kernel, rfl, by decide +kernel, by decide +kernel⟩
set_option maxHeartbeats 0 in
theorem ok_is_part {fa : Addr} {fd : FuncData} (F : Fun K "is_part" "is_part" (top 22) fa fd) (T : Txt mg) (C_is_marked : FnD P w K mg base "is_marked" 1 ["thing", "mark", "count"] m_is_marked) (C_is_name : FnD P w K mg base "is_name" 2 ["thing"] m_is_name) (C_is_pairs : FnD P w K mg base "is_pairs" 5 ["thing"] m_is_pairs) (C_is_values : FnD P w K mg base "is_values" 4 ["thing"] m_is_values) (C_is_word : FnD P w K mg base "is_word" 2 ["thing"] m_is_word) : FnOk P w K mg base CX0 6 fa fd ["thing"] (spD K m_is_part) :=
  okD (k := 5) (G := G_is_part) F sc_is_part (fun cdv A outer s H E hr => (pssd_cons (psd_if (ptd_val (pd_fn C_is_marked hr (by decide) (pda_cons (pd_var 0) (pda_cons pd_str (pda_cons pd_int pda_nil)))))
      (pssd_cons (psd_ret (pd_fn C_is_word hr (by decide) (pda_cons (pd_ix' (pd_var 0) pd_int) pda_nil)))
      pssd_nil)
      pssd_nil)
      (pssd_cons (psd_if (ptd_val (pd_fn C_is_marked hr (by decide) (pda_cons (pd_var 0) (pda_cons pd_str (pda_cons pd_int pda_nil)))))
      (pssd_cons (psd_ret (pd_fn C_is_values hr (by decide) (pda_cons (pd_ix' (pd_var 0) pd_int) pda_nil)))
      pssd_nil)
      pssd_nil)
      (pssd_cons (psd_if (ptd_val (pd_fn C_is_marked hr (by decide) (pda_cons (pd_var 0) (pda_cons pd_str (pda_cons pd_int pda_nil)))))
      (pssd_cons (psd_ret (pd_fn C_is_pairs hr (by decide) (pda_cons (pd_ix' (pd_var 0) pd_int) pda_nil)))
      pssd_nil)
      pssd_nil)
      (pssd_cons (psd_ret (pd_and (pd_fn C_is_marked hr (by decide) (pda_cons (pd_var 0) (pda_cons pd_str (pda_cons pd_int pda_nil)))) (pd_and (pd_fn C_is_name hr (by decide) (pda_cons (pd_ix' (pd_var 0) pd_int) pda_nil)) (pd_one (pd_fn C_is_pairs hr (by decide) (pda_cons (pd_ix' (pd_var 0) pd_int) pda_nil))))))
      pssd_nil))))) (fun ds d h => mkF_ok h)
theorem sc_is_web : FnScope ["thing"] ["thing"] (defScope (top 23)) := ⟨rfl, rfl, rfl, by decide +kernel, rfl, by decide +kernel, by decide +kernel⟩
set_option maxHeartbeats 0 in
theorem ok_is_web {fa : Addr} {fd : FuncData} (F : Fun K "is_web" "is_web" (top 23) fa fd) (T : Txt mg) (C_count_names : FnD P w K mg base "count_names" 2 ["web"] m_count_names) (C_is_part : FnD P w K mg base "is_part" 6 ["thing"] m_is_part) (C_is_tuple : FnD P w K mg base "is_tuple" 1 ["thing", "most"] m_is_tuple) (C_links_lead : FnD P w K mg base "links_lead" 3 ["web"] m_links_lead) : FnOk P w K mg base CX0 7 fa fd ["thing"] (spD K m_is_web) :=
  okD (k := 6) (G := G_is_web) F sc_is_web (fun cdv A outer s H E hr => (pssd_cons (psd_if (PWD.pt (pwd_or (ptd_not (ptd_val (pd_fn C_is_tuple hr (by decide) (pda_cons (pd_var 0) (pda_cons (pd_gint T.c_MOST_PARTS) pda_nil))))) (pwd_or1 (ptd_cmp op_eq op2_eq (pd_len T.b_len (pda_cons (pd_var 0) pda_nil)) pd_int))))
      (pssd_cons (psd_ret pd_bl)
      pssd_nil)
      pssd_nil)
      (pssd_cons (psd_if (ptd_not (ptd_val (pd_callB (call_all rfl) fn_all T.b_all b_all (pda_cons (pd_cmpD (sc := defScope (top 23)) (N := ["thing"]) (N' := ["part"]) (n := 1) (caps := []) ⟨rfl, by decide +kernel, by decide +kernel, by decide +kernel, by decide +kernel, rfl, by decide +kernel⟩ (by decide) (pid_tup (pd_var 0)) (fun cl s H ex => pgd_name 0 (by decide +kernel : (["part"] : List Str).Nodup)) (fun cl s H ex => pfd_nil) (fun cl s H ex => (pd_fn C_is_part hr (by decide) (pda_cons (pd_var 0) pda_nil)))) pda_nil))))
      (pssd_cons (psd_ret pd_bl)
      pssd_nil)
      pssd_nil)
      (pssd_cons (psd_ret (pd_and (pd_fn C_links_lead hr (by decide) (pda_cons (pd_var 0) pda_nil)) (pd_one (pd_cmp op_le op2_le (pd_fn C_count_names hr (by decide) (pda_cons (pd_var 0) pda_nil)) (pd_gint T.c_MOST_NAMES)))))
      pssd_nil)))) (fun ds d h => mkF_ok h)
theorem sc_links_lead : FnScope ["web", "part", "k"] ["web"] (defScope (top 24)) := ⟨rfl, rfl, rfl, by decide +kernel, rfl, by decide +kernel, by decide +kernel⟩
set_option maxHeartbeats 0 in
theorem ok_links_lead {fa : Addr} {fd : FuncData} (F : Fun K "links_lead" "links_lead" (top 24) fa fd) (T : Txt mg) (C_links : FnD P w K mg base "links" 2 ["part"] m_links) : FnOk P w K mg base CX0 3 fa fd ["web"] (spD K m_links_lead) :=
  okD (k := 2) (G := G_links_lead) F sc_links_lead (fun cdv A outer s H E hr => (pssd_cons (psd_for PassesOwn.never rfl (pid_tup (pd_var 0)) (pgd_name 1 sc_links_lead.nd)
      (pssd_cons (psd_for PassesOwn.never rfl (pid_list (pd_fn C_links hr (by decide) (pda_cons (pd_var 1) pda_nil))) (pgd_name 2 sc_links_lead.nd)
      (pssd_cons (psd_if (ptd_cmp op_ge op2_ge (pd_var 2) (pd_len T.b_len (pda_cons (pd_var 0) pda_nil)))
      (pssd_cons (psd_ret pd_bl)
      pssd_nil)
      pssd_nil)
      pssd_nil))
      pssd_nil))
      (pssd_cons (psd_ret pd_bl)
      pssd_nil))) (fun ds d h => mkF_ok h)
theorem sc_pair_names : FnScope ["part"] ["part"] (defScope (top 25)) := ⟨rfl, rfl, rfl, by decide +kernel, rfl, by decide +kernel, by decide +kernel⟩
set_option maxHeartbeats 0 in
theorem ok_pair_names {fa : Addr} {fd : FuncData} (F : Fun K "pair_names" "pair_names" (top 25) fa fd) (T : Txt mg)  : FnOk P w K mg base CX0 1 fa fd ["part"] (spD K m_pair_names) :=
  okD (k := 0) (G := G_pair_names) F sc_pair_names (fun cdv A outer s H E hr => (pssd_cons (psd_if (PWD.pt (pwd_or (ptd_cmp op_eq op2_eq (pd_ix' (pd_var 0) pd_int) pd_str) (pwd_or1 (ptd_cmp op_eq op2_eq (pd_ix' (pd_var 0) pd_int) pd_str))))
      (pssd_cons (psd_ret (pd_lst pda_nil))
      pssd_nil)
      pssd_nil)
      (pssd_cons (psd_ret (pd_cmpD (sc := defScope (top 25)) (N := ["part"]) (N' := ["pair"]) (n := 1) (caps := []) ⟨rfl, by decide +kernel, by decide +kernel, by decide +kernel, by decide +kernel, rfl, by decide +kernel⟩ (by decide) (pid_tup (pd_ix' (pd_var 0) (pd_neg pd_int))) (fun cl s H ex => pgd_name 0 (by decide +kernel : (["pair"] : List Str).Nodup)) (fun cl s H ex => pfd_nil) (fun cl s H ex => (pd_ix' (pd_var 0) pd_int))))
      pssd_nil))) (fun ds d h => mkF_ok h)
theorem sc_count_names : FnScope ["web", "names", "part"] ["web"] (defScope (top 26)) := ⟨rfl, rfl, rfl, by decide +kernel, rfl, by decide +kernel, by decide +kernel⟩
set_option maxHeartbeats 0 in
theorem ok_count_names {fa : Addr} {fd : FuncData} (F : Fun K "count_names" "count_names" (top 26) fa fd) (T : Txt mg) (C_pair_names : FnD P w K mg base "pair_names" 1 ["part"] m_pair_names) : FnOk P w K mg base CX0 2 fa fd ["web"] (spD K m_count_names) :=
  okD (k := 1) (G := G_count_names) F sc_count_names (fun cdv A outer s H E hr => (pssd_cons (psd_own 1 (pdf_lst pda_nil) sc_count_names.nd)
      (pssd_cons (psd_for PassesOwn.never rfl (pid_tup (pd_var 0)) (pgd_name 2 sc_count_names.nd)
      (pssd_cons (psd_exprX (px_ext 1 (pd_fn C_pair_names hr (by decide) (pda_cons (pd_var 2) pda_nil))))
      (pssd_cons (psd_if (ptd_cmp op_eq op2_eq (pd_ix' (pd_var 2) pd_int) pd_str)
      (pssd_cons (psd_exprX (px_app 1 (pd_ix' (pd_var 2) pd_int)))
      pssd_nil)
      pssd_nil)
      pssd_nil)))
      (pssd_cons (psd_retB (pd_lenSet T.b_len T.b_set (pd_var 1)))
      pssd_nil)))) (fun ds d h => mkF_ok h)
theorem sc_values : FnScope ["part"] ["part"] (defScope (top 27)) := ⟨rfl, rfl, rfl, by decide +kernel, rfl, by decide +kernel, by decide +kernel⟩
set_option maxHeartbeats 0 in
theorem ok_values {fa : Addr} {fd : FuncData} (F : Fun K "values" "values" (top 27) fa fd) (T : Txt mg)  : FnOk P w K mg base CX0 1 fa fd ["part"] (spD K m_values) :=
  okD (k := 0) (G := G_values) F sc_values (fun cdv A outer s H E hr => (pssd_cons (psd_if (ptd_cmp op_eq op2_eq (pd_ix' (pd_var 0) pd_int) pd_str)
      (pssd_cons (psd_ret (pd_lst pda_nil))
      pssd_nil)
      pssd_nil)
      (pssd_cons (psd_if (ptd_cmp op_eq op2_eq (pd_ix' (pd_var 0) pd_int) pd_str)
      (pssd_cons (psd_ret (pd_callTy call_list_of fn_list T.b_list b_list (pda_cons (pd_ix' (pd_var 0) pd_int) pda_nil)))
      pssd_nil)
      pssd_nil)
      (pssd_cons (psd_ret (pd_cmpD (sc := defScope (top 27)) (N := ["part"]) (N' := ["pair"]) (n := 1) (caps := []) ⟨rfl, by decide +kernel, by decide +kernel, by decide +kernel, by decide +kernel, rfl, by decide +kernel⟩ (by decide) (pid_tup (pd_ix' (pd_var 0) (pd_neg pd_int))) (fun cl s H ex => pgd_name 0 (by decide +kernel : (["pair"] : List Str).Nodup)) (fun cl s H ex => pfd_nil) (fun cl s H ex => (pd_ix' (pd_var 0) pd_int))))
      pssd_nil)))) (fun ds d h => mkF_ok h)
theorem sc_links : FnScope ["part"] ["part"] (defScope (top 28)) := ⟨rfl, rfl, rfl, by decide +kernel, rfl, by decide +kernel, by decide +kernel⟩
set_option maxHeartbeats 0 in
theorem ok_links {fa : Addr} {fd : FuncData} (F : Fun K "links" "links" (top 28) fa fd) (T : Txt mg) (C_values : FnD P w K mg base "values" 1 ["part"] m_values) : FnOk P w K mg base CX0 2 fa fd ["part"] (spD K m_links) :=
  okD (k := 1) (G := G_links) F sc_links (fun cdv A outer s H E hr => (pssd_cons (psd_ret (pd_cmpD (sc := defScope (top 28)) (N := ["part"]) (N' := ["value"]) (n := 1) (caps := []) ⟨rfl, by decide +kernel, by decide +kernel, by decide +kernel, by decide +kernel, rfl, by decide +kernel⟩ (by decide) (pid_list (pd_fn C_values hr (by decide) (pda_cons (pd_var 0) pda_nil))) (fun cl s H ex => pgd_name 0 (by decide +kernel : (["value"] : List Str).Nodup)) (fun cl s H ex => (pfd_one (ptd_val (pd_isi okT_tuple b_tuple T.b_isinstance T.b_tuple (pd_var 0))))) (fun cl s H ex => (pd_ix' (pd_var 0) pd_int))))
      pssd_nil)) (fun ds d h => mkF_ok h)
theorem sc_shown : FnScope ["web"] ["web"] (defScope (top 32)) := ⟨rfl, rfl, rfl, by decide +kernel, rfl, by decide +kernel, by decide +kernel⟩
set_option maxHeartbeats 0 in
theorem ok_shown {fa : Addr} {fd : FuncData} (F : Fun K "shown" "shown" (top 32) fa fd) (T : Txt mg) (C_shown_part : FnD P w K mg base "shown_part" 3 ["part"] m_shown_part) : FnOk P w K mg base CX0 4 fa fd ["web"] (spD K m_shown) :=
  okD (k := 3) (G := G_shown) F sc_shown (fun cdv A outer s H E hr => (pssd_cons (psd_ret (pd_join pd_str (pda_cons (pd_cmpD (sc := defScope (top 32)) (N := ["web"]) (N' := ["part"]) (n := 1) (caps := []) ⟨rfl, by decide +kernel, by decide +kernel, by decide +kernel, by decide +kernel, rfl, by decide +kernel⟩ (by decide) (pid_tup (pd_var 0)) (fun cl s H ex => pgd_name 0 (by decide +kernel : (["part"] : List Str).Nodup)) (fun cl s H ex => pfd_nil) (fun cl s H ex => (pd_fn C_shown_part hr (by decide) (pda_cons (pd_var 0) pda_nil)))) pda_nil)))
      pssd_nil)) (fun ds d h => mkF_ok h)
theorem sc_shown_part : FnScope ["part"] ["part"] (defScope (top 33)) := ⟨rfl, rfl, rfl, by decide +kernel, rfl, by decide +kernel, by decide +kernel⟩
set_option maxHeartbeats 0 in
theorem ok_shown_part {fa : Addr} {fd : FuncData} (F : Fun K "shown_part" "shown_part" (top 33) fa fd) (T : Txt mg) (C_shown_pairs : FnD P w K mg base "shown_pairs" 2 ["pairs"] m_shown_pairs) (C_shown_value : FnD P w K mg base "shown_value" 1 ["value"] m_shown_value) : FnOk P w K mg base CX0 3 fa fd ["part"] (spD K m_shown_part) :=
  okD (k := 2) (G := G_shown_part) F sc_shown_part (fun cdv A outer s H E hr => (pssd_cons (psd_if (ptd_cmp op_eq op2_eq (pd_ix' (pd_var 0) pd_int) pd_str)
      (pssd_cons (psd_ret (pd_addA (pd_addA pd_str (pd_ix' (pd_var 0) pd_int)) pd_str))
      pssd_nil)
      pssd_nil)
      (pssd_cons (psd_if (ptd_cmp op_eq op2_eq (pd_ix' (pd_var 0) pd_int) pd_str)
      (pssd_cons (psd_ret (pd_addA (pd_addA pd_str (pd_join pd_str (pda_cons (pd_cmpD (sc := defScope (top 33)) (N := ["part"]) (N' := ["value"]) (n := 1) (caps := []) ⟨rfl, by decide +kernel, by decide +kernel, by decide +kernel, by decide +kernel, rfl, by decide +kernel⟩ (by decide) (pid_tup (pd_ix' (pd_var 0) pd_int)) (fun cl s H ex => pgd_name 0 (by decide +kernel : (["value"] : List Str).Nodup)) (fun cl s H ex => pfd_nil) (fun cl s H ex => (pd_fn C_shown_value hr (by decide) (pda_cons (pd_var 0) pda_nil)))) pda_nil))) pd_str))
      pssd_nil)
      pssd_nil)
      (pssd_cons (psd_if (ptd_cmp op_eq op2_eq (pd_ix' (pd_var 0) pd_int) pd_str)
      (pssd_cons (psd_ret (pd_fn C_shown_pairs hr (by decide) (pda_cons (pd_ix' (pd_var 0) pd_int) pda_nil)))
      pssd_nil)
      pssd_nil)
      (pssd_cons (psd_ret (pd_addA (pd_ix' (pd_var 0) pd_int) (pd_fn C_shown_pairs hr (by decide) (pda_cons (pd_ix' (pd_var 0) pd_int) pda_nil))))
      pssd_nil))))) (fun ds d h => mkF_ok h)
theorem sc_shown_pairs : FnScope ["pairs"] ["pairs"] (defScope (top 34)) := ⟨rfl, rfl, rfl, by decide +kernel, rfl, by decide +kernel, by decide +kernel⟩
set_option maxHeartbeats 0 in
theorem ok_shown_pairs {fa : Addr} {fd : FuncData} (F : Fun K "shown_pairs" "shown_pairs" (top 34) fa fd) (T : Txt mg) (C_shown_value : FnD P w K mg base "shown_value" 1 ["value"] m_shown_value) : FnOk P w K mg base CX0 2 fa fd ["pairs"] (spD K m_shown_pairs) :=
  okD (k := 1) (G := G_shown_pairs) F sc_shown_pairs (fun cdv A outer s H E hr => (pssd_cons (psd_ret (pd_addA (pd_addA pd_str (pd_join pd_str (pda_cons (pd_cmpD (sc := defScope (top 34)) (N := ["pairs"]) (N' := ["pair"]) (n := 1) (caps := []) ⟨rfl, by decide +kernel, by decide +kernel, by decide +kernel, by decide +kernel, rfl, by decide +kernel⟩ (by decide) (pid_tup (pd_var 0)) (fun cl s H ex => pgd_name 0 (by decide +kernel : (["pair"] : List Str).Nodup)) (fun cl s H ex => pfd_nil) (fun cl s H ex => (pd_addA (pd_addA (pd_ix' (pd_var 0) pd_int) pd_str) (pd_fn C_shown_value hr (by decide) (pda_cons (pd_ix' (pd_var 0) pd_int) pda_nil))))) pda_nil))) pd_str))
      pssd_nil)) (fun ds d h => mkF_ok h)
theorem sc_shown_value : FnScope ["value"] ["value"] (defScope (top 35)) := ⟨rfl, rfl, rfl, by decide +kernel, rfl, by decide +kernel, by decide +kernel⟩
set_option maxHeartbeats 0 in
theorem ok_shown_value {fa : Addr} {fd : FuncData} (F : Fun K "shown_value" "shown_value" (top 35) fa fd) (T : Txt mg)  : FnOk P w K mg base CX0 1 fa fd ["value"] (spD K m_shown_value) :=
  okD (k := 0) (G := G_shown_value) F sc_shown_value (fun cdv A outer s H E hr => (pssd_cons (psd_if (ptd_cmp op_isN op2_isN (pd_var 0) pd_non)
      (pssd_cons (psd_ret pd_str)
      pssd_nil)
      pssd_nil)
      (pssd_cons (psd_if (ptd_val (pd_isi okT_tuple b_tuple T.b_isinstance T.b_tuple (pd_var 0)))
      (pssd_cons (psd_ret (pd_addA pd_str (pd_callTy call_str_int fn_str T.b_str b_str (pda_cons (pd_ix' (pd_var 0) pd_int) pda_nil))))
      pssd_nil)
      pssd_nil)
      (pssd_cons (psd_ret (pd_callTy call_str_int fn_str T.b_str b_str (pda_cons (pd_var 0) pda_nil)))
      pssd_nil)))) (fun ds d h => mkF_ok h)
theorem sc_read : FnScope ["text", "web"] ["text"] (defScope (top 36)) := ⟨rfl, rfl, rfl, by decide +kernel, rfl, by decide +kernel, by decide +kernel⟩
set_option maxHeartbeats 0 in
theorem ok_read {fa : Addr} {fd : FuncData} (F : Fun K "read" "read" (top 36) fa fd) (T : Txt mg) (C_is_web : FnD P w K mg base "is_web" 7 ["thing"] m_is_web) (C_read_part : FnD P w K mg base "read_part" 6 ["piece"] m_read_part) : FnOk P w K mg base CX0 8 fa fd ["text"] (spD K m_read) :=
  okD (k := 7) (G := G_read) F sc_read (fun cdv A outer s H E hr => (pssd_cons (psd_if (ptd_not (ptd_val (pd_isi okT_str b_str T.b_isinstance T.b_str (pd_var 0))))
      (pssd_cons psd_never
      pssd_nil)
      pssd_nil)
      (pssd_cons (psd_asg (pd_callTy call_tuple_of fn_tup T.b_tuple b_tuple (pda_cons (pd_cmpD (sc := defScope (top 36)) (N := ["text", "web"]) (N' := ["piece"]) (n := 1) (caps := []) ⟨rfl, by decide +kernel, by decide +kernel, by decide +kernel, by decide +kernel, rfl, by decide +kernel⟩ (by decide) (pid_list (pd_smeth PySem.F.slot_str_split PySem.F.type_str_split mt_split mf_split str_split (pd_var 0) (pda_cons pd_str pda_nil))) (fun cl s H ex => pgd_name 0 (by decide +kernel : (["piece"] : List Str).Nodup)) (fun cl s H ex => pfd_nil) (fun cl s H ex => (pd_fn C_read_part hr (by decide) (pda_cons (pd_var 0) pda_nil)))) pda_nil)) (pgd_name 1 sc_read.nd))
      (pssd_cons (psd_if (ptd_not (ptd_val (pd_fn C_is_web hr (by decide) (pda_cons (pd_var 1) pda_nil))))
      (pssd_cons psd_never
      pssd_nil)
      pssd_nil)
      (pssd_cons (psd_ret (pd_var 1))
      pssd_nil))))) (fun ds d h => mkF_ok h)
theorem sc_read_part : FnScope ["piece"] ["piece"] (defScope (top 37)) := ⟨rfl, rfl, rfl, by decide +kernel, rfl, by decide +kernel, by decide +kernel⟩
set_option maxHeartbeats 0 in
theorem ok_read_part {fa : Addr} {fd : FuncData} (F : Fun K "read_part" "read_part" (top 37) fa fd) (T : Txt mg) (C_parted_items : FnD P w K mg base "parted_items" 1 ["inner"] m_parted_items) (C_read_paired : FnD P w K mg base "read_paired" 5 ["piece"] m_read_paired) (C_read_value : FnD P w K mg base "read_value" 3 ["text"] m_read_value) : FnOk P w K mg base CX0 6 fa fd ["piece"] (spD K m_read_part) :=
  okD (k := 5) (G := G_read_part) F sc_read_part (fun cdv A outer s H E hr => (pssd_cons (psd_if (PWD.pt (pwd_and (ptd_cmp op_gt op2_gt (pd_len T.b_len (pda_cons (pd_var 0) pda_nil)) pd_int) (pwd_and (ptd_val (pd_smeth PySem.F.slot_str_startswith PySem.F.type_str_startswith mt_starts mf_starts str_starts (pd_var 0) (pda_cons pd_str pda_nil))) (pwd_and1 (ptd_val (pd_smeth PySem.F.slot_str_endswith PySem.F.type_str_endswith mt_ends mf_ends str_ends (pd_var 0) (pda_cons pd_str pda_nil)))))))
      (pssd_cons (psd_ret (pd_tup (pda_cons pd_str (pda_cons (pd_sliceA (pd_var 0) (pdo_some pd_int) (pdo_some (pd_neg pd_int))) pda_nil))))
      pssd_nil)
      pssd_nil)
      (pssd_cons (psd_if (PWD.pt (pwd_and (ptd_val (pd_smeth PySem.F.slot_str_startswith PySem.F.type_str_startswith mt_starts mf_starts str_starts (pd_var 0) (pda_cons pd_str pda_nil))) (pwd_and1 (ptd_val (pd_smeth PySem.F.slot_str_endswith PySem.F.type_str_endswith mt_ends mf_ends str_ends (pd_var 0) (pda_cons pd_str pda_nil))))))
      (pssd_cons (psd_ret (pd_tup (pda_cons pd_str (pda_cons (pd_callTy call_tuple_of fn_tup T.b_tuple b_tuple (pda_cons (pd_cmpD (sc := defScope (top 37)) (N := ["piece"]) (N' := ["item"]) (n := 1) (caps := []) ⟨rfl, by decide +kernel, by decide +kernel, by decide +kernel, by decide +kernel, rfl, by decide +kernel⟩ (by decide) (pid_list (pd_fn C_parted_items hr (by decide) (pda_cons (pd_sliceA (pd_var 0) (pdo_some pd_int) (pdo_some (pd_neg pd_int))) pda_nil))) (fun cl s H ex => pgd_name 0 (by decide +kernel : (["item"] : List Str).Nodup)) (fun cl s H ex => pfd_nil) (fun cl s H ex => (pd_fn C_read_value hr (by decide) (pda_cons (pd_var 0) pda_nil)))) pda_nil)) pda_nil))))
      pssd_nil)
      pssd_nil)
      (pssd_cons (psd_if (PWD.pt (pwd_and (ptd_cmp op_in_str op2_in pd_str (pd_var 0)) (pwd_and1 (ptd_val (pd_smeth PySem.F.slot_str_endswith PySem.F.type_str_endswith mt_ends mf_ends str_ends (pd_var 0) (pda_cons pd_str pda_nil))))))
      (pssd_cons (psd_ret (pd_fn C_read_paired hr (by decide) (pda_cons (pd_var 0) pda_nil)))
      pssd_nil)
      pssd_nil)
      (pssd_cons psd_never
      pssd_nil))))) (fun ds d h => mkF_ok h)
theorem sc_read_paired : FnScope ["piece", "halves", "pairs"] ["piece"] (defScope (top 38)) := ⟨rfl, rfl, rfl, by decide +kernel, rfl, by decide +kernel, by decide +kernel⟩
set_option maxHeartbeats 0 in
theorem ok_read_paired {fa : Addr} {fd : FuncData} (F : Fun K "read_paired" "read_paired" (top 38) fa fd) (T : Txt mg) (C_parted_items : FnD P w K mg base "parted_items" 1 ["inner"] m_parted_items) (C_read_pair : FnD P w K mg base "read_pair" 4 ["item"] m_read_pair) : FnOk P w K mg base CX0 5 fa fd ["piece"] (spD K m_read_paired) :=
  okD (k := 4) (G := G_read_paired) F sc_read_paired (fun cdv A outer s H E hr => (pssd_cons (psd_asg (pd_smeth PySem.F.slot_str_partition PySem.F.type_str_partition mt_part mf_part str_part (pd_var 0) (pda_cons pd_str pda_nil)) (pgd_name 1 sc_read_paired.nd))
      (pssd_cons (psd_asg (pd_callTy call_tuple_of fn_tup T.b_tuple b_tuple (pda_cons (pd_cmpD (sc := defScope (top 38)) (N := ["piece", "halves", "pairs"]) (N' := ["item"]) (n := 1) (caps := []) ⟨rfl, by decide +kernel, by decide +kernel, by decide +kernel, by decide +kernel, rfl, by decide +kernel⟩ (by decide) (pid_list (pd_fn C_parted_items hr (by decide) (pda_cons (pd_sliceA (pd_ix' (pd_var 1) pd_int) pdo_none (pdo_some (pd_neg pd_int))) pda_nil))) (fun cl s H ex => pgd_name 0 (by decide +kernel : (["item"] : List Str).Nodup)) (fun cl s H ex => pfd_nil) (fun cl s H ex => (pd_fn C_read_pair hr (by decide) (pda_cons (pd_var 0) pda_nil)))) pda_nil)) (pgd_name 2 sc_read_paired.nd))
      (pssd_cons (psd_if (ptd_cmp op_eq op2_eq (pd_ix' (pd_var 1) pd_int) pd_str)
      (pssd_cons (psd_ret (pd_tup (pda_cons pd_str (pda_cons (pd_var 2) pda_nil))))
      pssd_nil)
      pssd_nil)
      (pssd_cons (psd_ret (pd_tup (pda_cons pd_str (pda_cons (pd_ix' (pd_var 1) pd_int) (pda_cons (pd_var 2) pda_nil)))))
      pssd_nil))))) (fun ds d h => mkF_ok h)
theorem sc_parted_items : FnScope ["inner"] ["inner"] (defScope (top 39)) := ⟨rfl, rfl, rfl, by decide +kernel, rfl, by decide +kernel, by decide +kernel⟩
set_option maxHeartbeats 0 in
theorem ok_parted_items {fa : Addr} {fd : FuncData} (F : Fun K "parted_items" "parted_items" (top 39) fa fd) (T : Txt mg)  : FnOk P w K mg base CX0 1 fa fd ["inner"] (spD K m_parted_items) :=
  okD (k := 0) (G := G_parted_items) F sc_parted_items (fun cdv A outer s H E hr => (pssd_cons (psd_if (ptd_cmp op_eq op2_eq (pd_var 0) pd_str)
      (pssd_cons (psd_ret (pd_lst pda_nil))
      pssd_nil)
      pssd_nil)
      (pssd_cons (psd_ret (pd_smeth PySem.F.slot_str_split PySem.F.type_str_split mt_split mf_split str_split (pd_var 0) (pda_cons pd_str pda_nil)))
      pssd_nil))) (fun ds d h => mkF_ok h)
theorem sc_read_pair : FnScope ["item", "halves"] ["item"] (defScope (top 40)) := ⟨rfl, rfl, rfl, by decide +kernel, rfl, by decide +kernel, by decide +kernel⟩
set_option maxHeartbeats 0 in
theorem ok_read_pair {fa : Addr} {fd : FuncData} (F : Fun K "read_pair" "read_pair" (top 40) fa fd) (T : Txt mg) (C_read_value : FnD P w K mg base "read_value" 3 ["text"] m_read_value) : FnOk P w K mg base CX0 4 fa fd ["item"] (spD K m_read_pair) :=
  okD (k := 3) (G := G_read_pair) F sc_read_pair (fun cdv A outer s H E hr => (pssd_cons (psd_asg (pd_smeth PySem.F.slot_str_partition PySem.F.type_str_partition mt_part mf_part str_part (pd_var 0) (pda_cons pd_str pda_nil)) (pgd_name 1 sc_read_pair.nd))
      (pssd_cons (psd_ret (pd_tup (pda_cons (pd_ix' (pd_var 1) pd_int) (pda_cons (pd_fn C_read_value hr (by decide) (pda_cons (pd_ix' (pd_var 1) pd_int) pda_nil)) pda_nil))))
      pssd_nil))) (fun ds d h => mkF_ok h)
theorem sc_read_value : FnScope ["text"] ["text"] (defScope (top 41)) := ⟨rfl, rfl, rfl, by decide +kernel, rfl, by decide +kernel, by decide +kernel⟩
set_option maxHeartbeats 0 in
theorem ok_read_value {fa : Addr} {fd : FuncData} (F : Fun K "read_value" "read_value" (top 41) fa fd) (T : Txt mg) (C_read_count : FnD P w K mg base "read_count" 2 ["text"] m_read_count) : FnOk P w K mg base CX0 3 fa fd ["text"] (spD K m_read_value) :=
  okD (k := 2) (G := G_read_value) F sc_read_value (fun cdv A outer s H E hr => (pssd_cons (psd_if (ptd_cmp op_eq op2_eq (pd_var 0) pd_str)
      (pssd_cons (psd_ret pd_non)
      pssd_nil)
      pssd_nil)
      (pssd_cons (psd_if (ptd_val (pd_smeth PySem.F.slot_str_startswith PySem.F.type_str_startswith mt_starts mf_starts str_starts (pd_var 0) (pda_cons pd_str pda_nil)))
      (pssd_cons (psd_ret (pd_tup (pda_cons pd_str (pda_cons (pd_fn C_read_count hr (by decide) (pda_cons (pd_sliceA (pd_var 0) (pdo_some pd_int) pdo_none) pda_nil)) pda_nil))))
      pssd_nil)
      pssd_nil)
      (pssd_cons (psd_if (ptd_cmp op_eq op2_eq (pd_var 0) pd_str)
      (pssd_cons psd_never
      pssd_nil)
      pssd_nil)
      (pssd_cons (psd_if (ptd_val (pd_smeth PySem.F.slot_str_startswith PySem.F.type_str_startswith mt_starts mf_starts str_starts (pd_var 0) (pda_cons pd_str pda_nil)))
      (pssd_cons (psd_ret (pd_neg (pd_fn C_read_count hr (by decide) (pda_cons (pd_sliceA (pd_var 0) (pdo_some pd_int) pdo_none) pda_nil))))
      pssd_nil)
      pssd_nil)
      (pssd_cons (psd_ret (pd_fn C_read_count hr (by decide) (pda_cons (pd_var 0) pda_nil)))
      pssd_nil)))))) (fun ds d h => mkF_ok h)
theorem sc_read_count : FnScope ["text"] ["text"] (defScope (top 42)) := ⟨rfl, rfl, rfl, by decide +kernel, rfl, by decide +kernel, by decide +kernel⟩
set_option maxHeartbeats 0 in
theorem ok_read_count {fa : Addr} {fd : FuncData} (F : Fun K "read_count" "read_count" (top 42) fa fd) (T : Txt mg) (C_is_count_text : FnD P w K mg base "is_count_text" 1 ["text"] m_is_count_text) : FnOk P w K mg base CX0 2 fa fd ["text"] (spD K m_read_count) :=
  okD (k := 1) (G := G_read_count) F sc_read_count (fun cdv A outer s H E hr => (pssd_cons (psd_if (ptd_not (ptd_val (pd_fn C_is_count_text hr (by decide) (pda_cons (pd_var 0) pda_nil))))
      (pssd_cons psd_never
      pssd_nil)
      pssd_nil)
      (pssd_cons (psd_ret (pd_callTy call_int_text fn_intT T.b_int b_int (pda_cons (pd_var 0) pda_nil)))
      pssd_nil))) (fun ds d h => mkF_ok h)
theorem sc_is_count_text : FnScope ["text"] ["text"] (defScope (top 43)) := ⟨rfl, rfl, rfl, by decide +kernel, rfl, by decide +kernel, by decide +kernel⟩
set_option maxHeartbeats 0 in
theorem ok_is_count_text {fa : Addr} {fd : FuncData} (F : Fun K "is_count_text" "is_count_text" (top 43) fa fd) (T : Txt mg)  : FnOk P w K mg base CX0 1 fa fd ["text"] (spD K m_is_count_text) :=
  okD (k := 0) (G := G_is_count_text) F sc_is_count_text (fun cdv A outer s H E hr => (pssd_cons (psd_if (PWD.pt (pwd_or (ptd_cmp op_eq op2_eq (pd_len T.b_len (pda_cons (pd_var 0) pda_nil)) pd_int) (pwd_or (ptd_cmp op_gt op2_gt (pd_len T.b_len (pda_cons (pd_var 0) pda_nil)) (pd_gint T.c_MOST_FIGURES)) (pwd_or1 (ptd_not (ptd_val (pd_callB (call_all rfl) fn_all T.b_all b_all (pda_cons (pd_cmpD (sc := defScope (top 43)) (N := ["text"]) (N' := ["sign"]) (n := 1) (caps := []) ⟨rfl, by decide +kernel, by decide +kernel, by decide +kernel, by decide +kernel, rfl, by decide +kernel⟩ (by decide) (pid_str (pd_var 0)) (fun cl s H ex => pgd_name 0 (by decide +kernel : (["sign"] : List Str).Nodup)) (fun cl s H ex => pfd_nil) (fun cl s H ex => (pd_cmp op_in_str op2_in (pd_var 0) (pd_gstr T.c_FIGURES)))) pda_nil))))))))
      (pssd_cons (psd_ret pd_bl)
      pssd_nil)
      pssd_nil)
      (pssd_cons (psd_ret (pd_or (pd_cmp op_eq op2_eq (pd_var 0) pd_str) (pd_one (pd_not (pd_smeth PySem.F.slot_str_startswith PySem.F.type_str_startswith mt_starts mf_starts str_starts (pd_var 0) (pda_cons pd_str pda_nil))))))
      pssd_nil))) (fun ds d h => mkF_ok h)
theorem sc__law_cell_at : FnScope ["_law_script", "_law_k"] ["_law_script", "_law_k"] (defScope (top 45)) := ⟨rfl, rfl, rfl, by decide +kernel, rfl, by decide +kernel, by decide +kernel⟩
set_option maxHeartbeats 0 in
theorem ok__law_cell_at {fa : Addr} {fd : FuncData} (F : Fun K "_law_cell_at" "_law_cell_at" (top 45) fa fd) (T : Txt mg)  : FnOk P w K mg base CX0 1 fa fd ["_law_script", "_law_k"] (spD K m__law_cell_at) :=
  okD (k := 0) (G := G__law_cell_at) F sc__law_cell_at (fun cdv A outer s H E hr => (pssd_cons (psd_if (ptd_cmp op_lt op2_lt (pd_var 1) (pd_len T.b_len (pda_cons (pd_var 0) pda_nil)))
      (pssd_cons (psd_ret (pd_ix' (pd_var 0) (pd_var 1)))
      pssd_nil)
      pssd_nil)
      (pssd_cons (psd_ret pd_int)
      pssd_nil))) (fun ds d h => mkF_ok h)
theorem sc__law_mixed : FnScope ["_law_script", "_law_k", "_law_a", "_law_b"] ["_law_script", "_law_k"] (defScope (top 46)) := ⟨rfl, rfl, rfl, by decide +kernel, rfl, by decide +kernel, by decide +kernel⟩
set_option maxHeartbeats 0 in
theorem ok__law_mixed {fa : Addr} {fd : FuncData} (F : Fun K "_law_mixed" "_law_mixed" (top 46) fa fd) (T : Txt mg) (C__law_cell_at : FnD P w K mg base "_law_cell_at" 1 ["_law_script", "_law_k"] m__law_cell_at) : FnOk P w K mg base CX0 2 fa fd ["_law_script", "_law_k"] (spD K m__law_mixed) :=
  okD (k := 1) (G := G__law_mixed) F sc__law_mixed (fun cdv A outer s H E hr => (pssd_cons (psd_asg (pd_mod (pd_fn C__law_cell_at hr (by decide) (pda_cons (pd_var 0) (pda_cons (pd_addA pd_int (pd_mulA pd_int (pd_var 1))) pda_nil))) pd_int) (pgd_name 2 sc__law_mixed.nd))
      (pssd_cons (psd_asg (pd_mod (pd_fn C__law_cell_at hr (by decide) (pda_cons (pd_var 0) (pda_cons (pd_addA pd_int (pd_mulA pd_int (pd_var 1))) pda_nil))) pd_int) (pgd_name 3 sc__law_mixed.nd))
      (pssd_cons (psd_ret (pd_mod (pd_addA (pd_addA (pd_addA (pd_mulA (pd_var 2) pd_int) (pd_mulA (pd_var 3) pd_int)) (pd_mulA (pd_mulA pd_int (pd_var 1)) (pd_var 1))) (pd_mulA pd_int (pd_var 1))) pd_int))
      pssd_nil)))) (fun ds d h => mkF_ok h)
theorem sc__law_names : FnScope ["_law_x", "_law_signs", "_law_size", "_law_at", "_law_names_here", "_law_k", "_law_name"] ["_law_x"] (defScope (top 47)) := ⟨rfl, rfl, rfl, by decide +kernel, rfl, by decide +kernel, by decide +kernel⟩
set_option maxHeartbeats 0 in
theorem ok__law_names {fa : Addr} {fd : FuncData} (F : Fun K "_law_names" "_law_names" (top 47) fa fd) (T : Txt mg)  : FnOk P w K mg base CX0 1 fa fd ["_law_x"] (spD K m__law_names) :=
  okD (k := 0) (G := G__law_names) F sc__law_names (fun cdv A outer s H E hr => (pssd_cons (psd_asg pd_str (pgd_name 1 sc__law_names.nd))
      (pssd_cons (psd_asg (pd_addA pd_int (pd_mod (pd_var 0) pd_int)) (pgd_name 2 sc__law_names.nd))
      (pssd_cons (psd_asg (pd_mod (pd_fdiv (pd_var 0) pd_int) (pd_var 2)) (pgd_name 3 sc__law_names.nd))
      (pssd_cons (psd_own 4 (pdf_lst pda_nil) sc__law_names.nd)
      (pssd_cons (psd_for PassesOwn.never rfl (pid_range1 T.b_range (pda_cons pd_int pda_nil)) (pgd_name 5 sc__law_names.nd)
      (pssd_cons (psd_ownCmp 6 sc__law_names.nd (sc := defScope (top 47)) (N := ["_law_x", "_law_signs", "_law_size", "_law_at", "_law_names_here", "_law_k", "_law_name"]) (N' := ["_law_j", "_law_x", "_law_signs"]) (n := 1) (caps := [0, 1]) ⟨rfl, by decide +kernel, by decide +kernel, by decide +kernel, by decide +kernel, rfl, by decide +kernel⟩ (by decide) (pid_range1 T.b_range (pda_cons (pd_var 2) pda_nil)) (fun cl s H ex => pgd_name 0 (by decide +kernel : (["_law_j", "_law_x", "_law_signs"] : List Str).Nodup)) (fun cl s H ex => pfd_nil) (fun cl s H ex => (pd_ix' (pd_var 2) (pd_mod (pd_addA (pd_fdiv (pd_var 1) (pd_addA (pd_var 0) pd_int)) (pd_mulA (pd_var 0) (pd_var 0))) pd_int))))
      (pssd_cons (psd_asgX (px_pure (pd_ix' (pd_var 1) (pd_mod (pd_addA (pd_fdiv (pd_var 0) pd_int) (pd_var 5)) pd_int))) (ptg_set 6 (pd_var 3)))
      (pssd_cons (psd_exprX (px_app 4 (pd_bor (pd_join pd_str (pda_cons (pd_var 6) pda_nil)))))
      pssd_nil))))
      (pssd_cons (psd_retB (pd_var 4))
      pssd_nil))))))) (fun ds d h => mkF_ok h)
theorem sc__law_value : FnScope ["_law_x", "_law_many", "_law_number"] ["_law_x", "_law_many"] (defScope (top 48)) := ⟨rfl, rfl, rfl, by decide +kernel, rfl, by decide +kernel, by decide +kernel⟩
set_option maxHeartbeats 0 in
theorem ok__law_value {fa : Addr} {fd : FuncData} (F : Fun K "_law_value" "_law_value" (top 48) fa fd) (T : Txt mg)  : FnOk P w K mg base CX0 1 fa fd ["_law_x", "_law_many"] (spD K m__law_value) :=
  okD (k := 0) (G := G__law_value) F sc__law_value (fun cdv A outer s H E hr => (pssd_cons (psd_if (ptd_cmp op_eq op2_eq (pd_mod (pd_var 0) pd_int) pd_int)
      (pssd_cons (psd_ret pd_non)
      pssd_nil)
      pssd_nil)
      (pssd_cons (psd_if (ptd_cmp op_eq op2_eq (pd_mod (pd_var 0) pd_int) pd_int)
      (pssd_cons (psd_asg (pd_mod (pd_ix' (pd_lst (pda_cons (pd_mod (pd_fdiv (pd_var 0) pd_int) pd_int) (pda_cons (pd_sub (pd_pow pd_int pd_int) (pd_var 0)) (pda_cons (pd_addA (pd_pow pd_int pd_int) (pd_var 0)) (pda_cons pd_int pda_nil))))) (pd_mod (pd_fdiv (pd_var 0) pd_int) pd_int)) (pd_ix' (pd_lst (pda_cons (pd_pow pd_int pd_int) (pda_cons (pd_pow pd_int pd_int) pda_nil))) (pd_callTy call_int1 fn_int T.b_int b_int (pda_cons (pd_cmp op_gt op2_gt (pd_var 1) pd_int) pda_nil)))) (pgd_name 2 sc__law_value.nd))
      (pssd_cons (psd_ret (pd_mulA (pd_var 2) (pd_ix' (pd_lst (pda_cons pd_int (pda_cons (pd_neg pd_int) pda_nil))) (pd_mod (pd_fdiv (pd_var 0) pd_int) pd_int))))
      pssd_nil))
      pssd_nil)
      (pssd_cons (psd_ret (pd_tup (pda_cons pd_str (pda_cons (pd_mod (pd_fdiv (pd_var 0) pd_int) (pd_var 1)) pda_nil))))
      pssd_nil)))) (fun ds d h => mkF_ok h)
theorem sc__law_part : FnScope ["_law_x", "_law_many", "_law_names_here", "_law_n", "_law_some", "_law_pairs", "_law_word"] ["_law_x", "_law_many", "_law_names_here"] (defScope (top 49)) := ⟨rfl, rfl, rfl, by decide +kernel, rfl, by decide +kernel, by decide +kernel⟩
set_option maxHeartbeats 0 in
theorem ok__law_part {fa : Addr} {fd : FuncData} (F : Fun K "_law_part" "_law_part" (top 49) fa fd) (T : Txt mg) (C__law_value : FnD P w K mg base "_law_value" 1 ["_law_x", "_law_many"] m__law_value) : FnOk P w K mg base CX0 2 fa fd ["_law_x", "_law_many", "_law_names_here"] (spD K m__law_part) :=
  okD (k := 1) (G := G__law_part) F sc__law_part (fun cdv A outer s H E hr => (pssd_cons (psd_asg (pd_mod (pd_fdiv (pd_var 0) pd_int) pd_int) (pgd_name 3 sc__law_part.nd))
      (pssd_cons (psd_if (PWD.pt (pwd_and (ptd_cmp op_eq op2_eq (pd_mod (pd_fdiv (pd_var 0) pd_int) pd_int) pd_int) (pwd_and1 (ptd_cmp op_lt op2_lt (pd_var 1) pd_int))))
      (pssd_cons (psd_asg pd_int (pgd_name 3 sc__law_part.nd))
      pssd_nil)
      pssd_nil)
      (pssd_cons (psd_asg (pd_cmpD (sc := defScope (top 49)) (N := ["_law_x", "_law_many", "_law_names_here", "_law_n", "_law_some", "_law_pairs", "_law_word"]) (N' := ["_law_j", "_law_x", "_law_many"]) (n := 1) (caps := [0, 1]) ⟨rfl, by decide +kernel, by decide +kernel, by decide +kernel, by decide +kernel, rfl, by decide +kernel⟩ (by decide) (pid_range1 T.b_range (pda_cons (pd_var 3) pda_nil)) (fun cl s H ex => pgd_name 0 (by decide +kernel : (["_law_j", "_law_x", "_law_many"] : List Str).Nodup)) (fun cl s H ex => pfd_nil) (fun cl s H ex => (pd_fn C__law_value hr (by decide) (pda_cons (pd_addA (pd_fdiv (pd_var 1) (pd_addA (pd_var 0) pd_int)) (pd_mulA (pd_mulA pd_int (pd_var 0)) (pd_var 0))) (pda_cons (pd_var 2) pda_nil))))) (pgd_name 4 sc__law_part.nd))
      (pssd_cons (psd_asg (pd_callTy call_tuple_of fn_tup T.b_tuple b_tuple (pda_cons (pd_cmpD (sc := defScope (top 49)) (N := ["_law_x", "_law_many", "_law_names_here", "_law_n", "_law_some", "_law_pairs", "_law_word"]) (N' := ["_law_j", "_law_x", "_law_names_here", "_law_some"]) (n := 1) (caps := [0, 2, 4]) ⟨rfl, by decide +kernel, by decide +kernel, by decide +kernel, by decide +kernel, rfl, by decide +kernel⟩ (by decide) (pid_range1 T.b_range (pda_cons (pd_var 3) pda_nil)) (fun cl s H ex => pgd_name 0 (by decide +kernel : (["_law_j", "_law_x", "_law_names_here", "_law_some"] : List Str).Nodup)) (fun cl s H ex => pfd_nil) (fun cl s H ex => (pd_tup (pda_cons (pd_ix' (pd_var 2) (pd_mod (pd_addA (pd_fdiv (pd_var 1) pd_int) (pd_var 0)) pd_int)) (pda_cons (pd_ix' (pd_var 3) (pd_var 0)) pda_nil))))) pda_nil)) (pgd_name 5 sc__law_part.nd))
      (pssd_cons (psd_if (ptd_cmp op_eq op2_eq (pd_mod (pd_var 0) pd_int) pd_int)
      (pssd_cons (psd_asg (pd_join pd_str (pda_cons (pd_cmpD (sc := defScope (top 49)) (N := ["_law_x", "_law_many", "_law_names_here", "_law_n", "_law_some", "_law_pairs", "_law_word"]) (N' := ["_law_j", "_law_x"]) (n := 1) (caps := [0]) ⟨rfl, by decide +kernel, by decide +kernel, by decide +kernel, by decide +kernel, rfl, by decide +kernel⟩ (by decide) (pid_range1 T.b_range (pda_cons (pd_mod (pd_fdiv (pd_var 0) pd_int) pd_int) pda_nil)) (fun cl s H ex => pgd_name 0 (by decide +kernel : (["_law_j", "_law_x"] : List Str).Nodup)) (fun cl s H ex => pfd_nil) (fun cl s H ex => (pd_ix' pd_str (pd_mod (pd_addA (pd_fdiv (pd_var 1) (pd_addA (pd_var 0) pd_int)) (pd_mulA (pd_var 0) (pd_var 0))) pd_int)))) pda_nil)) (pgd_name 6 sc__law_part.nd))
      (pssd_cons (psd_ret (pd_tup (pda_cons pd_str (pda_cons (pd_var 6) pda_nil))))
      pssd_nil))
      pssd_nil)
      (pssd_cons (psd_if (ptd_cmp op_eq op2_eq (pd_mod (pd_var 0) pd_int) pd_int)
      (pssd_cons (psd_ret (pd_tup (pda_cons pd_str (pda_cons (pd_callTy call_tuple_of fn_tup T.b_tuple b_tuple (pda_cons (pd_var 4) pda_nil)) pda_nil))))
      pssd_nil)
      pssd_nil)
      (pssd_cons (psd_if (ptd_cmp op_eq op2_eq (pd_mod (pd_var 0) pd_int) pd_int)
      (pssd_cons (psd_ret (pd_tup (pda_cons pd_str (pda_cons (pd_var 5) pda_nil))))
      pssd_nil)
      pssd_nil)
      (pssd_cons (psd_ret (pd_tup (pda_cons pd_str (pda_cons (pd_ix' (pd_var 2) (pd_mod (pd_fdiv (pd_var 0) pd_int) pd_int)) (pda_cons (pd_var 5) pda_nil)))))
      pssd_nil))))))))) (fun ds d h => mkF_ok h)
theorem sc__law_value_text : FnScope ["_law_value_here"] ["_law_value_here"] (defScope (top 50)) := ⟨rfl, rfl, rfl, by decide +kernel, rfl, by decide +kernel, by decide +kernel⟩
set_option maxHeartbeats 0 in
theorem ok__law_value_text {fa : Addr} {fd : FuncData} (F : Fun K "_law_value_text" "_law_value_text" (top 50) fa fd) (T : Txt mg)  : FnOk P w K mg base CX0 1 fa fd ["_law_value_here"] (spD K m__law_value_text) :=
  okD (k := 0) (G := G__law_value_text) F sc__law_value_text (fun cdv A outer s H E hr => (pssd_cons (psd_if (ptd_cmp op_isN op2_isN (pd_var 0) pd_non)
      (pssd_cons (psd_ret pd_str)
      pssd_nil)
      pssd_nil)
      (pssd_cons (psd_if (ptd_val (pd_isi okT_int b_int T.b_isinstance T.b_int (pd_var 0)))
      (pssd_cons (psd_ret (pd_callTy call_str_int fn_str T.b_str b_str (pda_cons (pd_var 0) pda_nil)))
      pssd_nil)
      pssd_nil)
      (pssd_cons (psd_ret (pd_addA pd_str (pd_callTy call_str_int fn_str T.b_str b_str (pda_cons (pd_ix' (pd_var 0) pd_int) pda_nil))))
      pssd_nil)))) (fun ds d h => mkF_ok h)
theorem sc__law_text : FnScope ["_law_web", "_law_parts", "_law_part_here", "_law_pairs", "_law_front"] ["_law_web"] (defScope (top 51)) := ⟨rfl, rfl, rfl, by decide +kernel, rfl, by decide +kernel, by decide +kernel⟩
set_option maxHeartbeats 0 in
theorem ok__law_text {fa : Addr} {fd : FuncData} (F : Fun K "_law_text" "_law_text" (top 51) fa fd) (T : Txt mg) (C__law_value_text : FnD P w K mg base "_law_value_text" 1 ["_law_value_here"] m__law_value_text) : FnOk P w K mg base CX0 2 fa fd ["_law_web"] (spD K m__law_text) :=
  okD (k := 1) (G := G__law_text) F sc__law_text (fun cdv A outer s H E hr => (pssd_cons (psd_own 1 (pdf_lst pda_nil) sc__law_text.nd)
      (pssd_cons (psd_for PassesOwn.never rfl (pid_tup (pd_var 0)) (pgd_name 2 sc__law_text.nd)
      (pssd_cons (psd_if (ptd_cmp op_eq op2_eq (pd_ix' (pd_var 2) pd_int) pd_str)
      (pssd_cons (psd_exprX (px_app 1 (pd_addA (pd_addA pd_str (pd_ix' (pd_var 2) pd_int)) pd_str)))
      pssd_nil)
      (pssd_cons (psd_if (ptd_cmp op_eq op2_eq (pd_ix' (pd_var 2) pd_int) pd_str)
      (pssd_cons (psd_exprX (px_app 1 (pd_addA (pd_addA pd_str (pd_join pd_str (pda_cons (pd_cmpD (sc := defScope (top 51)) (N := ["_law_web", "_law_parts", "_law_part_here", "_law_pairs", "_law_front"]) (N' := ["_law_value_here"]) (n := 1) (caps := []) ⟨rfl, by decide +kernel, by decide +kernel, by decide +kernel, by decide +kernel, rfl, by decide +kernel⟩ (by decide) (pid_tup (pd_ix' (pd_var 2) pd_int)) (fun cl s H ex => pgd_name 0 (by decide +kernel : (["_law_value_here"] : List Str).Nodup)) (fun cl s H ex => pfd_nil) (fun cl s H ex => (pd_fn C__law_value_text hr (by decide) (pda_cons (pd_var 0) pda_nil)))) pda_nil))) pd_str)))
      pssd_nil)
      (pssd_cons (psd_asg (pd_join pd_str (pda_cons (pd_cmpD (sc := defScope (top 51)) (N := ["_law_web", "_law_parts", "_law_part_here", "_law_pairs", "_law_front"]) (N' := ["_law_name", "_law_value_here"]) (n := 2) (caps := []) ⟨rfl, by decide +kernel, by decide +kernel, by decide +kernel, by decide +kernel, rfl, by decide +kernel⟩ (by decide) (pid_tup (pd_ix' (pd_var 2) (pd_neg pd_int))) (fun cl s H ex => pgd_tup2 0 1 (by decide +kernel : (["_law_name", "_law_value_here"] : List Str).Nodup) (by decide)) (fun cl s H ex => pfd_nil) (fun cl s H ex => (pd_addA (pd_addA (pd_var 0) pd_str) (pd_fn C__law_value_text hr (by decide) (pda_cons (pd_var 1) pda_nil))))) pda_nil)) (pgd_name 3 sc__law_text.nd))
      (pssd_cons (psd_asg pd_str (pgd_name 4 sc__law_text.nd))
      (pssd_cons (psd_if (ptd_cmp op_eq op2_eq (pd_ix' (pd_var 2) pd_int) pd_str)
      (pssd_cons (psd_asg (pd_ix' (pd_var 2) pd_int) (pgd_name 4 sc__law_text.nd))
      pssd_nil)
      pssd_nil)
      (pssd_cons (psd_exprX (px_app 1 (pd_addA (pd_addA (pd_addA (pd_var 4) pd_str) (pd_var 3)) pd_str)))
      pssd_nil)))))
      pssd_nil))
      pssd_nil))
      (pssd_cons (psd_retB (pd_join pd_str (pda_cons (pd_var 1) pda_nil)))
      pssd_nil)))) (fun ds d h => mkF_ok h)
theorem sc__law_kinds : FnScope ["_law_found"] ["_law_found"] (defScope (top 52)) := ⟨rfl, rfl, rfl, by decide +kernel, rfl, by decide +kernel, by decide +kernel⟩
set_option maxHeartbeats 0 in
theorem ok__law_kinds {fa : Addr} {fd : FuncData} (F : Fun K "_law_kinds" "_law_kinds" (top 52) fa fd) (T : Txt mg) (mp : List D → Option D) (kk : Nat) (C__law_kinds : FnD P w K mg base "_law_kinds" kk ["_law_found"] mp)  : FnOk P w K mg base CX0 (kk + 1) fa fd ["_law_found"] (spD K (mkF 1 N__law_kinds (GR__law_kinds mp))) :=
  okD (k := kk) (G := GR__law_kinds mp) F sc__law_kinds (fun cdv A outer s H E hr => (pssd_cons (psd_if (ptd_val (pd_isi okT_tuple b_tuple T.b_isinstance T.b_tuple (pd_var 0)))
      (pssd_cons (psd_ret (pd_cmp op_eq op2_eq (pd_len T.b_len (pda_cons (pd_cmpD (sc := defScope (top 52)) (N := ["_law_found"]) (N' := ["_law_thing"]) (n := 1) (caps := []) ⟨rfl, by decide +kernel, by decide +kernel, by decide +kernel, by decide +kernel, rfl, by decide +kernel⟩ (by decide) (pid_tup (pd_var 0)) (fun cl s H ex => pgd_name 0 (by decide +kernel : (["_law_thing"] : List Str).Nodup)) (fun cl s H ex => (pfd_one (ptd_not (ptd_val (pd_fn C__law_kinds hr (Nat.le_refl _) (pda_cons (pd_var 0) pda_nil)))))) (fun cl s H ex => (pd_var 0))) pda_nil)) pd_int))
      pssd_nil)
      pssd_nil)
      (pssd_cons (psd_ret (pd_or (pd_cmp op_isN op2_isN (pd_var 0) pd_non) (pd_or (pd_isi okT_str b_str T.b_isinstance T.b_str (pd_var 0)) (pd_one (pd_and (pd_isi okT_int b_int T.b_isinstance T.b_int (pd_var 0)) (pd_one (pd_not (pd_isi okT_bool b_bool T.b_isinstance T.b_bool (pd_var 0)))))))))
      pssd_nil))) (fun ds d h => mkF_ok h)
theorem sc_law : FnScope ["_law_script", "_law_first", "_law_many", "_law_names_here", "_law_web", "_law_text_here", "_law_found"] ["_law_script"] (defScope (top 53)) := ⟨rfl, rfl, rfl, by decide +kernel, rfl, by decide +kernel, by decide +kernel⟩
set_option maxHeartbeats 0 in
theorem ok_law {fa : Addr} {fd : FuncData} (F : Fun K "law" "law" (top 53) fa fd) (T : Txt mg) (C__law_cell_at : FnD P w K mg base "_law_cell_at" 1 ["_law_script", "_law_k"] m__law_cell_at) (C__law_kinds : FnD P w K mg base "_law_kinds" 8 ["_law_found"] m__law_kinds) (C__law_mixed : FnD P w K mg base "_law_mixed" 2 ["_law_script", "_law_k"] m__law_mixed) (C__law_names : FnD P w K mg base "_law_names" 1 ["_law_x"] m__law_names) (C__law_part : FnD P w K mg base "_law_part" 2 ["_law_x", "_law_many", "_law_names_here"] m__law_part) (C__law_text : FnD P w K mg base "_law_text" 2 ["_law_web"] m__law_text) (C_read : FnD P w K mg base "read" 8 ["text"] m_read) (C_shown : FnD P w K mg base "shown" 4 ["web"] m_shown) : FnOk P w K mg base CX0 9 fa fd ["_law_script"] (spD K m_law) :=
  okD (k := 8) (G := G_law) F sc_law (fun cdv A outer s H E hr => (pssd_cons (psd_asg (pd_mod (pd_fn C__law_cell_at hr (by decide) (pda_cons (pd_var 0) (pda_cons pd_int pda_nil))) pd_int) (pgd_name 1 sc_law.nd))
      (pssd_cons (psd_asg (pd_addA pd_int (pd_mod (pd_var 1) pd_int)) (pgd_name 2 sc_law.nd))
      (pssd_cons (psd_if (ptd_cmp (op_eqX hr.units) op2_eqX (pd_mod (pd_fdiv (pd_var 1) pd_int) pd_int) pd_int)
      (pssd_cons (psd_asg (pd_addA pd_int (pd_mod (pd_fdiv (pd_var 1) pd_int) pd_int)) (pgd_name 2 sc_law.nd))
      pssd_nil)
      pssd_nil)
      (pssd_cons (psd_asg (pd_fn C__law_names hr (by decide) (pda_cons (pd_mod (pd_fn C__law_cell_at hr (by decide) (pda_cons (pd_var 0) (pda_cons pd_int pda_nil))) pd_int) pda_nil)) (pgd_name 3 sc_law.nd))
      (pssd_cons (psd_asg (pd_callTy call_tuple_of fn_tup T.b_tuple b_tuple (pda_cons (pd_cmpD (sc := defScope (top 53)) (N := ["_law_script", "_law_first", "_law_many", "_law_names_here", "_law_web", "_law_text_here", "_law_found"]) (N' := ["_law_k", "_law_script", "_law_many", "_law_names_here"]) (n := 1) (caps := [0, 2, 3]) ⟨rfl, by decide +kernel, by decide +kernel, by decide +kernel, by decide +kernel, rfl, by decide +kernel⟩ (by decide) (pid_range1 T.b_range (pda_cons (pd_var 2) pda_nil)) (fun cl s H ex => pgd_name 0 (by decide +kernel : (["_law_k", "_law_script", "_law_many", "_law_names_here"] : List Str).Nodup)) (fun cl s H ex => pfd_nil) (fun cl s H ex => (pd_fn C__law_part hr (by decide) (pda_cons (pd_fn C__law_mixed hr (by decide) (pda_cons (pd_var 1) (pda_cons (pd_var 0) pda_nil))) (pda_cons (pd_var 2) (pda_cons (pd_var 3) pda_nil)))))) pda_nil)) (pgd_name 4 sc_law.nd))
      (pssd_cons (psd_if (ptd_cmp (op_eqX hr.units) op2_eqX (pd_mod (pd_var 1) pd_int) pd_int)
      (pssd_cons (psd_asg (pd_addA (pd_sliceA (pd_var 4) pdo_none (pdo_some (pd_neg pd_int))) (pd_tup (pda_cons (pd_tup (pda_cons pd_str (pda_cons (pd_tup (pda_cons (pd_sub (pd_pow pd_int pd_int) pd_int) (pda_cons (pd_sub pd_int (pd_pow pd_int pd_int)) (pda_cons (pd_tup (pda_cons pd_str (pda_cons pd_int pda_nil))) pda_nil)))) pda_nil))) pda_nil))) (pgd_name 4 sc_law.nd))
      pssd_nil)
      pssd_nil)
      (pssd_cons (psd_asg (pd_fn C__law_text hr (by decide) (pda_cons (pd_var 4) pda_nil)) (pgd_name 5 sc_law.nd))
      (pssd_cons (psd_if (PWD.pt (pwd_or (ptd_cmp (op_neX hr.units) op2_neX (pd_fn C_shown hr (by decide) (pda_cons (pd_var 4) pda_nil)) (pd_var 5)) (pwd_or1 (ptd_cmp (op_neX hr.units) op2_neX (pd_fn C_shown hr (by decide) (pda_cons (pd_var 4) pda_nil)) (pd_var 5)))))
      (pssd_cons (psd_ret pd_bl)
      pssd_nil)
      pssd_nil)
      (pssd_cons (psd_asg (pd_fn C_read hr (by decide) (pda_cons (pd_var 5) pda_nil)) (pgd_name 6 sc_law.nd))
      (pssd_cons (psd_ret (pd_and (pd_isi okT_tuple b_tuple T.b_isinstance T.b_tuple (pd_var 6)) (pd_and (pd_cmp (op_eqX hr.units) op2_eqX (pd_var 6) (pd_var 4)) (pd_and (pd_fn C__law_kinds hr (by decide) (pda_cons (pd_var 6) pda_nil)) (pd_one (pd_cmp (op_eqX hr.units) op2_eqX (pd_fn C_shown hr (by decide) (pda_cons (pd_var 6) pda_nil)) (pd_var 5)))))))
      pssd_nil))))))))))) (fun ds d h => mkF_ok h)
end
set_option maxHeartbeats 0 in
theorem all_mk {l : PySem.W.OpenLaw} {w : World} {K : PySem.W.Frag} {h : Heap} {mg : Str → Option Value} {fa : Addr} (X : K.In h) (G : h.Ns mainGlobals mg) (hfa : mg "law" = some (.ref fa))
    {f0 f1 f2 f3 f4 f5 f6 f7 f8 f9 f10 f11 f12 f13 f14 f15 f16 f17 f18 f19 f20 f21 f22 f23 f24 f25 f26 f27 f28 f29 f30 f31 f32 f33 f34 f35 f36 f37 f38 : Addr}
    {od0 an0 od1 an1 od2 an2 od3 an3 od4 an4 od5 an5 od6 an6 od7 an7 od8 an8 od9 an9 od10 an10 od11 an11 od12 an12 od13 an13 od14 an14 od15 an15 od16 an16 od17 an17 od18 an18 od19 an19 od20 an20 od21 an21 od22 an22 od23 an23 od24 an24 od25 an25 od26 an26 od27 an27 od28 an28 od29 an29 od30 an30 od31 an31 od32 an32 od33 an33 od34 an34 od35 an35 od36 an36 od37 an37 od38 an38 : Option Addr} {sl0 sl1 sl2 sl3 sl4 sl5 sl6 sl7 sl8 sl9 sl10 sl11 sl12 sl13 sl14 sl15 sl16 sl17 sl18 sl19 sl20 sl21 sl22 sl23 sl24 sl25 sl26 sl27 sl28 sl29 sl30 sl31 sl32 sl33 sl34 sl35 sl36 sl37 sl38 : Array (Option Value)} {oc0 kV0 dc0 pm0 cd0 ct0 oc1 kV1 dc1 pm1 cd1 ct1 oc2 kV2 dc2 pm2 cd2 ct2 oc3 kV3 dc3 pm3 cd3 ct3 oc4 kV4 dc4 pm4 cd4 ct4 oc5 kV5 dc5 pm5 cd5 ct5 oc6 kV6 dc6 pm6 cd6 ct6 oc7 kV7 dc7 pm7 cd7 ct7 oc8 kV8 dc8 pm8 cd8 ct8 oc9 kV9 dc9 pm9 cd9 ct9 oc10 kV10 dc10 pm10 cd10 ct10 oc11 kV11 dc11 pm11 cd11 ct11 oc12 kV12 dc12 pm12 cd12 ct12 oc13 kV13 dc13 pm13 cd13 ct13 oc14 kV14 dc14 pm14 cd14 ct14 oc15 kV15 dc15 pm15 cd15 ct15 oc16 kV16 dc16 pm16 cd16 ct16 oc17 kV17 dc17 pm17 cd17 ct17 oc18 kV18 dc18 pm18 cd18 ct18 oc19 kV19 dc19 pm19 cd19 ct19 oc20 kV20 dc20 pm20 cd20 ct20 oc21 kV21 dc21 pm21 cd21 ct21 oc22 kV22 dc22 pm22 cd22 ct22 oc23 kV23 dc23 pm23 cd23 ct23 oc24 kV24 dc24 pm24 cd24 ct24 oc25 kV25 dc25 pm25 cd25 ct25 oc26 kV26 dc26 pm26 cd26 ct26 oc27 kV27 dc27 pm27 cd27 ct27 oc28 kV28 dc28 pm28 cd28 ct28 oc29 kV29 dc29 pm29 cd29 ct29 oc30 kV30 dc30 pm30 cd30 ct30 oc31 kV31 dc31 pm31 cd31 ct31 oc32 kV32 dc32 pm32 cd32 ct32 oc33 kV33 dc33 pm33 cd33 ct33 oc34 kV34 dc34 pm34 cd34 ct34 oc35 kV35 dc35 pm35 cd35 ct35 oc36 kV36 dc36 pm36 cd36 ct36 oc37 kV37 dc37 pm37 cd37 ct37 oc38 kV38 dc38 pm38 cd38 ct38 : Value}
    {t_FIGURES t_MOST_FIGURES t_MOST_NAMES t_MOST_NAME_SIGNS t_MOST_PARTS t_MOST_VALUES t_MOST_WORD_SIGNS t_NAME_SIGNS t_WORD_SIGNS : Tok}
    (a0 : PySem.W.nsIn K mainGlobals "is_whole" = some (some (.ref f0))) (l0 : K.lookup f0 = some ⟨oc0, od0, .func (PySem.W.fnOf "is_whole" "is_whole" (defArgs (top 11)) (defBody (top 11)) (defScope (top 11)) .none kV0 dc0 pm0 an0 cd0 ct0), sl0⟩) (c0 : PySem.W.codeIn K cd0 "is_whole" = true) (k0 : PySem.W.keepIn K (.ref f0) = true)
    (a1 : PySem.W.nsIn K mainGlobals "is_spelled" = some (some (.ref f1))) (l1 : K.lookup f1 = some ⟨oc1, od1, .func (PySem.W.fnOf "is_spelled" "is_spelled" (defArgs (top 12)) (defBody (top 12)) (defScope (top 12)) .none kV1 dc1 pm1 an1 cd1 ct1), sl1⟩) (c1 : PySem.W.codeIn K cd1 "is_spelled" = true) (k1 : PySem.W.keepIn K (.ref f1) = true)
    (a2 : PySem.W.nsIn K mainGlobals "is_name" = some (some (.ref f2))) (l2 : K.lookup f2 = some ⟨oc2, od2, .func (PySem.W.fnOf "is_name" "is_name" (defArgs (top 13)) (defBody (top 13)) (defScope (top 13)) .none kV2 dc2 pm2 an2 cd2 ct2), sl2⟩) (c2 : PySem.W.codeIn K cd2 "is_name" = true) (k2 : PySem.W.keepIn K (.ref f2) = true)
    (a3 : PySem.W.nsIn K mainGlobals "is_word" = some (some (.ref f3))) (l3 : K.lookup f3 = some ⟨oc3, od3, .func (PySem.W.fnOf "is_word" "is_word" (defArgs (top 14)) (defBody (top 14)) (defScope (top 14)) .none kV3 dc3 pm3 an3 cd3 ct3), sl3⟩) (c3 : PySem.W.codeIn K cd3 "is_word" = true) (k3 : PySem.W.keepIn K (.ref f3) = true)
    (a4 : PySem.W.nsIn K mainGlobals "is_marked" = some (some (.ref f4))) (l4 : K.lookup f4 = some ⟨oc4, od4, .func (PySem.W.fnOf "is_marked" "is_marked" (defArgs (top 15)) (defBody (top 15)) (defScope (top 15)) .none kV4 dc4 pm4 an4 cd4 ct4), sl4⟩) (c4 : PySem.W.codeIn K cd4 "is_marked" = true) (k4 : PySem.W.keepIn K (.ref f4) = true)
    (a5 : PySem.W.nsIn K mainGlobals "is_link" = some (some (.ref f5))) (l5 : K.lookup f5 = some ⟨oc5, od5, .func (PySem.W.fnOf "is_link" "is_link" (defArgs (top 16)) (defBody (top 16)) (defScope (top 16)) .none kV5 dc5 pm5 an5 cd5 ct5), sl5⟩) (c5 : PySem.W.codeIn K cd5 "is_link" = true) (k5 : PySem.W.keepIn K (.ref f5) = true)
    (a6 : PySem.W.nsIn K mainGlobals "is_value" = some (some (.ref f6))) (l6 : K.lookup f6 = some ⟨oc6, od6, .func (PySem.W.fnOf "is_value" "is_value" (defArgs (top 17)) (defBody (top 17)) (defScope (top 17)) .none kV6 dc6 pm6 an6 cd6 ct6), sl6⟩) (c6 : PySem.W.codeIn K cd6 "is_value" = true) (k6 : PySem.W.keepIn K (.ref f6) = true)
    (a7 : PySem.W.nsIn K mainGlobals "is_tuple" = some (some (.ref f7))) (l7 : K.lookup f7 = some ⟨oc7, od7, .func (PySem.W.fnOf "is_tuple" "is_tuple" (defArgs (top 18)) (defBody (top 18)) (defScope (top 18)) .none kV7 dc7 pm7 an7 cd7 ct7), sl7⟩) (c7 : PySem.W.codeIn K cd7 "is_tuple" = true) (k7 : PySem.W.keepIn K (.ref f7) = true)
    (a8 : PySem.W.nsIn K mainGlobals "is_values" = some (some (.ref f8))) (l8 : K.lookup f8 = some ⟨oc8, od8, .func (PySem.W.fnOf "is_values" "is_values" (defArgs (top 19)) (defBody (top 19)) (defScope (top 19)) .none kV8 dc8 pm8 an8 cd8 ct8), sl8⟩) (c8 : PySem.W.codeIn K cd8 "is_values" = true) (k8 : PySem.W.keepIn K (.ref f8) = true)
    (a9 : PySem.W.nsIn K mainGlobals "is_pair" = some (some (.ref f9))) (l9 : K.lookup f9 = some ⟨oc9, od9, .func (PySem.W.fnOf "is_pair" "is_pair" (defArgs (top 20)) (defBody (top 20)) (defScope (top 20)) .none kV9 dc9 pm9 an9 cd9 ct9), sl9⟩) (c9 : PySem.W.codeIn K cd9 "is_pair" = true) (k9 : PySem.W.keepIn K (.ref f9) = true)
    (a10 : PySem.W.nsIn K mainGlobals "is_pairs" = some (some (.ref f10))) (l10 : K.lookup f10 = some ⟨oc10, od10, .func (PySem.W.fnOf "is_pairs" "is_pairs" (defArgs (top 21)) (defBody (top 21)) (defScope (top 21)) .none kV10 dc10 pm10 an10 cd10 ct10), sl10⟩) (c10 : PySem.W.codeIn K cd10 "is_pairs" = true) (k10 : PySem.W.keepIn K (.ref f10) = true)
    (a11 : PySem.W.nsIn K mainGlobals "is_part" = some (some (.ref f11))) (l11 : K.lookup f11 = some ⟨oc11, od11, .func (PySem.W.fnOf "is_part" "is_part" (defArgs (top 22)) (defBody (top 22)) (defScope (top 22)) .none kV11 dc11 pm11 an11 cd11 ct11), sl11⟩) (c11 : PySem.W.codeIn K cd11 "is_part" = true) (k11 : PySem.W.keepIn K (.ref f11) = true)
    (a12 : PySem.W.nsIn K mainGlobals "is_web" = some (some (.ref f12))) (l12 : K.lookup f12 = some ⟨oc12, od12, .func (PySem.W.fnOf "is_web" "is_web" (defArgs (top 23)) (defBody (top 23)) (defScope (top 23)) .none kV12 dc12 pm12 an12 cd12 ct12), sl12⟩) (c12 : PySem.W.codeIn K cd12 "is_web" = true) (k12 : PySem.W.keepIn K (.ref f12) = true)
    (a13 : PySem.W.nsIn K mainGlobals "links_lead" = some (some (.ref f13))) (l13 : K.lookup f13 = some ⟨oc13, od13, .func (PySem.W.fnOf "links_lead" "links_lead" (defArgs (top 24)) (defBody (top 24)) (defScope (top 24)) .none kV13 dc13 pm13 an13 cd13 ct13), sl13⟩) (c13 : PySem.W.codeIn K cd13 "links_lead" = true) (k13 : PySem.W.keepIn K (.ref f13) = true)
    (a14 : PySem.W.nsIn K mainGlobals "pair_names" = some (some (.ref f14))) (l14 : K.lookup f14 = some ⟨oc14, od14, .func (PySem.W.fnOf "pair_names" "pair_names" (defArgs (top 25)) (defBody (top 25)) (defScope (top 25)) .none kV14 dc14 pm14 an14 cd14 ct14), sl14⟩) (c14 : PySem.W.codeIn K cd14 "pair_names" = true) (k14 : PySem.W.keepIn K (.ref f14) = true)
    (a15 : PySem.W.nsIn K mainGlobals "count_names" = some (some (.ref f15))) (l15 : K.lookup f15 = some ⟨oc15, od15, .func (PySem.W.fnOf "count_names" "count_names" (defArgs (top 26)) (defBody (top 26)) (defScope (top 26)) .none kV15 dc15 pm15 an15 cd15 ct15), sl15⟩) (c15 : PySem.W.codeIn K cd15 "count_names" = true) (k15 : PySem.W.keepIn K (.ref f15) = true)
    (a16 : PySem.W.nsIn K mainGlobals "values" = some (some (.ref f16))) (l16 : K.lookup f16 = some ⟨oc16, od16, .func (PySem.W.fnOf "values" "values" (defArgs (top 27)) (defBody (top 27)) (defScope (top 27)) .none kV16 dc16 pm16 an16 cd16 ct16), sl16⟩) (c16 : PySem.W.codeIn K cd16 "values" = true) (k16 : PySem.W.keepIn K (.ref f16) = true)
    (a17 : PySem.W.nsIn K mainGlobals "links" = some (some (.ref f17))) (l17 : K.lookup f17 = some ⟨oc17, od17, .func (PySem.W.fnOf "links" "links" (defArgs (top 28)) (defBody (top 28)) (defScope (top 28)) .none kV17 dc17 pm17 an17 cd17 ct17), sl17⟩) (c17 : PySem.W.codeIn K cd17 "links" = true) (k17 : PySem.W.keepIn K (.ref f17) = true)
    (a18 : PySem.W.nsIn K mainGlobals "shown" = some (some (.ref f18))) (l18 : K.lookup f18 = some ⟨oc18, od18, .func (PySem.W.fnOf "shown" "shown" (defArgs (top 32)) (defBody (top 32)) (defScope (top 32)) .none kV18 dc18 pm18 an18 cd18 ct18), sl18⟩) (c18 : PySem.W.codeIn K cd18 "shown" = true) (k18 : PySem.W.keepIn K (.ref f18) = true)
    (a19 : PySem.W.nsIn K mainGlobals "shown_part" = some (some (.ref f19))) (l19 : K.lookup f19 = some ⟨oc19, od19, .func (PySem.W.fnOf "shown_part" "shown_part" (defArgs (top 33)) (defBody (top 33)) (defScope (top 33)) .none kV19 dc19 pm19 an19 cd19 ct19), sl19⟩) (c19 : PySem.W.codeIn K cd19 "shown_part" = true) (k19 : PySem.W.keepIn K (.ref f19) = true)
    (a20 : PySem.W.nsIn K mainGlobals "shown_pairs" = some (some (.ref f20))) (l20 : K.lookup f20 = some ⟨oc20, od20, .func (PySem.W.fnOf "shown_pairs" "shown_pairs" (defArgs (top 34)) (defBody (top 34)) (defScope (top 34)) .none kV20 dc20 pm20 an20 cd20 ct20), sl20⟩) (c20 : PySem.W.codeIn K cd20 "shown_pairs" = true) (k20 : PySem.W.keepIn K (.ref f20) = true)
    (a21 : PySem.W.nsIn K mainGlobals "shown_value" = some (some (.ref f21))) (l21 : K.lookup f21 = some ⟨oc21, od21, .func (PySem.W.fnOf "shown_value" "shown_value" (defArgs (top 35)) (defBody (top 35)) (defScope (top 35)) .none kV21 dc21 pm21 an21 cd21 ct21), sl21⟩) (c21 : PySem.W.codeIn K cd21 "shown_value" = true) (k21 : PySem.W.keepIn K (.ref f21) = true)
    (a22 : PySem.W.nsIn K mainGlobals "read" = some (some (.ref f22))) (l22 : K.lookup f22 = some ⟨oc22, od22, .func (PySem.W.fnOf "read" "read" (defArgs (top 36)) (defBody (top 36)) (defScope (top 36)) .none kV22 dc22 pm22 an22 cd22 ct22), sl22⟩) (c22 : PySem.W.codeIn K cd22 "read" = true) (k22 : PySem.W.keepIn K (.ref f22) = true)
    (a23 : PySem.W.nsIn K mainGlobals "read_part" = some (some (.ref f23))) (l23 : K.lookup f23 = some ⟨oc23, od23, .func (PySem.W.fnOf "read_part" "read_part" (defArgs (top 37)) (defBody (top 37)) (defScope (top 37)) .none kV23 dc23 pm23 an23 cd23 ct23), sl23⟩) (c23 : PySem.W.codeIn K cd23 "read_part" = true) (k23 : PySem.W.keepIn K (.ref f23) = true)
    (a24 : PySem.W.nsIn K mainGlobals "read_paired" = some (some (.ref f24))) (l24 : K.lookup f24 = some ⟨oc24, od24, .func (PySem.W.fnOf "read_paired" "read_paired" (defArgs (top 38)) (defBody (top 38)) (defScope (top 38)) .none kV24 dc24 pm24 an24 cd24 ct24), sl24⟩) (c24 : PySem.W.codeIn K cd24 "read_paired" = true) (k24 : PySem.W.keepIn K (.ref f24) = true)
    (a25 : PySem.W.nsIn K mainGlobals "parted_items" = some (some (.ref f25))) (l25 : K.lookup f25 = some ⟨oc25, od25, .func (PySem.W.fnOf "parted_items" "parted_items" (defArgs (top 39)) (defBody (top 39)) (defScope (top 39)) .none kV25 dc25 pm25 an25 cd25 ct25), sl25⟩) (c25 : PySem.W.codeIn K cd25 "parted_items" = true) (k25 : PySem.W.keepIn K (.ref f25) = true)
    (a26 : PySem.W.nsIn K mainGlobals "read_pair" = some (some (.ref f26))) (l26 : K.lookup f26 = some ⟨oc26, od26, .func (PySem.W.fnOf "read_pair" "read_pair" (defArgs (top 40)) (defBody (top 40)) (defScope (top 40)) .none kV26 dc26 pm26 an26 cd26 ct26), sl26⟩) (c26 : PySem.W.codeIn K cd26 "read_pair" = true) (k26 : PySem.W.keepIn K (.ref f26) = true)
    (a27 : PySem.W.nsIn K mainGlobals "read_value" = some (some (.ref f27))) (l27 : K.lookup f27 = some ⟨oc27, od27, .func (PySem.W.fnOf "read_value" "read_value" (defArgs (top 41)) (defBody (top 41)) (defScope (top 41)) .none kV27 dc27 pm27 an27 cd27 ct27), sl27⟩) (c27 : PySem.W.codeIn K cd27 "read_value" = true) (k27 : PySem.W.keepIn K (.ref f27) = true)
    (a28 : PySem.W.nsIn K mainGlobals "read_count" = some (some (.ref f28))) (l28 : K.lookup f28 = some ⟨oc28, od28, .func (PySem.W.fnOf "read_count" "read_count" (defArgs (top 42)) (defBody (top 42)) (defScope (top 42)) .none kV28 dc28 pm28 an28 cd28 ct28), sl28⟩) (c28 : PySem.W.codeIn K cd28 "read_count" = true) (k28 : PySem.W.keepIn K (.ref f28) = true)
    (a29 : PySem.W.nsIn K mainGlobals "is_count_text" = some (some (.ref f29))) (l29 : K.lookup f29 = some ⟨oc29, od29, .func (PySem.W.fnOf "is_count_text" "is_count_text" (defArgs (top 43)) (defBody (top 43)) (defScope (top 43)) .none kV29 dc29 pm29 an29 cd29 ct29), sl29⟩) (c29 : PySem.W.codeIn K cd29 "is_count_text" = true) (k29 : PySem.W.keepIn K (.ref f29) = true)
    (a30 : PySem.W.nsIn K mainGlobals "_law_cell_at" = some (some (.ref f30))) (l30 : K.lookup f30 = some ⟨oc30, od30, .func (PySem.W.fnOf "_law_cell_at" "_law_cell_at" (defArgs (top 45)) (defBody (top 45)) (defScope (top 45)) .none kV30 dc30 pm30 an30 cd30 ct30), sl30⟩) (c30 : PySem.W.codeIn K cd30 "_law_cell_at" = true) (k30 : PySem.W.keepIn K (.ref f30) = true)
    (a31 : PySem.W.nsIn K mainGlobals "_law_mixed" = some (some (.ref f31))) (l31 : K.lookup f31 = some ⟨oc31, od31, .func (PySem.W.fnOf "_law_mixed" "_law_mixed" (defArgs (top 46)) (defBody (top 46)) (defScope (top 46)) .none kV31 dc31 pm31 an31 cd31 ct31), sl31⟩) (c31 : PySem.W.codeIn K cd31 "_law_mixed" = true) (k31 : PySem.W.keepIn K (.ref f31) = true)
    (a32 : PySem.W.nsIn K mainGlobals "_law_names" = some (some (.ref f32))) (l32 : K.lookup f32 = some ⟨oc32, od32, .func (PySem.W.fnOf "_law_names" "_law_names" (defArgs (top 47)) (defBody (top 47)) (defScope (top 47)) .none kV32 dc32 pm32 an32 cd32 ct32), sl32⟩) (c32 : PySem.W.codeIn K cd32 "_law_names" = true) (k32 : PySem.W.keepIn K (.ref f32) = true)
    (a33 : PySem.W.nsIn K mainGlobals "_law_value" = some (some (.ref f33))) (l33 : K.lookup f33 = some ⟨oc33, od33, .func (PySem.W.fnOf "_law_value" "_law_value" (defArgs (top 48)) (defBody (top 48)) (defScope (top 48)) .none kV33 dc33 pm33 an33 cd33 ct33), sl33⟩) (c33 : PySem.W.codeIn K cd33 "_law_value" = true) (k33 : PySem.W.keepIn K (.ref f33) = true)
    (a34 : PySem.W.nsIn K mainGlobals "_law_part" = some (some (.ref f34))) (l34 : K.lookup f34 = some ⟨oc34, od34, .func (PySem.W.fnOf "_law_part" "_law_part" (defArgs (top 49)) (defBody (top 49)) (defScope (top 49)) .none kV34 dc34 pm34 an34 cd34 ct34), sl34⟩) (c34 : PySem.W.codeIn K cd34 "_law_part" = true) (k34 : PySem.W.keepIn K (.ref f34) = true)
    (a35 : PySem.W.nsIn K mainGlobals "_law_value_text" = some (some (.ref f35))) (l35 : K.lookup f35 = some ⟨oc35, od35, .func (PySem.W.fnOf "_law_value_text" "_law_value_text" (defArgs (top 50)) (defBody (top 50)) (defScope (top 50)) .none kV35 dc35 pm35 an35 cd35 ct35), sl35⟩) (c35 : PySem.W.codeIn K cd35 "_law_value_text" = true) (k35 : PySem.W.keepIn K (.ref f35) = true)
    (a36 : PySem.W.nsIn K mainGlobals "_law_text" = some (some (.ref f36))) (l36 : K.lookup f36 = some ⟨oc36, od36, .func (PySem.W.fnOf "_law_text" "_law_text" (defArgs (top 51)) (defBody (top 51)) (defScope (top 51)) .none kV36 dc36 pm36 an36 cd36 ct36), sl36⟩) (c36 : PySem.W.codeIn K cd36 "_law_text" = true) (k36 : PySem.W.keepIn K (.ref f36) = true)
    (a37 : PySem.W.nsIn K mainGlobals "_law_kinds" = some (some (.ref f37))) (l37 : K.lookup f37 = some ⟨oc37, od37, .func (PySem.W.fnOf "_law_kinds" "_law_kinds" (defArgs (top 52)) (defBody (top 52)) (defScope (top 52)) .none kV37 dc37 pm37 an37 cd37 ct37), sl37⟩) (c37 : PySem.W.codeIn K cd37 "_law_kinds" = true) (k37 : PySem.W.keepIn K (.ref f37) = true)
    (a38 : PySem.W.nsIn K mainGlobals "law" = some (some (.ref f38))) (l38 : K.lookup f38 = some ⟨oc38, od38, .func (PySem.W.fnOf "law" "law" (defArgs (top 53)) (defBody (top 53)) (defScope (top 53)) .none kV38 dc38 pm38 an38 cd38 ct38), sl38⟩) (c38 : PySem.W.codeIn K cd38 "law" = true) (k38 : PySem.W.keepIn K (.ref f38) = true)
    (z_all : PySem.W.nsIn K mainGlobals "all" = some none)
    (z_bool : PySem.W.nsIn K mainGlobals "bool" = some none)
    (z_int : PySem.W.nsIn K mainGlobals "int" = some none)
    (z_isinstance : PySem.W.nsIn K mainGlobals "isinstance" = some none)
    (z_len : PySem.W.nsIn K mainGlobals "len" = some none)
    (z_list : PySem.W.nsIn K mainGlobals "list" = some none)
    (z_range : PySem.W.nsIn K mainGlobals "range" = some none)
    (z_set : PySem.W.nsIn K mainGlobals "set" = some none)
    (z_str : PySem.W.nsIn K mainGlobals "str" = some none)
    (z_tuple : PySem.W.nsIn K mainGlobals "tuple" = some none)
    (y_FIGURES : PySem.W.nsIn K mainGlobals "FIGURES" = some (some (.str "0123456789" t_FIGURES)))
    (y_MOST_FIGURES : PySem.W.nsIn K mainGlobals "MOST_FIGURES" = some (some (.int 60 t_MOST_FIGURES)))
    (y_MOST_NAMES : PySem.W.nsIn K mainGlobals "MOST_NAMES" = some (some (.int 60 t_MOST_NAMES)))
    (y_MOST_NAME_SIGNS : PySem.W.nsIn K mainGlobals "MOST_NAME_SIGNS" = some (some (.int 8 t_MOST_NAME_SIGNS)))
    (y_MOST_PARTS : PySem.W.nsIn K mainGlobals "MOST_PARTS" = some (some (.int 60 t_MOST_PARTS)))
    (y_MOST_VALUES : PySem.W.nsIn K mainGlobals "MOST_VALUES" = some (some (.int 12 t_MOST_VALUES)))
    (y_MOST_WORD_SIGNS : PySem.W.nsIn K mainGlobals "MOST_WORD_SIGNS" = some (some (.int 20 t_MOST_WORD_SIGNS)))
    (y_NAME_SIGNS : PySem.W.nsIn K mainGlobals "NAME_SIGNS" = some (some (.str "0123456789abcdefghijklmnopqrstuvwxyz" t_NAME_SIGNS)))
    (y_WORD_SIGNS : PySem.W.nsIn K mainGlobals "WORD_SIGNS" = some (some (.str " 0123456789abcdefghijklmnopqrstuvwxyz" t_WORD_SIGNS)))
    : ∃ fd : FuncData, (∀ (s : Shared) (v : Value), BindsTo s fd ⟨[v], []⟩ [("_law_script", v)]) ∧ ∀ base : Heap, K.In base → base.Ns mainGlobals mg → FnOk l.prog w K mg base CX0 9 fa fd ["_law_script"] (spD K m_law) := by
  have e := hfa.symm.trans (PySem.W.mg_of X G a38)
  cases e
  have T : Txt mg := ⟨PySem.W.mg_none_of X G z_all, PySem.W.mg_none_of X G z_bool, PySem.W.mg_none_of X G z_int, PySem.W.mg_none_of X G z_isinstance, PySem.W.mg_none_of X G z_len, PySem.W.mg_none_of X G z_list, PySem.W.mg_none_of X G z_range, PySem.W.mg_none_of X G z_set, PySem.W.mg_none_of X G z_str, PySem.W.mg_none_of X G z_tuple, ⟨_, PySem.W.mg_of X G y_FIGURES⟩, ⟨_, PySem.W.mg_of X G y_MOST_FIGURES⟩, ⟨_, PySem.W.mg_of X G y_MOST_NAMES⟩, ⟨_, PySem.W.mg_of X G y_MOST_NAME_SIGNS⟩, ⟨_, PySem.W.mg_of X G y_MOST_PARTS⟩, ⟨_, PySem.W.mg_of X G y_MOST_VALUES⟩, ⟨_, PySem.W.mg_of X G y_MOST_WORD_SIGNS⟩, ⟨_, PySem.W.mg_of X G y_NAME_SIGNS⟩, ⟨_, PySem.W.mg_of X G y_WORD_SIGNS⟩⟩
  have F0 := fun_mk (st := top 11) l0 c0 k0
  have F1 := fun_mk (st := top 12) l1 c1 k1
  have F2 := fun_mk (st := top 13) l2 c2 k2
  have F3 := fun_mk (st := top 14) l3 c3 k3
  have F4 := fun_mk (st := top 15) l4 c4 k4
  have F5 := fun_mk (st := top 16) l5 c5 k5
  have F6 := fun_mk (st := top 17) l6 c6 k6
  have F7 := fun_mk (st := top 18) l7 c7 k7
  have F8 := fun_mk (st := top 19) l8 c8 k8
  have F9 := fun_mk (st := top 20) l9 c9 k9
  have F10 := fun_mk (st := top 21) l10 c10 k10
  have F11 := fun_mk (st := top 22) l11 c11 k11
  have F12 := fun_mk (st := top 23) l12 c12 k12
  have F13 := fun_mk (st := top 24) l13 c13 k13
  have F14 := fun_mk (st := top 25) l14 c14 k14
  have F15 := fun_mk (st := top 26) l15 c15 k15
  have F16 := fun_mk (st := top 27) l16 c16 k16
  have F17 := fun_mk (st := top 28) l17 c17 k17
  have F18 := fun_mk (st := top 32) l18 c18 k18
  have F19 := fun_mk (st := top 33) l19 c19 k19
  have F20 := fun_mk (st := top 34) l20 c20 k20
  have F21 := fun_mk (st := top 35) l21 c21 k21
  have F22 := fun_mk (st := top 36) l22 c22 k22
  have F23 := fun_mk (st := top 37) l23 c23 k23
  have F24 := fun_mk (st := top 38) l24 c24 k24
  have F25 := fun_mk (st := top 39) l25 c25 k25
  have F26 := fun_mk (st := top 40) l26 c26 k26
  have F27 := fun_mk (st := top 41) l27 c27 k27
  have F28 := fun_mk (st := top 42) l28 c28 k28
  have F29 := fun_mk (st := top 43) l29 c29 k29
  have F30 := fun_mk (st := top 45) l30 c30 k30
  have F31 := fun_mk (st := top 46) l31 c31 k31
  have F32 := fun_mk (st := top 47) l32 c32 k32
  have F33 := fun_mk (st := top 48) l33 c33 k33
  have F34 := fun_mk (st := top 49) l34 c34 k34
  have F35 := fun_mk (st := top 50) l35 c35 k35
  have F36 := fun_mk (st := top 51) l36 c36 k36
  have F37 := fun_mk (st := top 52) l37 c37 k37
  have F38 := fun_mk (st := top 53) l38 c38 k38
  refine ⟨PySem.W.fnOf "law" "law" (defArgs (top 53)) (defBody (top 53)) (defScope (top 53)) .none kV38 dc38 pm38 an38 cd38 ct38, fun s v => .of_eq rfl, fun base _ _ => ?_⟩
  have C_is_whole : FnD l.prog w K mg base "is_whole" 1 ["thing"] m_is_whole := ⟨f0, _, ok_is_whole F0 T , PySem.W.mg_of X G a0, k0, F0.binds (ps := ["thing"]) fun _ _ _ _ _ _ us hl => match us, hl with | [_], _ => rfl⟩
  have C_is_spelled : FnD l.prog w K mg base "is_spelled" 1 ["thing", "signs", "most"] m_is_spelled := ⟨f1, _, ok_is_spelled F1 T , PySem.W.mg_of X G a1, k1, F1.binds (ps := ["thing", "signs", "most"]) fun _ _ _ _ _ _ us hl => match us, hl with | [_, _, _], _ => rfl⟩
  have C_is_marked : FnD l.prog w K mg base "is_marked" 1 ["thing", "mark", "count"] m_is_marked := ⟨f4, _, ok_is_marked F4 T , PySem.W.mg_of X G a4, k4, F4.binds (ps := ["thing", "mark", "count"]) fun _ _ _ _ _ _ us hl => match us, hl with | [_, _, _], _ => rfl⟩
  have C_is_tuple : FnD l.prog w K mg base "is_tuple" 1 ["thing", "most"] m_is_tuple := ⟨f7, _, ok_is_tuple F7 T , PySem.W.mg_of X G a7, k7, F7.binds (ps := ["thing", "most"]) fun _ _ _ _ _ _ us hl => match us, hl with | [_, _], _ => rfl⟩
  have C_pair_names : FnD l.prog w K mg base "pair_names" 1 ["part"] m_pair_names := ⟨f14, _, ok_pair_names F14 T , PySem.W.mg_of X G a14, k14, F14.binds (ps := ["part"]) fun _ _ _ _ _ _ us hl => match us, hl with | [_], _ => rfl⟩
  have C_values : FnD l.prog w K mg base "values" 1 ["part"] m_values := ⟨f16, _, ok_values F16 T , PySem.W.mg_of X G a16, k16, F16.binds (ps := ["part"]) fun _ _ _ _ _ _ us hl => match us, hl with | [_], _ => rfl⟩
  have C_shown_value : FnD l.prog w K mg base "shown_value" 1 ["value"] m_shown_value := ⟨f21, _, ok_shown_value F21 T , PySem.W.mg_of X G a21, k21, F21.binds (ps := ["value"]) fun _ _ _ _ _ _ us hl => match us, hl with | [_], _ => rfl⟩
  have C_parted_items : FnD l.prog w K mg base "parted_items" 1 ["inner"] m_parted_items := ⟨f25, _, ok_parted_items F25 T , PySem.W.mg_of X G a25, k25, F25.binds (ps := ["inner"]) fun _ _ _ _ _ _ us hl => match us, hl with | [_], _ => rfl⟩
  have C_is_count_text : FnD l.prog w K mg base "is_count_text" 1 ["text"] m_is_count_text := ⟨f29, _, ok_is_count_text F29 T , PySem.W.mg_of X G a29, k29, F29.binds (ps := ["text"]) fun _ _ _ _ _ _ us hl => match us, hl with | [_], _ => rfl⟩
  have C__law_cell_at : FnD l.prog w K mg base "_law_cell_at" 1 ["_law_script", "_law_k"] m__law_cell_at := ⟨f30, _, ok__law_cell_at F30 T , PySem.W.mg_of X G a30, k30, F30.binds (ps := ["_law_script", "_law_k"]) fun _ _ _ _ _ _ us hl => match us, hl with | [_, _], _ => rfl⟩
  have C__law_names : FnD l.prog w K mg base "_law_names" 1 ["_law_x"] m__law_names := ⟨f32, _, ok__law_names F32 T , PySem.W.mg_of X G a32, k32, F32.binds (ps := ["_law_x"]) fun _ _ _ _ _ _ us hl => match us, hl with | [_], _ => rfl⟩
  have C__law_value : FnD l.prog w K mg base "_law_value" 1 ["_law_x", "_law_many"] m__law_value := ⟨f33, _, ok__law_value F33 T , PySem.W.mg_of X G a33, k33, F33.binds (ps := ["_law_x", "_law_many"]) fun _ _ _ _ _ _ us hl => match us, hl with | [_, _], _ => rfl⟩
  have C__law_value_text : FnD l.prog w K mg base "_law_value_text" 1 ["_law_value_here"] m__law_value_text := ⟨f35, _, ok__law_value_text F35 T , PySem.W.mg_of X G a35, k35, F35.binds (ps := ["_law_value_here"]) fun _ _ _ _ _ _ us hl => match us, hl with | [_], _ => rfl⟩
  have C_is_name : FnD l.prog w K mg base "is_name" 2 ["thing"] m_is_name := ⟨f2, _, ok_is_name F2 T C_is_spelled, PySem.W.mg_of X G a2, k2, F2.binds (ps := ["thing"]) fun _ _ _ _ _ _ us hl => match us, hl with | [_], _ => rfl⟩
  have C_is_word : FnD l.prog w K mg base "is_word" 2 ["thing"] m_is_word := ⟨f3, _, ok_is_word F3 T C_is_spelled, PySem.W.mg_of X G a3, k3, F3.binds (ps := ["thing"]) fun _ _ _ _ _ _ us hl => match us, hl with | [_], _ => rfl⟩
  have C_is_link : FnD l.prog w K mg base "is_link" 2 ["thing"] m_is_link := ⟨f5, _, ok_is_link F5 T C_is_marked C_is_whole, PySem.W.mg_of X G a5, k5, F5.binds (ps := ["thing"]) fun _ _ _ _ _ _ us hl => match us, hl with | [_], _ => rfl⟩
  have C_count_names : FnD l.prog w K mg base "count_names" 2 ["web"] m_count_names := ⟨f15, _, ok_count_names F15 T C_pair_names, PySem.W.mg_of X G a15, k15, F15.binds (ps := ["web"]) fun _ _ _ _ _ _ us hl => match us, hl with | [_], _ => rfl⟩
  have C_links : FnD l.prog w K mg base "links" 2 ["part"] m_links := ⟨f17, _, ok_links F17 T C_values, PySem.W.mg_of X G a17, k17, F17.binds (ps := ["part"]) fun _ _ _ _ _ _ us hl => match us, hl with | [_], _ => rfl⟩
  have C_shown_pairs : FnD l.prog w K mg base "shown_pairs" 2 ["pairs"] m_shown_pairs := ⟨f20, _, ok_shown_pairs F20 T C_shown_value, PySem.W.mg_of X G a20, k20, F20.binds (ps := ["pairs"]) fun _ _ _ _ _ _ us hl => match us, hl with | [_], _ => rfl⟩
  have C_read_count : FnD l.prog w K mg base "read_count" 2 ["text"] m_read_count := ⟨f28, _, ok_read_count F28 T C_is_count_text, PySem.W.mg_of X G a28, k28, F28.binds (ps := ["text"]) fun _ _ _ _ _ _ us hl => match us, hl with | [_], _ => rfl⟩
  have C__law_mixed : FnD l.prog w K mg base "_law_mixed" 2 ["_law_script", "_law_k"] m__law_mixed := ⟨f31, _, ok__law_mixed F31 T C__law_cell_at, PySem.W.mg_of X G a31, k31, F31.binds (ps := ["_law_script", "_law_k"]) fun _ _ _ _ _ _ us hl => match us, hl with | [_, _], _ => rfl⟩
  have C__law_part : FnD l.prog w K mg base "_law_part" 2 ["_law_x", "_law_many", "_law_names_here"] m__law_part := ⟨f34, _, ok__law_part F34 T C__law_value, PySem.W.mg_of X G a34, k34, F34.binds (ps := ["_law_x", "_law_many", "_law_names_here"]) fun _ _ _ _ _ _ us hl => match us, hl with | [_, _, _], _ => rfl⟩
  have C__law_text : FnD l.prog w K mg base "_law_text" 2 ["_law_web"] m__law_text := ⟨f36, _, ok__law_text F36 T C__law_value_text, PySem.W.mg_of X G a36, k36, F36.binds (ps := ["_law_web"]) fun _ _ _ _ _ _ us hl => match us, hl with | [_], _ => rfl⟩
  have C_is_value : FnD l.prog w K mg base "is_value" 3 ["thing"] m_is_value := ⟨f6, _, ok_is_value F6 T C_is_link C_is_whole, PySem.W.mg_of X G a6, k6, F6.binds (ps := ["thing"]) fun _ _ _ _ _ _ us hl => match us, hl with | [_], _ => rfl⟩
  have C_links_lead : FnD l.prog w K mg base "links_lead" 3 ["web"] m_links_lead := ⟨f13, _, ok_links_lead F13 T C_links, PySem.W.mg_of X G a13, k13, F13.binds (ps := ["web"]) fun _ _ _ _ _ _ us hl => match us, hl with | [_], _ => rfl⟩
  have C_shown_part : FnD l.prog w K mg base "shown_part" 3 ["part"] m_shown_part := ⟨f19, _, ok_shown_part F19 T C_shown_pairs C_shown_value, PySem.W.mg_of X G a19, k19, F19.binds (ps := ["part"]) fun _ _ _ _ _ _ us hl => match us, hl with | [_], _ => rfl⟩
  have C_read_value : FnD l.prog w K mg base "read_value" 3 ["text"] m_read_value := ⟨f27, _, ok_read_value F27 T C_read_count, PySem.W.mg_of X G a27, k27, F27.binds (ps := ["text"]) fun _ _ _ _ _ _ us hl => match us, hl with | [_], _ => rfl⟩
  have C_is_values : FnD l.prog w K mg base "is_values" 4 ["thing"] m_is_values := ⟨f8, _, ok_is_values F8 T C_is_tuple C_is_value, PySem.W.mg_of X G a8, k8, F8.binds (ps := ["thing"]) fun _ _ _ _ _ _ us hl => match us, hl with | [_], _ => rfl⟩
  have C_is_pair : FnD l.prog w K mg base "is_pair" 4 ["thing"] m_is_pair := ⟨f9, _, ok_is_pair F9 T C_is_name C_is_value, PySem.W.mg_of X G a9, k9, F9.binds (ps := ["thing"]) fun _ _ _ _ _ _ us hl => match us, hl with | [_], _ => rfl⟩
  have C_shown : FnD l.prog w K mg base "shown" 4 ["web"] m_shown := ⟨f18, _, ok_shown F18 T C_shown_part, PySem.W.mg_of X G a18, k18, F18.binds (ps := ["web"]) fun _ _ _ _ _ _ us hl => match us, hl with | [_], _ => rfl⟩
  have C_read_pair : FnD l.prog w K mg base "read_pair" 4 ["item"] m_read_pair := ⟨f26, _, ok_read_pair F26 T C_read_value, PySem.W.mg_of X G a26, k26, F26.binds (ps := ["item"]) fun _ _ _ _ _ _ us hl => match us, hl with | [_], _ => rfl⟩
  have C_is_pairs : FnD l.prog w K mg base "is_pairs" 5 ["thing"] m_is_pairs := ⟨f10, _, ok_is_pairs F10 T C_is_pair C_is_tuple, PySem.W.mg_of X G a10, k10, F10.binds (ps := ["thing"]) fun _ _ _ _ _ _ us hl => match us, hl with | [_], _ => rfl⟩
  have C_read_paired : FnD l.prog w K mg base "read_paired" 5 ["piece"] m_read_paired := ⟨f24, _, ok_read_paired F24 T C_parted_items C_read_pair, PySem.W.mg_of X G a24, k24, F24.binds (ps := ["piece"]) fun _ _ _ _ _ _ us hl => match us, hl with | [_], _ => rfl⟩
  have C_is_part : FnD l.prog w K mg base "is_part" 6 ["thing"] m_is_part := ⟨f11, _, ok_is_part F11 T C_is_marked C_is_name C_is_pairs C_is_values C_is_word, PySem.W.mg_of X G a11, k11, F11.binds (ps := ["thing"]) fun _ _ _ _ _ _ us hl => match us, hl with | [_], _ => rfl⟩
  have C_read_part : FnD l.prog w K mg base "read_part" 6 ["piece"] m_read_part := ⟨f23, _, ok_read_part F23 T C_parted_items C_read_paired C_read_value, PySem.W.mg_of X G a23, k23, F23.binds (ps := ["piece"]) fun _ _ _ _ _ _ us hl => match us, hl with | [_], _ => rfl⟩
  have C_is_web : FnD l.prog w K mg base "is_web" 7 ["thing"] m_is_web := ⟨f12, _, ok_is_web F12 T C_count_names C_is_part C_is_tuple C_links_lead, PySem.W.mg_of X G a12, k12, F12.binds (ps := ["thing"]) fun _ _ _ _ _ _ us hl => match us, hl with | [_], _ => rfl⟩
  have C_read : FnD l.prog w K mg base "read" 8 ["text"] m_read := ⟨f22, _, ok_read F22 T C_is_web C_read_part, PySem.W.mg_of X G a22, k22, F22.binds (ps := ["text"]) fun _ _ _ _ _ _ us hl => match us, hl with | [_], _ => rfl⟩
  have C__law_kinds_0 : FnD l.prog w K mg base "_law_kinds" 0 ["_law_found"] (mR__law_kinds 0) := ⟨f37, PySem.W.fnOf "_law_kinds" "_law_kinds" (defArgs (top 52)) (defBody (top 52)) (defScope (top 52)) .none kV37 dc37 pm37 an37 cd37 ct37, fnOk_never, PySem.W.mg_of X G a37, k37, F37.binds (ps := ["_law_found"]) fun _ _ _ _ _ _ us hl => match us, hl with | [_], _ => rfl⟩
  have C__law_kinds_1 : FnD l.prog w K mg base "_law_kinds" 1 ["_law_found"] (mR__law_kinds 1) := ⟨f37, _, ok__law_kinds F37 T _ 0 C__law_kinds_0 , PySem.W.mg_of X G a37, k37, F37.binds (ps := ["_law_found"]) fun _ _ _ _ _ _ us hl => match us, hl with | [_], _ => rfl⟩
  have C__law_kinds_2 : FnD l.prog w K mg base "_law_kinds" 2 ["_law_found"] (mR__law_kinds 2) := ⟨f37, _, ok__law_kinds F37 T _ 1 C__law_kinds_1 , PySem.W.mg_of X G a37, k37, F37.binds (ps := ["_law_found"]) fun _ _ _ _ _ _ us hl => match us, hl with | [_], _ => rfl⟩
  have C__law_kinds_3 : FnD l.prog w K mg base "_law_kinds" 3 ["_law_found"] (mR__law_kinds 3) := ⟨f37, _, ok__law_kinds F37 T _ 2 C__law_kinds_2 , PySem.W.mg_of X G a37, k37, F37.binds (ps := ["_law_found"]) fun _ _ _ _ _ _ us hl => match us, hl with | [_], _ => rfl⟩
  have C__law_kinds_4 : FnD l.prog w K mg base "_law_kinds" 4 ["_law_found"] (mR__law_kinds 4) := ⟨f37, _, ok__law_kinds F37 T _ 3 C__law_kinds_3 , PySem.W.mg_of X G a37, k37, F37.binds (ps := ["_law_found"]) fun _ _ _ _ _ _ us hl => match us, hl with | [_], _ => rfl⟩
  have C__law_kinds_5 : FnD l.prog w K mg base "_law_kinds" 5 ["_law_found"] (mR__law_kinds 5) := ⟨f37, _, ok__law_kinds F37 T _ 4 C__law_kinds_4 , PySem.W.mg_of X G a37, k37, F37.binds (ps := ["_law_found"]) fun _ _ _ _ _ _ us hl => match us, hl with | [_], _ => rfl⟩
  have C__law_kinds_6 : FnD l.prog w K mg base "_law_kinds" 6 ["_law_found"] (mR__law_kinds 6) := ⟨f37, _, ok__law_kinds F37 T _ 5 C__law_kinds_5 , PySem.W.mg_of X G a37, k37, F37.binds (ps := ["_law_found"]) fun _ _ _ _ _ _ us hl => match us, hl with | [_], _ => rfl⟩
  have C__law_kinds_7 : FnD l.prog w K mg base "_law_kinds" 7 ["_law_found"] (mR__law_kinds 7) := ⟨f37, _, ok__law_kinds F37 T _ 6 C__law_kinds_6 , PySem.W.mg_of X G a37, k37, F37.binds (ps := ["_law_found"]) fun _ _ _ _ _ _ us hl => match us, hl with | [_], _ => rfl⟩
  have C__law_kinds_8 : FnD l.prog w K mg base "_law_kinds" 8 ["_law_found"] (mR__law_kinds 8) := ⟨f37, _, ok__law_kinds F37 T _ 7 C__law_kinds_7 , PySem.W.mg_of X G a37, k37, F37.binds (ps := ["_law_found"]) fun _ _ _ _ _ _ us hl => match us, hl with | [_], _ => rfl⟩
  have C__law_kinds : FnD l.prog w K mg base "_law_kinds" 8 ["_law_found"] m__law_kinds := C__law_kinds_8
  exact ok_law F38 T C__law_cell_at C__law_kinds C__law_mixed C__law_names C__law_part C__law_text C_read C_shown
theorem rps_ints {K : PySem.W.Frag} {H : Hp} {B : BS} : ∀ ns : List Int, Rps K H B (ns.map D.int) (ns.map V.int)
  | [] => by rw [List.map_nil, List.map_nil, rps_nil]
  | n :: ns => by
    rw [List.map_cons, List.map_cons, rps_cons]
    exact ⟨_, _, rfl, by rw [rp_int], rps_ints ns⟩
theorem start_law {K : PySem.W.Frag} {H : Hp} {a : Addr} {ns : List Int} (hS : SqL K H a (ns.map V.int)) (hm : m_law [.lst (ns.map .int)] = some (.bl true)) : spD K m_law [.ref a] H (fun v _ => v = .bl true) fun _ _ _ => False := by
  refine ⟨fun _ => False, [.lst (ns.map .int)], .bl true, fun _ z => z.elim, ?_, hm, fun v H' _ r => by rw [rp_bl] at r; exact r⟩
  rw [rps_cons]
  refine ⟨_, [], rfl, ?_, by rw [rps_nil]⟩
  rw [rp_lst]
  refine ⟨a, ns.map V.int, rfl, ?_, rps_ints ns⟩
  rcases hS with h | h
  · exact .inl ⟨fun z => z, h⟩
  · exact .inr (.inr h)
end K7
open PySem PySem.W PyProof.Rows
set_option maxRecDepth 100000 in
set_option maxHeartbeats 0 in
theorem PySem.Challenge.cw_graphpack_k07_webs_shown_holds : PySem.Challenge.rw_graphpack_k07_webs_shown.Holds := by
  w_on; o_law; k_head; (case hw => w_witness2)
  k_fill
  refine L2.walk_ofK (l := PySem.Challenge.rw_graphpack_k07_webs_shown) (n := 63) (k := 9) (x := "_law_script") (CX := L2.CX0) (sp := fun K => DL.spD K K7.m_law) rfl (by decide) rfl ⟨rfl, by decide, by decide⟩ (fun w h Y => PySem.W.kIn_of Y) ?F ?S ?C
  case F =>
    intro w mg fa h KX G hmg
    refine' K7.all_mk KX G hmg ?a0 ?l0 ?c0 ?k0 ?a1 ?l1 ?c1 ?k1 ?a2 ?l2 ?c2 ?k2 ?a3 ?l3 ?c3 ?k3 ?a4 ?l4 ?c4 ?k4 ?a5 ?l5 ?c5 ?k5 ?a6 ?l6 ?c6 ?k6 ?a7 ?l7 ?c7 ?k7 ?a8 ?l8 ?c8 ?k8 ?a9 ?l9 ?c9 ?k9 ?a10 ?l10 ?c10 ?k10 ?a11 ?l11 ?c11 ?k11 ?a12 ?l12 ?c12 ?k12 ?a13 ?l13 ?c13 ?k13 ?a14 ?l14 ?c14 ?k14 ?a15 ?l15 ?c15 ?k15 ?a16 ?l16 ?c16 ?k16 ?a17 ?l17 ?c17 ?k17 ?a18 ?l18 ?c18 ?k18 ?a19 ?l19 ?c19 ?k19 ?a20 ?l20 ?c20 ?k20 ?a21 ?l21 ?c21 ?k21 ?a22 ?l22 ?c22 ?k22 ?a23 ?l23 ?c23 ?k23 ?a24 ?l24 ?c24 ?k24 ?a25 ?l25 ?c25 ?k25 ?a26 ?l26 ?c26 ?k26 ?a27 ?l27 ?c27 ?k27 ?a28 ?l28 ?c28 ?k28 ?a29 ?l29 ?c29 ?k29 ?a30 ?l30 ?c30 ?k30 ?a31 ?l31 ?c31 ?k31 ?a32 ?l32 ?c32 ?k32 ?a33 ?l33 ?c33 ?k33 ?a34 ?l34 ?c34 ?k34 ?a35 ?l35 ?c35 ?k35 ?a36 ?l36 ?c36 ?k36 ?a37 ?l37 ?c37 ?k37 ?a38 ?l38 ?c38 ?k38 ?z_all ?z_bool ?z_int ?z_isinstance ?z_len ?z_list ?z_range ?z_set ?z_str ?z_tuple ?y_FIGURES ?y_MOST_FIGURES ?y_MOST_NAMES ?y_MOST_NAME_SIGNS ?y_MOST_PARTS ?y_MOST_VALUES ?y_MOST_WORD_SIGNS ?y_NAME_SIGNS ?y_WORD_SIGNS
    (case a0 => k_is)
    (case l0 => k_is)
    (case c0 => k_is)
    (case k0 => k_is)
    (case a1 => k_is)
    (case l1 => k_is)
    (case c1 => k_is)
    (case k1 => k_is)
    (case a2 => k_is)
    (case l2 => k_is)
    (case c2 => k_is)
    (case k2 => k_is)
    (case a3 => k_is)
    (case l3 => k_is)
    (case c3 => k_is)
    (case k3 => k_is)
    (case a4 => k_is)
    (case l4 => k_is)
    (case c4 => k_is)
    (case k4 => k_is)
    (case a5 => k_is)
    (case l5 => k_is)
    (case c5 => k_is)
    (case k5 => k_is)
    (case a6 => k_is)
    (case l6 => k_is)
    (case c6 => k_is)
    (case k6 => k_is)
    (case a7 => k_is)
    (case l7 => k_is)
    (case c7 => k_is)
    (case k7 => k_is)
    (case a8 => k_is)
    (case l8 => k_is)
    (case c8 => k_is)
    (case k8 => k_is)
    (case a9 => k_is)
    (case l9 => k_is)
    (case c9 => k_is)
    (case k9 => k_is)
    (case a10 => k_is)
    (case l10 => k_is)
    (case c10 => k_is)
    (case k10 => k_is)
    (case a11 => k_is)
    (case l11 => k_is)
    (case c11 => k_is)
    (case k11 => k_is)
    (case a12 => k_is)
    (case l12 => k_is)
    (case c12 => k_is)
    (case k12 => k_is)
    (case a13 => k_is)
    (case l13 => k_is)
    (case c13 => k_is)
    (case k13 => k_is)
    (case a14 => k_is)
    (case l14 => k_is)
    (case c14 => k_is)
    (case k14 => k_is)
    (case a15 => k_is)
    (case l15 => k_is)
    (case c15 => k_is)
    (case k15 => k_is)
    (case a16 => k_is)
    (case l16 => k_is)
    (case c16 => k_is)
    (case k16 => k_is)
    (case a17 => k_is)
    (case l17 => k_is)
    (case c17 => k_is)
    (case k17 => k_is)
    (case a18 => k_is)
    (case l18 => k_is)
    (case c18 => k_is)
    (case k18 => k_is)
    (case a19 => k_is)
    (case l19 => k_is)
    (case c19 => k_is)
    (case k19 => k_is)
    (case a20 => k_is)
    (case l20 => k_is)
    (case c20 => k_is)
    (case k20 => k_is)
    (case a21 => k_is)
    (case l21 => k_is)
    (case c21 => k_is)
    (case k21 => k_is)
    (case a22 => k_is)
    (case l22 => k_is)
    (case c22 => k_is)
    (case k22 => k_is)
    (case a23 => k_is)
    (case l23 => k_is)
    (case c23 => k_is)
    (case k23 => k_is)
    (case a24 => k_is)
    (case l24 => k_is)
    (case c24 => k_is)
    (case k24 => k_is)
    (case a25 => k_is)
    (case l25 => k_is)
    (case c25 => k_is)
    (case k25 => k_is)
    (case a26 => k_is)
    (case l26 => k_is)
    (case c26 => k_is)
    (case k26 => k_is)
    (case a27 => k_is)
    (case l27 => k_is)
    (case c27 => k_is)
    (case k27 => k_is)
    (case a28 => k_is)
    (case l28 => k_is)
    (case c28 => k_is)
    (case k28 => k_is)
    (case a29 => k_is)
    (case l29 => k_is)
    (case c29 => k_is)
    (case k29 => k_is)
    (case a30 => k_is)
    (case l30 => k_is)
    (case c30 => k_is)
    (case k30 => k_is)
    (case a31 => k_is)
    (case l31 => k_is)
    (case c31 => k_is)
    (case k31 => k_is)
    (case a32 => k_is)
    (case l32 => k_is)
    (case c32 => k_is)
    (case k32 => k_is)
    (case a33 => k_is)
    (case l33 => k_is)
    (case c33 => k_is)
    (case k33 => k_is)
    (case a34 => k_is)
    (case l34 => k_is)
    (case c34 => k_is)
    (case k34 => k_is)
    (case a35 => k_is)
    (case l35 => k_is)
    (case c35 => k_is)
    (case k35 => k_is)
    (case a36 => k_is)
    (case l36 => k_is)
    (case c36 => k_is)
    (case k36 => k_is)
    (case a37 => k_is)
    (case l37 => k_is)
    (case c37 => k_is)
    (case k37 => k_is)
    (case a38 => k_is)
    (case l38 => k_is)
    (case c38 => k_is)
    (case k38 => k_is)
    (case z_all => k_is)
    (case z_bool => k_is)
    (case z_int => k_is)
    (case z_isinstance => k_is)
    (case z_len => k_is)
    (case z_list => k_is)
    (case z_range => k_is)
    (case z_set => k_is)
    (case z_str => k_is)
    (case z_tuple => k_is)
    (case y_FIGURES => k_is)
    (case y_MOST_FIGURES => k_is)
    (case y_MOST_NAMES => k_is)
    (case y_MOST_NAME_SIGNS => k_is)
    (case y_MOST_PARTS => k_is)
    (case y_MOST_VALUES => k_is)
    (case y_MOST_WORD_SIGNS => k_is)
    (case y_NAME_SIGNS => k_is)
    (case y_WORD_SIGNS => k_is)
  case S => exact fun K H a ns hl hO hS => K7.start_law hS (K7.law_true ns hl)
  case C => exact fun _ _ _ _ z => z
#print axioms PySem.Challenge.cw_graphpack_k07_webs_shown_holds
