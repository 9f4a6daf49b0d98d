import PyProof.Rows.All
import Wide.All
import OpenK.AllK
import Wide.FinOn
import Lean
import PyProof.EqAt
import PyProof.EqKinds
import PyProof.TupleCall
import KE.KSortTup
import KE.LcSums
import PyProof.StrLawsJoin
import KE.KSortKey
import PyProof.WalkInts
import PyProof.MinMaxWalk
import KE.KSortedM
import PySem.Challenge.RW_ringmaze_k07_bows_of_mazes
-- CHANGE: your row's module here, as the last of these rows
set_option Elab.async false
set_option linter.all false
set_option maxRecDepth 100000
/-! THE HAND LAYER, for ints, bools, texts, own classes, LISTS and tuples (index, slices, in, append, pop ..), calls, loops. Paste it whole ahead of your own text; what your proof does not reach may be deleted. -/
namespace L2
open PySem PySem.Spec PyProof.Rows

/-- a key: an int or a str -/
abbrev Key := Sum Int Str
def keyIs : Key → Value → Bool
  | .inl k, v => Value.isInt k v
  | .inr x, v => Value.isStrOf x v
def keyH (w : World) : Key → Int
  | .inl k => hashInt k
  | .inr x => hashStr w x
theorem keyIs_shape : ∀ {k : Key} {v : Value}, keyIs k v = true → (∃ i t, k = Sum.inl i ∧ v = Value.int i t) ∨ (∃ x t, k = Sum.inr x ∧ v = Value.str x t)
  | .inl i, v, h => by
    obtain ⟨t, e⟩ := Value.isInt_shape (k := i) (v := v) h
    exact .inl ⟨i, t, rfl, e⟩
  | .inr x, v, h => by
    obtain ⟨t, e⟩ := Value.isStrOf_shape (x := x) (v := v) h
    exact .inr ⟨x, t, rfl, e⟩
theorem keyIs_int (i : Int) (t : Tok) : keyIs (.inl i) (.int i t) = true := by simp [keyIs, Value.isInt]
theorem keyIs_str (x : Str) (t : Tok) : keyIs (.inr x) (.str x t) = true := by simp [keyIs, Value.isStrOf]
theorem key_ll (a b : Int) : decide ((Sum.inl a : Key) = Sum.inl b) = (a == b) := by
  by_cases e : a = b
  · subst e; simp
  · have h : ¬ (Sum.inl a : Key) = Sum.inl b := fun q => e (Sum.inl.inj q)
    rw [decide_eq_false h]
    exact (beq_eq_false_iff_ne.mpr e).symm
theorem key_rr (a b : Str) : decide ((Sum.inr a : Key) = Sum.inr b) = decide (a = b) := by
  by_cases e : a = b
  · subst e; simp
  · have h : ¬ (Sum.inr a : Key) = Sum.inr b := fun q => e (Sum.inr.inj q)
    rw [decide_eq_false h, decide_eq_false e]
theorem key_lr (a : Int) (b : Str) : decide ((Sum.inl a : Key) = Sum.inr b) = false := decide_eq_false (fun q => nomatch q)
theorem key_rl (a : Str) (b : Int) : decide ((Sum.inr a : Key) = Sum.inl b) = false := decide_eq_false (fun q => nomatch q)

def mixKind (prog : Program) (w : World) : PySem.KeyKind prog w Key where
  is := keyIs
  hash := keyH w
  inj := fun v a b ha hb => by
    rcases keyIs_shape ha with ⟨i, t, rfl, rfl⟩ | ⟨x, t, rfl, rfl⟩
    · rcases keyIs_shape hb with ⟨j, u, rfl, e⟩ | ⟨y, u, rfl, e⟩
      · injection e with e1 _; rw [e1]
      · exact nomatch e
    · rcases keyIs_shape hb with ⟨j, u, rfl, e⟩ | ⟨y, u, rfl, e⟩
      · exact nomatch e
      · injection e with e1 _; rw [e1]
  byValue := fun k v h => by
    rcases keyIs_shape h with ⟨i, t, rfl, rfl⟩ | ⟨x, t, rfl, rfl⟩ <;> rfl
  pyHash := fun hv h => by
    rcases keyIs_shape hv with ⟨i, t, rfl, rfl⟩ | ⟨x, t, rfl, rfl⟩
    · exact wpAny_pyHash_int h
    · exact wpAny_pyHash_str h
  eqBool := fun hu hv h => by
    rcases keyIs_shape hu with ⟨i, t, rfl, rfl⟩ | ⟨x, t, rfl, rfl⟩
    · rcases keyIs_shape hv with ⟨j, u, rfl, rfl⟩ | ⟨y, u, rfl, rfl⟩
      · rw [key_ll] at h; exact wpAny_eqBool_int h
      · rw [key_lr] at h; exact SeqAt.EqAt.int_str i t y u _ _ _ _ h
    · rcases keyIs_shape hv with ⟨j, u, rfl, rfl⟩ | ⟨y, u, rfl, rfl⟩
      · rw [key_rl] at h; exact SeqAt.EqAt.str_int x t j u _ _ _ _ h
      · rw [key_rr] at h; exact wpAny_eqBool_str h
  «strs» := fun k x t v h => by
    rcases keyIs_shape h with ⟨i, u, rfl, e⟩ | ⟨y, u, rfl, e⟩
    · exact nomatch e
    · injection e with e1 _
      subst e1
      cases v <;> rfl

theorem mixKind_int (prog : Program) (w : World) (i : Int) (t : Tok) : (mixKind prog w).is (.inl i) (.int i t) = true := keyIs_int i t
theorem mixKind_str (prog : Program) (w : World) (x : Str) (t : Tok) : (mixKind prog w).is (.inr x) (.str x t) = true := keyIs_str x t
end L2

namespace L2
open PySem PySem.Spec PyProof.Rows

/-- a value, without the heap -/
inductive V where
  | non | bl (b : Bool) | int (i : Int) | str (x : Str) | byt (b : Array UInt8) | flt (b : UInt64) | ref (a : Addr) | ty (n : String)
  deriving DecidableEq

def RelV : V → Value → Prop
  | .non, u => u = Value.none
  | .bl b, u => u = Value.bool b
  | .int i, u => ∃ t, u = Value.int i t
  | .str x, u => ∃ t, u = Value.str x t
  | .byt b, u => ∃ t, u = Value.bytes b t
  | .flt b, u => ∃ t, u = Value.float b t
  | .ref a, u => u = Value.ref a
  | .ty n, u => u = Value.type n

abbrev Vals : List V → List Value → Prop := Paired RelV
theorem Vals.length {xs : List V} {us : List Value} (r : Vals xs us) : xs.length = us.length := Paired.length r
theorem Vals.get : ∀ {xs : List V} {us : List Value} {i : Nat} {x : V}, Vals xs us → xs[i]? = some x → ∃ u, us[i]? = some u ∧ RelV x u
  | _, _, _, _, .nil, e => by simp at e
  | _, _, 0, _, .cons r _, e => by simp at e; subst e; exact ⟨_, rfl, r⟩
  | _, _, i + 1, x, .cons _ t, e => by
    obtain ⟨u, h1, h2⟩ := Vals.get (i := i) (x := x) t (by simpa using e)
    exact ⟨u, by simpa using h1, h2⟩
theorem Vals.set {x : V} {u : Value} (r : RelV x u) : ∀ {xs : List V} {us : List Value} (i : Nat), Vals xs us → Vals (xs.set i x) (us.set i u)
  | _, _, _, .nil => .nil
  | _, _, 0, .cons _ t => .cons r t
  | _, _, i + 1, .cons q t => .cons q (Vals.set r i t)
theorem Vals.append : ∀ {xs ys : List V} {us ws : List Value}, Vals xs us → Vals ys ws → Vals (xs ++ ys) (us ++ ws)
  | _, _, _, _, .nil, s => s
  | _, _, _, _, .cons r t, s => .cons r (Vals.append t s)
theorem Vals.take : ∀ {xs : List V} {us : List Value} (n : Nat), Vals xs us → Vals (xs.take n) (us.take n)
  | _, _, 0, _ => .nil
  | _, _, _ + 1, .nil => .nil
  | _, _, n + 1, .cons r t => .cons r (Vals.take n t)
theorem Vals.drop : ∀ {xs : List V} {us : List Value} (n : Nat), Vals xs us → Vals (xs.drop n) (us.drop n)
  | _, _, 0, r => r
  | _, _, _ + 1, .nil => .nil
  | _, _, n + 1, .cons _ t => Vals.drop n t
def RelO : Option V → Option Value → Prop
  | some v, some u => RelV v u
  | none, none => True
  | _, _ => False
def KV {κ : Type} : List (κ × V) → List (κ × Value) → Prop := Paired fun (p : κ × V) (q : κ × Value) => p.1 = q.1 ∧ RelV p.2 q.2

/-- a key of a dict (00_mix): an int or a text -/
def kV : Key → V
  | .inl i => .int i
  | .inr x => .str x

/-- what stands at a tracked address -/
inductive HO where
  /-- a list -/
  | lst (xs : List V)
  /-- a tuple (never changes) -/
  | tup (xs : List V)
  /-- a dict whose keys are ints and texts; one whose keys are tuples of ints and texts (the empty one is both) -/
  | dK (kvs : List (Key × V)) | dT (kvs : List (List Key × V))
  /-- a set of ints: its members, its size -/
  | set (S : Int → Bool) (n : Nat)
  /-- an instance of the class at C, its dict at dx, its attributes -/
  | ins (C dx : Addr) (fs : List (Str × V))
  /-- the dict of the instance at x -/
  | own (x : Addr)
  /-- the dict of an exception -/
  | xd (fs : List (Str × V))
  /-- a bound method, f of x -/
  | met (f x : Addr)
  /-- a range object lo, lo + 1, .. below hi -/
  | rng (lo hi : Int)
  /-- a thing that is known to the object (the script; a dict while a loop walks it): read, never written while it is so -/
  | frz (o : Obj) (u : HO)
  /-- a code object's table -/
  | tbl (ps : Array Value)
  /-- any other thing, by what is true of its one object (a def of one's own: SetO a S n := HO.ext fun h => ..) -/
  | ext (φ : Heap → Prop)

abbrev Hp := Addr → Option HO
def upd (H : Hp) (a : Addr) (o : HO) : Hp := fun b => if b = a then some o else H b
theorem upd_same {H : Hp} {a : Addr} {o : HO} : upd H a o a = some o := by unfold upd; rw [if_pos rfl]
theorem upd_ne {H : Hp} {a b : Addr} {o : HO} (h : b ≠ a) : upd H a o b = H b := by unfold upd; rw [if_neg h]
/-- two objects of different content stand apart -/
theorem ne_of {H : Hp} {a b : Addr} {o u : HO} (h : H a = some o) (h' : H b = some u) (d : o ≠ u) : a ≠ b := by
  intro e; subst e; rw [h] at h'; exact d (Option.some.inj h')
theorem ne_of_none {H : Hp} {a b : Addr} {o : HO} (h : H a = some o) (h' : H b = none) : a ≠ b := by
  intro e; subst e; rw [h] at h'; cases h'

section
variable (P : Program) (w : World)
def ObjOk (H : Hp) (h : Heap) (a : Addr) : HO → Prop
  | .lst xs => xs.length ≤ sizeLine ∧ ∃ (its : List Value) (n : Nat), Vals xs its ∧ h.get? a = some { cls := .type "list", data := .seq its.toArray n }
  | .tup xs => xs.length ≤ sizeLine ∧ ∃ its : List Value, Vals xs its ∧ IsTup h a its.toArray
  | .dK kvs => kvs.length ≤ sizeLine ∧ (a == sysModules) = false ∧ ∃ vs, KV kvs vs ∧ h.DictOf (mixKind P w) a vs
  | .dT kvs => kvs.length ≤ sizeLine ∧ (a == sysModules) = false ∧ ∃ xs : List (List Key × Addr × Value),
      Paired (fun (p : List Key × V) (q : List Key × Addr × Value) => p.1 = q.1 ∧ H q.2.1 = some (.tup (p.1.map kV)) ∧ RelV p.2 q.2.2) kvs xs ∧
      ∃ o es ep, h.get? a = some o ∧ o.ExactDict ∧ o.data = .dict es ep ∧ es.toList = xs.map (entryOfKey (tupleKind (mixKind P w))) ∧ (xs.map (·.1)).Nodup
  | .set S n => h.SetOf (intKind P w) a S n
  | .ins C dx fs => H dx = some (.own a) ∧ fs.length ≤ 1000 ∧ dx ≠ a ∧ h.get? a = some (PySem.W.instObj C dx) ∧
      ∃ mA, h.Ns1 dx mA ∧ (∀ f, RelO (fs.lookup f) (mA f)) ∧ PySem.Within mA (fs.map (·.1))
  | .own _ => ∃ o, h.get? a = some o
  | .xd fs => ∃ mA, h.Ns1 a mA ∧ ∀ f, RelO (fs.lookup f) (mA f)
  | .rng lo hi => ∃ t u v, h.get? a = some { cls := .type "range", data := .fields #[.int lo t, .int hi u, .int 1 v] }
  | .frz o u => h.get? a = some o ∧ ObjOk H h a u
  | .tbl ps => h.get? a = some { cls := .none, data := .fields ps }
  | .met f x => h.get? a = some (PySem.W.methodObj (.ref f) (.ref x))
  | .ext φ => φ h ∧ (∃ o, h.get? a = some o) ∧ ∀ h1 h2 : Heap, φ h1 → (∀ o, h1.get? a = some o → h2.get? a = some o) → φ h2
/-- the abstract heap is held -/
def HOk (H : Hp) (h : Heap) : Prop := ∀ a o, H a = some o → ObjOk P w H h a o
end

section
variable {P : Program} {w : World} {H H' : Hp} {h h' : Heap} {a : Addr} {o : HO}
theorem ObjOk.lt (x : ObjOk P w H h a o) : a < h.objs.size := by
  cases o with
  | lst xs => obtain ⟨_, _, _, _, e⟩ := x; exact Heap.lt_size e
  | tup xs => obtain ⟨_, _, _, p⟩ := x; exact p.lt
  | dK kvs => obtain ⟨_, _, _, _, o, _, _, e, _⟩ := x; exact Heap.lt_size e
  | dT kvs => obtain ⟨_, _, _, _, o, _, _, e, _⟩ := x; exact Heap.lt_size e
  | set S n => obtain ⟨o, _, _, _, e, _⟩ := x; exact Heap.lt_size e
  | ins C dx fs => obtain ⟨_, _, _, e, _⟩ := x; exact Heap.lt_size e
  | own y => obtain ⟨_, e⟩ := x; exact Heap.lt_size e
  | xd fs => obtain ⟨_, ⟨_, _, _, e, _⟩, _⟩ := x; exact Heap.lt_size e
  | rng lo hi => obtain ⟨_, _, _, e⟩ := x; exact Heap.lt_size e
  | frz ob u => obtain ⟨e, _⟩ := x; exact Heap.lt_size e
  | tbl ps => exact Heap.lt_size (show h.get? a = some _ from x)
  | met f y => exact Heap.lt_size (show h.get? a = some _ from x)
  | ext φ => obtain ⟨_, ⟨_, e⟩, _⟩ := x; exact Heap.lt_size e
theorem Paired.mapP {α β : Type} {F G : α → β → Prop} : ∀ {l₁ : List α} {l₂ : List β}, Paired F l₁ l₂ → (∀ a b, F a b → G a b) → Paired G l₁ l₂
  | _, _, .nil, _ => .nil
  | _, _, .cons r t, f => .cons (f _ _ r) (Paired.mapP t f)
/-- what an object's description leans on: its own object, its own dict, the tuples -/
theorem ObjOk.stay (x : ObjOk P w H h a o) (k : ∀ b u, (b = a ∨ H b = some (.own a)) → h.get? b = some u → h'.get? b = some u)
    (ho : ∀ b, H b = some (.own a) → H' b = some (.own a)) (ht : ∀ b xs, H b = some (.tup xs) → H' b = some (.tup xs)) : ObjOk P w H' h' a o := by
  induction o with
  | lst xs => obtain ⟨z, its, n, r, e⟩ := x; exact ⟨z, its, n, r, k _ _ (.inl rfl) e⟩
  | tup xs => obtain ⟨z, its, r, ob, e, c⟩ := x; exact ⟨z, its, r, ob, k _ _ (.inl rfl) e, c⟩
  | dK kvs => obtain ⟨z, y, vs, r, ob, es, ep, e, c⟩ := x; exact ⟨z, y, vs, r, ob, es, ep, k _ _ (.inl rfl) e, c⟩
  | dT kvs =>
    obtain ⟨z, y, xs, r, ob, es, ep, e, c⟩ := x
    exact ⟨z, y, xs, Paired.mapP r fun p q z => ⟨z.1, ht _ _ z.2.1, z.2.2⟩, ob, es, ep, k _ _ (.inl rfl) e, c⟩
  | set S n => obtain ⟨ob, es, ep, t, e, c⟩ := x; exact ⟨ob, es, ep, t, k _ _ (.inl rfl) e, c⟩
  | ins C dx fs =>
    obtain ⟨d, z, ne, e, mA, ⟨od, es, ep, e2, c⟩, r⟩ := x
    exact ⟨ho _ d, z, ne, k _ _ (.inl rfl) e, mA, ⟨od, es, ep, k _ _ (.inr d) e2, c⟩, r⟩
  | own y => obtain ⟨ob, e⟩ := x; exact ⟨ob, k _ _ (.inl rfl) e⟩
  | xd fs => obtain ⟨mA, ⟨od, es, ep, e, c⟩, r⟩ := x; exact ⟨mA, ⟨od, es, ep, k _ _ (.inl rfl) e, c⟩, r⟩
  | rng lo hi => obtain ⟨t, u, v, e⟩ := x; exact ⟨t, u, v, k _ _ (.inl rfl) e⟩
  | frz ob u ih => obtain ⟨e, q⟩ := x; exact ⟨k _ _ (.inl rfl) e, ih q⟩
  | tbl ps =>
    have e : h.get? a = some { cls := .none, data := .fields ps } := x
    show h'.get? a = some { cls := .none, data := .fields ps }
    exact k a _ (.inl rfl) e
  | met f y =>
    have e : h.get? a = some (PySem.W.methodObj (.ref f) (.ref y)) := x
    show h'.get? a = some (PySem.W.methodObj (.ref f) (.ref y))
    exact k a _ (.inl rfl) e
  | ext φ => obtain ⟨p, ⟨o, e⟩, st⟩ := x; exact ⟨st _ _ p fun o q => k _ _ (.inl rfl) q, ⟨o, k _ _ (.inl rfl) e⟩, st⟩
theorem HOk.lt (x : HOk P w H h) (e : H a = some o) : a < h.objs.size := (x a o e).lt
theorem HOk.fresh (x : HOk P w H h) (e : h.objs.size ≤ a) : H a = none := by
  cases q : H a with
  | none => rfl
  | some u => exact absurd (Nat.lt_of_lt_of_le (x.lt q) e) (Nat.lt_irrefl _)
/-- every object of the heap is kept -/
theorem HOk.kept (x : HOk P w H h) (k : ∀ b u, h.get? b = some u → h'.get? b = some u) : HOk P w H h' := fun a o e =>
  (x a o e).stay (fun b u _ q => k b u q) (fun _ q => q) fun _ _ q => q
/-- a new object is laid and tracked -/
theorem HOk.laid (x : HOk P w H h) (k : ∀ b u, h.get? b = some u → h'.get? b = some u) (hp : h.objs.size ≤ a) (new : ObjOk P w (upd H a o) h' a o) : HOk P w (upd H a o) h' := fun b u e => by
  have hn := x.fresh hp
  by_cases hb : b = a
  · subst hb; rw [upd_same] at e; cases e; exact new
  · rw [upd_ne hb] at e
    exact (x b u e).stay (fun c v _ q => k c v q) (fun c q => by rw [upd_ne (ne_of_none q hn)]; exact q) fun c xs q => by rw [upd_ne (ne_of_none q hn)]; exact q
end

/-- what may be read as u: it is u, or a known u -/
def Rd (H : Hp) (a : Addr) (u : HO) : Prop := H a = some u ∨ ∃ o, H a = some (.frz o u)
theorem Rd.of {H : Hp} {a : Addr} {u : HO} (h : H a = some u) : Rd H a u := .inl h
theorem Rd.ok {P : Program} {w : World} {H : Hp} {h : Heap} {a : Addr} {u : HO} (r : Rd H a u) (x : HOk P w H h) : ObjOk P w H h a u := by
  rcases r with r | ⟨o, r⟩
  · exact x a u r
  · obtain ⟨_, q⟩ := x a _ r
    exact q
/-- what may be written -/
def Mut : Option HO → Prop
  | some (.lst _) => True
  | some (.dK _) => True
  | some (.dT _) => True
  | some (.set _ _) => True
  | some (.ins _ _ _) => True
  | some (.ext _) => True
  | _ => False
section
variable {P : Program} {w : World} {H : Hp} {h h' : Heap} {x e : Addr} {o' : HO}
/-- the object at e is changed: x itself, or the dict of the instance x -/
theorem HOk.write (ok : HOk P w H h) (mu : Mut (H x)) (he : e = x ∨ H e = some (.own x)) (k : ∀ b u, b ≠ e → h.get? b = some u → h'.get? b = some u) (heo : ∃ u, h'.get? e = some u)
    (new : ObjOk P w (upd H x o') h' x o') : HOk P w (upd H x o') h' := fun b u q => by
  have nown : ∀ c y, H c = some (.own y) → c ≠ x := fun c y r z => by subst z; rw [r] at mu; exact mu
  have ntup : ∀ c xs, H c = some (.tup xs) → c ≠ x := fun c xs r z => by subst z; rw [r] at mu; exact mu
  by_cases hb : b = x
  · subst hb; rw [upd_same] at q; cases q; exact new
  · rw [upd_ne hb] at q
    by_cases hbe : b = e
    · have q' : H b = some (.own x) := by
        rcases he with z | z
        · exact absurd (hbe.trans z) hb
        · rw [hbe]; exact z
      rw [q] at q'; cases q'
      obtain ⟨v, hv⟩ := heo
      exact ⟨v, by rw [hbe]; exact hv⟩
    · refine (ok b u q).stay (fun c v hc r => k c v ?_ r) (fun c r => by rw [upd_ne (nown c b r)]; exact r) fun c xs r => by rw [upd_ne (ntup c xs r)]; exact r
      rcases hc with rfl | hc
      · exact hbe
      · rintro rfl
        rcases he with z | z
        · exact nown c b hc z
        · rw [hc] at z; cases z; exact hb rfl
end

/-! ### kept unless tracked; of the frames at fs (the callers') the slots may change (an exception that passes writes there); of the records at ex (iterators) nothing is said -/
structure Un (fs ex : List Addr) (H H' : Hp) (h h' : Heap) : Prop where
  keep : ∀ b o, h.get? b = some o → H b = none → b ∉ fs → b ∉ ex → h'.get? b = some o
  slot : ∀ b o, h.get? b = some o → H b = none → b ∈ fs → b ∉ ex → ∃ sl, h'.get? b = some { o with slots := sl }
  free : ∀ b o, h.get? b = some o → H b = none → b ∉ ex → H' b = none
  there : ∀ b o, h.get? b = some o → b ∉ ex → ∃ o', h'.get? b = some o'
  tups : ∀ b xs, H b = some (.tup xs) → H' b = some (.tup xs)
  frzs : ∀ b o u, H b = some (.frz o u) → H' b = some (.frz o u)
  tbls : ∀ b ps, H b = some (.tbl ps) → ∃ more, H' b = some (.tbl (ps ++ more))
section
variable {fs fs' ex ex' : List Addr} {H H1 H2 : Hp} {h h1 h2 h' : Heap} {a x e : Addr} {o : HO}
theorem Un.any (u : Un fs ex H H1 h h1) {b : Addr} {ob : Obj} (q : h.get? b = some ob) (n : H b = none) (hx : b ∉ ex) : ∃ sl, h1.get? b = some { ob with slots := sl } := by
  by_cases hb : b ∈ fs
  · exact u.slot b ob q n hb hx
  · exact ⟨ob.slots, u.keep b ob q n hb hx⟩
theorem Un.trans (a : Un fs ex H H1 h h1) (b : Un fs ex H1 H2 h1 h2) : Un fs ex H H2 h h2 where
  keep := fun c ob q n hc hx => b.keep c ob (a.keep c ob q n hc hx) (a.free c ob q n hx) hc hx
  slot := fun c ob q n hc hx => by
    obtain ⟨sl, e1⟩ := a.slot c ob q n hc hx
    obtain ⟨sl', e2⟩ := b.slot c _ e1 (a.free c ob q n hx) hc hx
    exact ⟨sl', e2⟩
  free := fun c ob q n hx => by
    obtain ⟨o', e1⟩ := a.there c ob q hx
    exact b.free c o' e1 (a.free c ob q n hx) hx
  there := fun c ob q hx => by
    obtain ⟨o', e1⟩ := a.there c ob q hx
    exact b.there c o' e1 hx
  tups := fun c xs q => b.tups c xs (a.tups c xs q)
  frzs := fun c ob xs q => b.frzs c ob xs (a.frzs c ob xs q)
  tbls := fun c ps q => by
    obtain ⟨m1, e1⟩ := a.tbls c ps q
    obtain ⟨m2, e2⟩ := b.tbls c _ e1
    exact ⟨m1 ++ m2, by rw [e2, Array.append_assoc]⟩
theorem Un.kept (k : ∀ b u, h.get? b = some u → h'.get? b = some u) : Un fs ex H H h h' :=
  ⟨fun b ob q _ _ _ => k b ob q, fun b ob q _ _ _ => ⟨ob.slots, k b ob q⟩, fun _ _ _ n _ => n, fun b ob q _ => ⟨ob, k b ob q⟩, fun _ _ q => q, fun _ _ _ q => q, fun _ ps q => ⟨#[], by rw [q]; simp⟩⟩
theorem Un.refl : Un fs ex H H h h := Un.kept fun _ _ q => q
theorem Un.laid (k : ∀ b u, h.get? b = some u → h'.get? b = some u) (hp : h.objs.size ≤ a) (hn : H a = none) : Un fs ex H (upd H a o) h h' where
  keep := fun b u q _ _ _ => k b u q
  slot := fun b u q _ _ _ => ⟨u.slots, k b u q⟩
  free := fun b u q n _ => by rw [upd_ne (Nat.ne_of_lt (Nat.lt_of_lt_of_le (Heap.lt_size q) hp))]; exact n
  there := fun b u q _ => ⟨u, k b u q⟩
  tups := fun b xs q => by rw [upd_ne (ne_of_none q hn)]; exact q
  frzs := fun b u xs q => by rw [upd_ne (ne_of_none q hn)]; exact q
  tbls := fun b ps q => ⟨#[], by rw [upd_ne (ne_of_none q hn), q]; simp⟩
theorem Un.write (mu : Mut (H x)) (he : e = x ∨ H e = some (.own x)) (k : ∀ b u, b ≠ e → h.get? b = some u → h'.get? b = some u) (heo : ∃ u, h'.get? e = some u) : Un fs ex H (upd H x o) h h' := by
  have hx : ∀ b, H b = none → b ≠ x := fun b n z => by subst z; rw [n] at mu; exact mu
  have hb : ∀ b, H b = none → b ≠ e := fun b n z => by
    subst z
    rcases he with r | r
    · exact hx b n r
    · rw [n] at r; cases r
  have hm : ∀ b u, H b = some u → ¬ Mut (some u) → b ≠ x := fun b u q nm z => by subst z; rw [q] at mu; exact nm mu
  refine ⟨fun b u q n _ _ => k b u (hb b n) q, fun b u q n _ _ => ⟨u.slots, k b u (hb b n) q⟩, fun b u q n _ => by rw [upd_ne (hx b n)]; exact n, fun b u q _ => ?_,
    fun b xs q => by rw [upd_ne (hm b _ q fun z => z)]; exact q, fun b u xs q => by rw [upd_ne (hm b _ q fun z => z)]; exact q, fun b ps q => ⟨#[], by rw [upd_ne (hm b _ q fun z => z), q]; simp⟩⟩
  by_cases hbe : b = e
  · subst hbe; exact heo
  · exact ⟨u, k b u hbe q⟩
theorem Un.mono (u : Un fs ex H H1 h h1) (hs : ∀ b ∈ fs, b ∈ fs') (hx : ∀ b ∈ ex, b ∈ ex') : Un fs' ex' H H1 h h1 :=
  ⟨fun b ob q n hb he => u.keep b ob q n (fun z => hb (hs b z)) fun z => he (hx b z), fun _ _ q n _ he => u.any q n fun z => he (hx _ z), fun b ob q n he => u.free b ob q n fun z => he (hx b z), fun b ob q he => u.there b ob q fun z => he (hx b z), u.tups, u.frzs, u.tbls⟩
end

/-! ### the heap without what is tracked -/
def trk (h : Heap) (H : Hp) : List Addr := (List.range h.objs.size).filter fun a => (H a).isSome
def hidT (h : Heap) (H : Hp) : Heap := PySem.W.hideAll h (trk h H)
theorem hidT_size (h : Heap) (H : Hp) : (hidT h H).objs.size = h.objs.size := PySem.W.hideAll_size _ _
theorem hidT_get {h : Heap} {H : Hp} {b : Addr} {o : Obj} (e : h.get? b = some o) (n : H b = none) : (hidT h H).get? b = some o :=
  PySem.W.hideAll_get _ e fun hm => by
    have q : (H b).isSome = true := (List.mem_filter.mp hm).2
    rw [n] at q; simp at q
theorem of_hidT {h : Heap} {H : Hp} {b : Addr} {o : Obj} (e : (hidT h H).get? b = some o) : h.get? b = some o ∧ H b = none := by
  have e' : h.get? b = some o := PySem.W.of_hideAll (trk h H) e
  refine ⟨e', ?_⟩
  cases q : H b with
  | none => rfl
  | some x =>
    have hm : b ∈ trk h H := List.mem_filter.mpr ⟨List.mem_range.mpr (Heap.lt_size e'), by simp [q]⟩
    have z : (hidT h H).get? b = none := PySem.W.hideAll_none (trk h H) hm
    rw [z] at e; cases e

/-! ### OpenK's ledger, filled with every new object but one -/
def allNews (g h : Heap) (L : Addr) : List (Addr × Obj) := (List.range h.objs.size).filterMap fun a => if a = L ∨ (g.get? a).isSome = true then none else (h.get? a).map fun o => (a, o)
def rest (g h : Heap) (L d : Addr) : List (Addr × Obj) := (allNews g h L).filter fun p => decide (p.1 ≠ d)
end L2

namespace L2
open PySem PySem.Spec PyProof.Rows

/-- the module's facts, over the base: the heap at the law's entry without what is tracked there -/
structure Mod (K : PySem.W.Frag) (mg : Str → Option Value) (base : Heap) : Prop where
  kin : K.In base
  glob : base.Ns mainGlobals mg
  blt : ∃ mb, base.Ns builtinsNs mb ∧ ∀ x : Str, x ≠ "__name__" → mb x = bootBuiltins x
  nolimit : base.NoLimit

/-- the context: a def's body (or a comprehension's block) running. base: fixed through the whole law; s₀, H₀: the entry; outer: the frames whose slots others may change (a def's callers); stack: all frames that run;
   ex: iterators that were made ahead of the entry and are walked here (a comprehension's); fn: the names whose cells were made at the entry (a def: all; a comprehension's block: its own); calm: not within an except suite; pn: pins that every state bears; xe: what is wanted of an exception that leaves the code -/
structure Cx where
  prog : Program
  w : World
  K : PySem.W.Frag
  mg : Str → Option Value
  base : Heap
  A : Around
  N : List Str
  s₀ : Shared
  H₀ : Hp
  env : Env
  outer : List Env
  stack : List Env
  ex : List Addr
  fn : Str → Bool
  calm : Bool
  pn : List (Addr × Obj)
  xe : Value → Shared → Prop
/-- the callers' frames -/
def frs (l : List Env) : List Addr := l.filterMap (·.frame)
abbrev Cx.fs (X : Cx) : List Addr := frs X.outer

def Vis (sc : Scope) (x : Str) : Prop := sc.names.lookup x = some .local ∨ sc.names.lookup x = some .cell ∨ sc.names.lookup x = some .free
def Loc (sc : Scope) (x : Str) : Prop := sc.names.lookup x = some .local ∨ sc.names.lookup x = some .cell
def Look (env : Env) (h : Heap) (m : Str → Option Value) (x : Str) (u : Value) : Prop :=
  (env.kindOf x = some .local ∧ m x = some u) ∨ ((env.kindOf x = some .cell ∨ env.kindOf x = some .free) ∧ ∃ c, env.cells.lookup x = some c ∧ h.IsCell c (some u))

structure Cx.Ok (X : Cx) : Prop where
  mod : Mod X.K X.mg X.base
  kind : X.env.scope.kind = .function
  glob : X.env.globals = mainGlobals
  blt : X.env.builtins = builtinsNs
  above : X.s₀.heap.objs.size ≤ X.env.locals
  inj : ∀ x y c, X.env.cells.lookup x = some c → X.env.cells.lookup y = some c → x = y
  has : ∀ x, (X.env.kindOf x = some .cell ∨ X.env.kindOf x = some .free) → ∃ c, X.env.cells.lookup x = some c
  cab : ∀ x c, X.fn x = true → X.env.cells.lookup x = some c → X.s₀.heap.objs.size ≤ c
  hd : X.calm = true → X.A.handled = none
  frames : X.A.frames = some X.stack
  stk : X.stack = X.outer ∨ (X.stack = X.env :: X.outer ∧ X.env.frame = some X.env.locals)
  exf : ∀ b ∈ X.ex, b ≠ X.env.locals ∧ ∀ x c, X.env.cells.lookup x = some c → c ≠ b
  bs : ∀ b o, X.base.get? b = some o → X.s₀.heap.get? b = some o ∧ X.H₀ b = none
  bsz : X.base.objs.size ≤ X.s₀.heap.objs.size
  noex : ∀ b o, X.base.get? b = some o → b ∉ X.ex
  exfs : ∀ b ∈ X.ex, b ∉ X.fs
  funs : X.s₀.heap.FunFrames X.base X.outer
  frf : ∀ b ∈ X.fs, X.H₀ b = none

structure Inv (X : Cx) (pins : List (Addr × Obj)) (σ : List (Option V)) (H : Hp) (s : Shared) : Prop where
  ok : X.Ok
  os : s.os = X.s₀.os
  bare : AllBare s.gens
  base : Un X.fs X.ex X.H₀ H X.s₀.heap s.heap
  loc : ∃ m, s.heap.Ns X.env.locals m ∧ ∀ (i : Nat) (x : Str) (v : V), X.N[i]? = some x → σ[i]? = some (some v) → Vis X.env.scope x → ∃ u, RelV v u ∧ Look X.env s.heap m x u
  cell : ∀ x c, X.env.cells.lookup x = some c → ∃ v, s.heap.IsCell c v
  free : H X.env.locals = none
  freeC : ∀ x c, X.env.cells.lookup x = some c → H c = none
  pin : ∀ p ∈ X.pn ++ pins, s.heap.get? p.1 = some p.2 ∧ H p.1 = none ∧ p.1 ≠ X.env.locals ∧ p.1 ∉ X.fs ∧ ∀ v, p.2.data ≠ .cell v
  hok : HOk X.prog X.w H s.heap
  len : σ.length = X.N.length

section
variable {X : Cx} {pins : List (Addr × Obj)} {σ : List (Option V)} {H H' : Hp} {s : Shared} {h' : Heap}

theorem Cx.Ok.nofr (ok : X.Ok) {b : Addr} {o : Obj} (e : X.base.get? b = some o) : b ∉ X.fs := fun hb => by
  have := (ok.funs.mem hb).1
  rw [e] at this; cases this
theorem Inv.bs (I : Inv X pins σ H s) : ∀ b o, X.base.get? b = some o → s.heap.get? b = some o ∧ H b = none := fun b o e =>
  ⟨I.base.keep b o (I.ok.bs b o e).1 (I.ok.bs b o e).2 (I.ok.nofr e) (I.ok.noex b o e), I.base.free b o (I.ok.bs b o e).1 (I.ok.bs b o e).2 (I.ok.noex b o e)⟩
theorem Inv.bk (I : Inv X pins σ H s) : ∀ b o, X.base.get? b = some o → s.heap.get? b = some o := fun b o e => (I.bs b o e).1
theorem Inv.mod (I : Inv X pins σ H s) : Mod X.K X.mg X.base := I.ok.mod
theorem Inv.kIn (I : Inv X pins σ H s) : X.K.In s.heap := I.ok.mod.kin.keeps I.bk
theorem Inv.nolimit (I : Inv X pins σ H s) : s.heap.NoLimit := I.ok.mod.nolimit.keeps I.bk
theorem Inv.lt (I : Inv X pins σ H s) : X.env.locals < s.heap.objs.size := let ⟨_, hn, _⟩ := I.loc; hn.lt
theorem Inv.sz (I : Inv X pins σ H s) : X.s₀.heap.objs.size ≤ s.heap.objs.size := Nat.le_trans I.ok.above (Nat.le_of_lt I.lt)
theorem Inv.nofs (I : Inv X pins σ H s) {a : Addr} (h : s.heap.objs.size ≤ a) : a ∉ X.fs := fun hb => by
  obtain ⟨_, o, ho, _⟩ := I.ok.funs.mem hb
  exact absurd (Nat.lt_of_lt_of_le (Heap.lt_size ho) (Nat.le_trans I.sz h)) (Nat.lt_irrefl _)
theorem Inv.cne (I : Inv X pins σ H s) : ∀ x c, X.env.cells.lookup x = some c → c ≠ X.env.locals := fun x c e z => by
  obtain ⟨v, o, ho, hd⟩ := I.cell x c e
  obtain ⟨m, ⟨o', es, ep, ho', hd', _⟩, _⟩ := I.loc
  rw [z, ho'] at ho; cases ho; rw [hd'] at hd; cases hd
theorem Inv.funs (I : Inv X pins σ H s) : s.heap.FunFrames X.base X.outer := by
  have all : ∀ (l : List Env), (∀ b ∈ frs l, b ∈ X.fs) → X.s₀.heap.FunFrames X.base l → s.heap.FunFrames X.base l := by
    intro l
    induction l with
    | nil => intro _ _; trivial
    | cons env r ih =>
      intro hs hl
      obtain ⟨hk, ⟨L, o, hf, hn, ho, hd⟩, hr⟩ := hl
      have hL : L ∈ X.fs := hs L (by unfold frs; rw [List.filterMap_cons, hf]; exact List.mem_cons_self)
      obtain ⟨sl, e⟩ := I.base.slot L o ho (I.ok.frf L hL) hL fun z => I.ok.exfs L z hL
      exact ⟨hk, ⟨L, _, hf, hn, e, hd⟩, ih (fun b hb => hs b (by unfold frs; rw [List.filterMap_cons, hf]; exact List.mem_cons_of_mem _ hb)) hr⟩
  exact all X.outer (fun _ hb => hb) I.ok.funs

/-- the frames that run, for a call -/
theorem Inv.stack (I : Inv X pins σ H s) : s.heap.FunFrames X.base X.stack := by
  rcases I.ok.stk with e | ⟨e, hf⟩
  · rw [e]; exact I.funs
  · rw [e]
    obtain ⟨m, hn, _⟩ := I.loc
    refine .cons (by rw [I.ok.kind]; decide) hf hn ?_ I.funs
    exact Heap.get?_none_of_le (Nat.le_trans I.ok.bsz I.ok.above)
theorem Inv.stkSub (I : Inv X pins σ H s) : ∀ b ∈ frs X.stack, b ∈ X.env.locals :: X.fs := fun b hb => by
  rcases I.ok.stk with e | ⟨e, hf⟩
  · rw [e] at hb; exact List.mem_cons_of_mem _ hb
  · rw [e] at hb
    unfold frs at hb
    rw [List.filterMap_cons, hf] at hb
    exact hb
theorem Inv.stkFree (I : Inv X pins σ H s) : ∀ b ∈ frs X.stack, H b = none := fun b hb => by
  rcases List.mem_cons.mp (I.stkSub b hb) with e | hb
  · rw [e]; exact I.free
  · obtain ⟨_, o, ho, _⟩ := I.ok.funs.mem hb
    exact I.base.free b o ho (I.ok.frf b hb) fun z => I.ok.exfs b z hb

/-- THE STEP: the untracked objects but the frame and the records at ch are kept (the callers' frames up to slots), the frame's map is kept, the new abstract heap is held -/
theorem Inv.step {g' : Array GenState} {t' : Nat} {d' : Drawn} {ch : List Addr} (I : Inv X pins σ H s)
    (hch : ∀ b ∈ ch, (b ∈ X.ex ∨ X.s₀.heap.objs.size ≤ b) ∧ b ≠ X.env.locals ∧ (∀ x c, X.env.cells.lookup x = some c → c ≠ b) ∧ ∀ p ∈ X.pn ++ pins, p.1 ≠ b)
    (keep : ∀ b o, b ≠ X.env.locals → b ∉ X.fs → b ∉ ch → s.heap.get? b = some o → H b = none → h'.get? b = some o)
    (slot : ∀ b o, b ≠ X.env.locals → b ∈ X.fs → b ∉ ch → s.heap.get? b = some o → H b = none → ∃ sl, h'.get? b = some { o with slots := sl }) (free : ∀ b o, b ∉ ch → s.heap.get? b = some o → H b = none → H' b = none)
    (there : ∀ b o, b ∉ ch → s.heap.get? b = some o → ∃ o', h'.get? b = some o')
    (tups : ∀ b xs, H b = some (.tup xs) → H' b = some (.tup xs)) (frzs : ∀ b o u, H b = some (.frz o u) → H' b = some (.frz o u)) (tbls : ∀ b ps, H b = some (.tbl ps) → ∃ more, H' b = some (.tbl (ps ++ more)))
    (ns : ∀ m, s.heap.Ns X.env.locals m → h'.Ns X.env.locals m) (hok : HOk X.prog X.w H' h') (hg : AllBare g') :
    Inv X pins σ H' { s with heap := h', gens := g', drawn := d', toks := t' } := by
  have neL : ∀ b o, X.s₀.heap.get? b = some o → b ≠ X.env.locals := fun b o e => Nat.ne_of_lt (Nat.lt_of_lt_of_le (Heap.lt_size e) I.ok.above)
  have neC : ∀ b o, X.s₀.heap.get? b = some o → b ∉ X.ex → b ∉ ch := fun b o e hx hb => by
    rcases (hch b hb).1 with z | z
    · exact hx z
    · exact absurd (Nat.lt_of_lt_of_le (Heap.lt_size e) z) (Nat.lt_irrefl _)
  have cellK : ∀ x c, X.env.cells.lookup x = some c → ∀ v, s.heap.IsCell c v → h'.IsCell c v := fun x c e v ⟨o, ho, hd⟩ => by
    have nch : c ∉ ch := fun z => (hch c z).2.2.1 x c e rfl
    by_cases hc : c ∈ X.fs
    · obtain ⟨sl, q⟩ := slot c o (I.cne x c e) hc nch ho (I.freeC x c e)
      exact ⟨_, q, hd⟩
    · exact ⟨o, keep c o (I.cne x c e) hc nch ho (I.freeC x c e), hd⟩
  refine ⟨I.ok, I.os, hg, ⟨fun b o e n hb hx => ?_, fun b o e n hb hx => ?_, fun b o e n hx => ?_, fun b o e hx => ?_, fun b xs e => tups b xs (I.base.tups b xs e), fun b o xs e => frzs b o xs (I.base.frzs b o xs e), fun b ps e => ?_⟩, ?_, fun x c e => ?_, ?_, fun x c e => ?_, fun p hp => ?_, hok, I.len⟩
  · exact keep b o (neL b o e) hb (neC b o e hx) (I.base.keep b o e n hb hx) (I.base.free b o e n hx)
  · obtain ⟨sl, e1⟩ := I.base.slot b o e n hb hx
    obtain ⟨sl', e2⟩ := slot b _ (neL b o e) hb (neC b o e hx) e1 (I.base.free b o e n hx)
    exact ⟨sl', e2⟩
  · obtain ⟨o', e1⟩ := I.base.there b o e hx
    exact free b o' (neC b o e hx) e1 (I.base.free b o e n hx)
  · obtain ⟨o', e1⟩ := I.base.there b o e hx
    exact there b o' (neC b o e hx) e1
  · obtain ⟨m1, e1⟩ := I.base.tbls b ps e
    obtain ⟨m2, e2⟩ := tbls b _ e1
    exact ⟨m1 ++ m2, by rw [e2, Array.append_assoc]⟩
  · obtain ⟨m, hn, hl⟩ := I.loc
    refine ⟨m, ns m hn, fun i x v e1 e2 e3 => ?_⟩
    obtain ⟨u, r, l⟩ := hl i x v e1 e2 e3
    refine ⟨u, r, ?_⟩
    rcases l with l | ⟨k, c, e, z⟩
    · exact .inl l
    · exact .inr ⟨k, c, e, cellK x c e _ z⟩
  · obtain ⟨v, z⟩ := I.cell x c e
    exact ⟨v, cellK x c e v z⟩
  · obtain ⟨m, ⟨o, _, _, ho, _⟩, _⟩ := I.loc
    exact free _ o (fun z => (hch _ z).2.1 rfl) ho I.free
  · obtain ⟨v, o, ho, hd⟩ := I.cell x c e
    exact free c o (fun z => (hch c z).2.2.1 x c e rfl) ho (I.freeC x c e)
  · obtain ⟨e, n, ne, nf, d⟩ := I.pin p hp
    have nch : p.1 ∉ ch := fun z => (hch p.1 z).2.2.2 p hp rfl
    exact ⟨keep p.1 p.2 ne nf nch e n, free p.1 p.2 nch e n, ne, nf, d⟩
/-- .. where the frame's own object is kept too -/
theorem Inv.un {t' : Nat} (I : Inv X pins σ H s) (u : Un X.fs [] H H' s.heap h') (hok : HOk X.prog X.w H' h') : Inv X pins σ H' { s with heap := h', toks := t' } := by
  obtain ⟨m, ⟨o, es, ep, ho, r⟩, _⟩ := id I.loc
  obtain ⟨sl, hL⟩ := u.any ho I.free (by simp)
  exact I.step (g' := s.gens) (d' := s.drawn) (ch := []) (fun _ z => nomatch z) (fun b o _ hb _ e n => u.keep b o e n hb (by simp)) (fun b o _ hb _ e n => u.slot b o e n hb (by simp)) (fun b o _ e n => u.free b o e n (by simp)) (fun b o _ e => u.there b o e (by simp)) u.tups u.frzs u.tbls (fun m' hm => by
    obtain ⟨o', es', ep', ho', r'⟩ := hm
    rw [ho] at ho'; cases ho'
    exact ⟨_, es', ep', hL, r'⟩) hok I.bare
/-- behind a call (or a comprehension's block): the slots of this frame may have changed too, the records at ch may have turned -/
theorem Inv.call {g' : Array GenState} {t' : Nat} {d' : Drawn} {ch : List Addr} (I : Inv X pins σ H s) (u : Un (frs X.stack) ch H H' s.heap h') (hok : HOk X.prog X.w H' h') (hg : AllBare g')
    (hch : ∀ b ∈ ch, (b ∈ X.ex ∨ X.s₀.heap.objs.size ≤ b) ∧ b ≠ X.env.locals ∧ (∀ x c, X.env.cells.lookup x = some c → c ≠ b) ∧ ∀ p ∈ X.pn ++ pins, p.1 ≠ b) :
    Inv X pins σ H' { s with heap := h', gens := g', drawn := d', toks := t' } := by
  obtain ⟨m, ⟨o, es, ep, ho, r⟩, _⟩ := id I.loc
  obtain ⟨sl, hL⟩ := u.any ho I.free fun z => (hch _ z).2.1 rfl
  exact I.step (ch := ch) hch (fun b o hL hb hc e n => u.keep b o e n (fun z => (List.mem_cons.mp (I.stkSub b z)).elim hL hb) hc) (fun b o _ _ hc e n => u.any e n hc) (fun b o hc e n => u.free b o e n hc) (fun b o hc e => u.there b o e hc) u.tups u.frzs u.tbls (fun m' hm => by
    obtain ⟨o', es', ep', ho', r'⟩ := hm
    rw [ho] at ho'; cases ho'
    exact ⟨_, es', ep', hL, r'⟩) hok hg
/-- an untracked record of ours (an iterator) has turned -/
theorem Inv.turned {t' : Nat} {it : Addr} (I : Inv X pins σ H s) (k : ∀ b o, b ≠ it → s.heap.get? b = some o → h'.get? b = some o) (hn : H it = none) (hL : it ≠ X.env.locals)
    (h1 : it ∈ X.ex ∨ X.s₀.heap.objs.size ≤ it) (h2 : ∀ x c, X.env.cells.lookup x = some c → c ≠ it) (h3 : ∀ p ∈ X.pn ++ pins, p.1 ≠ it) : Inv X pins σ H { s with heap := h', toks := t' } := by
  have nit : ∀ b u, H b = some u → b ≠ it := fun b u e z => by rw [z, hn] at e; cases e
  refine I.step (g' := s.gens) (d' := s.drawn) (ch := [it]) (fun b hb => ?_) (fun b o _ _ hc e _ => k b o (fun z => hc (by simp [z])) e) (fun b o _ _ hc e _ => ⟨o.slots, k b o (fun z => hc (by simp [z])) e⟩) (fun _ _ _ _ n => n)
    (fun b o hc e => ⟨o, k b o (fun z => hc (by simp [z])) e⟩) (fun _ _ e => e) (fun _ _ _ e => e) (fun b ps e => ⟨#[], by rw [e]; simp⟩) (fun m hm => ?_) (fun b u e => ?_) I.bare
  · have e : b = it := by simpa using hb
    subst e
    exact ⟨h1, hL, h2, h3⟩
  · obtain ⟨o, es, ep, ho, r⟩ := hm
    exact ⟨o, es, ep, k _ o (Ne.symm hL) ho, r⟩
  · refine (I.hok b u e).stay (fun c v hc q => k c v ?_ q) (fun _ q => q) fun _ _ q => q
    rcases hc with z | z
    · rw [z]; exact nit b u e
    · exact nit c _ z
theorem Inv.tok (I : Inv X pins σ H s) (t : Nat) : Inv X pins σ H { s with toks := t } := I.un (h' := s.heap) (t' := t) Un.refl I.hok
/-- all objects kept -/
theorem Inv.kept {t' : Nat} (I : Inv X pins σ H s) (k : ∀ b u, s.heap.get? b = some u → h'.get? b = some u) : Inv X pins σ H { s with heap := h', toks := t' } := I.un (Un.kept k) (I.hok.kept k)
/-- a new object laid and tracked -/
theorem Inv.laid {a : Addr} {o : HO} {t' : Nat} (I : Inv X pins σ H s) (k : ∀ b u, s.heap.get? b = some u → h'.get? b = some u) (hp : s.heap.objs.size ≤ a) (new : ObjOk X.prog X.w (upd H a o) h' a o) :
    Inv X pins σ (upd H a o) { s with heap := h', toks := t' } := I.un (Un.laid k hp (I.hok.fresh hp)) (I.hok.laid k hp new)
/-- an object written -/
theorem Inv.write {x e : Addr} {o : HO} {t' : Nat} (I : Inv X pins σ H s) (mu : Mut (H x)) (he : e = x ∨ H e = some (.own x)) (k : ∀ b u, b ≠ e → s.heap.get? b = some u → h'.get? b = some u) (heo : ∃ u, h'.get? e = some u)
    (new : ObjOk X.prog X.w (upd H x o) h' x o) : Inv X pins σ (upd H x o) { s with heap := h', toks := t' } := I.un (Un.write mu he k heo) (I.hok.write mu he k heo new)
theorem Inv.pins_of {pins' : List (Addr × Obj)} (I : Inv X pins σ H s) (h : ∀ p ∈ pins', s.heap.get? p.1 = some p.2 ∧ H p.1 = none ∧ p.1 ≠ X.env.locals ∧ p.1 ∉ X.fs ∧ ∀ v, p.2.data ≠ .cell v) : Inv X pins' σ H s :=
  ⟨I.ok, I.os, I.bare, I.base, I.loc, I.cell, I.free, I.freeC, fun p hp => (List.mem_append.mp hp).elim (fun z => I.pin p (List.mem_append_left _ z)) (h p), I.hok, I.len⟩

theorem nodup_ix {N : List Str} (hN : N.Nodup) {i j : Nat} {x : Str} (a : N[i]? = some x) (b : N[j]? = some x) : i = j := by
  obtain ⟨h1, e1⟩ := List.getElem?_eq_some_iff.mp a
  obtain ⟨h2, e2⟩ := List.getElem?_eq_some_iff.mp b
  exact (List.getElem_inj hN).mp (e1.trans e2.symm)

/-- a name is stored; what changed -/
theorem store_ok2 {M : Model} {A : Around} {E : Value → Shared → Prop} {i : Nat} {x : Str} {v : V} {u : Value} {Q : Unit → Shared → Prop} (I : Inv X pins σ H s) (hN : X.N.Nodup) (hi : X.N[i]? = some x) (hx : Loc X.env.scope x) (r : RelV v u)
    (h : ∀ s', Inv X pins (σ.set i (some v)) H s' → (∃ a, Heap.SameBut a s.heap s'.heap ∧ (a = X.env.locals ∨ X.env.cells.lookup x = some a)) → Q () s') (hf : X.fn x = true ∨ X.env.scope.names.lookup x = some .local := by first | exact .inl rfl | exact .inr rfl | assumption) : wpAny M A (storeName X.env x u) Q E s := by
  obtain ⟨m, hn, hl⟩ := id I.loc
  have hcls : (X.env.scope.kind == .class || (X.env.scope.kind == .module && X.env.locals != X.env.globals)) = false := by rw [I.ok.kind]; rfl
  have hiσ : i < σ.length := by rw [I.len]; exact (List.getElem?_eq_some_iff.mp hi).1
  have cne := I.cne
  have tracked : ∀ {a : Addr} {h' : Heap}, (∃ o, s.heap.get? a = some o ∧ H a = none) → Heap.SameBut a s.heap h' → HOk X.prog X.w H h' := fun {a h'} ha hs b ob e => by
    obtain ⟨_, _, hfree⟩ := ha
    refine (I.hok b ob e).stay (fun c w' hc q => (hs.2 c ?_).trans q) (fun _ q => q) fun _ _ q => q
    rintro rfl
    rcases hc with rfl | hc
    · rw [hfree] at e; cases e
    · rw [hfree] at hc; cases hc
  rcases hx with hk | hk
  · refine wpAny_storeName_local hk hn (fun h' hn' hs => ?_) hcls
    obtain ⟨oL, _, _, hoL, _⟩ := id hn
    refine h _ ⟨I.ok, I.os, I.bare, ⟨fun b o e n hb hx => ?_, fun b o e n hb hx => ?_, I.base.free, fun b o e hx => ?_, I.base.tups, I.base.frzs, I.base.tbls⟩, ⟨_, hn', fun j y v' e1 e2 e3 => ?_⟩, fun y c e => ?_, I.free, I.freeC, fun p hp => ?_, tracked ⟨oL, hoL, I.free⟩ hs, by simpa using I.len⟩ ⟨_, hs, .inl rfl⟩
    · exact (hs.2 b (Nat.ne_of_lt (Nat.lt_of_lt_of_le (Heap.lt_size e) I.ok.above))).trans (I.base.keep b o e n hb hx)
    · obtain ⟨sl, e1⟩ := I.base.slot b o e n hb hx
      exact ⟨sl, (hs.2 b (Nat.ne_of_lt (Nat.lt_of_lt_of_le (Heap.lt_size e) I.ok.above))).trans e1⟩
    · obtain ⟨o', e1⟩ := I.base.there b o e hx
      exact ⟨o', (hs.2 b (Nat.ne_of_lt (Nat.lt_of_lt_of_le (Heap.lt_size e) I.ok.above))).trans e1⟩
    · by_cases hj : j = i
      · subst hj
        rw [hi] at e1; cases e1
        rw [List.getElem?_set_self hiσ] at e2
        cases e2
        exact ⟨u, r, .inl ⟨hk, by simp⟩⟩
      · rw [List.getElem?_set_ne (Ne.symm hj)] at e2
        obtain ⟨u', r', q⟩ := hl j y v' e1 e2 e3
        refine ⟨u', r', ?_⟩
        rcases q with ⟨k, e⟩ | ⟨k, c, e, z⟩
        · refine .inl ⟨k, ?_⟩
          have : y ≠ x := fun e => hj (nodup_ix hN e1 (e ▸ hi))
          simp [this, e]
        · exact .inr ⟨k, c, e, z.sameBut hs (cne y c e)⟩
    · obtain ⟨w', z⟩ := I.cell y c e
      exact ⟨w', z.sameBut hs (cne y c e)⟩
    · obtain ⟨e, n, ne, nf, d⟩ := I.pin p hp
      exact ⟨(hs.2 p.1 ne).trans e, n, ne, nf, d⟩
  · have hfn : X.fn x = true := by
      rcases hf with z | z
      · exact z
      · rw [z] at hk; cases hk
    obtain ⟨c, hc⟩ := I.ok.has x (.inl hk)
    obtain ⟨w', z⟩ := I.cell x c hc
    refine wpAny_storeName_cell I.ok.kind hk hc z (fun h' hc' hs => ?_)
    obtain ⟨oc, hoc, hocd⟩ := id z
    refine h { s with heap := h' } ⟨I.ok, I.os, I.bare, ⟨fun b o e n hb hx => ?_, fun b o e n hb hx => ?_, I.base.free, fun b o e hx => ?_, I.base.tups, I.base.frzs, I.base.tbls⟩, ⟨m, hn.sameBut hs (Ne.symm (cne x c hc)), fun j y v' e1 e2 e3 => ?_⟩, fun y c' e => ?_, I.free, I.freeC, fun p hp => ?_, tracked ⟨oc, hoc, I.freeC x c hc⟩ hs, by simpa using I.len⟩ ⟨c, hs, .inr hc⟩
    · exact (hs.2 b (Nat.ne_of_lt (Nat.lt_of_lt_of_le (Heap.lt_size e) (I.ok.cab x c hfn hc)))).trans (I.base.keep b o e n hb hx)
    · obtain ⟨sl, e1⟩ := I.base.slot b o e n hb hx
      exact ⟨sl, (hs.2 b (Nat.ne_of_lt (Nat.lt_of_lt_of_le (Heap.lt_size e) (I.ok.cab x c hfn hc)))).trans e1⟩
    · obtain ⟨o', e1⟩ := I.base.there b o e hx
      exact ⟨o', (hs.2 b (Nat.ne_of_lt (Nat.lt_of_lt_of_le (Heap.lt_size e) (I.ok.cab x c hfn hc)))).trans e1⟩
    · by_cases hj : j = i
      · subst hj
        rw [hi] at e1; cases e1
        rw [List.getElem?_set_self hiσ] at e2
        cases e2
        exact ⟨u, r, .inr ⟨.inl hk, c, hc, hc'⟩⟩
      · rw [List.getElem?_set_ne (Ne.symm hj)] at e2
        obtain ⟨u', r', q⟩ := hl j y v' e1 e2 e3
        refine ⟨u', r', ?_⟩
        rcases q with q | ⟨k, c', e, z'⟩
        · exact .inl q
        · refine .inr ⟨k, c', e, z'.sameBut hs ?_⟩
          rintro rfl
          exact hj (nodup_ix hN e1 (I.ok.inj _ _ _ e hc ▸ hi))
    · by_cases hcc : c' = c
      · subst hcc; exact ⟨_, hc'⟩
      · obtain ⟨w2, z2⟩ := I.cell y c' e
        exact ⟨w2, z2.sameBut hs hcc⟩
    · obtain ⟨e, n, ne, nf, d⟩ := I.pin p hp
      refine ⟨(hs.2 p.1 ?_).trans e, n, ne, nf, d⟩
      intro q
      rw [q, hoc] at e
      have q' : oc = p.2 := Option.some.inj e
      exact d w' (by rw [← q']; exact hocd)
theorem store_ok {M : Model} {A : Around} {E : Value → Shared → Prop} {i : Nat} {x : Str} {v : V} {u : Value} {Q : Unit → Shared → Prop} (I : Inv X pins σ H s) (hN : X.N.Nodup) (hi : X.N[i]? = some x) (hx : Loc X.env.scope x) (r : RelV v u)
    (h : ∀ s', Inv X pins (σ.set i (some v)) H s' → Q () s') (hf : X.fn x = true ∨ X.env.scope.names.lookup x = some .local := by first | exact .inl rfl | exact .inr rfl | assumption) : wpAny M A (storeName X.env x u) Q E s :=
  store_ok2 I hN hi hx r (fun s' I' _ => h s' I') hf
/-- behind a call or a block, the state as it is -/
theorem Inv.call' {s' : Shared} {ch : List Addr} (I : Inv X pins σ H s) (ho : s'.os = s.os) (u : Un (frs X.stack) ch H H' s.heap s'.heap) (hok : HOk X.prog X.w H' s'.heap) (hg : AllBare s'.gens)
    (hch : ∀ b ∈ ch, (b ∈ X.ex ∨ X.s₀.heap.objs.size ≤ b) ∧ b ≠ X.env.locals ∧ (∀ x c, X.env.cells.lookup x = some c → c ≠ b) ∧ ∀ p ∈ X.pn ++ pins, p.1 ≠ b) : Inv X pins σ H' s' := by
  obtain ⟨h', g', d', t', o'⟩ := s'
  have e : o' = s.os := ho
  subst e
  exact I.call (g' := g') (t' := t') (d' := d') u hok hg hch
end

/-! ### the judgements -/
/-- an exception: its class, its own dict's address (where it has one), the abstract heap behind it -/
abbrev XK := Value → Option Addr → Hp → Prop
abbrev St := List (Option V)
abbrev VK := V → Hp → Prop
/-- an expression's reading; a test's; an argument list's -/
abbrev TE := St → Hp → VK → Prop
abbrev TT := St → Hp → (Bool → Hp → Prop) → Prop
abbrev TA := St → Hp → (List V → Hp → Prop) → Prop
/-- what is wanted behind a statement -/
structure Ends where
  nx : St → Hp → Prop
  rt : VK
  bk : St → Hp → Prop := fun _ _ => False
  ct : St → Hp → Prop := fun _ _ => False
abbrev TS := Ends → St → Hp → Prop

def EP (X : Cx) (pins : List (Addr × Obj)) (σ : St) (Q : VK) (u : Value) (s' : Shared) : Prop := ∃ v H', Inv X pins σ H' s' ∧ RelV v u ∧ Q v H'
def TP (X : Cx) (pins : List (Addr × Obj)) (σ : St) (Q : Bool → Hp → Prop) (b : Bool) (s' : Shared) : Prop := ∃ H', Inv X pins σ H' s' ∧ Q b H'
def AP (X : Cx) (pins : List (Addr × Obj)) (σ : St) (Q : List V → Hp → Prop) (us : List Value) (s' : Shared) : Prop := ∃ vs H', Inv X pins σ H' s' ∧ Vals vs us ∧ Q vs H'
def SP (X : Cx) (pins : List (Addr × Obj)) (D : Ends) (f : Flow) (s' : Shared) : Prop :=
  match f with
  | .next => ∃ σ' H', Inv X pins σ' H' s' ∧ D.nx σ' H'
  | .brk => ∃ σ' H', Inv X pins σ' H' s' ∧ D.bk σ' H'
  | .cont => ∃ σ' H', Inv X pins σ' H' s' ∧ D.ct σ' H'
  | .ret u => ∃ v σ' H', Inv X pins σ' H' s' ∧ RelV v u ∧ D.rt v H'

def PE (X : Cx) (e : Expr) (t : TE) : Prop :=
  ∀ (pins : List (Addr × Obj)) (s : Shared) (σ : St) (H : Hp) (Q : VK), Inv X pins σ H s → t σ H Q → wpAny (model X.prog X.w) X.A (eval e X.env) (EP X pins σ Q) X.xe s
def PT (X : Cx) (e : Expr) (t : TT) : Prop :=
  ∀ (pins : List (Addr × Obj)) (s : Shared) (σ : St) (H : Hp) (Q : Bool → Hp → Prop), Inv X pins σ H s → t σ H Q → wpAny (model X.prog X.w) X.A (isTrue e X.env (eval e X.env)) (TP X pins σ Q) X.xe s
/-- a test whatever its 'whole' is (and, or) -/
def PW (X : Cx) (e : Expr) (t : TT) : Prop :=
  ∀ (whole : Sem Value) (pins : List (Addr × Obj)) (s : Shared) (σ : St) (H : Hp) (Q : Bool → Hp → Prop), Inv X pins σ H s → t σ H Q → wpAny (model X.prog X.w) X.A (isTrue e X.env whole) (TP X pins σ Q) X.xe s
theorem PW.pt {X : Cx} {e : Expr} {t : TT} (h : PW X e t) : PT X e t := h _
/-- an argument list (no star), from the left -/
def PA (X : Cx) (es : List Expr) (t : TA) : Prop :=
  ∀ (pos : Pos) (pins : List (Addr × Obj)) (s : Shared) (σ : St) (H : Hp) (Q : List V → Hp → Prop), Inv X pins σ H s → t σ H Q → wpAny (model X.prog X.w) X.A (spliced (backTo pos (starEach es X.env))) (AP X pins σ Q) X.xe s
def PS (X : Cx) (st : Stmt) (t : TS) : Prop :=
  ∀ (pins : List (Addr × Obj)) (s : Shared) (σ : St) (H : Hp) (D : Ends), Inv X pins σ H s → t D σ H → wpAny (model X.prog X.w) X.A (exec st X.env) (SP X pins D) X.xe s
def PSs (X : Cx) (st : List Stmt) (t : TS) : Prop :=
  ∀ (pins : List (Addr × Obj)) (s : Shared) (σ : St) (H : Hp) (D : Ends), Inv X pins σ H s → t D σ H → wpAny (model X.prog X.w) X.A (execs st X.env) (SP X pins D) X.xe s
/-- weaken the end -/
theorem thn {α : Type} {t : Sem α} {Q Q' : α → Shared → Prop} {M : Model} {A : Around} {E : Value → Shared → Prop} {s : Shared} (h : wpAny M A t Q E s) (hQ : ∀ a s, Q a s → Q' a s) : wpAny M A t Q' E s := wpAny_mono h hQ fun _ _ x => x
end L2

namespace L2
open PySem PySem.Spec PyProof.Rows
section
variable {X : Cx}

/-! ### names and constants -/
def tVar (i : Nat) : TE := fun σ H Q => ∃ v, σ[i]? = some (some v) ∧ Q v H
def tC (v : V) : TE := fun _ H Q => Q v H
theorem pe_var {i : Nat} {x : Str} {pos : Pos} (hN : X.N[i]? = some x) (hv : Vis X.env.scope x) (hd : (x == ("__debug__" : Str)) = false := by decide) (hcd : (x == ("__classdict__" : Str)) = false := by decide) : PE X (.Name x pos) (tVar i) := by
  intro pins s σ H Q I h
  obtain ⟨v, e, h⟩ := h
  obtain ⟨m, hn, hl⟩ := I.loc
  obtain ⟨u, r, l⟩ := hl i x v hN e hv
  have fin : EP X pins σ Q u s := ⟨v, H, I, r, h⟩
  rcases l with ⟨hk, hm⟩ | ⟨hk, c, hc, hcell⟩
  · exact wpAny_Name (wpAny_loadName_local I.ok.kind hk hn hm fin) hd
  · rcases hk with hk | hk
    · exact wpAny_Name (wpAny_loadName_cell I.ok.kind hk hc hcell fin) hd
    · exact wpAny_Name (wpAny_loadName_free I.ok.kind hk hc hcell fin hcd) hd
theorem pe_int {i j pos} : PE X (.Constant (.int i) j pos) (tC (.int i)) := fun _ _ _ H _ I h => wpAny_Constant_int ⟨.int i, H, I.tok _, ⟨_, rfl⟩, h⟩
theorem pe_bl {b j pos} : PE X (.Constant (.bool b) j pos) (tC (.bl b)) := fun _ _ _ H _ I h => Constant_bool ⟨.bl b, H, I, rfl, h⟩
theorem pe_non {j pos} : PE X (.Constant .none j pos) (tC .non) := fun _ _ _ H _ I h => Constant_none ⟨.non, H, I, rfl, h⟩
theorem pe_str {x j pos} : PE X (.Constant (.str x) j pos) (tC (.str x)) := fun _ _ _ H _ I h => Calls.Constant_str ⟨.str x, H, I.tok _, ⟨_, rfl⟩, h⟩

/-- a global name of the def -/
def Gl (X : Cx) (x : Str) : Prop := X.env.kindOf x = some .globalImplicit
theorem ld_glob {E : Value → Shared → Prop} {pins : List (Addr × Obj)} {s : Shared} {σ : St} {H : Hp} {x : Str} {u : Value} {pos : Pos} {Q : Value → Shared → Prop} (I : Inv X pins σ H s) (hg : Gl X x) (hm : X.mg x = some u) (h : Q u s)
    (hd : (x == ("__debug__" : Str)) = false := by decide) : wpAny (model X.prog X.w) X.A (eval (.Name x pos) X.env) Q E s :=
  Calls.Name_function_global I.ok.kind hg (Calls.loadGlobal_global (by rw [I.ok.glob]; exact I.mod.glob.keeps I.bk) hm h) hd
theorem ld_blt {E : Value → Shared → Prop} {pins : List (Addr × Obj)} {s : Shared} {σ : St} {H : Hp} {x : Str} {u : Value} {pos : Pos} {Q : Value → Shared → Prop} (I : Inv X pins σ H s) (hg : Gl X x) (hm : X.mg x = none) (hv : bootBuiltins x = some u) (h : Q u s)
    (hn : x ≠ "__name__" := by decide) (hd : (x == ("__debug__" : Str)) = false := by decide) : wpAny (model X.prog X.w) X.A (eval (.Name x pos) X.env) Q E s := by
  obtain ⟨mb, h1, h2⟩ := I.mod.blt
  exact Calls.Name_function_global I.ok.kind hg (Calls.loadGlobal_builtin (by rw [I.ok.glob]; exact I.mod.glob.keeps I.bk) hm (by rw [I.ok.blt]; exact h1.keeps I.bk) ((h2 x hn).trans hv) h) hd
theorem pe_bltn {x : Str} {v : V} {u : Value} {pos : Pos} (hg : Gl X x) (hm : X.mg x = none) (hv : bootBuiltins x = some u) (r : RelV v u) (hn : x ≠ "__name__" := by decide) (hd : (x == ("__debug__" : Str)) = false := by decide) : PE X (.Name x pos) (tC v) :=
  fun _ _ _ H _ I h => ld_blt I hg hm hv ⟨v, H, I, r, h⟩ hn hd

/-! ### arithmetic -/
/-- two ints -/
def t2I (ta tb : TE) (k : Int → Int → Hp → Prop) : St → Hp → Prop := fun σ H => ta σ H fun x H1 => tb σ H1 fun y H2 => ∃ i j, x = .int i ∧ y = .int j ∧ k i j H2
def tAdd (ta tb : TE) : TE := fun σ H Q => t2I ta tb (fun i j H2 => Q (.int (i + j)) H2) σ H
def tSub (ta tb : TE) : TE := fun σ H Q => t2I ta tb (fun i j H2 => Q (.int (i - j)) H2) σ H
/-- the left factor below 2^64 -/
def tMul (ta tb : TE) : TE := fun σ H Q => t2I ta tb (fun i j H2 => (-(2 ^ 64) < i ∧ i < 2 ^ 64) ∧ Q (.int (i * j)) H2) σ H
variable {a b : Expr} {ta tb : TE} {pos : Pos}
/-! ### comparisons -/
def PC (X : Cx) (op : CmpOp) (a b : Expr) (t : TE) : Prop :=
  ∀ (pins : List (Addr × Obj)) (s : Shared) (σ : St) (H : Hp) (Q : VK), Inv X pins σ H s → t σ H Q →
    wpAny (model X.prog X.w) X.A (eval a X.env) (fun v s₁ => wpAny (model X.prog X.w) X.A (eval b X.env) (fun u s₂ => wpAny (model X.prog X.w) X.A (compareOp op v u) (EP X pins σ Q) X.xe s₂) X.xe s₁) X.xe s
def tCmp (p : Int → Int → Bool) (ta tb : TE) : TE := fun σ H Q => t2I ta tb (fun i j H2 => Q (.bl (p i j)) H2) σ H
abbrev tLt : TE → TE → TE := tCmp fun i j => decide (i < j)
abbrev tLe : TE → TE → TE := tCmp fun i j => decide (i ≤ j)
abbrev tGt : TE → TE → TE := tCmp fun i j => decide (j < i)
abbrev tGe : TE → TE → TE := tCmp fun i j => decide (j ≤ i)
abbrev tEqI : TE → TE → TE := tCmp fun i j => decide (i = j)
abbrev tNeI : TE → TE → TE := tCmp fun i j => !decide (i = j)
/-- is None -/
def tIsN (ta : TE) : TE := fun σ H Q => ta σ H fun x H1 => Q (.bl (decide (x = .non))) H1
def tNotN (ta : TE) : TE := fun σ H Q => ta σ H fun x H1 => Q (.bl (!decide (x = .non))) H1
/-- a comparison as a value, as a test -/
def tB (t : TE) : TT := fun σ H Q => t σ H fun x H1 => ∃ c, x = .bl c ∧ Q c H1
/-- an expression whose value is a bool, as a test -/
theorem pt_val {e : Expr} {t : TE} (h : PE X e t) (he : ∀ whole, isTrue e X.env whole = (do let v ← whole; standAt e.pos; holding [v] (truthy v)) := by intro _; rfl) : PT X e (tB t) := by
  intro pins s σ H Q I hw
  refine isTrue_plain (thn (h pins s σ H _ I hw) fun v s1 ⟨x, H1, I1, r1, q1⟩ => ?_) (he _)
  obtain ⟨d, rfl, q⟩ := q1
  cases r1
  exact wpAny_truthy_bool ⟨H1, I1, q⟩

/-! ### and, or, not -/
variable {tA tB' : TT} {rest : List Expr}
def tAnd (t u : TT) : TT := fun σ H Q => t σ H fun c H1 => if c = true then u σ H1 Q else Q false H1
def tOr (t u : TT) : TT := fun σ H Q => t σ H fun c H1 => if c = true then Q true H1 else u σ H1 Q
def tNot (t : TT) : TT := fun σ H Q => t σ H fun c H1 => Q (!c) H1
theorem pw_or1 (ha : PT X a tA) : PW X (.BoolOp .Or [a] pos) tA := by
  intro wh pins s σ H Q I h
  refine isTrue_or (thn (ha pins s σ H Q I h) fun c s1 e => ?_)
  cases c with
  | false => exact isTrue_or_nil e
  | true => exact e
theorem pw_or (ha : PT X a tA) (hb : PW X (.BoolOp .Or (b :: rest) pos) tB') : PW X (.BoolOp .Or (a :: b :: rest) pos) (tOr tA tB') := by
  intro wh pins s σ H Q I h
  refine isTrue_or (thn (ha pins s σ H _ I h) fun c s1 ⟨H1, I1, q1⟩ => ?_)
  cases c with
  | true => exact ⟨H1, I1, q1⟩
  | false => exact hb wh pins s1 σ H1 Q I1 q1
theorem pt_not (ha : PT X a tA) : PT X (.UnaryOp .Not a pos) (tNot tA) := by
  intro pins s σ H Q I h
  exact isTrue_not (ha pins s σ H (fun c H1 => Q (!c) H1) I h)
/-- .. as values (bools) -/
def tAndV (ta tb : TE) : TE := fun σ H Q => ta σ H fun x H1 => ∃ c, x = .bl c ∧ if c = true then tb σ H1 Q else Q (.bl false) H1
def tOrV (ta tb : TE) : TE := fun σ H Q => ta σ H fun x H1 => ∃ c, x = .bl c ∧ if c = true then Q (.bl true) H1 else tb σ H1 Q
def tNotV (ta : TE) : TE := fun σ H Q => ta σ H fun x H1 => ∃ c, x = .bl c ∧ Q (.bl (!c)) H1
theorem pe_one {op} {t : TE} (h : PE X a t) : PE X (.BoolOp op [a] pos) t := fun pins s σ H Q I hw => BoolOp_one (h pins s σ H Q I hw)
theorem pe_and (ha : PE X a ta) (hb : PE X (.BoolOp .And (b :: rest) pos) tb) : PE X (.BoolOp .And (a :: b :: rest) pos) (tAndV ta tb) := by
  intro pins s σ H Q I h
  refine BoolOp_and (thn (ha pins s σ H _ I h) fun v s1 ⟨x, H1, I1, r1, q1⟩ => ?_)
  obtain ⟨c, rfl, q1⟩ := q1
  cases r1
  refine wpAny_truthy_bool ?_
  cases c with
  | true => exact hb pins s1 σ H1 Q I1 q1
  | false => exact ⟨.bl false, H1, I1, rfl, q1⟩
theorem pe_not (ha : PE X a ta) : PE X (.UnaryOp .Not a pos) (tNotV ta) := by
  intro pins s σ H Q I h
  refine UnaryOp_ (thn (ha pins s σ H _ I h) fun v s1 ⟨x, H1, I1, r1, q1⟩ => ?_)
  obtain ⟨c, rfl, q1⟩ := q1
  cases r1
  exact not_of (wpAny_truthy_bool ⟨.bl (!c), H1, I1, rfl, q1⟩)
/-- a if t else b -/
def tIf (t : TT) (ta tb : TE) : TE := fun σ H Q => t σ H fun c H1 => if c = true then ta σ H1 Q else tb σ H1 Q
theorem pe_ifExp {c : Expr} (hc : PT X c tA) (ha : PE X a ta) (hb : PE X b tb) : PE X (.IfExp c a b pos) (tIf tA ta tb) := by
  intro pins s σ H Q I h
  refine wpAny_IfExp (thn (hc pins s σ H _ I h) fun d s1 ⟨H1, I1, q1⟩ => ?_)
  cases d with
  | true => exact ha pins s1 σ H1 Q I1 q1
  | false => exact hb pins s1 σ H1 Q I1 q1
end
end L2

namespace L2
open PySem PySem.Spec PyProof.Rows

/-! ### a list, a tuple that is read: tracked, frozen, or an object of the module -/
def SqL (K : PySem.W.Frag) (H : Hp) (a : Addr) (xs : List V) : Prop :=
  Rd H a (.lst xs) ∨
    ∃ (o : Obj) (its : Array Value) (n : Nat), K.lookup a = some o ∧ o.cls = .type "list" ∧ o.dict = none ∧ o.data = .seq its n ∧ its.size ≤ sizeLine ∧ Vals xs its.toList
def SqT (K : PySem.W.Frag) (H : Hp) (a : Addr) (xs : List V) : Prop :=
  Rd H a (.tup xs) ∨
    ∃ (o : Obj) (its : Array Value) (n : Nat), K.lookup a = some o ∧ o.cls = .type "tuple" ∧ o.data = .seq its n ∧ its.size ≤ sizeLine ∧ Vals xs its.toList
def absV : Value → Option V
  | .none => some .non
  | .bool b => some (.bl b)
  | .int i _ => some (.int i)
  | .str x _ => some (.str x)
  | .bytes b _ => some (.byt b)
  | .float b _ => some (.flt b)
  | .ref a => some (.ref a)
  | .type n => some (.ty n)
  | _ => none
theorem RelV.abs {x : V} {u : Value} (r : RelV x u) : absV u = some x := by
  cases x with
  | non => cases r; rfl
  | bl _ => cases r; rfl
  | int _ => obtain ⟨t, rfl⟩ := r; rfl
  | str _ => obtain ⟨t, rfl⟩ := r; rfl
  | byt _ => obtain ⟨t, rfl⟩ := r; rfl
  | flt _ => obtain ⟨t, rfl⟩ := r; rfl
  | ref _ => cases r; rfl
  | ty _ => cases r; rfl
theorem RelV.inj {x y : V} {u : Value} (r : RelV x u) (q : RelV y u) : x = y := Option.some.inj (r.abs.symm.trans q.abs)
theorem Vals.inj : ∀ {xs ys : List V} {us : List Value}, Vals xs us → Vals ys us → xs = ys
  | _, _, _, .nil, .nil => rfl
  | _, _, _, .cons r t, .cons r' t' => by rw [r.inj r', Vals.inj t t']
section
variable {X : Cx} {pins : List (Addr × Obj)} {σ : St} {H : Hp} {s : Shared} {a : Addr} {xs ys : List V}
theorem SqL.of {K : PySem.W.Frag} (h : H a = some (.lst xs)) : SqL K H a xs := .inl (.inl h)
theorem SqT.of {K : PySem.W.Frag} (h : H a = some (.tup xs)) : SqT K H a xs := .inl (.inl h)
theorem Inv.list (I : Inv X pins σ H s) (h : SqL X.K H a xs) : ∃ its : List Value, Vals xs its ∧ PlainL s.heap a its.toArray ∧ xs.length ≤ sizeLine := by
  rcases h with h | ⟨o, its, n, hk, hc, hd, hs, hz, r⟩
  · obtain ⟨z, its, n, r, e⟩ := h.ok I.hok
    exact ⟨its, r, ⟨_, n, e, rfl, rfl, rfl⟩, z⟩
  · refine ⟨its.toList, r, ⟨o, n, I.kIn a o hk, hc, hd, by simpa using hs⟩, ?_⟩
    have e := r.length
    simp only [Array.length_toList] at e
    omega
theorem Inv.tuple (I : Inv X pins σ H s) (h : SqT X.K H a xs) : ∃ its : List Value, Vals xs its ∧ IsTup s.heap a its.toArray ∧ xs.length ≤ sizeLine := by
  rcases h with h | ⟨o, its, n, hk, hc, hs, hz, r⟩
  · obtain ⟨z, its, r, p⟩ := h.ok I.hok
    exact ⟨its, r, p, z⟩
  · refine ⟨its.toList, r, ⟨o, I.kIn a o hk, hc, n, by simpa using hs⟩, ?_⟩
    have e := r.length
    simp only [Array.length_toList] at e
    omega
theorem Inv.list_inj (I : Inv X pins σ H s) (h : SqL X.K H a xs) (h' : SqL X.K H a ys) : xs = ys := by
  obtain ⟨its, r, ⟨o, n, e, _, _, d⟩, _⟩ := I.list h
  obtain ⟨its', r', ⟨o', n', e', _, _, d'⟩, _⟩ := I.list h'
  rw [e] at e'; cases e'
  rw [d] at d'
  injection d' with d1 _
  have : its = its' := by simpa using congrArg Array.toList d1
  subst this
  exact r.inj r'
theorem Inv.tuple_inj (I : Inv X pins σ H s) (h : SqT X.K H a xs) (h' : SqT X.K H a ys) : xs = ys := by
  obtain ⟨its, r, ⟨o, e, _, n, d⟩, _⟩ := I.tuple h
  obtain ⟨its', r', ⟨o', e', _, n', d'⟩, _⟩ := I.tuple h'
  rw [e] at e'; cases e'
  rw [d] at d'
  injection d' with d1 _
  have : its = its' := by simpa using congrArg Array.toList d1
  subst this
  exact r.inj r'
end

/-! ### another wish about exceptions -/
abbrev Cx.wish (X : Cx) (E : Value → Shared → Prop) : Cx := { X with xe := E }
/-- no exception leaves -/
abbrev Cx.nox (X : Cx) : Cx := X.wish fun _ _ => False
theorem Cx.Ok.wish {X : Cx} (ok : X.Ok) (E : Value → Shared → Prop) : (X.wish E).Ok :=
  ⟨ok.mod, ok.kind, ok.glob, ok.blt, ok.above, ok.inj, ok.has, ok.cab, ok.hd, ok.frames, ok.stk, ok.exf, ok.bs, ok.bsz, ok.noex, ok.exfs, ok.funs, ok.frf⟩
theorem Cx.Ok.unwish {X : Cx} {E : Value → Shared → Prop} (ok : (X.wish E).Ok) : X.Ok :=
  ⟨ok.mod, ok.kind, ok.glob, ok.blt, ok.above, ok.inj, ok.has, ok.cab, ok.hd, ok.frames, ok.stk, ok.exf, ok.bs, ok.bsz, ok.noex, ok.exfs, ok.funs, ok.frf⟩
section
variable {X : Cx} {pins : List (Addr × Obj)} {σ : St} {H : Hp} {s : Shared} {E : Value → Shared → Prop}
theorem Inv.wish (I : Inv X pins σ H s) (E : Value → Shared → Prop) : Inv (X.wish E) pins σ H s := ⟨I.ok.wish E, I.os, I.bare, I.base, I.loc, I.cell, I.free, I.freeC, I.pin, I.hok, I.len⟩
theorem Inv.unwish (I : Inv (X.wish E) pins σ H s) : Inv X pins σ H s := ⟨I.ok.unwish, I.os, I.bare, I.base, I.loc, I.cell, I.free, I.freeC, I.pin, I.hok, I.len⟩
theorem SP.unwish {D : Ends} {f : Flow} {s' : Shared} (h : SP (X.wish E) pins D f s') : SP X pins D f s' := by
  cases f with
  | next => obtain ⟨σ', H', I, q⟩ := h; exact ⟨σ', H', I.unwish, q⟩
  | brk => obtain ⟨σ', H', I, q⟩ := h; exact ⟨σ', H', I.unwish, q⟩
  | cont => obtain ⟨σ', H', I, q⟩ := h; exact ⟨σ', H', I.unwish, q⟩
  | ret u => obtain ⟨v, σ', H', I, r, q⟩ := h; exact ⟨v, σ', H', I.unwish, r, q⟩
theorem PE.nox {e : Expr} {t : TE} (h : PE X.nox e t) : PE X e t := fun pins s σ H Q I hw =>
  wpAny_mono (h pins s σ H Q (I.wish _) hw) (fun _ _ ⟨v, H', I', r, q⟩ => ⟨v, H', I'.unwish, r, q⟩) fun _ _ z => False.elim z
theorem PT.nox {e : Expr} {t : TT} (h : PT X.nox e t) : PT X e t := fun pins s σ H Q I hw =>
  wpAny_mono (h pins s σ H Q (I.wish _) hw) (fun _ _ ⟨H', I', q⟩ => ⟨H', I'.unwish, q⟩) fun _ _ z => False.elim z
theorem PSs.nox {st : List Stmt} {t : TS} (h : PSs X.nox st t) : PSs X st t := fun pins s σ H D I hw =>
  wpAny_mono (h pins s σ H D (I.wish _) hw) (fun _ _ q => q.unwish) fun _ _ z => False.elim z
end

/-! ### blocks and small statements -/
section
variable {X : Cx} {st : Stmt} {rest : List Stmt} {t u : TS} {e : Expr} {te : TE} {pos : Pos}
def tNext : TS := fun D σ H => D.nx σ H
def tSeq (t u : TS) : TS := fun D σ H => t { D with nx := u D } σ H
theorem pss_nil : PSs X [] tNext := fun _ _ σ H _ I h => wpAny_execs_nil ⟨σ, H, I, h⟩
theorem pss_cons (h1 : PS X st t) (h2 : PSs X rest u) : PSs X (st :: rest) (tSeq t u) := by
  intro pins s σ H D I h
  refine wpAny_execs_cons (thn (h1 pins s σ H { D with nx := u D } I h) fun f s1 q => ?_)
  cases f with
  | next =>
    obtain ⟨σ', H', I', q⟩ := q
    exact h2 pins s1 σ' H' D I' q
  | ret v => exact q
  | brk => exact q
  | cont => exact q
theorem pss_one (h1 : PS X st t) : PSs X [st] t := by
  intro pins s σ H D I h
  refine wpAny_execs_cons (thn (h1 pins s σ H D I h) fun f s1 q => ?_)
  cases f with
  | next => exact wpAny_execs_nil q
  | ret v => exact q
  | brk => exact q
  | cont => exact q
def tBreak : TS := fun D σ H => D.bk σ H
def tCont : TS := fun D σ H => D.ct σ H
/-- in a def's body nothing is shown -/
theorem Inv.quiet {pins : List (Addr × Obj)} {σ : St} {H : Hp} {s : Shared} (I : Inv X pins σ H s) : interactive X.env = false := by simp [interactive, I.ok.kind]
/-- an expression whose value is dropped -/
def tDrop (te : TE) : TS := fun D σ H => te σ H fun _ H1 => D.nx σ H1
theorem ps_expr (he : PE X e te) (hs : swapsWith e none pos.line X.env = pure false := by rfl) : PS X (.Expr e pos) (tDrop te) := by
  intro pins s σ H D I h
  exact wpAny_Expr_any (thn (he pins s σ H _ I h) fun v s1 ⟨x, H1, I1, r1, q1⟩ => ⟨σ, H1, I1, q1⟩) I.quiet hs
def tRet (te : TE) : TS := fun D σ H => te σ H D.rt
theorem ps_ret (he : PE X e te) : PS X (.Return (some e) pos) (tRet te) := by
  intro pins s σ H D I h
  exact wpAny_Return_some (thn (he pins s σ H _ I h) fun v s1 ⟨x, H1, I1, r1, q1⟩ => ⟨x, σ, H1, I1, r1, q1⟩)
def tRetN : TS := fun D _ H => D.rt .non H
def tIfS (c : TT) (t u : TS) : TS := fun D σ H => c σ H fun b H1 => if b = true then t D σ H1 else u D σ H1
theorem ps_if {c : Expr} {a b : List Stmt} {tc : TT} (hc : PT X c tc) (ha : PSs X a t) (hb : PSs X b u) : PS X (.If c a b pos) (tIfS tc t u) := by
  intro pins s σ H D I h
  refine wpAny_If (thn (hc pins s σ H _ I h) fun d s1 ⟨H1, I1, q1⟩ => ?_)
  cases d with
  | true => exact ha pins s1 σ H1 D I1 q1
  | false => exact hb pins s1 σ H1 D I1 q1
/-- code that the proof never comes to -/
def tNever : TS := fun _ _ _ => False
end

/-! ### targets -/
abbrev TG := V → St → Hp → (St → Hp → Prop) → Prop
abbrev TGs := List V → St → Hp → (St → Hp → Prop) → Prop
def PG (X : Cx) (target : Expr) (t : TG) : Prop :=
  ∀ (pins : List (Addr × Obj)) (s : Shared) (σ : St) (H : Hp) (v : V) (u : Value) (Q : St → Hp → Prop), Inv X pins σ H s → RelV v u → t v σ H Q →
    wpAny (model X.prog X.w) X.A (assign target X.env u) (fun _ s' => ∃ σ' H', Inv X pins σ' H' s' ∧ Q σ' H') X.xe s
/-- several targets, one after another -/
def PGs (X : Cx) (ts : List Expr) (t : TGs) : Prop :=
  ∀ (pins : List (Addr × Obj)) (s : Shared) (σ : St) (H : Hp) (vs : List V) (us : List Value) (Q : St → Hp → Prop), Inv X pins σ H s → Vals vs us → t vs σ H Q →
    wpAny (model X.prog X.w) X.A (assignInOrder ((assignEach ts X.env).map (·.2)) us) (fun _ s' => ∃ σ' H', Inv X pins σ' H' s' ∧ Q σ' H') X.xe s
/-- o[i] = v, by values -/
abbrev TSet := V → V → V → Hp → (Hp → Prop) → Prop
def PSet (X : Cx) (t : TSet) : Prop :=
  ∀ (pins : List (Addr × Obj)) (s : Shared) (σ : St) (H : Hp) (o i v : V) (ov iv u : Value) (Q : Hp → Prop), Inv X pins σ H s → RelV o ov → RelV i iv → RelV v u → t o i v H Q →
    wpAny (model X.prog X.w) X.A (setItem ov iv u) (fun _ s' => ∃ H', Inv X pins σ H' s' ∧ Q H') X.xe s
/-- a op= b, by values -/
abbrev TIp := V → V → Hp → VK → Prop
def PIp (X : Cx) (op : Operator) (t : TIp) : Prop :=
  ∀ (pins : List (Addr × Obj)) (s : Shared) (σ : St) (H : Hp) (x y : V) (v u : Value) (Q : VK), Inv X pins σ H s → RelV x v → RelV y u → t x y H Q →
    wpAny (model X.prog X.w) X.A (inplaceOp op v u) (EP X pins σ Q) X.xe s
section
variable {X : Cx} {pos : Pos}
def gName (i : Nat) : TG := fun v σ H Q => Q (σ.set i (some v)) H
theorem pg_name {i : Nat} {x : Str} (hN : X.N.Nodup) (hi : X.N[i]? = some x) (hx : Loc X.env.scope x) (hf : X.fn x = true ∨ X.env.scope.names.lookup x = some .local := by first | exact .inl rfl | exact .inr rfl | assumption) : PG X (.Name x pos) (gName i) := by
  intro pins s σ H v u Q I r h
  exact wpAny_assign_Name (store_ok I hN hi hx r (fun s' I' => ⟨_, H, I', h⟩) hf)
def gNil : TGs := fun vs σ H Q => vs = [] ∧ Q σ H
def gCons (t : TG) (u : TGs) : TGs := fun vs σ H Q => ∃ v r, vs = v :: r ∧ t v σ H fun σ' H' => u r σ' H' Q
/-- (a, b, ..) = a tuple of that length -/
def gTup (K : PySem.W.Frag) (n : Nat) (t : TGs) : TG := fun v σ H Q => ∃ a xs, v = .ref a ∧ SqT K H a xs ∧ xs.length = n ∧ t xs σ H Q
/-- o[i] = .. -/
def gSub (to ti : TE) (t : TSet) : TG := fun v σ H Q => to σ H fun o H1 => ti σ H1 fun i H2 => t o i v H2 fun H3 => Q σ H3
/-- target = value -/
def tAsg (te : TE) (g : TG) : TS := fun D σ H => te σ H fun x H1 => g x σ H1 D.nx
/-- name = value -/
theorem ps_set {i : Nat} {x : Str} {e : Expr} {te : TE} {pos' : Pos} (hN : X.N.Nodup) (hi : X.N[i]? = some x) (hx : Loc X.env.scope x) (he : PE X e te) (hs : swapsWith e (some (.Name x pos')) pos.line X.env = pure false := by rfl) (hf : X.fn x = true ∨ X.env.scope.names.lookup x = some .local := by first | exact .inl rfl | exact .inr rfl | assumption) :
    PS X (.Assign [.Name x pos'] e pos) (tAsg te (gName i)) := by
  intro pins s σ H D I h
  refine wpAny_Assign_Name (thn (he pins s σ H _ I h) fun v s1 ⟨y, H1, I1, r1, q1⟩ => ?_) hs
  exact store_ok I1 hN hi hx r1 (fun s2 I2 => ⟨_, H1, I2, q1⟩) hf
/-- a, b = x, y with plain local names: stored from the right; the pair itself is not tracked (the opening rows as in PyProof/Rows/TupAssign.lean:23) -/
def tPar (i j : Nat) (ta : TA) : TS := fun D σ H => ta σ H fun vs H1 => ∃ v w, vs = [v, w] ∧ D.nx ((σ.set i (some v)).set j (some w)) H1
/-- name op= e -/
def tAug (i : Nat) (te : TE) (ti : TIp) : TS := fun D σ H => ∃ x, σ[i]? = some (some x) ∧ te σ H fun y H1 => ti x y H1 fun z H2 => D.nx (σ.set i (some z)) H2
/-- o[i] op= e -/
def tAugS (to ti te : TE) (tget : V → V → Hp → VK → Prop) (tip : TIp) (tset : TSet) : TS := fun D σ H => to σ H fun o H1 => ti σ H1 fun i H2 => tget o i H2 fun x H3 => te σ H3 fun y H4 => tip x y H4 fun z H5 => tset o i z H5 fun H6 => D.nx σ H6
/-- o[i], by values -/
def PGet (X : Cx) (t : V → V → Hp → VK → Prop) : Prop :=
  ∀ (pins : List (Addr × Obj)) (s : Shared) (σ : St) (H : Hp) (o i : V) (ov iv : Value) (Q : VK), Inv X pins σ H s → RelV o ov → RelV i iv → t o i H Q →
    wpAny (model X.prog X.w) X.A (getItem ov iv) (EP X pins σ Q) X.xe s
/-- ints -/
def ipI (f : Int → Int → Int) : TIp := fun x y H Q => ∃ i j, x = .int i ∧ y = .int j ∧ Q (.int (f i j)) H
end

/-! ### while -/
section
variable {X : Cx} {pos : Pos}
/-- the invariant W with its measure -/
def tWhile (c : TT) (tb : TS) : TS := fun D σ H => ∃ W : Nat → St → Hp → Prop, (∃ m, W m σ H) ∧ ∀ m σ H, W m σ H →
  c σ H fun b H1 => if b = true then ∃ N : St → Hp → Prop, (∀ σ' H', N σ' H' → ∃ m', m' < m ∧ W m' σ' H') ∧ tb { D with nx := N, ct := N, bk := D.nx } σ H1 else D.nx σ H1
end

/-! ### what a loop or a comprehension walks -/
/-- at turn i: it yields x (the heap may grow), or it stops -/
structure It where
  go : Nat → Hp → Prop
  yld : Nat → Hp → V → Hp → Prop
  stop : Nat → Hp → Prop
/-- the iterator's own objects may turn: they are not the frame's, not pinned, younger than the entry (or a comprehension's own) -/
def FpOk (X : Cx) (pins : List (Addr × Obj)) (H : Hp) (b : Addr) : Prop :=
  H b = none ∧ b ≠ X.env.locals ∧ b ∉ X.fs ∧ (b ∈ X.ex ∨ X.s₀.heap.objs.size ≤ b) ∧ (∀ x c, X.env.cells.lookup x = some c → c ≠ b) ∧ ∀ p ∈ X.pn ++ pins, p.1 ≠ b
theorem Inv.fpOk {X : Cx} {pins : List (Addr × Obj)} {σ : St} {H H' : Hp} {s : Shared} {b : Addr} (I : Inv X pins σ H s) (hb : s.heap.objs.size ≤ b) (hn : H' b = none) : FpOk X pins H' b := by
  refine ⟨hn, Nat.ne_of_gt (Nat.lt_of_lt_of_le I.lt hb), I.nofs hb, .inr (Nat.le_trans I.sz hb), fun x c e z => ?_, fun p hp z => ?_⟩
  · obtain ⟨v, q⟩ := I.cell x c e
    exact absurd (Nat.lt_of_lt_of_le q.lt (by rw [z]; exact hb)) (Nat.lt_irrefl _)
  · exact absurd (Nat.lt_of_lt_of_le (Heap.lt_size (I.pin p hp).1) (by rw [z]; exact hb)) (Nat.lt_irrefl _)
structure Turn (P : Program) (w : World) (K : PySem.W.Frag) (tg : Expr) (J : It) (fp : List Addr) (it : Addr) (tn : Nat → Heap → Prop) : Prop where
  mem : it ∈ fp
  obj : ∀ i h, tn i h → ∀ b ∈ fp, ∃ o, h.get? b = some o ∧ ∀ v, o.data ≠ .cell v
  keep : ∀ i h h', tn i h → (∀ b ∈ fp, ∀ o, h.get? b = some o → h'.get? b = some o) → tn i h'
  item : ∀ (X : Cx), X.prog = P → X.w = w → X.K = K → X.calm = true → ∀ (i : Nat) (pins : List (Addr × Obj)) (s : Shared) (σ : St) (H : Hp) (E : Value → Shared → Prop), Inv X pins σ H s → (∀ b ∈ fp, FpOk X pins H b) → tn i s.heap → J.go i H →
    wpAny (model P w) X.A (pyNext (.ref it)) (fun r s1 => ∃ u, r = some u ∧
      wpAny (model P w) X.A (letOwnedTupleGo tg (.ref it) u) (fun _ s2 => ∃ x H', Inv X pins σ H' s2 ∧ RelV x u ∧ J.yld i H x H' ∧ tn (i + 1) s2.heap ∧ ∀ b ∈ fp, H' b = none) E s1) E s
  done : ∀ (X : Cx), X.prog = P → X.w = w → X.K = K → X.calm = true → ∀ (i : Nat) (pins : List (Addr × Obj)) (s : Shared) (σ : St) (H : Hp) (E : Value → Shared → Prop), Inv X pins σ H s → (∀ b ∈ fp, FpOk X pins H b) → tn i s.heap → J.stop i H →
    wpAny (model P w) X.A (pyNext (.ref it)) (fun r s1 => r = none ∧ Inv X pins σ H s1) E s
  self : ∀ (A : Around) (i : Nat) (s : Shared) (Q : Value → Shared → Prop) (E : Value → Shared → Prop), tn i s.heap → Q (.ref it) s → wpAny (model P w) A (pyIter (.ref it)) Q E s
abbrev TI := St → Hp → (It → Hp → Prop) → Prop
/-- an iterator has come -/
def PIE (X : Cx) (pins : List (Addr × Obj)) (σ : St) (tg : Expr) (R : It → Hp → Prop) (itv : Value) (s2 : Shared) : Prop :=
  ∃ (it : Addr) (fp : List Addr) (tn : Nat → Heap → Prop) (J : It) (H' : Hp), itv = .ref it ∧ Inv X pins σ H' s2 ∧ Turn X.prog X.w X.K tg J fp it tn ∧ tn 0 s2.heap ∧ (∀ b ∈ fp, FpOk X pins H' b) ∧ R J H'
def PI (X : Cx) (tg iter : Expr) (wi : TI) : Prop :=
  ∀ (pins : List (Addr × Obj)) (s : Shared) (σ : St) (H : Hp) (R : It → Hp → Prop), Inv X pins σ H s → wi σ H R →
    wpAny (model X.prog X.w) X.A (eval iter X.env) (fun v s1 => wpAny (model X.prog X.w) X.A (pyIter v) (PIE X pins σ tg R) X.xe s1) X.xe s

/-- the step ahead of the store is nothing for an iterator that keeps no tuple -/
theorem go_of {M : Model} {A : Around} {E : Value → Shared → Prop} {s : Shared} {tg : Expr} {it : Addr} {u : Value} {o : Obj} {n : String} {vs : Array Value} {Q : Unit → Shared → Prop} (ho : s.heap.get? it = some o) (hc : o.cls = .type n) (hd : o.data = .fields vs)
    (hn : ["enumerate", "zip", "dict_itemiterator", "dict_reverseitemiterator", "odict_iterator", "itertools.zip_longest", "itertools.pairwise"].contains n = false) (hQ : Q () s) : wpAny M A (letOwnedTupleGo tg (.ref it) u) Q E s := by
  unfold letOwnedTupleGo
  cases tg <;> first
    | exact wpAny_pure hQ
    | (cases u <;> first
        | exact wpAny_pure hQ
        | (refine wpAny_bind (wpAny_load ho ?_)
           rw [hc, hd]
           show wpAny M A (if (["enumerate", "zip", "dict_itemiterator", "dict_reverseitemiterator", "odict_iterator", "itertools.zip_longest", "itertools.pairwise"].contains n && vs[0]? == some (rawInt _)) = true then _ else _) Q E s
           rw [if_neg (by intro h; rw [hn, Bool.false_and] at h; cases h)]
           exact wpAny_pure hQ))

/-- the list at a, as it stands at each turn (a loop may append to it) -/
def Itl (K : PySem.W.Frag) (a : Addr) : It :=
  ⟨fun i H => ∃ xs x, SqL K H a xs ∧ xs[i]? = some x, fun i H x H' => H' = H ∧ ∀ xs, SqL K H a xs → xs[i]? = some x, fun i H => ∃ xs, SqL K H a xs ∧ xs.length ≤ i⟩
def Itt (K : PySem.W.Frag) (a : Addr) : It :=
  ⟨fun i H => ∃ xs x, SqT K H a xs ∧ xs[i]? = some x, fun i H x H' => H' = H ∧ ∀ xs, SqT K H a xs → xs[i]? = some x, fun i H => ∃ xs, SqT K H a xs ∧ xs.length ≤ i⟩
/-- lo, lo + 1, .. (n of them) -/
def Itr (lo : Int) (n : Nat) : It := ⟨fun i _ => i < n, fun i H x H' => H' = H ∧ x = .int (lo + i), fun i _ => n ≤ i⟩
theorem turn_list {P : Program} {w : World} {K : PySem.W.Frag} {tg : Expr} (a it : Addr) : Turn P w K tg (Itl K a) [it] it (fun i h => h.IsListIter it a i) where
  mem := by simp
  obj := fun i h st b hb => by
    have e : b = it := by simpa using hb
    subst e
    obtain ⟨o, e, c, d⟩ := st
    exact ⟨o, e, fun v z => by rw [d] at z; cases z⟩
  keep := fun i h h' st k => st.at fun o e => k it (by simp) o e
  item := by
    intro X hP hw hK hc i pins s σ H E I hf st hg
    subst hP hw hK
    obtain ⟨xs, x, hq, hx⟩ := hg
    obtain ⟨its, rv, p, hz⟩ := I.list hq
    obtain ⟨u, hu, ru⟩ := rv.get hx
    obtain ⟨f0, f1, f2, f3, f4, f5⟩ := hf it (by simp)
    refine wpAny_pyNext_list_item st p.isList (x := u) (by simpa using hu) fun h' st' sb => ?_
    have I1 : Inv X pins σ H { s with heap := h' } := I.turned (t' := s.toks) (fun b o hb e => (sb.2 b hb).trans e) f0 f1 f3 f4 f5
    obtain ⟨o, e, c, d⟩ := id st'
    exact ⟨u, rfl, go_of (s := { s with heap := h' }) e c d (by decide) ⟨x, H, I1, ru, ⟨rfl, fun ys hy => by rw [I.list_inj hy hq]; exact hx⟩, st', fun b hb => (hf b hb).1⟩⟩
  done := by
    intro X hP hw hK hc i pins s σ H E I hf st hg
    subst hP hw hK
    obtain ⟨xs, hq, hx⟩ := hg
    obtain ⟨its, rv, p, hz⟩ := I.list hq
    obtain ⟨f0, f1, f2, f3, f4, f5⟩ := hf it (by simp)
    have hl := rv.length
    exact wpAny_pyNext_list_end (I.ok.hd hc) st p.isList (by simp; omega) fun h' eb => ⟨rfl, I.turned (t' := s.toks) (fun b o hb e => eb b o hb e) f0 f1 f3 f4 f5⟩
  self := fun _ _ _ _ _ st h => wpAny_pyIter_listiter st h
theorem turn_tuple {P : Program} {w : World} {K : PySem.W.Frag} {tg : Expr} (a it : Addr) : Turn P w K tg (Itt K a) [it] it (fun i h => h.IsTupleIter it a i) where
  mem := by simp
  obj := fun i h st b hb => by
    have e : b = it := by simpa using hb
    subst e
    obtain ⟨o, e, c, d⟩ := st
    exact ⟨o, e, fun v z => by rw [d] at z; cases z⟩
  keep := fun i h h' st k => st.at fun o e => k it (by simp) o e
  item := by
    intro X hP hw hK hc i pins s σ H E I hf st hg
    subst hP hw hK
    obtain ⟨xs, x, hq, hx⟩ := hg
    obtain ⟨its, rv, p, hz⟩ := I.tuple hq
    obtain ⟨u, hu, ru⟩ := rv.get hx
    obtain ⟨f0, f1, f2, f3, f4, f5⟩ := hf it (by simp)
    refine wpAny_pyNext_tuple_item st (show s.heap.IsTuple a its.toArray from p) (x := u) (by simpa using hu) fun h' st' sb => ?_
    have I1 : Inv X pins σ H { s with heap := h' } := I.turned (t' := s.toks) (fun b o hb e => (sb.2 b hb).trans e) f0 f1 f3 f4 f5
    obtain ⟨o, e, c, d⟩ := id st'
    exact ⟨u, rfl, go_of (s := { s with heap := h' }) e c d (by decide) ⟨x, H, I1, ru, ⟨rfl, fun ys hy => by rw [I.tuple_inj hy hq]; exact hx⟩, st', fun b hb => (hf b hb).1⟩⟩
  done := by
    intro X hP hw hK hc i pins s σ H E I hf st hg
    subst hP hw hK
    obtain ⟨xs, hq, hx⟩ := hg
    obtain ⟨its, rv, p, hz⟩ := I.tuple hq
    obtain ⟨f0, f1, f2, f3, f4, f5⟩ := hf it (by simp)
    have hl := rv.length
    exact wpAny_pyNext_tuple_end (I.ok.hd hc) st (show s.heap.IsTuple a its.toArray from p) (by simp; omega) fun h' eb => ⟨rfl, I.turned (t' := s.toks) (fun b o hb e => eb b o hb e) f0 f1 f3 f4 f5⟩
  self := fun _ _ _ _ _ st h => wpAny_pyIter_tupleiter st h
theorem turn_range {P : Program} {w : World} {K : PySem.W.Frag} {tg : Expr} (it : Addr) (lo : Int) (n : Nat) : Turn P w K tg (Itr lo n) [it] it (fun i h => IsRangeIter h it (lo + (i : Nat) * 1) ((n : Int) - (i : Nat)) 1) where
  mem := by simp
  obj := fun i h st b hb => by
    have e : b = it := by simpa using hb
    subst e
    exact ⟨_, st, fun v z => by
      have z' : Data.fields _ = Data.cell v := z
      cases z'⟩
  keep := fun i h h' st k => k it (by simp) _ st
  item := by
    intro X hP hw hK hc i pins s σ H E I hf st hg
    subst hP hw hK
    obtain ⟨f0, f1, f2, f3, f4, f5⟩ := hf it (by simp)
    have W := Walks.range (prog := X.prog) (w := X.w) (I.ok.hd hc) it lo 1 n
    refine W.item i s _ _ hg st fun v h' tk hv st' kk => ?_
    obtain ⟨t, rfl⟩ := hv
    have I1 : Inv X pins σ H { s with heap := h', toks := tk } := I.turned (fun b o hb e => kk b o (by simpa using hb) e) f0 f1 f3 f4 f5
    refine ⟨_, rfl, go_of (s := { s with heap := h', toks := tk }) (n := "range_iterator") st' rfl rfl (by decide) ⟨.int (lo + i), H, I1, ⟨t, ?_⟩, ⟨rfl, rfl⟩, st', fun b hb => (hf b hb).1⟩⟩
    rw [Int.mul_one]
  done := by
    intro X hP hw hK hc i pins s σ H E I hf st hg
    subst hP hw hK
    obtain ⟨f0, f1, f2, f3, f4, f5⟩ := hf it (by simp)
    exact wpAny_pyNext_range_end (I.ok.hd hc) st (by have : n ≤ i := hg; omega) fun h' eb => ⟨rfl, I.turned (t' := s.toks) (fun b o hb e => eb b o hb e) f0 f1 f3 f4 f5⟩
  self := fun _ _ _ _ _ st h => wpAny_pyIter_rangeiter st h
end L2

namespace L2
open PySem PySem.Spec PyProof.Rows
section
variable {X : Cx} {tg : Expr}
def iList (K : PySem.W.Frag) (tl : TE) : TI := fun σ H R => tl σ H fun x H1 => ∃ a, x = .ref a ∧ (∃ xs, SqL K H1 a xs) ∧ R (Itl K a) H1
def iTup (K : PySem.W.Frag) (tl : TE) : TI := fun σ H R => tl σ H fun x H1 => ∃ a, x = .ref a ∧ (∃ xs, SqT K H1 a xs) ∧ R (Itt K a) H1
theorem pi_list {l : Expr} {tl : TE} (hl : PE X l tl) : PI X tg l (iList X.K tl) := by
  intro pins s σ H R I h
  refine thn (hl pins s σ H _ I h) fun v s1 ⟨x, H1, I1, r1, q1⟩ => ?_
  obtain ⟨a, e, ⟨xs, hq⟩, q⟩ := q1
  subst e
  cases r1
  obtain ⟨its, rv, p, hz⟩ := I1.list hq
  refine wpAny_pyIter_list p.isList ?_
  refine ⟨s1.heap.objs.size, [s1.heap.objs.size], _, _, H1, rfl, I1.kept (t' := s1.toks) fun b o e => Heap.get?_push_of_some _ e, turn_list a _, ⟨_, Heap.get?_push_size _ rfl, rfl, rfl⟩, fun b hb => ?_, q⟩
  have e : b = s1.heap.objs.size := by simpa using hb
  subst e
  exact I1.fpOk (Nat.le_refl _) (I1.hok.fresh (Nat.le_refl _))
theorem pi_tup {l : Expr} {tl : TE} (hl : PE X l tl) : PI X tg l (iTup X.K tl) := by
  intro pins s σ H R I h
  refine thn (hl pins s σ H _ I h) fun v s1 ⟨x, H1, I1, r1, q1⟩ => ?_
  obtain ⟨a, e, ⟨xs, hq⟩, q⟩ := q1
  subst e
  cases r1
  obtain ⟨its, rv, p, hz⟩ := I1.tuple hq
  refine wpAny_pyIter_tuple (show s1.heap.IsTuple a its.toArray from p) ?_
  refine ⟨s1.heap.objs.size, [s1.heap.objs.size], _, _, H1, rfl, I1.kept (t' := s1.toks) fun b o e => Heap.get?_push_of_some _ e, turn_tuple a _, ⟨_, Heap.get?_push_size _ rfl, rfl, rfl⟩, fun b hb => ?_, q⟩
  have e : b = s1.heap.objs.size := by simpa using hb
  subst e
  exact I1.fpOk (Nat.le_refl _) (I1.hok.fresh (Nat.le_refl _))
/-- a range object just made, walked -/
theorem range_it {pins : List (Addr × Obj)} {σ : St} {H : Hp} {s : Shared} {R : It → Hp → Prop} {E : Value → Shared → Prop} {lo hi : Int} {t u v : Tok} {tk : Nat} (I : Inv X pins σ H s) (h1 : -(2 ^ 62) ≤ lo) (h2 : lo < 2 ^ 62) (h3 : -(2 ^ 62) ≤ hi) (h4 : hi < 2 ^ 62)
    (q : R (Itr lo (hi - lo).toNat) H) : wpAny (model X.prog X.w) X.A (pyIter (.ref s.heap.objs.size)) (PIE X pins σ tg R) E { s with heap := s.heap.push { cls := .type "range", data := .fields #[.int lo t, .int hi u, .int 1 v] }, toks := tk } := by
  refine wpAny_pyIter_range (IsRange.new ..) (small_one h1 h2 h3 h4) ?_
  have I1 : Inv X pins σ H { s with heap := s.heap.push { cls := .type "range", data := .fields #[.int lo t, .int hi u, .int 1 v] }, toks := tk } := I.kept fun b o e => Heap.get?_push_of_some _ e
  refine ⟨(s.heap.push { cls := .type "range", data := .fields #[.int lo t, .int hi u, .int 1 v] }).objs.size, [(s.heap.push { cls := .type "range", data := .fields #[.int lo t, .int hi u, .int 1 v] }).objs.size], _, _, H, rfl,
    I1.kept (t' := tk) fun b o e => Heap.get?_push_of_some _ e, turn_range _ lo (hi - lo).toNat, ?_, fun b hb => ?_, q⟩
  · have e1 : lo + ((0 : Nat) : Int) * 1 = lo := by simp
    have e2 : (((hi - lo).toNat : Nat) : Int) - ((0 : Nat) : Int) = Builtin.Range.rangeSize lo hi 1 := by rw [rangeSize_one]; split <;> omega
    show IsRangeIter _ _ (lo + ((0 : Nat) : Int) * 1) ((((hi - lo).toNat : Nat) : Int) - ((0 : Nat) : Int)) 1
    rw [e1, e2]
    exact Heap.get?_push_size _ rfl
  · have e : b = (s.heap.push { cls := .type "range", data := .fields #[.int lo t, .int hi u, .int 1 v] }).objs.size := by simpa using hb
    subst e
    exact I1.fpOk (Nat.le_refl _) (I1.hok.fresh (Nat.le_refl _))
def iRng1 (ta : TA) : TI := fun σ H R => ta σ H fun vs H1 => ∃ j : Int, vs = [.int j] ∧ -(2 ^ 62) ≤ j ∧ j < 2 ^ 62 ∧ R (Itr 0 j.toNat) H1
def iRng2 (ta : TA) : TI := fun σ H R => ta σ H fun vs H1 => ∃ i j : Int, vs = [.int i, .int j] ∧ (-(2 ^ 62) ≤ i ∧ i < 2 ^ 62 ∧ -(2 ^ 62) ≤ j ∧ j < 2 ^ 62) ∧ R (Itr i (j - i).toNat) H1
theorem pi_range1 {a : Expr} {ta : TA} {p pos : Pos} (hg : Gl X "range") (hm : X.mg "range" = none) (ha : PA X [a] ta) (hs : starEach [a] X.env = [(false, eval a X.env)] := by rfl) : PI X tg (.Call (.Name "range" p) [a] [] pos) (iRng1 ta) := by
  intro pins s σ H R I h
  refine Call_ (ld_blt I hg hm boot_range (PyProof.Rows.callWith_type1 (thn (ha pos pins s σ H _ I h) fun us s1 ⟨vs, H1, I1, r1, q1⟩ => ?_) hs rfl))
  obtain ⟨j, e, q1, q2, q⟩ := q1
  subst e
  cases r1 with
  | cons r rr =>
    cases rr
    obtain ⟨t, rfl⟩ := r
    exact call_range_1 (range_it I1 (by omega) (by omega) q1 q2 (by simpa using q))
/-! ### for -/
/-- W: the invariant by the turn and a measure; N: what the body is to reach -/
def tFor (wi : TI) (g : TG) (tb : TS) : TS := fun D σ H => wi σ H fun J H1 => ∃ W : Nat → Nat → St → Hp → Prop, (∃ m, W 0 m σ H1) ∧ ∀ i m σ H, W i m σ H →
  (J.stop i H ∧ D.nx σ H) ∨ (J.go i H ∧ ∃ N : St → Hp → Prop, (∀ σ' H', N σ' H' → ∃ m', m' < m ∧ W (i + 1) m' σ' H') ∧ ∀ x H', J.yld i H x H' → g x σ H' fun σ2 H2 => tb { D with nx := N, ct := N, bk := D.nx } σ2 H2)
/-- the records at fp as they stand -/
def pinsAt (fp : List Addr) (h : Heap) : List (Addr × Obj) := fp.filterMap fun b => (h.get? b).map fun o => (b, o)
theorem mem_pinsAt {fp : List Addr} {h : Heap} {b : Addr} {o : Obj} (hb : b ∈ fp) (e : h.get? b = some o) : (b, o) ∈ pinsAt fp h := List.mem_filterMap.mpr ⟨b, hb, by rw [e]; rfl⟩
theorem of_pinsAt {fp : List Addr} {h : Heap} {p : Addr × Obj} (hp : p ∈ pinsAt fp h) : p.1 ∈ fp ∧ h.get? p.1 = some p.2 := by
  obtain ⟨b, hb, e⟩ := List.mem_filterMap.mp hp
  cases q : h.get? b with
  | none => rw [q] at e; cases e
  | some o =>
    rw [q] at e
    have e' : (b, o) = p := Option.some.inj e
    subst e'
    exact ⟨hb, q⟩
theorem Inv.pinned {pins : List (Addr × Obj)} {σ : St} {H : Hp} {s : Shared} {fp : List Addr} (I : Inv X pins σ H s) (hf : ∀ b ∈ fp, FpOk X pins H b) (ho : ∀ b ∈ fp, ∃ o, s.heap.get? b = some o ∧ ∀ v, o.data ≠ .cell v) : Inv X (pins ++ pinsAt fp s.heap) σ H s :=
  I.pins_of fun p hp => (List.mem_append.mp hp).elim (fun z => I.pin p (List.mem_append_right _ z)) fun z => by
    obtain ⟨hb, e⟩ := of_pinsAt z
    obtain ⟨f0, f1, f2, _⟩ := hf p.1 hb
    obtain ⟨o, e', d⟩ := ho p.1 hb
    rw [e] at e'; cases e'
    exact ⟨e, f0, f1, f2, d⟩
theorem Inv.unpinned {pins pl : List (Addr × Obj)} {σ : St} {H : Hp} {s : Shared} (I : Inv X (pins ++ pl) σ H s) : Inv X pins σ H s := I.pins_of fun p hp => I.pin p (List.mem_append_right _ (List.mem_append_left _ hp))
theorem ps_for {iter : Expr} {body : List Stmt} {wi : TI} {g : TG} {tb : TS} {pos : Pos} (hp : PassesOwn (model X.prog X.w) X.A X.env X.xe) (hc : X.calm = true) (hi : PI X tg iter wi) (hg : PG X tg g) (hb : PSs X body tb)
    (hs : ∀ x, foldedSetIterable iter X.env x = pure x := by intro _; rfl) : PS X (.For tg iter body [] pos) (tFor wi g tb) := by
  intro pins s σ H D I h
  refine wpAny_For (thn (hi pins s σ H _ I h) fun v s1 h1 => thn h1 fun itv s2 h2 => ?_) hs
  obtain ⟨it, fp, tn, J, H2, e, I2, T, st2, f2, W, ⟨m0, w0⟩, turn⟩ := h2
  subst e
  -- what stays true of the iterator's objects through the loop
  have stat : ∀ {H' : Hp}, (∀ b ∈ fp, H' b = none) → ∀ b ∈ fp, FpOk X pins H' b := fun hn b hb => ⟨hn b hb, (f2 b hb).2⟩
  refine codeAny_forLoop_any (fun n s' => ∃ i σ' H', Inv X pins σ' H' s' ∧ tn i s'.heap ∧ (∀ b ∈ fp, H' b = none) ∧ W i n σ' H') ?_ m0 ⟨0, σ, H2, I2, st2, fun b hb => (f2 b hb).1, w0⟩
  rintro n s3 ⟨i, σ3, H3, I3, st3, fr3, w3⟩
  rcases turn i n σ3 H3 w3 with ⟨stop, qn⟩ | ⟨go, N, hN, step⟩
  · refine wpAny_passesOwn hp (thn (T.done X rfl rfl rfl hc i pins s3 σ3 H3 X.xe I3 (stat fr3) st3 stop) fun r s4 ⟨hr, I4⟩ => ?_)
    subst hr
    exact wpAny_execs_nil ⟨σ3, H3, I4, qn⟩
  · refine wpAny_passesOwn hp (thn (T.item X rfl rfl rfl hc i pins s3 σ3 H3 X.xe I3 (stat fr3) st3 go) fun r s4 ⟨u, hr, h4⟩ => ?_)
    subst hr
    refine wpAny_passesOwn hp (thn h4 fun _ s5 ⟨x, H5, I5, r5, y5, st5, fr5⟩ => ?_)
    have I5' := I5.pinned (stat fr5) (T.obj _ _ st5)
    refine wpAny_passesOwn hp (thn (hg _ s5 σ3 H5 x u _ I5' r5 (step x H5 y5)) fun _ s6 ⟨σ6, H6, I6, q6⟩ => ?_)
    refine wpAny_passesOwn hp (thn (hb _ s6 σ6 H6 _ I6 q6) fun f s7 q7 => ?_)
    have again : ∀ {σ7 : St} {H7 : Hp}, Inv X (pins ++ pinsAt fp s5.heap) σ7 H7 s7 → N σ7 H7 → ∃ m, m < n ∧ ∃ i σ' H', Inv X pins σ' H' s7 ∧ tn i s7.heap ∧ (∀ b ∈ fp, H' b = none) ∧ W i m σ' H' := fun {σ7 H7} I7 n7 => by
      obtain ⟨m', hm, w7⟩ := hN σ7 H7 n7
      refine ⟨m', hm, i + 1, σ7, H7, I7.unpinned, T.keep _ _ _ st5 fun b hb o e => (I7.pin (b, o) (List.mem_append_right _ (List.mem_append_right _ (mem_pinsAt hb e)))).1, fun b hb => ?_, w7⟩
      obtain ⟨o, e, d⟩ := T.obj _ _ st5 b hb
      exact (I7.pin (b, o) (List.mem_append_right _ (List.mem_append_right _ (mem_pinsAt hb e)))).2.1
    cases f with
    | next => obtain ⟨σ7, H7, I7, n7⟩ := q7; exact again I7 n7
    | cont => obtain ⟨σ7, H7, I7, n7⟩ := q7; exact again I7 n7
    | brk => obtain ⟨σ7, H7, I7, q7⟩ := q7; exact ⟨σ7, H7, I7.unpinned, q7⟩
    | ret v => obtain ⟨x7, σ7, H7, I7, r7, q7⟩ := q7; exact ⟨x7, σ7, H7, I7.unpinned, r7, q7⟩
end

/-! ### the forms one uses -/
/-- over a list that the body leaves as it is -/
theorem for_list {K : PySem.W.Frag} {a : Addr} {xs : List V} {g : TG} {tb : TS} {D : Ends} {σ : St} {H : Hp} (Pv : Nat → St → Hp → Prop) (h0 : Pv 0 σ H) (hl : ∀ i σ H, i ≤ xs.length → Pv i σ H → SqL K H a xs)
    (hs : ∀ i x σ H, xs[i]? = some x → Pv i σ H → g x σ H fun σ2 H2 => tb { D with nx := Pv (i + 1), ct := Pv (i + 1), bk := D.nx } σ2 H2) (hd : ∀ σ H, Pv xs.length σ H → D.nx σ H) :
    ∃ W : Nat → Nat → St → Hp → Prop, (∃ m, W 0 m σ H) ∧ ∀ i m σ H, W i m σ H →
      ((Itl K a).stop i H ∧ D.nx σ H) ∨ ((Itl K a).go i H ∧ ∃ N : St → Hp → Prop, (∀ σ' H', N σ' H' → ∃ m', m' < m ∧ W (i + 1) m' σ' H') ∧ ∀ x H', (Itl K a).yld i H x H' → g x σ H' fun σ2 H2 => tb { D with nx := N, ct := N, bk := D.nx } σ2 H2) := by
  refine ⟨fun i m σ H => m = xs.length - i ∧ i ≤ xs.length ∧ Pv i σ H, ⟨xs.length, by simp, Nat.zero_le _, h0⟩, ?_⟩
  rintro i m σ H ⟨rfl, hi, p⟩
  have q := hl i σ H hi p
  by_cases hlt : i < xs.length
  · refine .inr ⟨⟨xs, xs[i], q, by simp [hlt]⟩, Pv (i + 1), fun σ' H' p' => ⟨xs.length - (i + 1), by omega, rfl, hlt, p'⟩, fun x H' y => ?_⟩
    obtain ⟨e, y⟩ := y
    subst e
    exact hs i x σ _ (y xs q) p
  · have e : i = xs.length := by omega
    subst e
    exact .inl ⟨⟨xs, q, Nat.le_refl _⟩, hd σ H p⟩
theorem for_tup {K : PySem.W.Frag} {a : Addr} {xs : List V} {g : TG} {tb : TS} {D : Ends} {σ : St} {H : Hp} (Pv : Nat → St → Hp → Prop) (h0 : Pv 0 σ H) (hl : ∀ i σ H, i ≤ xs.length → Pv i σ H → SqT K H a xs)
    (hs : ∀ i x σ H, xs[i]? = some x → Pv i σ H → g x σ H fun σ2 H2 => tb { D with nx := Pv (i + 1), ct := Pv (i + 1), bk := D.nx } σ2 H2) (hd : ∀ σ H, Pv xs.length σ H → D.nx σ H) :
    ∃ W : Nat → Nat → St → Hp → Prop, (∃ m, W 0 m σ H) ∧ ∀ i m σ H, W i m σ H →
      ((Itt K a).stop i H ∧ D.nx σ H) ∨ ((Itt K a).go i H ∧ ∃ N : St → Hp → Prop, (∀ σ' H', N σ' H' → ∃ m', m' < m ∧ W (i + 1) m' σ' H') ∧ ∀ x H', (Itt K a).yld i H x H' → g x σ H' fun σ2 H2 => tb { D with nx := N, ct := N, bk := D.nx } σ2 H2) := by
  refine ⟨fun i m σ H => m = xs.length - i ∧ i ≤ xs.length ∧ Pv i σ H, ⟨xs.length, by simp, Nat.zero_le _, h0⟩, ?_⟩
  rintro i m σ H ⟨rfl, hi, p⟩
  have q := hl i σ H hi p
  by_cases hlt : i < xs.length
  · refine .inr ⟨⟨xs, xs[i], q, by simp [hlt]⟩, Pv (i + 1), fun σ' H' p' => ⟨xs.length - (i + 1), by omega, rfl, hlt, p'⟩, fun x H' y => ?_⟩
    obtain ⟨e, y⟩ := y
    subst e
    exact hs i x σ _ (y xs q) p
  · have e : i = xs.length := by omega
    subst e
    exact .inl ⟨⟨xs, q, Nat.le_refl _⟩, hd σ H p⟩
theorem for_range {lo : Int} {n : Nat} {g : TG} {tb : TS} {D : Ends} {σ : St} {H : Hp} (Pv : Nat → St → Hp → Prop) (h0 : Pv 0 σ H)
    (hs : ∀ i σ H, i < n → Pv i σ H → g (.int (lo + i)) σ H fun σ2 H2 => tb { D with nx := Pv (i + 1), ct := Pv (i + 1), bk := D.nx } σ2 H2) (hd : ∀ σ H, Pv n σ H → D.nx σ H) :
    ∃ W : Nat → Nat → St → Hp → Prop, (∃ m, W 0 m σ H) ∧ ∀ i m σ H, W i m σ H →
      ((Itr lo n).stop i H ∧ D.nx σ H) ∨ ((Itr lo n).go i H ∧ ∃ N : St → Hp → Prop, (∀ σ' H', N σ' H' → ∃ m', m' < m ∧ W (i + 1) m' σ' H') ∧ ∀ x H', (Itr lo n).yld i H x H' → g x σ H' fun σ2 H2 => tb { D with nx := N, ct := N, bk := D.nx } σ2 H2) := by
  refine ⟨fun i m σ H => m = n - i ∧ i ≤ n ∧ Pv i σ H, ⟨n, by simp, Nat.zero_le _, h0⟩, ?_⟩
  rintro i m σ H ⟨rfl, hi, p⟩
  by_cases hlt : i < n
  · refine .inr ⟨hlt, Pv (i + 1), fun σ' H' p' => ⟨n - (i + 1), by omega, rfl, hlt, p'⟩, fun x H' y => ?_⟩
    obtain ⟨e, y⟩ := y
    subst e y
    exact hs i σ _ hlt p
  · have e : i = n := by omega
    subst e
    exact .inl ⟨Nat.le_refl _, hd σ H p⟩
end L2

namespace L2
open PySem PySem.Spec PyProof.Rows

abbrev R2 := V → V → Hp → VK → Prop
/-- a two-place operation on values: f is binaryOp op, inplaceOp op or compareOp op -/
def OpR (X : Cx) (f : Value → Value → Sem Value) (r : R2) : Prop :=
  ∀ (pins : List (Addr × Obj)) (s : Shared) (σ : St) (H : Hp) (x y : V) (v u : Value) (Q : VK), Inv X pins σ H s → RelV x v → RelV y u → r x y H Q →
    wpAny (model X.prog X.w) X.A (f v u) (EP X pins σ Q) X.xe s
/-- a one-place operation -/
def UnR (X : Cx) (f : Value → Sem Value) (r : V → Hp → VK → Prop) : Prop :=
  ∀ (pins : List (Addr × Obj)) (s : Shared) (σ : St) (H : Hp) (x : V) (v : Value) (Q : VK), Inv X pins σ H s → RelV x v → r x H Q →
    wpAny (model X.prog X.w) X.A (f v) (EP X pins σ Q) X.xe s
/-- a call of a value that is known (a builtin, a type) with values -/
def CallR (X : Cx) (f : Value) (r : List V → Hp → VK → Prop) : Prop :=
  ∀ (pins : List (Addr × Obj)) (s : Shared) (σ : St) (H : Hp) (xs : List V) (us : List Value) (Q : VK), Inv X pins σ H s → Vals xs us → r xs H Q →
    wpAny (model X.prog X.w) X.A (call f us) (EP X pins σ Q) X.xe s
/-- a value's truth -/
def TruR (X : Cx) (r : V → Hp → (Bool → Hp → Prop) → Prop) : Prop :=
  ∀ (pins : List (Addr × Obj)) (s : Shared) (σ : St) (H : Hp) (x : V) (v : Value) (Q : Bool → Hp → Prop), Inv X pins σ H s → RelV x v → r x H Q →
    wpAny (model X.prog X.w) X.A (truthy v) (TP X pins σ Q) X.xe s

def tOp (r : R2) (ta tb : TE) : TE := fun σ H Q => ta σ H fun x H1 => tb σ H1 fun y H2 => r x y H2 Q
def tUn (r : V → Hp → VK → Prop) (ta : TE) : TE := fun σ H Q => ta σ H fun x H1 => r x H1 Q
/-- ints in, under C, and a value out -/
def rI (C : Int → Int → Prop) (g : Int → Int → V) : R2 := fun x y H Q => ∃ i j, x = .int i ∧ y = .int j ∧ C i j ∧ Q (g i j) H
def rI0 (g : Int → Int → V) : R2 := fun x y H Q => ∃ i j, x = .int i ∧ y = .int j ∧ Q (g i j) H
def rU (g : Int → V) : V → Hp → VK → Prop := fun x H Q => ∃ i, x = .int i ∧ Q (g i) H

section
variable {X : Cx} {a b c : Expr} {ta tb tc : TE} {pos : Pos}

theorem binT (ha : PE X a ta) (hb : PE X b tb) {pins : List (Addr × Obj)} {s : Shared} {σ : St} {H : Hp} {R : V → V → Hp → Prop} (I : Inv X pins σ H s)
    (h : ta σ H fun x H1 => tb σ H1 fun y H2 => R x y H2) {Q : Value → Shared → Prop} {f : Value → Value → Sem Value}
    (hf : ∀ v u s2 x y H2, Inv X pins σ H2 s2 → RelV x v → RelV y u → R x y H2 → wpAny (model X.prog X.w) X.A (f v u) Q X.xe s2) :
    wpAny (model X.prog X.w) X.A (eval a X.env) (fun v s₁ => wpAny (model X.prog X.w) X.A (eval b X.env) (fun u s₂ => wpAny (model X.prog X.w) X.A (f v u) Q X.xe s₂) X.xe s₁) X.xe s := by
  refine thn (ha pins s σ H _ I h) fun v s1 ⟨x, H1, I1, r1, q1⟩ => ?_
  refine thn (hb pins s1 σ H1 _ I1 q1) fun u s2 ⟨y, H2, I2, r2, q2⟩ => ?_
  exact hf v u s2 x y H2 I2 r1 r2 q2

theorem pe_op {op : Operator} {r : R2} (ho : OpR X (binaryOp op) r) (ha : PE X a ta) (hb : PE X b tb) : PE X (.BinOp a op b pos) (tOp r ta tb) := by
  intro pins s σ H Q I h
  exact wpAny_BinOp (binT ha hb I h fun v u s2 x y H2 I2 rx ry q => ho pins s2 σ H2 x y v u Q I2 rx ry q)
/-! ### ints -/
theorem opI {f : Value → Value → Sem Value} {C : Int → Int → Prop} {g : Int → Int → Int}
    (rule : ∀ (i j : Int) (t u : Tok) (s : Shared) (Q : Value → Shared → Prop) (E : Value → Shared → Prop), C i j → Q (.int (g i j) s.toks) { s with toks := s.toks + 1 } → wpAny (model X.prog X.w) X.A (f (.int i t) (.int j u)) Q E s) :
    OpR X f (rI C fun i j => .int (g i j)) := by
  intro pins s σ H x y v u Q I rx ry h
  obtain ⟨i, j, rfl, rfl, hc, q⟩ := h
  obtain ⟨t, rfl⟩ := rx
  obtain ⟨t', rfl⟩ := ry
  exact rule i j t t' s _ _ hc ⟨.int (g i j), H, I.tok _, ⟨_, rfl⟩, q⟩
theorem opI0 {f : Value → Value → Sem Value} {g : Int → Int → Int}
    (rule : ∀ (i j : Int) (t u : Tok) (s : Shared) (Q : Value → Shared → Prop) (E : Value → Shared → Prop), Q (.int (g i j) s.toks) { s with toks := s.toks + 1 } → wpAny (model X.prog X.w) X.A (f (.int i t) (.int j u)) Q E s) :
    OpR X f (rI0 fun i j => .int (g i j)) := by
  intro pins s σ H x y v u Q I rx ry h
  obtain ⟨i, j, rfl, rfl, q⟩ := h
  obtain ⟨t, rfl⟩ := rx
  obtain ⟨t', rfl⟩ := ry
  exact rule i j t t' s _ _ ⟨.int (g i j), H, I.tok _, ⟨_, rfl⟩, q⟩
theorem opB0 {f : Value → Value → Sem Value} {g : Int → Int → Bool}
    (rule : ∀ (i j : Int) (t u : Tok) (s : Shared) (Q : Value → Shared → Prop) (E : Value → Shared → Prop), Q (.bool (g i j)) s → wpAny (model X.prog X.w) X.A (f (.int i t) (.int j u)) Q E s) :
    OpR X f (rI0 fun i j => .bl (g i j)) := by
  intro pins s σ H x y v u Q I rx ry h
  obtain ⟨i, j, rfl, rfl, q⟩ := h
  obtain ⟨t, rfl⟩ := rx
  obtain ⟨t', rfl⟩ := ry
  exact rule i j t t' s _ _ ⟨.bl (g i j), H, I, rfl, q⟩

def CDiv (i j : Int) : Prop := 0 < j ∧ j < 1073741824
def CDivN (i j : Int) : Prop := j ≠ 0 ∧ j.natAbs < 1073741824
def CPow (i j : Int) : Prop := 0 ≤ j ∧ j ≤ 1000000 ∧ i.natAbs < 2 ^ 64
def CMul (i j : Int) : Prop := (-(2 ^ 64) < i ∧ i < 2 ^ 64) ∨ (-(2 ^ 64) < j ∧ j < 2 ^ 64)
theorem CMul.ok {i j : Int} (h : CMul i j) : IntMulOk i j := by
  rcases h with ⟨h1, h2⟩ | ⟨h1, h2⟩
  · exact .of_left (intBits_le_64 h1 h2)
  · exact .of_right (intBits_le_64 h1 h2)
theorem op_add : OpR X (binaryOp .Add) (rI0 fun i j => .int (i + j)) := opI0 fun _ _ _ _ _ _ _ q => add_int q
theorem op_sub : OpR X (binaryOp .Sub) (rI0 fun i j => .int (i - j)) := opI0 fun _ _ _ _ _ _ _ q => sub_int q
theorem op_mul : OpR X (binaryOp .Mult) (rI CMul fun i j => .int (i * j)) := opI fun _ _ _ _ _ _ _ hc q => mul_int q hc.ok
/-- // by a positive divisor -/
theorem op_fdiv : OpR X (binaryOp .FloorDiv) (rI CDiv fun i j => .int (i / j)) := opI fun i j _ _ _ _ _ hc q => by
  have h1 : (0 : Int) < j := hc.1
  have h2 : j < 1073741824 := hc.2
  exact floordiv_int (by omega) (by rw [Int.fdiv_eq_ediv_of_nonneg i (by omega)]; exact q) (.inl (PyProof.noPylong_small (by omega)))
/-- % by a positive divisor of any size -/
theorem op_mod : OpR X (binaryOp .Mod) (rI (fun _ j => 0 < j) fun i j => .int (i % j)) := opI fun i j _ _ _ _ _ hc q => by
  have h1 : (0 : Int) < j := hc
  exact mod_int' (by omega) (by rw [Int.fmod_eq_emod_of_nonneg i (by omega)]; exact q)
theorem op_pow : OpR X (binaryOp .Pow) (rI CPow fun i j => .int (i ^ j.toNat)) := opI fun _ _ _ _ _ _ _ hc q => pow_int_small hc.1 hc.2.1 hc.2.2 q
/-! ### bools among ints: n += (a < b) -/
end

/-! ### comparisons -/
/-- the scalars that == tells apart as data does -/
def scal : V → V → Bool
  | .non, .non => true | .non, .int _ => true | .int _, .non => true | .non, .bl _ => true | .bl _, .non => true | .non, .str _ => true | .str _, .non => true
  | .int _, .int _ => true | .bl _, .bl _ => true | .str _, .str _ => true | .byt _, .byt _ => true
  | .int _, .str _ => true | .str _, .int _ => true | .bl _, .str _ => true | .str _, .bl _ => true
  | _, _ => false
def rEq : R2 := fun x y H Q => scal x y = true ∧ Q (.bl (decide (x = y))) H
def rNe : R2 := fun x y H Q => scal x y = true ∧ Q (.bl (!decide (x = y))) H

theorem dec_int {i j : Int} : decide (V.int i = V.int j) = (i == j) := by
  rw [Bool.eq_iff_iff]
  simp
theorem dec_bl {i j : Bool} : decide (V.bl i = V.bl j) = (i == j) := by
  rw [Bool.eq_iff_iff]
  simp
theorem dec_str {i j : Str} : decide (V.str i = V.str j) = (i == j) := by
  rw [Bool.eq_iff_iff]
  simp
theorem dec_byt {i j : Array UInt8} : decide (V.byt i = V.byt j) = (i.toList == j.toList) := by
  rw [Bool.eq_iff_iff]
  cases i
  cases j
  simp

section
variable {X : Cx} {a b c : Expr} {ta tb tc : TE} {pos : Pos}
theorem fin_bl {pins : List (Addr × Obj)} {σ : St} {H : Hp} {s : Shared} {Q : VK} {k k' : Bool} (I : Inv X pins σ H s) (q : Q (.bl k) H) (e : k = k') : EP X pins σ Q (.bool k') s := by
  subst e
  exact ⟨.bl k, H, I, rfl, q⟩
theorem op_eq : OpR X (compareOp .Eq) rEq := by
  intro pins s σ H x y v u Q I rx ry h
  obtain ⟨hs, q⟩ := h
  cases x with
  | non =>
    cases rx
    cases y with
    | non => cases ry; exact PySem.EqNone.eq_none_none (fin_bl I q (by simp))
    | bl j => cases ry; exact PySem.EqNone.eq_none_bool (fin_bl I q (by simp))
    | int j => obtain ⟨t', rfl⟩ := ry; exact PySem.EqNone.eq_none_int (fin_bl I q (by simp))
    | str j => obtain ⟨t', rfl⟩ := ry; exact PySem.EqNone.eq_none_str (fin_bl I q (by simp))
    | _ => exact absurd (show false = true from hs) Bool.false_ne_true
  | bl i =>
    cases rx
    cases y with
    | non => cases ry; exact PySem.EqNone.eq_bool_none (fin_bl I q (by simp))
    | bl j => cases ry; exact eq_bool (fin_bl I q dec_bl)
    | str j => obtain ⟨t', rfl⟩ := ry; exact PySem.EqMixed.eq_bool_str (fin_bl I q (by simp))
    | _ => exact absurd (show false = true from hs) Bool.false_ne_true
  | int i =>
    obtain ⟨t, rfl⟩ := rx
    cases y with
    | non => cases ry; exact PySem.EqNone.eq_int_none (fin_bl I q (by simp))
    | int j => obtain ⟨t', rfl⟩ := ry; exact eq_int (fin_bl I q dec_int)
    | str j => obtain ⟨t', rfl⟩ := ry; exact PySem.EqMixed.eq_int_str (fin_bl I q (by simp))
    | _ => exact absurd (show false = true from hs) Bool.false_ne_true
  | str i =>
    obtain ⟨t, rfl⟩ := rx
    cases y with
    | non => cases ry; exact PySem.EqNone.eq_str_none (fin_bl I q (by simp))
    | bl j => cases ry; exact PySem.EqMixed.eq_str_bool (fin_bl I q (by simp))
    | int j => obtain ⟨t', rfl⟩ := ry; exact PySem.EqMixed.eq_str_int (fin_bl I q (by simp))
    | str j => obtain ⟨t', rfl⟩ := ry; exact eq_str (fin_bl I q dec_str)
    | _ => exact absurd (show false = true from hs) Bool.false_ne_true
  | byt i =>
    obtain ⟨t, rfl⟩ := rx
    cases y with
    | byt j => obtain ⟨t', rfl⟩ := ry; exact PySem.W.eq_bytes (fin_bl I q dec_byt)
    | _ => exact absurd (show false = true from hs) Bool.false_ne_true
  | _ => cases y <;> exact absurd (show false = true from hs) Bool.false_ne_true
theorem op_ne : OpR X (compareOp .NotEq) rNe := by
  intro pins s σ H x y v u Q I rx ry h
  obtain ⟨hs, q⟩ := h
  cases x with
  | non =>
    cases rx
    cases y with
    | non => cases ry; exact PySem.EqNone.ne_none_none (fin_bl I q (by simp))
    | bl j => cases ry; exact PySem.EqNone.ne_none_bool (fin_bl I q (by simp))
    | int j => obtain ⟨t', rfl⟩ := ry; exact PySem.EqNone.ne_none_int (fin_bl I q (by simp))
    | str j => obtain ⟨t', rfl⟩ := ry; exact PySem.EqNone.ne_none_str (fin_bl I q (by simp))
    | _ => exact absurd (show false = true from hs) Bool.false_ne_true
  | bl i =>
    cases rx
    cases y with
    | non => cases ry; exact PySem.EqNone.ne_bool_none (fin_bl I q (by simp))
    | bl j => cases ry; exact ne_bool (fin_bl I q (congrArg not dec_bl))
    | str j => obtain ⟨t', rfl⟩ := ry; exact PySem.EqMixed.ne_bool_str (fin_bl I q (by simp))
    | _ => exact absurd (show false = true from hs) Bool.false_ne_true
  | int i =>
    obtain ⟨t, rfl⟩ := rx
    cases y with
    | non => cases ry; exact PySem.EqNone.ne_int_none (fin_bl I q (by simp))
    | int j => obtain ⟨t', rfl⟩ := ry; exact ne_int (fin_bl I q (congrArg not dec_int))
    | str j => obtain ⟨t', rfl⟩ := ry; exact PySem.EqMixed.ne_int_str (fin_bl I q (by simp))
    | _ => exact absurd (show false = true from hs) Bool.false_ne_true
  | str i =>
    obtain ⟨t, rfl⟩ := rx
    cases y with
    | non => cases ry; exact PySem.EqNone.ne_str_none (fin_bl I q (by simp))
    | bl j => cases ry; exact PySem.EqMixed.ne_str_bool (fin_bl I q (by simp))
    | int j => obtain ⟨t', rfl⟩ := ry; exact PySem.EqMixed.ne_str_int (fin_bl I q (by simp))
    | str j => obtain ⟨t', rfl⟩ := ry; exact ne_str (fin_bl I q (congrArg not dec_str))
    | _ => exact absurd (show false = true from hs) Bool.false_ne_true
  | byt i =>
    obtain ⟨t, rfl⟩ := rx
    cases y with
    | byt j => obtain ⟨t', rfl⟩ := ry; exact PySem.W.ne_bytes (fin_bl I q (congrArg not dec_byt))
    | _ => exact absurd (show false = true from hs) Bool.false_ne_true
  | _ => cases y <;> exact absurd (show false = true from hs) Bool.false_ne_true

theorem op_lt : OpR X (compareOp .Lt) (rI0 fun i j => .bl (decide (i < j))) := opB0 fun _ _ _ _ _ _ _ q => lt_int q
theorem op_ge : OpR X (compareOp .GtE) (rI0 fun i j => .bl (decide (j ≤ i))) := opB0 fun _ _ _ _ _ _ _ q => ge_int q
/-- is None, is not None: the right side a value none -/
theorem op_isN : OpR X (compareOp .Is) (fun x y H Q => y = .non ∧ Q (.bl (decide (x = .non))) H) := by
  intro pins s σ H x y v u Q I rx ry h
  obtain ⟨rfl, q⟩ := h
  cases ry
  refine is_none_gen (fin_bl I q ?_)
  cases x <;> first
    | (cases rx; rfl)
    | (obtain ⟨t, rfl⟩ := rx; rfl)
/-- is, is not of two objects that are tracked lists or instances -/
def isObj : HO → Bool
  | .lst _ => true
  | .ins _ _ _ => true
  | _ => false
/-- two rules for one operation: by cases -/
theorem OpR.or {f : Value → Value → Sem Value} {r r' : R2} (h : OpR X f r) (h' : OpR X f r') : OpR X f (fun x y H Q => r x y H Q ∨ r' x y H Q) := by
  intro pins s σ H x y v u Q I rx ry q
  rcases q with q | q
  · exact h pins s σ H x y v u Q I rx ry q
  · exact h' pins s σ H x y v u Q I rx ry q

theorem nomark (b : Expr) {op : CmpOp} (h : op ≠ .In := by decide) (h2 : op ≠ .NotIn := by decide) : behindInMarks op b = false := by
  have e1 : (op == CmpOp.In) = false := by cases op <;> first | rfl | exact absurd rfl h
  have e2 : (op == CmpOp.NotIn) = false := by cases op <;> first | rfl | exact absurd rfl h2
  cases b <;> simp [behindInMarks, e1, e2]
/-- a comparison as a value; hm: nomark b, or (for in, not in) by with_unfolding_all rfl -/
theorem pe_cmpR {op : CmpOp} {r : R2} (ho : OpR X (compareOp op) r) (ha : PE X a ta) (hb : PE X b tb) (hm : behindInMarks op b = false) : PE X (.Compare a [op] [b] pos) (tOp r ta tb) := by
  intro pins s σ H Q I h
  exact wpAny_Compare1 (binT ha hb I h fun v u s2 x y H2 I2 rx ry q => ho pins s2 σ H2 x y v u Q I2 rx ry q) hm
/-- a reading of a value as a test -/
def tTest (t : TE) : TT := fun σ H Q => t σ H fun x H' => ∃ k, x = .bl k ∧ Q k H'
theorem pt_cmpR {op : CmpOp} {r : R2} (ho : OpR X (compareOp op) r) (ha : PE X a ta) (hb : PE X b tb) (hm : behindInMarks op b = false) : PT X (.Compare a [op] [b] pos) (tTest (tOp r ta tb)) := by
  intro pins s σ H Q I h
  refine wpAny_isTrue_Compare1 (thn (ha pins s σ H _ I h) fun v s1 ⟨x, H1, I1, r1, q1⟩ => thn (hb pins s1 σ H1 _ I1 q1) fun u s2 ⟨y, H2, I2, r2, q2⟩ =>
    thn (ho pins s2 σ H2 x y v u _ I2 r1 r2 q2) fun c s3 ⟨z, H3, I3, r3, k, e, q3⟩ => ?_) hm
  subst e
  cases r3
  exact wpAny_truthy_bool ⟨H3, I3, q3⟩
/-- a op1 b op2 c -/
def tChain (r r' : R2) (ta tb tc : TE) : TE := fun σ H Q => ta σ H fun x H1 => tb σ H1 fun y H2 => r x y H2 fun z H3 => ∃ k, z = .bl k ∧
  (if k = true then tc σ H3 fun w' H4 => r' y w' H4 Q else Q (.bl false) H3)
/-! ### truth -/
/-- a value's truth by the abstract heap -/
def TruV (K : PySem.W.Frag) (x : V) (H : Hp) (k : Bool) : Prop :=
  match x with
  | .non => k = false
  | .bl b => k = b
  | .int i => k = (i != 0)
  | .str y => y.length ≤ sizeLine ∧ k = ((y.length : Int) != 0)
  | .byt y => y.size ≤ sizeLine ∧ k = ((y.size : Int) != 0)
  | .ref p => (∃ xs, SqL K H p xs ∧ k = !xs.isEmpty) ∨ (∃ xs, SqT K H p xs ∧ k = !xs.isEmpty) ∨ ∃ kvs, H p = some (.dK kvs) ∧ k = !kvs.isEmpty
  | _ => False
theorem line63 : (sizeLine : Nat) < 2 ^ 63 := by rw [sizeLine_eq]; decide
/-! ### strs and bytes -/
def PlainIxT (b : Expr) : Prop := ∀ o i, subscripted b false o i = operate [o, i] (getItem o i)
/-! ### scalar builtins, by CallR -/
theorem vals1 {x : V} {us : List Value} (r : Vals [x] us) : ∃ u, us = [u] ∧ RelV x u := by
  cases r with
  | cons r1 r2 => cases r2; exact ⟨_, rfl, r1⟩
theorem call_int1 : CallR X (.type "int") (fun xs H Q => (∃ i, xs = [.int i] ∧ Q (.int i) H) ∨ ∃ k, xs = [.bl k] ∧ Q (.int (if k then 1 else 0)) H) := by
  intro pins s σ H xs us Q I r h
  rcases h with ⟨i, rfl, q⟩ | ⟨k, rfl, q⟩
  · obtain ⟨u, rfl, t, rfl⟩ := vals1 r
    exact call_int_int ⟨.int i, H, I, ⟨_, rfl⟩, q⟩
  · obtain ⟨u, rfl, r1⟩ := vals1 r
    cases r1
    exact call_int_bool ⟨.int (if k then 1 else 0), H, I.tok _, ⟨_, rfl⟩, q⟩
/-- len of a str, a bytes, a list, a tuple -/
def LenV (K : PySem.W.Frag) (x : V) (H : Hp) (n : Nat) : Prop :=
  match x with
  | .str y => y.length ≤ sizeLine ∧ n = y.length
  | .byt y => y.size ≤ sizeLine ∧ n = y.size
  | .ref p => (∃ xs, SqL K H p xs ∧ n = xs.length) ∨ ∃ xs, SqT K H p xs ∧ n = xs.length
  | _ => False
end
end L2

namespace L2
open PySem PySem.Spec PyProof.Rows

/-! ### an instance, its attributes a map -/
structure ObjM (h : Heap) (x dx C : Addr) (mA : Str → Option Value) : Prop where
  obj : h.get? x = some (PySem.W.instObj C dx)
  ns : h.Ns1 dx mA
  ne : dx ≠ x

theorem lookIn_ns {h : Heap} {dx : Addr} {mA : Str → Option Value} (n : h.Ns1 dx mA) : ∃ od, h.get? dx = some od ∧ ∀ name, PySem.W.lookIn name od = some (mA name) := by
  obtain ⟨o, es, ep, ho, hd, hk, _, hm⟩ := n
  refine ⟨o, ho, fun name => ?_⟩
  have e := hm name
  unfold nsFind findBy at e
  rw [← Array.find?_toList] at e
  unfold PySem.W.lookIn
  rw [hd]
  dsimp only
  split
  · rename_i y q
    rw [q] at e
    exact congrArg some e
  · rename_i q
    rw [q] at e
    have a : es.toList.any (·.refKey) = false := by
      rw [List.any_eq_false]
      intro y hy
      obtain ⟨z, t, hkey⟩ := hk y (Array.mem_toList_iff.mp hy)
      simp [DictEntry.refKey, hkey]
    have a' : ¬ es.toList.any (·.refKey) = true := by rw [a]; exact Bool.false_ne_true
    rw [if_neg a']
    exact congrArg some e

theorem ObjM.look {h : Heap} {x dx C : Addr} {mA : Str → Option Value} (I : ObjM h x dx C mA) : ∃ od, PySem.W.InstAt h x (PySem.W.instObj C dx) C (some od) ∧ ∀ name, PySem.W.lookIn name od = some (mA name) :=
  let ⟨od, ho, hl⟩ := lookIn_ns I.ns
  ⟨od, ⟨I.obj, rfl, rfl, ho⟩, hl⟩

section
variable {prog : Program} {w : World} {A : Around} {E : Value → Shared → Prop} {s : Shared} {K : PySem.W.Frag} {x dx C f : Addr} {mA : Str → Option Value} {name : Str} {v : Value}

end

/-! ### the attributes as a list of pairs -/
def putF (f : Str) (v : V) : List (Str × V) → List (Str × V)
  | [] => [(f, v)]
  | (g, x) :: r => if g = f then (g, v) :: r else (g, x) :: putF f v r
theorem RelO.some_of {v : V} {o : Option Value} (r : RelO (some v) o) : ∃ u, o = some u ∧ RelV v u := by
  cases o with
  | none => exact (show False from r).elim
  | some u => exact ⟨u, rfl, r⟩
section
variable {P : Program} {w : World} {H H' : Hp} {h h' : Heap} {a C dx : Addr} {fs fs' : List (Str × V)}
theorem ins_get (hok : HOk P w H h) (e : H a = some (.ins C dx fs)) : ∃ mA, ObjM h a dx C mA ∧ (∀ f, RelO (fs.lookup f) (mA f)) ∧ PySem.Within mA (fs.map (·.1)) ∧ fs.length ≤ 1000 ∧ H dx = some (.own a) := by
  obtain ⟨d, z, ne, ob, mA, n, r, q⟩ := (show ObjOk P w H h a (.ins C dx fs) from hok a _ e)
  exact ⟨mA, ⟨ob, n, ne⟩, r, q, z, d⟩
end

/-! ### what of the text a class must have -/
structure Cls (K : PySem.W.Frag) (C : Addr) : Prop where
  pg : PySem.W.plainGet K C Str.empty = true
  hd : PySem.W.hasDictIn K C = true
  po : PySem.W.plainOver K C = true
  sa : PySem.W.findIn K (.ref C) "__setattr__" = some (some (.builtin "object.__setattr__"))
theorem Cls.get {K : PySem.W.Frag} {C : Addr} (c : Cls K C) (f : Str) : PySem.W.plainGet K C f = true := c.pg
/-- no class of it has the name -/
def NoAttr (K : PySem.W.Frag) (C : Addr) (f : Str) : Prop := PySem.W.findIn K (.ref C) f = some none
/-- a constant of the class -/
structure Con (K : PySem.W.Frag) (C : Addr) (f : Str) (v : V) (u : Value) : Prop where
  at_ : PySem.W.findIn K (.ref C) f = some (some u)
  rel : RelV v u
  get : PySem.W.specialIn K u "__get__" = some none
  cp : PySem.W.copiedNames.contains f = false
/-- a method: a plain def of the class or of one above it -/
structure Meth (K : PySem.W.Frag) (C : Addr) (m : Str) (f : Addr) : Prop where
  at_ : PySem.W.findIn K (.ref C) m = some (some (.ref f))
  fn : PySem.W.isFn K (.ref f) = true
  kp : PySem.W.keepIn K (.ref f) = true

section
variable {X : Cx} {pins : List (Addr × Obj)} {σ : St} {H : Hp} {s : Shared} {a C dx : Addr} {fs : List (Str × V)} {f : Str} {v : V} {A : Around} {E : Value → Shared → Prop}

/-- a new instance, tracked, without attributes -/
theorem Inv.made (I : Inv X pins σ H s) : Inv X pins σ (upd (upd H s.heap.objs.size (.own (s.heap.objs.size + 1))) (s.heap.objs.size + 1) (.ins C s.heap.objs.size []))
    { s with heap := (s.heap.push PySem.W.emptyDict).push (PySem.W.instObj C s.heap.objs.size) } := by
  have e1 : (s.heap.push PySem.W.emptyDict).get? s.heap.objs.size = some PySem.W.emptyDict := Heap.get?_push_size s.heap rfl
  have e2 : ((s.heap.push PySem.W.emptyDict).push (PySem.W.instObj C s.heap.objs.size)).get? (s.heap.objs.size + 1) = some (PySem.W.instObj C s.heap.objs.size) := by
    have := Heap.get?_push_size (s.heap.push PySem.W.emptyDict) (o := PySem.W.instObj C s.heap.objs.size) rfl
    rwa [Heap.size_push] at this
  have e3 : (s.heap.push PySem.W.emptyDict).Ns s.heap.objs.size (fun _ => none) := ⟨PySem.W.emptyDict, #[], _, e1, rfl, (fun e he => absurd he (by simp)), fun _ => rfl⟩
  have I1 := I.laid (a := s.heap.objs.size) (o := .own (s.heap.objs.size + 1)) (h' := s.heap.push PySem.W.emptyDict) (t' := s.toks) (fun b u q => Heap.get?_push_of_some _ q) (Nat.le_refl _) ⟨_, e1⟩
  refine I1.laid (a := s.heap.objs.size + 1) (o := .ins C s.heap.objs.size []) (t' := s.toks) (fun b u q => Heap.get?_push_of_some _ q) (Nat.le_of_eq (Heap.size_push _ _)) ?_
  have ne : s.heap.objs.size ≠ s.heap.objs.size + 1 := Nat.ne_of_lt (Nat.lt_succ_self _)
  refine ⟨by rw [upd_ne ne, upd_same], Nat.zero_le _, ne, e2, fun _ => none, (Heap.Ns1.of_empty e3).at fun o q => Heap.get?_push_of_some _ q, fun _ => True.intro, fun y hy => absurd rfl hy⟩

end

/-! ### readings and rules -/
/-- e.f, an attribute of the instance -/
def tFld (K : PySem.W.Frag) (ta : TE) (f : Str) : TE := fun σ H Q => ta σ H fun x H1 => ∃ a C dx fs v, x = .ref a ∧ H1 a = some (.ins C dx fs) ∧ Cls K C ∧ NoAttr K C f ∧ fs.lookup f = some v ∧ Q v H1
/-- e.f, a constant of the class -/
def tCon (K : PySem.W.Frag) (ta : TE) (f : Str) : TE := fun σ H Q => ta σ H fun x H1 => ∃ a C dx fs v u, x = .ref a ∧ H1 a = some (.ins C dx fs) ∧ Cls K C ∧ Con K C f v u ∧ fs.lookup f = none ∧ Q v H1
/-- e.f = value -/
def sFld (K : PySem.W.Frag) (ta tv : TE) (f : Str) : TS := fun D σ H => tv σ H fun y H1 => ta σ H1 fun x H2 => ∃ a C dx fs, x = .ref a ∧ H2 a = some (.ins C dx fs) ∧ Cls K C ∧ NoAttr K C f ∧ fs.length < 1000 ∧
  D.nx σ (upd H2 a (.ins C dx (putF f y fs)))
/-- an augmented operator on two values -/
def InOp (X : Cx) (op : Operator) (rd : V → V → Hp → VK → Prop) : Prop :=
  ∀ (pins : List (Addr × Obj)) (s : Shared) (σ : St) (H : Hp) (x y : V) (u v : Value) (Q : VK), Inv X pins σ H s → RelV x u → RelV y v → rd x y H Q → wpAny (model X.prog X.w) X.A (inplaceOp op u v) (EP X pins σ Q) X.xe s
/-- e.f op= value -/
def sFldAug (K : PySem.W.Frag) (ta tv : TE) (rd : V → V → Hp → VK → Prop) (f : Str) : TS := fun D σ H => ta σ H fun x H1 => ∃ a C dx fs v, x = .ref a ∧ H1 a = some (.ins C dx fs) ∧ Cls K C ∧ NoAttr K C f ∧ fs.lookup f = some v ∧
  tv σ H1 fun y H2 => rd v y H2 fun z H3 => ∃ dx' fs', H3 a = some (.ins C dx' fs') ∧ fs'.length < 1000 ∧ D.nx σ (upd H3 a (.ins C dx' (putF f z fs')))

section
variable {X : Cx} {o e value : Expr} {f : Str} {pos pos' tpos : Pos} {ta tv : TE}
def rAdd : V → V → Hp → VK → Prop := fun x y H Q => ∃ i j, x = .int i ∧ y = .int j ∧ Q (.int (i + j)) H
def rSub : V → V → Hp → VK → Prop := fun x y H Q => ∃ i j, x = .int i ∧ y = .int j ∧ Q (.int (i - j)) H
end

/-! ### isinstance -/
section
variable {X : Cx} {pins : List (Addr × Obj)} {σ : St} {H : Hp} {s : Shared} {A : Around} {E : Value → Shared → Prop} {Q : Value → Shared → Prop} {c : Value} {b : Bool}
/-- the type of a value, as the fragment's deciders take it; for an instance its class -/
inductive TyOf (K : PySem.W.Frag) (H : Hp) : V → Value → Prop where
  | non : TyOf K H .non (.type "NoneType")
  | bl (x : Bool) : TyOf K H (.bl x) (.type "bool")
  | int (i : Int) : TyOf K H (.int i) (.type "int")
  | str (x : Str) : TyOf K H (.str x) (.type "str")
  | flt (x : UInt64) : TyOf K H (.flt x) (.type "float")
  | lst {a : Addr} {xs : List V} (e : H a = some (.lst xs)) : TyOf K H (.ref a) (.type "list")
  | frz {a : Addr} {o : Obj} {xs : List V} (e : H a = some (.frz o (.lst xs))) : TyOf K H (.ref a) (.type "list")
  | tup {a : Addr} {xs : List V} (e : H a = some (.tup xs)) : TyOf K H (.ref a) (.type "tuple")
  | dK {a : Addr} {kvs : List (Key × V)} (e : H a = some (.dK kvs)) : TyOf K H (.ref a) (.type "dict")
  | dT {a : Addr} {kvs : List (List Key × V)} (e : H a = some (.dT kvs)) : TyOf K H (.ref a) (.type "dict")
  | ins {a C dx : Addr} {fs : List (Str × V)} (e : H a = some (.ins C dx fs)) (cl : Cls K C) (ha : PySem.W.findIn K (.ref C) "__class__" = some (some (.builtin "object.__class__")))
      (hn : PySem.W.specialIn K (.builtin "object.__class__") "__get__" = some (some (.builtin "getset_descriptor.__get__"))) (htk : PySem.W.takesIn K (.builtin "object.__class__") = some true)
      (hm : PySem.W.mroIn K C (.type "object") = some true) : TyOf K H (.ref a) (.ref C)
/-- isinstance(x, c) for one class c, a built-in or an own one: kitOne's answer -/
theorem isinst_ok {x : V} {u t : Value} (I : Inv X pins σ H s) (rx : RelV x u) (ty : TyOf X.K H x t) (e : PySem.W.kitOne X.K t c = some b) (h : ∀ tk, Q (.bool b) { s with toks := tk }) :
    wpAny (model X.prog X.w) A (call (.builtin "isinstance") [u, c]) Q E s := by
  cases ty with
  | non => cases (show u = Value.none from rx); exact PySem.W.kia_one PySem.W.kitx_none I.kIn True.intro e (fun z => nomatch z) h
  | bl y => cases (show u = Value.bool y from rx); exact PySem.W.kia_one PySem.W.kitx_bool I.kIn True.intro e (fun z => nomatch z) h
  | int i => obtain ⟨t, q⟩ := (show ∃ t, u = Value.int i t from rx); cases q; exact PySem.W.kia_one PySem.W.kitx_int I.kIn True.intro e (fun z => nomatch z) h
  | str y => obtain ⟨t, q⟩ := (show ∃ t, u = Value.str y t from rx); cases q; exact PySem.W.kia_one PySem.W.kitx_str I.kIn True.intro e (fun z => nomatch z) h
  | flt y => obtain ⟨t, q⟩ := (show ∃ t, u = Value.float y t from rx); cases q; exact PySem.W.kia_one PySem.W.kitx_float I.kIn True.intro e (fun z => nomatch z) h
  | @lst a xs ea =>
    cases (show u = Value.ref a from rx)
    obtain ⟨_, _, n, _, h1⟩ := (show ObjOk X.prog X.w H s.heap a (.lst xs) from I.hok a _ ea)
    exact PySem.W.kia_one PySem.W.kitx_list I.kIn ⟨_, h1, rfl⟩ e (fun z => nomatch z) h
  | @frz a ob xs ea =>
    cases (show u = Value.ref a from rx)
    obtain ⟨_, _, _, n, _, h1⟩ := (show ObjOk X.prog X.w H s.heap a (.frz ob (.lst xs)) from I.hok a _ ea)
    exact PySem.W.kia_one PySem.W.kitx_list I.kIn ⟨_, h1, rfl⟩ e (fun z => nomatch z) h
  | @tup a xs ea =>
    cases (show u = Value.ref a from rx)
    obtain ⟨_, _, _, p⟩ := (show ObjOk X.prog X.w H s.heap a (.tup xs) from I.hok a _ ea)
    obtain ⟨o, h1, h2, _⟩ := p
    exact PySem.W.kia_one PySem.W.kitx_tuple I.kIn ⟨o, h1, h2⟩ e (fun z => nomatch z) h
  | @dK a kvs ea =>
    cases (show u = Value.ref a from rx)
    obtain ⟨_, _, vs, _, p⟩ := (show ObjOk X.prog X.w H s.heap a (.dK kvs) from I.hok a _ ea)
    obtain ⟨o, es, ep, h1, h2, _⟩ := p
    exact PySem.W.kia_one PySem.W.kitx_dict I.kIn ⟨o, h1, h2.1⟩ e (fun z => nomatch z) h
  | @dT a kvs ea =>
    cases (show u = Value.ref a from rx)
    obtain ⟨_, _, xs, _, o, es, ep, h1, h2, _⟩ := (show ObjOk X.prog X.w H s.heap a (.dT kvs) from I.hok a _ ea)
    exact PySem.W.kia_one PySem.W.kitx_dict I.kIn ⟨o, h1, h2.1⟩ e (fun z => nomatch z) h
  | @ins a C dx fs ea cl ha hn htk hm =>
    cases (show u = Value.ref a from rx)
    obtain ⟨mA, O, _⟩ := ins_get I.hok ea
    obtain ⟨od, J, _⟩ := O.look
    exact PySem.W.kia_one (PySem.W.kitx_own (cl.get _) cl.hd ha hn htk hm) I.kIn J e (fun z => nomatch z) h
end
end L2

namespace L2
open PySem PySem.Spec PyProof.Rows

/-! ### room -/
structure Room (k : Nat) (A : Around) : Prop where
  hd : A.handled = none
  dp : A.depth + 3 * k + 5 < recursionLimit
  un : A.units + 16 * k + 200 < cLine
theorem Room.mono {j k : Nat} {A : Around} (r : Room k A) (h : j ≤ k) : Room j A := ⟨r.hd, by have := r.dp; omega, by have := r.un; omega⟩
theorem Room.deeper {k : Nat} {A : Around} (r : Room (k + 1) A) (env : Env) : Room k (A.deeper env) :=
  ⟨r.hd, by have := r.dp; show A.depth + 1 + 3 * k + 5 < _; omega, by have := r.un; show A.units + 3 + 16 * k + 200 < _; omega⟩
theorem Room.in1 {k : Nat} {A : Around} (r : Room (k + 1) A) : Room k A.in1 :=
  ⟨r.hd, by have := r.dp; show A.depth + 3 * k + 5 < _; omega, by have := r.un; show A.units + 1 + 16 * k + 200 < _; omega⟩
theorem Room.depth {k : Nat} {A : Around} (r : Room k A) : A.depth < recursionLimit := by have := r.dp; omega
theorem Room.units {k : Nat} {A : Around} (r : Room k A) : A.units + 64 < cLine := by have := r.un; omega
/-! ### argument lists and displays -/
def tNil : TA := fun _ H Q => Q [] H
def tCons (ta : TE) (tr : TA) : TA := fun σ H Q => ta σ H fun x H1 => tr σ H1 fun xs H2 => Q (x :: xs) H2
section
variable {X : Cx} {e : Expr} {es : List Expr} {te : TE} {t : TA} {pos : Pos}
theorem pa_nil : PA X [] tNil := fun _ _ _ _ H Q I h => Calls.spliced_nil ⟨[], H, I, .nil, h⟩
theorem pa_cons (ha : PE X e te) (hr : PA X es t) (hs : starEach (e :: es) X.env = (false, eval e X.env) :: starEach es X.env := by rfl) : PA X (e :: es) (tCons te t) := by
  intro pos pins s σ H Q I h
  rw [hs]
  show wpAny _ _ (spliced ((false, eval e X.env) :: backTo pos (starEach es X.env))) _ _ s
  refine Calls.spliced_cons (thn (ha pins s σ H _ I h) fun u s1 ⟨x, H1, I1, r1, q1⟩ => ?_)
  exact thn (hr pos pins s1 σ H1 _ I1 q1) fun us s2 ⟨xs, H2, I2, r2, q2⟩ => ⟨x :: xs, H2, I2, .cons r1 r2, q2⟩

/-- a tuple, a list of written items -/
def tTup (t : TA) : TE := fun σ H Q => t σ H fun xs H1 => xs.length ≤ sizeLine ∧ ∀ p, H1 p = none → Q (.ref p) (upd H1 p (.tup xs))
def tLst (t : TA) : TE := fun σ H Q => t σ H fun xs H1 => xs.length ≤ sizeLine ∧ ∀ p, H1 p = none → Q (.ref p) (upd H1 p (.lst xs))
theorem pe_tup {x1} (h : PA X es t) : PE X (.Tuple es x1 pos) (tTup t) := by
  intro pins s σ H Q I hq
  refine wpAny_Tuple_spliced (thn (h pos pins s σ H _ I hq) fun us s1 ⟨xs, H1, I1, r, z, q⟩ => ⟨by rw [← r.length]; exact z, ?_⟩)
  have hf : H1 s1.heap.objs.size = none := I1.hok.fresh (Nat.le_refl _)
  refine ⟨.ref s1.heap.objs.size, upd H1 s1.heap.objs.size (.tup xs), I1.laid (t' := s1.toks) (fun b u e => Heap.get?_push_of_some _ e) (Nat.le_refl _) ?_, rfl, q _ hf⟩
  exact ⟨z, us, r, ⟨_, Heap.get?_push_size _ rfl, rfl, _, rfl⟩⟩
theorem pe_lst (h : PA X es t) : PE X (.List es pos) (tLst t) := by
  intro pins s σ H Q I hq
  refine wpAny_List_spliced (thn (h pos pins s σ H _ I hq) fun us s1 ⟨xs, H1, I1, r, z, q⟩ => ⟨by rw [← r.length]; exact z, ?_⟩)
  have hf : H1 s1.heap.objs.size = none := I1.hok.fresh (Nat.le_refl _)
  refine ⟨.ref s1.heap.objs.size, upd H1 s1.heap.objs.size (.lst xs), I1.laid (t' := s1.toks) (fun b u e => Heap.get?_push_of_some _ e) (Nat.le_refl _) ?_, rfl, q _ hf⟩
  exact ⟨z, us, 0, r, Heap.get?_push_size _ rfl⟩
end

/-! ### what a def promises -/
/-- a def's promise: the bound arguments in the parameters' order, the heap, the wanted end, the wanted exception -/
abbrev Sp := List V → Hp → VK → XK → Prop
/-- how an exception lies behind a call (file 08 gives it): the callers' frames, abstract heap and state ahead of the call, the wish, the exception, the state -/
abbrev CXT := List Env → Hp → Shared → XK → Value → Shared → Prop

/-- the state at a call -/
structure Env0 (P : Program) (w : World) (K : PySem.W.Frag) (mg : Str → Option Value) (base : Heap) (A : Around) (outer : List Env) (s : Shared) (H : Hp) : Prop where
  frames : A.frames = some outer
  mod : Mod K mg base
  bs : ∀ b o, base.get? b = some o → s.heap.get? b = some o ∧ H b = none
  bsz : base.objs.size ≤ s.heap.objs.size
  funs : s.heap.FunFrames base outer
  frf : ∀ b ∈ frs outer, H b = none
  hok : HOk P w H s.heap
  bare : AllBare s.gens
/-- a call's end -/
def CE (outer : List Env) (P : Program) (w : World) (H : Hp) (s : Shared) (Q : VK) (u : Value) (s' : Shared) : Prop :=
  ∃ v H', s'.os = s.os ∧ AllBare s'.gens ∧ Un (frs outer) [] H H' s.heap s'.heap ∧ HOk P w H' s'.heap ∧ RelV v u ∧ Q v H'
def CR (CX : CXT) (outer : List Env) (P : Program) (w : World) (H : Hp) (s : Shared) (Q : VK) (E : XK) (r : Result) (s' : Shared) : Prop :=
  match r with
  | .ok (.ret u) => CE outer P w H s Q u s'
  | .ok _ => False
  | .error e => CX outer H s E e s'
structure FnOk (P : Program) (w : World) (K : PySem.W.Frag) (mg : Str → Option Value) (base : Heap) (CX : CXT) (k : Nat) (f : Addr) (fd : FuncData) (ps : List Str) (sp : Sp) : Prop where
  len : ∀ vs H Q E, sp vs H Q E → vs.length = ps.length
  run : ∀ (A : Around) (outer : List Env) (s : Shared) (H : Hp) (args : Args) (us : List Value) (vs : List V) (Q : VK) (E : XK), Room k A → Env0 P w K mg base A outer s H → BindsTo s fd args (ps.zip us) → Vals vs us → sp vs H Q E →
    codeAny (model P w) A (.call (.ref f) args) (CR CX outer P w H s Q E) s
theorem FnOk.mono {P : Program} {w : World} {K : PySem.W.Frag} {mg : Str → Option Value} {base : Heap} {CX : CXT} {j k : Nat} {f : Addr} {fd : FuncData} {ps : List Str} {sp : Sp} (F : FnOk P w K mg base CX j f fd ps sp) (h : j ≤ k) :
    FnOk P w K mg base CX k f fd ps sp := ⟨F.len, fun A outer s H args us vs Q E hr => F.run A outer s H args us vs Q E (hr.mono h)⟩
/-- a weaker promise -/
theorem FnOk.imp {P : Program} {w : World} {K : PySem.W.Frag} {mg : Str → Option Value} {base : Heap} {CX : CXT} {k : Nat} {f : Addr} {fd : FuncData} {ps : List Str} {sp sp' : Sp} (F : FnOk P w K mg base CX k f fd ps sp)
    (h : ∀ vs H Q E, sp' vs H Q E → sp vs H Q E) : FnOk P w K mg base CX k f fd ps sp' :=
  ⟨fun vs H Q E q => F.len vs H Q E (h _ _ _ _ q), fun A outer s H args us vs Q E hr he hb hv hs => F.run A outer s H args us vs Q E hr he hb hv (h _ _ _ _ hs)⟩

theorem Env0.in1 {P : Program} {w : World} {K : PySem.W.Frag} {mg : Str → Option Value} {base : Heap} {A : Around} {outer : List Env} {s : Shared} {H : Hp} (e : Env0 P w K mg base A outer s H) :
    Env0 P w K mg base A.in1 outer s H := ⟨e.frames, e.mod, e.bs, e.bsz, e.funs, e.frf, e.hok, e.bare⟩

section
variable {X : Cx} {pins : List (Addr × Obj)} {σ : St} {H : Hp} {s s' : Shared}
/-- from a body: what a callee wants -/
theorem Inv.env0 (I : Inv X pins σ H s) : Env0 X.prog X.w X.K X.mg X.base X.A X.stack s H :=
  ⟨I.ok.frames, I.ok.mod, I.bs, Nat.le_trans I.ok.bsz I.sz, I.stack, I.stkFree, I.hok, I.bare⟩
/-- behind a call -/
theorem Inv.after {Q : VK} {u : Value} (I : Inv X pins σ H s) (h : CE X.stack X.prog X.w H s Q u s') : EP X pins σ Q u s' := by
  obtain ⟨v, H', os, bare, un, hok, r, q⟩ := h
  obtain ⟨hh, g, d, t, os'⟩ := s'
  obtain rfl : os' = s.os := os
  exact ⟨v, H', I.call (h' := hh) (g' := g) (d' := d) (t' := t) (ch := []) un hok bare (fun b z => absurd z (by simp)), r, q⟩
end

/-! ### calls -/
/-- f(..): the written arguments, then the defaults dvs; E: what is wanted of an exception -/
def tCall (sp : Sp) (dvs : List V) (E : XK) (t : TA) : TE := fun σ H Q => t σ H fun vs H1 => sp (vs ++ dvs) H1 Q E
/-- o.m(..) of an instance of the class at C -/
def tMeth (C : Addr) (m : Str) (sp : Sp) (dvs : List V) (E : XK) (ta : TE) (t : TA) : TE := fun σ H Q => ta σ H fun x H1 => ∃ a dx fs, x = .ref a ∧ H1 a = some (.ins C dx fs) ∧ fs.lookup m = none ∧
  t σ H1 fun vs H2 => sp (x :: (vs ++ dvs)) H2 Q E
/-- C(..): a new instance and its dict, then __init__ -/
def tMake (C : Addr) (sp : Sp) (dvs : List V) (E : XK) (t : TA) : TE := fun σ H Q => t σ H fun vs H1 => ∀ x dx, H1 x = none → H1 dx = none → dx ≠ x →
  sp (.ref x :: (vs ++ dvs)) (upd (upd H1 dx (.own x)) x (.ins C dx [])) (fun v H2 => v = .non ∧ Q (.ref x) H2) E

/-- how the parameters are bound: us the positional arguments, kw the keywords' values by name, ds the defaults that fill up -/
def Binds (K : PySem.W.Frag) (fd : FuncData) (ps : List Str) (ds : List Value) : Prop :=
  ∀ (s : Shared) (us : List Value), K.In s.heap → (us ++ ds).length = ps.length → BindsTo s fd ⟨us, []⟩ (ps.zip (us ++ ds))
/-- every parameter is given -/
theorem Binds.all {K : PySem.W.Frag} {fd : FuncData} {ps : List Str} (h : ∀ us : List Value, us.length = ps.length → bindArgs fd ⟨us, []⟩ = pure (ps.zip us)) : Binds K fd ps [] := fun s us _ hl => by
  rw [List.append_nil] at hl ⊢
  exact .of_eq (h us hl)

/-- an exception of a callee reaches what this body wants of exceptions -/
def Passes (CX : CXT) (X : Cx) (E : XK) : Prop := ∀ (pins : List (Addr × Obj)) (σ : St) (H : Hp) (s : Shared) (e : Value) (s' : Shared), Inv X pins σ H s → CX X.stack H s E e s' → X.xe e s'

section
variable {X : Cx} {CX : CXT} {k : Nat} {f C : Addr} {fd : FuncData} {ps : List Str} {sp : Sp} {dvs : List V} {ds : List Value} {E : XK} {x m : Str} {p pos apos : Pos} {e o : Expr} {es : List Expr} {ta : TE} {t : TA}

/-- the callee runs -/
theorem run_fn {pins : List (Addr × Obj)} {σ : St} {H : Hp} {s : Shared} {Q : VK} {us : List Value} {vs : List V} (F : FnOk X.prog X.w X.K X.mg X.base CX k f fd ps sp) (hr : Room k X.A) (hb : Binds X.K fd ps ds) (hd : Vals dvs ds) (hx : Passes CX X E)
    (I : Inv X pins σ H s) (r : Vals vs us) (h : sp (vs ++ dvs) H Q E) : wpAny (model X.prog X.w) X.A (call (.ref f) us) (EP X pins σ Q) X.xe s := by
  have r2 : Vals (vs ++ dvs) (us ++ ds) := r.append hd
  have hl : (us ++ ds).length = ps.length := by rw [← r2.length]; exact F.len _ _ _ _ h
  refine wpAny_call (codeAny_mono (F.run X.A X.stack s H ⟨us, []⟩ (us ++ ds) (vs ++ dvs) Q E hr I.env0 (hb s us I.kIn hl) r2 h) fun r s' hq => ?_)
  cases r with
  | error e => exact hx pins σ H s e s' I hq
  | ok fl =>
    cases fl with
    | ret u => exact I.after hq
    | next => exact False.elim hq
    | brk => exact False.elim hq
    | cont => exact False.elim hq

theorem pe_call (F : FnOk X.prog X.w X.K X.mg X.base CX k f fd ps sp) (hr : Room k X.A) (hg : Gl X x) (hm : X.mg x = some (.ref f)) (hk : PySem.W.keepIn X.K (.ref f) = true) (hb : Binds X.K fd ps ds) (hd : Vals dvs ds) (hx : Passes CX X E)
    (ha : PA X (e :: es) t) (hdb : (x == ("__debug__" : Str)) = false := by decide) (he : starEach (e :: es) X.env = (false, eval e X.env) :: starEach es X.env := by rfl) (hpl : (backTo pos (starEach es X.env)).any (·.1) = false := by rfl) :
    PE X (.Call (.Name x p) (e :: es) [] pos) (tCall sp dvs E t) := by
  intro pins s σ H Q I h
  refine wpAny_Call_Name_kw (ld_glob I hg hm ?_ hdb)
  refine PySem.W.callWith_K (h₀ := X.base) I.ok.mod.kin hk (thn (ha pos pins s σ H _ I h) fun us s1 ⟨vs, H1, I1, r, q⟩ => ⟨I1.kIn, ?_⟩) he hpl
  exact run_fn F hr hb hd hx I1 r q
/-- what a class must have to be made -/
structure Mk (K : PySem.W.Frag) (C f : Addr) : Prop where
  makes : PySem.W.makesIn K C = true
  init : PySem.W.findIn K (.ref C) "__init__" = some (some (.ref f))
  fn : PySem.W.isFn K (.ref f) = true
  kp : PySem.W.keepIn K (.ref C) = true

end

/-! ### keywords -/
/-- the values of the keywords, from the left -/
def PK (X : Cx) (kws : List Keyword) (t : TA) : Prop :=
  ∀ (pos : Pos) (pins : List (Addr × Obj)) (s : Shared) (σ : St) (H : Hp) (Q : List V → Hp → Prop), Inv X pins σ H s → t σ H Q → wpAny (model X.prog X.w) X.A (evalAll ((backToKw pos (keywordEach kws X.env)).map (·.2))) (AP X pins σ Q) X.xe s
section
variable {X : Cx} {CX : CXT} {k : Nat} {f C : Addr} {fd : FuncData} {ps ks : List Str} {sp : Sp} {E : XK} {x m : Str} {p pos apos kpos : Pos} {e o : Expr} {es : List Expr} {kws : List Keyword} {te ta : TE} {t tk : TA} {nm : Option Str}
/-- how a call with keywords binds: g puts the positional values us and the keywords' values ws (names ks) in the parameters' order, defaults among them -/
structure KBinds (K : PySem.W.Frag) (fd : FuncData) (ps ks : List Str) (g : List Value → List Value → List Value) (gV : List V → List V → List V) : Prop where
  to : ∀ (s : Shared) (us ws : List Value), K.In s.heap → (g us ws).length = ps.length → BindsTo s fd ⟨us, ks.zip ws⟩ (ps.zip (g us ws))
  rel : ∀ {vs : List V} {us : List Value} {zs : List V} {ws : List Value}, Vals vs us → Vals zs ws → Vals (gV vs zs) (g us ws)
def tCallK (sp : Sp) (gV : List V → List V → List V) (E : XK) (t tk : TA) : TE := fun σ H Q => t σ H fun vs H1 => tk σ H1 fun zs H2 => sp (gV vs zs) H2 Q E
variable {g : List Value → List Value → List Value} {gV : List V → List V → List V}
end

/-! ### a def's body keeps its promise -/
/-- names: the parameters first -/
structure FnScope (N P : List Str) (sc : Scope) : Prop where
  kind : sc.kind = .function
  co : sc.isCoroutine = false
  gen : sc.isGenerator = false
  nd : N.Nodup
  pre : N.take P.length = P
  par : ∀ x ∈ P, sc.names.lookup x = some .local ∨ sc.names.lookup x = some .cell
  nofree : ∀ y ∈ sc.names, y.2 ≠ .free

theorem bindL_out {kindOf : Str → Option NameKind} {x : Str} : ∀ {binds : List (Str × Value)} {m : Str → Option Value}, (∀ v, (x, v) ∉ binds) → bindL kindOf binds m x = m x
  | [], _, _ => rfl
  | (n, v) :: r, m, h => by
    unfold bindL
    rw [bindL_out fun w hw => h w (List.mem_cons_of_mem _ hw)]
    split
    · have : x ≠ n := by rintro rfl; exact h v List.mem_cons_self
      simp [this]
    · rfl
theorem bindC_out {kindOf : Str → Option NameKind} {x : Str} : ∀ {binds : List (Str × Value)} {m : Str → Option Value}, (∀ v, (x, v) ∉ binds) → bindC kindOf binds m x = m x
  | [], _, _ => rfl
  | (n, v) :: r, m, h => by
    unfold bindC
    rw [bindC_out fun w hw => h w (List.mem_cons_of_mem _ hw)]
    split
    · rfl
    · have : x ≠ n := by rintro rfl; exact h v List.mem_cons_self
      simp [this]
theorem bindL_get {kindOf : Str → Option NameKind} {x : Str} {v : Value} : ∀ {P : List Str} {vs : List Value} {i : Nat} {m : Str → Option Value}, P.Nodup → P[i]? = some x → vs[i]? = some v → kindOf x = some .local →
    bindL kindOf (P.zip vs) m x = some v
  | [], _, _, _, _, h, _, _ => by simp at h
  | _ :: _, [], _, _, _, _, h, _ => by simp at h
  | p :: P, w :: vs, 0, m, nd, h1, h2, hk => by
    simp at h1 h2; subst h1; subst h2
    show bindL kindOf ((p, w) :: P.zip vs) m p = _
    unfold bindL
    rw [bindL_out fun v hv => (List.nodup_cons.mp nd).1 (List.of_mem_zip hv).1, if_pos hk]
    simp
  | p :: P, w :: vs, i + 1, m, nd, h1, h2, hk => by
    show bindL kindOf ((p, w) :: P.zip vs) m x = _
    unfold bindL
    exact bindL_get (i := i) (List.nodup_cons.mp nd).2 (by simpa using h1) (by simpa using h2) hk
theorem bindC_get {kindOf : Str → Option NameKind} {x : Str} {v : Value} : ∀ {P : List Str} {vs : List Value} {i : Nat} {m : Str → Option Value}, P.Nodup → P[i]? = some x → vs[i]? = some v → kindOf x ≠ some .local →
    bindC kindOf (P.zip vs) m x = some v
  | [], _, _, _, _, h, _, _ => by simp at h
  | _ :: _, [], _, _, _, _, h, _ => by simp at h
  | p :: P, w :: vs, 0, m, nd, h1, h2, hk => by
    simp at h1 h2; subst h1; subst h2
    show bindC kindOf ((p, w) :: P.zip vs) m p = _
    unfold bindC
    rw [bindC_out fun v hv => (List.nodup_cons.mp nd).1 (List.of_mem_zip hv).1, if_neg hk]
    simp
  | p :: P, w :: vs, i + 1, m, nd, h1, h2, hk => by
    show bindC kindOf ((p, w) :: P.zip vs) m x = _
    unfold bindC
    exact bindC_get (i := i) (List.nodup_cons.mp nd).2 (by simpa using h1) (by simpa using h2) hk

/-- the names' values at the entry -/
def start (N : List Str) (vs : List V) : St := vs.map some ++ List.replicate (N.length - vs.length) none

/-- the context of a def's body, at its entry; an exception leaves the frame, then lies as CX says -/
def cxOf (CX : CXT) (P : Program) (w : World) (K : PySem.W.Frag) (mg : Str → Option Value) (base : Heap) (N : List Str) (qual : Str) (scope : Scope) (f : Addr) (cd : Value) (A : Around) (outer : List Env) (s : Shared) (H : Hp) (E : XK) : Cx where
  prog := P
  w := w
  K := K
  mg := mg
  base := base
  A := A.deeper (envOfC qual scope s.heap.objs.size f cd)
  N := N
  s₀ := s
  H₀ := H
  env := envOfC qual scope s.heap.objs.size f cd
  outer := outer
  stack := envOfC qual scope s.heap.objs.size f cd :: outer
  ex := []
  calm := true
  fn := fun _ => true
  pn := []
  xe := fun e s' => wpAny (model P w) (A.deeper (envOfC qual scope s.heap.objs.size f cd)) (leaving (envOfC qual scope s.heap.objs.size f cd) e) (fun _ s'' => CX outer H s E e s'') (fun e' s'' => CX outer H s E e' s'') s'

theorem cell_has {sc : Scope} {n : Nat} {x : Str} (h : sc.names.lookup x = some .cell) : ∃ c, (cellsFrom n sc.names []).lookup x = some c := by
  have q := PySem.W.cellsFrom_some sc.names n [] (.inl h)
  exact Option.isSome_iff_exists.mp q

theorem inv_start {CX : CXT} {P : Program} {w : World} {K : PySem.W.Frag} {mg : Str → Option Value} {base : Heap} {N ps : List Str} {qual : Str} {scope : Scope} {f : Addr} {cd : Value} {A : Around} {outer : List Env} {s s1 : Shared} {H : Hp} {E : XK} {us : List Value} {vs : List V}
    (S : FnScope N ps scope) (hd : A.handled = none) (e0 : Env0 P w K mg base A outer s H) (hl : vs.length = ps.length) (r : Vals vs us)
    (x : InCallC s s.heap.objs.size (bindL (envOfC qual scope s.heap.objs.size f cd).kindOf (ps.zip us) fun _ => none) (cellsFrom (s.heap.objs.size + 1) scope.names []) (bindC (envOfC qual scope s.heap.objs.size f cd).kindOf (ps.zip us) fun _ => none) s1) :
    Inv (cxOf CX P w K mg base N qual scope f cd A outer s H E) [] (start N vs) H s1 := by
  have hpl : ps.length ≤ N.length := by have := congrArg List.length S.pre; rw [List.length_take] at this; omega
  obtain ⟨h1, tk, rfl, hk⟩ := x.done
  have noA : ∀ b : Addr, b ∉ (cxOf CX P w K mg base N qual scope f cd A outer s H E).ex := fun b z => absurd (show b ∈ ([] : List Addr) from z) (by simp)
  refine ⟨⟨e0.mod, S.kind, rfl, rfl, Nat.le_refl _, fun y z c h1 h2 => ?_, fun y hy => ?_, fun y c _ h => ?_, fun _ => hd, Around.frames_deeper e0.frames, .inr ⟨rfl, rfl⟩, fun b z => absurd z (noA b), e0.bs, e0.bsz, fun b _ _ => noA b, fun b z => absurd z (noA b), e0.funs, e0.frf⟩,
    rfl, e0.bare, Un.kept hk, ⟨_, x.toInCall.ns, fun i y v h1 h2 h3 => ?_⟩, fun y c h => ⟨_, x.cell y c h⟩, e0.hok.fresh (Nat.le_refl _), fun y c h => ?_, fun p hp => absurd (show p ∈ ([] : List (Addr × Obj)) from hp) (by simp), e0.hok.kept hk, ?_⟩
  · exact name_of_addr x.apart (PySem.mem_of_lookup h1) (PySem.mem_of_lookup h2)
  · have hy : scope.names.lookup y = some .cell ∨ scope.names.lookup y = some .free := hy
    rcases hy with hy | hy
    · exact cell_has hy
    · exact absurd rfl (S.nofree _ (PySem.mem_of_lookup hy))
  · exact Nat.le_of_lt (x.above y c (PySem.mem_of_lookup h))
  · have hi : i < vs.length := by
      unfold start at h2
      by_cases hi : i < vs.length
      · exact hi
      · rw [List.getElem?_append_right (by simpa using hi)] at h2
        rw [List.getElem?_replicate] at h2
        split at h2 <;> cases h2
    have ha : vs[i]? = some v := by
      unfold start at h2
      rw [List.getElem?_append_left (by simpa using hi), List.getElem?_map] at h2
      cases e : vs[i]? with
      | none => rw [e] at h2; cases h2
      | some a => rw [e] at h2; cases h2; rfl
    obtain ⟨u, hu, rv⟩ := r.get ha
    have hp : ps[i]? = some y := by
      rw [← S.pre, List.getElem?_take_of_lt (by omega)]; exact h1
    have ndP : ps.Nodup := by rw [← S.pre]; exact S.nd.sublist (List.take_sublist _ _)
    refine ⟨u, rv, ?_⟩
    rcases S.par y (List.mem_of_getElem? hp) with k | k
    · exact .inl ⟨k, bindL_get ndP hp hu k⟩
    · obtain ⟨c, e⟩ := cell_has (n := s.heap.objs.size + 1) k
      refine .inr ⟨.inl k, c, e, ?_⟩
      have q := x.cell y c e
      rw [bindC_get ndP hp hu (by show scope.names.lookup y ≠ _; rw [k]; decide)] at q
      exact q
  · exact e0.hok.fresh (Nat.le_of_lt (x.above y c (PySem.mem_of_lookup h)))
  · unfold start
    show _ = N.length
    rw [List.length_append, List.length_map, List.length_replicate]
    omega

/-- THE RULE: a def (or a method) of the text, by its body. The body's reading t is chosen for each entry; it is run at the parameters' values -/
theorem fn_of {CX : CXT} {P : Program} {w : World} {K : PySem.W.Frag} {mg : Str → Option Value} {base : Heap} {k : Nat} {f : Addr} {name qual : Str} {params : Arguments} {body : List Stmt} {scope : Scope} {dV kV doc pm cdv ct oc : Value} {an od : Option Addr}
    {osl : Array (Option Value)} {N ps : List Str} {sp : Sp} (lk : K.lookup f = some ⟨oc, od, .func (PySem.W.fnOf name qual params body scope dV kV doc pm an cdv ct), osl⟩) (hcd : PySem.W.codeIn K cdv qual = true) (S : FnScope N ps scope)
    (len : ∀ vs H Q E, sp vs H Q E → vs.length = ps.length)
    (hbody : ∀ (A : Around) (outer : List Env) (s : Shared) (H : Hp) (vs : List V) (Q : VK) (E : XK), Room k (A.deeper (envOfC qual scope s.heap.objs.size f cdv)) → sp vs H Q E →
      ∃ t, PSs (cxOf CX P w K mg base N qual scope f cdv A outer s H E) body t ∧ t { nx := fun _ H' => Q .non H', rt := Q } (start N vs) H) :
    FnOk P w K mg base CX (k + 1) f (PySem.W.fnOf name qual params body scope dV kV doc pm an cdv ct) ps sp := by
  refine ⟨len, fun A outer s H args us vs Q E hr e0 hb r hsp => ?_⟩
  have hl := len _ _ _ _ hsp
  have KX : K.In s.heap := e0.mod.kin.keeps fun b o e => (e0.bs b o e).1
  have lim : s.heap.NoLimit := e0.mod.nolimit.keeps fun b o e => (e0.bs b o e).1
  have hkind : ∀ y ∈ ps.zip us, scope.names.lookup y.1 = some .local ∨ (scope.names.lookup y.1 = some .cell ∧ ((cellsFrom (s.heap.objs.size + 1) scope.names []).lookup y.1).isSome = true) := fun ⟨n, v⟩ hy => by
    rcases S.par n (List.of_mem_zip hy).1 with q | q
    · exact .inl q
    · exact .inr ⟨q, PySem.W.cellsFrom_some _ _ _ (.inl q)⟩
  refine codeAny_call_function hr.depth (KX _ _ lk) rfl S.co S.gen rfl (PySem.W.codeRec_of KX hcd) (hb _ _ _ _ ?_)
  refine wpAny_newFunctionEnv_cells S.kind hkind fun env he s1 x => ?_
  subst he
  refine ⟨lim.keeps x.toInCall.keep, codeAny_func ?_⟩
  obtain ⟨t, ht, hq⟩ := hbody A outer s H vs Q E (hr.deeper _) hsp
  have I : Inv (cxOf CX P w K mg base N qual scope f cdv A outer s H E) [] (start N vs) H s1 := inv_start S hr.hd e0 hl r x
  refine wpAny_mono (ht [] s1 (start N vs) H _ I hq) (fun fl s' hs => ?_) fun e s' hs => hs
  have fin : ∀ {σ' : St} {H' : Hp} {v : V} {u : Value}, Inv (cxOf CX P w K mg base N qual scope f cdv A outer s H E) [] σ' H' s' → RelV v u → Q v H' → CE outer P w H s Q u s' :=
    fun {σ' H' v u} J rv q => ⟨v, H', J.os, J.bare, J.base, J.hok, rv, q⟩
  cases fl with
  | ret u =>
    obtain ⟨v, σ', H', J, rv, q⟩ := hs
    exact fin J rv q
  | next =>
    obtain ⟨σ', H', J, q⟩ := hs
    exact fin (v := V.non) (u := Value.none) J rfl q
  | brk =>
    obtain ⟨_, _, _, q⟩ := hs
    exact False.elim q
  | cont =>
    obtain ⟨_, _, _, q⟩ := hs
    exact False.elim q
end L2

namespace L2
open PySem PySem.Spec PyProof.Rows
section
variable {X : Cx} {x : Str} {p pos : Pos} {e : Expr} {es : List Expr} {t : TA} {id T : String} {r : List V → Hp → VK → Prop}

def tCB (r : List V → Hp → VK → Prop) (t : TA) : TE := fun σ H Q => t σ H fun vs H1 => r vs H1 Q
/-- f(e, ..), f a built-in function -/
theorem pe_callB (hc : CallR X (.builtin id) r) (hg : Gl X x) (hm : X.mg x = none) (hv : bootBuiltins x = some (.builtin id)) (ha : PA X (e :: es) t) (hn : x ≠ "__name__" := by decide) (hdb : (x == ("__debug__" : Str)) = false := by decide)
    (he : starEach (e :: es) X.env = (false, eval e X.env) :: starEach es X.env := by rfl) (hpl : (backTo pos (starEach es X.env)).any (·.1) = false := by rfl) : PE X (.Call (.Name x p) (e :: es) [] pos) (tCB r t) := by
  intro pins s σ H Q I h
  refine wpAny_Call_Name_kw (ld_blt I hg hm hv ?_ hn hdb)
  exact PyProof.Rows.callWith_builtin1 (thn (ha pos pins s σ H _ I h) fun us s1 ⟨vs, H1, I1, r1, q1⟩ => hc pins s1 σ H1 vs us Q I1 r1 q1) he hpl
/-- T(e, ..), T a built-in type -/
theorem pe_callTy (hc : CallR X (.type T) r) (hg : Gl X x) (hm : X.mg x = none) (hv : bootBuiltins x = some (.type T)) (ha : PA X (e :: es) t) (hn : x ≠ "__name__" := by decide) (hdb : (x == ("__debug__" : Str)) = false := by decide)
    (he : starEach (e :: es) X.env = (false, eval e X.env) :: starEach es X.env := by rfl) (hpl : (backTo pos (starEach es X.env)).any (·.1) = false := by rfl) : PE X (.Call (.Name x p) (e :: es) [] pos) (tCB r t) := by
  intro pins s σ H Q I h
  refine wpAny_Call_Name_kw (ld_blt I hg hm hv ?_ hn hdb)
  exact PyProof.Rows.callWith_type1 (thn (ha pos pins s σ H _ I h) fun us s1 ⟨vs, H1, I1, r1, q1⟩ => hc pins s1 σ H1 vs us Q I1 r1 q1) he hpl
end
end L2

namespace HT
open PySem PyProof.Rows

/-- t < u of tuples of ints -/
def lexLt : List Int → List Int → Bool
  | [], [] => false
  | [], _ :: _ => true
  | _ :: _, [] => false
  | x :: xs, y :: ys => if x = y then lexLt xs ys else decide (x < y)
section
open PySem.SeqAt
open PySem.AutoSeq1 (wpAny_loadPart')
open PySem.MeetsSeq PySem.MeetsSeq2 PySem.MeetsSeq3

end

section
variable {prog : Program} {w : World} {A : Around} {E : Value → Shared → Prop} {s : Shared}

/-! ### t[a:b], not the whole -/
/-- a slice's bound as a place among n (d where it is left out) -/
def sIx (n d : Nat) : Option Int → Nat
  | none => d
  | some v => if v < 0 then (v + (n : Int)).toNat else min v.toNat n
end
end HT

namespace L2
open PySem PySem.Spec PyProof.Rows

/-! ### the parts of a slice -/
abbrev TO := St → Hp → (Option Int → Hp → Prop) → Prop
/-- a slice's part (left out, or an int) -/
def PO (X : Cx) (e : Option Expr) (t : TO) : Prop :=
  ∀ (pins : List (Addr × Obj)) (s : Shared) (σ : St) (H : Hp) (Q : Option Int → Hp → Prop), Inv X pins σ H s → t σ H Q →
    wpAny (model X.prog X.w) X.A (evalPart e X.env) (fun u s' => ∃ o H', Inv X pins σ H' s' ∧ IsPart u o ∧ Q o H') X.xe s
def tNoPart : TO := fun _ H Q => Q none H
def tPart (t : TE) : TO := fun σ H Q => t σ H fun x H1 => ∃ i, x = .int i ∧ Q (some i) H1

section
variable {X : Cx} {e : Expr} {te : TE} {lo hi : Option Expr} {tl th : TO} {pos p2 : Pos}

theorem po_some (h : PE X e te) : PO X (some e) (tPart te) := by
  intro pins s σ H Q I hw
  rw [evalPart_some]
  refine thn (h pins s σ H _ I hw) fun u s1 ⟨x, H1, I1, r1, q1⟩ => ?_
  obtain ⟨i, rfl, q⟩ := q1
  obtain ⟨t, rfl⟩ := r1
  exact ⟨some i, H1, I1, .int i t, q⟩

/-- what a slice of a value is, by values: the slice object stands at sl -/
def SlR (X : Cx) (r : V → Option Int → Option Int → Hp → VK → Prop) : Prop :=
  ∀ (pins : List (Addr × Obj)) (s : Shared) (σ : St) (H : Hp) (x : V) (v vl vu : Value) (lo hi : Option Int) (sl : Addr) (Q : VK), Inv X pins σ H s → RelV x v → s.heap.IsSliceOf sl vl vu .none → IsPart vl lo → IsPart vu hi → r x lo hi H Q →
    ∃ T id, typeLookup (.type T) "__getitem__" = pure (some (.builtin id)) ∧ s.TypeIs v T ∧ wpAny (model X.prog X.w) X.A (getItem v (.ref sl)) (EP X pins σ Q) X.xe s
theorem SlR.or {r r' : V → Option Int → Option Int → Hp → VK → Prop} (h : SlR X r) (h' : SlR X r') : SlR X (fun x lo hi H Q => r x lo hi H Q ∨ r' x lo hi H Q) := by
  intro pins s σ H x v vl vu lo hi sl Q I rx hs pl pu q
  rcases q with q | q
  · exact h pins s σ H x v vl vu lo hi sl Q I rx hs pl pu q
  · exact h' pins s σ H x v vl vu lo hi sl Q I rx hs pl pu q
def tSl (r : V → Option Int → Option Int → Hp → VK → Prop) (te : TE) (tl th : TO) : TE := fun σ H Q => te σ H fun x H1 => tl σ H1 fun l H2 => th σ H2 fun u H3 => r x l u H3 Q
/-- a[lo:hi], any a -/
theorem pe_slice {r : V → Option Int → Option Int → Hp → VK → Prop} (hr : SlR X r) (he : PE X e te) (hl : PO X lo tl) (hu : PO X hi th) : PE X (.Subscript e (.Slice lo hi none p2) pos) (tSl r te tl th) := by
  intro pins s σ H Q I h
  refine Subscript_ (thn (he pins s σ H _ I h) fun v s1 ⟨x, H1, I1, r1, q1⟩ => ?_)
  refine wpAny_Slice (thn (hl pins s1 σ H1 _ I1 q1) fun vl s2 ⟨l, H2, I2, pl, q2⟩ => thn (hu pins s2 σ H2 _ I2 q2) fun vu s3 ⟨u, H3, I3, pu, q3⟩ => ?_)
  rw [evalPart_none]
  refine wpAny_pure ?_
  have I4 : Inv X pins σ H3 { s3 with heap := s3.heap.push { cls := .type "slice", data := .fields #[vl, vu, .none] } } := I3.kept (t' := s3.toks) fun b ob q => Heap.get?_push_of_some _ q
  obtain ⟨T, id, hT, ht, hg⟩ := hr pins { s3 with heap := s3.heap.push { cls := .type "slice", data := .fields #[vl, vu, .none] } } σ H3 x v vl vu l u s3.heap.objs.size Q I4 r1 (Heap.IsSliceOf.new ..) pl pu q3
  show wpAny (model X.prog X.w) X.A (subscriptTail e (.Slice lo hi none p2) v (.ref s3.heap.objs.size)) (EP X pins σ Q) X.xe { s3 with heap := s3.heap.push { cls := .type "slice", data := .fields #[vl, vu, .none] } }
  exact tail_any (ops := [.ref s3.heap.objs.size, v]) ht hT hg (by with_unfolding_all rfl)

/-- the items of xs[lo:hi] -/
def cutV (xs : List V) (lo hi : Option Int) : List V := (xs.drop (HT.sIx xs.length 0 lo)).take (HT.sIx xs.length xs.length hi - HT.sIx xs.length 0 lo)
theorem cutV_length (xs : List V) (lo hi : Option Int) : (cutV xs lo hi).length ≤ xs.length := by
  unfold cutV
  rw [List.length_take, List.length_drop]
  omega
/-- t[lo:hi], not the whole of it (the whole would be t itself) -/
def rSlT (K : PySem.W.Frag) : V → Option Int → Option Int → Hp → VK → Prop := fun x lo hi H Q => ∃ a xs, x = .ref a ∧ SqT K H a xs ∧
  ¬ (HT.sIx xs.length 0 lo = 0 ∧ HT.sIx xs.length xs.length hi = xs.length) ∧ ∀ p, H p = none → Q (.ref p) (upd H p (.tup (cutV xs lo hi)))
/-! ### t < u, t + u -/
def rLtT (K : PySem.W.Frag) : R2 := fun x y H Q => ∃ a b ns ms, x = .ref a ∧ y = .ref b ∧ SqT K H a (ns.map V.int) ∧ SqT K H b (ms.map V.int) ∧ Q (.bl (HT.lexLt ns ms)) H
/-- t + u, t not empty: u empty gives t itself -/
def rCatT (K : PySem.W.Frag) : R2 := fun x y H Q => ∃ a b xs ys, x = .ref a ∧ y = .ref b ∧ SqT K H a xs ∧ SqT K H b ys ∧ xs ≠ [] ∧ xs.length + ys.length ≤ sizeLine ∧
  (ys = [] → Q (.ref a) H) ∧ (ys ≠ [] → ∀ p, H p = none → Q (.ref p) (upd H p (.tup (xs ++ ys))))
end
end L2

namespace L2
open PySem PySem.Spec PyProof.Rows

/-! ### places -/
/-- the place that an index of any sign means -/
def ixN (n : Nat) (i : Int) : Option Nat := if 0 ≤ i then (if i < n then some i.toNat else none) else if -(n : Int) ≤ i then some (i + n).toNat else none
def atI {α : Type} (xs : List α) (i : Int) : Option α := (ixN xs.length i).bind fun j => xs[j]?
theorem ixN_seq {n : Nat} {i : Int} {j : Nat} (h : ixN n i = some j) : seqIndex? i n = some j ∧ j < n ∧ -(n : Int) ≤ i ∧ i < n := by
  unfold ixN at h
  by_cases h0 : 0 ≤ i
  · rw [if_pos h0] at h
    by_cases h1 : i < n
    · rw [if_pos h1] at h
      have e : i.toNat = j := Option.some.inj h
      exact ⟨by rw [seqIndex_of h0 h1, e], by omega, by omega, h1⟩
    · rw [if_neg h1] at h; cases h
  · rw [if_neg h0] at h
    by_cases h1 : -(n : Int) ≤ i
    · rw [if_pos h1] at h
      have e : (i + n).toNat = j := Option.some.inj h
      exact ⟨by rw [seqIndex_neg (by omega) h1, e], by omega, h1, by omega⟩
    · rw [if_neg h1] at h; cases h
theorem atI_get {α : Type} {xs : List α} {i : Int} {v : α} (h : atI xs i = some v) : ∃ j, seqIndex? i xs.length = some j ∧ xs[j]? = some v ∧ j < xs.length ∧ -(xs.length : Int) ≤ i ∧ i < xs.length := by
  unfold atI at h
  cases e : ixN xs.length i with
  | none => rw [e] at h; cases h
  | some j =>
    rw [e] at h
    obtain ⟨h1, h2, h3, h4⟩ := ixN_seq e
    exact ⟨j, h1, h, h2, h3, h4⟩
theorem atI_nat {α : Type} {xs : List α} {j : Nat} {v : α} (h : xs[j]? = some v) : atI xs (j : Int) = some v := by
  have hj : j < xs.length := (List.getElem?_eq_some_iff.mp h).1
  have e : ixN xs.length (j : Int) = some j := by
    unfold ixN
    rw [if_pos (by omega), if_pos (by omega)]; simp
  unfold atI; rw [e]; exact h
/-! ### what may be subscripted -/
/-- what stands as an index of a plain subscript -/
def PlainIx (b : Expr) : Prop := ∀ o i, subscripted b false o i = operate [o, i] (getItem o i)
/-- a subscript by values -/
def IxR (X : Cx) (r : R2) : Prop :=
  ∀ (value slice : Expr) (pins : List (Addr × Obj)) (s : Shared) (σ : St) (H : Hp) (x y : V) (v u : Value) (Q : VK), Inv X pins σ H s → RelV x v → RelV y u → r x y H Q →
    subscripted slice false v u = operate [v, u] (getItem v u) → wpAny (model X.prog X.w) X.A (subscriptTail value slice v u) (EP X pins σ Q) X.xe s
/-- a call of a builtin's method by values: the receiver, the arguments -/
def MtR (X : Cx) (id : String) (r : V → List V → Hp → VK → Prop) : Prop :=
  ∀ (pins : List (Addr × Obj)) (s : Shared) (σ : St) (H : Hp) (x : V) (xs : List V) (v : Value) (us : List Value) (Q : VK), Inv X pins σ H s → RelV x v → Vals xs us → r x xs H Q →
    wpAny (model X.prog X.w) X.A (call (.builtin id) (v :: us)) (EP X pins σ Q) X.xe s
section
variable {X : Cx} {a b : Expr} {ta tb : TE} {pos : Pos}
theorem IxR.or {r r' : R2} (h : IxR X r) (h' : IxR X r') : IxR X (fun x y H Q => r x y H Q ∨ r' x y H Q) := by
  intro value slice pins s σ H x y v u Q I rx ry q hs
  rcases q with q | q
  · exact h value slice pins s σ H x y v u Q I rx ry q hs
  · exact h' value slice pins s σ H x y v u Q I rx ry q hs
theorem MtR.or {id : String} {r r' : V → List V → Hp → VK → Prop} (h : MtR X id r) (h' : MtR X id r') : MtR X id (fun x xs H Q => r x xs H Q ∨ r' x xs H Q) := by
  intro pins s σ H x xs v us Q I rx rs q
  rcases q with q | q
  · exact h pins s σ H x xs v us Q I rx rs q
  · exact h' pins s σ H x xs v us Q I rx rs q
/-- a[b] -/
theorem pe_ix {r : R2} (hr : IxR X r) (ha : PE X a ta) (hb : PE X b tb) (hs : PlainIx b) : PE X (.Subscript a b pos) (tOp r ta tb) := by
  intro pins s σ H Q I h
  exact Subscript_ (binT ha hb I h fun v u s2 x y H2 I2 rx ry q => hr a b pins s2 σ H2 x y v u Q I2 rx ry q (hs _ _))

def rIxL (K : PySem.W.Frag) : R2 := fun x y H Q => ∃ p xs i v, x = .ref p ∧ y = .int i ∧ SqL K H p xs ∧ atI xs i = some v ∧ Q v H
def rIxT (K : PySem.W.Frag) : R2 := fun x y H Q => ∃ p xs i v, x = .ref p ∧ y = .int i ∧ SqT K H p xs ∧ atI xs i = some v ∧ Q v H
def rIxS : R2 := fun x y H Q => ∃ z i c, x = .str z ∧ y = .int i ∧ z.length ≤ sizeLine ∧ atI z.cps.toList i = some c ∧ Q (.str ⟨#[c]⟩) H
theorem ix_list : IxR X (rIxL X.K) := by
  intro value slice pins s σ H x y v u Q I rx ry h hs
  obtain ⟨p, xs, i, z, rfl, rfl, hq, he, q⟩ := h
  cases rx
  obtain ⟨t, rfl⟩ := ry
  obtain ⟨its, r, pl, hz⟩ := I.list hq
  obtain ⟨j, h1, h2, h3, h4, h5⟩ := atI_get he
  obtain ⟨w, ew, rw'⟩ := r.get h2
  have hl := r.length
  have hn := line63
  have fin : EP X pins σ Q w s := ⟨z, H, I, rw', q⟩
  by_cases h0 : 0 ≤ i
  · have hj : i.toNat = j := by
      rw [seqIndex_of h0 h5] at h1
      exact Option.some.inj h1
    exact item_listR pl.isList h0 (by omega) (by rw [hj]; simpa using ew) fin hs
  · have hj : (i + (its.toArray.size : Int)).toNat = j := by
      rw [seqIndex_neg (by omega) h4] at h1
      rw [List.size_toArray, ← hl]
      exact Option.some.inj h1
    exact subscriptTail_builtinR (x := w) pl.isList.typeIs slot_list_getitem.lookup
      (wpAny_getItem_list_neg (Q := fun r s' => r = w ∧ EP X pins σ Q r s') pl.isList (by omega) (by rw [List.size_toArray] <;> omega) (by omega) (by rw [hj]; simpa using ew) ⟨rfl, fin⟩) hs
theorem ix_tup : IxR X (rIxT X.K) := by
  intro value slice pins s σ H x y v u Q I rx ry h hs
  obtain ⟨p, xs, i, z, rfl, rfl, hq, he, q⟩ := h
  cases rx
  obtain ⟨t, rfl⟩ := ry
  obtain ⟨its, r, pl, hz⟩ := I.tuple hq
  obtain ⟨j, h1, h2, h3, h4, h5⟩ := atI_get he
  obtain ⟨w, ew, rw'⟩ := r.get h2
  have hl := r.length
  have hn := line63
  have fin : EP X pins σ Q w s := ⟨z, H, I, rw', q⟩
  exact subscriptTail_builtinR (x := w) pl.typeIs slot_tuple_getitem.lookup
    (getItem_tuple (j := j) (Q := fun r s' => r = w ∧ EP X pins σ Q r s') pl (by omega) (by omega) (by rw [List.size_toArray, ← hl]; exact h1) (by simpa using ew) ⟨rfl, fin⟩) hs
theorem ix_str : IxR X rIxS := by
  intro value slice pins s σ H x y v u Q I rx ry h hs
  obtain ⟨z, i, c, rfl, rfl, hz, he, q⟩ := h
  obtain ⟨t, rfl⟩ := rx
  obtain ⟨t', rfl⟩ := ry
  obtain ⟨j, h1, h2, h3, h4, h5⟩ := atI_get he
  have hl : z.cps.toList.length = z.length := by simp [Str.length]
  rw [hl] at h1 h4 h5
  have hn := line63
  exact tail_any (typeIs_str s z t) slot_str_getitem.lookup (getItem_str (c := c) (by
    have e1 : decide (i < -(2 ^ 63 : Int)) = false := decide_eq_false (by omega)
    have e2 : decide (i ≥ 2 ^ 63) = false := decide_eq_false (by omega)
    rw [e1, e2, Bool.or_false]) (by rw [h1]; simpa using h2) ⟨.str ⟨#[c]⟩, H, I.tok _, ⟨_, rfl⟩, q⟩) hs
/-- list, tuple or str -/
def rIx (K : PySem.W.Frag) : R2 := fun x y H Q => rIxL K x y H Q ∨ rIxT K x y H Q ∨ rIxS x y H Q
theorem ix_seq : IxR X (rIx X.K) := ix_list.or (ix_tup.or ix_str)

/-! ### xs[i] = v, any sign -/
theorem Inv.lst {pins : List (Addr × Obj)} {σ : St} {H : Hp} {s : Shared} {p : Addr} {xs : List V} (I : Inv X pins σ H s) (h : H p = some (.lst xs)) :
    ∃ (its : List Value) (n : Nat), Vals xs its ∧ s.heap.get? p = some { cls := .type "list", data := .seq its.toArray n } ∧ xs.length ≤ sizeLine := by
  obtain ⟨z, its, n, r, e⟩ := I.hok p _ h
  exact ⟨its, n, r, e, z⟩
def rSetL : V → V → V → Hp → (Hp → Prop) → Prop := fun o i v H Q => ∃ p xs k j, o = .ref p ∧ i = .int k ∧ H p = some (.lst xs) ∧ ixN xs.length k = some j ∧ Q (upd H p (.lst (xs.set j v)))
/-! ### slices -/
theorem slice_bounds (lo hi : Option Int) (n : Nat) : (sliceBounds lo hi none n).1 = ((HT.sIx n 0 lo : Nat) : Int) ∧ (sliceBounds lo hi none n).2.1 = ((HT.sIx n n hi : Nat) : Int) ∧ (sliceBounds lo hi none n).2.2 = 1 := by
  refine ⟨?_, ?_, rfl⟩
  · cases lo with
    | none => simp [sliceBounds, HT.sIx]
    | some i =>
      simp only [sliceBounds, HT.sIx, Option.getD_none, show (1 : Int) > 0 by decide, if_true]
      by_cases h : i < 0
      · simp only [h, if_true] <;> omega
      · simp only [h, if_false] <;> omega
  · cases hi with
    | none => simp [sliceBounds, HT.sIx]
    | some i =>
      simp only [sliceBounds, HT.sIx, Option.getD_none, show (1 : Int) > 0 by decide, if_true]
      by_cases h : i < 0
      · simp only [h, if_true] <;> omega
      · simp only [h, if_false] <;> omega
theorem slicePick_cut (its : List Value) (lo hi : Option Int) : slicePick its.toArray lo hi none = ((its.drop (HT.sIx its.length 0 lo)).take (HT.sIx its.length its.length hi - HT.sIx its.length 0 lo)).toArray := by
  obtain ⟨h1, h2, h3⟩ := slice_bounds lo hi its.toArray.size
  unfold slicePick
  rw [h1, h2, h3]
  simp only [sliceRange_one, pick_run, List.size_toArray] <;> rfl
/-- xs[lo:hi] of a list: a new list -/
def rSlL (K : PySem.W.Frag) : V → Option Int → Option Int → Hp → VK → Prop := fun x lo hi H Q => ∃ a xs, x = .ref a ∧ SqL K H a xs ∧ ∀ p, H p = none → Q (.ref p) (upd H p (.lst (cutV xs lo hi)))
theorem sl_list : SlR X (rSlL X.K) := by
  intro pins s σ H x v vl vu lo hi sl Q I rx hs pl pu h
  obtain ⟨a, xs, rfl, hx, q⟩ := h
  cases rx
  obtain ⟨its, r, ht, hz⟩ := I.list hx
  have hlen := r.length
  refine ⟨"list", _, slot_list_getitem.lookup, ht.isList.typeIs, ?_⟩
  refine wpAny_getItem_list_slice ht.isList hs pl pu .none (by simp) ?_ (by rw [List.size_toArray] <;> omega)
  rw [slicePick_cut, ← hlen]
  refine ⟨.ref s.heap.objs.size, _, I.laid (t' := s.toks) (o := .lst (cutV xs lo hi)) (fun b ob q => Heap.get?_push_of_some _ q) (Nat.le_refl _) ?_, rfl, q _ (I.hok.fresh (Nat.le_refl _))⟩
  exact ⟨Nat.le_trans (cutV_length xs lo hi) hz, _, 0, (r.drop (HT.sIx xs.length 0 lo)).take (HT.sIx xs.length xs.length hi - HT.sIx xs.length 0 lo), Heap.get?_push_size _ rfl⟩

/-! ### in, not in: flat items -/
def flatV : V → Bool
  | .non => true
  | .bl _ => true
  | .int _ => true
  | .str _ => true
  | _ => false
/-- == of flat values -/
def eqV : V → V → Bool
  | .non, .non => true
  | .bl a, .bl b => a == b
  | .bl a, .int b => (if a then 1 else 0) == b
  | .int a, .bl b => a == (if b then 1 else 0)
  | .int a, .int b => a == b
  | .str a, .str b => a == b
  | _, _ => false
/-- the items' answers, read off the values (a value's own answer does not lean on its token) -/
def eqU (x : V) (u : Value) : Bool := match u with
  | .none => eqV .non x
  | .bool b => eqV (.bl b) x
  | .int i _ => eqV (.int i) x
  | .str z _ => eqV (.str z) x
  | _ => false
def inV (x : V) (xs : List V) : Bool := xs.any fun y => eqV y x
/-- x in a list or tuple of flat items -/
def rIn (K : PySem.W.Frag) (neg : Bool) : R2 := fun x y H Q => ∃ p xs, y = .ref p ∧ (SqL K H p xs ∨ SqT K H p xs) ∧ flatV x = true ∧ xs.all flatV = true ∧ Q (.bl (if neg then !inV x xs else inV x xs)) H
/-! ### len, list(x), tuple(x) of any list or tuple that is read -/
theorem call_len_seq : CallR X (.builtin "len") (fun xs H Q => ∃ p ys, xs = [.ref p] ∧ (SqL X.K H p ys ∨ SqT X.K H p ys) ∧ Q (.int ys.length) H) := by
  intro pins s σ H xs us Q I r h
  obtain ⟨p, ys, rfl, hq, q⟩ := h
  obtain ⟨u, rfl, rx⟩ := vals1 r
  cases rx
  have hn := line63
  rcases hq with hq | hq
  · obtain ⟨its, r', pl, hz⟩ := I.list hq
    have hlen := r'.length
    exact Calls.call_len_list pl.isList (by simp only [List.size_toArray] <;> omega) ⟨.int ys.length, H, I.tok _, ⟨s.toks + 1, by rw [List.size_toArray, hlen]⟩, q⟩
  · obtain ⟨its, r', pl, hz⟩ := I.tuple hq
    have hlen := r'.length
    exact len_tuple pl (by simp only [List.size_toArray] <;> omega) ⟨.int ys.length, H, I.tok _, ⟨s.toks + 1, by rw [List.size_toArray, hlen]⟩, q⟩
theorem CallR.or {f : Value} {r r' : List V → Hp → VK → Prop} (h : CallR X f r) (h' : CallR X f r') : CallR X f (fun xs H Q => r xs H Q ∨ r' xs H Q) := by
  intro pins s σ H xs us Q I rs q
  rcases q with q | q
  · exact h pins s σ H xs us Q I rs q
  · exact h' pins s σ H xs us Q I rs q
theorem call_list_of : CallR X (.type "list") (fun xs H Q => ∃ p ys, xs = [.ref p] ∧ (SqL X.K H p ys ∨ SqT X.K H p ys) ∧ ∀ l, H l = none → Q (.ref l) (upd H l (.lst ys))) := by
  intro pins s σ H xs us Q I r h
  obtain ⟨p, ys, rfl, hq, q⟩ := h
  obtain ⟨u, rfl, rx⟩ := vals1 r
  cases rx
  have fin : ∀ (its : List Value), Vals ys its → ys.length ≤ sizeLine → ∀ (h' : Heap) (c' : Nat), (∀ b o', s.heap.get? b = some o' → h'.get? b = some o') →
      h'.get? s.heap.objs.size = some { cls := .type "list", dict := none, data := .seq its.toArray c', slots := #[] } → EP X pins σ Q (.ref s.heap.objs.size) { s with heap := h' } := fun its r' hz h' c' kp e =>
    ⟨.ref s.heap.objs.size, _, I.laid (t' := s.toks) kp (Nat.le_refl _) (show ObjOk X.prog X.w _ h' _ (.lst ys) from ⟨hz, its, c', r', e⟩), rfl, q _ (I.hok.fresh (Nat.le_refl _))⟩
  rcases hq with hq | hq
  · obtain ⟨its, r', pl, hz⟩ := I.list hq
    have hlen := r'.length
    obtain ⟨o, ho, hc, n, hd⟩ := pl.isList
    exact call_list_seq p (.inl rfl) ho hc hd (fun h' c' kp e => fin its r' hz h' c' kp e) (by simp only [List.size_toArray] <;> omega)
  · obtain ⟨its, r', pl, hz⟩ := I.tuple hq
    have hlen := r'.length
    obtain ⟨o, ho, hc, n, hd⟩ := pl
    exact call_list_seq p (.inr rfl) ho hc hd (fun h' c' kp e => fin its r' hz h' c' kp e) (by simp only [List.size_toArray] <;> omega)
theorem call_tuple_of : CallR X (.type "tuple") (fun xs H Q => ∃ p ys, xs = [.ref p] ∧ ((SqL X.K H p ys ∧ ∀ l, H l = none → Q (.ref l) (upd H l (.tup ys))) ∨ (SqT X.K H p ys ∧ Q (.ref p) H))) := by
  intro pins s σ H xs us Q I r h
  obtain ⟨p, ys, rfl, h⟩ := h
  obtain ⟨u, rfl, rx⟩ := vals1 r
  cases rx
  rcases h with ⟨hq, q⟩ | ⟨hq, q⟩
  · obtain ⟨its, r', pl, hz⟩ := I.list hq
    have hlen := r'.length
    refine call_tuple_list pl.isList (fun h' kp => ?_) (by simp only [List.size_toArray] <;> omega)
    have I1 : Inv X pins σ H { s with heap := h' } := I.kept (t' := s.toks) kp
    have I2 : Inv X pins σ (upd H h'.objs.size (.tup ys)) { s with heap := h'.push { cls := .type "tuple", data := .seq its.toArray } } :=
      I1.laid (t' := s.toks) (fun b o e => Heap.get?_push_of_some _ e) (Nat.le_refl _) (show ObjOk X.prog X.w _ _ _ (.tup ys) from ⟨hz, its, r', IsTup.new _ _⟩)
    exact ⟨.ref h'.objs.size, _, I2, rfl, q _ (I1.hok.fresh (Nat.le_refl _))⟩
  · obtain ⟨its, r', pl, hz⟩ := I.tuple hq
    exact call_tuple_same pl ⟨.ref p, H, I, rfl, q⟩

/-! ### the call of a builtin's method: o.m(..) -/
/-- the value is of that builtin type -/
def tyV (K : PySem.W.Frag) (T : String) (x : V) (H : Hp) : Prop := match x with
  | .str _ => T = "str"
  | .int _ => T = "int"
  | .ref p => (T = "list" ∧ ∃ xs, SqL K H p xs) ∨ (T = "tuple" ∧ ∃ o, K.lookup p = some o ∧ o.cls = .type "tuple" ∧ o.dict = none) ∨
      (T = "dict" ∧ ((∃ kvs, H p = some (.dK kvs)) ∨ ∃ kvs, H p = some (.dT kvs))) ∨ (T = "set" ∧ ∃ S n, H p = some (.set S n))
  | _ => False
theorem tyV_is {pins : List (Addr × Obj)} {σ : St} {H : Hp} {s : Shared} {T : String} {x : V} {v : Value} (I : Inv X pins σ H s) (r : RelV x v) (ty : tyV X.K T x H) :
    s.TypeIs v T ∧ ∀ a, v = .ref a → ∃ ob, s.heap.get? a = some ob ∧ ob.dict = none := by
  cases x with
  | str z =>
    obtain ⟨t, rfl⟩ := r
    cases (show T = "str" from ty)
    exact ⟨typeIs_str s z t, fun _ e => nomatch e⟩
  | int i =>
    obtain ⟨t, rfl⟩ := r
    cases (show T = "int" from ty)
    exact ⟨typeIs_int s i t, fun _ e => nomatch e⟩
  | ref p =>
    cases r
    rcases ty with ⟨rfl, xs, hq⟩ | ⟨rfl, o, hk, hc, hd⟩ | ⟨rfl, hk⟩ | ⟨rfl, S, n, hk⟩
    · obtain ⟨its, _, pl, _⟩ := I.list hq
      refine ⟨pl.isList.typeIs, fun a e => ?_⟩
      cases e
      obtain ⟨o, n, e, c, hd, _⟩ := pl
      exact ⟨o, e, hd⟩
    · refine ⟨⟨o, I.kIn p o hk, hc⟩, fun a e => ?_⟩
      cases e
      exact ⟨o, I.kIn _ o hk, hd⟩
    · have z : ∃ o, s.heap.get? p = some o ∧ o.ExactDict := by
        rcases hk with ⟨kvs, hk⟩ | ⟨kvs, hk⟩
        · obtain ⟨_, _, _, _, o, _, _, e, ex, _⟩ := I.hok p _ hk
          exact ⟨o, e, ex⟩
        · obtain ⟨_, _, _, _, o, _, _, e, ex, _⟩ := I.hok p _ hk
          exact ⟨o, e, ex⟩
      obtain ⟨o, e, ex⟩ := z
      refine ⟨⟨o, e, ex.1⟩, fun a e2 => ?_⟩
      cases e2
      exact ⟨o, e, ex.2.1⟩
    · obtain ⟨o, _, _, _, e, ex, _⟩ := I.hok p _ hk
      refine ⟨⟨o, e, ex.1⟩, fun a e2 => ?_⟩
      cases e2
      exact ⟨o, e, ex.2.1⟩
  | _ => exact False.elim ty
def tBM0 (K : PySem.W.Frag) (T : String) (r : V → List V → Hp → VK → Prop) (to : TE) : TE := fun σ H Q => to σ H fun x H1 => tyV K T x H1 ∧ r x [] H1 Q
def tBM (K : PySem.W.Frag) (T : String) (r : V → List V → Hp → VK → Prop) (to : TE) (t : TA) : TE := fun σ H Q => to σ H fun x H1 => tyV K T x H1 ∧ t σ H1 fun xs H2 => r x xs H2 Q
variable {o e : Expr} {es : List Expr} {to : TE} {t : TA} {name : Str} {apos cpos : Pos} {T id : String} {r : V → List V → Hp → VK → Prop}
theorem pe_bm (pa : PlainAttrs T) (slot : Slot T name id) (hty : typeOf (.builtin id) = pure (.type "method_descriptor")) (hm : MtR X id r) (ho : PE X o to) (ha : PA X (e :: es) t)
    (hbase : attributeBase o name X.env (eval o X.env) = eval o X.env := by rfl)
    (hfew : ((backTo cpos (starEach (e :: es) X.env)).all (fun x => !x.1) && (backToKw cpos (keywordEach [] X.env)).all (fun x => x.1.isSome)
      && decide ((e :: es).length + ([] : List Keyword).length + (if ([] : List Keyword).isEmpty then 0 else 1) < 30)) = true := by rfl)
    (hline : (apos.endLine == cpos.line) = true := by rfl) (hs : starEach (e :: es) X.env = (false, eval e X.env) :: starEach es X.env := by rfl) (hplain : (backTo cpos (starEach es X.env)).any (·.1) = false := by rfl) :
    PE X (.Call (.Attribute o name apos) (e :: es) [] cpos) (tBM X.K T r to t) := by
  intro pins s σ H Q I h
  refine wpAny_Call_method_late hbase hfew hline rfl (thn (ho pins s σ H _ I h) fun v s1 ⟨x, H1, I1, r1, ty, q1⟩ => ?_)
  obtain ⟨h1, h2⟩ := tyV_is I1 r1 ty
  refine ⟨T, id, pa, slot, hty, h1, h2, ?_⟩
  have hA := ha cpos pins s1 σ H1 _ I1 q1
  rw [hs] at hA ⊢
  refine Calls.callWith_builtin (by show (false || (backTo cpos (starEach es X.env)).any (·.1)) = false; rw [hplain] <;> rfl) (Calls.evalArgs_plain ?_)
  exact thn hA fun us s2 ⟨vs, H2, I2, r2, q2⟩ => hm pins s2 σ H2 x vs v us Q I2 r1 r2 q2
/- xs.append(e), list.index on a module's tuple .. are MtR facts of 06m -/
end
end L2

namespace L2
open PySem PySem.Spec PyProof.Rows

def MtM (X : Cx) (id : String) (r : V → List V → Hp → VK → Prop) : Prop :=
  ∀ (pins : List (Addr × Obj)) (s : Shared) (σ : St) (H : Hp) (x : V) (xs : List V) (v : Value) (us : List Value) (Q : VK), Inv X pins σ H s → RelV x v → Vals xs us → r x xs H Q →
    wpAny (model X.prog X.w) X.A (call (.builtin id) (v :: us)) (EP X pins σ Q) X.xe s

/-! ### lists of values -/
theorem Vals.one : ∀ {x : V} {us : List Value}, Vals [x] us → ∃ u, us = [u] ∧ RelV x u
  | _, _, .cons r .nil => ⟨_, rfl, r⟩
theorem Vals.two : ∀ {x y : V} {us : List Value}, Vals [x, y] us → ∃ u v, us = [u, v] ∧ RelV x u ∧ RelV y v
  | _, _, _, .cons r (.cons q .nil) => ⟨_, _, rfl, r, q⟩
theorem Vals.zero : ∀ {us : List Value}, Vals [] us → us = []
  | _, .nil => rfl
theorem Vals.dropLast {xs : List V} {us : List Value} (h : Vals xs us) : Vals xs.dropLast us.dropLast := by
  induction h with
  | nil => exact .nil
  | cons r t ih =>
    cases t with
    | nil => exact .nil
    | cons q t' => exact .cons r ih
theorem Vals.eraseIdx : ∀ {xs : List V} {us : List Value} (i : Nat), Vals xs us → Vals (xs.eraseIdx i) (us.eraseIdx i)
  | _, _, _, .nil => .nil
  | _, _, 0, .cons _ t => t
  | _, _, i + 1, .cons r t => .cons r (Vals.eraseIdx i t)
theorem Vals.reverse {xs : List V} {us : List Value} (h : Vals xs us) : Vals xs.reverse us.reverse := by
  induction h with
  | nil => exact .nil
  | cons r t ih => rw [List.reverse_cons, List.reverse_cons]; exact Vals.append ih (.cons r .nil)
theorem Vals.rep {xs : List V} {us : List Value} (h : Vals xs us) : ∀ k : Nat, Vals (List.replicate k xs).flatten (List.replicate k us).flatten
  | 0 => .nil
  | k + 1 => by
    rw [List.replicate_succ, List.replicate_succ, List.flatten_cons, List.flatten_cons]
    exact Vals.append h (Vals.rep h k)
theorem len_erase {α : Type} : ∀ (l : List α) (i : Nat), (l.eraseIdx i).length ≤ l.length
  | [], _ => Nat.le_refl _
  | _ :: _, 0 => Nat.le_succ _
  | _ :: r, i + 1 => Nat.succ_le_succ (len_erase r i)
section
variable {X : Cx} {pins : List (Addr × Obj)} {σ : St} {H : Hp} {s : Shared} {l b : Addr} {xs ys zs : List V}

/-! ### the two steps: a tracked list is rewritten, a new list is laid -/
theorem Inv.lset {its its' : List Value} {n : Nat} {f : Array Value → Array Value} {t' : Nat} (I : Inv X pins σ H s) (hH : H l = some (.lst xs))
    (e : s.heap.get? l = some { cls := .type "list", data := .seq its.toArray n }) (hf : f its.toArray = its'.toArray) (hv : Vals ys its') (hz : ys.length ≤ sizeLine) :
    Inv X pins σ (upd H l (.lst ys)) { s with heap := s.heap.update l (Obj.mapSeq f), toks := t' } := by
  have q := PySem.IsL.update e f
  rw [hf] at q
  refine I.write (x := l) (e := l) (by rw [hH]; exact trivial) (.inl rfl) (fun b' u hb hu => (Heap.get?_update_other s.heap (Obj.mapSeq f) (Ne.symm hb)).trans hu) ⟨_, q⟩ ?_
  exact ⟨hz, its', _, hv, q⟩
theorem Inv.lnew {its : List Value} {t' : Nat} (I : Inv X pins σ H s) (hv : Vals ys its) (hz : ys.length ≤ sizeLine) :
    Inv X pins σ (upd H s.heap.objs.size (.lst ys)) { s with heap := s.heap.push { cls := .type "list", data := .seq its.toArray }, toks := t' } :=
  I.laid (fun _ _ q => Heap.get?_push_of_some _ q) (Nat.le_refl _) ⟨hz, its, 0, hv, Heap.get?_push_size _ rfl⟩
theorem Inv.fresh (I : Inv X pins σ H s) : H s.heap.objs.size = none := I.hok.fresh (Nat.le_refl _)
theorem Inv.lstM (I : Inv X pins σ H s) (hH : H l = some (.lst xs)) : xs.length ≤ sizeLine ∧ ∃ (its : List Value) (n : Nat), Vals xs its ∧ xs.length = its.length ∧ s.heap.get? l = some { cls := .type "list", data := .seq its.toArray n } := by
  obtain ⟨z, its, n, r, e⟩ := I.hok l _ hH
  exact ⟨z, its, n, r, r.length, e⟩

end

section
variable {X : Cx}

/-! ### methods -/
def rAppend : V → List V → Hp → VK → Prop := fun x vs H Q => ∃ l xs y, x = .ref l ∧ vs = [y] ∧ H l = some (.lst xs) ∧ xs.length < sizeLine ∧ Q .non (upd H l (.lst (xs ++ [y])))
theorem mt_append : MtM X "list.append" rAppend := by
  intro pins s σ H x vs v us Q I rx rv h
  obtain ⟨l, xs, y, rfl, rfl, hH, hz, q⟩ := h
  cases rx
  obtain ⟨u, rfl, ru⟩ := rv.one
  obtain ⟨z, its, n, r, hl, e⟩ := I.lstM hH
  refine call_meets F.slot_list_append ⟨_, e, rfl⟩ F.entry_list_append (F.args_list_append_2 _ _) (PySem.list_append l its.toArray n u (by rw [List.size_toArray]; omega)) ⟨e, ?_⟩
  refine ⟨.non, _, I.lset (its' := its ++ [u]) hH e (by simp) (r.append (.cons ru .nil)) ?_, rfl, q⟩
  rw [List.length_append, List.length_singleton]
  omega

def rExtend : V → List V → Hp → VK → Prop := fun x vs H Q => ∃ l b xs zs, x = .ref l ∧ vs = [.ref b] ∧ H l = some (.lst xs) ∧ H b = some (.lst zs) ∧ xs.length + zs.length ≤ sizeLine ∧ Q .non (upd H l (.lst (xs ++ zs)))
def rPop : V → List V → Hp → VK → Prop := fun x vs H Q => ∃ l xs y, x = .ref l ∧ vs = [] ∧ H l = some (.lst xs) ∧ xs[xs.length - 1]? = some y ∧ Q y (upd H l (.lst xs.dropLast))
def rPopAt : V → List V → Hp → VK → Prop := fun x vs H Q => ∃ l xs i k y, x = .ref l ∧ vs = [.int i] ∧ H l = some (.lst xs) ∧ -(2 ^ 63) ≤ i ∧ i < 2 ^ 63 ∧ seqIndex? i xs.length = some k ∧ xs[k]? = some y ∧ Q y (upd H l (.lst (xs.eraseIdx k)))
theorem mt_popAt : MtM X "list.pop" rPopAt := by
  intro pins s σ H x vs v us Q I rx rv h
  obtain ⟨l, xs, i, k, y, rfl, rfl, hH, h1, h2, hk, hy, q⟩ := h
  cases rx
  obtain ⟨u, rfl, ru⟩ := rv.one
  obtain ⟨t, rfl⟩ := ru
  obtain ⟨z, its, n, r, hl, e⟩ := I.lstM hH
  obtain ⟨w, hw, rw'⟩ := r.get hy
  refine call_meets F.slot_list_pop ⟨_, e, rfl⟩ F.entry_list_pop (F.args_list_pop_2 _ _)
    (MeetsSeq.list_pop_at l its.toArray n i t k w (fitsIndex_both h1 h2) (by rw [List.size_toArray, ← hl]; exact hk) (by rw [← Array.getElem?_toList]; exact hw) (by rw [List.size_toArray]; omega)) ⟨e, ?_⟩
  refine ⟨y, _, I.lset (its' := its.eraseIdx k) hH e ?_ (r.eraseIdx k) ?_, rw', q⟩
  · show its.toArray.eraseIdxIfInBounds k = (its.eraseIdx k).toArray
    rw [List.eraseIdxIfInBounds_toArray]
  · have := len_erase xs k
    omega

def rReverse : V → List V → Hp → VK → Prop := fun x vs H Q => ∃ l xs, x = .ref l ∧ vs = [] ∧ H l = some (.lst xs) ∧ Q .non (upd H l (.lst xs.reverse))
def rClear : V → List V → Hp → VK → Prop := fun x vs H Q => ∃ l xs, x = .ref l ∧ vs = [] ∧ H l = some (.lst xs) ∧ Q .non (upd H l (.lst []))
/-! ### list + list, list += list, list * int -/
def rCat : R2 := fun x y H Q => ∃ l b xs zs, x = .ref l ∧ y = .ref b ∧ H l = some (.lst xs) ∧ H b = some (.lst zs) ∧ xs.length + zs.length ≤ sizeLine ∧ ∀ p, H p = none → Q (.ref p) (upd H p (.lst (xs ++ zs)))
theorem op_cat : OpR X (binaryOp .Add) rCat := by
  intro pins s σ H x y v u Q I rx ry h
  obtain ⟨l, b, xs, zs, rfl, rfl, hH, hB, hz, q⟩ := h
  cases rx
  cases ry
  obtain ⟨z, its, n, r, hl, e⟩ := I.lstM hH
  obtain ⟨z2, its2, n2, r2, hl2, e2⟩ := I.lstM hB
  refine PySem.P.add_list e e2 ?_ (by rw [List.size_toArray, List.size_toArray]; omega)
  have ea : its.toArray ++ its2.toArray = (its ++ its2).toArray := by simp
  rw [ea]
  exact ⟨.ref _, _, I.lnew (t' := s.toks) (r.append r2) (by rw [List.length_append]; omega), rfl, q _ I.fresh⟩
/-- a list times an int (a negative one is nothing) -/
def rRep : R2 := fun x y H Q => ∃ l k xs, x = .ref l ∧ y = .int k ∧ H l = some (.lst xs) ∧ -(2 ^ 63) ≤ k ∧ k < 2 ^ 63 ∧ xs.length * k.toNat ≤ sizeLine ∧
  ∀ p, H p = none → Q (.ref p) (upd H p (.lst (List.replicate k.toNat xs).flatten))
/-! ### del xs[i] -/
end

/-! ### xs[a:b] = ys -/
section
variable {prog : Program} {w : World} {A : Around} {E : Value → Shared → Prop} {s : Shared}
set_option maxRecDepth 100000 in
end

section
variable {X : Cx}
end
end L2

namespace Att
open PySem PySem.W PySem.Calls PyProof.Rows

/-! ### the script -/
theorem ints_of_wellAll {P : Params} {h : Heap} : ∀ (ns : List Int) (vs : List Value), WellAll P h vs (ns.map WData.int) → IntsAre vs ns := by
  intro ns
  induction ns with
  | nil =>
    intro vs w
    rw [List.map_nil] at w
    cases w
    exact .nil
  | cons n ns ih =>
    intro vs w
    rw [List.map_cons] at w
    cases w with
    | cons a b =>
      cases a
      exact .cons _ _ (ih _ b)

theorem script_of {l : OpenLaw} {n : Nat} (hn : l.most = some n) {P : Params} {h : Heap} {args : List WData} {vals : List Value}
    (hpre : l.row.toRowW.claim.pre args = true) (hwl : WellAll P h vals args) :
    ∃ a vs ns, vals = [Value.ref a] ∧ args = [WData.list (ns.map WData.int)] ∧ h.get? a = some { cls := .type "list", data := .seq vs.toArray } ∧ IntsAre vs ns ∧ ns.length ≤ n := by
  have hsh : WShape.hasAll [] args [.list .int] = true := (pre_splitW hpre).1
  have hc : l.pre.holds [] { args := args } = true := (pre_splitW hpre).2
  obtain ⟨d, r, rfl, h1, h2⟩ := hasAllW_cons hsh
  obtain rfl := hasAllW_nil h2
  obtain ⟨xs, rfl, h3⟩ := hasW_list h1
  obtain ⟨ns, rfl⟩ := items_int h3
  have hlen : ns.length ≤ n := by
    unfold OpenLaw.pre at hc
    have h4 : (WTm.not (.lt (.lit (.int (n : Int))) (.len (.arg 0)))).holds [] { args := [.list (ns.map .int)] } = true := by
      have h4 := (holds_andW hc).1
      rw [hn] at h4
      exact h4
    have h5 := condW_of h4 (w_not (w_lt w_lit (w_len_list (w_arg rfl))))
    rw [List.length_map] at h5
    refine Nat.le_of_not_lt fun q => ?_
    have q' : (n : Int) < ((ns.length : Nat) : Int) := by omega
    first
      | (rw [decide_eq_true q'] at h5; exact absurd h5 (by decide))
      | (simp at h5; omega)
  cases hwl with
  | cons w1 w2 =>
    cases w2
    cases w1 with
    | list ho hall => exact ⟨_, _, ns, rfl, rfl, ho, ints_of_wellAll ns _ hall, hlen⟩

theorem post_true (l : OpenLaw) (args : List WData) : l.row.toRowW.claim.post args (.bool true) args = true :=
  postW_of (r := l.row.toRowW) (X := (true == true))
    (show WShape.has [] (.bool true) .bool = true by first | rfl | decide | simp [WShape.has, WShape.arms, WShape.armsAll])
    (show (WTm.eq .res (.lit (.bool true))).value [] { args := args, res := some (.bool true), after := args } = some (.bool (true == true)) from w_eq_bool (w_res rfl) w_lit) rfl

/-! ### the attachment: holds_open's last premise (the goal 'hc' behind k_head) from a wpAny of the law's body -/
/-- the same from a codeAny of the CALL (for a layer whose function contracts speak of calls) -/
theorem attach_call {l : OpenLaw} {n : Nat} {q : Program} {loose : List Str} {XP : (Str → Option Value) → Heap → Prop} {YP : World → Heap → Prop} {d : DefRec}
    (hn : l.most = some n) (hdf : d.params.defaults = [])
    (call : ∀ (w : World) (s₀ s₁ : Shared) (mg mb : Str → Option Value) (fa : Addr) (o : Obj) (pm cd doc : Value) (a : Addr) (vs : List Value) (ns : List Int),
      Ground q loose [] XP w s₀ mg mb s₁.heap → YP w s₁.heap →
      s₁.heap.get? fa = some o → o.data = .func (docDef d.name d.params d.body d.scope pm cd doc) → s₁.heap.CodeRec cd d.name → mg d.name = some (.ref fa) →
      s₁.heap.get? a = some { cls := .type "list", data := .seq vs.toArray } → IntsAre vs ns → ns.length ≤ n → s₁.gens = #[] →
      codeAny (model l.prog w) callerA (.call (.ref fa) ⟨[.ref a], []⟩) (fun r s' => r = .ok (.ret (.bool true)) ∧ OldK s₁.heap s'.heap ∧ s'.os = s₁.os ∧ AllBare s'.gens) s₁) :
    WalkO q loose XP YP l.row.toRowW d [] (fun f vs => PySem.call f vs) := by
  intro w s₀ s₁ mg mb G Y fa o pm cd doc dV kV ho hd hcd hD hmg hg args vals as hpre hlay hrd hwl hlo
  obtain rfl : dV = .none := Dflts.none hD hdf
  obtain rfl : kV = .none := Dflts.noKw hD
  obtain ⟨a, vs, ns, rfl, rfl, hobj, hints, hlen⟩ := script_of hn hpre hwl
  refine enter_call (codeAny_mono (call w s₀ s₁ mg mb fa o pm cd doc a vs ns G Y ho (fd_plain hd) hcd hmg hobj hints hlen hg) fun r s' hq => ?_)
  obtain ⟨rfl, h2, h3, h4⟩ := hq
  exact ⟨.inl ⟨.bool true, .bool true, [], rfl, fun _ => rfl, .bool true, post_true l _, fun _ => ⟨List.Pairwise.nil, fun _ hm => (nomatch hm)⟩⟩, h2, h3, h4⟩

/-! ### rules over ANY heap (no ledger) from facts about the written part K: the library's own take a ledger (News) for what they write -/
section
variable {prog : Program} {w : World} {A : Around} {E : Value → Shared → Prop} {s : Shared} {K : Frag}

/-! the whole heap as the ledger: makes every rule that writes through a ledger a rule over any heap -/
def noObjs (h : Heap) : Heap := { h with objs := #[] }
def ledger (h : Heap) (L d : Addr) : List (Addr × Obj) := (List.range h.objs.size).filterMap fun a => if a = L ∨ a = d then none else (h.get? a).map fun o => (a, o)
end
end Att

namespace L2
open PySem PySem.Spec PyProof.Rows

theorem vals_ints : ∀ {vs : List Value} {ns : List Int}, IntsAre vs ns → Vals (ns.map V.int) vs
  | _, _, .nil => .nil
  | _, _, .cons n t h => .cons ⟨t, rfl⟩ (vals_ints h)

/-- nothing is tracked but the script, known to the object (or it is an object of the module) -/
def Only (H : Hp) : Prop := ∀ b, H b = none ∨ ∃ o xs, H b = some (.frz o (.lst xs))

/-- THE HEAD: the law's promise, at the heap behind the top. F, the promise of the law's def, may use that base is part of the heap (so K.In base, base.Ns mainGlobals mg stand in Mod) -/
theorem law_call {P : Program} {w : World} {K : PySem.W.Frag} {mg mb : Str → Option Value} {CX : CXT} {k : Nat} {fa a : Addr} {fd : FuncData} {x : Str} {sp : Sp} {s₁ : Shared} {vs : List Value} {ns : List Int}
    (KX : K.In s₁.heap) (hns : s₁.heap.Ns mainGlobals mg) (hb : s₁.heap.Ns builtinsNs mb) (hbb : ∀ x : Str, x ≠ "__name__" → mb x = bootBuiltins x) (hlim : s₁.heap.NoLimit) (hg : s₁.gens = #[])
    (ha : s₁.heap.get? a = some { cls := .type "list", data := .seq vs.toArray }) (hi : IntsAre vs ns) (hl : ns.length ≤ sizeLine) (hr : Room k callerA)
    (F : ∀ base : Heap, K.In base → base.Ns mainGlobals mg → FnOk P w K mg base CX k fa fd [x] sp) (hbind : ∀ (s : Shared) (u : Value), BindsTo s fd ⟨[u], []⟩ [(x, u)])
    (hsp : ∀ H : Hp, Only H → SqL K H a (ns.map V.int) → sp [.ref a] H (fun v _ => v = .bl true) fun _ _ _ => False)
    (hCX : ∀ H e s', CX [] H s₁ (fun _ _ _ => False) e s' → False) :
    codeAny (model P w) callerA (.call (.ref fa) ⟨[.ref a], []⟩) (fun r s' => r = .ok (.ret (.bool true)) ∧ OldK s₁.heap s'.heap ∧ s'.os = s₁.os ∧ AllBare s'.gens) s₁ := by
  have rv := vals_ints hi
  have lenV := hi.length
  -- from an abstract heap in which nothing but the script may be tracked
  have core : ∀ H : Hp, Only H → SqL K H a (ns.map V.int) → HOk P w H s₁.heap → (∀ b, H b ≠ none → b = a) → (H a ≠ none → K.lookup a = none) →
      codeAny (model P w) callerA (.call (.ref fa) ⟨[.ref a], []⟩) (fun r s' => r = .ok (.ret (.bool true)) ∧ OldK s₁.heap s'.heap ∧ s'.os = s₁.os ∧ AllBare s'.gens) s₁ := by
    intro H hO hS hok hA hK
    have base_of : ∀ {b : Addr} {o : Obj}, s₁.heap.get? b = some o → H b = none → (hidT s₁.heap H).get? b = some o := fun e n => hidT_get e n
    have noA : ∀ {b : Addr} {o : Obj} {es : Array DictEntry} {ep : Nat}, s₁.heap.get? b = some o → o.data = .dict es ep → H b = none := fun {b o es ep} e d => by
      cases q : H b with
      | none => rfl
      | some u =>
        have e' : b = a := hA b (by rw [q]; simp)
        subst e'
        rw [ha] at e; cases e
        have d' : Data.seq vs.toArray _ = Data.dict es ep := d
        cases d'
    have nsK : ∀ {b : Addr} {m : Str → Option Value}, s₁.heap.Ns b m → (hidT s₁.heap H).Ns b m := fun {b m} ⟨o, es, ep, e, d, r⟩ => ⟨o, es, ep, base_of e (noA e d), d, r⟩
    have hKb : K.In (hidT s₁.heap H) := fun b o e => base_of (KX b o e) (by
      cases q : H b with
      | none => rfl
      | some u =>
        have e' : b = a := hA b (by rw [q]; simp)
        subst e'
        rw [hK (by rw [q]; simp)] at e; cases e)
    have hM : Mod K mg (hidT s₁.heap H) := ⟨hKb, nsK hns, ⟨mb, nsK hb, hbb⟩, let ⟨mc, h1, h2⟩ := hlim; ⟨mc, nsK h1, h2⟩⟩
    have e0 : Env0 P w K mg (hidT s₁.heap H) callerA [] s₁ H := ⟨rfl, hM, fun b o e => of_hidT e, Nat.le_of_eq (hidT_size _ _), trivial, fun b hb => absurd (show b ∈ ([] : List Addr) from hb) (by simp), hok, .of_eq hg⟩
    refine codeAny_mono ((F _ hKb (nsK hns)).run callerA [] s₁ H ⟨[.ref a], []⟩ [.ref a] [.ref a] _ _ hr e0 (hbind s₁ (.ref a)) (.cons rfl .nil) (hsp H hO hS)) fun r s' h => ?_
    cases r with
    | error e => exact (hCX H e s' h).elim
    | ok fl =>
      cases fl with
      | next => exact False.elim h
      | brk => exact False.elim h
      | cont => exact False.elim h
      | ret u =>
        obtain ⟨v, H', os, bare, un, hok', r', q⟩ := h
        have q' : v = .bl true := q
        subst q'
        obtain rfl : u = Value.bool true := r'
        refine ⟨rfl, OldK.of_keep fun b o e => ?_, os, bare⟩
        cases q : H b with
        | none => exact un.keep b o e q (by intro z; exact absurd (show b ∈ ([] : List Addr) from z) (by simp)) (by simp)
        | some u =>
          rcases hO b with z | ⟨ob, xs, z⟩
          · rw [q] at z; cases z
          · have z2 := un.frzs b ob _ z
            obtain ⟨e1, _⟩ := hok b _ z
            obtain ⟨e2, _⟩ := hok' b _ z2
            rw [e] at e1; cases e1
            exact e2
  cases hk : K.lookup a with
  | some o =>
    -- the script is one of the module's own objects
    have e := KX a o hk
    rw [ha] at e
    cases e
    refine core (fun _ => none) (fun _ => .inl rfl) (.inr ⟨_, vs.toArray, _, hk, rfl, rfl, rfl, by rw [List.size_toArray, lenV]; exact hl, by simpa using rv⟩) (fun b u z => by have z' : (none : Option HO) = some u := z; cases z') (fun b z => absurd rfl z) fun z => absurd rfl z
  | none =>
    refine core (fun b => if b = a then some (.frz { cls := .type "list", data := .seq vs.toArray } (.lst (ns.map V.int))) else none) (fun b => ?_) (.inl (.inr ⟨{ cls := .type "list", data := .seq vs.toArray }, if_pos rfl⟩)) (fun b u z => ?_) (fun b z => ?_) fun _ => hk
    · by_cases hb : b = a
      · exact .inr ⟨_, _, if_pos hb⟩
      · exact .inl (if_neg hb)
    · by_cases hb : b = a
      · have z' := (if_pos hb).symm.trans z
        cases z'
        subst hb
        exact ⟨ha, by rw [List.length_map]; exact hl, vs, _, rv, ha⟩
      · have z' := (if_neg hb).symm.trans z
        cases z'
    · by_cases hb : b = a
      · exact hb
      · exact absurd (if_neg hb) z
end L2

namespace L2
open PySem PySem.Spec PyProof.Rows

abbrev KOf {K : PySem.W.Frag} {h : Heap} (_ : K.In h) : PySem.W.Frag := K

/-- the goal that k_head leaves (case hc), from the law's promise. F gives the function object fd (K's own) once, then the promise over every base -/
theorem walk_of {l : PySem.W.OpenLaw} {n k : Nat} {q : Program} {loose : List Str} {XP : (Str → Option Value) → Heap → Prop} {YP : World → Heap → Prop} {d : DefRec} {K : Params → PySem.W.Frag} {CX : World → CXT} {sp : World → Sp} {x : Str}
    (hn : l.most = some n) (hn2 : n ≤ sizeLine) (hdf : d.params.defaults = []) (hr : Room k callerA)
    (hY : ∀ (w : World) (h : Heap), YP w h → (K w.params).In h)
    (F : ∀ (w : World) (mg : Str → Option Value) (fa : Addr) (h : Heap), (K w.params).In h → h.Ns mainGlobals mg → mg d.name = some (.ref fa) →
      ∃ fd : FuncData, (∀ (s : Shared) (u : Value), BindsTo s fd ⟨[u], []⟩ [(x, u)]) ∧
        ∀ base : Heap, (K w.params).In base → base.Ns mainGlobals mg → FnOk l.prog w (K w.params) mg base (CX w) k fa fd [x] (sp w))
    (hsp : ∀ (w : World) (H : Hp) (a : Addr) (ns : List Int), ns.length ≤ n → Only H → SqL (K w.params) H a (ns.map V.int) → sp w [.ref a] H (fun v _ => v = .bl true) fun _ _ _ => False)
    (hCX : ∀ (w : World) (H : Hp) (s : Shared) (e : Value) (s' : Shared), CX w [] H s (fun _ _ _ => False) e s' → False) :
    PySem.W.WalkO q loose XP YP l.row.toRowW d [] (fun f vs => PySem.call f vs) := by
  refine Att.attach_call hn hdf fun w s₀ s₁ mg mb fa o pm cd doc a vs ns G Y ho hd hcd hmg hobj hints hlen hg => ?_
  have KX := hY w _ Y
  obtain ⟨fd, hb, hF⟩ := F w mg fa _ KX G.T.g hmg
  exact law_call KX G.T.g G.T.b G.T.builtins G.T.nolimit hg hobj hints (Nat.le_trans hlen hn2) hr hF hb (fun H hO hS => hsp w H a ns hlen hO hS) fun H e s' => hCX w H s₁ e s'
end L2

/- THE LAST THEOREM (shape; LID, My.* are yours):
   My.Adr: a structure of the addresses that your layer names (classes, functions); My.Txt K t: a structure (Prop) of the equations over K;
   My.txt_mk : {K} {implicit addresses ..} (e1 : nsIn K mainGlobals "law" = some (some (.ref f))) (e2 : K.lookup f = some ⟨oc, od, .func (fnOf "law" "law" params body scope dV kV doc pm an cdv ct), sl⟩) (e3 : codeIn K cdv "law" = true) .. : ∃ t, My.Txt K t

set_option maxRecDepth 100000 in
set_option maxHeartbeats 0 in
theorem PySem.Challenge.cw_LID_holds : PySem.Challenge.rw_LID.Holds := by
  w_on; o_law; k_head; (case hw => w_witness2)
  k_fill
  refine L2.walk_of (l := PySem.Challenge.rw_LID) (n := 63) (k := 40) (x := "script") (CX := fun w => ..) (sp := fun _ => My.sp_law) rfl (by decide) rfl ⟨rfl, by decide, by decide⟩ (fun w h Y => PySem.W.kIn_of Y) ?F ?S ?C
  case F =>
    intro w mg fa h KX G hmg
    have T : ∃ t, My.Txt (L2.KOf KX) t := by
      dsimp only [L2.KOf]                          -- K must stand as «<heap const> w.params» for k_is
      refine' My.txt_mk ?e1 ?e2 ?e3 ..
      (case e1 => PySem.W.k_is)                    -- in the order: a name -> its address -> its object -> its parts
      (case e2 => PySem.W.k_is)
      ..
    obtain ⟨t, T⟩ := T
    have e0 := hmg.symm.trans (PySem.W.mg_of KX G T.law)
    cases e0                                       -- fa is the law's own address
    exact ⟨_, fun s u => .of_eq rfl, fun base kb nb => My.law_fn T kb nb⟩     -- if «.of_eq rfl» comes too early: refine' ⟨_, ?b, fun base kb nb => My.law_fn T kb nb⟩; exact fun s u => .of_eq rfl
  case S => exact fun w H a ns hl hO hS => ..
  case C => exact ..
(the tactic k_is has no namespace: write k_is) -/

/-! SHORT WORDS over the layer: a def of the text, its body, what a loop and a test want. -/
namespace L2
open PySem PySem.Spec PyProof.Rows

/-! ### the text by places -/
/-- the j-th statement of a class's body -/
def inClass (s : Stmt) (j : Nat) : Stmt := match s with
  | .ClassDef _ _ _ body _ _ _ _ _ _ _ => body.getD j (.Pass ⟨0, 0, 0, 0⟩)
  | _ => .Pass ⟨0, 0, 0, 0⟩
def defArgs (s : Stmt) : Arguments := match s with
  | .FunctionDef _ a _ _ _ _ _ _ _ _ => a
  | _ => { posonlyargs := [], args := [], vararg := none, kwonlyargs := [], kw_defaults := [], kwarg := none, defaults := [] }
def defBody (s : Stmt) : List Stmt := match s with
  | .FunctionDef _ _ b _ _ _ _ _ _ _ => b
  | _ => []
def defScope (s : Stmt) : Scope := match s with
  | .FunctionDef _ _ _ _ _ _ sc _ _ _ => sc
  | _ => { kind := .function, names := [], isGenerator := false, isCoroutine := false }

/-! ### no exception leaves a def -/
abbrev CX0 : CXT := fun _ _ _ _ _ _ => False
abbrev E0 : XK := fun _ _ _ => False
theorem pass0 {X : Cx} : Passes CX0 X E0 := fun _ _ _ _ _ _ _ h => h.elim

/-! ### a def (or method) of the text as it stands behind the top -/
structure Fun (K : PySem.W.Frag) (x qual : Str) (st : Stmt) (f : Addr) (fd : FuncData) : Prop where
  ex : ∃ (oc : Value) (od : Option Addr) (kV doc pm : Value) (an : Option Addr) (cdv ct : Value) (osl : Array (Option Value)),
    fd = PySem.W.fnOf x qual (defArgs st) (defBody st) (defScope st) .none kV doc pm an cdv ct ∧ K.lookup f = some ⟨oc, od, .func fd, osl⟩ ∧ PySem.W.codeIn K cdv qual = true
  kp : PySem.W.keepIn K (.ref f) = true
section
variable {P : Program} {w : World} {K : PySem.W.Frag} {mg : Str → Option Value} {base : Heap}
/-- THE RULE for a def: its body as a term of rules, and the reading of that term -/
theorem Fun.ok {x qual : Str} {st : Stmt} {f : Addr} {fd : FuncData} {N ps : List Str} {k : Nat} {sp : Sp} (F : Fun K x qual st f fd) (S : FnScope N ps (defScope st)) (len : ∀ vs H Q E, sp vs H Q E → vs.length = ps.length)
    (hbody : ∀ (cdv : Value) (A : Around) (outer : List Env) (s : Shared) (H : Hp) (vs : List V) (Q : VK) (E : XK), Room k (A.deeper (envOfC qual (defScope st) s.heap.objs.size f cdv)) → sp vs H Q E →
      ∃ t, PSs (cxOf CX0 P w K mg base N qual (defScope st) f cdv A outer s H E).nox (defBody st) t ∧ t { nx := fun _ H' => Q .non H', rt := Q } (start N vs) H) : FnOk P w K mg base CX0 (k + 1) f fd ps sp := by
  obtain ⟨oc, od, kV, doc, pm, an, cdv, ct, osl, rfl, lk, hcd⟩ := F.ex
  refine fn_of lk hcd S len fun A outer s H vs Q E hr hsp => ?_
  obtain ⟨t, h, q⟩ := hbody cdv A outer s H vs Q E hr hsp
  exact ⟨t, h.nox, q⟩
/-- how its arguments bind (no defaults): h is «fun _ _ _ _ _ _ us hl => match us, hl with | [_, _], _ => rfl», one _ a parameter -/
theorem Fun.binds {x qual : Str} {st : Stmt} {f : Addr} {fd : FuncData} {ps : List Str} (F : Fun K x qual st f fd)
    (h : ∀ (kV doc pm : Value) (an : Option Addr) (cdv ct : Value) (us : List Value), us.length = ps.length → bindArgs (PySem.W.fnOf x qual (defArgs st) (defBody st) (defScope st) .none kV doc pm an cdv ct) ⟨us, []⟩ = pure (ps.zip us)) : Binds K fd ps [] := by
  obtain ⟨oc, od, kV, doc, pm, an, cdv, ct, osl, rfl, lk, hcd⟩ := F.ex
  exact .all (h kV doc pm an cdv ct)
theorem fun_mk {x qual : Str} {st : Stmt} {f : Addr} {oc : Value} {od an : Option Addr} {osl : Array (Option Value)} {kV doc pm cdv ct : Value} (l : K.lookup f = some ⟨oc, od, .func (PySem.W.fnOf x qual (defArgs st) (defBody st) (defScope st) .none kV doc pm an cdv ct), osl⟩)
    (c : PySem.W.codeIn K cdv qual = true) (k : PySem.W.keepIn K (.ref f) = true) : Fun K x qual st f (PySem.W.fnOf x qual (defArgs st) (defBody st) (defScope st) .none kV doc pm an cdv ct) := ⟨⟨oc, od, kV, doc, pm, an, cdv, ct, osl, rfl, l, c⟩, k⟩
end
theorem small1000 {n : Nat} (h : n ≤ 1000) : n < sizeLine := Nat.lt_of_le_of_lt h (by decide)

/-! ### expressions in short: the name that stands in the i-th slot -/
section
variable {X : Cx}
theorem pv (i : Nat) {x : Str} {pos : Pos} (hN : X.N[i]? = some x := by rfl) (hv : Vis X.env.scope x := by first | exact Or.inl rfl | exact Or.inr (Or.inl rfl) | exact Or.inr (Or.inr rfl)) (hd : (x == ("__debug__" : Str)) = false := by decide)
    (hcd : (x == ("__classdict__" : Str)) = false := by decide) : PE X (.Name x pos) (tVar i) := pe_var hN hv hd hcd
end

/-! ### tests -/
theorem iteF {A B : Prop} (h : B) : if false = true then A else B := by
  rw [if_neg Bool.false_ne_true]
  exact h
theorem iteT {A B : Prop} (h : A) : if true = true then A else B := by
  rw [if_pos rfl]
  exact h
theorem ite2 {c A B : Prop} [Decidable c] (h1 : c → A) (h2 : ¬ c → B) : if c then A else B := by
  by_cases h : c
  · rw [if_pos h]
    exact h1 h
  · rw [if_neg h]
    exact h2 h
/-! ### heaps -/
/-- all that was tracked is as it was -/
def Same (H H' : Hp) : Prop := ∀ b o, H b = some o → H' b = some o
theorem Same.refl (H : Hp) : Same H H := fun _ _ h => h
theorem Same.trans {H H1 H2 : Hp} (a : Same H H1) (b : Same H1 H2) : Same H H2 := fun c o h => b c o (a c o h)
theorem Same.free {H H' : Hp} (e : Same H H') {l : Addr} (h : H' l = Option.none) : H l = Option.none := by
  cases q : H l with
  | none => rfl
  | some o =>
    rw [e l o q] at h
    cases h
theorem Same.seq {K : PySem.W.Frag} {H H' : Hp} {a : Addr} {xs : List V} (e : Same H H') (h : SqL K H a xs) : SqL K H' a xs := by
  rcases h with (h | ⟨o, h⟩) | h
  · exact .inl (.inl (e _ _ h))
  · exact .inl (.inr ⟨o, e _ _ h⟩)
  · exact .inr h

end L2

set_option Elab.async false
set_option linter.all false
set_option maxRecDepth 100000
namespace L2
open PySem PySem.Spec PyProof.Rows

/-! ### lists of pairs as tables -/
section
variable {κ : Type} [DecidableEq κ]
def valV (kvs : List (κ × V)) (k : κ) : Option V := (kvs.find? fun kv => decide (kv.1 = k)).map (·.2)
/-- in its place, or at the end -/
def putK (kvs : List (κ × V)) (k : κ) (v : V) : List (κ × V) :=
  if (kvs.any fun kv => decide (kv.1 = k)) = true then kvs.map (fun kv => if kv.1 = k then (kv.1, v) else kv) else kvs ++ [(k, v)]
def dropK (kvs : List (κ × V)) (k : κ) : List (κ × V) := kvs.filter fun kv => decide (kv.1 ≠ k)

theorem valV_pos {p : κ × V} {r : List (κ × V)} {k : κ} (e : p.1 = k) : valV (p :: r) k = some p.2 := by simp [valV, List.find?_cons, e]
theorem valV_neg {p : κ × V} {r : List (κ × V)} {k : κ} (e : ¬ p.1 = k) : valV (p :: r) k = valV r k := by simp [valV, List.find?_cons, e]
theorem valV_any (k : κ) : ∀ kvs : List (κ × V), (kvs.any fun kv => decide (kv.1 = k)) = (valV kvs k).isSome
  | [] => rfl
  | p :: r => by
    rw [List.any_cons]
    by_cases e : p.1 = k
    · simp only [valV_pos e, decide_eq_true e, Bool.true_or, Option.isSome_some]
    · rw [valV_neg e, decide_eq_false e, Bool.false_or]; exact valV_any k r
theorem length_putK (kvs : List (κ × V)) (k : κ) (v : V) : (putK kvs k v).length ≤ kvs.length + 1 := by
  unfold putK
  split
  · rw [List.length_map]; omega
  · rw [List.length_append, List.length_cons, List.length_nil]; omega
theorem RelO.isSome_eq {o : Option V} {u : Option Value} (r : RelO o u) : o.isSome = u.isSome := by
  cases o with
  | none => cases u with
    | none => rfl
    | some _ => exact (show False from r).elim
  | some _ => cases u with
    | none => exact (show False from r).elim
    | some _ => rfl
theorem RelO.getD {o : Option V} {u : Option Value} {d : V} {d' : Value} (r : RelO o u) (rd : RelV d d') : RelV (o.getD d) (u.getD d') := by
  cases o with
  | none => cases u with
    | none => exact rd
    | some _ => exact (show False from r).elim
  | some _ => cases u with
    | none => exact (show False from r).elim
    | some _ => exact r

/-- raw tables of the same keys -/
theorem KV.val {kvs : List (κ × V)} {vs : List (κ × Value)} (r : KV kvs vs) (k : κ) : RelO (valV kvs k) (valueAt vs k) := by
  unfold KV at r
  induction r with
  | nil => exact True.intro
  | @cons p q ps qs h t ih =>
    obtain ⟨h1, h2⟩ := h
    by_cases e : p.1 = k
    · have e' : q.1 = k := h1.symm.trans e
      have b : valueAt (q :: qs) k = some q.2 := by simp [valueAt, List.find?_cons, e']
      rw [valV_pos e, b]; exact h2
    · have e' : ¬ q.1 = k := fun z => e (h1.trans z)
      have b : valueAt (q :: qs) k = valueAt qs k := by simp [valueAt, List.find?_cons, e']
      rw [valV_neg e, b]; exact ih
theorem KV.any {kvs : List (κ × V)} {vs : List (κ × Value)} (r : KV kvs vs) (k : κ) : (kvs.any fun kv => decide (kv.1 = k)) = vs.any fun kv => decide (kv.1 = k) := by
  unfold KV at r
  induction r with
  | nil => rfl
  | cons h t ih => rw [List.any_cons, List.any_cons, ih, h.1]
theorem KV.repl {kvs : List (κ × V)} {vs : List (κ × Value)} (r : KV kvs vs) (k : κ) {y : V} {u : Value} (ry : RelV y u) :
    KV (kvs.map fun kv => if kv.1 = k then (kv.1, y) else kv) (vs.map fun kv => if kv.1 = k then (kv.1, u) else kv) := by
  unfold KV at r ⊢
  induction r with
  | nil => exact .nil
  | @cons p q ps qs h t ih =>
    rw [List.map_cons, List.map_cons]
    refine .cons ?_ ih
    obtain ⟨h1, h2⟩ := h
    by_cases e : p.1 = k
    · rw [if_pos e, if_pos (h1.symm.trans e)]; exact ⟨h1, ry⟩
    · rw [if_neg e, if_neg (fun z => e (h1.trans z))]; exact ⟨h1, h2⟩
theorem KV.put {kvs : List (κ × V)} {vs : List (κ × Value)} (r : KV kvs vs) (k : κ) {y : V} {u : Value} (ry : RelV y u) : KV (putK kvs k y) (stored vs k u) := by
  unfold putK stored
  rw [r.any k]
  by_cases e : (vs.any fun kv => decide (kv.1 = k)) = true
  · rw [if_pos e, if_pos e]; exact r.repl k ry
  · rw [if_neg e, if_neg e]; exact Paired.snoc r ⟨rfl, ry⟩
theorem KV.drop {kvs : List (κ × V)} {vs : List (κ × Value)} (r : KV kvs vs) (k : κ) : KV (dropK kvs k) (without vs k) := by
  unfold KV at r ⊢
  unfold dropK without
  induction r with
  | nil => exact .nil
  | @cons p q ps qs h t ih =>
    obtain ⟨h1, h2⟩ := h
    rw [List.filter_cons, List.filter_cons]
    by_cases e : p.1 = k
    · have a : ¬ decide (p.1 ≠ k) = true := by simp [e]
      have b : ¬ decide (q.1 ≠ k) = true := by simp [h1.symm.trans e]
      rw [if_neg a, if_neg b]; exact ih
    · have e' : ¬ q.1 = k := fun z => e (h1.trans z)
      have a : decide (p.1 ≠ k) = true := by simp [e]
      have b : decide (q.1 ≠ k) = true := by simp [e']
      rw [if_pos a, if_pos b]; exact .cons ⟨h1, h2⟩ ih
theorem KV.keys {kvs : List (κ × V)} {vs : List (κ × Value)} (r : KV kvs vs) : kvs.map (·.1) = vs.map (·.1) := by
  unfold KV at r
  induction r with
  | nil => rfl
  | cons h t ih => rw [List.map_cons, List.map_cons, ih, h.1]
theorem KV.length {kvs : List (κ × V)} {vs : List (κ × Value)} (r : KV kvs vs) : kvs.length = vs.length := Paired.length r
end


/-! ### a tracked dict, its keys ints and texts or tuples of these -/
theorem kV_is {P : Program} {w : World} {k : Key} {u : Value} (r : RelV (kV k) u) : (mixKind P w).is k u = true := by
  cases k with
  | inl i => obtain ⟨t, e⟩ := (show ∃ t, u = Value.int i t from r); subst e; exact mixKind_int P w i t
  | inr x => obtain ⟨t, e⟩ := (show ∃ t, u = Value.str x t from r); subst e; exact mixKind_str P w x t
theorem items_are {P : Program} {w : World} : ∀ {ks : List Key} {us : List Value}, Vals (ks.map kV) us → ItemsAre (mixKind P w) ks us
  | [], _, r => by rw [List.map_nil] at r; cases r; exact .nil
  | k :: ks, _, r => by
    rw [List.map_cons] at r
    cases r with
    | cons h t => exact .cons (kV_is h) (items_are t)

/-- raw entries of a dict with tuple keys -/
abbrev KT (H : Hp) : List (List Key × V) → List (List Key × Addr × Value) → Prop := Paired fun p q => p.1 = q.1 ∧ H q.2.1 = some (.tup (p.1.map kV)) ∧ RelV p.2 q.2.2
theorem KT.val {H : Hp} {kvs : List (List Key × V)} {xs : List (List Key × Addr × Value)} (r : KT H kvs xs) (k : List Key) : RelO (valV kvs k) ((atKey xs k).map (·.2)) := by
  induction r with
  | nil => exact True.intro
  | @cons p q ps qs h t ih =>
    obtain ⟨h1, _, h2⟩ := h
    by_cases e : p.1 = k
    · have e' : q.1 = k := h1.symm.trans e
      have b : atKey (q :: qs) k = some q.2 := by simp [atKey, List.find?_cons, e']
      rw [valV_pos e, b]; exact h2
    · have e' : ¬ q.1 = k := fun z => e (h1.trans z)
      have b : atKey (q :: qs) k = atKey qs k := by simp [atKey, List.find?_cons, e']
      rw [valV_neg e, b]; exact ih
theorem KT.repl {H : Hp} {kvs : List (List Key × V)} {xs : List (List Key × Addr × Value)} (r : KT H kvs xs) (k : List Key) {y : V} {u : Value} (ry : RelV y u) :
    KT H (kvs.map fun kv => if kv.1 = k then (kv.1, y) else kv) (xs.map (putAt k u)) := by
  induction r with
  | nil => exact .nil
  | @cons p q ps qs h t ih =>
    rw [List.map_cons, List.map_cons]
    refine .cons ?_ ih
    obtain ⟨h1, h2, h3⟩ := h
    unfold putAt
    by_cases e : p.1 = k
    · rw [if_pos e, if_pos (h1.symm.trans e)]; exact ⟨h1, h2, ry⟩
    · rw [if_neg e, if_neg (fun z => e (h1.trans z))]; exact ⟨h1, h2, h3⟩
theorem KT.put {H : Hp} {kvs : List (List Key × V)} {xs : List (List Key × Addr × Value)} (r : KT H kvs xs) (k : List Key) {b : Addr} {y : V} {u : Value} (hb : H b = some (.tup (k.map kV))) (ry : RelV y u) :
    KT H (putK kvs k y) (storedH xs k b u) := by
  have e : (kvs.any fun kv => decide (kv.1 = k)) = (atKey xs k).isSome := by
    rw [valV_any, (r.val k).isSome_eq, Option.isSome_map]
  unfold putK storedH
  rw [e]
  by_cases q : (atKey xs k).isSome = true
  · rw [if_pos q, if_pos q]; exact r.repl k ry
  · rw [if_neg q, if_neg q]; exact Paired.snoc r ⟨rfl, hb, ry⟩
theorem KT.keeps {H H' : Hp} {kvs : List (List Key × V)} {xs : List (List Key × Addr × Value)} (r : KT H kvs xs) (ht : ∀ b ys, H b = some (.tup ys) → H' b = some (.tup ys)) : KT H' kvs xs :=
  Paired.mapP r fun _ _ z => ⟨z.1, ht _ _ z.2.1, z.2.2⟩

section
variable {P : Program} {w : World} {H : Hp} {h : Heap} {a : Addr}
theorem rd_of {u : HO} (ok : HOk P w H h) (e : Rd H a u) : ObjOk P w H h a u := e.ok ok
theorem dk_rd {kvs : List (Key × V)} (ok : HOk P w H h) (e : Rd H a (.dK kvs)) : kvs.length ≤ sizeLine ∧ (a == sysModules) = false ∧ ∃ vs, KV kvs vs ∧ h.DictOf (mixKind P w) a vs :=
  show ObjOk P w H h a (.dK kvs) from rd_of ok e
theorem dk_of {kvs : List (Key × V)} (ok : HOk P w H h) (e : H a = some (.dK kvs)) : kvs.length ≤ sizeLine ∧ (a == sysModules) = false ∧ ∃ vs, KV kvs vs ∧ h.DictOf (mixKind P w) a vs := dk_rd ok (.inl e)
/-- a tracked tuple of ints and texts is a key -/
theorem key_of {ks : List Key} (ok : HOk P w H h) (e : H a = some (.tup (ks.map kV))) : (tupleKind (mixKind P w)).is h ks a := by
  obtain ⟨_, its, r, o, h1, h2, n, h3⟩ := (show ObjOk P w H h a (.tup (ks.map kV)) from ok a _ e)
  exact ⟨o, its.toArray, n, h1, h2, h3, by simpa using items_are r⟩
theorem dt_rd {kvs : List (List Key × V)} (ok : HOk P w H h) (e : Rd H a (.dT kvs)) : kvs.length ≤ sizeLine ∧ (a == sysModules) = false ∧
    ∃ xs, KT H kvs xs ∧ h.DictOfH (tupleKind (mixKind P w)) a xs := by
  obtain ⟨z, y, xs, r, o, es, ep, h1, h2, h3, h4, h5⟩ := (show ObjOk P w H h a (.dT kvs) from rd_of ok e)
  refine ⟨z, y, xs, r, o, es, ep, h1, h2, h3, h4, fun x hx => ?_, h5⟩
  have all : ∀ {l : List (List Key × V)} {m : List (List Key × Addr × Value)}, KT H l m → ∀ x ∈ m, (tupleKind (mixKind P w)).is h x.1 x.2.1 := by
    intro l m q
    induction q with
    | nil => intro x hx; exact nomatch hx
    | @cons p q ps qs hq t ih =>
      intro x hx
      rcases List.mem_cons.mp hx with e | hx
      · subst e
        exact key_of ok (by rw [← hq.1]; exact hq.2.1)
      · exact ih x hx
  exact all r x hx
end

/-- what the dict at a holds at the key y -/
def DGet (H : Hp) (a : Addr) (y : V) (r : Option V) : Prop :=
  (∃ kvs k, Rd H a (.dK kvs) ∧ y = kV k ∧ r = valV kvs k) ∨ ∃ kvs k b, Rd H a (.dT kvs) ∧ y = .ref b ∧ H b = some (.tup (k.map kV)) ∧ r = valV kvs k
/-- the heap behind a[y] = v -/
def DPut (H : Hp) (a : Addr) (y v : V) (H' : Hp) : Prop :=
  (∃ kvs k, H a = some (.dK kvs) ∧ y = kV k ∧ kvs.length < sizeLine ∧ H' = upd H a (.dK (putK kvs k v))) ∨
  ∃ kvs k b, H a = some (.dT kvs) ∧ y = .ref b ∧ H b = some (.tup (k.map kV)) ∧ kvs.length < sizeLine ∧ H' = upd H a (.dT (putK kvs k v))
theorem DGet.k {H : Hp} {a : Addr} {kvs : List (Key × V)} {k : Key} (e : H a = some (.dK kvs)) : DGet H a (kV k) (valV kvs k) := .inl ⟨kvs, k, .inl e, rfl, rfl⟩
theorem DGet.t {H : Hp} {a b : Addr} {kvs : List (List Key × V)} {k : List Key} (e : H a = some (.dT kvs)) (eb : H b = some (.tup (k.map kV))) : DGet H a (.ref b) (valV kvs k) := .inr ⟨kvs, k, b, .inl e, rfl, eb, rfl⟩
theorem DPut.k {H : Hp} {a : Addr} {kvs : List (Key × V)} {k : Key} {v : V} (e : H a = some (.dK kvs)) (hl : kvs.length < sizeLine) : DPut H a (kV k) v (upd H a (.dK (putK kvs k v))) := .inl ⟨kvs, k, e, rfl, hl, rfl⟩
theorem DPut.t {H : Hp} {a b : Addr} {kvs : List (List Key × V)} {k : List Key} {v : V} (e : H a = some (.dT kvs)) (eb : H b = some (.tup (k.map kV))) (hl : kvs.length < sizeLine) :
    DPut H a (.ref b) v (upd H a (.dT (putK kvs k v))) := .inr ⟨kvs, k, b, e, rfl, eb, hl, rfl⟩


section
variable {X : Cx} {pins : List (Addr × Obj)} {σ : St} {H : Hp} {s : Shared} {a : Addr} {y v : V} {u r : Value} {o : Option V} {A : Around} {E : Value → Shared → Prop}

theorem Inv.big (I : Inv X pins σ H s) : sysModules < s.heap.objs.size := by
  have h : mainGlobals < s.heap.objs.size := (I.mod.glob.keeps I.bk).lt
  exact Nat.lt_trans (by decide) h

/-- d[y], there -/
theorem d_getItem {Q : Value → Shared → Prop} (hu : A.units + 1 < cLine) (I : Inv X pins σ H s) (g : DGet H a y (some v)) (ry : RelV y u) (h : ∀ w' s', Inv X pins σ H s' → RelV v w' → Q w' s') :
    wpAny (model X.prog X.w) A (getItem (.ref a) u) Q E s := by
  rcases g with ⟨kvs, k, e, ey, l⟩ | ⟨kvs, k, b, e, ey, eb, l⟩
  · subst ey
    obtain ⟨z, hd, vs, rel, dd⟩ := dk_rd I.hok e
    obtain ⟨w', hw, rw'⟩ := RelO.some_of (v := v) (o := valueAt vs k) (by rw [l]; exact rel.val k)
    exact wpAny_getItem_of (kV_is ry) dd.mapOf hw (h w' _ (I.tok _) rw')
  · subst ey
    cases (show u = Value.ref b from ry)
    obtain ⟨z, hd, xs, rel, dd⟩ := dt_rd I.hok e
    obtain ⟨w', hw, rw'⟩ := RelO.some_of (v := v) (o := (atKey xs k).map (·.2)) (by rw [l]; exact rel.val k)
    obtain ⟨p, hp, hp2⟩ := Option.map_eq_some_iff.mp hw
    refine wpAny_getItem_heap (tupleKind_room_in1 hu) (key_of I.hok eb) dd hp ?_
    rw [hp2]
    exact h w' _ (I.tok _) rw'
/-- a dict's object is replaced -/
theorem d_write {h' : Heap} {t' : Nat} {ob : HO} (I : Inv X pins σ H s) (mu : Mut (H a)) (hs : Heap.SameBut a s.heap h') (he : ∃ q, h'.get? a = some q) (new : ObjOk X.prog X.w (upd H a ob) h' a ob) :
    Inv X pins σ (upd H a ob) { s with heap := h', toks := t' } :=
  I.write (x := a) (e := a) mu (.inl rfl) (fun b q hb z => (hs.2 b hb).trans z) he new
theorem dk_new {P : Program} {w : World} {H' : Hp} {h' : Heap} {kvs : List (Key × V)} {vs : List (Key × Value)} (z : kvs.length ≤ sizeLine) (hd : (a == sysModules) = false) (rel : KV kvs vs) (dd : h'.DictOf (mixKind P w) a vs) :
    ObjOk P w H' h' a (.dK kvs) := ⟨z, hd, vs, rel, dd⟩
end

section
variable {X : Cx} {pins : List (Addr × Obj)} {σ : St} {H : Hp} {s : Shared} {a : Addr} {kvs : List (Key × V)} {k : Key} {u : Value} {A : Around} {E : Value → Shared → Prop}
end


/-! ### readings and rules -/
/-- the element of a subscription, not a slice -/
def NoSl (i : Expr) : Prop := ∀ ov iv, subscripted i false ov iv = operate [ov, iv] (getItem ov iv)
theorem subD_of {prog : Program} {w : World} {A : Around} {E : Value → Shared → Prop} {s : Shared} {env : Env} {value slice : Expr} {pos : Pos} {T id : String} {Q : Value → Shared → Prop}
    (hl : typeLookup (.type T) "__getitem__" = pure (some (.builtin id))) (hs : NoSl slice)
    (h : wpAny (model prog w) A (eval value env) (fun o s₁ => wpAny (model prog w) A (eval slice env) (fun i s₂ => s₂.TypeIs o T ∧ wpAny (model prog w) A (getItem o i) Q E s₂) E s₁) E s) :
    wpAny (model prog w) A (eval (.Subscript value slice pos) env) Q E s := by
  refine Subscript_ (wpAny_mono h (fun o s₁ h₁ => wpAny_mono h₁ (fun i s₂ h₂ => ?_) fun _ _ x => x) fun _ _ x => x)
  obtain ⟨hT, h₂⟩ := h₂
  unfold subscriptTail
  refine wpAny_bind ?_
  rw [getitemInPython_of_ne hT.not_modules]
  refine wpAny_bind (wpAny_specialOf hT hl ?_)
  have fin : wpAny (model prog w) A (subscripted slice false o i) (fun r s₃ => wpAny (model prog w) A (letTemporaryGo value o r >>= fun _ => pure r) Q E s₃) E s₂ := by
    rw [hs o i]
    exact wpAny_operating (wpAny_mono h₂ (fun r s₃ h₃ => wpAny_bind (wpAny_letTemporaryGo (wpAny_pure h₃))) fun _ _ x => x)
  first
    | exact wpAny_pure (wpAny_bind fin)
    | exact wpAny_bind (wpAny_pure (wpAny_bind fin))
    | exact wpAny_bind fin

theorem dict_typeIs {X : Cx} {pins : List (Addr × Obj)} {σ : St} {H : Hp} {s : Shared} {a : Addr} {y : V} {o : Option V} (I : Inv X pins σ H s) (g : DGet H a y o) : s.TypeIs (.ref a) "dict" := by
  rcases g with ⟨kvs, k, e, _, _⟩ | ⟨kvs, k, b, e, _, _, _⟩
  · obtain ⟨_, _, vs, _, dd⟩ := dk_rd I.hok e
    exact dd.typeIs
  · obtain ⟨_, _, xs, _, dd⟩ := dt_rd I.hok e
    exact dd.typeIs
/-- d[y] -/
def tDGet (td ty : TE) : TE := fun σ H Q => td σ H fun x H1 => ty σ H1 fun y H2 => ∃ a v, x = .ref a ∧ DGet H2 a y (some v) ∧ Q v H2
/-- y in d, y not in d -/
def tDIn (ty td : TE) : TE := fun σ H Q => ty σ H fun y H1 => td σ H1 fun x H2 => ∃ a o, x = .ref a ∧ DGet H2 a y o ∧ Q (.bl o.isSome) H2
def tDNotIn (ty td : TE) : TE := fun σ H Q => ty σ H fun y H1 => td σ H1 fun x H2 => ∃ a o, x = .ref a ∧ DGet H2 a y o ∧ Q (.bl (!o.isSome)) H2
/-- d[y] = v -/
def sDPut (td ty tv : TE) : TS := fun D σ H => tv σ H fun v H1 => td σ H1 fun x H2 => ty σ H2 fun y H3 => ∃ a H4, x = .ref a ∧ DPut H3 a y v H4 ∧ D.nx σ H4
/-- d[y] op= v -/
def sDAug (td ty tv : TE) (rd : V → V → Hp → VK → Prop) : TS := fun D σ H => td σ H fun x H1 => ty σ H1 fun y H2 => ∃ a v, x = .ref a ∧ DGet H2 a y (some v) ∧
  tv σ H2 fun y2 H3 => rd v y2 H3 fun z H4 => ∃ H5, DPut H4 a y z H5 ∧ D.nx σ H5
/-- del d[y] -/
def sDDel (td ty : TE) : TS := fun D σ H => td σ H fun x H1 => ty σ H1 fun y H2 => ∃ a kvs k, x = .ref a ∧ H2 a = some (.dK kvs) ∧ y = kV k ∧ (valV kvs k).isSome = true ∧ D.nx σ (upd H2 a (.dK (dropK kvs k)))

section
variable {X : Cx} {o i e value : Expr} {pos pos' tpos : Pos} {td ty tv : TE}
theorem pe_dget (hu : X.A.units + 1 < cLine) (ho : PE X o td) (hi : PE X i ty) (hs : NoSl i) : PE X (.Subscript o i pos) (tDGet td ty) := by
  intro pins s σ H Q I h
  refine subD_of PySem.F.slot_dict_getitem.lookup hs (thn (ho pins s σ H _ I h) fun u s1 ⟨x, H1, I1, rx, q1⟩ => thn (hi pins s1 σ H1 _ I1 q1) fun iv s2 ⟨y, H2, I2, ry, a, v, ex, g, q2⟩ => ?_)
  subst ex
  obtain rfl : u = Value.ref a := rx
  exact ⟨dict_typeIs I2 g, d_getItem hu I2 g ry fun w' s3 I3 rw' => ⟨v, H2, I3, rw', q2⟩⟩
end


/-! ### displays -/
theorem dk_empty {P : Program} {w : World} {H : Hp} (h : Heap) (hb : sysModules < h.objs.size) : ObjOk P w H (h.push { cls := .type "dict", data := .dict #[] }) h.objs.size (.dK []) :=
  ⟨Nat.zero_le _, beq_eq_false_iff_ne.mpr (Ne.symm (Nat.ne_of_lt hb)), [], .nil, Heap.DictOf.new h⟩
/-- {}, to be a dict of the kind that is wanted -/
def tDNewK : TE := fun _ H Q => ∀ p, H p = none → Q (.ref p) (upd H p (.dK []))
def tDNewT : TE := fun _ H Q => ∀ p, H p = none → Q (.ref p) (upd H p (.dT []))
section
variable {X : Cx} {pos : Pos}
end

/-- the pairs of a display, from the left -/
def tPairs : List (TE × TE) → St → Hp → (List (V × V) → Hp → Prop) → Prop
  | [], _, H, Q => Q [] H
  | (tk, tv) :: r, σ, H, Q => tk σ H fun x H1 => tv σ H1 fun y H2 => tPairs r σ H2 fun ps H3 => Q ((x, y) :: ps) H3
abbrev VV : List (V × V) → List (Value × Value) → Prop := Paired fun p q => RelV p.1 q.1 ∧ RelV p.2 q.2
def PPs (X : Cx) (pos : Pos) (keys : List (Option Expr)) (values : List Expr) (trs : List (TE × TE)) : Prop :=
  ∀ (pins : List (Addr × Obj)) (s : Shared) (σ : St) (H : Hp) (Q : List (V × V) → Hp → Prop), Inv X pins σ H s → tPairs trs σ H Q →
    wpAny (model X.prog X.w) X.A (evalPairs (pairTrees keys values X.env pos)) (fun vs s' => ∃ ps H', Inv X pins σ H' s' ∧ VV ps vs ∧ Q ps H') X.xe s
theorem pps_nil {X : Cx} {pos : Pos} : PPs X pos [] [] [] := fun pins s σ H Q I h => pairTrees_nil_walk ⟨[], H, I, .nil, h⟩
theorem pps_cons {X : Cx} {pos : Pos} {k v : Expr} {ks : List (Option Expr)} {vs : List Expr} {tk tv : TE} {trs : List (TE × TE)} (hk : PE X k tk) (hv : PE X v tv) (hr : PPs X pos ks vs trs) :
    PPs X pos (some k :: ks) (v :: vs) ((tk, tv) :: trs) := fun pins s σ H Q I h =>
  pairTrees_cons_walk (thn (hk pins s σ H _ I h) fun u s1 ⟨x, H1, I1, rx, q1⟩ => thn (hv pins s1 σ H1 _ I1 q1) fun w2 s2 ⟨y, H2, I2, ry, q2⟩ =>
    thn (hr pins s2 σ H2 _ I2 q2) fun ws s3 ⟨ps, H3, I3, rel, q3⟩ => ⟨(x, y) :: ps, H3, I3, .cons ⟨rx, ry⟩ rel, q3⟩)

def mergeK (kvs more : List (Key × V)) : List (Key × V) := more.foldl (fun acc kv => putK acc kv.1 kv.2) kvs
theorem KV.merge : ∀ {more : List (Key × V)} {rs : List (Key × Value)} {kvs : List (Key × V)} {vs : List (Key × Value)}, KV more rs → KV kvs vs → KV (mergeK kvs more) (merged vs rs) := by
  intro more rs kvs vs r
  unfold KV at r
  induction r generalizing kvs vs with
  | nil => intro q; exact q
  | @cons p q ps qs h t ih =>
    intro r0
    have e : KV (putK kvs p.1 p.2) (stored vs q.1 q.2) := by
      have := r0.put p.1 h.2
      rw [← h.1]; exact this
    exact ih e
theorem length_mergeK : ∀ (more kvs : List (Key × V)), (mergeK kvs more).length ≤ kvs.length + more.length
  | [], kvs => by show kvs.length ≤ kvs.length + 0; omega
  | p :: r, kvs => by
    have h1 := length_mergeK r (putK kvs p.1 p.2)
    have h2 := length_putK kvs p.1 p.2
    show (mergeK (putK kvs p.1 p.2) r).length ≤ _
    rw [List.length_cons]; omega
theorem carries_of {P : Program} {w : World} : ∀ {kvs : List (Key × V)} {ws : List (Value × Value)}, VV (kvs.map fun kv => (kV kv.1, kv.2)) ws → ∃ rs, Carries (mixKind P w) ws rs ∧ KV kvs rs
  | [], _, r => by rw [List.map_nil] at r; cases r; exact ⟨[], True.intro, .nil⟩
  | p :: kvs, _, r => by
    rw [List.map_cons] at r
    cases r with
    | @cons a b as bs h t =>
      obtain ⟨rs, c, q⟩ := carries_of (P := P) (w := w) t
      obtain ⟨b1, b2⟩ := b
      exact ⟨(p.1, b2) :: rs, ⟨kV_is h.1, rfl, c⟩, .cons ⟨rfl, h.2⟩ q⟩
/-- {k: v, ..} with keys ints and texts; the new dict stands empty while the pairs are made -/
def tDisp (trs : List (TE × TE)) : TE := fun σ H Q => ∀ p, H p = none → tPairs trs σ (upd H p (.dK [])) fun ps H2 => H2 p = some (.dK []) ∧ ∃ kvs : List (Key × V), ps = kvs.map (fun kv => (kV kv.1, kv.2)) ∧ kvs.length ≤ 15 ∧ Q (.ref p) (upd H2 p (.dK (mergeK [] kvs)))
theorem pe_disp {X : Cx} {pos : Pos} {keys : List (Option Expr)} {values : List Expr} {trs : List (TE × TE)} (h : PPs X pos keys values trs) (hall : keys.all (·.isSome) = true) (hl : keys.length = values.length) (h0 : keys ≠ [])
    (h15 : keys.length ≤ 15) : PE X (.Dict keys values pos) (tDisp trs) := by
  intro pins s σ H Q I q
  have hn := I.hok.fresh (Nat.le_refl s.heap.objs.size)
  have I1 := I.laid (a := s.heap.objs.size) (o := .dK []) (h' := s.heap.push { cls := .type "dict", data := .dict #[] }) (t' := s.toks) (fun _ _ q => Heap.get?_push_of_some _ q) (Nat.le_refl _) (dk_empty s.heap I.big)
  refine wpAny_Dict_walk (knd := mixKind X.prog X.w) hall hl h0 h15 (thn (h pins _ σ _ _ I1 (q _ hn)) fun ws s2 ⟨ps, H2, I2, rel, e, kvs, ep, lk, q2⟩ => ?_)
  subst ep
  obtain ⟨rs, c, rk⟩ := carries_of (P := X.prog) (w := X.w) rel
  obtain ⟨z, hd, vs0, r0, dd⟩ := dk_of I2.hok e
  cases r0
  refine ⟨rs, c, dd, fun h' dd' hs => ⟨.ref s.heap.objs.size, _, ?_, rfl, q2⟩⟩
  have hz : (mergeK [] kvs).length ≤ sizeLine := by
    have h1 := length_mergeK kvs []
    rw [List.length_nil] at h1
    rw [sizeLine_eq]; omega
  have he : ∃ q, h'.get? s.heap.objs.size = some q := let ⟨q, _, _, hq, _⟩ := dd'; ⟨q, hq⟩
  exact d_write I2 (by rw [e]; exact True.intro) hs he (dk_new hz hd (rk.merge .nil) dd')


/-! ### methods -/
/-- a method call o.m(e) of a built-in, with one argument: what must be seen of the text -/
structure M1 (X : Cx) (o : Expr) (m : Str) (apos : Pos) (e : Expr) (cpos : Pos) : Prop where
  base : attributeBase o m X.env (eval o X.env) = eval o X.env
  few : ((backTo cpos (starEach [e] X.env)).all (fun x => !x.1) && (backToKw cpos (keywordEach [] X.env)).all (fun x => x.1.isSome)
    && decide (([e] : List Expr).length + ([] : List Keyword).length + (if ([] : List Keyword).isEmpty then 0 else 1) < 30)) = true
  line : (apos.endLine == cpos.line) = true
  trees : backTo cpos (starEach [e] X.env) = [(false, eval e X.env)]
structure M2 (X : Cx) (o : Expr) (m : Str) (apos : Pos) (e f : Expr) (cpos : Pos) : Prop where
  base : attributeBase o m X.env (eval o X.env) = eval o X.env
  few : ((backTo cpos (starEach [e, f] X.env)).all (fun x => !x.1) && (backToKw cpos (keywordEach [] X.env)).all (fun x => x.1.isSome)
    && decide (([e, f] : List Expr).length + ([] : List Keyword).length + (if ([] : List Keyword).isEmpty then 0 else 1) < 30)) = true
  line : (apos.endLine == cpos.line) = true
  trees : backTo cpos (starEach [e, f] X.env) = [(false, eval e X.env), (false, eval f X.env)]

/-- a is a dict, whatever its keys -/
def IsD (H : Hp) (a : Addr) : Prop := (∃ kvs, Rd H a (.dK kvs)) ∨ ∃ kvs, Rd H a (.dT kvs)
section
variable {X : Cx} {pins : List (Addr × Obj)} {σ : St} {H : Hp} {s : Shared} {a : Addr} {y d : V} {u r : Value} {o : Option V} {A : Around} {E : Value → Shared → Prop}
end

def tDGet1 (td ty : TE) : TE := fun σ H Q => td σ H fun x H1 => ∃ a, x = .ref a ∧ IsD H1 a ∧ ty σ H1 fun y H2 => ∃ o, DGet H2 a y o ∧ Q (o.getD .non) H2
def tDGet2 (td ty tx : TE) : TE := fun σ H Q => td σ H fun x H1 => ∃ a, x = .ref a ∧ IsD H1 a ∧ ty σ H1 fun y H2 => tx σ H2 fun z H3 => ∃ o, DGet H3 a y o ∧ Q (o.getD z) H3
/-- d.pop(k): there; d.pop(k, x): there or not -/
def tDPop1 (td ty : TE) : TE := fun σ H Q => td σ H fun x H1 => ∃ a, x = .ref a ∧ IsD H1 a ∧ ty σ H1 fun y H2 => ∃ kvs k v, H2 a = some (.dK kvs) ∧ y = kV k ∧ valV kvs k = some v ∧ Q v (upd H2 a (.dK (dropK kvs k)))
def tDPop2 (td ty tx : TE) : TE := fun σ H Q => td σ H fun x H1 => ∃ a, x = .ref a ∧ IsD H1 a ∧ ty σ H1 fun y H2 => tx σ H2 fun z H3 => ∃ kvs k, H3 a = some (.dK kvs) ∧ y = kV k ∧
  (∀ v, valV kvs k = some v → Q v (upd H3 a (.dK (dropK kvs k)))) ∧ (valV kvs k = none → Q z H3)
section
variable {X : Cx} {o e f : Expr} {apos cpos : Pos} {td ty tx : TE}
end

/-! ### dict(d): a copy -/
section
variable {X : Cx} {pins : List (Addr × Obj)} {σ : St} {H : Hp} {s : Shared} {a : Addr} {kvs : List (Key × V)} {A : Around} {E : Value → Shared → Prop}
end


section
variable {X : Cx} {pins : List (Addr × Obj)} {σ : St} {H : Hp} {s : Shared} {a : Addr} {y : V} {u : Value} {A : Around} {E : Value → Shared → Prop}
end
end L2
namespace L2
open PySem PySem.Spec PyProof.Rows
/-! ### a dict's pairs: keys that differ -/
section
variable {κ : Type} [DecidableEq κ]
end
end L2

/-! Words of brackets as lists of truths (true: opens): heights of places, balance, mates. -/
namespace Rm
def dl (b : Bool) : Int := if b then 1 else -1
def D (bs : List Bool) (i : Nat) : Int := ((bs.take i).map dl).sum
theorem D_succ {bs : List Bool} {i : Nat} {b : Bool} (h : bs[i]? = some b) : D bs (i + 1) = D bs i + dl b := by
  obtain ⟨hi, e⟩ := List.getElem?_eq_some_iff.mp h
  unfold D
  rw [List.take_add_one, h]
  simp
theorem D_append {xs ys : List Bool} {i : Nat} (h : i ≤ xs.length) : D (xs ++ ys) i = D xs i := by
  unfold D
  rw [List.take_append_of_le_length h]
theorem D_snoc (xs : List Bool) (b : Bool) : D (xs ++ [b]) (xs.length + 1) = D xs xs.length + dl b := by
  rw [D_succ (b := b) (by simp), D_append (Nat.le_refl _)]
/-- what a word is -/
structure Bal (bs : List Bool) : Prop where
  nn : ∀ i, i ≤ bs.length → 0 ≤ D bs i
  z : D bs bs.length = 0
/-- a word that grows: deep more are open than closed, room places are left -/
structure Grow (bs : List Bool) (deep : Int) (room : Int) : Prop where
  nn : ∀ i, i ≤ bs.length → 0 ≤ D bs i
  d : D bs bs.length = deep
  le : deep ≤ room
  ev : (room - deep) % 2 = 0
theorem Grow.start (n : Int) (h : 0 ≤ n) : Grow [] 0 (2 * n) := ⟨fun i hi => by simp [D], by simp [D], by omega, by omega⟩
theorem Grow.snoc {bs : List Bool} {deep room : Int} (g : Grow bs deep room) (b : Bool) (h0 : 0 ≤ deep + dl b) (h1 : deep + dl b ≤ room - 1) : Grow (bs ++ [b]) (deep + dl b) (room - 1) := by
  refine ⟨fun i hi => ?_, ?_, h1, ?_⟩
  · rw [List.length_append, List.length_singleton] at hi
    by_cases e : i ≤ bs.length
    · rw [D_append e]; exact g.nn i e
    · have : i = bs.length + 1 := by omega
      subst this
      rw [D_snoc, g.d]; exact h0
  · rw [List.length_append, List.length_singleton, D_snoc, g.d]
  · have := g.ev
    cases b <;> simp only [dl, if_true, if_false, Bool.false_eq_true] <;> omega
theorem Grow.deep0 {bs : List Bool} {deep room : Int} (g : Grow bs deep room) : 0 ≤ deep := by
  have := g.nn bs.length (Nat.le_refl _); rw [g.d] at this; exact this
theorem Grow.opens {bs : List Bool} {deep room : Int} (g : Grow bs deep room) (hr : 0 < room) (h : deep = 0 ∨ deep < room) : Grow (bs ++ [true]) (deep + 1) (room - 1) := by
  have h0 := g.deep0
  have h1 := g.ev
  have h2 := g.le
  exact g.snoc true (by simp only [dl, if_true]; omega) (by simp only [dl, if_true]; omega)
theorem Grow.closes {bs : List Bool} {deep room : Int} (g : Grow bs deep room) (h : deep ≠ 0) : Grow (bs ++ [false]) (deep - 1) (room - 1) := by
  have h0 := g.deep0
  have h2 := g.le
  have := g.snoc false (by simp only [dl, Bool.false_eq_true, if_false]; omega) (by simp only [dl, Bool.false_eq_true, if_false]; omega)
  simpa only [dl, Bool.false_eq_true, if_false, ← Int.sub_eq_add_neg] using this
/-- the place that closes the one at k -/
structure Mate (bs : List Bool) (k m : Nat) : Prop where
  lt : k < m
  ml : m < bs.length
  op : bs[k]? = some true
  cl : bs[m]? = some false
  eq : D bs (m + 1) = D bs k
  gt : ∀ i, k < i → i ≤ m → D bs k < D bs i
theorem Mate.uniq {bs : List Bool} {k m m' : Nat} (a : Mate bs k m) (b : Mate bs k m') : m = m' := by
  have h1 : ¬ m < m' := fun h => by have := b.gt (m + 1) (by have := a.lt; omega) h; rw [a.eq] at this; omega
  have h2 : ¬ m' < m := fun h => by have := a.gt (m' + 1) (by have := b.lt; omega) h; rw [b.eq] at this; omega
  omega
/-- walking on from an open bracket at k: j is the next place to look at -/
structure Walk (bs : List Bool) (k j : Nat) (deep : Int) : Prop where
  op : bs[k]? = some true
  kj : k ≤ j
  jl : j ≤ bs.length
  d : deep = D bs j - D bs k
  gt : ∀ i, k < i → i < j → D bs k < D bs i
theorem Walk.start {bs : List Bool} {k : Nat} (h : bs[k]? = some true) : Walk bs k k 0 :=
  ⟨h, Nat.le_refl _, by have := (List.getElem?_eq_some_iff.mp h).1; omega, by omega, fun i h1 h2 => by omega⟩
theorem Walk.step {bs : List Bool} {k j : Nat} {deep : Int} {c : Bool} (w : Walk bs k j deep) (h : 0 < deep ∨ j = k) (hc : bs[j]? = some c) : Walk bs k (j + 1) (deep + dl c) := by
  have hj := (List.getElem?_eq_some_iff.mp hc).1
  refine ⟨w.op, by have := w.kj; omega, hj, ?_, fun i h1 h2 => ?_⟩
  · rw [D_succ hc, w.d]; omega
  · by_cases e : i < j
    · exact w.gt i h1 e
    · have : i = j := by omega
      subst this
      rcases h with h | h
      · have := w.d; omega
      · omega
theorem Walk.mate {bs : List Bool} {k j : Nat} {deep : Int} (w : Walk bs k j deep) (h : ¬ (0 < deep ∨ j = k)) : ∃ m, j = m + 1 ∧ Mate bs k m := by
  have hk := (List.getElem?_eq_some_iff.mp w.op).1
  have h1 := w.kj
  have hne : j ≠ k := fun e => h (.inr e)
  obtain ⟨m, rfl⟩ : ∃ m, j = m + 1 := ⟨j - 1, by omega⟩
  have hjl := w.jl
  have hm : m < bs.length := by omega
  have hd : deep ≤ 0 := by
    by_cases q : 0 < deep
    · exact absurd (.inl q) h
    · omega
  have e := w.d
  have hkm : k < m := by
    rcases Nat.lt_or_ge k m with q | q
    · exact q
    · have : k = m := by omega
      subst this
      rw [D_succ w.op] at e
      simp only [dl, if_true] at e
      omega
  have hg := w.gt m hkm (by omega)
  obtain ⟨c, hc⟩ : ∃ c, bs[m]? = some c := ⟨bs[m], List.getElem?_eq_getElem hm⟩
  have hs := D_succ hc
  cases c with
  | true => simp only [dl, if_true] at hs; omega
  | false =>
    simp only [dl, Bool.false_eq_true, if_false] at hs
    refine ⟨m, rfl, hkm, hm, w.op, hc, by omega, fun i a b => ?_⟩
    by_cases q : i = m
    · subst q; exact hg
    · exact w.gt i a (by omega)
/-- the mates of the open brackets below k, in order -/
structure Mates (bs : List Bool) (k : Nat) (ms : List (Nat × Nat)) : Prop where
  mate : ∀ p ∈ ms, Mate bs p.1 p.2 ∧ p.1 < k
  all : ∀ i, i < k → bs[i]? = some true → ∃ m, (i, m) ∈ ms
  inc : ms.Pairwise (fun p q => p.1 < q.1)
  len : ms.length ≤ k
theorem Mates.nil (bs : List Bool) : Mates bs 0 [] := ⟨(fun _ h => nomatch h), fun i h => by omega, .nil, Nat.le_refl _⟩
theorem Mates.snoc {bs : List Bool} {k m : Nat} {ms : List (Nat × Nat)} (a : Mates bs k ms) (h : Mate bs k m) : Mates bs (k + 1) (ms ++ [(k, m)]) := by
  refine ⟨fun p hp => ?_, fun i hi ho => ?_, ?_, by rw [List.length_append]; exact Nat.succ_le_succ a.len⟩
  · rcases List.mem_append.mp hp with hp | hp
    · exact ⟨(a.mate p hp).1, by have := (a.mate p hp).2; omega⟩
    · have : p = (k, m) := by simpa using hp
      subst this
      exact ⟨h, Nat.lt_succ_self k⟩
  · by_cases e : i = k
    · subst e; exact ⟨m, by simp⟩
    · obtain ⟨m', hm⟩ := a.all i (by omega) ho
      exact ⟨m', List.mem_append_left _ hm⟩
  · refine List.pairwise_append.mpr ⟨a.inc, by simp, fun p hp q hq => ?_⟩
    have : q = (k, m) := by simpa using hq
    subst this
    exact (a.mate p hp).2
end Rm

set_option Elab.async false
set_option linter.all false
set_option maxRecDepth 100000
set_option maxHeartbeats 4000000
/-! Rules beyond the layer: deep data, isinstance, chains of three, list(range(..)), is True; and the words by which a reading is reckoned out. -/
namespace L2
open PySem PySem.Spec PyProof.Rows

/-! ### plain data on the abstract heap -/
mutual
inductive Rep (K : PySem.W.Frag) (H : Hp) : V → PyData → Prop
  | non : Rep K H .non .none
  | bl (b : Bool) : Rep K H (.bl b) (.bool b)
  | int (i : Int) : Rep K H (.int i) (.int i)
  | str (x : Str) : Rep K H (.str x) (.str x)
  | tup {a : Addr} {xs : List V} {ds : List PyData} : SqT K H a xs → RepL K H xs ds → Rep K H (.ref a) (.tuple ds)
  | lst {a : Addr} {xs : List V} {ds : List PyData} : SqL K H a xs → RepL K H xs ds → Rep K H (.ref a) (.list ds)
inductive RepL (K : PySem.W.Frag) (H : Hp) : List V → List PyData → Prop
  | nil : RepL K H [] []
  | cons {x : V} {xs : List V} {d : PyData} {ds : List PyData} : Rep K H x d → RepL K H xs ds → RepL K H (x :: xs) (d :: ds)
end
section
variable {X : Cx} {pins : List (Addr × Obj)} {σ : St} {H : Hp} {s : Shared}
mutual
theorem Rep.reads (I : Inv X pins σ H s) : ∀ {x : V} {d : PyData} {u : Value}, Rep X.K H x d → RelV x u → ∃ as, Reads s.heap u d as
  | _, _, _, .non, r => by cases r; exact ⟨_, .none⟩
  | _, _, _, .bl b, r => by cases r; exact ⟨_, .bool b⟩
  | _, _, _, .int i, r => by obtain ⟨t, rfl⟩ := r; exact ⟨_, .int i t⟩
  | _, _, _, .str x, r => by obtain ⟨t, rfl⟩ := r; exact ⟨_, .str x t⟩
  | _, _, _, .tup h hl, r => by
    cases r
    obtain ⟨its, vs, ⟨o, e, c, n, dd⟩, _⟩ := I.tuple h
    obtain ⟨as, ra⟩ := RepL.reads I hl vs
    exact ⟨_, .tuple e c dd (by simpa using ra)⟩
  | _, _, _, .lst h hl, r => by
    cases r
    obtain ⟨its, vs, pl, _⟩ := I.list h
    obtain ⟨o, e, c, n, dd⟩ := pl.isList
    obtain ⟨as, ra⟩ := RepL.reads I hl vs
    exact ⟨_, .list e c dd (by simpa using ra)⟩
theorem RepL.reads (I : Inv X pins σ H s) : ∀ {xs : List V} {ds : List PyData} {us : List Value}, RepL X.K H xs ds → Vals xs us → ∃ as, ReadsAll s.heap us ds as
  | _, _, _, .nil, .nil => ⟨_, .nil⟩
  | _, _, _, .cons h hl, .cons r rs => by
    obtain ⟨as, ra⟩ := Rep.reads I h r
    obtain ⟨bs, rb⟩ := RepL.reads I hl rs
    exact ⟨_, .cons ra rb⟩
end
end

/-! ### == and != of plain data, in -/
def rEqD (K : PySem.W.Frag) (neg : Bool) : R2 := fun x y H Q => ∃ d e, Rep K H x d ∧ Rep K H y e ∧ d.canLay0 = true ∧ e.canLay0 = true ∧ min d.depth e.depth ≤ 60 ∧
  Q (.bl (if neg then !PyData.eqv d e else PyData.eqv d e)) H
section
variable {X : Cx}
theorem op_eqD (hu : X.A.units + 64 < cLine) : OpR X (compareOp .Eq) (rEqD X.K false) := by
  intro pins s σ H x y v u Q I rx ry h
  obtain ⟨d, e, h1, h2, h3, h4, h5, q⟩ := h
  obtain ⟨as, ra⟩ := h1.reads I rx
  obtain ⟨bs, rb⟩ := h2.reads I ry
  exact SeqAt.compareEq_reads ra rb h3 h4 (by omega) ⟨.bl _, H, I, rfl, q⟩
theorem op_neD (hu : X.A.units + 64 < cLine) : OpR X (compareOp .NotEq) (rEqD X.K true) := by
  intro pins s σ H x y v u Q I rx ry h
  obtain ⟨d, e, h1, h2, h3, h4, h5, q⟩ := h
  obtain ⟨as, ra⟩ := h1.reads I rx
  obtain ⟨bs, rb⟩ := h2.reads I ry
  exact SeqAt.compareNe_reads ra rb h3 h4 (by omega) ⟨.bl _, H, I, rfl, q⟩
open Classical in
/-- the answer for an item, read off the heap -/
noncomputable def eqR (h : Heap) (d : PyData) (u : Value) : Bool := if z : ∃ e as, Reads h u e as ∧ e.canLay0 = true then PyData.eqv z.choose d else false
theorem eqR_of {h : Heap} {d e : PyData} {u : Value} {as : List Addr} (r : Reads h u e as) (c : e.canLay0 = true) : eqR h d u = PyData.eqv e d := by
  have z : ∃ e as, Reads h u e as ∧ e.canLay0 = true := ⟨e, as, r, c⟩
  unfold eqR
  rw [dif_pos z]
  obtain ⟨as', r', c'⟩ := z.choose_spec
  rw [SeqAt.Reads.unique _ _ _ _ _ c' r' r]
theorem any_eqR {h : Heap} {d : PyData} : ∀ {us : List Value} {es : List PyData} {as : List Addr}, ReadsAll h us es as → PyData.canLayAll0 es = true → us.any (eqR h d) = es.any fun e => PyData.eqv e d
  | _, _, _, .nil, _ => rfl
  | _, _, _, .cons r rs, c => by
    have c' : (PyData.canLay0 _ && PyData.canLayAll0 _) = true := c
    rw [Bool.and_eq_true] at c'
    rw [List.any_cons, List.any_cons, eqR_of r c'.1, any_eqR rs c'.2]
theorem mem_eqR {A : Around} {s : Shared} {d : PyData} {x : Value} {bs : List Addr} (rx : Reads s.heap x d bs) (cx : d.canLay0 = true) (hu : A.units + d.depth < cLine) :
    ∀ {us : List Value} {es : List PyData} {as : List Addr}, ReadsAll s.heap us es as → PyData.canLayAll0 es = true → ∀ u ∈ us, SeqAt.EqAt A s u x (eqR s.heap d u)
  | _, _, _, .nil, _ => fun u hu => nomatch hu
  | _, _, _, .cons r rs, c => fun u hm => by
    have c' : (PyData.canLay0 _ && PyData.canLayAll0 _) = true := c
    rw [Bool.and_eq_true] at c'
    rcases List.mem_cons.mp hm with rfl | hm
    · rw [eqR_of r c'.1]
      exact SeqAt.eqAt_reads _ _ A s _ _ _ _ r rx c'.1 cx (by omega)
    · exact mem_eqR rx cx hu rs c'.2 u hm
def rInD (K : PySem.W.Frag) (neg : Bool) : R2 := fun x y H Q => ∃ d es p xs, Rep K H x d ∧ y = .ref p ∧ (SqL K H p xs ∨ SqT K H p xs) ∧ RepL K H xs es ∧ d.canLay0 = true ∧ PyData.canLayAll0 es = true ∧ d.depth ≤ 60 ∧
  Q (.bl (if neg then !(es.any fun e => PyData.eqv e d) else es.any fun e => PyData.eqv e d)) H
theorem op_inD (hu : X.A.units + 64 < cLine) : OpR X (compareOp .In) (rInD X.K false) := by
  intro pins s σ H x y v u Q I rx ry h
  obtain ⟨d, es, p, xs, h1, rfl, hq, h2, h3, h4, h5, q⟩ := h
  cases ry
  obtain ⟨as, ra⟩ := h1.reads I rx
  rcases hq with hq | hq
  · obtain ⟨its, r, pl, hz⟩ := I.list hq
    obtain ⟨bs, rb⟩ := h2.reads I r
    refine SeqAt.in_listAt (eqR s.heap d) pl.isList (fun z hz => mem_eqR (A := X.A.in1) ra h3 (by show X.A.units + 1 + d.depth < cLine; omega) rb h4 z (by simpa using hz)) ⟨.bl _, H, I, rfl, ?_⟩
    rw [show its.toArray.any (eqR s.heap d) = its.any (eqR s.heap d) by simp, any_eqR rb h4]
    exact q
  · obtain ⟨its, r, pl, hz⟩ := I.tuple hq
    obtain ⟨bs, rb⟩ := h2.reads I r
    refine SeqAt.in_tupleAt (eqR s.heap d) pl (fun z hz => mem_eqR (A := X.A.in1) ra h3 (by show X.A.units + 1 + d.depth < cLine; omega) rb h4 z (by simpa using hz)) ⟨.bl _, H, I, rfl, ?_⟩
    rw [show its.toArray.any (eqR s.heap d) = its.any (eqR s.heap d) by simp, any_eqR rb h4]
    exact q
/-! ### isinstance(x, T), T a built-in class -/
def rIsi (K : PySem.W.Frag) : List V → Hp → VK → Prop := fun xs H Q => ∃ x T t b, xs = [x, .ty T] ∧ TyOf K H x t ∧ PySem.W.kitOne K t (.type T) = some b ∧ Q (.bl b) H
theorem call_isi : CallR X (.builtin "isinstance") (rIsi X.K) := by
  intro pins s σ H xs us Q I r h
  obtain ⟨x, T, t, b, rfl, ty, e, q⟩ := h
  obtain ⟨u, w, rfl, rx, rw'⟩ := Vals.two r
  cases (show w = Value.type T from rw')
  exact isinst_ok I rx ty e fun tk => ⟨.bl b, H, I.tok tk, rfl, q⟩

/-! ### a op b op c op d -/
def tChain3 (r r' r2 : R2) (ta tb tc td : TE) : TE := fun σ H Q => ta σ H fun x H1 => tb σ H1 fun y H2 => r x y H2 fun z H3 => ∃ k, z = .bl k ∧
  (if k = true then tc σ H3 fun w' H4 => r' y w' H4 fun z2 H5 => ∃ k2, z2 = .bl k2 ∧ (if k2 = true then td σ H5 fun e H6 => r2 w' e H6 Q else Q (.bl false) H5) else Q (.bl false) H3)
/-! ### is True, is not True -/
/-! ### list(range(a, b)) -/
def rngZ (lo : Int) (n : Nat) : List Int := (List.range n).map fun (i : Nat) => lo + (i : Int)
theorem vals_at : ∀ {xs : List V} {us : List Value}, xs.length = us.length → (∀ (j : Nat) x u, xs[j]? = some x → us[j]? = some u → RelV x u) → Vals xs us
  | [], [], _, _ => .nil
  | [], _ :: _, h, _ => by simp at h
  | _ :: _, [], h, _ => by simp at h
  | x :: xs, u :: us, h, f => .cons (f 0 x u rfl rfl) (vals_at (by simpa using h) fun j a b ha hb => f (j + 1) a b (by simpa using ha) (by simpa using hb))
theorem items_vals {lo : Int} {n : Nat} {acc : Array Value} (h : ItemsOf (fun i v => ∃ t, v = .int (lo + i * 1) t) acc n) : Vals ((rngZ lo n).map V.int) acc.toList := by
  refine vals_at (by simp [rngZ, h.1]) fun j x u hx hu => ?_
  obtain ⟨t, rfl⟩ := h.2 j u (by simpa using hu)
  have hj : j < n := by
    have := (List.getElem?_eq_some_iff.mp hx).1
    simpa [rngZ] using this
  have e : ((rngZ lo n).map V.int)[j]? = some (.int (lo + (j : Int))) := by simp [rngZ, hj]
  rw [e] at hx
  cases hx
  exact ⟨t, by simp⟩
theorem call_rng2 : CallR X (.type "range") (fun xs H Q => ∃ i j : Int, xs = [.int i, .int j] ∧ ∀ p, H p = none → Q (.ref p) (upd H p (.rng i j))) := by
  intro pins s σ H xs us Q I r h
  obtain ⟨i, j, rfl, q⟩ := h
  obtain ⟨u, u', rfl, ⟨t, rfl⟩, t', rfl⟩ := Vals.two r
  exact call_range_2 ⟨.ref s.heap.objs.size, _, I.laid (fun b o e => Heap.get?_push_of_some _ e) (Nat.le_refl _) (show ObjOk X.prog X.w _ _ _ (.rng i j) from ⟨_, _, _, Heap.get?_push_size _ rfl⟩), rfl, q _ (I.hok.fresh (Nat.le_refl _))⟩
theorem call_list_rng (hc : X.calm = true) : CallR X (.type "list") (fun xs H Q => ∃ p lo hi, xs = [.ref p] ∧ H p = some (.rng lo hi) ∧ (-(2 ^ 30) ≤ lo ∧ lo < 2 ^ 30 ∧ -(2 ^ 30) ≤ hi ∧ hi < 2 ^ 30 ∧ (hi - lo).toNat ≤ 1000) ∧
    ∀ l, H l = none → Q (.ref l) (upd H l (.lst ((rngZ lo (hi - lo).toNat).map V.int)))) := by
  intro pins s σ H xs us Q I r h
  obtain ⟨p, lo, hi, rfl, hp, ⟨b1, b2, b3, b4, b5⟩, q⟩ := h
  obtain ⟨u, rfl, rx⟩ := vals1 r
  cases rx
  obtain ⟨t, u, v, e⟩ := (show ObjOk X.prog X.w H s.heap p (.rng lo hi) from I.hok p _ hp)
  have hn : Builtin.Range.rangeSize lo hi 1 = (((hi - lo).toNat : Nat) : Int) := by rw [rangeSize_one]; split <;> omega
  refine call_list_range (n := (hi - lo).toNat) (I.ok.hd hc) (show IsRange s.heap p lo hi 1 t u v from e) (small_one (by omega) (by omega) (by omega) (by omega)) hn (by omega) fun h' tk acc' c' kp e' hit => ?_
  have hv := items_vals hit
  have hz : ((rngZ lo (hi - lo).toNat).map V.int).length ≤ sizeLine := by
    rw [List.length_map, rngZ, List.length_map, List.length_range]
    exact Nat.le_of_lt (small1000 b5)
  exact ⟨.ref s.heap.objs.size, _, I.laid kp (Nat.le_refl _) (show ObjOk X.prog X.w _ h' _ (.lst _) from ⟨hz, acc'.toList, c', hv, by simpa using e'⟩), rfl, q _ (I.hok.fresh (Nat.le_refl _))⟩
end

/-! ### a def of the text, bundled -/
structure Fn (K : PySem.W.Frag) (mg : Str → Option Value) (x : Str) (st : Stmt) (ps : List Str) : Prop where
  ex : ∃ f fd, Fun K x x st f fd ∧ mg x = some (.ref f) ∧ Binds K fd ps []
structure Def (P : Program) (w : World) (K : PySem.W.Frag) (mg : Str → Option Value) (base : Heap) (k : Nat) (x : Str) (st : Stmt) (ps : List Str) (sp : Sp) : Prop where
  ex : ∃ f fd, Fun K x x st f fd ∧ mg x = some (.ref f) ∧ Binds K fd ps [] ∧ FnOk P w K mg base CX0 k f fd ps sp
theorem Fn.mk' {P : Program} {w : World} {K : PySem.W.Frag} {mg : Str → Option Value} {base : Heap} {k : Nat} {x : Str} {st : Stmt} {ps : List Str} {sp : Sp} (E : Fn K mg x st ps)
    (h : ∀ f fd, Fun K x x st f fd → FnOk P w K mg base CX0 k f fd ps sp) : Def P w K mg base k x st ps sp := by
  obtain ⟨f, fd, F, m, b⟩ := E.ex
  exact ⟨f, fd, F, m, b, h f fd F⟩
theorem Same.new {H H2 : Hp} {l : Addr} {o : HO} (s : Same H H2) (h : H l = none) : Same H (upd H2 l o) := fun b u e => by rw [upd_ne (ne_of_none e h)]; exact s b u e
theorem paired_imp {α β : Type} {R S : α → β → Prop} : ∀ {xs : List α} {ys : List β}, Paired R xs ys → (∀ a b, R a b → S a b) → Paired S xs ys
  | _, _, .nil, _ => .nil
  | _, _, .cons r t, f => .cons (f _ _ r) (paired_imp t f)
theorem paired_get {α β : Type} {R : α → β → Prop} : ∀ {xs : List α} {ys : List β} {i : Nat} {x : α}, Paired R xs ys → xs[i]? = some x → ∃ y, ys[i]? = some y ∧ R x y
  | _, _, _, _, .nil, e => by simp at e
  | _, _, 0, _, .cons r _, e => by simp at e; subst e; exact ⟨_, rfl, r⟩
  | _, _, i + 1, x, .cons _ t, e => by
    obtain ⟨y, h1, h2⟩ := paired_get (i := i) (x := x) t (by simpa using e)
    exact ⟨y, by simpa using h1, h2⟩
theorem pe_callD {X : Cx} {k : Nat} {x : Str} {st : Stmt} {ps : List Str} {sp : Sp} {e : Expr} {es : List Expr} {t : TA} {p pos : Pos} (D : Def X.prog X.w X.K X.mg X.base k x st ps sp) (hr : Room k X.A) (hg : Gl X x) (ha : PA X (e :: es) t)
    (hdb : (x == ("__debug__" : Str)) = false := by decide) (he : starEach (e :: es) X.env = (false, eval e X.env) :: starEach es X.env := by rfl) (hpl : (backTo pos (starEach es X.env)).any (·.1) = false := by rfl) :
    PE X (.Call (.Name x p) (e :: es) [] pos) (tCall sp [] E0 t) := by
  obtain ⟨f, fd, F, m, b, G⟩ := D.ex
  exact pe_call G hr hg m F.kp b .nil pass0 ha hdb he hpl

/-! ### readings reckoned out -/
section
variable {σ : St} {H : Hp} {Q : VK} {D : Ends}
theorem w_var0 {v : V} : tVar 0 (some v :: σ) H Q = Q v H := propext ⟨fun ⟨_, e, h⟩ => by cases e; exact h, fun h => ⟨v, rfl, h⟩⟩
theorem w_varS {i : Nat} {x : Option V} : tVar (i + 1) (x :: σ) H Q = tVar i σ H Q := rfl
theorem w_c {v : V} : tC v σ H Q = Q v H := rfl
theorem w_op {r : R2} {ta tb : TE} : tOp r ta tb σ H Q = ta σ H fun x H1 => tb σ H1 fun y H2 => r x y H2 Q := rfl
theorem w_un {r : V → Hp → VK → Prop} {ta : TE} : tUn r ta σ H Q = ta σ H fun x H1 => r x H1 Q := rfl
theorem w_I0 {g : Int → Int → V} {i j : Int} : rI0 g (.int i) (.int j) H Q = Q (g i j) H := propext ⟨fun ⟨_, _, e, e', h⟩ => by cases e; cases e'; exact h, fun h => ⟨i, j, rfl, rfl, h⟩⟩
theorem w_I {C : Int → Int → Prop} {g : Int → Int → V} {i j : Int} : rI C g (.int i) (.int j) H Q = (C i j ∧ Q (g i j) H) := propext ⟨fun ⟨_, _, e, e', h⟩ => by cases e; cases e'; exact h, fun h => ⟨i, j, rfl, rfl, h⟩⟩
theorem w_U {g : Int → V} {i : Int} : rU g (.int i) H Q = Q (g i) H := propext ⟨fun ⟨_, e, h⟩ => by cases e; exact h, fun h => ⟨i, rfl, h⟩⟩
theorem w_eqI {i j : Int} : rEq (.int i) (.int j) H Q = Q (.bl (decide (i = j))) H := propext ⟨fun ⟨_, h⟩ => by simpa using h, fun h => ⟨rfl, by simpa using h⟩⟩
theorem w_neI {i j : Int} : rNe (.int i) (.int j) H Q = Q (.bl (!decide (i = j))) H := propext ⟨fun ⟨_, h⟩ => by simpa using h, fun h => ⟨rfl, by simpa using h⟩⟩
theorem w_eqS {i j : Str} : rEq (.str i) (.str j) H Q = Q (.bl (decide (i = j))) H := propext ⟨fun ⟨_, h⟩ => by simpa using h, fun h => ⟨rfl, by simpa using h⟩⟩
theorem w_neS {i j : Str} : rNe (.str i) (.str j) H Q = Q (.bl (!decide (i = j))) H := propext ⟨fun ⟨_, h⟩ => by simpa using h, fun h => ⟨rfl, by simpa using h⟩⟩
theorem w_eqB {i j : Bool} : rEq (.bl i) (.bl j) H Q = Q (.bl (decide (i = j))) H := propext ⟨fun ⟨_, h⟩ => by simpa using h, fun h => ⟨rfl, by simpa using h⟩⟩
theorem w_neB {i j : Bool} : rNe (.bl i) (.bl j) H Q = Q (.bl (!decide (i = j))) H := propext ⟨fun ⟨_, h⟩ => by simpa using h, fun h => ⟨rfl, by simpa using h⟩⟩
theorem w_exB {b : Bool} {q : Bool → Prop} : (∃ k, V.bl b = .bl k ∧ q k) = q b := propext ⟨fun ⟨_, e, h⟩ => by cases e; exact h, fun h => ⟨b, rfl, h⟩⟩
theorem w_exI {b : Int} {q : Int → Prop} : (∃ k, V.int b = .int k ∧ q k) = q b := propext ⟨fun ⟨_, e, h⟩ => by cases e; exact h, fun h => ⟨b, rfl, h⟩⟩
theorem w_addS {i j : Str} {q : Str → Str → Prop} : (∃ a b, V.str i = .str a ∧ V.str j = .str b ∧ q a b) = q i j :=
  propext ⟨fun ⟨_, _, e, e', h⟩ => by cases e; cases e'; exact h, fun h => ⟨i, j, rfl, rfl, h⟩⟩
theorem w_K {CX : CXT} {P : Program} {w : World} {K : PySem.W.Frag} {mg : Str → Option Value} {base : Heap} {N : List Str} {qual : Str} {scope : Scope} {f : Addr} {cd : Value} {A : Around} {outer : List Env} {s : Shared} {H : Hp} {E : XK} : (cxOf CX P w K mg base N qual scope f cd A outer s H E).K = K := rfl
theorem w_aug {i : Nat} {te : TE} {ti : TIp} : tAug i te ti D σ H = tVar i σ H fun x _ => te σ H fun y H1 => ti x y H1 fun z H2 => D.nx (σ.set i (some z)) H2 := rfl
theorem w_ip {f : Int → Int → Int} {i j : Int} : ipI f (.int i) (.int j) H Q = Q (.int (f i j)) H := propext ⟨fun ⟨_, _, e, e', h⟩ => by cases e; cases e'; exact h, fun h => ⟨i, j, rfl, rfl, h⟩⟩
theorem w_exB2 {a b : Bool} {q : Bool → Bool → Prop} : (∃ c d, V.bl a = .bl c ∧ V.bl b = .bl d ∧ q c d) = q a b := propext ⟨fun ⟨_, _, e, e', h⟩ => by cases e; cases e'; exact h, fun h => ⟨a, b, rfl, rfl, h⟩⟩
theorem w_exR {a : Addr} {q : Addr → Prop} : (∃ b, V.ref a = .ref b ∧ q b) = q a := propext ⟨fun ⟨_, e, h⟩ => by cases e; exact h, fun h => ⟨a, rfl, h⟩⟩
theorem w_exR2 {α : Type} {a : Addr} {q : Addr → α → Prop} : (∃ b y, V.ref a = .ref b ∧ q b y) = ∃ y, q a y := propext ⟨fun ⟨_, y, e, h⟩ => by cases e; exact ⟨y, h⟩, fun ⟨y, h⟩ => ⟨a, y, rfl, h⟩⟩
theorem w_ex1I {i : Int} {q : Int → Prop} : (∃ j, [V.int i] = [.int j] ∧ q j) = q i := propext ⟨fun ⟨_, e, h⟩ => by cases e; exact h, fun h => ⟨i, rfl, h⟩⟩
theorem w_ex1S {i : Str} {q : Str → Prop} : (∃ j, [V.str i] = [.str j] ∧ q j) = q i := propext ⟨fun ⟨_, e, h⟩ => by cases e; exact h, fun h => ⟨i, rfl, h⟩⟩
theorem w_ex1R {α : Type} {i : Addr} {q : Addr → α → Prop} : (∃ j y, [V.ref i] = [.ref j] ∧ q j y) = ∃ y, q i y := propext ⟨fun ⟨_, y, e, h⟩ => by cases e; exact ⟨y, h⟩, fun ⟨y, h⟩ => ⟨i, y, rfl, h⟩⟩
theorem w_ex2R {α β : Type} {i : Addr} {q : Addr → α → β → Prop} : (∃ j y z, [V.ref i] = [.ref j] ∧ q j y z) = ∃ y z, q i y z := propext ⟨fun ⟨_, y, z, e, h⟩ => by cases e; exact ⟨y, z, h⟩, fun ⟨y, z, h⟩ => ⟨i, y, z, rfl, h⟩⟩
theorem w_ex2I {i j : Int} {q : Int → Int → Prop} : (∃ a b, [V.int i, V.int j] = [.int a, .int b] ∧ q a b) = q i j := propext ⟨fun ⟨_, _, e, h⟩ => by cases e; exact h, fun h => ⟨i, j, rfl, h⟩⟩
theorem w_int1 {b : Bool} {q : Int → Prop} {r : Bool → Prop} : ((∃ i, [V.bl b] = [.int i] ∧ q i) ∨ ∃ k, [V.bl b] = [.bl k] ∧ r k) = r b :=
  propext ⟨fun h => by rcases h with ⟨_, e, _⟩ | ⟨_, e, h⟩ <;> cases e; exact h, fun h => .inr ⟨b, rfl, h⟩⟩
theorem w_ixS {z : Str} {i : Int} : rIxS (.str z) (.int i) H Q = (z.length ≤ sizeLine ∧ ∃ c, atI z.cps.toList i = some c ∧ Q (.str ⟨#[c]⟩) H) :=
  propext ⟨fun ⟨_, _, c, e, e', h1, h2, h3⟩ => by cases e; cases e'; exact ⟨h1, c, h2, h3⟩, fun ⟨h1, c, h2, h3⟩ => ⟨z, i, c, rfl, rfl, h1, h2, h3⟩⟩
theorem w_ixL {K : PySem.W.Frag} {p : Addr} {i : Int} : rIxL K (.ref p) (.int i) H Q = ∃ xs v, SqL K H p xs ∧ atI xs i = some v ∧ Q v H :=
  propext ⟨fun ⟨_, xs, _, v, e, e', h⟩ => by cases e; cases e'; exact ⟨xs, v, h⟩, fun ⟨xs, v, h⟩ => ⟨p, xs, i, v, rfl, rfl, h⟩⟩
theorem w_ixT {K : PySem.W.Frag} {p : Addr} {i : Int} : rIxT K (.ref p) (.int i) H Q = ∃ xs v, SqT K H p xs ∧ atI xs i = some v ∧ Q v H :=
  propext ⟨fun ⟨_, xs, _, v, e, e', h⟩ => by cases e; cases e'; exact ⟨xs, v, h⟩, fun ⟨xs, v, h⟩ => ⟨p, xs, i, v, rfl, rfl, h⟩⟩
theorem w_app {l : Addr} {y : V} : rAppend (.ref l) [y] H Q = ∃ xs, H l = some (.lst xs) ∧ xs.length < sizeLine ∧ Q .non (upd H l (.lst (xs ++ [y]))) :=
  propext ⟨fun ⟨_, xs, _, e, e', h⟩ => by cases e; cases e'; exact ⟨xs, h⟩, fun ⟨xs, h⟩ => ⟨l, xs, y, rfl, rfl, h⟩⟩
theorem w_pop {l : Addr} : rPop (.ref l) [] H Q = ∃ xs y, H l = some (.lst xs) ∧ xs[xs.length - 1]? = some y ∧ Q y (upd H l (.lst xs.dropLast)) :=
  propext ⟨fun ⟨_, xs, y, e, _, h⟩ => by cases e; exact ⟨xs, y, h⟩, fun ⟨xs, y, h⟩ => ⟨l, xs, y, rfl, rfl, h⟩⟩
theorem map_erase {α β : Type} (f : α → β) : ∀ (l : List α) (k : Nat), (l.map f).eraseIdx k = (l.eraseIdx k).map f
  | [], _ => rfl
  | _ :: _, 0 => rfl
  | x :: l, k + 1 => by
    show f x :: (l.map f).eraseIdx k = f x :: (l.eraseIdx k).map f
    rw [map_erase f l k]
/-- xs.pop(a % len(xs)) -/
theorem pop_mod {l : Addr} {xs : List V} {a : Int} (h : H l = some (.lst xs)) (h0 : 0 < xs.length) (hs : xs.length ≤ 1000) (q : ∀ k y, k < xs.length → xs[k]? = some y → Q y (upd H l (.lst (xs.eraseIdx k)))) : rPopAt (.ref l) [.int (a % (xs.length : Int))] H Q := by
  have h1 : 0 ≤ a % (xs.length : Int) := Int.emod_nonneg _ (by omega)
  have h2 : a % (xs.length : Int) < xs.length := Int.emod_lt_of_pos _ (by omega)
  have h3 : (a % (xs.length : Int)).toNat < xs.length := by omega
  exact ⟨l, xs, _, (a % (xs.length : Int)).toNat, xs[(a % (xs.length : Int)).toNat], rfl, rfl, h, by omega, by omega, (ixN_seq (by unfold ixN; rw [if_pos h1, if_pos h2])).1, List.getElem?_eq_getElem h3, q _ _ h3 (List.getElem?_eq_getElem h3)⟩
theorem got_map {α : Type} {f : α → V} {l : List α} {k : Nat} {y : V} (h : (l.map f)[k]? = some y) : ∃ x, l[k]? = some x ∧ y = f x := by
  rw [List.getElem?_map] at h
  cases e : l[k]? with
  | none => rw [e] at h; cases h
  | some x => rw [e] at h; exact ⟨x, rfl, (Option.some.inj h).symm⟩
theorem w_tyL {K : PySem.W.Frag} {l : Addr} {xs : List V} (h : H l = some (.lst xs)) : tyV K "list" (.ref l) H := .inl ⟨rfl, xs, SqL.of h⟩
theorem w_test {t : TE} {q : Bool → Hp → Prop} : tTest t σ H q = t σ H fun x H' => ∃ k, x = .bl k ∧ q k H' := rfl
theorem w_tB {t : TE} {q : Bool → Hp → Prop} : tB t σ H q = t σ H fun x H' => ∃ k, x = .bl k ∧ q k H' := rfl
theorem w_and {t u : TT} {q : Bool → Hp → Prop} : tAnd t u σ H q = t σ H fun c H1 => if c = true then u σ H1 q else q false H1 := rfl
theorem w_or {t u : TT} {q : Bool → Hp → Prop} : tOr t u σ H q = t σ H fun c H1 => if c = true then q true H1 else u σ H1 q := rfl
theorem w_not {t : TT} {q : Bool → Hp → Prop} : tNot t σ H q = t σ H fun c H1 => q (!c) H1 := rfl
theorem w_andV {ta tb : TE} : tAndV ta tb σ H Q = ta σ H fun x H1 => ∃ c, x = .bl c ∧ if c = true then tb σ H1 Q else Q (.bl false) H1 := rfl
theorem w_orV {ta tb : TE} : tOrV ta tb σ H Q = ta σ H fun x H1 => ∃ c, x = .bl c ∧ if c = true then Q (.bl true) H1 else tb σ H1 Q := rfl
theorem w_notV {ta : TE} : tNotV ta σ H Q = ta σ H fun x H1 => ∃ c, x = .bl c ∧ Q (.bl (!c)) H1 := rfl
theorem w_if {t : TT} {ta tb : TE} : tIf t ta tb σ H Q = t σ H fun c H1 => if c = true then ta σ H1 Q else tb σ H1 Q := rfl
theorem w_seq {t u : TS} : tSeq t u D σ H = t { nx := u D, rt := D.rt, bk := D.bk, ct := D.ct } σ H := rfl
theorem w_next : tNext D σ H = D.nx σ H := rfl
theorem w_brk : tBreak D σ H = D.bk σ H := rfl
theorem w_cont : tCont D σ H = D.ct σ H := rfl
theorem w_drop {te : TE} : tDrop te D σ H = te σ H fun _ H1 => D.nx σ H1 := rfl
theorem w_ret {te : TE} : tRet te D σ H = te σ H D.rt := rfl
theorem w_retN : tRetN D σ H = D.rt .non H := rfl
theorem w_ifS {c : TT} {t u : TS} : tIfS c t u D σ H = c σ H fun b H1 => if b = true then t D σ H1 else u D σ H1 := rfl
theorem w_asg {te : TE} {g : TG} : tAsg te g D σ H = te σ H fun x H1 => g x σ H1 D.nx := rfl
theorem w_gName {i : Nat} {v : V} {q : St → Hp → Prop} : gName i v σ H q = q (σ.set i (some v)) H := rfl
theorem w_set0 {v : V} {x : Option V} : List.set (x :: σ) 0 (some v) = some v :: σ := rfl
theorem w_setS {i : Nat} {v : V} {x : Option V} : List.set (x :: σ) (i + 1) (some v) = x :: List.set σ i (some v) := rfl
theorem w_nil {q : List V → Hp → Prop} : tNil σ H q = q [] H := rfl
theorem w_cons {ta : TE} {tr : TA} {q : List V → Hp → Prop} : tCons ta tr σ H q = ta σ H fun x H1 => tr σ H1 fun xs H2 => q (x :: xs) H2 := rfl
theorem w_cb {r : List V → Hp → VK → Prop} {t : TA} : tCB r t σ H Q = t σ H fun vs H1 => r vs H1 Q := rfl
theorem w_tup {t : TA} : tTup t σ H Q = t σ H fun xs H1 => xs.length ≤ sizeLine ∧ ∀ p, H1 p = none → Q (.ref p) (upd H1 p (.tup xs)) := rfl
theorem w_lst {t : TA} : tLst t σ H Q = t σ H fun xs H1 => xs.length ≤ sizeLine ∧ ∀ p, H1 p = none → Q (.ref p) (upd H1 p (.lst xs)) := rfl
theorem w_call {sp : Sp} {dvs : List V} {E : XK} {t : TA} : tCall sp dvs E t σ H Q = t σ H fun vs H1 => sp (vs ++ dvs) H1 Q E := rfl
theorem w_bm {K : PySem.W.Frag} {T : String} {r : V → List V → Hp → VK → Prop} {to : TE} {t : TA} : tBM K T r to t σ H Q = to σ H fun x H1 => tyV K T x H1 ∧ t σ H1 fun xs H2 => r x xs H2 Q := rfl
theorem w_bm0 {K : PySem.W.Frag} {T : String} {r : V → List V → Hp → VK → Prop} {to : TE} : tBM0 K T r to σ H Q = to σ H fun x H1 => tyV K T x H1 ∧ r x [] H1 Q := rfl
def ForJ (J : It) (g : TG) (tb : TS) (D : Ends) (σ : St) (H1 : Hp) : Prop := ∃ W : Nat → Nat → St → Hp → Prop, (∃ m, W 0 m σ H1) ∧ ∀ i m σ H, W i m σ H →
  (J.stop i H ∧ D.nx σ H) ∨ (J.go i H ∧ ∃ N : St → Hp → Prop, (∀ σ' H', N σ' H' → ∃ m', m' < m ∧ W (i + 1) m' σ' H') ∧ ∀ x H', J.yld i H x H' → g x σ H' fun σ2 H2 => tb { D with nx := N, ct := N, bk := D.nx } σ2 H2)
theorem w_for1 {ta : TA} {g : TG} {tb : TS} : tFor (iRng1 ta) g tb D σ H = ta σ H fun vs H1 => ∃ j : Int, vs = [.int j] ∧ -(2 ^ 62) ≤ j ∧ j < 2 ^ 62 ∧ ForJ (Itr 0 j.toNat) g tb D σ H1 := rfl
theorem w_for2 {ta : TA} {g : TG} {tb : TS} : tFor (iRng2 ta) g tb D σ H = ta σ H fun vs H1 => ∃ i j : Int, vs = [.int i, .int j] ∧ (-(2 ^ 62) ≤ i ∧ i < 2 ^ 62 ∧ -(2 ^ 62) ≤ j ∧ j < 2 ^ 62) ∧ ForJ (Itr i (j - i).toNat) g tb D σ H1 := rfl
theorem w_forL {K : PySem.W.Frag} {tl : TE} {g : TG} {tb : TS} : tFor (iList K tl) g tb D σ H = tl σ H fun x H1 => ∃ a, x = .ref a ∧ (∃ xs, SqL K H1 a xs) ∧ ForJ (Itl K a) g tb D σ H1 := rfl
theorem w_forT {K : PySem.W.Frag} {tl : TE} {g : TG} {tb : TS} : tFor (iTup K tl) g tb D σ H = tl σ H fun x H1 => ∃ a, x = .ref a ∧ (∃ xs, SqT K H1 a xs) ∧ ForJ (Itt K a) g tb D σ H1 := rfl
theorem w_gTup {K : PySem.W.Frag} {n : Nat} {t : TGs} {v : V} {q : St → Hp → Prop} : gTup K n t v σ H q = ∃ a xs, v = .ref a ∧ SqT K H a xs ∧ xs.length = n ∧ t xs σ H q := rfl
theorem w_gNil {q : St → Hp → Prop} : gNil [] σ H q = q σ H := propext ⟨fun h => h.2, fun h => ⟨rfl, h⟩⟩
theorem w_gCons {t : TG} {u : TGs} {v : V} {r : List V} {q : St → Hp → Prop} : gCons t u (v :: r) σ H q = t v σ H fun σ' H' => u r σ' H' q := propext ⟨fun ⟨_, _, e, h⟩ => by cases e; exact h, fun h => ⟨v, r, rfl, h⟩⟩
theorem w_chain3 {r r' r2 : R2} {ta tb tc td : TE} : tChain3 r r' r2 ta tb tc td σ H Q = ta σ H fun x H1 => tb σ H1 fun y H2 => r x y H2 fun z H3 => ∃ k, z = .bl k ∧
  (if k = true then tc σ H3 fun w' H4 => r' y w' H4 fun z2 H5 => ∃ k2, z2 = .bl k2 ∧ (if k2 = true then td σ H5 fun e H6 => r2 w' e H6 Q else Q (.bl false) H5) else Q (.bl false) H3) := rfl
theorem w_chain {r r' : R2} {ta tb tc : TE} : tChain r r' ta tb tc σ H Q = ta σ H fun x H1 => tb σ H1 fun y H2 => r x y H2 fun z H3 => ∃ k, z = .bl k ∧
  (if k = true then tc σ H3 fun w' H4 => r' y w' H4 Q else Q (.bl false) H3) := rfl
end
end L2

set_option Elab.async false
set_option linter.all false
set_option maxRecDepth 100000
set_option maxHeartbeats 4000000
/-! What the helpers of the texts promise, apart from any one text. -/
namespace L2
open PySem PySem.Spec PyProof.Rows
theorem Fun.okS {P : Program} {w : World} {K : PySem.W.Frag} {mg : Str → Option Value} {base : Heap} {x qual : Str} {st : Stmt} {f : Addr} {fd : FuncData} {N ps : List Str} {k : Nat} {sp : Sp} (F : Fun K x qual st f fd) (S : FnScope N ps (defScope st)) (len : ∀ vs H Q E, sp vs H Q E → vs.length = ps.length)
    (hbody : ∀ (cdv : Value) (A : Around) (outer : List Env) (s : Shared) (H : Hp) (vs : List V) (Q : VK) (E : XK), Room k (A.deeper (envOfC qual (defScope st) s.heap.objs.size f cdv)) → sp vs H Q E →
      ∃ (σ : St) (t : TS), start N vs = σ ∧ PSs (cxOf CX0 P w K mg base N qual (defScope st) f cdv A outer s H E).nox (defBody st) t ∧ t { nx := fun _ H' => Q .non H', rt := Q } σ H) : FnOk P w K mg base CX0 (k + 1) f fd ps sp :=
  F.ok S len fun cdv A outer s H vs Q E hr h => by
    obtain ⟨σ, t, e, h1, h2⟩ := hbody cdv A outer s H vs Q E hr h
    exact ⟨t, h1, by rw [e]; exact h2⟩
theorem hu_64 {A : Around} {k : Nat} (hr : Room k A) : A.units + 64 < cLine := hr.units
end L2
namespace Rm
open PySem L2
/-! ### words -/
def cpB (b : Bool) : Nat := if b then 40 else 41
def wd (bs : List Bool) : Str := ⟨(bs.map cpB).toArray⟩
/-! ### what is a word -/
def scan : List Nat → Int → Bool
  | [], w => decide (w = 0)
  | c :: r, w => if c = 40 then scan r (w + 1) else if c = 41 then (if w - 1 < 0 then false else scan r (w - 1)) else false
def isW (z : Str) : Bool := decide (z.length ≤ 40) && scan z.cps.toList 0
/-! ### bows on the heap -/
abbrev Bw := Int × Int
def tupAt (H : Hp) (a : Addr) (p : Bw) : Prop := H a = some (.tup [.int p.1, .int p.2])
def BowsAt (H : Hp) (l : Addr) (ps : List Bw) : Prop := ∃ as : List Addr, H l = some (.lst (as.map V.ref)) ∧ Paired (tupAt H) as ps
theorem tupAt.same {H H' : Hp} (s : Same H H') {a : Addr} {p : Bw} (h : tupAt H a p) : tupAt H' a p := s _ _ h
theorem BowsAt.same {H H' : Hp} (s : Same H H') {l : Addr} {ps : List Bw} (h : BowsAt H l ps) : BowsAt H' l ps :=
  let ⟨as, h1, h2⟩ := h
  ⟨as, s _ _ h1, paired_imp h2 fun _ _ z => z.same s⟩
/-- another list changes -/
theorem bows_upd {H : Hp} {l f : Addr} {ps : List Bw} {xs ys : List V} (h : BowsAt H f ps) (hl : H l = some (.lst xs)) (ne : f ≠ l) : BowsAt (upd H l (.lst ys)) f ps := by
  obtain ⟨as, h1, h2⟩ := h
  refine ⟨as, by rw [upd_ne ne]; exact h1, paired_imp h2 fun a p z => ?_⟩
  have z' : H a = some (.tup [.int p.1, .int p.2]) := z
  show upd _ _ _ a = _
  rw [upd_ne (ne_of z' hl (by intro q; cases q))]; exact z'
theorem bows_copy {H : Hp} {l hd : Addr} {as : List Addr} {ps : List Bw} (h2 : Paired (tupAt H) as ps) (hn : H hd = none) : BowsAt (upd H hd (.lst (as.map V.ref))) hd ps :=
  ⟨as, upd_same, paired_imp h2 fun a p z => by
    have z' : H a = some (.tup [.int p.1, .int p.2]) := z
    show upd _ _ _ a = _
    rw [upd_ne (ne_of_none z' hn)]; exact z'⟩
theorem BowsAt.get {H : Hp} {l : Addr} {ps : List Bw} (h : BowsAt H l ps) : ∃ as : List Addr, H l = some (.lst (as.map V.ref)) ∧ as.length = ps.length ∧ ∀ (i : Nat) x, (as.map V.ref)[i]? = some x → ∃ a p, x = .ref a ∧ ps[i]? = some p ∧ tupAt H a p := by
  obtain ⟨as, h1, h2⟩ := h
  refine ⟨as, h1, Paired.length h2, fun i x hx => ?_⟩
  rw [List.getElem?_map] at hx
  cases e : as[i]? with
  | none => rw [e] at hx; cases hx
  | some a =>
    rw [e] at hx
    obtain ⟨p, hp, ht⟩ := paired_get h2 e
    exact ⟨a, p, (Option.some.inj hx).symm, hp, ht⟩
/-! ### bows as plain data -/
def bowD (p : Bw) : PyData := .tuple [.int p.1, .int p.2]
def bowsD (ps : List Bw) : PyData := .list (ps.map bowD)
theorem bow_rep {K : PySem.W.Frag} {H : Hp} {a : Addr} {p : Bw} (h : tupAt H a p) : Rep K H (.ref a) (bowD p) := .tup (SqT.of h) (.cons (.int _) (.cons (.int _) .nil))
theorem bows_repL {K : PySem.W.Frag} {H : Hp} : ∀ {as : List Addr} {ps : List Bw}, Paired (tupAt H) as ps → RepL K H (as.map V.ref) (ps.map bowD)
  | _, _, .nil => .nil
  | _, _, .cons r t => .cons (bow_rep r) (bows_repL t)
theorem bows_rep {K : PySem.W.Frag} {H : Hp} {l : Addr} {ps : List Bw} (h : BowsAt H l ps) : Rep K H (.ref l) (bowsD ps) := by
  obtain ⟨as, h1, h2⟩ := h
  exact .lst (SqL.of h1) (bows_repL h2)
theorem bow_lay (p : Bw) : (bowD p).canLay0 = true := rfl
theorem bows_layAll : ∀ ps : List Bw, PyData.canLayAll0 (ps.map bowD) = true
  | [] => rfl
  | p :: ps => by
    show (PyData.canLay0 (bowD p) && PyData.canLayAll0 (ps.map bowD)) = true
    rw [bow_lay, bows_layAll ps]; rfl
theorem bows_lay (ps : List Bw) : (bowsD ps).canLay0 = true := bows_layAll ps
theorem bow_depth (p : Bw) : (bowD p).depth = 1 := by simp [bowD, PyData.depth, PyData.depthAll]
theorem bows_depthAll : ∀ ps : List Bw, PyData.depthAll (ps.map bowD) ≤ 1
  | [] => Nat.zero_le _
  | p :: ps => by
    show max (PyData.depth (bowD p)) (PyData.depthAll (ps.map bowD)) ≤ 1
    rw [bow_depth]
    have := bows_depthAll ps
    omega
theorem bows_depth (ps : List Bw) : (bowsD ps).depth ≤ 2 := by
  show PyData.depthAll (ps.map bowD) + 1 ≤ 2
  have := bows_depthAll ps
  omega
theorem bow_eqv (p q : Bw) : PyData.eqv (bowD p) (bowD q) = decide (p = q) := by
  obtain ⟨a, b⟩ := p
  obtain ⟨c, d⟩ := q
  simp only [bowD, PyData.eqv, PyData.eqvAll, Prod.mk.injEq, Bool.and_true]
  by_cases h1 : a = c <;> by_cases h2 : b = d <;> simp [h1, h2]
theorem bows_eqvAll : ∀ ps qs : List Bw, PyData.eqvAll (ps.map bowD) (qs.map bowD) = decide (ps = qs)
  | [], [] => rfl
  | [], _ :: _ => by simp [PyData.eqvAll]
  | _ :: _, [] => by simp [PyData.eqvAll]
  | p :: ps, q :: qs => by
    show (PyData.eqv (bowD p) (bowD q) && PyData.eqvAll (ps.map bowD) (qs.map bowD)) = _
    rw [bow_eqv, bows_eqvAll ps qs]
    by_cases h1 : p = q <;> by_cases h2 : ps = qs <;> simp [h1, h2]
theorem bows_eqv (ps qs : List Bw) : PyData.eqv (bowsD ps) (bowsD qs) = decide (ps = qs) := bows_eqvAll ps qs
def crossZ (p q : Bw) : Bool := decide (p.1 < q.1) && (decide (q.1 < p.2) && decide (p.2 < q.2))
def natV (ws : List Nat) : List V := ws.map fun (n : Nat) => V.int (n : Int)
/-! ### promises -/
def spCell (K : PySem.W.Frag) : Sp := fun vs H Q _ => ∃ (a : Addr) (ns : List Int) (k : Nat), vs = [.ref a, .int k] ∧ SqL K H a (ns.map V.int) ∧ Q (.int (ns.getD k 0)) H
def mixZ (a k : Int) : Int := (a % 10 ^ 20 + 17 * k + k * k * k + 5) * 48271 % 1000003 * 69621 % 999983
def spMix : Sp := fun vs H Q _ => ∃ a k : Int, vs = [.int a, .int k] ∧ 0 ≤ k ∧ k ≤ 1000 ∧ Q (.int (mixZ a k)) H
def spWordBy : Sp := fun vs H Q _ => ∃ c : Int, vs = [.int c] ∧ ∀ bs, Bal bs → bs.length ≤ 40 → Q (.str (wd bs)) H
def msZ (ms : List (Nat × Nat)) : List Bw := ms.map fun p => ((p.1 : Int), (p.2 : Int))
def spMates : Sp := fun vs H Q _ => ∃ bs, vs = [.str (wd bs)] ∧ Bal bs ∧ bs.length ≤ 40 ∧ ∀ l ms H', Mates bs bs.length ms → H l = none → Same H H' → BowsAt H' l (msZ ms) → Q (.ref l) H'
def spBowsBy : Sp := fun vs H Q _ => ∃ c m : Int, vs = [.int c, .int m] ∧ 0 ≤ m ∧ m ≤ 20 ∧ ∀ l ps H', H l = none → Same H H' → BowsAt H' l ps → ps.length ≤ 20 → Q (.ref l) H'
def spCross : Sp := fun vs H Q _ => ∃ a b p q, vs = [.ref a, .ref b] ∧ tupAt H a p ∧ tupAt H b q ∧ Q (.bl (crossZ p q)) H
def spCrossing : Sp := fun vs H Q _ => ∃ l ps, vs = [.ref l] ∧ BowsAt H l ps ∧ ((∀ p ∈ ps, ∀ q ∈ ps, crossZ p q = false) → Q .non H) ∧
  ∀ p ∈ ps, ∀ q ∈ ps, crossZ p q = true → ∀ t a b H', H t = none → Same H H' → H' t = some (.tup [.ref a, .ref b]) → tupAt H' a p → tupAt H' b q → Q (.ref t) H'
def spIsWord (K : PySem.W.Frag) : Sp := fun vs H Q _ => ∃ x : V, vs = [x] ∧ ((∃ z : Str, x = .str z ∧ z.cps.all (· < 128) = true ∧ z.length ≤ 1000 ∧ Q (.bl (isW z)) H) ∨ (∃ t : Value, TyOf K H x t ∧ PySem.W.kitOne K t (.type "str") = some false ∧ Q (.bl false) H))
def spPairs : Sp := fun vs H Q _ => ∃ bs ms, vs = [.str (wd bs)] ∧ Bal bs ∧ bs.length ≤ 40 ∧ Mates bs bs.length ms ∧ ∀ l H', H l = none → Same H H' → BowsAt H' l (msZ ms) → Q (.ref l) H'
def spWhole (K : PySem.W.Frag) : Sp := fun vs H Q _ => ∃ (x : V) (t : Value) (b c : Bool), vs = [x] ∧ TyOf K H x t ∧ PySem.W.kitOne K t (.type "int") = some b ∧ PySem.W.kitOne K t (.type "bool") = some c ∧ Q (.bl (b && !c)) H
def spLaw (K : PySem.W.Frag) : Sp := fun vs H Q _ => ∃ (a : Addr) (ns : List Int), vs = [.ref a] ∧ SqL K H a (ns.map V.int) ∧ ns.length ≤ 63 ∧ ∀ H', Q (.bl true) H'
end Rm

/-! The bows of a word by a heap of waiting ends. -/
namespace Rm
structure Stk (bs : List Bool) (i : Nat) (ws : List Nat) (bows : List (Nat × Nat)) : Prop where
  at_ : ∀ (j p : Nat), ws[j]? = some p → p < i ∧ bs[p]? = some true ∧ D bs p = j ∧ ∀ q, p < q → q ≤ i → D bs p < D bs q
  wlen : (ws.length : Int) = D bs i
  mate : ∀ b ∈ bows, Mate bs b.1 b.2 ∧ b.2 < i
  all : ∀ p, p < i → bs[p]? = some true → p ∈ ws ∨ ∃ m, (p, m) ∈ bows
  inc : bows.Pairwise (fun a b => a.2 < b.2)
  il : i ≤ bs.length
  len : ws.length + 2 * bows.length = i
theorem Stk.start (bs : List Bool) : Stk bs 0 [] [] :=
  ⟨fun j p h => by simp at h, by simp [D], (fun b h => nomatch h), fun p h => by omega, .nil, Nat.zero_le _, rfl⟩
theorem Stk.opens {bs : List Bool} {i : Nat} {ws : List Nat} {bows : List (Nat × Nat)} (S : Stk bs i ws bows) (h : bs[i]? = some true) : Stk bs (i + 1) (ws ++ [i]) bows := by
  have hs := D_succ h
  simp only [dl, if_true] at hs
  have hl := S.wlen
  refine ⟨fun j p hj => ?_, ?_, fun b hb => ⟨(S.mate b hb).1, by have := (S.mate b hb).2; omega⟩, fun p hp ho => ?_, S.inc, (List.getElem?_eq_some_iff.mp h).1, by have := S.len; simp only [List.length_append, List.length_singleton]; omega⟩
  · by_cases e : j < ws.length
    · rw [List.getElem?_append_left e] at hj
      obtain ⟨h1, h2, h3, h4⟩ := S.at_ j p hj
      refine ⟨by omega, h2, h3, fun q a b => ?_⟩
      by_cases c : q ≤ i
      · exact h4 q a c
      · have : q = i + 1 := by omega
        subst this
        have := h4 i (by omega) (Nat.le_refl _)
        omega
    · rw [List.getElem?_append_right (by omega)] at hj
      have hj0 : j - ws.length = 0 := by
        have := (List.getElem?_eq_some_iff.mp hj).1
        simp at this; omega
      rw [hj0] at hj
      have : p = i := by simpa using hj.symm
      subst this
      refine ⟨by omega, h, by omega, fun q a b => ?_⟩
      have : q = p + 1 := by omega
      subst this
      omega
  · simp only [List.length_append, List.length_singleton]; omega
  · by_cases e : p = i
    · subst e; exact .inl (by simp)
    · rcases S.all p (by omega) ho with z | z
      · exact .inl (List.mem_append_left _ z)
      · exact .inr z
theorem Stk.has {bs : List Bool} {i : Nat} {ws : List Nat} {bows : List (Nat × Nat)} (S : Stk bs i ws bows) (b : Bal bs) (h : bs[i]? = some false) : ∃ ws' p, ws = ws' ++ [p] := by
  have hs := D_succ h
  simp only [dl, Bool.false_eq_true, if_false] at hs
  have hl := S.wlen
  have hi := (List.getElem?_eq_some_iff.mp h).1
  have := b.nn (i + 1) (by omega)
  have hne : ws ≠ [] := fun e => by rw [e] at hl; simp at hl; omega
  exact ⟨ws.dropLast, ws.getLast hne, (List.dropLast_concat_getLast hne).symm⟩
theorem Stk.closes {bs : List Bool} {i p : Nat} {ws : List Nat} {bows : List (Nat × Nat)} (S : Stk bs i (ws ++ [p]) bows) (h : bs[i]? = some false) : Stk bs (i + 1) ws (bows ++ [(p, i)]) := by
  have hs := D_succ h
  simp only [dl, Bool.false_eq_true, if_false] at hs
  have hl := S.wlen
  simp only [List.length_append, List.length_singleton] at hl
  obtain ⟨p1, p2, p3, p4⟩ := S.at_ ws.length p (by simp)
  have hi := (List.getElem?_eq_some_iff.mp h).1
  have M : Mate bs p i := ⟨p1, hi, p2, h, by omega, p4⟩
  refine ⟨fun j q hj => ?_, by omega, fun b hb => ?_, fun q hq ho => ?_, ?_, hi, by have := S.len; simp only [List.length_append, List.length_singleton] at this ⊢; omega⟩
  · have hjl := (List.getElem?_eq_some_iff.mp hj).1
    obtain ⟨h1, h2, h3, h4⟩ := S.at_ j q (by rw [List.getElem?_append_left hjl]; exact hj)
    refine ⟨by omega, h2, h3, fun x a b => ?_⟩
    by_cases c : x ≤ i
    · exact h4 x a c
    · have : x = i + 1 := by omega
      subst this
      omega
  · rcases List.mem_append.mp hb with hb | hb
    · exact ⟨(S.mate b hb).1, by have := (S.mate b hb).2; omega⟩
    · have : b = (p, i) := by simpa using hb
      subst this
      exact ⟨M, Nat.lt_succ_self i⟩
  · by_cases e : q = i
    · subst e; rw [h] at ho; simp at ho
    · rcases S.all q (by omega) ho with z | ⟨m, z⟩
      · rcases List.mem_append.mp z with z | z
        · exact .inl z
        · have : q = p := by simpa using z
          subst this
          exact .inr ⟨i, by simp⟩
      · exact .inr ⟨m, List.mem_append_left _ z⟩
  · refine List.pairwise_append.mpr ⟨S.inc, by simp, fun a ha b hb => ?_⟩
    have : b = (p, i) := by simpa using hb
    subst this
    exact (S.mate a ha).2
theorem Stk.mem {bs : List Bool} {ws : List Nat} {bows ms : List (Nat × Nat)} (S : Stk bs bs.length ws bows) (b : Bal bs) (M : Mates bs bs.length ms) (x : Nat × Nat) : x ∈ bows ↔ x ∈ ms := by
  have hw : ws = [] := by
    have := S.wlen
    rw [b.z] at this
    exact List.eq_nil_of_length_eq_zero (by omega)
  subst hw
  refine ⟨fun h => ?_, fun h => ?_⟩
  · obtain ⟨m, _⟩ := S.mate x h
    have hx := (List.getElem?_eq_some_iff.mp m.op).1
    obtain ⟨y, hy⟩ := M.all x.1 hx m.op
    have := m.uniq (M.mate _ hy).1
    rw [show x = (x.1, y) from Prod.ext rfl this]
    exact hy
  · obtain ⟨m, hx⟩ := M.mate x h
    rcases S.all x.1 hx m.op with z | ⟨y, hy⟩
    · exact nomatch z
    · have := m.uniq (S.mate _ hy).1
      rw [show x = (x.1, y) from Prod.ext rfl this]
      exact hy
theorem inc_ext : ∀ (xs ys : List (Nat × Nat)), xs.Pairwise (fun a b => a.1 < b.1) → ys.Pairwise (fun a b => a.1 < b.1) → (∀ x, x ∈ xs ↔ x ∈ ys) → xs = ys
  | [], [], _, _, _ => rfl
  | [], y :: ys, _, _, h => absurd ((h y).mpr List.mem_cons_self) (by simp)
  | x :: xs, [], _, _, h => absurd ((h x).mp List.mem_cons_self) (by simp)
  | x :: xs, y :: ys, hx, hy, h => by
    obtain ⟨hx1, hx2⟩ := List.pairwise_cons.mp hx
    obtain ⟨hy1, hy2⟩ := List.pairwise_cons.mp hy
    have e : x = y := by
      rcases List.mem_cons.mp ((h x).mp List.mem_cons_self) with e | e
      · exact e
      · rcases List.mem_cons.mp ((h y).mpr List.mem_cons_self) with e' | e'
        · exact e'.symm
        · have := hx1 y e'
          have := hy1 x e
          omega
    subst e
    congr 1
    refine inc_ext xs ys hx2 hy2 fun z => ⟨fun hz => ?_, fun hz => ?_⟩
    · rcases List.mem_cons.mp ((h z).mp (List.mem_cons_of_mem _ hz)) with e | e
      · subst e; have := hx1 z hz; omega
      · exact e
    · rcases List.mem_cons.mp ((h z).mpr (List.mem_cons_of_mem _ hz)) with e | e
      · subst e; have := hy1 z hz; omega
      · exact e
/-- what is sorted, and holds the same, is the list of the mates -/
theorem Stk.sorted {bs : List Bool} {ws : List Nat} {bows ms out : List (Nat × Nat)} (S : Stk bs bs.length ws bows) (b : Bal bs) (M : Mates bs bs.length ms) (hp : out.Perm bows)
    (hs : out.Pairwise (fun a b => a.1 < b.1 ∨ a.1 = b.1 ∧ a.2 ≤ b.2)) : out = ms := by
  refine inc_ext out ms ?_ M.inc fun x => (hp.mem_iff).trans (S.mem b M x)
  have nd : bows.Nodup := S.inc.imp fun {a b} h e => by rw [e] at h; omega
  have nd' : out.Nodup := (hp.nodup_iff).mpr nd
  have key : ∀ l : List (Nat × Nat), (∀ x ∈ l, Mate bs x.1 x.2) → l.Nodup → l.Pairwise (fun a b => a.1 < b.1 ∨ a.1 = b.1 ∧ a.2 ≤ b.2) → l.Pairwise (fun a b => a.1 < b.1) := by
    intro l hm hn hq
    induction l with
    | nil => exact .nil
    | cons a l ih =>
      obtain ⟨h1, h2⟩ := List.pairwise_cons.mp hq
      obtain ⟨n1, n2⟩ := List.nodup_cons.mp hn
      refine List.pairwise_cons.mpr ⟨fun c hc => ?_, ih (fun x hx => hm x (List.mem_cons_of_mem _ hx)) n2 h2⟩
      rcases h1 c hc with z | ⟨z, _⟩
      · exact z
      · have ma := hm a List.mem_cons_self
        have mc := hm c (List.mem_cons_of_mem _ hc)
        rw [← z] at mc
        have e := ma.uniq mc
        exact absurd (show c ∈ l from hc) (by rw [show c = a from Prod.ext z.symm e.symm]; exact n1)
  exact key out (fun x hx => (S.mate x (hp.mem_iff.mp hx)).1) nd' hs
end Rm

set_option Elab.async false
set_option linter.all false
set_option maxRecDepth 100000
set_option maxHeartbeats 4000000
/-! Loops over the signs of a text, and over them with their numbers. -/
namespace L2
open PySem PySem.Spec PyProof.Rows
section
variable {X : Cx} {pins : List (Addr × Obj)} {σ : St} {H : Hp} {s : Shared} {h' : Heap}
end
/-! ### the signs of a text -/
def Its (x : Str) : It := ⟨fun i _ => i < x.cps.size, fun i H v H' => H' = H ∧ ∃ c, x.cps[i]? = some c ∧ v = .str ⟨#[c]⟩, fun i _ => x.cps.size ≤ i⟩
def iStr (tl : TE) : TI := fun σ H R => tl σ H fun x H1 => ∃ z, x = .str z ∧ z.cps.all (· < 128) = true ∧ R (Its z) H1
/-! ### enumerate(text) -/
def Ite (x : Str) : It := ⟨fun i _ => i < x.cps.size, fun i H v H' => ∃ p c, H p = none ∧ x.cps[i]? = some c ∧ v = .ref p ∧ H' = upd H p (.tup [.int i, .str ⟨#[c]⟩]), fun i _ => i = x.cps.size⟩
def iEnum (ta : TA) : TI := fun σ H R => ta σ H fun vs H1 => ∃ z, vs = [.str z] ∧ z.cps.all (· < 128) = true ∧ R (Ite z) H1
section
variable {σ : St} {H : Hp} {D : Ends}
theorem w_exS {a : Str} {q : Str → Prop} : (∃ b, V.str a = .str b ∧ q b) = q a := propext ⟨fun ⟨_, e, h⟩ => by cases e; exact h, fun h => ⟨a, rfl, h⟩⟩
end
end L2

/-! Sorting by asking: whatever is asked is answered by ranks, so the order that comes out rises. -/
namespace Rm
open PySem PySem.W PyProof.Rows
section
variable {r : Nat → Int} {N : Nat} {cmp : Nat → Nat → (Bool → Shared → Prop) → Shared → Prop} {s : Shared}
/-- each two places below N are asked, and the ranks answer -/
def Told (r : Nat → Int) (N : Nat) (cmp : Nat → Nat → (Bool → Shared → Prop) → Shared → Prop) (s : Shared) : Prop :=
  ∀ i j, i < N → j < N → ∀ C : Bool → Shared → Prop, C (decide (r i < r j)) s → cmp i j C s
def In (N : Nat) (p : Array Nat) : Prop := p.size = N ∧ ∀ i, p.getD i 0 < N
def Kk (r : Nat → Int) (p : Array Nat) (i : Nat) : Int := r (p.getD i 0)
def Asc (r : Nat → Int) (p : Array Nat) (k : Nat) : Prop := ∀ i j, i ≤ j → j < k → Kk r p i ≤ Kk r p j
def Des (r : Nat → Int) (p : Array Nat) (k : Nat) : Prop := ∀ i j, i ≤ j → j < k → Kk r p j ≤ Kk r p i
theorem Kk_congr {p q : Array Nat} {i j : Nat} (h : p[i]? = q[j]?) : Kk r p i = Kk r q j := by
  unfold Kk
  rw [Array.getD_eq_getD_getElem?, Array.getD_eq_getD_getElem?, h]
theorem Kk_rev {p : Array Nat} {i j : Nat} (hj : j ≤ p.size) (k : Nat) : Kk r (kas_rev p i j) k = if i ≤ k ∧ k < j then Kk r p (i + j - 1 - k) else Kk r p k := by
  have e := getElem?_mirror_all (i := i) hj k
  unfold kas_rev
  by_cases h1 : i ≤ k ∧ k < j
  · rw [if_pos h1] at e ⊢; exact Kk_congr e
  · rw [if_neg h1] at e ⊢; exact Kk_congr e
theorem Kk_bubble {p : Array Nat} {src d : Nat} (hs : src < p.size) (hd : d ≤ src) (k : Nat) : Kk r (bubble p src d) k = if k = src - d then Kk r p src else if src - d < k ∧ k ≤ src then Kk r p (k - 1) else Kk r p k := by
  have e := getElem?_bubble hs d hd k
  by_cases h1 : k = src - d
  · rw [if_pos h1] at e ⊢; exact Kk_congr e
  · rw [if_neg h1] at e ⊢
    by_cases h2 : src - d < k ∧ k ≤ src
    · rw [if_pos h2] at e ⊢; exact Kk_congr e
    · rw [if_neg h2] at e ⊢; exact Kk_congr e
theorem In.of_perm {p q : Array Nat} (h : In N p) (hp : q.Perm p) : In N q := by
  refine ⟨hp.size_eq.trans h.1, fun i => ?_⟩
  rw [Array.getD_eq_getD_getElem?]
  cases e : q[i]? with
  | none =>
    have := h.2 N
    rw [Array.getD_eq_getD_getElem?, Array.getElem?_eq_none (Nat.le_of_eq h.1)] at this
    exact this
  | some x =>
    have hx : x ∈ q := Array.mem_of_getElem? e
    have hx' : x ∈ p := hp.mem_iff.mp hx
    obtain ⟨j, hj, rfl⟩ := Array.mem_iff_getElem.mp hx'
    have := h.2 j
    rw [Array.getD_eq_getD_getElem?, Array.getElem?_eq_getElem hj] at this
    exact this
theorem In.rev {p : Array Nat} (h : In N p) (i j : Nat) : In N (kas_rev p i j) := h.of_perm (mirror_perm _ _ _ _)
theorem asc_spec (T : Told r N cmp s) {G : Nat → Shared → Prop} {p : Array Nat} (hp : In N p) : ∀ (f n : Nat), 1 ≤ n → Asc r p n → (∀ m, n ≤ m → m ≤ n + f → Asc r p m → (m < n + f → Kk r p m < Kk r p (m - 1)) → G m s) → (kas_asc p f n).kasWp cmp G s
  | 0, n, _, ha, hG => hG n (Nat.le_refl _) (Nat.le_refl _) ha (fun h => absurd h (by omega))
  | f + 1, n, h1, ha, hG => by
    refine T _ _ (hp.2 _) (hp.2 _) _ ?_
    by_cases c : Kk r p n < Kk r p (n - 1)
    · have c' : r (p.getD n 0) < r (p.getD (n - 1) 0) := c
      rw [decide_eq_true c']
      exact hG n (Nat.le_refl _) (by omega) ha fun _ => c
    · have c' : ¬ r (p.getD n 0) < r (p.getD (n - 1) 0) := c
      rw [decide_eq_false c']
      refine asc_spec T hp f (n + 1) (by omega) (fun i j hij hj => ?_) fun m a b c2 d => hG m (by omega) (by omega) c2 fun e => d (by omega)
      by_cases e : j = n
      · subst e
        by_cases e2 : i = j
        · subst e2; exact Int.le_refl _
        · have := ha i (j - 1) (by omega) (by omega)
          omega
      · exact ha i j hij (by omega)
/-- the last q + 1 of the first n rank alike -/
def Tail (r : Nat → Int) (p : Array Nat) (n q : Nat) : Prop := q < n ∧ ∀ k, n - (q + 1) ≤ k → k < n → Kk r p k = Kk r p (n - 1)
theorem rev_tail {p : Array Nat} {n q : Nat} (hn : n ≤ p.size) (h : Tail r p n q) (k : Nat) : Kk r (kas_rev p (n - (q + 1)) n) k = Kk r p k := by
  rw [Kk_rev hn]
  split
  · rw [h.2 _ (by have := h.1; omega) (by omega), h.2 k (by omega) (by omega)]
  · rfl
theorem Des.same {p p' : Array Nat} {n : Nat} (h : Des r p n) (e : ∀ k, Kk r p' k = Kk r p k) : Des r p' n := fun i j a b => by rw [e, e]; exact h i j a b
theorem desc_spec (T : Told r N cmp s) {G : Array Nat × Nat × Nat → Shared → Prop} : ∀ (f : Nat) (p : Array Nat) (n q : Nat), In N p → n + f ≤ N → Des r p n → Tail r p n q →
    (∀ p' n' q', p'.Perm p → n ≤ n' → n' ≤ n + f → Des r p' n' → Tail r p' n' q' → G (p', n', q') s) → (kas_desc f p n q).kasWp cmp G s
  | 0, p, n, q, _, _, hd, ht, hG => hG p n q (.refl _) (Nat.le_refl _) (Nat.le_refl _) hd ht
  | f + 1, p, n, q, hp, hN, hd, ht, hG => by
    refine T _ _ (hp.2 _) (hp.2 _) _ ?_
    by_cases c : Kk r p n < Kk r p (n - 1)
    · have c' : r (p.getD n 0) < r (p.getD (n - 1) 0) := c
      rw [decide_eq_true c']
      have hq := ht.1
      have grow : ∀ p' : Array Nat, p'.Perm p → (∀ k, Kk r p' k = Kk r p k) → (kas_desc f p' (n + 1) 0).kasWp cmp G s := fun p' hpp e => by
        refine desc_spec T f p' (n + 1) 0 (hp.of_perm hpp) (by omega) (fun i j hij hj => ?_) ⟨by omega, fun k h1 h2 => by have e9 : k = n := (by omega); rw [e9]; rfl⟩ fun p2 n2 q2 a b c2 d e2 => hG p2 n2 q2 (a.trans hpp) (by omega) (by omega) d e2
        rw [e, e]
        by_cases e3 : j = n
        · subst e3
          by_cases e4 : i = j
          · subst e4; exact Int.le_refl _
          · have := hd i (j - 1) (by omega) (by omega)
            omega
        · exact hd i j hij (by omega)
      show KasT.kasWp cmp (if true = true then (if q > 0 then kas_desc f (kas_rev p (n - (q + 1)) n) (n + 1) 0 else kas_desc f p (n + 1) 0) else _) G s
      rw [if_pos rfl]
      split
      · exact grow _ (mirror_perm _ _ _ _) (rev_tail (by rw [hp.1]; omega) ht)
      · exact grow p (.refl _) fun _ => rfl
    · have c' : ¬ r (p.getD n 0) < r (p.getD (n - 1) 0) := c
      rw [decide_eq_false c']
      show KasT.kasWp cmp (if false = true then _ else KasT.ask (p.getD (n - 1) 0) (p.getD n 0) fun d => if d = true then .ret (p, n, q) else kas_desc f p (n + 1) (q + 1)) G s
      rw [if_neg (by simp)]
      refine T _ _ (hp.2 _) (hp.2 _) _ ?_
      by_cases d : Kk r p (n - 1) < Kk r p n
      · have d' : r (p.getD (n - 1) 0) < r (p.getD n 0) := d
        rw [decide_eq_true d']
        exact hG p n q (.refl _) (Nat.le_refl _) (by omega) hd ht
      · have d' : ¬ r (p.getD (n - 1) 0) < r (p.getD n 0) := d
        rw [decide_eq_false d']
        have hq := ht.1
        have eq : Kk r p n = Kk r p (n - 1) := by omega
        refine desc_spec T f p (n + 1) (q + 1) hp (by omega) (fun i j hij hj => ?_) ⟨by omega, fun k h1 h2 => ?_⟩ fun p2 n2 q2 a b c2 d2 e2 => hG p2 n2 q2 a (by omega) (by omega) d2 e2
        · by_cases e3 : j = n
          · subst e3
            by_cases e4 : i = j
            · subst e4; exact Int.le_refl _
            · have := hd i (j - 1) (by omega) (by omega)
              omega
          · exact hd i j hij (by omega)
        · show Kk r p k = Kk r p n
          by_cases e3 : k = n
          · rw [e3]
          · rw [eq]; exact ht.2 k (by omega) (by omega)
/-- what counting the run gives -/
def Cnt (r : Nat → Int) (p : Array Nat) (nrem : Nat) (G : Nat × Array Nat → Shared → Prop) (s : Shared) : Prop := ∀ n p', p'.Perm p → 1 ≤ n → n ≤ nrem → Asc r p' n → G (n, p') s
theorem tail3_spec (T : Told r N cmp s) {G : Nat × Array Nat → Shared → Prop} {p : Array Nat} {n : Nat} (hp : In N p) (h1 : 1 ≤ n) (hn : n ≤ N) (hd : Des r p n) (hG : Cnt r p N G s) : (kas_tail3 n N p).kasWp cmp G s := by
  unfold kas_tail3
  rw [KasT.kasWp_bind]
  refine asc_spec T (hp.rev 0 n) (N - n) n h1 (fun i j hij hj => ?_) fun m a b c _ => hG m _ (mirror_perm _ _ _ _) (by omega) (by omega) c
  rw [Kk_rev (by rw [hp.1]; exact hn), Kk_rev (by rw [hp.1]; exact hn), if_pos (by omega), if_pos (by omega)]
  exact hd _ _ (by omega) (by omega)
theorem Cnt.perm {p q : Array Nat} {G : Nat × Array Nat → Shared → Prop} (h : Cnt r p N G s) (hp : q.Perm p) : Cnt r q N G s := fun n p' a b c d => h n p' (a.trans hp) b c d
theorem descPart_spec (T : Told r N cmp s) {G : Nat × Array Nat → Shared → Prop} {p : Array Nat} {n : Nat} (hp : In N p) (hn : n + 1 ≤ N) (h1 : 1 ≤ n) (hd : Des r p (n + 1)) (hG : Cnt r p N G s) : (kas_descPart n N p).kasWp cmp G s := by
  unfold kas_descPart
  rw [KasT.kasWp_bind]
  refine desc_spec T _ p (n + 1) 0 hp (by omega) hd ⟨by omega, fun k a b => by have e9 : k = n := (by omega); rw [e9]; rfl⟩ fun p' n' q' a b c d e => ?_
  dsimp only
  have hp' := hp.of_perm a
  split
  · exact tail3_spec T (hp'.rev _ _) (by omega) (by omega) (d.same (rev_tail (by rw [hp'.1]; omega) e)) (hG.perm ((mirror_perm _ _ _ _).trans a))
  · exact tail3_spec T hp' (by omega) (by omega) d (hG.perm a)
theorem count_spec (T : Told r N cmp s) {G : Nat × Array Nat → Shared → Prop} {p : Array Nat} (hp : In N p) (hN : 1 ≤ N) (hG : Cnt r p N G s) : (kas_count N p).kasWp cmp G s := by
  unfold kas_count
  rw [KasT.kasWp_bind]
  refine asc_spec T hp (N - 1) 1 (Nat.le_refl _) (fun i j a b => by have e9 : i = j := (by omega); rw [e9]; exact Int.le_refl _) fun n h1 h2 ha hb => ?_
  by_cases e : n = N
  · subst e
    rw [if_pos (by simp)]
    exact hG n p (.refl _) h1 (Nat.le_refl _) ha
  · rw [if_neg (by simp [e])]
    have hlt := hb (by omega)
    split
    · refine T _ _ (hp.2 _) (hp.2 _) _ ?_
      by_cases c : Kk r p 0 < Kk r p (n - 1)
      · have c' : r (p.getD 0 0) < r (p.getD (n - 1) 0) := c
        rw [decide_eq_true c']
        exact hG n p (.refl _) h1 (by omega) ha
      · have c' : ¬ r (p.getD 0 0) < r (p.getD (n - 1) 0) := c
        rw [decide_eq_false c']
        have alike : ∀ k, k < n → Kk r p k = Kk r p (n - 1) := fun k hk => by
          have a1 := ha 0 k (by omega) hk
          have a2 := ha k (n - 1) (by omega) (by omega)
          omega
        have same : ∀ k, Kk r (kas_rev p 0 n) k = Kk r p k := fun k => by
          rw [Kk_rev (by rw [hp.1]; omega)]
          split
          · rw [alike _ (by omega), alike k (by omega)]
          · rfl
        refine descPart_spec T (hp.rev 0 n) (by omega) h1 (Des.same (p := p) (fun i j hij hj => ?_) same) (hG.perm (mirror_perm _ _ _ _))
        by_cases e3 : j = n
        · subst e3
          by_cases e4 : i = j
          · subst e4; exact Int.le_refl _
          · rw [alike i (by omega)]; omega
        · rw [alike i (by omega), alike j (by omega)]; exact Int.le_refl _
    · have : n = 1 := by omega
      subst this
      refine descPart_spec T hp (by omega) (Nat.le_refl _) (fun i j hij hj => ?_) hG
      have hj' : j = 0 ∨ j = 1 := by omega
      have hi' : i = 0 ∨ i = 1 := by omega
      rcases hj' with rfl | rfl <;> rcases hi' with rfl | rfl
      · exact Int.le_refl _
      · omega
      · have : Kk r p 1 < Kk r p 0 := hlt
        omega
      · exact Int.le_refl _
theorem place_spec (T : Told r N cmp s) {G : Nat → Shared → Prop} {p : Array Nat} {k : Nat} (hp : In N p) (hs : Asc r p k) : ∀ (f l e : Nat), e ≤ k → e ≤ l + f → l ≤ e → (∀ i, i < l → Kk r p i ≤ Kk r p k) → (∀ i, e ≤ i → i < k → Kk r p k < Kk r p i) →
    (∀ l, l ≤ k → (∀ i, i < l → Kk r p i ≤ Kk r p k) → (∀ i, l ≤ i → i < k → Kk r p k < Kk r p i) → G l s) → (kas_place p k f l e).kasWp cmp G s
  | 0, l, e, h1, h2, h3, h4, h5, hG => by
    have : l = e := by omega
    subst this
    exact hG l h1 h4 h5
  | f + 1, l, e, h1, h2, h3, h4, h5, hG => by
    unfold kas_place
    split
    · have : l = e := by omega
      subst this
      exact hG l h1 h4 h5
    · refine T _ _ (hp.2 _) (hp.2 _) _ ?_
      by_cases c : Kk r p k < Kk r p ((l + e) / 2)
      · have c' : r (p.getD k 0) < r (p.getD ((l + e) / 2) 0) := c
        rw [decide_eq_true c']
        refine place_spec T hp hs f l ((l + e) / 2) (by omega) (by omega) (by omega) h4 (fun i a b => ?_) hG
        have := hs ((l + e) / 2) i a b
        omega
      · have c' : ¬ r (p.getD k 0) < r (p.getD ((l + e) / 2) 0) := c
        rw [decide_eq_false c']
        refine place_spec T hp hs f ((l + e) / 2 + 1) e h1 (by omega) (by omega) (fun i a => ?_) h5 hG
        have := hs i ((l + e) / 2) (by omega) (by omega)
        omega
theorem bubble_asc {p : Array Nat} {k l : Nat} (hk : k < p.size) (hs : Asc r p k) (hl : l ≤ k) (h1 : ∀ i, i < l → Kk r p i ≤ Kk r p k) (h2 : ∀ i, l ≤ i → i < k → Kk r p k < Kk r p i) : Asc r (bubble p k (k - l)) (k + 1) := fun i j hij hj => by
  rw [Kk_bubble hk (by omega), Kk_bubble hk (by omega)]
  have e : k - (k - l) = l := by omega
  rw [e]
  by_cases i1 : i = l
  · rw [if_pos i1]
    by_cases j1 : j = l
    · rw [if_pos j1]; exact Int.le_refl _
    · rw [if_neg j1, if_pos (by omega)]
      have := h2 (j - 1) (by omega) (by omega); omega
  · rw [if_neg i1]
    by_cases i2 : l < i ∧ i ≤ k
    · rw [if_pos i2, if_neg (by omega), if_pos (by omega)]
      exact hs _ _ (by omega) (by omega)
    · rw [if_neg i2]
      by_cases j1 : j = l
      · rw [if_pos j1]; exact h1 i (by omega)
      · rw [if_neg j1]
        by_cases j2 : l < j ∧ j ≤ k
        · rw [if_pos j2]; exact hs _ _ (by omega) (by omega)
        · rw [if_neg j2]; exact hs _ _ (by omega) (by omega)
theorem bin_spec (T : Told r N cmp s) {G : Array Nat → Shared → Prop} : ∀ (f : Nat) (p : Array Nat) (k : Nat), In N p → k + f = N → Asc r p k → (∀ p', p'.Perm p → Asc r p' N → G p' s) → (kas_bin f p k).kasWp cmp G s
  | 0, p, k, hp, hk, hs, hG => hG p (.refl _) (by have e9 : k = N := (by omega); rw [← e9]; exact hs)
  | f + 1, p, k, hp, hk, hs, hG => by
    unfold kas_bin
    rw [KasT.kasWp_bind]
    refine place_spec T hp hs k 0 k (Nat.le_refl _) (by omega) (by omega) (fun i h => absurd h (by omega)) (fun i h h' => absurd h' (by omega)) fun l h1 h2 h3 => ?_
    refine bin_spec T f _ (k + 1) (hp.of_perm (bubble_perm _ _ _)) (by omega) (bubble_asc (by rw [hp.1]; omega) hs h1 h2 h3) fun p' a b => hG p' (a.trans (bubble_perm _ _ _)) b
theorem sort_spec (T : Told r N cmp s) {G : Array Nat → Shared → Prop} (hN : 1 ≤ N) (hG : ∀ p : Array Nat, p.Perm (List.toArray (List.range N)) → Asc r p N → G p s) : (kas_sort N).kasWp cmp G s := by
  have h0 : In N (List.toArray (List.range N)) := ⟨by simp, fun i => by
    rw [Array.getD_eq_getD_getElem?]
    cases e : (List.toArray (List.range N))[i]? with
    | none => exact hN
    | some x =>
      have := Array.mem_of_getElem? e
      simpa using this⟩
  unfold kas_sort
  rw [KasT.kasWp_bind]
  refine count_spec T h0 hN fun n p a b c d => ?_
  dsimp only
  have hp := h0.of_perm a
  split
  · have e : max n 1 = n := by omega
    rw [e]
    exact bin_spec T _ p n hp (by omega) d fun p' x y => hG p' (x.trans a) y
  · have : n = N := by omega
    subst this
    exact hG p a d
end
end Rm

set_option Elab.async false
set_option linter.all false
set_option maxRecDepth 100000
set_option maxHeartbeats 4000000
/-! sorted(..) of what ranks tell apart. -/
namespace Rm
open PySem PySem.W PyProof.Rows
section
variable {prog : Program} {w : World} {A : Around} {E : Value → Shared → Prop} {s : Shared}
/-- the order in which the places come out -/
def outOf (vs : List Value) (p : Array Nat) : Array Value := List.toArray (p.toList.map fun i => vs.getD i Value.none)
theorem small_out : ∀ vs : List Value, vs.length < 2 → (vs.toArray.zip vs.toArray).map (·.2) = outOf vs (List.toArray (List.range vs.length))
  | [], _ => by simp [outOf]
  | [v], _ => by simp [outOf]
  | _ :: _ :: _, h => by simp at h; omega
/-- all but the one at a is kept -/
def Kp (a : Addr) (h h' : Heap) : Prop := ∀ b o, b ≠ a → h.get? b = some o → h'.get? b = some o
theorem list_sort_rank {a : Addr} {vs : List Value} {n : Nat} {P : PySem.Fin → Shared → Prop} {r : Nat → Int} (κ : SortKind) (ho : s.heap.get? a = some (seqObj "list" vs.toArray n)) (h64 : vs.length < 64)
    (hk : 2 ≤ vs.length → ∀ (h' : Heap) (Q : SortKind → Shared → Prop), Kp a s.heap h' → Q κ { s with heap := h' } → wpAny (model prog w) A (keyKind' vs.toArray) Q E { s with heap := h' })
    (hc : ∀ i j, i < vs.length → j < vs.length → ∀ (h' : Heap) (C : Bool → Shared → Prop), Kp a s.heap h' → C (decide (r i < r j)) { s with heap := h' } → wpAny (model prog w) A (keyLt' κ (vs.getD i Value.none) (vs.getD j Value.none)) C (fun _ _ => False) { s with heap := h' })
    (h : ∀ p : Array Nat, p.Perm (List.toArray (List.range vs.length)) → Asc r p vs.length → P (.done (.ret .none)) { s with heap := sortedHeap s.heap a vs (outOf vs p) }) :
    wpAny (model prog w) A (Builtin.«list.sort» ⟨[.ref a], []⟩) P E s := by
  rw [list_sort_plain]
  have ha : a < s.heap.objs.size := Heap.lt_size ho
  refine wpAny_bind (listItems_at ho rfl ?_)
  refine wpAny_bind (listUpdate_at ho rfl ?_)
  obtain ⟨e1, ho1⟩ : ∃ e1, (s.heap.update a (Obj.mapSeq fun _ => #[])).get? a = some (seqObj "list" #[] e1) := ⟨_, get?_update_seq ho (fun _ => #[])⟩
  refine wpAny_bind (seqEpoch_at ho1 rfl ?_)
  refine wpAny_bind (wpAny_newTuple ?_)
  refine wpAny_bind (wpAny_newList ?_)
  refine wpAny_holding ?_
  have ho6 : (((s.heap.update a (Obj.mapSeq fun _ => #[])).push (seqObj "tuple" vs.toArray 0)).push (seqObj "list" #[] 0)).get? a = some (seqObj "list" #[] e1) := by
    rw [Heap.get?_push_ne _ _ _ (by rw [size_push', Heap.size_update]; exact Nat.ne_of_lt (Nat.lt_succ_of_lt ha)), Heap.get?_push_ne _ _ _ (by rw [Heap.size_update]; exact Nat.ne_of_lt ha)]
    exact ho1
  have kp6 : Kp a s.heap (((s.heap.update a (Obj.mapSeq fun _ => #[])).push (seqObj "tuple" vs.toArray 0)).push (seqObj "list" #[] 0)) := fun b o hb e =>
    Heap.get?_push_of_some _ (Heap.get?_push_of_some _ (by rw [Heap.get?_update_ne _ _ _ _ hb]; exact e))
  show wpAny (model prog w) A _ P E { s with heap := ((s.heap.update a (Obj.mapSeq fun _ => #[])).push (seqObj "tuple" vs.toArray 0)).push (seqObj "list" #[] 0) }
  dsimp only
  have hsz : vs.toArray.size = vs.length := by simp
  by_cases h2 : vs.toArray.size < 2
  · rw [if_pos h2, if_pos h2]
    refine wpAny_bind (wpAny_pure ?_)
    rw [StateT.run_pure]
    refine wpAny_bind (wpAny_pure ?_)
    dsimp only
    refine wpAny_bind (seqEpoch_at ho6 rfl ?_)
    refine wpAny_bind (listUpdate_at ho6 rfl ?_ (hsz2 := by rw [Array.size_map]; show (pairsOf vs).size ≤ _; rw [pairsOf_size, sizeLine_eq]; omega))
    simp only [bne_self_eq_false, Bool.false_eq_true, if_false]
    have e : (arrOf (SortSt.mk' general' (vs.toArray.zip vs.toArray) #[] 7 none)).map (·.2) = outOf vs (List.toArray (List.range vs.length)) := by
      exact small_out vs (by omega)
    rw [e]
    refine wpAny_pure (h (List.toArray (List.range vs.length)) (Array.Perm.refl _) ?_)
    intro i j hij hj
    have e9 : i = j := by omega
    rw [e9]; exact Int.le_refl _
  · rw [if_neg h2, if_neg h2]
    refine wpAny_bind (hk (by omega) _ _ kp6 ?_)
    have T : Told r vs.length (kas_ask prog w A κ vs) { s with heap := ((s.heap.update a (Obj.mapSeq fun _ => #[])).push (seqObj "tuple" vs.toArray 0)).push (seqObj "list" #[] 0) } := fun i j hi hj C hC => hc i j hi hj _ C kp6 hC
    refine wpAny_bind (wpAny_mono (kat_run (ks := vs) (vs := vs) (Q := fun st' s' => s' = { s with heap := ((s.heap.update a (Obj.mapSeq fun _ => #[])).push (seqObj "tuple" vs.toArray 0)).push (seqObj "list" #[] 0) } ∧ ∃ p : Array Nat, p.size = vs.length ∧ arrOf st' = p.map (kas_item (vs.toArray.zip vs.toArray)) ∧ failedOf st' = none ∧ p.Perm (List.toArray (List.range vs.length)) ∧ Asc r p vs.length)
      (G := fun p s' => s' = { s with heap := ((s.heap.update a (Obj.mapSeq fun _ => #[])).push (seqObj "tuple" vs.toArray 0)).push (seqObj "list" #[] 0) } ∧ p.Perm (List.toArray (List.range vs.length)) ∧ Asc r p vs.length)
      rfl (by omega) h64 (fun p' st' s' a1 a2 a3 a4 => ⟨a4.1, p', a1, a2, a3, a4.2⟩) (sort_spec T (by omega) fun p hp ha => ⟨rfl, hp, ha⟩)) ?_ fun _ _ e => e)
    rintro ⟨⟨⟩, st'⟩ s' ⟨rfl, p, hps, har, hf, hp, hs⟩
    dsimp only
    have hout := kat_snds (ks := vs) (vs := vs) rfl har
    rw [hout]
    refine wpAny_bind (seqEpoch_at ho6 rfl ?_)
    refine wpAny_bind (listUpdate_at ho6 rfl ?_ (hsz2 := by rw [List.size_toArray, List.length_map, Array.length_toList, hps, sizeLine_eq]; omega))
    rw [hf]
    simp only [bne_self_eq_false, Bool.false_eq_true, if_false]
    exact wpAny_pure (h p hp hs)
theorem sorted_rank_of {l : Addr} {vs : List Value} {Q : Value → Shared → Prop} {r : Nat → Int} (κ : SortKind) (hcol : ∀ (A : Around) (E : Value → Shared → Prop) (Q : List Value → Shared → Prop), Q vs { s with heap := (s.heap.push (seqObj "list" #[] 0)).update s.heap.objs.size (Obj.mapSeq (· ++ vs.toArray)) } → wpAny (model prog w) A (collect (.ref l)) Q E s) (h64 : vs.length < 64)
    (hk : 2 ≤ vs.length → ∀ (h' : Heap) (Q : SortKind → Shared → Prop), (∀ b o, s.heap.get? b = some o → h'.get? b = some o) → Q κ { s with heap := h' } → wpAny (model prog w) A.in1.in1 (keyKind' vs.toArray) Q (fun _ _ => False) { s with heap := h' })
    (hc : ∀ i j, i < vs.length → j < vs.length → ∀ (h' : Heap) (C : Bool → Shared → Prop), (∀ b o, s.heap.get? b = some o → h'.get? b = some o) → C (decide (r i < r j)) { s with heap := h' } → wpAny (model prog w) A.in1.in1 (keyLt' κ (vs.getD i Value.none) (vs.getD j Value.none)) C (fun _ _ => False) { s with heap := h' })
    (h : ∀ p : Array Nat, p.Perm (List.toArray (List.range vs.length)) → Asc r p vs.length → Q (.ref (s.heap.objs.size + 1)) { s with heap := sortedAll s.heap vs (outOf vs p) }) :
    wpAny (model prog w) A (call (.builtin "sorted") [.ref l]) Q E s := by
  refine Calls.call_function_entry kind_sorted plain_sorted entry_sorted (args_sorted1 _) ?_
  unfold Builtin.«sorted»
  refine wpAny_bind (m := checkCount "sorted" 1 1 _) (wpAny_pure ?_)
  refine wpAny_bind (hcol _ _ _ ?_)
  refine wpAny_bind (wpAny_newList ?_)
  have hsz : ((s.heap.push (seqObj "list" #[] 0)).update s.heap.objs.size (Obj.mapSeq (· ++ vs.toArray))).objs.size = s.heap.objs.size + 1 := by
    rw [Heap.size_update, size_push']
  have hoL : (((s.heap.push (seqObj "list" #[] 0)).update s.heap.objs.size (Obj.mapSeq (· ++ vs.toArray))).push (seqObj "list" vs.toArray 0)).get? (s.heap.objs.size + 1) = some (seqObj "list" vs.toArray 0) := by
    rw [← hsz]; exact Heap.get?_push_size _ rfl
  have keep : ∀ b o, s.heap.get? b = some o → (((s.heap.push (seqObj "list" #[] 0)).update s.heap.objs.size (Obj.mapSeq (· ++ vs.toArray))).push (seqObj "list" vs.toArray 0)).get? b = some o := fun b o q => by
    have hlt : b < s.heap.objs.size := Heap.lt_size q
    rw [Heap.get?_push_ne _ _ _ (by rw [hsz]; exact Nat.ne_of_lt (Nat.lt_succ_of_lt hlt)), Heap.get?_update_ne _ _ _ _ (Nat.ne_of_lt hlt), Heap.get?_push_ne _ _ _ (Nat.ne_of_lt hlt)]
    exact q
  have keep2 : ∀ h', Kp (s.heap.objs.size + 1) (((s.heap.push (seqObj "list" #[] 0)).update s.heap.objs.size (Obj.mapSeq (· ++ vs.toArray))).push (seqObj "list" vs.toArray 0)) h' → ∀ b o, s.heap.get? b = some o → h'.get? b = some o := fun h' k b o q =>
    k b o (Nat.ne_of_lt (Nat.lt_succ_of_lt (Heap.lt_size q))) (keep b o q)
  show wpAny _ _ _ _ _ { s with heap := ((s.heap.push (seqObj "list" #[] 0)).update s.heap.objs.size (Obj.mapSeq (· ++ vs.toArray))).push (seqObj "list" vs.toArray 0) }
  rw [hsz]
  refine wpAny_bind (wpAny_holding (wpAny_call_entry slot_list_sort ⟨_, hoL, rfl⟩ entry_list_sort (list_sort_rank (r := r) κ hoL h64 (fun h2 h' Q k q => ?_) (fun i j hi hj h' C k q => ?_) fun p hp ha => ⟨_, rfl, ?_⟩) (args_list_sort _)))
  · exact wpAny_mono (hk h2 h' Q (keep2 h' k) q) (fun _ _ z => z) fun _ _ z => z.elim
  · exact hc i j hi hj h' C (keep2 h' k) q
  · exact wpAny_pure ⟨_, rfl, h p hp ha⟩
theorem sorted_rank {l : Addr} {vs : List Value} {Q : Value → Shared → Prop} {r : Nat → Int} (κ : SortKind) (hl : s.heap.IsList l vs.toArray) (h64 : vs.length < 64)
    (hk : 2 ≤ vs.length → ∀ (h' : Heap) (Q : SortKind → Shared → Prop), (∀ b o, s.heap.get? b = some o → h'.get? b = some o) → Q κ { s with heap := h' } → wpAny (model prog w) A.in1.in1 (keyKind' vs.toArray) Q (fun _ _ => False) { s with heap := h' })
    (hc : ∀ i j, i < vs.length → j < vs.length → ∀ (h' : Heap) (C : Bool → Shared → Prop), (∀ b o, s.heap.get? b = some o → h'.get? b = some o) → C (decide (r i < r j)) { s with heap := h' } → wpAny (model prog w) A.in1.in1 (keyLt' κ (vs.getD i Value.none) (vs.getD j Value.none)) C (fun _ _ => False) { s with heap := h' })
    (h : ∀ p : Array Nat, p.Perm (List.toArray (List.range vs.length)) → Asc r p vs.length → Q (.ref (s.heap.objs.size + 1)) { s with heap := sortedAll s.heap vs (outOf vs p) }) :
    wpAny (model prog w) A (call (.builtin "sorted") [.ref l]) Q E s :=
  sorted_rank_of κ (fun A E Q q => collect_list hl q (by rw [sizeLine_eq]; omega)) h64 hk hc h
end
end Rm

set_option Elab.async false
set_option linter.all false
set_option maxRecDepth 100000
set_option maxHeartbeats 4000000
/-! sorted(..) of a list of bows, and of ints. -/
namespace Rm
open PySem PySem.W PyProof.Rows L2
theorem vals_refs : ∀ {as : List Addr} {us : List Value}, Vals (as.map V.ref) us → us = as.map Value.ref
  | [], _, .nil => rfl
  | a :: as, u :: us, .cons r t => by
    have e : u = Value.ref a := r
    rw [e, vals_refs t]; rfl
theorem refs_vals (as : List Addr) : Vals (as.map V.ref) (as.map Value.ref) := by
  induction as with
  | nil => exact .nil
  | cons a as ih => exact .cons rfl ih
/-- a tuple of two ints as it lies in the heap -/
def Two (h : Heap) (a : Addr) (p : Bw) : Prop := ∃ o t u n, h.get? a = some o ∧ o.cls = .type "tuple" ∧ o.data = .seq #[.int p.1 t, .int p.2 u] n
theorem two_of {X : Cx} {pins : List (Addr × Obj)} {σ : L2.St} {H : Hp} {s : Shared} (I : Inv X pins σ H s) {a : Addr} {p : Bw} (h : tupAt H a p) : Two s.heap a p := by
  obtain ⟨_, its, v, o, e, c, n, d⟩ := I.hok a _ h
  obtain ⟨u, w, rfl, ⟨t, rfl⟩, t', rfl⟩ := Vals.two v
  exact ⟨o, t, t', n, e, c, by rw [d]⟩
theorem Two.kept {h h' : Heap} {a : Addr} {p : Bw} (x : Two h a p) (k : ∀ b o, h.get? b = some o → h'.get? b = some o) : Two h' a p := by
  obtain ⟨o, t, u, n, e, c, d⟩ := x
  exact ⟨o, t, u, n, k _ _ e, c, d⟩
theorem two_tups {h : Heap} : ∀ {as : List Addr} {ps : List Bw}, Paired (Two h) as ps → ∃ fs, KatTups h (as.map Value.ref) fs ∧ fs.length = as.length ∧ ∀ v ∈ fs, ∃ n t, v = Value.int n t
  | _, _, .nil => ⟨[], KatTups.nil, rfl, (fun v hv => nomatch hv)⟩
  | _, _, .cons r t => by
    obtain ⟨o, t1, u1, n, e, c, d⟩ := r
    obtain ⟨fs, h1, h2, h3⟩ := two_tups t
    exact ⟨.int _ t1 :: fs, KatTups.cons e c d rfl h1, by simp [h2], fun v hv => by
      rcases List.mem_cons.mp hv with rfl | hv
      · exact ⟨_, _, rfl⟩
      · exact h3 v hv⟩
def rankB (p : Bw) : Int := p.1 * 1000 + p.2
def kB : SortKind := tuples' (Value.type "int" != Value.type "tuple")
theorem two_lt {prog : Program} {w : World} {A : Around} {s : Shared} {a b : Addr} {p q : Bw} {C : Bool → Shared → Prop} (ha : Two s.heap a p) (hb : Two s.heap b q) (hp : 0 ≤ p.2 ∧ p.2 < 1000) (hq : 0 ≤ q.2 ∧ q.2 < 1000)
    (h : C (decide (rankB p < rankB q)) s) : wpAny (model prog w) A (keyLt' kB (.ref a) (.ref b)) C (fun _ _ => False) s := by
  obtain ⟨oa, t, u, n, ea, ca, da⟩ := ha
  obtain ⟨ob, t', u', n', eb, cb, db⟩ := hb
  refine kat_lt ea da eb db ?_
  show KatLex prog w A _ _ C [(Value.int p.1 t, Value.int q.1 t'), (Value.int p.2 u, Value.int q.2 u')] 0 s
  refine kat_cons (wpAny_eqBool_int (kat_go (fun e => ?_) (fun e => ?_)))
  · have e1 : p.1 = q.1 := by simpa using e
    refine kat_yes (kat_cons (wpAny_eqBool_int (kat_go (fun e => ?_) (fun e => ?_))))
    · have e2 : p.2 = q.2 := by simpa using e
      refine kat_yes (kat_nil ?_)
      have z : decide (rankB p < rankB q) = false := decide_eq_false (by unfold rankB; omega)
      rw [z] at h
      exact h
    · have e2 : ¬ p.2 = q.2 := by simpa using e
      refine kat_no ?_
      have z : decide (rankB p < rankB q) = decide (p.2 < q.2) := by
        by_cases y : p.2 < q.2
        · rw [decide_eq_true y, decide_eq_true (by unfold rankB; omega)]
        · rw [decide_eq_false y, decide_eq_false (by unfold rankB; omega)]
      rw [z] at h
      have b0 : ((Value.type "int" != Value.type "tuple") && ((0 + 1 : Nat) == 0)) = false := by decide
      rw [b0]
      exact kat_one _ _ (lt_int h)
  · have e1 : ¬ p.1 = q.1 := by simpa using e
    refine kat_no ?_
    have z : decide (rankB p < rankB q) = decide (p.1 < q.1) := by
      by_cases y : p.1 < q.1
      · rw [decide_eq_true y, decide_eq_true (by unfold rankB; omega)]
      · rw [decide_eq_false y, decide_eq_false (by unfold rankB; omega)]
    rw [z] at h
    have b0 : ((Value.type "int" != Value.type "tuple") && ((0 : Nat) == 0)) = true := by decide
    rw [b0]
    exact oneLt_int h
/-- places told by an array, in a list -/
def pick {α : Type} (d : α) (xs : List α) (p : Array Nat) : List α := p.toList.map fun i => xs.getD i d
theorem pick_perm {α : Type} (d : α) (xs : List α) {p : Array Nat} (hp : p.Perm (List.toArray (List.range xs.length))) : (pick d xs p).Perm xs := by
  have h1 : p.toList.Perm (List.range xs.length) := by simpa using Array.perm_iff_toList_perm.mp hp
  have h2 := h1.map fun i => xs.getD i d
  have e : (List.range xs.length).map (fun i => xs.getD i d) = xs := by
    apply List.ext_getElem
    · simp
    · intro i h1 h2
      simp at h1
      simp [h1]
  rw [e] at h2
  exact h2
theorem pick_paired {α β : Type} {R : α → β → Prop} (d : α) (e : β) {xs : List α} {ys : List β} (h : Paired R xs ys) {p : Array Nat} (hp : ∀ i ∈ p.toList, i < xs.length) : Paired R (pick d xs p) (pick e ys p) := by
  unfold pick
  revert hp
  induction p.toList with
  | nil => intro _; exact .nil
  | cons i r ih =>
    intro hp
    refine .cons ?_ (ih fun j hj => hp j (List.mem_cons_of_mem _ hj))
    have hi := hp i List.mem_cons_self
    have hx : xs[i]? = some xs[i] := List.getElem?_eq_getElem hi
    obtain ⟨y, hy, hr⟩ := paired_get h hx
    have e1 : xs.getD i d = xs[i] := by simp [List.getD, hx]
    have e2 : ys.getD i e = y := by simp [List.getD, hy]
    show R (xs.getD i d) (ys.getD i e)
    rw [e1, e2]; exact hr
theorem pick_asc {r : Nat → Int} {n : Nat} {p : Array Nat} (hn : p.size = n) (ha : Asc r p n) {α : Type} (d : α) (xs : List α) (f : α → Int) (hf : ∀ i, r i = f (xs.getD i d)) : (pick d xs p).Pairwise fun a b => f a ≤ f b := by
  rw [List.pairwise_iff_getElem]
  intro i j hi hj hij
  have hi' : i < p.size := by simpa [pick] using hi
  have hj' : j < p.size := by simpa [pick] using hj
  have h1 := ha i j (Nat.le_of_lt hij) (by omega)
  unfold Kk at h1
  rw [hf, hf] at h1
  simp only [Array.getD_eq_getD_getElem?, Array.getElem?_eq_getElem hi', Array.getElem?_eq_getElem hj', Option.getD_some] at h1
  simpa [pick] using h1
def leB (p q : Bw) : Prop := p.1 < q.1 ∨ p.1 = q.1 ∧ p.2 ≤ q.2
def rSortB (K : PySem.W.Frag) : List V → Hp → VK → Prop := fun xs H Q => ∃ (l : Addr) (as : List Addr) (ps : List Bw), xs = [.ref l] ∧ SqL K H l (as.map V.ref) ∧ Paired (tupAt H) as ps ∧ ps.length < 64 ∧ (∀ p ∈ ps, 0 ≤ p.2 ∧ p.2 < 1000) ∧
  ∀ l' as' ps', H l' = none → Paired (tupAt H) as' ps' → ps'.Perm ps → ps'.Pairwise leB → Q (.ref l') (upd H l' (.lst (as'.map V.ref)))
theorem call_sorted_bows {X : Cx} : CallR X (.builtin "sorted") (rSortB X.K) := by
  intro pins s σ H xs us Q I rr h
  obtain ⟨l, as, ps, rfl, hq, hP, h64, hb, q⟩ := h
  obtain ⟨u, rfl, rx⟩ := vals1 rr
  cases rx
  obtain ⟨its, rv, pl, hz⟩ := I.list hq
  have e := vals_refs rv
  subst e
  have hlen : as.length = ps.length := Paired.length hP
  have two : Paired (Two s.heap) as ps := paired_imp hP fun a p z => two_of I z
  have at_ : ∀ i, i < as.length → ∃ a p, (as.map Value.ref).getD i Value.none = .ref a ∧ ps.getD i (0, 0) = p ∧ Two s.heap a p ∧ 0 ≤ p.2 ∧ p.2 < 1000 := fun i hi => by
    have hx : as[i]? = some as[i] := List.getElem?_eq_getElem hi
    obtain ⟨p, hp, ht⟩ := paired_get two hx
    exact ⟨as[i], p, by simp [List.getD, hi], by simp [List.getD, hp], ht, hb p (List.mem_of_getElem? hp)⟩
  refine sorted_rank (r := fun i => rankB (ps.getD i (0, 0))) kB pl.isList (by rw [List.length_map]; omega) (fun h2 h' Q' k q' => ?_) (fun i j hi hj h' C k q' => ?_) fun p hp ha => ?_
  · obtain ⟨fs, k1, k2, k3⟩ := two_tups (paired_imp two fun a p z => z.kept k)
    refine kat_kind (T := .type "int") k1 (by rw [List.length_map] at h2; omega) (fun v hv => ?_) rfl q'
    obtain ⟨n, t, rfl⟩ := k3 v hv
    exact (show Looks _ _ (pure (Value.type "int")) (Value.type "int") from .now)
  · rw [List.length_map] at hi hj
    obtain ⟨a, p, e1, e2, t1, b1⟩ := at_ i hi
    obtain ⟨c, p', e3, e4, t2, b2⟩ := at_ j hj
    rw [e1, e3]
    refine two_lt (t1.kept k) (t2.kept k) b1 b2 ?_
    rw [← e2, ← e4]
    exact q'
  · rw [List.length_map] at hp ha
    obtain ⟨c, hc⟩ := sortedAll_at s.heap (as.map Value.ref) (outOf (as.map Value.ref) p)
    have hin : ∀ i ∈ p.toList, i < as.length := fun i hi => by
      have h1 : p.toList.Perm (List.range as.length) := by simpa using Array.perm_iff_toList_perm.mp hp
      simpa using h1.mem_iff.mp hi
    have eo : outOf (as.map Value.ref) p = List.toArray ((pick 0 as p).map Value.ref) := by
      unfold outOf pick
      rw [List.map_map]
      congr 1
      refine List.map_congr_left fun i hi => ?_
      have := hin i hi
      simp [List.getD, this]
    have hps : (pick 0 as p).length ≤ sizeLine := by
      have := (pick_perm 0 as hp).length_eq
      rw [this]
      exact Nat.le_of_lt (small1000 (by omega))
    rw [eo] at hc
    have hp' : p.Perm (List.toArray (List.range ps.length)) := by rw [← hlen]; exact hp
    refine ⟨.ref (s.heap.objs.size + 1), upd H (s.heap.objs.size + 1) (.lst ((pick 0 as p).map V.ref)), I.laid (t' := s.toks) (fun b o e => sortedAll_old e) (Nat.le_succ _) ?_, rfl, ?_⟩
    · exact (show ObjOk X.prog X.w _ _ _ (.lst _) from ⟨by rw [List.length_map]; exact hps, (pick 0 as p).map Value.ref, c, refs_vals _, by rw [eo]; exact hc⟩)
    · have hasc := pick_asc (n := as.length) (by have := hp.size_eq; simpa using this) ha (0, 0) ps rankB fun i => rfl
      have hmem : ∀ x ∈ pick (0, 0) ps p, 0 ≤ x.2 ∧ x.2 < 1000 := fun x hx => hb x ((pick_perm (0, 0) ps hp').mem_iff.mp hx)
      refine q _ _ (pick (0, 0) ps p) (I.hok.fresh (Nat.le_succ _)) (pick_paired 0 (0, 0) hP hin) (pick_perm (0, 0) ps hp') ?_
      refine List.Pairwise.imp_of_mem (fun {a b} ma mb hab => ?_) hasc
      have h1 := hmem a ma
      have h2 := hmem b mb
      unfold rankB at hab
      unfold leB
      omega
end Rm

set_option Elab.async false
set_option linter.all false
set_option maxRecDepth 100000
set_option maxHeartbeats 4000000
/-! More calls: sorted of ints, all, any, join; and plain data that is tracked. -/
namespace L2
open PySem PySem.Spec PyProof.Rows
theorem ints_are : ∀ {ns : List Int} {us : List Value}, Vals (ns.map V.int) us → IntsAre us ns
  | [], _, .nil => .nil
  | n :: ns, _, .cons ⟨t, e⟩ r => by subst e; exact .cons n t (ints_are r)
section
variable {X : Cx}
def rSortI (K : PySem.W.Frag) : List V → Hp → VK → Prop := fun xs H Q => ∃ (p : Addr) (ns : List Int), xs = [.ref p] ∧ SqL K H p (ns.map V.int) ∧ ns.length < 64 ∧
  ∀ (l : Addr) (ms : List Int), H l = none → ms.Perm ns → ms.Pairwise (· ≤ ·) → Q (.ref l) (upd H l (.lst (ms.map V.int)))
theorem call_sorted_ints : CallR X (.builtin "sorted") (rSortI X.K) := by
  intro pins s σ H xs us Q I r h
  obtain ⟨p, ns, rfl, hq, hl, q⟩ := h
  obtain ⟨u, rfl, rx⟩ := vals1 r
  cases rx
  obtain ⟨its, rv, pl, hz⟩ := I.list hq
  have hi := ints_are rv
  have hlen : its.length = ns.length := by have := rv.length; simpa using this.symm
  refine sorted_ints pl.isList hi (by omega) fun out ms hm hp hs => ?_
  obtain ⟨c, hc⟩ := sortedAll_at s.heap its out
  have hml : ms.length = ns.length := hp.length_eq
  exact ⟨.ref (s.heap.objs.size + 1), upd H (s.heap.objs.size + 1) (.lst (ms.map V.int)), I.laid (t' := s.toks) (fun b o e => sortedAll_old e) (Nat.le_succ _)
    (show ObjOk X.prog X.w _ _ _ (.lst _) from ⟨by rw [List.length_map, hml]; exact Nat.le_of_lt (small1000 (by omega)), out.toList, c, vals_ints hm, by simpa using hc⟩), rfl, q _ ms (I.hok.fresh (Nat.le_succ _)) hp hs⟩
def rAll (K : PySem.W.Frag) (f : List Bool → Bool) : List V → Hp → VK → Prop := fun xs H Q => ∃ (p : Addr) (bs : List Bool), xs = [.ref p] ∧ SqL K H p (bs.map V.bl) ∧ Q (.bl (f bs)) H
def rJoin (K : PySem.W.Frag) : V → List V → Hp → VK → Prop := fun x vs H Q => ∃ (z : Str) (p : Addr) (ts : List Str), x = .str z ∧ vs = [.ref p] ∧ SqL K H p (ts.map V.str) ∧ JoinOk z ts = true ∧ Q (.str (Txt.join z ts)) H
end

/-! ### plain data, tracked -/
mutual
inductive Dat (H : Hp) : V → PyData → Prop
  | non : Dat H .non .none
  | bl (b : Bool) : Dat H (.bl b) (.bool b)
  | int (i : Int) : Dat H (.int i) (.int i)
  | str (x : Str) : Dat H (.str x) (.str x)
  | tup {a : Addr} {xs : List V} {ds : List PyData} : H a = some (.tup xs) → DatL H xs ds → Dat H (.ref a) (.tuple ds)
  | lst {a : Addr} {xs : List V} {ds : List PyData} : H a = some (.lst xs) → DatL H xs ds → Dat H (.ref a) (.list ds)
inductive DatL (H : Hp) : List V → List PyData → Prop
  | nil : DatL H [] []
  | cons {x : V} {xs : List V} {d : PyData} {ds : List PyData} : Dat H x d → DatL H xs ds → DatL H (x :: xs) (d :: ds)
end
mutual
theorem Dat.rep {K : PySem.W.Frag} {H : Hp} : ∀ {x : V} {d : PyData}, Dat H x d → Rep K H x d
  | _, _, .non => .non
  | _, _, .bl b => .bl b
  | _, _, .int i => .int i
  | _, _, .str x => .str x
  | _, _, .tup h r => .tup (SqT.of h) (DatL.rep r)
  | _, _, .lst h r => .lst (SqL.of h) (DatL.rep r)
theorem DatL.rep {K : PySem.W.Frag} {H : Hp} : ∀ {xs : List V} {ds : List PyData}, DatL H xs ds → RepL K H xs ds
  | _, _, .nil => .nil
  | _, _, .cons h r => .cons (Dat.rep h) (DatL.rep r)
end
mutual
theorem Dat.same {H H' : Hp} (s : Same H H') : ∀ {x : V} {d : PyData}, Dat H x d → Dat H' x d
  | _, _, .non => .non
  | _, _, .bl b => .bl b
  | _, _, .int i => .int i
  | _, _, .str x => .str x
  | _, _, .tup h r => .tup (s _ _ h) (DatL.same s r)
  | _, _, .lst h r => .lst (s _ _ h) (DatL.same s r)
theorem DatL.same {H H' : Hp} (s : Same H H') : ∀ {xs : List V} {ds : List PyData}, DatL H xs ds → DatL H' xs ds
  | _, _, .nil => .nil
  | _, _, .cons h r => .cons (Dat.same s h) (DatL.same s r)
end
theorem DatL.len {H : Hp} : ∀ {xs : List V} {ds : List PyData}, DatL H xs ds → xs.length = ds.length
  | _, _, .nil => rfl
  | _, _, .cons _ r => by simp [DatL.len r]
theorem DatL.get {H : Hp} : ∀ {xs : List V} {ds : List PyData} {i : Nat} {x : V}, DatL H xs ds → xs[i]? = some x → ∃ d, ds[i]? = some d ∧ Dat H x d
  | _, _, _, _, .nil, e => by simp at e
  | _, _, 0, _, .cons h _, e => by simp at e; subst e; exact ⟨_, rfl, h⟩
  | _, _, i + 1, x, .cons _ r, e => by
    obtain ⟨d, h1, h2⟩ := DatL.get (i := i) (x := x) r (by simpa using e)
    exact ⟨d, by simpa using h1, h2⟩
def tyD : PyData → Value
  | .none => .type "NoneType"
  | .bool _ => .type "bool"
  | .int _ => .type "int"
  | .str _ => .type "str"
  | .list _ => .type "list"
  | .tuple _ => .type "tuple"
  | .dict _ => .type "dict"
theorem Dat.ty {K : PySem.W.Frag} {H : Hp} {x : V} {d : PyData} (h : Dat H x d) : TyOf K H x (tyD d) := by
  cases h with
  | non => exact .non
  | bl b => exact .bl b
  | int i => exact .int i
  | str x => exact .str x
  | tup h _ => exact .tup h
  | lst h _ => exact .lst h
def isI : PyData → Bool | .int _ => true | .bool _ => true | _ => false
def isB : PyData → Bool | .bool _ => true | _ => false
def isS : PyData → Bool | .str _ => true | _ => false
def isT : PyData → Bool | .tuple _ => true | _ => false
def isL : PyData → Bool | .list _ => true | _ => false
section
variable {K : PySem.W.Frag} {H : Hp} {x : V} {d : PyData} {Q : VK}
end
theorem ints_rep {K : PySem.W.Frag} {H : Hp} : ∀ (ns : List Int), RepL K H (ns.map V.int) (ns.map PyData.int)
  | [] => .nil
  | n :: ns => .cons (.int n) (ints_rep ns)
theorem ints_layAll : ∀ ns : List Int, PyData.canLayAll0 (ns.map PyData.int) = true
  | [] => rfl
  | n :: ns => by
    show (PyData.canLay0 (.int n) && PyData.canLayAll0 (ns.map PyData.int)) = true
    rw [ints_layAll ns]; rfl
theorem ints_any (n : Int) (ns : List Int) : ((ns.map PyData.int).any fun e => PyData.eqv e (.int n)) = decide (n ∈ ns) := by
  induction ns with
  | nil => simp
  | cons m ns ih =>
    rw [List.map_cons, List.any_cons, ih]
    by_cases h1 : n = m
    · subst h1; simp [PyData.eqv]
    · have h2 : ¬ m = n := fun e => h1 e.symm
      by_cases h3 : n ∈ ns <;> simp [PyData.eqv, h1, h2, h3]
theorem in_ints {K : PySem.W.Frag} {H : Hp} {b : Addr} {n : Int} {ns : List Int} {neg : Bool} {Q : VK} (hb : SqL K H b (ns.map V.int) ∨ SqT K H b (ns.map V.int)) (q : Q (.bl (if neg then !decide (n ∈ ns) else decide (n ∈ ns))) H) : rInD K neg (.int n) (.ref b) H Q := by
  refine ⟨.int n, ns.map PyData.int, b, _, .int n, rfl, hb, ints_rep ns, rfl, ints_layAll ns, Nat.zero_le _, ?_⟩
  rw [ints_any]
  exact q
end L2

set_option Elab.async false
set_option linter.all false
set_option maxRecDepth 100000
set_option maxHeartbeats 4000000
/-! [e for t in it if c]: a block of its own, that reads names of its def. -/
namespace L2
open PySem PySem.Spec PyProof.Rows
/-! ### the cells handed to the block -/
def clOf (env : Env) : List (Str × NameKind) → List (Str × Addr) → List (Str × Addr)
  | [], acc => acc
  | (n, k) :: r, acc => clOf env r (if (k == NameKind.free) = true then (n, (env.cells.lookup n).getD 0) :: acc else acc)
theorem closureFor_cl {scope : Scope} {env : Env} (h : ∀ x ∈ scope.names, x.2 = .free → ∃ c, env.cells.lookup x.1 = some c) : closureFor scope env = pure (clOf env scope.names []) := by
  simp only [closureFor]
  generalize ([] : List (Str × Addr)) = acc
  revert h
  generalize scope.names = l
  intro h
  induction l generalizing acc with
  | nil => rfl
  | cons x l ih =>
    obtain ⟨n, k⟩ := x
    have ih' := fun acc => ih acc fun y hy => h y (List.mem_cons_of_mem _ hy)
    rw [List.forIn_cons]
    cases hk : (k == NameKind.free) with
    | false =>
      simp only [Bool.false_eq_true, if_false, pure_bind]
      rw [show clOf env ((n, k) :: l) acc = clOf env l acc by simp [clOf, hk]]
      exact ih' acc
    | true =>
      obtain ⟨c, hc⟩ := h (n, k) List.mem_cons_self (by simpa using hk)
      have e : cellOf env n = pure c := by unfold cellOf; rw [hc]
      simp only [if_true, e, pure_bind]
      rw [show clOf env ((n, k) :: l) acc = clOf env l ((n, c) :: acc) by simp [clOf, hk, hc]]
      exact ih' ((n, c) :: acc)
theorem clOf_lookup {env : Env} {x : Str} {c : Addr} : ∀ {l : List (Str × NameKind)} {acc : List (Str × Addr)}, (∀ y ∈ l, y.2 = .free → ∃ c, env.cells.lookup y.1 = some c) → (clOf env l acc).lookup x = some c → acc.lookup x = some c ∨ env.cells.lookup x = some c
  | [], acc, _, h => .inl h
  | (n, k) :: l, acc, hf, h => by
    have ih := clOf_lookup (l := l) (acc := if (k == NameKind.free) = true then (n, (env.cells.lookup n).getD 0) :: acc else acc) (fun y hy => hf y (List.mem_cons_of_mem _ hy)) h
    rcases ih with e | e
    · cases hk : (k == NameKind.free) with
      | false => rw [hk] at e; exact .inl (by simpa using e)
      | true =>
        rw [hk] at e
        simp only [if_true, List.lookup_cons] at e
        cases hx : x == n with
        | false => rw [hx] at e; exact .inl e
        | true =>
          rw [hx] at e
          obtain ⟨c', hc⟩ := hf (n, k) List.mem_cons_self (by simpa using hk)
          have hxn : x = n := by simpa using hx
          subst hxn
          rw [hc] at e
          simp only [Option.getD_some] at e
          exact .inr (hc.trans e)
    · exact .inr e
theorem clOf_mono {env : Env} {x : Str} : ∀ {l : List (Str × NameKind)} {acc : List (Str × Addr)}, (∃ c, acc.lookup x = some c) → ∃ c, (clOf env l acc).lookup x = some c
  | [], acc, h => h
  | (n, k) :: l, acc, h => by
    refine clOf_mono (l := l) ?_
    cases hk : (k == NameKind.free) with
    | false => simpa using h
    | true =>
      simp only [if_true, List.lookup_cons]
      cases hx : x == n with
      | false => exact h
      | true => exact ⟨_, rfl⟩
theorem clOf_has {env : Env} {x : Str} : ∀ {l : List (Str × NameKind)} {acc : List (Str × Addr)}, (x, NameKind.free) ∈ l → ∃ c, (clOf env l acc).lookup x = some c
  | [], _, h => nomatch h
  | (n, k) :: l, acc, h => by
    rcases List.mem_cons.mp h with e | e
    · cases e
      refine clOf_mono (l := l) ?_
      simp
    · exact clOf_has (l := l) e
def rlF (env : Env) (p : Str × NameKind) : Str × NameKind := if (p.2 == NameKind.free && env.scope.kind == .function && env.kindOf p.1 == some .cell) then (p.1, NameKind.cell) else p
theorem relabel_names (scope : Scope) (env : Env) : (relabel scope env).names = scope.names.map (rlF env) := by
  show scope.names.map _ = _
  congr 1
theorem rlF_fst (env : Env) (p : Str × NameKind) : (rlF env p).1 = p.1 := by unfold rlF; split <;> rfl
theorem lookup_rlF {env : Env} {x : Str} : ∀ {names : List (Str × NameKind)}, (names.map (rlF env)).lookup x = (names.lookup x).map fun k => (rlF env (x, k)).2
  | [] => rfl
  | (n, q) :: r => by
    rw [List.map_cons]
    have e : rlF env (n, q) = (n, (rlF env (n, q)).2) := Prod.ext (rlF_fst env _) rfl
    rw [e, List.lookup_cons, List.lookup_cons]
    cases hx : x == n with
    | true =>
      have hxn : x = n := by simpa using hx
      subst hxn
      rfl
    | false => exact lookup_rlF (names := r)
theorem relabel_some {scope : Scope} {env : Env} {x : Str} {k : NameKind} (h : (relabel scope env).names.lookup x = some k) : scope.names.lookup x = some k ∨ (k = .cell ∧ scope.names.lookup x = some .free) := by
  rw [relabel_names, lookup_rlF] at h
  cases e : scope.names.lookup x with
  | none => rw [e] at h; cases h
  | some q =>
    rw [e] at h
    have h' : (rlF env (x, q)).2 = k := Option.some.inj h
    unfold rlF at h'
    split at h'
    · rename_i hc
      have hq : q = .free := by
        have := (Bool.and_eq_true _ _).mp ((Bool.and_eq_true _ _).mp hc).1
        simpa using this.1
      exact .inr ⟨h'.symm, by rw [hq]⟩
    · exact .inl (by rw [← h'])
theorem relabel_free {scope : Scope} {env : Env} {x : Str} (h : scope.names.lookup x = some .free) : (relabel scope env).names.lookup x = some .cell ∨ (relabel scope env).names.lookup x = some .free := by
  rw [relabel_names, lookup_rlF, h]
  show some (rlF env (x, .free)).2 = _ ∨ some (rlF env (x, .free)).2 = _
  unfold rlF
  split
  · exact .inl rfl
  · exact .inr rfl

/-! ### the block's context -/
def cxC (X : Cx) (N : List Str) (scope : Scope) (C : Addr) (s : Shared) (H : Hp) (fp : List Addr) (pn : List (Addr × Obj)) : Cx :=
  { X with N := N, s₀ := s, H₀ := H, env := compEnvC scope (clOf X.env scope.names []) C X.env, outer := X.stack, ex := fp, fn := fun _ => false, pn := pn, xe := fun _ _ => False }
structure CScope (scope : Scope) (ns : List Str) : Prop where
  kind : scope.kind = .function
  nocell : ∀ y ∈ scope.names, y.2 ≠ .cell
  names : ∀ y ∈ scope.names, y.2 = .local → scope.names.lookup y.1 = some .local
  frees : ∀ y ∈ scope.names, y.2 = .free → y.1 ∈ ns
/-- the names that the block reads, and their places in the def -/
inductive Caps (X : Cx) (scope : Scope) : List Str → List Nat → Prop
  | nil : Caps X scope [] []
  | cons {x : Str} {i : Nat} {ns : List Str} {is : List Nat} : X.N[i]? = some x → scope.names.lookup x = some .free → (X.env.kindOf x = some .cell ∨ X.env.kindOf x = some .free) → Caps X scope ns is → Caps X scope (x :: ns) (i :: is)
theorem Caps.mem {X : Cx} {scope : Scope} {ns : List Str} {is : List Nat} {x : Str} (c : Caps X scope ns is) (h : x ∈ ns) : X.env.kindOf x = some .cell ∨ X.env.kindOf x = some .free := by
  induction c with
  | nil => exact nomatch h
  | cons _ _ k _ ih =>
    rcases List.mem_cons.mp h with e | e
    · subst e; exact k
    · exact ih e
theorem Caps.len {X : Cx} {scope : Scope} {ns : List Str} {is : List Nat} (c : Caps X scope ns is) : is.length = ns.length := by
  induction c with
  | nil => rfl
  | cons _ _ _ _ ih => simp [ih]
theorem Caps.at_ {X : Cx} {scope : Scope} {ns : List Str} {is : List Nat} (c : Caps X scope ns is) {j : Nat} {x : Str} (h : ns[j]? = some x) :
    ∃ i, is[j]? = some i ∧ X.N[i]? = some x ∧ scope.names.lookup x = some .free ∧ (X.env.kindOf x = some .cell ∨ X.env.kindOf x = some .free) := by
  induction c generalizing j with
  | nil => simp at h
  | cons a b k _ ih =>
    cases j with
    | zero => simp at h; subst h; exact ⟨_, rfl, a, b, k⟩
    | succ j => exact ih (by simpa using h)
/-- the block's names at its start -/
def getJ (σ : St) (i : Nat) : Option V := (σ[i]?).join
def initC (k : Nat) (caps : List Nat) (σ : St) : St := List.replicate k none ++ caps.map fun i => getJ σ i
section
variable {X : Cx} {pins : List (Addr × Obj)} {σ : St} {H : Hp} {s s4 : Shared}
theorem comp_start {own ns : List Str} {caps : List Nat} {scope : Scope} {C : Addr} {fp : List Addr} (I : Inv X pins σ H s) (S : CScope scope ns) (cp : Caps X scope ns caps) (hf : ∀ b ∈ fp, FpOk X pins H b)
    (hfl : ∀ b ∈ fp, b < s.heap.objs.size) (hC : s.heap.objs.size ≤ C) (os : s4.os = s.os) (gens : s4.gens = s.gens) (k : ∀ b o, s.heap.get? b = some o → s4.heap.get? b = some o) {m : Str → Option Value} (hn : s4.heap.Ns C m) :
    Inv (cxC X (own ++ ns) scope C s H fp (X.pn ++ pins)) [] (initC own.length caps σ) H s4 := by
  have cells : ∀ x c, (clOf X.env scope.names []).lookup x = some c → X.env.cells.lookup x = some c := fun x c e => by
    rcases clOf_lookup (fun y hy hfr => I.ok.has y.1 (cp.mem (S.frees y hy hfr))) e with z | z
    · simp at z
    · exact z
  have neL : C ≠ X.env.locals := Nat.ne_of_gt (Nat.lt_of_lt_of_le I.lt hC)
  have inFs : ∀ b, b ∈ frs X.stack → b = X.env.locals ∨ b ∈ X.fs := fun b hb => List.mem_cons.mp (I.stkSub b hb)
  have nst : ∀ b, b ≠ X.env.locals → b ∉ X.fs → b ∉ frs X.stack := fun b h1 h2 z => (inFs b z).elim h1 h2
  have cle : ∀ x c, X.env.cells.lookup x = some c → c < s.heap.objs.size := fun x c e => by obtain ⟨v, q⟩ := I.cell x c e; exact q.lt
  refine ⟨⟨I.ok.mod, S.kind, I.ok.glob, I.ok.blt, hC, fun x y c h1 h2 => I.ok.inj x y c (cells _ _ h1) (cells _ _ h2), fun x hx => ?_, (fun x c h => nomatch h), I.ok.hd, I.ok.frames, .inl rfl, fun b hb => ⟨fun z => ?_, fun x c e => (hf b hb).2.2.2.2.1 x c (cells _ _ e)⟩,
      I.bs, Nat.le_trans I.ok.bsz I.sz, fun b o e hb => ?_, fun b hb => nst b (hf b hb).2.1 (hf b hb).2.2.1, I.stack, I.stkFree⟩,
    os, by rw [gens]; exact I.bare, Un.kept k, ⟨m, hn, fun i x v e1 e2 e3 => ?_⟩, fun x c e => ?_, ?_, fun x c e => I.freeC x c (cells _ _ e), fun p hp => ?_, I.hok.kept k, ?_⟩
  · have hx' : (relabel scope X.env).names.lookup x = some .cell ∨ (relabel scope X.env).names.lookup x = some .free := hx
    have hfree : scope.names.lookup x = some .free := by
      rcases hx' with z | z
      · rcases relabel_some z with q | q
        · exact absurd rfl (S.nocell _ (PySem.mem_of_lookup q))
        · exact q.2
      · rcases relabel_some z with q | q
        · exact q
        · exact absurd q.1 (by decide)
    exact clOf_has (PySem.mem_of_lookup hfree)
  · exact absurd (Nat.lt_of_lt_of_le (hfl b hb) hC) (by rw [show b = C from z]; exact Nat.lt_irrefl _)
  · obtain ⟨f0, f1, f2, f3, f4, f5⟩ := hf b hb
    rcases f3 with z | z
    · exact I.ok.noex b o e z
    · exact absurd (Nat.lt_of_lt_of_le (Heap.lt_size e) (Nat.le_trans I.ok.bsz z)) (Nat.lt_irrefl _)
  · have e2' : (List.replicate own.length none ++ caps.map fun i => getJ σ i)[i]? = some (some v) := e2
    have e1' : (own ++ ns)[i]? = some x := e1
    by_cases hi : i < own.length
    · rw [List.getElem?_append_left (by simpa using hi), List.getElem?_replicate, if_pos hi] at e2'
      cases e2'
    · rw [List.getElem?_append_right (by simpa using hi), List.length_replicate, List.getElem?_map] at e2'
      rw [List.getElem?_append_right (by omega)] at e1'
      obtain ⟨i', h1, h2, h3, h4⟩ := cp.at_ e1'
      rw [h1] at e2'
      have e4 : (σ[i']?).join = some v := Option.some.inj e2'
      have e5 : σ[i']? = some (some v) := by
        cases q : σ[i']? with
        | none => rw [q] at e4; cases e4
        | some w' => rw [q] at e4; rw [show w' = some v from e4]
      obtain ⟨m', hn', hl'⟩ := I.loc
      have vis : Vis X.env.scope x := h4.elim (fun z => .inr (.inl z)) fun z => .inr (.inr z)
      obtain ⟨u, r, l⟩ := hl' i' x v h2 e5 vis
      refine ⟨u, r, .inr ⟨relabel_free h3, ?_⟩⟩
      obtain ⟨c, hc⟩ := clOf_has (env := X.env) (acc := []) (PySem.mem_of_lookup h3)
      rcases l with ⟨z, _⟩ | ⟨_, c', e6, z⟩
      · rcases h4 with y | y <;> · rw [y] at z; cases z
      · have := cells _ _ hc
        rw [e6] at this
        cases this
        obtain ⟨o, ho, hd⟩ := z
        exact ⟨_, hc, o, k _ _ ho, hd⟩
  · obtain ⟨v, o, ho, hd⟩ := I.cell x c (cells _ _ e)
    exact ⟨v, o, k _ _ ho, hd⟩
  · exact I.hok.fresh hC
  · have hp' : p ∈ X.pn ++ pins := by simpa [cxC] using hp
    obtain ⟨a1, a2, a3, a4, a5⟩ := I.pin p hp'
    exact ⟨k _ _ a1, a2, Nat.ne_of_lt (Nat.lt_of_lt_of_le (Heap.lt_size a1) hC), nst _ a3 a4, a5⟩
  · show (initC own.length caps σ).length = (own ++ ns).length
    simp [initC, cp.len]
end
/-! ### the tests -/
def PF (X : Cx) (ifs : List Expr) (t : TT) : Prop :=
  ∀ (pins : List (Addr × Obj)) (s : Shared) (σ : St) (H : Hp) (Q : Bool → Hp → Prop), Inv X pins σ H s → t σ H Q →
    wpAny (model X.prog X.w) X.A (forIn ifs true fun c r => if r = true then do let ok ← isTrue c X.env (eval c X.env); pure (ForInStep.yield ok) else pure (ForInStep.yield r)) (TP X pins σ Q) X.xe s
def tNoIf : TT := fun _ H q => q true H
theorem pf_one {X : Cx} {c : Expr} {t : TT} (h : PT X c t) : PF X [c] t := by
  intro pins s σ H Q I hq
  rw [List.forIn_cons]
  simp only [if_true, bind_assoc, pure_bind]
  refine wpAny_bind (thn (h pins s σ H Q I hq) fun b s1 q => ?_)
  exact wpAny_pure q
/-! ### the block run -/
def CompJ (J : It) (g : TG) (tf : TT) (te : TE) (Q : VK) (σ : St) (H1 : Hp) : Prop := ∃ W : Nat → Nat → List V → St → Hp → Prop, (∃ m, W 0 m [] σ H1) ∧ ∀ i m ys σ H, W i m ys σ H →
  (J.stop i H ∧ ys.length ≤ sizeLine ∧ ∀ p, H p = none → Q (.ref p) (upd H p (.lst ys))) ∨
  (J.go i H ∧ ys.length < sizeLine ∧ ∀ x H', J.yld i H x H' → g x σ H' fun σ2 H2 => tf σ2 H2 fun b H3 =>
    if b = true then te σ2 H3 fun y H4 => ∃ m', m' < m ∧ W (i + 1) m' (ys ++ [y]) σ2 H4 else ∃ m', m' < m ∧ W (i + 1) m' ys σ2 H3)
section
variable {X : Cx} {pins : List (Addr × Obj)} {σ : St} {H : Hp} {s : Shared}
theorem comp_turn_one {prog : Program} {w : World} {A : Around} {R : Result → Shared → Prop} {s : Shared} {elt target iter : Expr} {ifs : List Expr} {scope : Scope} {pos : Pos} {it acc : Value} {env : Env} (I : Nat → Shared → Prop)
    (turn : ∀ n s, I n s → wpAny (model prog w) A (pyNext it) (fun r s₁ => match r with
      | none => R (.ok .next) s₁
      | some v => wpAny (model prog w) A (letOwnedTupleGo target it v) (fun _ s₁ => wpAny (model prog w) A (assign target env v) (fun _ s₂ =>
          wpAny (model prog w) A (forIn ifs true fun c r => if r = true then do let ok ← isTrue c env (eval c env); pure (ForInStep.yield ok) else pure (ForInStep.yield r)) (fun ok s₃ =>
            if ok = true then wpAny (model prog w) A (eval elt env) (fun x s₄ =>
              wpAny (model prog w) A (call (.builtin "list.append") [acc, x]) (fun _ s₅ => ∃ m, m < n ∧ I m s₅) (notedBy (model prog w) A env fun e s' => R (.error e) s') s₄) (notedBy (model prog w) A env fun e s' => R (.error e) s') s₃
            else ∃ m, m < n ∧ I m s₃) (notedBy (model prog w) A env fun e s' => R (.error e) s') s₂) (notedBy (model prog w) A env fun e s' => R (.error e) s') s₁) (notedBy (model prog w) A env fun e s' => R (.error e) s') s₁) (notedBy (model prog w) A env fun e s' => R (.error e) s') s)
    (n : Nat) (h : I n s) : codeAny (model prog w) A (.compLoop (.ListComp elt [⟨target, iter, ifs, 0⟩] scope pos) 0 it acc env) R s := by
  refine codeAny_loop rfl I (fun n s hI => ?_) n h
  show wpAny _ A ((compTurn (.ListComp elt [⟨target, iter, ifs, 0⟩] scope pos) 0 it acc env).onRaise (fun x => do noteFrame x env; theTreesLotGoes x)) _ _ s
  refine wpAny_noted ?_
  rw [compTurn_list]
  refine wpAny_bind (wpAny_standAt (wpAny_bind (wpAny_mono (turn n s hI) (fun r s₁ h₁ => ?_) fun _ _ h' => h')))
  cases r with
  | none => exact wpAny_pure h₁
  | some v =>
    refine wpAny_bind (wpAny_mono h₁ (fun _ s₁ h₁ => ?_) fun _ _ h' => h')
    refine wpAny_bind (wpAny_mono h₁ (fun _ s₂ h₂ => wpAny_bind (wpAny_mono h₂ (fun ok s₃ h₃ => ?_) fun _ _ h' => h')) fun _ _ h' => h')
    cases ok with
    | false => exact wpAny_pure ⟨rfl, h₃⟩
    | true =>
      exact wpAny_bind (wpAny_bind (wpAny_mono h₃ (fun x s₄ h₄ => wpAny_bind (wpAny_mono h₄ (fun _ s₅ h₅ => wpAny_pure (wpAny_pure ⟨rfl, h₅⟩)) fun _ _ h' => h')) fun _ _ h' => h'))

theorem comp_run {own ns : List Str} {caps : List Nat} {elt tg iter : Expr} {ifs : List Expr} {scope : Scope} {pos : Pos} {it : Addr} {fp : List Addr} {tn : Nat → Heap → Prop} {J : It} {g : TG} {tf : TT} {te : TE} {Q : VK} {E : Value → Shared → Prop} {RR : Value → Addr → Result → Shared → Prop}
    (hc : X.calm = true) (S : CScope scope ns) (cp : Caps X scope ns caps)
    (hg : ∀ C s H fp pn, PG (cxC X (own ++ ns) scope C s H fp pn) tg g) (ht : ∀ C s H fp pn, PF (cxC X (own ++ ns) scope C s H fp pn) ifs tf) (he : ∀ C s H fp pn, PE (cxC X (own ++ ns) scope C s H fp pn) elt te)
    (I : Inv X pins σ H s) (T : Turn X.prog X.w X.K tg J fp it tn) (st : tn 0 s.heap) (hf : ∀ b ∈ fp, FpOk X pins H b) (hJ : CompJ J g tf te Q (initC own.length caps σ) H)
    (fin : ∀ D C m s' H' ys, D ≠ C → s'.heap.Ns C m → FpOk X pins (upd H' D (.lst ys)) C → Inv X pins σ (upd H' D (.lst ys)) s' → Q (.ref D) (upd H' D (.lst ys)) → RR (.ref D) C (.ok .next) s') :
    wpAny (model X.prog X.w) X.A (newList []) (fun acc s₃ => wpAny (model X.prog X.w) X.A (newFunctionEnv scope X.env.globals (clOf X.env scope.names []) [] X.env.qual none .none (some X.env)) (fun cenv s₄ =>
      codeAny (model X.prog X.w) X.A (.compStart (.ListComp elt [⟨tg, iter, ifs, 0⟩] scope pos) 0 (.ref it) acc { cenv with scope := relabel scope X.env }) (RR acc cenv.locals) s₄) E s₃) E s := by
  refine wpAny_newObj_type (wpAny_newFunctionEnv S.nocell (by intro y hy; simp at hy) (fun h₁ hns₁ hsb₁ => ?_) S.kind)
  dsimp only at hns₁ hsb₁ ⊢
  generalize hH2 : s.heap.push { cls := .type "list", dict := none, data := .seq ([] : List Value).toArray } = H2 at hns₁ hsb₁ ⊢
  have hC : H2.objs.size = s.heap.objs.size + 1 := by rw [← hH2, Heap.size_push]
  have hDC : s.heap.objs.size ≠ H2.objs.size := by rw [hC]; exact Nat.ne_of_lt (Nat.lt_succ_self _)
  have hCle : s.heap.objs.size ≤ H2.objs.size := by rw [hC]; exact Nat.le_succ _
  have old : ∀ b o, s.heap.get? b = some o → h₁.get? b = some o := fun b o e => hsb₁.extBut b o (by rw [hC]; exact Nat.ne_of_lt (Nat.lt_succ_of_lt (Heap.lt_size e))) (Heap.get?_push_of_some _ (hH2 ▸ Heap.get?_push_of_some _ e))
  have hacc : h₁.PlainList s.heap.objs.size #[] := ⟨_, hsb₁.extBut _ _ hDC (Heap.get?_push_of_some _ (hH2 ▸ Heap.get?_push_size _ rfl))⟩
  have hfl : ∀ b ∈ fp, b < s.heap.objs.size := fun b hb => by obtain ⟨o, e, _⟩ := T.obj _ _ st b hb; exact Heap.lt_size e
  generalize hD : s.heap.objs.size = D at hDC hacc ⊢
  generalize hCe : H2.objs.size = C at hns₁ hsb₁ hDC hCle hC ⊢
  have hDle : s.heap.objs.size ≤ D := by rw [hD]; exact Nat.le_refl _
  have hCle' : s.heap.objs.size ≤ C := by rw [hD]; rw [hD] at hCle; exact hCle
  have I₁ : Inv (cxC X (own ++ ns) scope C s H fp (X.pn ++ pins)) [] (initC own.length caps σ) H { s with heap := h₁, toks := s.toks + ([] : List (Str × Value)).length } :=
    comp_start I S cp hf hfl hCle' rfl rfl old hns₁
  have st₁ : tn 0 h₁ := T.keep _ _ _ st fun b _ o e => old b o e
  generalize hY : cxC X (own ++ ns) scope C s H fp (X.pn ++ pins) = Y at I₁
  have hgY : PG Y tg g := hY ▸ hg C s H fp (X.pn ++ pins)
  have htY : PF Y ifs tf := hY ▸ ht C s H fp (X.pn ++ pins)
  have heY : PE Y elt te := hY ▸ he C s H fp (X.pn ++ pins)
  have yP : Y.prog = X.prog := by rw [← hY]; rfl
  have yW : Y.w = X.w := by rw [← hY]; rfl
  have yK : Y.K = X.K := by rw [← hY]; rfl
  have yA : Y.A = X.A := by rw [← hY]; rfl
  have yC : Y.calm = true := by rw [← hY]; exact hc
  have yE : Y.env = compEnvC scope (clOf X.env scope.names []) C X.env := by rw [← hY]; rfl
  have yX : Y.xe = fun _ _ => False := by rw [← hY]; rfl
  have yF : Y.fs = frs X.stack := by rw [← hY]; rfl
  have yQ : Y.pn = X.pn ++ pins := by rw [← hY]; rfl
  have yI : Y.ex = fp := by rw [← hY]; rfl
  have yS : Y.s₀ = s := by rw [← hY]; rfl
  have yH : Y.H₀ = H := by rw [← hY]; rfl
  have cells : ∀ x c, Y.env.cells.lookup x = some c → X.env.cells.lookup x = some c := fun x c e => by
    rw [yE] at e
    rcases clOf_lookup (fun y hy hfr => I.ok.has y.1 (cp.mem (S.frees y hy hfr))) (show (clOf X.env scope.names []).lookup x = some c from e) with z | z
    · simp at z
    · exact z
  have nst : ∀ b, b ≠ X.env.locals → b ∉ X.fs → b ∉ Y.fs := fun b h1 h2 z => by
    rw [yF] at z
    exact (List.mem_cons.mp (I.stkSub b z)).elim h1 h2
  have fpY : ∀ {H' : Hp}, (∀ b ∈ fp, H' b = none) → ∀ b ∈ fp, FpOk Y [] H' b := fun {H'} hn b hb => by
    obtain ⟨f0, f1, f2, f3, f4, f5⟩ := hf b hb
    refine ⟨hn b hb, ?_, nst b f1 f2, .inl (by rw [yI]; exact hb), fun x c e => f4 x c (cells x c e), fun p hp => f5 p (by simpa [yQ] using hp)⟩
    rw [yE]
    exact Nat.ne_of_lt (Nat.lt_of_lt_of_le (hfl b hb) hCle')
  have fpD : ∀ {H' : Hp}, H' D = none → FpOk Y [] H' D := fun {H'} hn => by
    obtain ⟨f0, f1, f2, f3, f4, f5⟩ := I.fpOk (H' := H') hDle hn
    refine ⟨hn, by rw [yE]; exact hDC, nst D f1 f2, .inr (by rw [yS]; exact hDle), fun x c e => f4 x c (cells x c e), fun p hp => f5 p (by simpa [yQ] using hp)⟩
  have hDf : D ∉ fp := fun z => Nat.lt_irrefl _ (Nat.lt_of_lt_of_le (hfl D z) hDle)
  have objD : ∀ {h : Heap} {us : List Value}, h.PlainList D us.toArray → ∃ o, h.get? D = some o ∧ ∀ v, o.data ≠ .cell v := fun {h us} ⟨n, e⟩ => ⟨_, e, fun v z => by cases z⟩
  -- the pins of the list that grows
  have noErr : ∀ {α : Type} {t : Sem α} {Qt : α → Shared → Prop} {sx : Shared} {E' : Value → Shared → Prop}, wpAny (model Y.prog Y.w) Y.A t Qt Y.xe sx → wpAny (model X.prog X.w) X.A t Qt E' sx := fun {α t Qt sx E'} h => by
    rw [yP, yW, yA, yX] at h
    exact wpAny_mono h (fun _ _ q => q) fun _ _ f => f.elim
  obtain ⟨W, ⟨m0, w0⟩, turn⟩ := hJ
  have TY : Turn Y.prog Y.w Y.K tg J fp it tn := by rw [yP, yW, yK]; exact T
  have loop : ∀ s₃ : Shared, s₃ = { s with heap := h₁, toks := s.toks + ([] : List (Str × Value)).length } →
      codeAny (model X.prog X.w) X.A (.compLoop (.ListComp elt [⟨tg, iter, ifs, 0⟩] scope pos) 0 (.ref it) (.ref D) (compEnvC scope (clOf X.env scope.names []) C X.env)) (RR (.ref D) C) s₃ := by
    rintro s₃ rfl
    refine comp_turn_one (fun n s' => ∃ i ys us σ' H', Inv Y [] σ' H' s' ∧ tn i s'.heap ∧ (∀ b ∈ fp, H' b = none) ∧ H' D = none ∧ s'.heap.PlainList D us.toArray ∧ Vals ys us ∧ W i n ys σ' H') ?_ m0
      ⟨0, [], [], _, H, I₁, st₁, fun b hb => (hf b hb).1, I.hok.fresh hDle, hacc, .nil, w0⟩
    rintro n s3 ⟨i, ys, us, σ3, H3, I3, st3, fr3, hD3, pl3, v3, w3⟩
    have fD3 : ∀ b ∈ [D], FpOk Y [] H3 b := fun b hb => by
      have e : b = D := by simpa using hb
      subst e
      exact fpD hD3
    have I3' : Inv Y ([] ++ pinsAt [D] s3.heap) σ3 H3 s3 := I3.pinned fD3 fun b hb => by
      have e : b = D := by simpa using hb
      subst e
      exact objD pl3
    rw [List.nil_append] at I3'
    have fpY' : ∀ {H' : Hp}, (∀ b ∈ fp, H' b = none) → ∀ b ∈ fp, FpOk Y (pinsAt [D] s3.heap) H' b := fun {H'} hn b hb => by
      obtain ⟨f0, f1, f2, f3, f4, f5⟩ := fpY hn b hb
      refine ⟨f0, f1, f2, f3, f4, fun p hp => ?_⟩
      rcases List.mem_append.mp hp with z | z
      · exact f5 p (by simpa using z)
      · have e : p.1 = D := by simpa using (of_pinsAt z).1
        exact fun q => hDf (by rw [← e, q]; exact hb)
    obtain ⟨oD, eD, cD⟩ := objD pl3
    have keepD : ∀ {σ' : St} {H' : Hp} {s' : Shared} {pl : List (Addr × Obj)}, Inv Y (pinsAt [D] s3.heap ++ pl) σ' H' s' → s'.heap.PlainList D us.toArray ∧ H' D = none := fun {σ' H' s' pl} I' => by
      have := I'.pin (D, oD) (List.mem_append_right _ (List.mem_append_left _ (mem_pinsAt (by simp) eD)))
      refine ⟨?_, this.2.1⟩
      obtain ⟨k, e⟩ := pl3
      rw [e] at eD
      cases eD
      exact ⟨k, this.1⟩
    rcases turn i n ys σ3 H3 w3 with ⟨stop, hlen, qn⟩ | ⟨go, hlen, step⟩
    · refine noErr (thn (TY.done Y rfl rfl rfl yC i _ s3 σ3 H3 Y.xe I3' (fpY' fr3) st3 stop) fun r s4 ⟨hr, I4⟩ => ?_)
      subst hr
      obtain ⟨pl4, hD4⟩ := keepD (pl := []) (by rw [List.append_nil]; exact I4)
      have hun : Un (frs X.stack) fp H H3 s.heap s4.heap := by have := I4.base; rw [yF, yI, yS, yH] at this; exact this
      have hok : HOk X.prog X.w H3 s4.heap := by have := I4.hok; rw [yP, yW] at this; exact this
      obtain ⟨m4, hn4, _⟩ := I4.loc
      rw [yE] at hn4
      have hC4 : H3 C = none := by have := I4.free; rw [yE] at this; exact this
      have ne : ∀ b u, H3 b = some u → b ≠ D := fun b u e z => by rw [z, hD4] at e; cases e
      refine fin D C m4 s4 H3 ys hDC hn4 (I.fpOk hCle' (by rw [upd_ne (Ne.symm hDC)]; exact hC4)) (I.call' (ch := fp) ?_ ?_ ?_ I4.bare ?_) (qn D hD4)
      · have := I4.os; rw [yS] at this; exact this
      · exact ⟨hun.keep, hun.slot, fun b o e n hx => by rw [upd_ne (fun z => by rw [z] at e; exact absurd (Heap.lt_size e) (Nat.not_lt.mpr hDle))]; exact hun.free b o e n hx, hun.there,
          fun b xs e => by have := hun.tups b xs e; rw [upd_ne (ne _ _ this)]; exact this, fun b o u e => by have := hun.frzs b o u e; rw [upd_ne (ne _ _ this)]; exact this,
          fun b ps e => by obtain ⟨more, q⟩ := hun.tbls b ps e; exact ⟨more, by rw [upd_ne (ne _ _ q)]; exact q⟩⟩
      · intro b u e
        by_cases hb : b = D
        · subst hb
          rw [upd_same] at e
          cases e
          obtain ⟨k, e4⟩ := pl4
          exact ⟨hlen, us, k, v3, e4⟩
        · rw [upd_ne hb] at e
          exact (hok b u e).stay (fun c v _ q => q) (fun c q => by rw [upd_ne (ne _ _ q)]; exact q) fun c xs q => by rw [upd_ne (ne _ _ q)]; exact q
      · intro b hb
        obtain ⟨f0, f1, f2, f3, f4, f5⟩ := hf b hb
        exact ⟨f3, f1, f4, f5⟩
    · refine noErr (thn (TY.item Y rfl rfl rfl yC i _ s3 σ3 H3 Y.xe I3' (fpY' fr3) st3 go) fun r s4 ⟨u, hr, h4⟩ => ?_)
      subst hr
      refine noErr (thn h4 fun _ s5 ⟨x, H5, I5, r5, y5, st5, fr5⟩ => ?_)
      have I5' := I5.pinned (fpY' fr5) (T.obj _ _ st5)
      rw [← yE]
      refine noErr (thn (hgY _ s5 σ3 H5 x u _ I5' r5 (step x H5 y5)) fun _ s6 ⟨σ6, H6, I6, q6⟩ => ?_)
      refine noErr (thn (htY _ s6 σ6 H6 _ I6 q6) fun ok s7 ⟨H7, I7, q7⟩ => ?_)
      have fpK : ∀ {σ' : St} {H' : Hp} {s' : Shared}, Inv Y (pinsAt [D] s3.heap ++ pinsAt fp s5.heap) σ' H' s' → tn (i + 1) s'.heap ∧ ∀ b ∈ fp, H' b = none := fun {σ' H' s'} I' =>
        ⟨T.keep _ _ _ st5 fun b hb o e => (I'.pin (b, o) (List.mem_append_right _ (List.mem_append_right _ (mem_pinsAt hb e)))).1, fun b hb => by
          obtain ⟨o, e, _⟩ := T.obj _ _ st5 b hb
          exact (I'.pin (b, o) (List.mem_append_right _ (List.mem_append_right _ (mem_pinsAt hb e)))).2.1⟩
      cases ok with
      | false =>
        rw [if_neg Bool.false_ne_true] at q7 ⊢
        obtain ⟨m', hm, w7⟩ := q7
        obtain ⟨pl7, hD7⟩ := keepD I7
        obtain ⟨st7, fr7⟩ := fpK I7
        exact ⟨m', hm, i + 1, ys, us, σ6, H7, I7.pins_of (fun p hp => nomatch hp), st7, fr7, hD7, pl7, v3, w7⟩
      | true =>
        rw [if_pos rfl] at q7 ⊢
        refine noErr (thn (heY _ s7 σ6 H7 _ I7 q7) fun y s8 ⟨yv, H8, I8, r8, m', hm, w8⟩ => ?_)
        obtain ⟨pl8, hD8⟩ := keepD I8
        obtain ⟨st8, fr8⟩ := fpK I8
        have hul : us.length = ys.length := v3.length.symm
        refine wpAny_list_append_plain (hsz := by rw [List.size_toArray, hul]; exact Nat.le_of_lt hlen) pl8 fun h9 pl9 sb9 => ?_
        obtain ⟨d0, d1, d2, d3, d4, d5⟩ := fpD hD8
        refine ⟨m', hm, i + 1, ys ++ [yv], us ++ [y], σ6, H8, ?_, ?_, fr8, hD8, by simpa using pl9, v3.append (.cons r8 .nil), w8⟩
        · exact (I8.pins_of (pins' := []) fun p hp => nomatch hp).turned (t' := s8.toks) (fun b o hb e => (sb9.2 b hb).trans e) hD8 d1 d3 d4 d5
        · exact T.keep _ _ _ st8 fun b hb o e => (sb9.2 b (fun z => hDf (z ▸ hb))).trans e
  exact codeAny_compStart_list (loop _ rfl) (T.self _ 0 _ _ _ st₁ (loop _ rfl))
/-- [e for t in it if c] as a value -/
def tComp (k : Nat) (caps : List Nat) (wi : TI) (g : TG) (tf : TT) (te : TE) : TE := fun σ H Q => wi σ H fun J H1 => CompJ J g tf te Q (initC k caps σ) H1
theorem Caps.cl {scope : Scope} {ns : List Str} {caps : List Nat} (I : Inv X pins σ H s) (S : CScope scope ns) (cp : Caps X scope ns caps) : closureFor scope X.env = pure (clOf X.env scope.names []) :=
  closureFor_cl fun y hy hfr => I.ok.has y.1 (cp.mem (S.frees y hy hfr))
/-- x = [e for t in it if c], stored ahead of the block's end -/
theorem ps_setC {i : Nat} {x : Str} {own ns : List Str} {caps : List Nat} {elt tg iter : Expr} {ifs : List Expr} {scope : Scope} {pos pos' spos : Pos} {wi : TI} {g : TG} {tf : TT} {te : TE} (hN : X.N.Nodup) (hi : X.N[i]? = some x) (hx : Loc X.env.scope x) (hc : X.calm = true) (S : CScope scope ns) (cp : Caps X scope ns caps) (hit : PI X tg iter wi)
    (hg : ∀ C s H fp pn, PG (cxC X (own ++ ns) scope C s H fp pn) tg g) (ht : ∀ C s H fp pn, PF (cxC X (own ++ ns) scope C s H fp pn) ifs tf) (he : ∀ C s H fp pn, PE (cxC X (own ++ ns) scope C s H fp pn) elt te)
    (hs : ∀ x, foldedSetIterable iter X.env x = pure x := by intro _; rfl) (hsw : swapsWith (.ListComp elt [⟨tg, iter, ifs, 0⟩] scope pos) (some (.Name x pos')) spos.line X.env = pure true := by rfl)
    (hf : X.fn x = true ∨ X.env.scope.names.lookup x = some .local := by first | exact .inl rfl | exact .inr rfl | assumption) :
    PS X (.Assign [.Name x pos'] (.ListComp elt [⟨tg, iter, ifs, 0⟩] scope pos) spos) (tAsg (tComp own.length caps wi g tf te) (gName i)) := by
  intro pins s σ H D I h
  rw [exec_Assign_Name_used _ _ _ _ hsw]
  refine wpAny_bind (wpAny_standAt (wpAny_bind ?_))
  show wpAny _ X.A (do let _ ← comprehension (.ListComp elt [⟨tg, iter, ifs, 0⟩] scope pos) scope X.env _ (newList []) false (eval iter X.env) (some (assign (.Name x pos') X.env))) _ _ s
  refine wpAny_bind (wpAny_mono (wpAny_comprehension_free (use := some (assign (.Name x pos') X.env)) (Q := fun _ s' => SP X pins D .next s') rfl hs (cp.cl I S) S.kind S.names
    (thn (hit pins s σ H _ I h) fun v s1 h1 => thn h1 fun itv s2 h2 => ?_)) (fun _ s' hq => wpAny_pure (wpAny_pure hq)) fun _ _ e => e)
  obtain ⟨it, fp, tn, J, H2, e, I2, T, st2, f2, hJ⟩ := h2
  subst e
  refine comp_run hc S cp hg ht he I2 T st2 f2 hJ (RR := fun acc C => compPost (model X.prog X.w) X.A X.xe (some (assign (.Name x pos') X.env)) (fun _ s' => SP X pins D .next s') acc C) fun L C m s' H' ys hDC hn fC I' q => ?_
  show wpAny _ X.A (assign (.Name x pos') X.env (.ref L)) _ _ _
  refine wpAny_assign_Name (store_ok2 I' hN hi hx (v := .ref L) (u := .ref L) rfl (fun s'' I'' ⟨a, sb, ha⟩ => ?_) hf)
  obtain ⟨f0, f1, f2, f3, f4, f5⟩ := fC
  have hCa : C ≠ a := by
    rcases ha with z | z
    · rw [z]; exact f1
    · exact fun y => f4 _ _ z y.symm
  exact ⟨m, hn.sameBut sb hCa, fun h' hs' => ⟨_, _, I''.turned (t' := s''.toks) (fun b o hb e => (hs'.2 b hb).trans e) f0 f1 f3 f4 f5, q⟩⟩
theorem w_compL {k : Nat} {caps : List Nat} {K : PySem.W.Frag} {tl : TE} {g : TG} {tf : TT} {te : TE} {Q : VK} : tComp k caps (iList K tl) g tf te σ H Q = tl σ H fun x H1 => ∃ a, x = .ref a ∧ (∃ xs, SqL K H1 a xs) ∧ CompJ (Itl K a) g tf te Q (initC k caps σ) H1 := rfl
theorem w_compT {k : Nat} {caps : List Nat} {K : PySem.W.Frag} {tl : TE} {g : TG} {tf : TT} {te : TE} {Q : VK} : tComp k caps (iTup K tl) g tf te σ H Q = tl σ H fun x H1 => ∃ a, x = .ref a ∧ (∃ xs, SqT K H1 a xs) ∧ CompJ (Itt K a) g tf te Q (initC k caps σ) H1 := rfl
theorem w_comp1 {k : Nat} {caps : List Nat} {ta : TA} {g : TG} {tf : TT} {te : TE} {Q : VK} : tComp k caps (iRng1 ta) g tf te σ H Q = ta σ H fun vs H1 => ∃ j : Int, vs = [.int j] ∧ -(2 ^ 62) ≤ j ∧ j < 2 ^ 62 ∧ CompJ (Itr 0 j.toNat) g tf te Q (initC k caps σ) H1 := rfl
theorem w_comp2 {k : Nat} {caps : List Nat} {ta : TA} {g : TG} {tf : TT} {te : TE} {Q : VK} : tComp k caps (iRng2 ta) g tf te σ H Q = ta σ H fun vs H1 => ∃ i j : Int, vs = [.int i, .int j] ∧ (-(2 ^ 62) ≤ i ∧ i < 2 ^ 62 ∧ -(2 ^ 62) ≤ j ∧ j < 2 ^ 62) ∧ CompJ (Itr i (j - i).toNat) g tf te Q (initC k caps σ) H1 := rfl
theorem w_init0 {x : Str} {l : List Str} {caps : List Nat} : initC (x :: l).length caps σ = none :: initC l.length caps σ := rfl
theorem w_initS {i : Nat} {is : List Nat} : initC ([] : List Str).length (i :: is) σ = getJ σ i :: initC ([] : List Str).length is σ := rfl
theorem w_initN : initC ([] : List Str).length [] σ = [] := rfl
theorem w_get0 {x : Option V} : getJ (x :: σ) 0 = x := rfl
theorem w_getS {x : Option V} {i : Nat} : getJ (x :: σ) (i + 1) = getJ σ i := rfl
theorem w_noif {q : Bool → Hp → Prop} : tNoIf σ H q = q true H := rfl
end

/-! ### the forms one uses -/
section
variable {K : PySem.W.Frag} {a : Addr} {xs : List V} {g : TG} {tf : TT} {te : TE} {Q : VK} {σ : St} {H : Hp}
theorem comp_by {J : It} (n : Nat) (hsz : n ≤ sizeLine) (Pv : Nat → List V → St → Hp → Prop) (h0 : Pv 0 [] σ H) (hlen : ∀ i ys σ H, Pv i ys σ H → ys.length ≤ i) (hgo : ∀ i ys σ H, i < n → Pv i ys σ H → J.go i H) (hstop : ∀ ys σ H, Pv n ys σ H → J.stop n H)
    (hs : ∀ i ys σ H x H' (N : List V → St → Hp → Prop), i < n → Pv i ys σ H → J.yld i H x H' → (∀ ys σ H, Pv (i + 1) ys σ H → N ys σ H) → g x σ H' fun σ2 H2 => tf σ2 H2 fun b H3 => if b = true then te σ2 H3 fun y H4 => N (ys ++ [y]) σ2 H4 else N ys σ2 H3)
    (hd : ∀ ys σ H p, Pv n ys σ H → H p = none → Q (.ref p) (upd H p (.lst ys))) : CompJ J g tf te Q σ H := by
  refine ⟨fun i m ys σ H => m = n - i ∧ i ≤ n ∧ Pv i ys σ H, ⟨n, by simp, Nat.zero_le _, h0⟩, ?_⟩
  rintro i m ys σ H ⟨rfl, hi, p⟩
  have hy := hlen i ys σ H p
  by_cases hlt : i < n
  · refine .inr ⟨hgo i ys σ H hlt p, by omega, fun x H' y => ?_⟩
    exact hs i ys σ H x H' (fun ys σ H => ∃ m', m' < n - i ∧ m' = n - (i + 1) ∧ i + 1 ≤ n ∧ Pv (i + 1) ys σ H) hlt p y fun ys σ H z => ⟨n - (i + 1), by omega, rfl, hlt, z⟩
  · have e : i = n := by omega
    subst e
    exact .inl ⟨hstop ys σ H p, by omega, fun p' hp => hd ys σ H p' p hp⟩
/-- over a list that the block leaves as it is -/
theorem comp_list (Pv : Nat → List V → St → Hp → Prop) (h0 : Pv 0 [] σ H) (hl : ∀ i ys σ H, Pv i ys σ H → SqL K H a xs ∧ ys.length ≤ i) (hsz : xs.length ≤ sizeLine)
    (hs : ∀ i x ys σ H (N : List V → St → Hp → Prop), xs[i]? = some x → Pv i ys σ H → (∀ ys σ H, Pv (i + 1) ys σ H → N ys σ H) → g x σ H fun σ2 H2 => tf σ2 H2 fun b H3 => if b = true then te σ2 H3 fun y H4 => N (ys ++ [y]) σ2 H4 else N ys σ2 H3)
    (hd : ∀ ys σ H p, Pv xs.length ys σ H → H p = none → Q (.ref p) (upd H p (.lst ys))) : CompJ (Itl K a) g tf te Q σ H := by
  refine comp_by xs.length hsz Pv h0 (fun i ys σ H p => (hl i ys σ H p).2) (fun i ys σ H hi p => ⟨xs, xs[i], (hl i ys σ H p).1, by simp [hi]⟩) (fun ys σ H p => ⟨xs, (hl _ ys σ H p).1, Nat.le_refl _⟩) ?_ hd
  rintro i ys σ H x H' N hi p ⟨rfl, y⟩ hN
  exact hs i x ys σ H' N (y xs (hl i ys σ _ p).1) p hN
end
end L2

set_option Elab.async false
set_option linter.all false
set_option maxRecDepth 100000
set_option maxHeartbeats 4000000
/-! The rules with the module's frame said by itself (within a block). -/
namespace L2
open PySem PySem.Spec PyProof.Rows
theorem ifN {c : Prop} [Decidable c] {A B : Prop} (h : ¬ c) (b : B) : if c then A else B := by rw [if_neg h]; exact b
section
variable {X : Cx} {K : PySem.W.Frag}
theorem op_inD' (h : X.K = K) (hu : X.A.units + 64 < cLine) : OpR X (compareOp .In) (rInD K false) := h ▸ op_inD hu
end
end L2
namespace L2
open PySem PySem.Spec PyProof.Rows
/-! ### a tuple of texts of the file's top -/
def StrTup (o : Obj) (xs : List Str) : Prop := o.cls = .type "tuple" ∧ ∃ its n, o.data = .seq its n ∧ its.size ≤ sizeLine ∧ Vals (xs.map V.str) its.toList
def tGlobR (K : PySem.W.Frag) (xs : List V) : TE := fun _ H Q => ∀ a, (∀ H, SqT K H a xs) → Q (.ref a) H
/-! ### a word behind a statement -/
def tCut (t u : TS) : TS := fun D σ H => ∃ J : St → Hp → Prop, t { D with nx := J } σ H ∧ ∀ σ' H', J σ' H' → u D σ' H'
theorem pss_cut {X : Cx} {st : Stmt} {rest : List Stmt} {t u : TS} (h1 : PS X st t) (h2 : PSs X rest u) : PSs X (st :: rest) (tCut t u) := by
  intro pins s σ H D I h
  obtain ⟨J, h, hJ⟩ := h
  refine wpAny_execs_cons (thn (h1 pins s σ H { D with nx := J } I h) fun f s1 q => ?_)
  cases f with
  | next =>
    obtain ⟨σ', H', I', q⟩ := q
    exact h2 pins s1 σ' H' D I' (hJ _ _ q)
  | ret v => exact q
  | brk => exact q
  | cont => exact q
end L2
namespace L2
open PySem PySem.Spec PyProof.Rows
/-! ### arguments, by the head of each -/
section
variable {X : Cx} {es : List Expr} {te : TE} {t : TA}
theorem pa_BinOp {a0 : PySem.Expr} {a1 : PySem.Operator} {a2 : PySem.Expr} {a3 : PySem.Pos} (ha : PE X (Expr.BinOp a0 a1 a2 a3) te) (hr : PA X es t) : PA X ((Expr.BinOp a0 a1 a2 a3) :: es) (tCons te t) := pa_cons ha hr rfl
theorem pa_Compare {a0 : PySem.Expr} {a1 : List CmpOp} {a2 : List Expr} {a3 : PySem.Pos} (ha : PE X (Expr.Compare a0 a1 a2 a3) te) (hr : PA X es t) : PA X ((Expr.Compare a0 a1 a2 a3) :: es) (tCons te t) := pa_cons ha hr rfl
theorem pa_Call {a0 : PySem.Expr} {a1 : List Expr} {a2 : List Keyword} {a3 : PySem.Pos} (ha : PE X (Expr.Call a0 a1 a2 a3) te) (hr : PA X es t) : PA X ((Expr.Call a0 a1 a2 a3) :: es) (tCons te t) := pa_cons ha hr rfl
theorem pa_Constant {a0 : PySem.Const} {a1 : Nat} {a2 : PySem.Pos} (ha : PE X (Expr.Constant a0 a1 a2) te) (hr : PA X es t) : PA X ((Expr.Constant a0 a1 a2) :: es) (tCons te t) := pa_cons ha hr rfl
theorem pa_Subscript {a0 : PySem.Expr} {a1 : PySem.Expr} {a2 : PySem.Pos} (ha : PE X (Expr.Subscript a0 a1 a2) te) (hr : PA X es t) : PA X ((Expr.Subscript a0 a1 a2) :: es) (tCons te t) := pa_cons ha hr rfl
theorem pa_Name {a0 : PySem.Str} {a1 : PySem.Pos} (ha : PE X (Expr.Name a0 a1) te) (hr : PA X es t) : PA X ((Expr.Name a0 a1) :: es) (tCons te t) := pa_cons ha hr rfl
theorem pa_Tuple {a0 : List Expr} {a1 : Nat} {a2 : PySem.Pos} (ha : PE X (Expr.Tuple a0 a1 a2) te) (hr : PA X es t) : PA X ((Expr.Tuple a0 a1 a2) :: es) (tCons te t) := pa_cons ha hr rfl
end
end L2
namespace L2
open PySem PySem.Spec PyProof.Rows
theorem w_gSub {to ti : TE} {t : TSet} {v : V} {σ : St} {H : Hp} {q : St → Hp → Prop} : gSub to ti t v σ H q = to σ H fun o H1 => ti σ H1 fun i H2 => t o i v H2 fun H3 => q σ H3 := rfl
end L2
namespace L2
open PySem PySem.Spec PyProof.Rows
theorem cut_intro {t u : TS} {D : Ends} {σ : St} {H : Hp} (J : St → Hp → Prop) (h1 : t { nx := J, rt := D.rt, bk := D.bk, ct := D.ct } σ H) (h2 : ∀ σ' H', J σ' H' → u D σ' H') : tCut t u D σ H := ⟨J, h1, h2⟩
end L2

set_option Elab.async false
set_option linter.all false
set_option maxRecDepth 100000
set_option maxHeartbeats 4000000
/-! sorted(..) of ints in a list or a tuple; tuple(range(..)); insert. -/
namespace L2
open PySem PySem.W PySem.Spec PyProof.Rows Rm
section
variable {X : Cx}
def rSortQ (K : PySem.W.Frag) : List V → Hp → VK → Prop := fun xs H Q => ∃ (p : Addr) (ns : List Int), xs = [.ref p] ∧ (SqL K H p (ns.map V.int) ∨ SqT K H p (ns.map V.int)) ∧ ns.length < 64 ∧
  ∀ (l : Addr) (ms : List Int), H l = none → ms.Perm ns → ms.Pairwise (· ≤ ·) → Q (.ref l) (upd H l (.lst (ms.map V.int)))
end
/-! ### tuple(range(..)) -/
section
variable {X : Cx}
/-! ### insert -/
def rInsert : V → List V → Hp → VK → Prop := fun x vs H Q => ∃ (l : Addr) (xs : List V) (k : Nat) (y : V), x = .ref l ∧ vs = [.int k, y] ∧ H l = some (.lst xs) ∧ k ≤ xs.length ∧ xs.length ≤ 999 ∧ Q .non (upd H l (.lst (xs.take k ++ y :: xs.drop k)))
end
end L2

set_option Elab.async false
set_option linter.all false
set_option maxRecDepth 100000
set_option maxHeartbeats 4000000
/-! sorted(.., key=f) of a list, f a def of the text that tells an int of each item. -/
namespace Rm
open PySem PySem.W PyProof.Rows L2
section
variable {prog : Program} {w : World} {A : Around} {E : Value → Shared → Prop} {S : Shared}
end
section
variable {X : Cx} {pins : List (Addr × Obj)} {σ : L2.St} {H : Hp} {s : Shared}
end
end Rm
namespace L2
open PySem PySem.W PySem.Spec PyProof.Rows Rm
/-! ### sorted(e, key=f) -/
def tSortK (K : PySem.W.Frag) (sp : Sp) (te : TE) : TE := fun σ H Q => te σ H fun x H1 => ∃ (l : Addr) (xs : List V) (kz : List Int), x = .ref l ∧ SqL K H1 l xs ∧ xs.length < 64 ∧ kz.length = xs.length ∧
  (∀ (i : Nat) x k (Q' : VK), xs[i]? = some x → kz[i]? = some k → Q' (.int k) H1 → sp [x] H1 Q' E0) ∧
  ∀ (l' : Addr) (zs : List (Int × V)), H1 l' = none → zs.Perm (kz.zip xs) → zs.Pairwise (fun a b => a.1 ≤ b.1) → Q (.ref l') (upd H1 l' (.lst (zs.map (·.2))))
section
variable {X : Cx} {k : Nat} {x f : Str} {st : Stmt} {ps : List Str} {sp : Sp} {e : Expr} {te : TE} {p p2 kp pos : Pos}
end
end L2

set_option Elab.async false
set_option linter.all false
set_option maxRecDepth 100000
set_option maxHeartbeats 4000000
/-! max(ints, default=d). -/
namespace L2
open PySem PySem.Spec PyProof.Rows
def mxZ (z : Nat → Int) : Nat → Option Int
  | 0 => none
  | i + 1 => some (match mxZ z i with | none => z i | some m => if m < z i then z i else m)
def boA (b : Option Value) : Array Value := match b with | none => #[] | some v => #[v, v]
def boIs (b : Option Value) (m : Option Int) : Prop := match b, m with | none, none => True | some v, some i => ∃ t, v = .int i t | _, _ => False
section
variable {prog : Program} {w : World} {A : Around} {R : Result → Shared → Prop} {I : Addr} {fp wr : List Addr} {n : Nat} {P : Nat → Value → Prop} {St : Nat → Heap → Prop} {z : Nat → Int} {d : Value}
abbrev maxAgain (I S : Addr) (d : Value) : Code := .builtin "max.loop" ⟨[.ref I, .none, .ref S], [("default", d)]⟩
end
def mxS (m : Option Int) (x : Int) : Option Int := match m with | none => some x | some y => some (if y < x then x else y)
/-- the greatest of ints, d of none -/
def maxD (ns : List Int) (d : Int) : Int := (ns.foldl mxS none).getD d
def rMaxD (K : PySem.W.Frag) : V → V → Hp → VK → Prop := fun x y H Q => ∃ (p : Addr) (ns : List Int) (d : Int), x = .ref p ∧ y = .int d ∧ SqL K H p (ns.map V.int) ∧ Q (.int (maxD ns d)) H
section
variable {X : Cx}
theorem hu_1 {A : Around} {k : Nat} (hr : Room k A) : A.units + 1 < cLine := by have := hr.units; omega
end
end L2

set_option Elab.async false
set_option linter.all false
set_option maxRecDepth 100000
set_option maxHeartbeats 4000000
/-! [e for k in d if c], d a dict by tuples: it stands still while it is walked. -/
namespace L2
open PySem PySem.Spec PyProof.Rows
section
variable {prog : Program} {w : World} {A : Around} {E : Value → Shared → Prop} {s : Shared}
end
/-! ### the walk -/
def ItD (a : Addr) (o : Obj) (kvs : List (List Key × V)) : It :=
  ⟨fun i H => i < kvs.length ∧ H a = some (.frz o (.dT kvs)), fun i H x H' => H' = H ∧ ∃ k v b, kvs[i]? = some (k, v) ∧ x = .ref b ∧ H b = some (.tup (k.map kV)), fun i H => i = kvs.length ∧ H a = some (.frz o (.dT kvs))⟩
section
variable {X : Cx} {pins : List (Addr × Obj)} {σ : St} {H : Hp} {s : Shared} {a : Addr} {o : Obj} {kvs : List (List Key × V)}
/-! ### the rules -/
def tCompD (k : Nat) (caps : List Nat) (tl : TE) (g : TG) (tf : TT) (te : TE) : TE := fun σ H Q => tl σ H fun x H1 => ∃ (a : Addr) (kvs : List (List Key × V)), x = .ref a ∧ H1 a = some (.dT kvs) ∧
  ∀ o, CompJ (ItD a o kvs) g tf te (fun v H' => H' a = some (.frz o (.dT kvs)) ∧ Q v (upd H' a (.dT kvs))) (initC k caps σ) (upd H1 a (.frz o (.dT kvs)))
theorem w_dget {td ty : TE} {Q : VK} : tDGet td ty σ H Q = td σ H fun x H1 => ty σ H1 fun y H2 => ∃ a v, x = .ref a ∧ DGet H2 a y (some v) ∧ Q v H2 := rfl
end
end L2

set_option Elab.async false
set_option linter.all false
set_option maxRecDepth 100000
/-! The rules over judgements that are structures. -/
namespace L2
open PySem PySem.Spec PyProof.Rows
structure QE (X : Cx) (e : Expr) (t : TE) : Prop where
  h : PE X e t
structure QT (X : Cx) (e : Expr) (t : TT) : Prop where
  h : PT X e t
structure QA (X : Cx) (es : List Expr) (t : TA) : Prop where
  h : PA X es t
structure QS (X : Cx) (st : Stmt) (t : TS) : Prop where
  h : PS X st t
structure QSs (X : Cx) (sts : List Stmt) (t : TS) : Prop where
  h : PSs X sts t
structure QG (X : Cx) (e : Expr) (t : TG) : Prop where
  h : PG X e t
structure QGs (X : Cx) (es : List Expr) (t : TGs) : Prop where
  h : PGs X es t
structure QF (X : Cx) (es : List Expr) (t : TT) : Prop where
  h : PF X es t
structure QW (X : Cx) (e : Expr) (t : TT) : Prop where
  h : PW X e t
structure QO (X : Cx) (e : Option Expr) (t : TO) : Prop where
  h : PO X e t
structure QPPs (X : Cx) (pos : Pos) (keys : List (Option Expr)) (values : List Expr) (trs : List (TE × TE)) : Prop where
  h : PPs X pos keys values trs
structure QI (X : Cx) (tg iter : Expr) (t : TI) : Prop where
  h : PI X tg iter t
theorem QW.pt {X : Cx} {e : Expr} {t : TT} (h : QW X e t) : QT X e t := ⟨h.h.pt⟩
section
variable {X : Cx}
end
section
variable {X : Cx}
theorem qpe_int {i j pos} : QE X (.Constant (.int i) j pos) (tC (.int i)) := ⟨pe_int ⟩
end
section
variable {X : Cx}
theorem qpe_bl {b j pos} : QE X (.Constant (.bool b) j pos) (tC (.bl b)) := ⟨pe_bl ⟩
end
section
variable {X : Cx}
theorem qpe_non {j pos} : QE X (.Constant .none j pos) (tC .non) := ⟨pe_non ⟩
end
section
variable {X : Cx}
theorem qpe_str {x j pos} : QE X (.Constant (.str x) j pos) (tC (.str x)) := ⟨pe_str ⟩
end
section
variable {X : Cx}
end
section
variable {X : Cx}
theorem qpe_bltn {x : Str} {v : V} {u : Value} {pos : Pos} (hg : Gl X x) (hm : X.mg x = none) (hv : bootBuiltins x = some u) (r : RelV v u) (hn : x ≠ "__name__" := by decide) (hd : (x == ("__debug__" : Str)) = false := by decide) : QE X (.Name x pos) (tC v) := ⟨pe_bltn hg hm hv r hn hd⟩
end
section
variable {X : Cx} {a b : Expr} {ta tb : TE} {pos : Pos}
end
section
variable {X : Cx} {a b : Expr} {ta tb : TE} {pos : Pos}
end
section
variable {X : Cx} {a b : Expr} {ta tb : TE} {pos : Pos}
end
section
variable {X : Cx} {a b : Expr} {ta tb : TE} {pos : Pos}
end
section
variable {X : Cx} {a b : Expr} {ta tb : TE} {pos : Pos}
end
section
variable {X : Cx} {a b : Expr} {ta tb : TE} {pos : Pos}
theorem qpt_val {e : Expr} {t : TE} (h : QE X e t) (he : ∀ whole, isTrue e X.env whole = (do let v ← whole; standAt e.pos; holding [v] (truthy v)) := by intro _; rfl) : QT X e (tB t) := ⟨pt_val h.h he⟩
end
section
variable {X : Cx} {a b : Expr} {ta tb : TE} {pos : Pos} {tA tB' : TT} {rest : List Expr}
end
section
variable {X : Cx} {a b : Expr} {ta tb : TE} {pos : Pos} {tA tB' : TT} {rest : List Expr}
theorem qpw_or1 (ha : QT X a tA) : QW X (.BoolOp .Or [a] pos) tA := ⟨pw_or1 ha.h⟩
end
section
variable {X : Cx} {a b : Expr} {ta tb : TE} {pos : Pos} {tA tB' : TT} {rest : List Expr}
end
section
variable {X : Cx} {a b : Expr} {ta tb : TE} {pos : Pos} {tA tB' : TT} {rest : List Expr}
theorem qpw_or (ha : QT X a tA) (hb : QW X (.BoolOp .Or (b :: rest) pos) tB') : QW X (.BoolOp .Or (a :: b :: rest) pos) (tOr tA tB') := ⟨pw_or ha.h hb.h⟩
end
section
variable {X : Cx} {a b : Expr} {ta tb : TE} {pos : Pos} {tA tB' : TT} {rest : List Expr}
theorem qpt_not (ha : QT X a tA) : QT X (.UnaryOp .Not a pos) (tNot tA) := ⟨pt_not ha.h⟩
end
section
variable {X : Cx} {a b : Expr} {ta tb : TE} {pos : Pos} {tA tB' : TT} {rest : List Expr}
theorem qpe_one {op} {t : TE} (h : QE X a t) : QE X (.BoolOp op [a] pos) t := ⟨pe_one h.h⟩
end
section
variable {X : Cx} {a b : Expr} {ta tb : TE} {pos : Pos} {tA tB' : TT} {rest : List Expr}
theorem qpe_and (ha : QE X a ta) (hb : QE X (.BoolOp .And (b :: rest) pos) tb) : QE X (.BoolOp .And (a :: b :: rest) pos) (tAndV ta tb) := ⟨pe_and ha.h hb.h⟩
end
section
variable {X : Cx} {a b : Expr} {ta tb : TE} {pos : Pos} {tA tB' : TT} {rest : List Expr}
end
section
variable {X : Cx} {a b : Expr} {ta tb : TE} {pos : Pos} {tA tB' : TT} {rest : List Expr}
theorem qpe_not (ha : QE X a ta) : QE X (.UnaryOp .Not a pos) (tNotV ta) := ⟨pe_not ha.h⟩
end
section
variable {X : Cx} {a b : Expr} {ta tb : TE} {pos : Pos} {tA tB' : TT} {rest : List Expr}
theorem qpe_ifExp {c : Expr} (hc : QT X c tA) (ha : QE X a ta) (hb : QE X b tb) : QE X (.IfExp c a b pos) (tIf tA ta tb) := ⟨pe_ifExp hc.h ha.h hb.h⟩
end
section
variable {X : Cx} {st : Stmt} {rest : List Stmt} {t u : TS} {e : Expr} {te : TE} {pos : Pos}
theorem qpss_nil  : QSs X [] tNext := ⟨pss_nil ⟩
end
section
variable {X : Cx} {st : Stmt} {rest : List Stmt} {t u : TS} {e : Expr} {te : TE} {pos : Pos}
theorem qpss_cons (h1 : QS X st t) (h2 : QSs X rest u) : QSs X (st :: rest) (tSeq t u) := ⟨pss_cons h1.h h2.h⟩
end
section
variable {X : Cx} {st : Stmt} {rest : List Stmt} {t u : TS} {e : Expr} {te : TE} {pos : Pos}
theorem qpss_one (h1 : QS X st t) : QSs X [st] t := ⟨pss_one h1.h⟩
end
section
variable {X : Cx} {st : Stmt} {rest : List Stmt} {t u : TS} {e : Expr} {te : TE} {pos : Pos}
end
section
variable {X : Cx} {st : Stmt} {rest : List Stmt} {t u : TS} {e : Expr} {te : TE} {pos : Pos}
end
section
variable {X : Cx} {st : Stmt} {rest : List Stmt} {t u : TS} {e : Expr} {te : TE} {pos : Pos}
end
section
variable {X : Cx} {st : Stmt} {rest : List Stmt} {t u : TS} {e : Expr} {te : TE} {pos : Pos}
end
section
variable {X : Cx} {st : Stmt} {rest : List Stmt} {t u : TS} {e : Expr} {te : TE} {pos : Pos}
theorem qps_expr (he : QE X e te) (hs : swapsWith e none pos.line X.env = pure false := by rfl) : QS X (.Expr e pos) (tDrop te) := ⟨ps_expr he.h hs⟩
end
section
variable {X : Cx} {st : Stmt} {rest : List Stmt} {t u : TS} {e : Expr} {te : TE} {pos : Pos}
theorem qps_ret (he : QE X e te) : QS X (.Return (some e) pos) (tRet te) := ⟨ps_ret he.h⟩
end
section
variable {X : Cx} {st : Stmt} {rest : List Stmt} {t u : TS} {e : Expr} {te : TE} {pos : Pos}
end
section
variable {X : Cx} {st : Stmt} {rest : List Stmt} {t u : TS} {e : Expr} {te : TE} {pos : Pos}
theorem qps_if {c : Expr} {a b : List Stmt} {tc : TT} (hc : QT X c tc) (ha : QSs X a t) (hb : QSs X b u) : QS X (.If c a b pos) (tIfS tc t u) := ⟨ps_if hc.h ha.h hb.h⟩
end
section
variable {X : Cx} {st : Stmt} {rest : List Stmt} {t u : TS} {e : Expr} {te : TE} {pos : Pos}
end
section
variable {X : Cx} {st : Stmt} {rest : List Stmt} {t u : TS} {e : Expr} {te : TE} {pos : Pos}
end
section
variable {X : Cx} {pos : Pos}
theorem qpg_name {i : Nat} {x : Str} (hN : X.N.Nodup) (hi : X.N[i]? = some x) (hx : Loc X.env.scope x) (hf : X.fn x = true ∨ X.env.scope.names.lookup x = some .local := by first | exact .inl rfl | exact .inr rfl | assumption) : QG X (.Name x pos) (gName i) := ⟨pg_name hN hi hx hf⟩
end
section
variable {X : Cx} {pos : Pos}
end
section
variable {X : Cx} {pos : Pos}
end
section
variable {X : Cx} {pos : Pos}
end
section
variable {X : Cx} {pos : Pos}
end
section
variable {X : Cx} {pos : Pos}
end
section
variable {X : Cx} {pos : Pos}
theorem qps_set {i : Nat} {x : Str} {e : Expr} {te : TE} {pos' : Pos} (hN : X.N.Nodup) (hi : X.N[i]? = some x) (hx : Loc X.env.scope x) (he : QE X e te) (hs : swapsWith e (some (.Name x pos')) pos.line X.env = pure false := by rfl) (hf : X.fn x = true ∨ X.env.scope.names.lookup x = some .local := by first | exact .inl rfl | exact .inr rfl | assumption) : QS X (.Assign [.Name x pos'] e pos) (tAsg te (gName i)) := ⟨ps_set hN hi hx he.h hs hf⟩
end
section
variable {X : Cx} {pos : Pos}
end
section
variable {X : Cx} {pos : Pos}
end
section
variable {X : Cx} {pos : Pos}
end
section
variable {X : Cx} {pos : Pos}
end
section
variable {X : Cx} {tg : Expr}
theorem qpi_list {l : Expr} {tl : TE} (hl : QE X l tl) : QI X tg l (iList X.K tl) := ⟨pi_list hl.h⟩
end
section
variable {X : Cx} {tg : Expr}
theorem qpi_tup {l : Expr} {tl : TE} (hl : QE X l tl) : QI X tg l (iTup X.K tl) := ⟨pi_tup hl.h⟩
end
section
variable {X : Cx} {tg : Expr}
theorem qpi_range1 {a : Expr} {ta : TA} {p pos : Pos} (hg : Gl X "range") (hm : X.mg "range" = none) (ha : QA X [a] ta) (hs : starEach [a] X.env = [(false, eval a X.env)] := by rfl) : QI X tg (.Call (.Name "range" p) [a] [] pos) (iRng1 ta) := ⟨pi_range1 hg hm ha.h hs⟩
end
section
variable {X : Cx} {tg : Expr}
end
section
variable {X : Cx} {tg : Expr}
theorem qps_for {iter : Expr} {body : List Stmt} {wi : TI} {g : TG} {tb : TS} {pos : Pos} (hp : PassesOwn (model X.prog X.w) X.A X.env X.xe) (hc : X.calm = true) (hi : QI X tg iter wi) (hg : QG X tg g) (hb : QSs X body tb) (hs : ∀ x, foldedSetIterable iter X.env x = pure x := by intro _; rfl) : QS X (.For tg iter body [] pos) (tFor wi g tb) := ⟨ps_for hp hc hi.h hg.h hb.h hs⟩
end
section
variable {X : Cx} {a b c : Expr} {ta tb tc : TE} {pos : Pos}
theorem qpe_op {op : Operator} {r : R2} (ho : OpR X (binaryOp op) r) (ha : QE X a ta) (hb : QE X b tb) : QE X (.BinOp a op b pos) (tOp r ta tb) := ⟨pe_op ho ha.h hb.h⟩
end
section
variable {X : Cx} {a b c : Expr} {ta tb tc : TE} {pos : Pos}
end
section
variable {X : Cx} {a b c : Expr} {ta tb tc : TE} {pos : Pos}
theorem qpe_cmpR {op : CmpOp} {r : R2} (ho : OpR X (compareOp op) r) (ha : QE X a ta) (hb : QE X b tb) (hm : behindInMarks op b = false) : QE X (.Compare a [op] [b] pos) (tOp r ta tb) := ⟨pe_cmpR ho ha.h hb.h hm⟩
end
section
variable {X : Cx} {a b c : Expr} {ta tb tc : TE} {pos : Pos}
theorem qpt_cmpR {op : CmpOp} {r : R2} (ho : OpR X (compareOp op) r) (ha : QE X a ta) (hb : QE X b tb) (hm : behindInMarks op b = false) : QT X (.Compare a [op] [b] pos) (tTest (tOp r ta tb)) := ⟨pt_cmpR ho ha.h hb.h hm⟩
end
section
variable {X : Cx} {a b c : Expr} {ta tb tc : TE} {pos : Pos}
end
section
variable {X : Cx} {a b c : Expr} {ta tb tc : TE} {pos : Pos}
end
section
variable {X : Cx} {a b c : Expr} {ta tb tc : TE} {pos : Pos}
end
section
variable {X : Cx} {a b c : Expr} {ta tb tc : TE} {pos : Pos}
end
section
variable {X : Cx} {a b c : Expr} {ta tb tc : TE} {pos : Pos}
end
section
variable {X : Cx} {a b c : Expr} {ta tb tc : TE} {pos : Pos}
end
section
variable {X : Cx} {o e value : Expr} {f : Str} {pos pos' tpos : Pos} {ta tv : TE}
end
section
variable {X : Cx} {o e value : Expr} {f : Str} {pos pos' tpos : Pos} {ta tv : TE}
end
section
variable {X : Cx} {o e value : Expr} {f : Str} {pos pos' tpos : Pos} {ta tv : TE}
end
section
variable {X : Cx} {o e value : Expr} {f : Str} {pos pos' tpos : Pos} {ta tv : TE}
end
section
variable {X : Cx} {e : Expr} {es : List Expr} {te : TE} {t : TA} {pos : Pos}
theorem qpa_nil  : QA X [] tNil := ⟨pa_nil ⟩
end
section
variable {X : Cx} {e : Expr} {es : List Expr} {te : TE} {t : TA} {pos : Pos}
theorem qpa_cons (ha : QE X e te) (hr : QA X es t) (hs : starEach (e :: es) X.env = (false, eval e X.env) :: starEach es X.env := by rfl) : QA X (e :: es) (tCons te t) := ⟨pa_cons ha.h hr.h hs⟩
end
section
variable {X : Cx} {e : Expr} {es : List Expr} {te : TE} {t : TA} {pos : Pos}
theorem qpe_tup {x1} (h : QA X es t) : QE X (.Tuple es x1 pos) (tTup t) := ⟨pe_tup h.h⟩
end
section
variable {X : Cx} {e : Expr} {es : List Expr} {te : TE} {t : TA} {pos : Pos}
theorem qpe_lst (h : QA X es t) : QE X (.List es pos) (tLst t) := ⟨pe_lst h.h⟩
end
section
variable {X : Cx} {CX : CXT} {k : Nat} {f C : Addr} {fd : FuncData} {ps : List Str} {sp : Sp} {dvs : List V} {ds : List Value} {E : XK} {x m : Str} {p pos apos : Pos} {e o : Expr} {es : List Expr} {ta : TE} {t : TA}
end
section
variable {X : Cx} {CX : CXT} {k : Nat} {f C : Addr} {fd : FuncData} {ps : List Str} {sp : Sp} {dvs : List V} {ds : List Value} {E : XK} {x m : Str} {p pos apos : Pos} {e o : Expr} {es : List Expr} {ta : TE} {t : TA}
end
section
variable {X : Cx} {CX : CXT} {k : Nat} {f C : Addr} {fd : FuncData} {ps : List Str} {sp : Sp} {dvs : List V} {ds : List Value} {E : XK} {x m : Str} {p pos apos : Pos} {e o : Expr} {es : List Expr} {ta : TE} {t : TA}
end
section
variable {X : Cx} {CX : CXT} {k : Nat} {f C : Addr} {fd : FuncData} {ps : List Str} {sp : Sp} {dvs : List V} {ds : List Value} {E : XK} {x m : Str} {p pos apos : Pos} {e o : Expr} {es : List Expr} {ta : TE} {t : TA}
end
section
variable {X : Cx} {CX : CXT} {k : Nat} {f C : Addr} {fd : FuncData} {ps : List Str} {sp : Sp} {dvs : List V} {ds : List Value} {E : XK} {x m : Str} {p pos apos : Pos} {e o : Expr} {es : List Expr} {ta : TE} {t : TA}
end
section
variable {X : Cx} {CX : CXT} {k : Nat} {f C : Addr} {fd : FuncData} {ps : List Str} {sp : Sp} {dvs : List V} {ds : List Value} {E : XK} {x m : Str} {p pos apos : Pos} {e o : Expr} {es : List Expr} {ta : TE} {t : TA}
end
section
variable {X : Cx} {CX : CXT} {k : Nat} {f C : Addr} {fd : FuncData} {ps ks : List Str} {sp : Sp} {E : XK} {x m : Str} {p pos apos kpos : Pos} {e o : Expr} {es : List Expr} {kws : List Keyword} {te ta : TE} {t tk : TA} {nm : Option Str} {g : List Value → List Value → List Value} {gV : List V → List V → List V}
end
section
variable {X : Cx} {x : Str} {p pos : Pos} {e : Expr} {es : List Expr} {t : TA} {id T : String} {r : List V → Hp → VK → Prop}
theorem qpe_callB (hc : CallR X (.builtin id) r) (hg : Gl X x) (hm : X.mg x = none) (hv : bootBuiltins x = some (.builtin id)) (ha : QA X (e :: es) t) (hn : x ≠ "__name__" := by decide) (hdb : (x == ("__debug__" : Str)) = false := by decide) (he : starEach (e :: es) X.env = (false, eval e X.env) :: starEach es X.env := by rfl) (hpl : (backTo pos (starEach es X.env)).any (·.1) = false := by rfl) : QE X (.Call (.Name x p) (e :: es) [] pos) (tCB r t) := ⟨pe_callB hc hg hm hv ha.h hn hdb he hpl⟩
end
section
variable {X : Cx} {x : Str} {p pos : Pos} {e : Expr} {es : List Expr} {t : TA} {id T : String} {r : List V → Hp → VK → Prop}
theorem qpe_callTy (hc : CallR X (.type T) r) (hg : Gl X x) (hm : X.mg x = none) (hv : bootBuiltins x = some (.type T)) (ha : QA X (e :: es) t) (hn : x ≠ "__name__" := by decide) (hdb : (x == ("__debug__" : Str)) = false := by decide) (he : starEach (e :: es) X.env = (false, eval e X.env) :: starEach es X.env := by rfl) (hpl : (backTo pos (starEach es X.env)).any (·.1) = false := by rfl) : QE X (.Call (.Name x p) (e :: es) [] pos) (tCB r t) := ⟨pe_callTy hc hg hm hv ha.h hn hdb he hpl⟩
end
section
variable {X : Cx} {x : Str} {p pos : Pos} {e : Expr} {es : List Expr} {t : TA} {id T : String} {r : List V → Hp → VK → Prop}
end
section
variable {X : Cx} {e : Expr} {te : TE} {lo hi : Option Expr} {tl th : TO} {pos p2 : Pos}
end
section
variable {X : Cx} {e : Expr} {te : TE} {lo hi : Option Expr} {tl th : TO} {pos p2 : Pos}
theorem qpo_some (h : QE X e te) : QO X (some e) (tPart te) := ⟨po_some h.h⟩
end
section
variable {X : Cx} {e : Expr} {te : TE} {lo hi : Option Expr} {tl th : TO} {pos p2 : Pos}
theorem qpe_slice {r : V → Option Int → Option Int → Hp → VK → Prop} (hr : SlR X r) (he : QE X e te) (hl : QO X lo tl) (hu : QO X hi th) : QE X (.Subscript e (.Slice lo hi none p2) pos) (tSl r te tl th) := ⟨pe_slice hr he.h hl.h hu.h⟩
end
section
variable {X : Cx} {a b : Expr} {ta tb : TE} {pos : Pos}
theorem qpe_ix {r : R2} (hr : IxR X r) (ha : QE X a ta) (hb : QE X b tb) (hs : PlainIx b) : QE X (.Subscript a b pos) (tOp r ta tb) := ⟨pe_ix hr ha.h hb.h hs⟩
end
section
variable {X : Cx} {a b : Expr} {ta tb : TE} {pos : Pos} {o e : Expr} {es : List Expr} {to : TE} {t : TA} {name : Str} {apos cpos : Pos} {T id : String} {r : V → List V → Hp → VK → Prop}
end
section
variable {X : Cx} {a b : Expr} {ta tb : TE} {pos : Pos} {o e : Expr} {es : List Expr} {to : TE} {t : TA} {name : Str} {apos cpos : Pos} {T id : String} {r : V → List V → Hp → VK → Prop}
theorem qpe_bm (pa : PlainAttrs T) (slot : Slot T name id) (hty : typeOf (.builtin id) = pure (.type "method_descriptor")) (hm : MtR X id r) (ho : QE X o to) (ha : QA X (e :: es) t) (hbase : attributeBase o name X.env (eval o X.env) = eval o X.env := by rfl) (hfew : ((backTo cpos (starEach (e :: es) X.env)).all (fun x => !x.1) && (backToKw cpos (keywordEach [] X.env)).all (fun x => x.1.isSome)
      && decide ((e :: es).length + ([] : List Keyword).length + (if ([] : List Keyword).isEmpty then 0 else 1) < 30)) = true := by rfl) (hline : (apos.endLine == cpos.line) = true := by rfl) (hs : starEach (e :: es) X.env = (false, eval e X.env) :: starEach es X.env := by rfl) (hplain : (backTo cpos (starEach es X.env)).any (·.1) = false := by rfl) : QE X (.Call (.Attribute o name apos) (e :: es) [] cpos) (tBM X.K T r to t) := ⟨pe_bm pa slot hty hm ho.h ha.h hbase hfew hline hs hplain⟩
end
section
variable {X : Cx}
theorem qpv (i : Nat) {x : Str} {pos : Pos} (hN : X.N[i]? = some x := by rfl) (hv : Vis X.env.scope x := by first | exact Or.inl rfl | exact Or.inr (Or.inl rfl) | exact Or.inr (Or.inr rfl)) (hd : (x == ("__debug__" : Str)) = false := by decide) (hcd : (x == ("__classdict__" : Str)) = false := by decide) : QE X (.Name x pos) (tVar i) := ⟨pv i hN hv hd hcd⟩
end
section
variable {X : Cx}
end
section
end
section
theorem qpe_callD {X : Cx} {k : Nat} {x : Str} {st : Stmt} {ps : List Str} {sp : Sp} {e : Expr} {es : List Expr} {t : TA} {p pos : Pos} (D : Def X.prog X.w X.K X.mg X.base k x st ps sp) (hr : Room k X.A) (hg : Gl X x) (ha : QA X (e :: es) t) (hdb : (x == ("__debug__" : Str)) = false := by decide) (he : starEach (e :: es) X.env = (false, eval e X.env) :: starEach es X.env := by rfl) (hpl : (backTo pos (starEach es X.env)).any (·.1) = false := by rfl) : QE X (.Call (.Name x p) (e :: es) [] pos) (tCall sp [] E0 t) := ⟨pe_callD D hr hg ha.h hdb he hpl⟩
end
section
end
section
end
section
end
section
theorem qpf_one {X : Cx} {c : Expr} {t : TT} (h : QT X c t) : QF X [c] t := ⟨pf_one h.h⟩
end
section
end
section
variable {X : Cx} {pins : List (Addr × Obj)} {σ : St} {H : Hp} {s : Shared}
end
section
variable {X : Cx} {pins : List (Addr × Obj)} {σ : St} {H : Hp} {s : Shared}
theorem qps_setC {i : Nat} {x : Str} {own ns : List Str} {caps : List Nat} {elt tg iter : Expr} {ifs : List Expr} {scope : Scope} {pos pos' spos : Pos} {wi : TI} {g : TG} {tf : TT} {te : TE} (hN : X.N.Nodup) (hi : X.N[i]? = some x) (hx : Loc X.env.scope x) (hc : X.calm = true) (S : CScope scope ns) (cp : Caps X scope ns caps) (hit : QI X tg iter wi) (hg : ∀ C s H fp pn, QG (cxC X (own ++ ns) scope C s H fp pn) tg g) (ht : ∀ C s H fp pn, QF (cxC X (own ++ ns) scope C s H fp pn) ifs tf) (he : ∀ C s H fp pn, QE (cxC X (own ++ ns) scope C s H fp pn) elt te) (hs : ∀ x, foldedSetIterable iter X.env x = pure x := by intro _; rfl) (hsw : swapsWith (.ListComp elt [⟨tg, iter, ifs, 0⟩] scope pos) (some (.Name x pos')) spos.line X.env = pure true := by rfl) (hf : X.fn x = true ∨ X.env.scope.names.lookup x = some .local := by first | exact .inl rfl | exact .inr rfl | assumption) : QS X (.Assign [.Name x pos'] (.ListComp elt [⟨tg, iter, ifs, 0⟩] scope pos) spos) (tAsg (tComp own.length caps wi g tf te) (gName i)) := ⟨ps_setC hN hi hx hc S cp hit.h (fun C s H fp pn => (hg C s H fp pn).h) (fun C s H fp pn => (ht C s H fp pn).h) (fun C s H fp pn => (he C s H fp pn).h) hs hsw hf⟩
end
section
variable {X : Cx} {K : PySem.W.Frag}
end
section
variable {X : Cx} {K : PySem.W.Frag}
end
section
variable {X : Cx} {K : PySem.W.Frag}
end
section
end
section
theorem qpss_cut {X : Cx} {st : Stmt} {rest : List Stmt} {t u : TS} (h1 : QS X st t) (h2 : QSs X rest u) : QSs X (st :: rest) (tCut t u) := ⟨pss_cut h1.h h2.h⟩
end
section
variable {X : Cx} {es : List Expr} {te : TE} {t : TA}
end
section
variable {X : Cx} {es : List Expr} {te : TE} {t : TA}
theorem qpa_BinOp {a0 : PySem.Expr} {a1 : PySem.Operator} {a2 : PySem.Expr} {a3 : PySem.Pos} (ha : QE X (Expr.BinOp a0 a1 a2 a3) te) (hr : QA X es t) : QA X ((Expr.BinOp a0 a1 a2 a3) :: es) (tCons te t) := ⟨pa_BinOp ha.h hr.h⟩
end
section
variable {X : Cx} {es : List Expr} {te : TE} {t : TA}
end
section
variable {X : Cx} {es : List Expr} {te : TE} {t : TA}
end
section
variable {X : Cx} {es : List Expr} {te : TE} {t : TA}
end
section
variable {X : Cx} {es : List Expr} {te : TE} {t : TA}
theorem qpa_Compare {a0 : PySem.Expr} {a1 : List CmpOp} {a2 : List Expr} {a3 : PySem.Pos} (ha : QE X (Expr.Compare a0 a1 a2 a3) te) (hr : QA X es t) : QA X ((Expr.Compare a0 a1 a2 a3) :: es) (tCons te t) := ⟨pa_Compare ha.h hr.h⟩
end
section
variable {X : Cx} {es : List Expr} {te : TE} {t : TA}
theorem qpa_Call {a0 : PySem.Expr} {a1 : List Expr} {a2 : List Keyword} {a3 : PySem.Pos} (ha : QE X (Expr.Call a0 a1 a2 a3) te) (hr : QA X es t) : QA X ((Expr.Call a0 a1 a2 a3) :: es) (tCons te t) := ⟨pa_Call ha.h hr.h⟩
end
section
variable {X : Cx} {es : List Expr} {te : TE} {t : TA}
end
section
variable {X : Cx} {es : List Expr} {te : TE} {t : TA}
theorem qpa_Constant {a0 : PySem.Const} {a1 : Nat} {a2 : PySem.Pos} (ha : QE X (Expr.Constant a0 a1 a2) te) (hr : QA X es t) : QA X ((Expr.Constant a0 a1 a2) :: es) (tCons te t) := ⟨pa_Constant ha.h hr.h⟩
end
section
variable {X : Cx} {es : List Expr} {te : TE} {t : TA}
end
section
variable {X : Cx} {es : List Expr} {te : TE} {t : TA}
theorem qpa_Subscript {a0 : PySem.Expr} {a1 : PySem.Expr} {a2 : PySem.Pos} (ha : QE X (Expr.Subscript a0 a1 a2) te) (hr : QA X es t) : QA X ((Expr.Subscript a0 a1 a2) :: es) (tCons te t) := ⟨pa_Subscript ha.h hr.h⟩
end
section
variable {X : Cx} {es : List Expr} {te : TE} {t : TA}
theorem qpa_Name {a0 : PySem.Str} {a1 : PySem.Pos} (ha : QE X (Expr.Name a0 a1) te) (hr : QA X es t) : QA X ((Expr.Name a0 a1) :: es) (tCons te t) := ⟨pa_Name ha.h hr.h⟩
end
section
variable {X : Cx} {es : List Expr} {te : TE} {t : TA}
end
section
variable {X : Cx} {es : List Expr} {te : TE} {t : TA}
theorem qpa_Tuple {a0 : List Expr} {a1 : Nat} {a2 : PySem.Pos} (ha : QE X (Expr.Tuple a0 a1 a2) te) (hr : QA X es t) : QA X ((Expr.Tuple a0 a1 a2) :: es) (tCons te t) := ⟨pa_Tuple ha.h hr.h⟩
end
section
variable {X : Cx} {es : List Expr} {te : TE} {t : TA}
end
section
variable {X : Cx} {o i e value : Expr} {pos pos' tpos : Pos} {td ty tv : TE}
theorem qpe_dget (hu : X.A.units + 1 < cLine) (ho : QE X o td) (hi : QE X i ty) (hs : NoSl i) : QE X (.Subscript o i pos) (tDGet td ty) := ⟨pe_dget hu ho.h hi.h hs⟩
end
section
variable {X : Cx} {o i e value : Expr} {pos pos' tpos : Pos} {td ty tv : TE}
end
section
variable {X : Cx} {o i e value : Expr} {pos pos' tpos : Pos} {td ty tv : TE}
end
section
variable {X : Cx} {o i e value : Expr} {pos pos' tpos : Pos} {td ty tv : TE}
end
section
variable {X : Cx} {pos : Pos}
end
section
variable {X : Cx} {pos : Pos}
end
section
theorem qpps_nil {X : Cx} {pos : Pos} : QPPs X pos [] [] [] := ⟨pps_nil ⟩
end
section
theorem qpps_cons {X : Cx} {pos : Pos} {k v : Expr} {ks : List (Option Expr)} {vs : List Expr} {tk tv : TE} {trs : List (TE × TE)} (hk : QE X k tk) (hv : QE X v tv) (hr : QPPs X pos ks vs trs) : QPPs X pos (some k :: ks) (v :: vs) ((tk, tv) :: trs) := ⟨pps_cons hk.h hv.h hr.h⟩
end
section
theorem qpe_disp {X : Cx} {pos : Pos} {keys : List (Option Expr)} {values : List Expr} {trs : List (TE × TE)} (h : QPPs X pos keys values trs) (hall : keys.all (·.isSome) = true) (hl : keys.length = values.length) (h0 : keys ≠ []) (h15 : keys.length ≤ 15) : QE X (.Dict keys values pos) (tDisp trs) := ⟨pe_disp h.h hall hl h0 h15⟩
end
section
variable {X : Cx} {o e f : Expr} {apos cpos : Pos} {td ty tx : TE}
end
section
variable {X : Cx} {o e f : Expr} {apos cpos : Pos} {td ty tx : TE}
end
section
variable {X : Cx} {o e f : Expr} {apos cpos : Pos} {td ty tx : TE}
end
section
variable {X : Cx} {o e f : Expr} {apos cpos : Pos} {td ty tx : TE}
end
section
variable {X : Cx} {k : Nat} {x f : Str} {st : Stmt} {ps : List Str} {sp : Sp} {e : Expr} {te : TE} {p p2 kp pos : Pos}
end
section
variable {X : Cx}
end
section
variable {X : Cx} {pins : List (Addr × Obj)} {σ : St} {H : Hp} {s : Shared} {a : Addr} {o : Obj} {kvs : List (List Key × V)}
end
section
variable {X : Cx} {pins : List (Addr × Obj)} {σ : St} {H : Hp} {s : Shared} {a : Addr} {o : Obj} {kvs : List (List Key × V)}
end
section
variable {X : Cx} {pins : List (Addr × Obj)} {σ : St} {H : Hp} {s : Shared} {a : Addr} {o : Obj} {kvs : List (List Key × V)}
end
section
variable {X : Cx} {pins : List (Addr × Obj)} {σ : St} {H : Hp} {s : Shared} {a : Addr} {o : Obj} {kvs : List (List Key × V)}
end
end L2

set_option Elab.async false
set_option linter.all false
set_option maxRecDepth 100000
set_option maxHeartbeats 4000000
/-! Bows that fill a word, as plain data. -/
namespace Rm
open PySem L2
def isBowD : PyData → Bool
  | .tuple [.int a, .int b] => decide (a < b)
  | _ => false
def bowOf : PyData → Bw
  | .tuple [.int a, .int b] => (a, b)
  | _ => (0, 0)
def endsZ (ps : List Bw) : List Int := ps.map (·.1) ++ ps.map (·.2)
def fillZ (ps : List Bw) : Bool := (endsZ ps).isPerm (rngZ 0 (2 * ps.length))
def fillsD : PyData → Bool
  | .list ds => decide (2 * ds.length ≤ 40) && (ds.all isBowD && fillZ (ds.map bowOf))
  | _ => false
theorem rngZ_len (lo : Int) (n : Nat) : (rngZ lo n).length = n := by simp [rngZ]
def wholeD (d : PyData) : Bool := isI d && !isB d
/-! ### promises -/
def spIsBow : Sp := fun vs H Q _ => ∃ x d, vs = [x] ∧ Dat H x d ∧ Q (.bl (isBowD d)) H
def spFills : Sp := fun vs H Q _ => ∃ x d, vs = [x] ∧ Dat H x d ∧ ∀ H', Same H H' → Q (.bl (fillsD d)) H'
theorem whole_of {K : PySem.W.Frag} {H : Hp} {x : V} {d : PyData} {Q : VK} {E : XK} (h : Dat H x d) (q : Q (.bl (wholeD d)) H) : spWhole K [x] H Q E :=
  ⟨x, _, isI d, isB d, rfl, h.ty, by cases h <;> rfl, by cases h <;> rfl, q⟩
end Rm

set_option Elab.async false
set_option linter.all false
set_option maxHeartbeats 4000000
/-! The bows of a word: they fill it, don't cross, and tell it back. -/
namespace Rm
open PySem L2
theorem Stk.ex {bs : List Bool} (b : Bal bs) : ∀ i, i ≤ bs.length → ∃ ws bw, Stk bs i ws bw ∧ ∀ q, q < i → bs[q]? = some false → ∃ p, (p, q) ∈ bw
  | 0, _ => ⟨[], [], Stk.start bs, fun q h => by omega⟩
  | i + 1, hi => by
    obtain ⟨ws, bw, S, c⟩ := Stk.ex b i (by omega)
    have hb : bs[i]? = some bs[i] := List.getElem?_eq_getElem (by omega)
    cases e : bs[i] with
    | true =>
      rw [e] at hb
      refine ⟨_, _, S.opens hb, fun q hq hf => ?_⟩
      by_cases z : q = i
      · subst z; rw [hb] at hf; cases hf
      · exact c q (by omega) hf
    | false =>
      rw [e] at hb
      obtain ⟨ws', p, rfl⟩ := S.has b hb
      refine ⟨_, _, S.closes hb, fun q hq hf => ?_⟩
      by_cases z : q = i
      · subst z; exact ⟨p, by simp⟩
      · obtain ⟨p', hp⟩ := c q (by omega) hf
        exact ⟨p', List.mem_append_left _ hp⟩
theorem Mates.closed {bs : List Bool} {ms : List (Nat × Nat)} (M : Mates bs bs.length ms) (b : Bal bs) {q : Nat} (h : bs[q]? = some false) : ∃ p, (p, q) ∈ ms := by
  obtain ⟨ws, bw, S, c⟩ := Stk.ex b bs.length (Nat.le_refl _)
  obtain ⟨p, hp⟩ := c q (List.getElem?_eq_some_iff.mp h).1 h
  exact ⟨p, (S.mem b M (p, q)).mp hp⟩
/-- the word that bows tell -/
def wordB (ps : List Bw) : List Bool := (List.range (2 * ps.length)).map fun e : Nat => decide ((e : Int) ∈ ps.map (·.1))
/-! ### lists in another order -/
theorem erase_perm {α : Type} : ∀ {l : List α} {k : Nat} {y : α}, l[k]? = some y → (y :: l.eraseIdx k).Perm l
  | [], k, y, h => by simp at h
  | x :: l, 0, y, h => by
    have e : x = y := by simpa using h
    subst e
    exact .refl _
  | x :: l, k + 1, y, h => by
    have ih := erase_perm (l := l) (k := k) (y := y) (by simpa using h)
    exact (List.Perm.swap x y _).trans (ih.cons x)
def spWordOf : Sp := fun vs H Q _ => ∃ l ps, vs = [.ref l] ∧ BowsAt H l ps ∧ fillsD (bowsD ps) = true ∧ (∀ p ∈ ps, ∀ q ∈ ps, crossZ p q = false) ∧ ∀ H', Same H H' → Q (.str (wd (wordB ps))) H'
def spShuffled (K : PySem.W.Frag) : Sp := fun vs H Q _ => ∃ l xs c, vs = [.ref l, .int c] ∧ SqL K H l xs ∧ xs.length ≤ 40 ∧ ∀ l' ys H', H l' = none → Same H H' → H' l' = some (.lst ys) → ys.Perm xs → Q (.ref l') H'
/-! ### '(' and ')' joined -/
def sgn (b : Bool) : Str := if b then Str.ofString "(" else Str.ofString ")"
end Rm

set_option Elab.async false
set_option linter.all false
set_option maxRecDepth 100000
set_option maxHeartbeats 4000000
/-! Orders, sides and mazes as plain data. -/
namespace Rm
open PySem L2
/-! ### as many, without two alike, within: the same in another order -/
theorem perm_of_sub {α : Type} [DecidableEq α] : ∀ {l m : List α}, l.Nodup → (∀ x ∈ l, x ∈ m) → m.length ≤ l.length → l.Perm m
  | [], m, _, _, h => by
    have : m = [] := List.eq_nil_of_length_eq_zero (by simpa using h)
    rw [this]
  | x :: l, m, nd, hs, hl => by
    obtain ⟨n1, n2⟩ := List.nodup_cons.mp nd
    have hx := hs x List.mem_cons_self
    have hp : m.Perm (x :: m.erase x) := List.perm_cons_erase hx
    have hlen := hp.length_eq
    simp only [List.length_cons] at hlen hl
    have ih : l.Perm (m.erase x) := perm_of_sub n2 (fun y hy => by
      have hm := hs y (List.mem_cons_of_mem _ hy)
      rcases List.mem_cons.mp (hp.mem_iff.mp hm) with e | e
      · subst e; exact absurd hy n1
      · exact e) (by omega)
    exact (ih.cons x).trans hp.symm
def intOf : PyData → Int
  | .int n => n
  | _ => 0
def orderD : PyData → Bool
  | .tuple ds => decide (ds.length ≤ 20) && (ds.all wholeD && (ds.map intOf).isPerm (rngZ 1 ds.length))
  | _ => false
def sideD : PyData → Bool
  | .str z => decide (z = Str.ofString "l") || decide (z = Str.ofString "r")
  | _ => false
def mazeD : PyData → Bool
  | .tuple [a, b] => sideD a && orderD b
  | _ => false
theorem mem_rng1 {x : Int} {n : Nat} : x ∈ rngZ 1 n ↔ 1 ≤ x ∧ x ≤ n := by
  unfold rngZ
  rw [List.mem_map]
  constructor
  · rintro ⟨i, hi, rfl⟩
    have := List.mem_range.mp hi
    omega
  · rintro ⟨h1, h2⟩
    exact ⟨(x - 1).toNat, List.mem_range.mpr (by omega), by omega⟩
theorem rng1_nodup (n : Nat) : (rngZ 1 n).Nodup := by
  unfold rngZ List.Nodup
  rw [List.pairwise_map]
  exact (List.nodup_range (n := n)).imp fun h e => h (by omega)
/-- what the law's own walk over a tuple has met -/
structure Met (ds : List PyData) (i : Nat) : Prop where
  wh : ∀ d ∈ ds.take i, wholeD d = true
  inn : ∀ n ∈ (ds.map intOf).take i, 1 ≤ n ∧ n ≤ ds.length
  nd : ((ds.map intOf).take i).Nodup
theorem Met.start (ds : List PyData) : Met ds 0 := ⟨fun d h => by simp at h, fun d h => by simp at h, by simp⟩
theorem Met.next {ds : List PyData} {i : Nat} {d : PyData} (M : Met ds i) (h : ds[i]? = some d) (hw : wholeD d = true) (h1 : 1 ≤ intOf d) (h2 : intOf d ≤ ds.length) (hn : intOf d ∉ (ds.map intOf).take i) : Met ds (i + 1) := by
  have e : (ds.map intOf)[i]? = some (intOf d) := by rw [List.getElem?_map, h]; rfl
  refine ⟨fun x hx => ?_, fun x hx => ?_, ?_⟩
  · rw [List.take_add_one, h] at hx
    rcases List.mem_append.mp hx with z | z
    · exact M.wh x z
    · have e : x = d := by simpa using z
      subst e; exact hw
  · rw [List.take_add_one, e] at hx
    rcases List.mem_append.mp hx with z | z
    · exact M.inn x z
    · have e : x = intOf d := by simpa using z
      subst e; exact ⟨h1, h2⟩
  · rw [List.take_add_one, e]
    show ((ds.map intOf).take i ++ [intOf d]).Nodup
    rw [List.nodup_append]
    exact ⟨M.nd, by simp, fun a ha b hb z => by
      have e : b = intOf d := by simpa using hb
      subst e; subst z; exact hn ha⟩
theorem Met.order {ds : List PyData} (M : Met ds ds.length) (hl : ds.length ≤ 20) : orderD (.tuple ds) = true := by
  show (decide (ds.length ≤ 20) && (ds.all wholeD && (ds.map intOf).isPerm (rngZ 1 ds.length))) = true
  have hw := M.wh
  have hi := M.inn
  have nd := M.nd
  rw [List.take_length] at hw
  rw [List.take_of_length_le (by simp)] at hi nd
  rw [decide_eq_true hl, List.all_eq_true.mpr hw, List.isPerm_iff.mpr (perm_of_sub nd (fun x hx => mem_rng1.mpr (hi x hx)) (by simp [rngZ]))]
  rfl
theorem lit_l : (Str.ofString "l") = ⟨#[108]⟩ := by decide +kernel
theorem lit_r : (Str.ofString "r") = ⟨#[114]⟩ := by decide +kernel
/-- plain and not deep -/
structure Pl (d : PyData) (n : Nat) : Prop where
  lay : d.canLay0 = true
  deep : d.depth ≤ n
def spIsSide : Sp := fun vs H Q _ => ∃ x d, vs = [x] ∧ Dat H x d ∧ Pl d 60 ∧ Q (.bl (sideD d)) H
def spIsOrder : Sp := fun vs H Q _ => ∃ x d, vs = [x] ∧ Dat H x d ∧ ∀ H', Same H H' → Q (.bl (orderD d)) H'
def spIsMaze : Sp := fun vs H Q _ => ∃ x d, vs = [x] ∧ Dat H x d ∧ Pl d 60 ∧ ∀ H', Same H H' → Q (.bl (mazeD d)) H'
def spOrderBy : Sp := fun vs H Q _ => ∃ c room : Int, vs = [.int c, .int room] ∧ 1 ≤ room ∧ room ≤ 100 ∧ ∀ (l : Addr) (ns : List Int) (H' : Hp), H l = none → Same H H' → H' l = some (.tup (ns.map V.int)) → (ns.length : Int) < room → ns.Perm (rngZ 1 ns.length) → Q (.ref l) H'
def spSpoiled : Sp := fun vs H Q _ => ∃ (o : Addr) (kind cell : Int) (ns : List Int), vs = [.ref o, .int kind, .int cell] ∧ H o = some (.tup (ns.map V.int)) ∧ ns.length ≤ 20 ∧ ∀ x d H', Same H H' → Dat H' x d → Pl d 3 → mazeD d = false → Q x H'
/-! ### data without lists -/
mutual
def noL : PyData → Bool
  | .list _ => false
  | .tuple ds => noLs ds
  | .dict _ => false
  | _ => true
def noLs : List PyData → Bool
  | [] => true
  | d :: ds => noL d && noLs ds
end
mutual
theorem dat_upd {H : Hp} {l : Addr} {ys : List V} {o : HO} (hl : H l = some (.lst ys)) : ∀ {x : V} {d : PyData}, Dat H x d → noL d = true → Dat (upd H l o) x d
  | _, _, .non, _ => .non
  | _, _, .bl b, _ => .bl b
  | _, _, .int i, _ => .int i
  | _, _, .str x, _ => .str x
  | _, _, .tup h r, n => .tup (by rw [upd_ne (ne_of h hl (by intro q; cases q))]; exact h) (datL_upd hl r n)
  | _, _, .lst h r, n => nomatch n
theorem datL_upd {H : Hp} {l : Addr} {ys : List V} {o : HO} (hl : H l = some (.lst ys)) : ∀ {xs : List V} {ds : List PyData}, DatL H xs ds → noLs ds = true → DatL (upd H l o) xs ds
  | _, _, .nil, _ => .nil
  | _, _, .cons h r, n => by
    have n' : (noL _ && noLs _) = true := n
    rw [Bool.and_eq_true] at n'
    exact .cons (dat_upd hl h n'.1) (datL_upd hl r n'.2)
end
theorem noLs_all : ∀ {ds : List PyData}, (∀ d ∈ ds, noL d = true) → noLs ds = true
  | [], _ => rfl
  | d :: ds, h => by
    show (noL d && noLs ds) = true
    rw [h d List.mem_cons_self, noLs_all fun x hx => h x (List.mem_cons_of_mem _ hx)]; rfl
/-- a thing that may stand in an order's place -/
structure Itm (d : PyData) : Prop where
  lay : d.canLay0 = true
  deep : d.depth ≤ 1
  noL : noL d = true
  side : sideD d = false
theorem itm_noL {ds : List PyData} (h : ∀ d ∈ ds, Itm d) : noLs ds = true := noLs_all fun d hd => (h d hd).noL
/-- items at places -/
structure Row (H : Hp) (xs : List V) (ds : List PyData) : Prop where
  dat : DatL H xs ds
  itm : ∀ d ∈ ds, Itm d
theorem datL_take {H : Hp} : ∀ {xs : List V} {ds : List PyData} (k : Nat), DatL H xs ds → DatL H (xs.take k) (ds.take k)
  | _, _, 0, _ => by simpa using (DatL.nil : DatL H [] [])
  | _, _, k + 1, .nil => by simpa using (DatL.nil : DatL H [] [])
  | _, _, k + 1, .cons h r => .cons h (datL_take k r)
theorem datL_drop {H : Hp} : ∀ {xs : List V} {ds : List PyData} (k : Nat), DatL H xs ds → DatL H (xs.drop k) (ds.drop k)
  | _, _, 0, h => h
  | _, _, k + 1, .nil => by simpa using (DatL.nil : DatL H [] [])
  | _, _, k + 1, .cons h r => datL_drop k r
theorem datL_app {H : Hp} : ∀ {xs ys : List V} {ds es : List PyData}, DatL H xs ds → DatL H ys es → DatL H (xs ++ ys) (ds ++ es)
  | _, _, _, _, .nil, h => h
  | _, _, _, _, .cons a r, h => .cons a (datL_app r h)
theorem Row.put {H : Hp} {xs : List V} {ds : List PyData} {x : V} {d : PyData} (r : Row H xs ds) (j k : Nat) (h : Dat H x d) (hi : Itm d) : Row H (xs.take j ++ x :: xs.drop k) (ds.take j ++ d :: ds.drop k) :=
  ⟨datL_app (datL_take j r.dat) (.cons h (datL_drop k r.dat)), fun e he => by
    rcases List.mem_append.mp he with z | z
    · exact r.itm e (List.mem_of_mem_take z)
    · rcases List.mem_cons.mp z with rfl | z
      · exact hi
      · exact r.itm e (List.mem_of_mem_drop z)⟩
theorem Row.upd {H : Hp} {l : Addr} {ys xs : List V} {o : HO} {ds : List PyData} (r : Row H xs ds) (hl : H l = some (.lst ys)) : Row (upd H l o) xs ds := ⟨datL_upd hl r.dat (itm_noL r.itm), r.itm⟩
theorem Row.same {H H' : Hp} {xs : List V} {ds : List PyData} (r : Row H xs ds) (s : Same H H') : Row H' xs ds := ⟨r.dat.same s, r.itm⟩
end Rm

set_option Elab.async false
set_option linter.all false
set_option maxRecDepth 100000
set_option maxHeartbeats 4000000
/-! How high bows lie. -/
namespace Rm
open PySem L2
def inZ (p q : Bw) : Bool := decide (q.1 < p.1) && decide (p.2 < q.2)
def spanZ (p : Bw) : Int := p.2 - p.1
abbrev Acc := List (Bw × Int)
/-- m is the greatest height of those within q, 0 if there are none -/
structure Top (acc : Acc) (q : Bw) (m : Int) : Prop where
  nn : 0 ≤ m
  le : ∀ e ∈ acc, inZ e.1 q = true → e.2 ≤ m
  is : m = 0 ∨ ∃ e ∈ acc, inZ e.1 q = true ∧ e.2 = m
theorem Top.uniq {acc : Acc} {q : Bw} {m n : Int} (a : Top acc q m) (b : Top acc q n) : m = n := by
  have h1 : m ≤ n := by
    rcases a.is with z | ⟨e, h1, h2, h3⟩
    · rw [z]; exact b.nn
    · rw [← h3]; exact b.le e h1 h2
  have h2 : n ≤ m := by
    rcases b.is with z | ⟨e, h1, h2, h3⟩
    · rw [z]; exact a.nn
    · rw [← h3]; exact a.le e h1 h2
  omega
theorem inZ_span {p q : Bw} (h : inZ p q = true) : spanZ p < spanZ q := by
  unfold inZ at h
  rw [Bool.and_eq_true, decide_eq_true_eq, decide_eq_true_eq] at h
  unfold spanZ; omega
/-- what is known behind the first ones -/
structure Kn (qs : List Bw) (i : Nat) (acc : Acc) : Prop where
  keys : acc.map (·.1) = qs.take i
  pos : ∀ e ∈ acc, 1 ≤ e.2
  top : ∀ e ∈ acc, Top acc e.1 (e.2 - 1)
theorem Kn.start (qs : List Bw) : Kn qs 0 [] := ⟨by simp, (fun e h => nomatch h), (fun e h => nomatch h)⟩
theorem Kn.len {qs : List Bw} {i : Nat} {acc : Acc} (K : Kn qs i acc) (h : i ≤ qs.length) : acc.length = i := by
  have := congrArg List.length K.keys
  rw [List.length_map, List.length_take] at this
  omega
def innerZ (acc : Acc) (q : Bw) : List Int := (acc.filter fun e => inZ e.1 q).map (·.2)
theorem fold_max (ns : List Int) : ∀ o : Option Int, (∀ y, o = some y → 1 ≤ y) → (∀ n ∈ ns, 1 ≤ n) → ∀ r, ns.foldl mxS o = r →
    (∀ y, o = some y → ∃ z, r = some z ∧ y ≤ z) ∧ (∀ n ∈ ns, ∃ z, r = some z ∧ n ≤ z) ∧ (r = o ∨ ∃ n ∈ ns, r = some n) := by
  induction ns with
  | nil => intro o h1 _ r e; subst e; exact ⟨fun y e => ⟨y, e, Int.le_refl _⟩, (fun n h => nomatch h), .inl rfl⟩
  | cons n ns ih =>
    intro o h1 h2 r e
    rw [List.foldl_cons] at e
    obtain ⟨a, b, c⟩ := ih (mxS o n) (fun y hy => by
      cases o with
      | none => cases hy; exact h2 n List.mem_cons_self
      | some y0 =>
        have hy' : (if y0 < n then n else y0) = y := Option.some.inj hy
        have := h1 y0 rfl
        have := h2 n List.mem_cons_self
        split at hy' <;> omega) (fun x hx => h2 x (List.mem_cons_of_mem _ hx)) r e
    cases o with
    | none =>
      obtain ⟨z, hz1, hz2⟩ := a n rfl
      refine ⟨(fun y hy => nomatch hy), fun x hx => ?_, ?_⟩
      · rcases List.mem_cons.mp hx with e | e
        · subst e; exact ⟨z, hz1, hz2⟩
        · exact b x e
      · rcases c with c | ⟨x, hx, c⟩
        · exact .inr ⟨n, List.mem_cons_self, c⟩
        · exact .inr ⟨x, List.mem_cons_of_mem _ hx, c⟩
    | some y0 =>
      obtain ⟨z, hz1, hz2⟩ := a (if y0 < n then n else y0) rfl
      refine ⟨fun y hy => ?_, fun x hx => ?_, ?_⟩
      · cases hy
        refine ⟨z, hz1, ?_⟩
        split at hz2 <;> omega
      · rcases List.mem_cons.mp hx with e | e
        · subst e
          refine ⟨z, hz1, ?_⟩
          split at hz2 <;> omega
        · exact b x e
      · rcases c with c | ⟨x, hx, c⟩
        · by_cases h : y0 < n
          · have c : r = some (if y0 < n then n else y0) := c
            rw [if_pos h] at c; exact .inr ⟨n, List.mem_cons_self, c⟩
          · have c : r = some (if y0 < n then n else y0) := c
            rw [if_neg h] at c; exact .inl c
        · exact .inr ⟨x, List.mem_cons_of_mem _ hx, c⟩
theorem maxD_top {acc : Acc} {q : Bw} (hp : ∀ e ∈ acc, 1 ≤ e.2) : Top acc q (maxD (innerZ acc q) 0) := by
  have hin : ∀ n, n ∈ innerZ acc q ↔ ∃ e ∈ acc, inZ e.1 q = true ∧ e.2 = n := fun n => by
    unfold innerZ
    rw [List.mem_map]
    constructor
    · rintro ⟨e, he, rfl⟩
      obtain ⟨h1, h2⟩ := List.mem_filter.mp he
      exact ⟨e, h1, h2, rfl⟩
    · rintro ⟨e, h1, h2, rfl⟩
      exact ⟨e, List.mem_filter.mpr ⟨h1, h2⟩, rfl⟩
  have hpos : ∀ n ∈ innerZ acc q, 1 ≤ n := fun n hn => by obtain ⟨e, h1, _, rfl⟩ := (hin n).mp hn; exact hp e h1
  obtain ⟨_, b, c⟩ := fold_max (innerZ acc q) none (fun y h => nomatch h) hpos _ rfl
  unfold maxD
  generalize (innerZ acc q).foldl _ none = r at b c ⊢
  rcases c with c | ⟨n, hn, c⟩
  · subst c
    refine ⟨Int.le_refl _, fun e he hi => ?_, .inl rfl⟩
    obtain ⟨z, hz, _⟩ := b e.2 ((hin _).mpr ⟨e, he, hi, rfl⟩)
    cases hz
  · subst c
    have := hpos n hn
    refine ⟨by simp; omega, fun e he hi => ?_, .inr ?_⟩
    · obtain ⟨z, hz, h2⟩ := b e.2 ((hin _).mpr ⟨e, he, hi, rfl⟩)
      cases hz
      exact h2
    · obtain ⟨e, h1, h2, h3⟩ := (hin n).mp hn
      exact ⟨e, h1, h2, h3⟩
theorem Kn.next {qs : List Bw} {i : Nat} {acc : Acc} {q : Bw} (K : Kn qs i acc) (hq : qs[i]? = some q) (hs : qs.Pairwise (fun a b => spanZ a ≤ spanZ b)) : Kn qs (i + 1) (acc ++ [(q, 1 + maxD (innerZ acc q) 0)]) := by
  have T := maxD_top (acc := acc) (q := q) K.pos
  have hi := (List.getElem?_eq_some_iff.mp hq).1
  have hle : ∀ e ∈ acc, spanZ e.1 ≤ spanZ q := fun e he => by
    have hm : e.1 ∈ qs.take i := by rw [← K.keys]; exact List.mem_map.mpr ⟨e, he, rfl⟩
    obtain ⟨j, hj, ej⟩ := List.getElem_of_mem hm
    rw [List.length_take] at hj
    rw [List.getElem_take] at ej
    rw [← ej]
    have := List.pairwise_iff_getElem.mp hs j i (by omega) hi (by omega)
    have e2 : qs[i] = q := (List.getElem?_eq_some_iff.mp hq).2
    rw [e2] at this
    exact this
  have hno : ∀ e ∈ acc, inZ q e.1 = false := fun e he => by
    cases z : inZ q e.1 with
    | false => rfl
    | true => have := inZ_span z; have := hle e he; omega
  have hself : inZ q q = false := by
    cases z : inZ q q with
    | false => rfl
    | true => have := inZ_span z; omega
  refine ⟨by rw [List.map_append, K.keys, List.take_add_one, hq]; rfl, fun e he => ?_, fun e he => ?_⟩
  · rcases List.mem_append.mp he with z | z
    · exact K.pos e z
    · have : e = (q, 1 + maxD (innerZ acc q) 0) := by simpa using z
      subst this
      have := T.nn
      simp only; omega
  · have grow : ∀ r m, inZ q r = false → Top acc r m → Top (acc ++ [(q, 1 + maxD (innerZ acc q) 0)]) r m := fun r m hr t => by
      refine ⟨t.nn, fun x hx hxi => ?_, t.is.imp id fun ⟨x, h1, h2⟩ => ⟨x, List.mem_append_left _ h1, h2⟩⟩
      rcases List.mem_append.mp hx with z | z
      · exact t.le x z hxi
      · have : x = (q, 1 + maxD (innerZ acc q) 0) := by simpa using z
        subst this
        simp only at hxi
        rw [hr] at hxi; cases hxi
    rcases List.mem_append.mp he with z | z
    · exact grow e.1 _ (hno e z) (K.top e z)
    · have : e = (q, 1 + maxD (innerZ acc q) 0) := by simpa using z
      subst this
      have e3 : (1 + maxD (innerZ acc q) 0) - 1 = maxD (innerZ acc q) 0 := by omega
      show Top _ q ((1 + maxD (innerZ acc q) 0) - 1)
      rw [e3]
      exact grow q _ hself T
/-! ### the dict -/
def keyB (p : Bw) : List Key := [Sum.inl p.1, Sum.inl p.2]
def dB (acc : Acc) : List (List Key × V) := acc.map fun e => (keyB e.1, .int e.2)
/-- what the heights are -/
structure Hts (ps : List Bw) (hs : List Int) : Prop where
  len : hs.length = ps.length
  pos : ∀ h ∈ hs, 1 ≤ h
  top : ∀ (i : Nat) p h, ps[i]? = some p → hs[i]? = some h → Top (ps.zip hs) p (h - 1)
def htOf (acc : Acc) (p : Bw) : Int := ((acc.find? fun e => decide (e.1 = p)).map (·.2)).getD 0
def spSpan : Sp := fun vs H Q _ => ∃ a p, vs = [.ref a] ∧ tupAt H a p ∧ Q (.int (spanZ p)) H
def spWithin : Sp := fun vs H Q _ => ∃ a b p q, vs = [.ref a, .ref b] ∧ tupAt H a p ∧ tupAt H b q ∧ Q (.bl (inZ p q)) H
def spHeights : Sp := fun vs H Q _ => ∃ l ps, vs = [.ref l] ∧ BowsAt H l ps ∧ ps.Nodup ∧ ps.length ≤ 40 ∧ ∀ l' hs H', H l' = none → Same H H' → H' l' = some (.lst (hs.map V.int)) → Hts ps hs → Q (.ref l') H'
end Rm
namespace Rm
open PySem L2
def spHolds : Sp := fun vs H Q _ => ∃ l f ps hs, vs = [.ref l, .ref f] ∧ BowsAt H l ps ∧ H f = some (.lst (hs.map V.int)) ∧ Hts ps hs ∧ ps.length ≤ 40 ∧ Q (.bl true) H
def spSpots : Sp := fun vs H Q _ => ∃ (m : Nat) (c : Int), vs = [.int m, .int c] ∧ m ≤ 40 ∧ ∀ (l : Addr) (ss : List Int) (H' : Hp), H l = none → Same H H' → H' l = some (.lst (ss.map V.int)) → ss.length = m → ss.Pairwise (· < ·) → Q (.ref l) H'
/-- looked at so far -/
structure TopJ (ps : List Bw) (hs : List Int) (q : Bw) (j : Nat) (m : Int) : Prop where
  nn : 0 ≤ m
  le : ∀ (i : Nat) p h, i < j → ps[i]? = some p → hs[i]? = some h → inZ p q = true → h ≤ m
  is : m = 0 ∨ ∃ (i : Nat) (p : Bw), ps[i]? = some p ∧ hs[i]? = some m ∧ inZ p q = true
theorem TopJ.start (ps : List Bw) (hs : List Int) (q : Bw) : TopJ ps hs q 0 0 := ⟨Int.le_refl _, fun i p h hi => by omega, .inl rfl⟩
theorem TopJ.take {ps : List Bw} {hs : List Int} {q : Bw} {j : Nat} {m : Int} {p : Bw} {h : Int} (t : TopJ ps hs q j m) (hp : ps[j]? = some p) (hh : hs[j]? = some h) (hi : inZ p q = true) : TopJ ps hs q (j + 1) (max m h) := by
  refine ⟨by have := t.nn; omega, fun i p' h' hi' e1 e2 e3 => ?_, ?_⟩
  · by_cases z : i = j
    · subst z; rw [hh] at e2; cases e2; omega
    · have := t.le i p' h' (by omega) e1 e2 e3; omega
  · by_cases z : m ≤ h
    · rw [Int.max_eq_right z]; exact .inr ⟨j, p, hp, hh, hi⟩
    · rw [Int.max_eq_left (by omega)]; exact t.is
theorem TopJ.top {ps : List Bw} {hs : List Int} {q : Bw} {m : Int} (t : TopJ ps hs q ps.length m) : Top (ps.zip hs) q m := by
  refine ⟨t.nn, fun e he hi => ?_, t.is.imp id fun ⟨i, p, e1, e2, e3⟩ => ⟨(p, m), ?_, e3, rfl⟩⟩
  · obtain ⟨i, hi', e1⟩ := List.getElem_of_mem he
    rw [List.getElem_zip] at e1
    rw [List.length_zip] at hi'
    have h1 : ps[i]? = some e.1 := by rw [List.getElem?_eq_getElem (by omega), ← e1]
    have h2 : hs[i]? = some e.2 := by rw [List.getElem?_eq_getElem (by omega), ← e1]
    exact t.le i _ _ (by omega) h1 h2 hi
  · obtain ⟨a1, a2⟩ := List.getElem?_eq_some_iff.mp e1
    obtain ⟨b1, b2⟩ := List.getElem?_eq_some_iff.mp e2
    refine List.mem_of_getElem? (i := i) ?_
    rw [List.getElem?_eq_getElem (by rw [List.length_zip]; omega), List.getElem_zip, a2, b2]
/-- bows put upon other numbers -/
def onZ (ss : List Int) (x : Nat × Nat) : Bw := (ss.getD x.1 0, ss.getD x.2 0)
end Rm

set_option Elab.async false
set_option linter.all false
set_option maxRecDepth 100000
set_option maxHeartbeats 4000000
/-! Mazes: sides, rows, the bows of a maze. -/
namespace L2
open PySem PySem.Spec PyProof.Rows
section
variable {σ : St} {H : Hp}
theorem w_disp {trs : List (TE × TE)} {Q : VK} : tDisp trs σ H Q = ∀ p, H p = none → tPairs trs σ (upd H p (.dK [])) fun ps H2 => H2 p = some (.dK []) ∧ ∃ kvs : List (Key × V), ps = kvs.map (fun kv => (kV kv.1, kv.2)) ∧ kvs.length ≤ 15 ∧ Q (.ref p) (upd H2 p (.dK (mergeK [] kvs))) := rfl
theorem w_pr0 {Q : List (V × V) → Hp → Prop} : tPairs [] σ H Q = Q [] H := rfl
theorem w_prS {tk tv : TE} {r : List (TE × TE)} {Q : List (V × V) → Hp → Prop} : tPairs ((tk, tv) :: r) σ H Q = tk σ H fun x H1 => tv σ H1 fun y H2 => tPairs r σ H2 fun ps H3 => Q ((x, y) :: ps) H3 := rfl
theorem w_sl {r : V → Option Int → Option Int → Hp → VK → Prop} {te : TE} {tl th : TO} {Q : VK} : tSl r te tl th σ H Q = te σ H fun x H1 => tl σ H1 fun l H2 => th σ H2 fun u H3 => r x l u H3 Q := rfl
theorem w_part {t : TE} {Q : Option Int → Hp → Prop} : tPart t σ H Q = t σ H fun x H1 => ∃ i, x = .int i ∧ Q (some i) H1 := rfl
theorem w_nopart {Q : Option Int → Hp → Prop} : tNoPart σ H Q = Q none H := rfl
end
end L2
namespace Rm
open PySem L2
/-- the sides: false is the left one -/
def sd (b : Bool) : Str := if b then Str.ofString "r" else Str.ofString "l"
theorem sd_l (b : Bool) : (sd b = Str.ofString "l") = (b = false) := by cases b <;> simp [sd, lit_l, lit_r]
theorem sd_r (b : Bool) : (sd b = Str.ofString "r") = (b = true) := by cases b <;> simp [sd, lit_l, lit_r]
theorem lit_lr : (Str.ofString "lr") = ⟨#[108, 114]⟩ := by decide +kernel
theorem lr_at {i : Int} (h0 : 0 ≤ i) (h1 : i < 2) : atI (Str.ofString "lr").cps.toList i = some (if i = 1 then 114 else 108) := by
  have e : i = 0 ∨ i = 1 := by omega
  rw [lit_lr]
  rcases e with rfl | rfl <;> rfl
theorem lr_sd (i : Int) : (⟨#[if i = 1 then 114 else 108]⟩ : Str) = sd (decide (i = 1)) := by
  by_cases h : i = 1
  · simp [h, sd, lit_r]
  · simp [h, sd, lit_l]
def odd (i : Nat) : Bool := i % 2 == 1
theorem odd_succ (i : Nat) : odd (i + 1) = !odd i := by
  unfold odd
  rcases Nat.mod_two_eq_zero_or_one i with h | h <;> simp [Nat.add_mod, h]
def rowsZ (ns : List Int) : List Int := 0 :: (ns ++ [(ns.length : Int) + 1])
theorem rowsZ_len (ns : List Int) : (rowsZ ns).length = ns.length + 2 := by simp [rowsZ]
def rowZ (ns : List Int) (i : Nat) : Int := (rowsZ ns).getD i 0
def stepB (ns : List Int) (i : Nat) : Bw := (min (rowZ ns i) (rowZ ns (i + 1)), max (rowZ ns i) (rowZ ns (i + 1)))
def onSide (b s : Bool) (i : Nat) : Bool := (b ^^ odd i) == s
def sideBows (b : Bool) (ns : List Int) (s : Bool) (m : Nat) : List Bw := ((List.range m).filter (onSide b s)).map (stepB ns)
theorem sideBows_yes {b : Bool} {ns : List Int} {s : Bool} {i : Nat} (h : onSide b s i = true) : sideBows b ns s (i + 1) = sideBows b ns s i ++ [stepB ns i] := by
  unfold sideBows
  rw [List.range_succ, List.filter_append, List.map_append]
  simp [h]
theorem sideBows_no {b : Bool} {ns : List Int} {s : Bool} {i : Nat} (h : onSide b s i = false) : sideBows b ns s (i + 1) = sideBows b ns s i := by
  unfold sideBows
  rw [List.range_succ, List.filter_append, List.map_append]
  simp [h]
theorem onSide_self (b : Bool) (i : Nat) : onSide b (b ^^ odd i) i = true := by simp [onSide]
theorem sideBows_len (b : Bool) (ns : List Int) (s : Bool) (m : Nat) : (sideBows b ns s m).length ≤ m := by
  unfold sideBows
  rw [List.length_map]
  exact Nat.le_trans (List.length_filter_le _ _) (by rw [List.length_range]; exact Nat.le_refl _)
theorem sideBows_sum (b : Bool) (ns : List Int) : ∀ m, (sideBows b ns false m).length + (sideBows b ns true m).length = m
  | 0 => rfl
  | m + 1 => by
    have ih := sideBows_sum b ns m
    cases h : (b ^^ odd m) with
    | false =>
      rw [sideBows_yes (s := false) (by simp [onSide, h]), sideBows_no (s := true) (by simp [onSide, h])]
      simp; omega
    | true =>
      rw [sideBows_no (s := false) (by simp [onSide, h]), sideBows_yes (s := true) (by simp [onSide, h])]
      simp; omega
structure Ord (ns : List Int) : Prop where
  len : ns.length ≤ 20
  perm : ns.Perm (rngZ 1 ns.length)
theorem Ord.mem {ns : List Int} (O : Ord ns) {x : Int} : x ∈ ns ↔ 1 ≤ x ∧ x ≤ ns.length := O.perm.mem_iff.trans mem_rng1
theorem Ord.rows_nodup {ns : List Int} (O : Ord ns) : (rowsZ ns).Nodup := by
  have nd : ns.Nodup := O.perm.nodup_iff.mpr (rng1_nodup _)
  unfold rowsZ
  rw [List.nodup_cons, List.nodup_append]
  refine ⟨fun h => ?_, nd, by simp, fun a ha b hb e => ?_⟩
  · rcases List.mem_append.mp h with z | z
    · have := O.mem.mp z; omega
    · have : (0 : Int) = ns.length + 1 := by simpa using z
      omega
  · have : b = (ns.length : Int) + 1 := by simpa using hb
    have := O.mem.mp ha
    omega
theorem Ord.rows_mem {ns : List Int} (O : Ord ns) {x : Int} (h : x ∈ rowsZ ns) : 0 ≤ x ∧ x ≤ (ns.length : Int) + 1 := by
  unfold rowsZ at h
  rcases List.mem_cons.mp h with z | z
  · omega
  · rcases List.mem_append.mp z with z | z
    · have := O.mem.mp z; omega
    · have : x = (ns.length : Int) + 1 := by simpa using z
      omega
theorem rowZ_get {ns : List Int} {i : Nat} (h : i < ns.length + 2) : (rowsZ ns)[i]? = some (rowZ ns i) := by
  unfold rowZ
  have : i < (rowsZ ns).length := by rw [rowsZ_len]; exact h
  simp [List.getD, this]
theorem Ord.row_inj {ns : List Int} (O : Ord ns) {i j : Nat} (hi : i < ns.length + 2) (hj : j < ns.length + 2) (h : rowZ ns i = rowZ ns j) : i = j := by
  have h1 := List.getElem?_eq_some_iff.mp (rowZ_get hi)
  have h2 := List.getElem?_eq_some_iff.mp (rowZ_get hj)
  exact (List.getElem_inj O.rows_nodup (h₀ := h1.1) (h₁ := h2.1)).mp (h1.2.trans (h.trans h2.2.symm))
theorem Ord.row_in {ns : List Int} (O : Ord ns) {i : Nat} (hi : i < ns.length + 2) : 0 ≤ rowZ ns i ∧ rowZ ns i ≤ (ns.length : Int) + 1 := O.rows_mem (List.mem_of_getElem? (rowZ_get hi))
theorem rowZ_0 (ns : List Int) : rowZ ns 0 = 0 := rfl
theorem rowZ_mid {ns : List Int} {i : Nat} {x : Int} (h : (ns ++ [(ns.length : Int) + 1])[i]? = some x) : rowZ ns (i + 1) = x := by simp only [rowZ, rowsZ, List.getD, List.getElem?_cons_succ, h]; rfl
theorem rowZ_ring {ns : List Int} {i : Nat} {x : Int} (h : ns[i]? = some x) : rowZ ns (i + 1) = x := rowZ_mid (by rw [List.getElem?_append_left (List.getElem?_eq_some_iff.mp h).1]; exact h)
theorem Ord.step_lt {ns : List Int} (O : Ord ns) {i : Nat} (hi : i ≤ ns.length) : (stepB ns i).1 < (stepB ns i).2 := by
  have : rowZ ns i ≠ rowZ ns (i + 1) := fun e => by
    have := O.row_inj (by omega) (by omega) e
    omega
  show min (rowZ ns i) (rowZ ns (i + 1)) < max (rowZ ns i) (rowZ ns (i + 1))
  omega
theorem Ord.step_in {ns : List Int} (O : Ord ns) {i : Nat} (hi : i ≤ ns.length) : 0 ≤ (stepB ns i).1 ∧ (stepB ns i).2 ≤ (ns.length : Int) + 1 := by
  have h1 := O.row_in (i := i) (by omega)
  have h2 := O.row_in (i := i + 1) (by omega)
  show 0 ≤ min (rowZ ns i) (rowZ ns (i + 1)) ∧ max (rowZ ns i) (rowZ ns (i + 1)) ≤ _
  omega
theorem side_mem {b : Bool} {ns : List Int} {s : Bool} {m : Nat} {p : Bw} (h : p ∈ sideBows b ns s m) : ∃ i, i < m ∧ onSide b s i = true ∧ p = stepB ns i := by
  unfold sideBows at h
  obtain ⟨i, hi, rfl⟩ := List.mem_map.mp h
  obtain ⟨h1, h2⟩ := List.mem_filter.mp hi
  exact ⟨i, List.mem_range.mp h1, h2, rfl⟩
/-- a row is one of a bow's two -/
def hasR (x : Int) (p : Bw) : Bool := decide (x = p.1) || decide (x = p.2)
theorem Ord.has_iff {ns : List Int} (O : Ord ns) {i j : Nat} (hi : i < ns.length + 2) (hj : j ≤ ns.length) : hasR (rowZ ns i) (stepB ns j) = decide (j = i ∨ j + 1 = i) := by
  have e : hasR (rowZ ns i) (stepB ns j) = decide (rowZ ns i = rowZ ns j ∨ rowZ ns i = rowZ ns (j + 1)) := by
    show (decide (rowZ ns i = min (rowZ ns j) (rowZ ns (j + 1))) || decide (rowZ ns i = max (rowZ ns j) (rowZ ns (j + 1)))) = _
    rw [← Bool.decide_or]
    exact decide_eq_decide.mpr (by omega)
  rw [e]
  refine decide_eq_decide.mpr ⟨fun h => ?_, fun h => ?_⟩
  · rcases h with h | h
    · exact .inl (O.row_inj hi (by omega) h).symm
    · exact .inr (O.row_inj hi (by omega) h).symm
  · rcases h with rfl | rfl
    · exact .inl rfl
    · exact .inr rfl
theorem range_one {k : Nat} : ∀ {m : Nat}, k < m → (List.range m).filter (fun j => decide (j = k)) = [k]
  | m + 1, h => by
    rw [List.range_succ, List.filter_append]
    by_cases e : k = m
    · subst e
      have : (List.range k).filter (fun j => decide (j = k)) = [] := List.filter_eq_nil_iff.mpr fun x hx => by have := List.mem_range.mp hx; simp; omega
      simp [this]
    · have hm : ¬ m = k := fun z => e z.symm
      rw [range_one (m := m) (by omega)]
      simp [hm]
theorem odd_ne {b s : Bool} {j k : Nat} (h1 : onSide b s j = true) (h2 : onSide b s k = true) (h : j = k + 1) : False := by
  subst h
  simp only [onSide, odd_succ, beq_iff_eq] at h1 h2
  cases b <;> cases s <;> cases hk : odd k <;> simp [hk] at h1 h2
/-- of the bows of one side just one has a row that a step of this side comes from or to -/
theorem Ord.only {ns : List Int} (O : Ord ns) {b s : Bool} {i k : Nat} (hk : k ≤ ns.length) (hs : onSide b s k = true) (h : k = i ∨ k + 1 = i) : (sideBows b ns s (ns.length + 1)).filter (hasR (rowZ ns i)) = [stepB ns k] := by
  unfold sideBows
  rw [List.filter_map, List.filter_filter]
  have e : (List.range (ns.length + 1)).filter (fun a => (hasR (rowZ ns i) ∘ stepB ns) a && onSide b s a) = (List.range (ns.length + 1)).filter (fun j => decide (j = k)) := by
    refine List.filter_congr fun j hj => ?_
    have hj := List.mem_range.mp hj
    show (hasR (rowZ ns i) (stepB ns j) && onSide b s j) = _
    rw [O.has_iff (by omega) (by omega)]
    by_cases e : j = k
    · subst e; simp [hs, h]
    · cases hsj : onSide b s j with
      | false => simp [e]
      | true =>
        have : ¬ (j = i ∨ j + 1 = i) := fun z => by
          have : j = k + 1 ∨ k = j + 1 := by omega
          rcases this with z | z
          · exact odd_ne hsj hs z
          · exact odd_ne hs hsj z
        simp [this, e]
  rw [e, range_one (by omega)]
  rfl
theorem step_sum (ns : List Int) (i : Nat) : (stepB ns i).1 + (stepB ns i).2 = rowZ ns i + rowZ ns (i + 1) := by
  show min (rowZ ns i) (rowZ ns (i + 1)) + max (rowZ ns i) (rowZ ns (i + 1)) = _
  omega
/-! ### sorted lists of bows -/
theorem leB_one {ps qs : List Bw} (hp : ps.Perm qs) (h1 : ps.Pairwise leB) (h2 : qs.Pairwise leB) : ps = qs :=
  List.Perm.eq_of_pairwise (fun a b _ _ h h' => by
    unfold leB at h h'
    exact Prod.ext (by omega) (by omega)) h1 h2 hp
/-- the bows of a side, sorted -/
structure SideOf (b : Bool) (ns : List Int) (s : Bool) (L : List Bw) : Prop where
  perm : L.Perm (sideBows b ns s (ns.length + 1))
  asc : L.Pairwise leB
theorem SideOf.uniq {b : Bool} {ns : List Int} {s : Bool} {L M : List Bw} (h : SideOf b ns s L) (h' : SideOf b ns s M) : L = M := leB_one (h.perm.trans h'.perm.symm) h.asc h'.asc
theorem SideOf.len {b : Bool} {ns : List Int} {s : Bool} {L : List Bw} (h : SideOf b ns s L) (O : Ord ns) : L.length ≤ 21 := by
  have h1 := h.perm.length_eq
  have h2 := sideBows_len b ns s (ns.length + 1)
  have := O.len
  omega
theorem SideOf.lt {b : Bool} {ns : List Int} {s : Bool} {L : List Bw} (h : SideOf b ns s L) (O : Ord ns) : ∀ p ∈ L, p.1 < p.2 := fun p hp => by
  obtain ⟨i, hi, _, rfl⟩ := side_mem (h.perm.mem_iff.mp hp)
  exact O.step_lt (by omega)
theorem SideOf.in {b : Bool} {ns : List Int} {s : Bool} {L : List Bw} (h : SideOf b ns s L) (O : Ord ns) : ∀ p ∈ L, 0 ≤ p.2 ∧ p.2 < 1000 := fun p hp => by
  obtain ⟨i, hi, _, rfl⟩ := side_mem (h.perm.mem_iff.mp hp)
  have := O.step_in (i := i) (by omega)
  have := O.step_lt (i := i) (by omega)
  have := O.len
  omega
theorem SideOf.only {b : Bool} {ns : List Int} {s : Bool} {L : List Bw} (h : SideOf b ns s L) (O : Ord ns) {i k : Nat} (hk : k ≤ ns.length) (hs : onSide b s k = true) (e : k = i ∨ k + 1 = i) : L.filter (hasR (rowZ ns i)) = [stepB ns k] := by
  have := h.perm.filter (hasR (rowZ ns i))
  rw [O.only hk hs e] at this
  exact List.perm_singleton.mp this
theorem two_sorted {x y : Int} {ms : List Int} (h : ms.Perm [x, y]) (hs : ms.Pairwise (· ≤ ·)) : ms = [min x y, max x y] := by
  have : (if x ≤ y then [x, y] else [y, x]).Perm [x, y] := by
    by_cases e : x ≤ y
    · rw [if_pos e]
    · rw [if_neg e]; exact List.Perm.swap x y []
  have e2 : [min x y, max x y] = (if x ≤ y then [x, y] else [y, x]) := by
    by_cases e : x ≤ y
    · rw [if_pos e]; simp [Int.min_def, Int.max_def, e]
    · rw [if_neg e]
      have : y ≤ x := by omega
      simp [Int.min_def, Int.max_def, e]
  rw [e2]
  refine List.Perm.eq_of_pairwise (le := (· ≤ ·)) (fun a b _ _ h h' => by omega) hs ?_ (h.trans this.symm)
  by_cases e : x ≤ y
  · rw [if_pos e]; simp [e]
  · rw [if_neg e]; simp; omega
theorem cut_two {ns : List Int} {i : Nat} (h : i ≤ ns.length) : cutV ((rowsZ ns).map V.int) (some (0 + (i : Int))) (some (0 + (i : Int) + 2)) = [rowZ ns i, rowZ ns (i + 1)].map V.int := by
  have e1 : HT.sIx ((rowsZ ns).map V.int).length 0 (some (0 + (i : Int))) = i := by
    show (if (0 + (i : Int)) < 0 then (0 + (i : Int) + (((rowsZ ns).map V.int).length : Int)).toNat else min (0 + (i : Int)).toNat ((rowsZ ns).map V.int).length) = i
    rw [if_neg (by omega), List.length_map, rowsZ_len]; omega
  have e2 : HT.sIx ((rowsZ ns).map V.int).length ((rowsZ ns).map V.int).length (some (0 + (i : Int) + 2)) = i + 2 := by
    show (if (0 + (i : Int) + 2) < 0 then (0 + (i : Int) + 2 + (((rowsZ ns).map V.int).length : Int)).toNat else min (0 + (i : Int) + 2).toNat ((rowsZ ns).map V.int).length) = i + 2
    rw [if_neg (by omega), List.length_map, rowsZ_len]; omega
  unfold cutV
  rw [e1, e2, show i + 2 - i = 2 by omega, ← List.map_drop, ← List.map_take]
  congr 1
  have h1 := List.getElem?_eq_some_iff.mp (rowZ_get (ns := ns) (i := i) (by omega))
  have h2 := List.getElem?_eq_some_iff.mp (rowZ_get (ns := ns) (i := i + 1) (by omega))
  rw [List.drop_eq_getElem_cons h1.1, List.drop_eq_getElem_cons h2.1, h1.2, h2.2]
  rfl
/-! ### the specs -/
def MazeAt (H : Hp) (m o : Addr) (b : Bool) (ns : List Int) : Prop := H m = some (.tup [.str (sd b), .ref o]) ∧ H o = some (.tup (ns.map V.int))
theorem MazeAt.same {H H' : Hp} {m o : Addr} {b : Bool} {ns : List Int} (h : MazeAt H m o b ns) (s : Same H H') : MazeAt H' m o b ns := ⟨s _ _ h.1, s _ _ h.2⟩
def spOther : Sp := fun vs H Q _ => ∃ b, vs = [.str (sd b)] ∧ Q (.str (sd !b)) H
def spSideOf : Sp := fun vs H Q _ => ∃ m o b ns, ∃ k : Nat, vs = [.ref m, .int k] ∧ MazeAt H m o b ns ∧ Q (.str (sd (b ^^ odd k))) H
def spRows : Sp := fun vs H Q _ => ∃ m o b ns, vs = [.ref m] ∧ MazeAt H m o b ns ∧ ns.length ≤ 40 ∧ ∀ l H', H l = none → Same H H' → H' l = some (.lst ((rowsZ ns).map V.int)) → Q (.ref l) H'
structure BowsOf (H : Hp) (t l r : Addr) (b : Bool) (ns : List Int) (L R : List Bw) : Prop where
  tup : H t = some (.tup [.ref l, .ref r])
  left : BowsAt H l L
  right : BowsAt H r R
  isL : SideOf b ns false L
  isR : SideOf b ns true R
  ne : l ≠ r
def spBowsOf : Sp := fun vs H Q _ => ∃ m o b ns, vs = [.ref m] ∧ MazeAt H m o b ns ∧ Ord ns ∧ ∀ t l r L R H', H t = none → H l = none → H r = none → Same H H' → BowsOf H' t l r b ns L R → Q (.ref t) H'
def spFrom : Sp := fun vs H Q _ => ∃ l ps x p, vs = [.ref l, .int x] ∧ BowsAt H l ps ∧ ps.length ≤ 40 ∧ ps.filter (hasR x) = [p] ∧ ∀ H', Same H H' → Q (.int (p.1 + p.2 - x)) H'
def spSound : Sp := fun vs H Q _ => ∃ l ps, vs = [.ref l] ∧ BowsAt H l ps ∧ ps.length ≤ 40 ∧ ps.Pairwise leB ∧ (∀ p ∈ ps, 0 ≤ p.2 ∧ p.2 < 1000) ∧ (∀ p ∈ ps, p.1 < p.2) ∧ ∀ H', Same H H' → Q (.bl true) H'
end Rm
namespace Rm
open PySem L2
theorem bows_push {H : Hp} {l t : Addr} {as : List Addr} {ps : List Bw} {p : Bw} (h1 : H l = some (.lst (as.map V.ref))) (h2 : Paired (tupAt H) as ps) (ht : tupAt H t p) : BowsAt (upd H l (.lst (as.map V.ref ++ [.ref t]))) l (ps ++ [p]) := by
  have st : ∀ {a : Addr} {p : Bw}, tupAt H a p → tupAt (upd H l (.lst (as.map V.ref ++ [.ref t]))) a p := fun {a p} h => by
    have : a ≠ l := fun e => by subst e; unfold tupAt at h; rw [h1] at h; cases h
    unfold tupAt; rw [upd_ne this]; exact h
  refine ⟨as ++ [t], by rw [upd_same, List.map_append]; rfl, ?_⟩
  clear h1
  generalize upd H l (.lst (as.map V.ref ++ [.ref t])) = H' at st ⊢
  induction h2 with
  | nil => exact .cons (st ht) .nil
  | cons a b ih => exact .cons (st a) ih
theorem pair_snoc {α β : Type} {F : α → β → Prop} {l : List α} {m : List β} {a : α} {b : β} (h : Paired F l m) (hb : F a b) : Paired F (l ++ [a]) (m ++ [b]) := by
  induction h with
  | nil => exact .cons hb .nil
  | cons x y ih => exact .cons x ih
end Rm

set_option Elab.async false
set_option linter.all false
set_option maxRecDepth 100000
set_option maxHeartbeats 4000000
namespace Rm
open PySem L2 PyProof.Rows
def top (i : Nat) : Stmt := PySem.Challenge.pw_ringmaze_k07_bows_of_mazes.main.body.getD i (.Pass ⟨0, 0, 0, 0⟩)
abbrev s_other_side : Stmt := top 1
theorem sc_other_side : FnScope ["side"] ["side"] (defScope s_other_side) := ⟨rfl, rfl, rfl, by decide +kernel, rfl, by decide +kernel, by decide +kernel⟩
-- slots: 0 side
abbrev s_side_of_step : Stmt := top 2
theorem sc_side_of_step : FnScope ["maze", "step", "side"] ["maze", "step"] (defScope s_side_of_step) := ⟨rfl, rfl, rfl, by decide +kernel, rfl, by decide +kernel, by decide +kernel⟩
-- slots: 0 maze, 1 step, 2 side
abbrev s_rows_of_way : Stmt := top 3
theorem sc_rows_of_way : FnScope ["maze", "order"] ["maze"] (defScope s_rows_of_way) := ⟨rfl, rfl, rfl, by decide +kernel, rfl, by decide +kernel, by decide +kernel⟩
-- slots: 0 maze, 1 order
abbrev s_bows_of : Stmt := top 4
theorem sc_bows_of : FnScope ["maze", "rows", "told", "step", "bow"] ["maze"] (defScope s_bows_of) := ⟨rfl, rfl, rfl, by decide +kernel, rfl, by decide +kernel, by decide +kernel⟩
-- slots: 0 maze, 1 rows, 2 told, 3 step, 4 bow
abbrev s_cell_at : Stmt := top 6
theorem sc_cell_at : FnScope ["_law_script", "_law_k"] ["_law_script", "_law_k"] (defScope s_cell_at) := ⟨rfl, rfl, rfl, by decide +kernel, rfl, by decide +kernel, by decide +kernel⟩
-- slots: 0 script, 1 k
abbrev s_mix : Stmt := top 7
theorem sc_mix : FnScope ["_law_seed", "_law_k", "_law_number"] ["_law_seed", "_law_k"] (defScope s_mix) := ⟨rfl, rfl, rfl, by decide +kernel, rfl, by decide +kernel, by decide +kernel⟩
-- slots: 0 seed, 1 k, 2 number
abbrev s_whole : Stmt := top 8
theorem sc_whole : FnScope ["_law_found"] ["_law_found"] (defScope s_whole) := ⟨rfl, rfl, rfl, by decide +kernel, rfl, by decide +kernel, by decide +kernel⟩
-- slots: 0 found
abbrev s_order_by : Stmt := top 9
theorem sc_order_by : FnScope ["_law_cell", "_law_room", "_law_many", "_law_rest", "_law_pool", "_law_order", "_law_k", "_law_digit"] ["_law_cell", "_law_room"] (defScope s_order_by) := ⟨rfl, rfl, rfl, by decide +kernel, rfl, by decide +kernel, by decide +kernel⟩
-- slots: 0 cell, 1 room, 2 many, 3 rest, 4 pool, 5 order, 6 k, 7 digit
abbrev s_from : Stmt := top 10
theorem sc_from : FnScope ["_law_bows", "_law_row", "_law_found"] ["_law_bows", "_law_row"] (defScope s_from) := ⟨rfl, rfl, rfl, by decide +kernel, rfl, by decide +kernel, by decide +kernel⟩
-- slots: 0 bows, 1 row, 2 found
abbrev s_sound : Stmt := top 11
theorem sc_sound : FnScope ["_law_bows", "_law_bow"] ["_law_bows"] (defScope s_sound) := ⟨rfl, rfl, rfl, by decide +kernel, rfl, by decide +kernel, by decide +kernel⟩
-- slots: 0 bows, 1 bow
abbrev s_law : Stmt := top 12
theorem sc_law : FnScope ["_law_script", "_law_side", "_law_order", "_law_found", "_law_row", "_law_k", "_law_ring", "_law_kept", "_law_again"] ["_law_script"] (defScope s_law) := ⟨rfl, rfl, rfl, by decide +kernel, rfl, by decide +kernel, by decide +kernel⟩
-- slots: 0 script, 1 side, 2 order, 3 found, 4 row, 5 k, 6 ring, 7 kept, 8 again
structure Blt (mg : Str → Option Value) : Prop where
  len : mg "len" = none
  range : mg "range" = none
  int : mg "int" = none
  list : mg "list" = none
  tuple : mg "tuple" = none
  isinstance : mg "isinstance" = none
  str : mg "str" = none
  bool : mg "bool" = none
  sorted : mg "sorted" = none
local macro_rules | `(tactic| walk_at "wp") => `(tactic| simp (maxSteps := 3000000) only [L2.w_var0, L2.w_varS, L2.w_c, L2.w_op, L2.w_un, L2.w_I0, L2.w_I, L2.w_U, L2.w_eqI, L2.w_neI, L2.w_eqS, L2.w_neS, L2.w_eqB, L2.w_neB, L2.w_exB, L2.w_exI, L2.w_exB2, L2.w_addS, L2.w_aug, L2.w_ip, if_true, if_false, Bool.false_eq_true, L2.w_K, L2.w_exR, L2.w_exR2, L2.w_ex1I, L2.w_ex1S, L2.w_ex1R, L2.w_ex2R, L2.w_ex2I, L2.w_int1, L2.w_ixS, L2.w_ixL, L2.w_ixT, L2.w_app, L2.w_pop, L2.w_test, L2.w_tB, L2.w_and, L2.w_or, L2.w_not, L2.w_andV, L2.w_orV, L2.w_notV, L2.w_if, L2.w_seq, L2.w_next, L2.w_brk, L2.w_cont, L2.w_drop, L2.w_ret, L2.w_retN, L2.w_ifS, L2.w_asg, L2.w_gName, L2.w_set0, L2.w_setS, L2.w_nil, L2.w_cons, L2.w_cb, L2.w_tup, L2.w_lst, L2.w_call, L2.w_bm, L2.w_bm0, L2.w_chain, L2.w_chain3, L2.w_for1, L2.w_for2, L2.w_forL, L2.w_forT, L2.w_gTup, L2.w_gNil, L2.w_gCons, List.append_nil, decide_eq_true_eq, Bool.not_eq_true', decide_eq_false_iff_not, L2.w_compL, L2.w_compT, L2.w_comp1, L2.w_comp2, L2.w_noif, L2.w_exS, L2.w_init0, L2.w_initS, L2.w_initN, L2.w_get0, L2.w_getS, L2.w_gSub, L2.w_dget, L2.w_disp, L2.w_pr0, L2.w_prS, L2.w_sl, L2.w_part, L2.w_nopart])
section
variable {P : Program} {w : World} {K : PySem.W.Frag} {mg : Str → Option Value} {base : Heap}
theorem ok_other_side (E : Fn K mg "other_side" s_other_side ["side"]) : Def P w K mg base 1 "other_side" s_other_side ["side"] spOther := E.mk' fun f fd F => by
  refine F.okS sc_other_side (fun vs H Q E h => ?_) (fun cdv A outer s H vs Q E hr h => ?_)
  · obtain ⟨b, rfl, _⟩ := h
    rfl
  · obtain ⟨b, rfl, q⟩ := h
    refine ⟨[some (.str (sd b))], _, rfl, (L2.QSs.h (qpss_one (qps_ret (qpe_ifExp (qpt_cmpR op_eq (qpv 0) qpe_str (nomark _)) qpe_str qpe_str)))), ?_⟩
    walk_at "wp"
    simp only [sd_l]
    refine ite2 (fun h => ?_) (fun h => ?_)
    · subst h; exact q
    · have e : b = true := by cases b; exact absurd rfl h; rfl
      subst e; exact q
theorem ok_side_of_step (E : Fn K mg "side_of_step" s_side_of_step ["maze", "step"]) (D_other_side : Def P w K mg base 1 "other_side" s_other_side ["side"] spOther) : Def P w K mg base 2 "side_of_step" s_side_of_step ["maze", "step"] spSideOf := E.mk' fun f fd F => by
  refine F.okS sc_side_of_step (fun vs H Q E h => ?_) (fun cdv A outer s H vs Q E hr h => ?_)
  · obtain ⟨m, o, b, ns, k, rfl, _⟩ := h
    rfl
  · obtain ⟨m, o, b, ns, k, rfl, hm, q⟩ := h
    refine ⟨[some (.ref m), some (.int k), none], _, rfl, (L2.QSs.h (qpss_cons (qps_set (i := 2) sc_side_of_step.nd rfl (Or.inl rfl) (qpe_ix ix_tup (qpv 0) qpe_int (fun _ _ => rfl)))
      (qpss_one (qps_ret (qpe_ifExp (qpt_cmpR op_eq (qpe_op op_mod (qpv 1) qpe_int) qpe_int (nomark _)) (qpv 2) (qpe_callD D_other_side (hr.mono (by decide)) (by rfl) (qpa_Name (qpv 2) qpa_nil))))))), ?_⟩
    walk_at "wp"
    refine ⟨_, _, SqT.of hm.1, rfl, ?_⟩
    refine ⟨by decide, ite2 (fun h => ?_) (fun h => ?_)⟩
    · have e : odd k = false := by simp [odd]; omega
      rw [e, Bool.xor_false] at q
      exact q
    · have e : odd k = true := by simp [odd]; omega
      rw [e, Bool.xor_true] at q
      exact ⟨b, rfl, q⟩
theorem ok_rows_of_way (B : Blt mg) (E : Fn K mg "rows_of_way" s_rows_of_way ["maze"]) : Def P w K mg base 1 "rows_of_way" s_rows_of_way ["maze"] spRows := E.mk' fun f fd F => by
  refine F.okS sc_rows_of_way (fun vs H Q E h => ?_) (fun cdv A outer s H vs Q E hr h => ?_)
  · obtain ⟨m, o, b, ns, rfl, _⟩ := h
    rfl
  · obtain ⟨m, o, b, ns, rfl, hm, hl, q⟩ := h
    refine ⟨[some (.ref m), none], _, rfl, (L2.QSs.h (qpss_cons (qps_set (i := 1) sc_rows_of_way.nd rfl (Or.inl rfl) (qpe_ix ix_tup (qpv 0) qpe_int (fun _ _ => rfl)))
      (qpss_one (qps_ret (qpe_op op_cat (qpe_op op_cat (qpe_lst (qpa_Constant qpe_int qpa_nil)) (qpe_callTy call_list_of (by rfl) B.list PyProof.Rows.boot_list (qpa_Name (qpv 1) qpa_nil))) (qpe_lst (qpa_BinOp (qpe_op op_add (qpe_callB call_len_seq (by rfl) B.len PySem.boot_len (qpa_Name (qpv 1) qpa_nil)) qpe_int) qpa_nil))))))), ?_⟩
    walk_at "wp"
    refine ⟨_, _, SqT.of hm.1, rfl, (by show 1 ≤ sizeLine; decide), fun p1 n1 => ?_⟩
    have s1 := (Same.refl H).new (o := .lst [.int 0]) n1
    refine ⟨o, _, rfl, .inr (SqT.of (s1 _ _ hm.2)), fun p2 n2 => ?_⟩
    have s2 := s1.new (o := .lst (ns.map V.int)) (s1.free n2)
    have e12 : p1 ≠ p2 := fun e => by subst e; rw [upd_same] at n2; cases n2
    refine ⟨p1, p2, _, _, rfl, rfl, by rw [upd_ne e12, upd_same], upd_same, Nat.le_of_lt (small1000 (by simp; omega)), fun p3 n3 => ?_⟩
    have s3 := s2.new (o := .lst ([.int 0] ++ ns.map V.int)) (s2.free n3)
    refine ⟨o, _, rfl, .inr (SqT.of (s3 _ _ hm.2)), (by show 1 ≤ sizeLine; decide), fun p4 n4 => ?_⟩
    have s4 := s3.new (o := .lst [.int (((ns.map V.int).length : Int) + 1)]) (s3.free n4)
    have e34 : p3 ≠ p4 := fun e => by subst e; rw [upd_same] at n4; cases n4
    refine ⟨p3, p4, _, _, rfl, rfl, by rw [upd_ne e34, upd_same], upd_same, Nat.le_of_lt (small1000 (by simp; omega)), fun p5 n5 => ?_⟩
    have s5 := s4.new (o := .lst ([.int 0] ++ ns.map V.int ++ [.int (((ns.map V.int).length : Int) + 1)])) (s4.free n5)
    refine q p5 _ (s4.free n5) s5 ?_
    rw [upd_same]
    simp [rowsZ]
theorem ok_bows_of (B : Blt mg) (E : Fn K mg "bows_of" s_bows_of ["maze"]) (D_side_of_step : Def P w K mg base 2 "side_of_step" s_side_of_step ["maze", "step"] spSideOf) (D_rows_of_way : Def P w K mg base 1 "rows_of_way" s_rows_of_way ["maze"] spRows) : Def P w K mg base 3 "bows_of" s_bows_of ["maze"] spBowsOf := E.mk' fun f fd F => by
  refine F.okS sc_bows_of (fun vs H Q E h => ?_) (fun cdv A outer s H vs Q E hr h => ?_)
  · obtain ⟨m, o, b, ns, rfl, _⟩ := h
    rfl
  · obtain ⟨m, o, b, ns, rfl, hm, O, q⟩ := h
    have hlen := O.len
    refine ⟨[some (.ref m), none, none, none, none], _, rfl, (L2.QSs.h (qpss_cons (qps_set (i := 1) sc_bows_of.nd rfl (Or.inl rfl) (qpe_callD D_rows_of_way (hr.mono (by decide)) (by rfl) (qpa_Name (qpv 0) qpa_nil)))
      (qpss_cons (qps_set (i := 2) sc_bows_of.nd rfl (Or.inl rfl) (qpe_disp (qpps_cons qpe_str (qpe_lst qpa_nil) (qpps_cons qpe_str (qpe_lst qpa_nil) qpps_nil)) rfl rfl (fun z => nomatch z) (by decide)))
      (qpss_cons (qps_for PassesOwn.never rfl (qpi_range1 (by rfl) B.range (qpa_BinOp (qpe_op op_sub (qpe_callB call_len_seq (by rfl) B.len PySem.boot_len (qpa_Name (qpv 1) qpa_nil)) qpe_int) qpa_nil)) (qpg_name (i := 3) sc_bows_of.nd rfl (Or.inl rfl))
      (qpss_cons (qps_set (i := 4) sc_bows_of.nd rfl (Or.inl rfl) (qpe_callTy call_tuple_of (by rfl) B.tuple PyProof.Rows.boot_tuple (qpa_Call (qpe_callB call_sorted_ints (by rfl) B.sorted PyProof.Rows.boot_sorted (qpa_Subscript (qpe_slice sl_list (qpv 1) (qpo_some (qpv 3)) (qpo_some (qpe_op op_add (qpv 3) qpe_int))) qpa_nil)) qpa_nil)))
        (qpss_one (qps_expr (qpe_bm PySem.F.plainAttrs_list PySem.F.slot_list_append PySem.F.type_list_append mt_append (qpe_dget (hu_1 hr) (qpv 2) (qpe_callD D_side_of_step (hr.mono (by decide)) (by rfl) (qpa_Name (qpv 0) (qpa_Name (qpv 3) qpa_nil))) (fun _ _ => rfl)) (qpa_Name (qpv 4) qpa_nil))))))
      (qpss_one (qps_ret (qpe_tup (qpa_Call (qpe_callB call_sorted_bows (by rfl) B.sorted PyProof.Rows.boot_sorted (qpa_Subscript (qpe_dget (hu_1 hr) (qpv 2) qpe_str (fun _ _ => rfl)) qpa_nil)) (qpa_Call (qpe_callB call_sorted_bows (by rfl) B.sorted PyProof.Rows.boot_sorted (qpa_Subscript (qpe_dget (hu_1 hr) (qpv 2) qpe_str (fun _ _ => rfl)) qpa_nil)) qpa_nil))))))))), ?_⟩
    walk_at "wp"
    refine ⟨m, o, b, ns, rfl, hm, by omega, fun rl H1 nrl s1 hrl => ?_⟩
    walk_at "wp"
    intro d nd
    have sd1 := s1.new (o := .dK []) (s1.free nd)
    refine ⟨Nat.zero_le _, fun l1 nl1 => ?_⟩
    have edl : d ≠ l1 := fun e => by subst e; rw [upd_same] at nl1; cases nl1
    have sl1 := sd1.new (o := .lst []) (sd1.free nl1)
    refine ⟨Nat.zero_le _, fun r1 nr1 => ?_⟩
    have edr : d ≠ r1 := fun e => by subst e; rw [upd_ne edl, upd_same] at nr1; cases nr1
    have elr : l1 ≠ r1 := fun e => by subst e; rw [upd_same] at nr1; cases nr1
    have sr1 := sl1.new (o := .lst []) (sl1.free nr1)
    refine ⟨by rw [upd_ne edr, upd_ne edl, upd_same], [(.inr (Str.ofString "l"), .ref l1), (.inr (Str.ofString "r"), .ref r1)], rfl, (by show 2 ≤ 15; decide), ?_⟩
    have fd0 : H d = none := s1.free nd
    have fl0 : H l1 = none := sd1.free nl1
    have fr0 : H r1 = none := sl1.free nr1
    have erl : rl ≠ d := ne_of_none hrl nd
    have erl1 : rl ≠ l1 := ne_of_none (((Same.refl H1).new (o := .dK []) nd) _ _ hrl) nl1
    have erl2 : rl ≠ r1 := ne_of_none ((((Same.refl H1).new (o := .dK []) nd).new (o := .lst []) (((Same.refl H1).new (o := .dK []) nd).free nl1)) _ _ hrl) nr1
    generalize hkv : mergeK [] [((.inr (Str.ofString "l") : Key), V.ref l1), (.inr (Str.ofString "r"), .ref r1)] = kvs
    have kl : valV kvs (.inr (Str.ofString "l")) = some (.ref l1) := by subst hkv; rfl
    have kr : valV kvs (.inr (Str.ofString "r")) = some (.ref r1) := by subst hkv; rfl
    have ks : ∀ s : Bool, valV kvs (.inr (sd s)) = some (.ref (if s then r1 else l1)) := fun s => by cases s; exact kl; exact kr
    refine ⟨_, .inl (SqL.of (by rw [upd_ne erl, upd_ne erl2, upd_ne erl1, upd_ne erl]; exact hrl)), by rw [List.length_map, rowsZ_len]; omega, by rw [List.length_map, rowsZ_len]; omega, ?_⟩
    have eN : (((rowsZ ns).map V.int).length - 1 : Int).toNat = ns.length + 1 := by rw [List.length_map, rowsZ_len]; omega
    rw [eN]
    refine for_range (n := ns.length + 1) (fun i σ H2 => ∃ (x3 x4 : Option V), σ = [some (.ref m), some (.ref rl), some (.ref d), x3, x4] ∧ Same H H2 ∧ H2 rl = some (.lst ((rowsZ ns).map V.int)) ∧ H2 d = some (.dK kvs) ∧ BowsAt H2 l1 (sideBows b ns false i) ∧ BowsAt H2 r1 (sideBows b ns true i))
      ⟨none, none, rfl, sr1.new fd0, by rw [upd_ne erl, upd_ne erl2, upd_ne erl1, upd_ne erl]; exact hrl, upd_same, ⟨[], by rw [upd_ne edl.symm, upd_ne elr, upd_same]; rfl, .nil⟩, ⟨[], by rw [upd_ne edr.symm, upd_same]; rfl, .nil⟩⟩ ?_ ?_
    · rintro i σ H2 hi ⟨x3, x4, rfl, sm, hrl2, hd2, bl, br⟩
      walk_at "wp"
      refine ⟨rl, _, rfl, SqL.of hrl2, fun p1 n1 => ?_⟩
      rw [cut_two (by omega)]
      have t1 := (Same.refl H2).new (o := .lst ([rowZ ns i, rowZ ns (i + 1)].map V.int)) n1
      refine ⟨p1, _, rfl, SqL.of upd_same, (by show 2 < 64; decide), fun p2 ms n2 hp hs => ?_⟩
      rw [two_sorted hp hs]
      have t2 := t1.new (o := .lst ([min (rowZ ns i) (rowZ ns (i + 1)), max (rowZ ns i) (rowZ ns (i + 1))].map V.int)) (t1.free n2)
      refine ⟨p2, _, rfl, .inl ⟨SqL.of upd_same, fun t n3 => ?_⟩⟩
      have t3 := t2.new (o := .tup ([min (rowZ ns i) (rowZ ns (i + 1)), max (rowZ ns i) (rowZ ns (i + 1))].map V.int)) (t2.free n3)
      have sm3 := sm.trans t3
      refine ⟨m, o, b, ns, i, by simp, hm.same sm3, ?_⟩
      have bl3 := bl.same t3
      have br3 := br.same t3
      refine ⟨_, .inl ⟨kvs, .inr (sd (b ^^ odd i)), .inl (t3 _ _ hd2), rfl, (ks _).symm⟩, ?_⟩
      have tt : tupAt (upd (upd (upd H2 p1 (.lst ([rowZ ns i, rowZ ns (i + 1)].map V.int))) p2 (.lst ([min (rowZ ns i) (rowZ ns (i + 1)), max (rowZ ns i) (rowZ ns (i + 1))].map V.int))) t (.tup ([min (rowZ ns i) (rowZ ns (i + 1)), max (rowZ ns i) (rowZ ns (i + 1))].map V.int))) t (stepB ns i) := upd_same
      generalize upd (upd (upd H2 p1 (.lst ([rowZ ns i, rowZ ns (i + 1)].map V.int))) p2 (.lst ([min (rowZ ns i) (rowZ ns (i + 1)), max (rowZ ns i) (rowZ ns (i + 1))].map V.int))) t (.tup ([min (rowZ ns i) (rowZ ns (i + 1)), max (rowZ ns i) (rowZ ns (i + 1))].map V.int)) = H3 at *
      cases hs : (b ^^ odd i) with
      | false =>
        have h1 : onSide b false i = true := by simp [onSide, hs]
        have h2 : onSide b true i = false := by simp [onSide, hs]
        rw [sideBows_yes h1, sideBows_no h2]
        obtain ⟨as, b1, b2⟩ := bl3
        have ha : as.length = (sideBows b ns false i).length := Paired.length b2
        have := sideBows_len b ns false i
        refine ⟨w_tyL b1, l1, as.map V.ref, _, rfl, rfl, b1, by rw [List.length_map]; exact small1000 (by omega), _, _, rfl, sm3.new fl0, by rw [upd_ne erl1]; exact t3 _ _ hrl2, by rw [upd_ne edl]; exact t3 _ _ hd2, bows_push b1 b2 tt, bows_upd br3 b1 elr.symm⟩
      | true =>
        have h1 : onSide b true i = true := by simp [onSide, hs]
        have h2 : onSide b false i = false := by simp [onSide, hs]
        rw [sideBows_yes h1, sideBows_no h2]
        obtain ⟨as, b1, b2⟩ := br3
        have ha : as.length = (sideBows b ns true i).length := Paired.length b2
        have := sideBows_len b ns true i
        refine ⟨w_tyL b1, r1, as.map V.ref, _, rfl, rfl, b1, by rw [List.length_map]; exact small1000 (by omega), _, _, rfl, sm3.new fr0, by rw [upd_ne erl2]; exact t3 _ _ hrl2, by rw [upd_ne edr]; exact t3 _ _ hd2, bows_upd bl3 b1 elr, bows_push b1 b2 tt⟩
    · rintro σ H2 ⟨x3, x4, rfl, sm, hrl2, hd2, bl, br⟩
      walk_at "wp"
      have bnd : ∀ s, ∀ p ∈ sideBows b ns s (ns.length + 1), 0 ≤ p.2 ∧ p.2 < 1000 := fun s p hp => by
        obtain ⟨i, hi, _, rfl⟩ := side_mem hp
        have := O.step_in (i := i) (by omega)
        have := O.step_lt (i := i) (by omega)
        omega
      obtain ⟨as, b1, b2⟩ := bl
      have := sideBows_len b ns false (ns.length + 1)
      refine ⟨_, .inl ⟨kvs, .inr (Str.ofString "l"), .inl hd2, rfl, kl.symm⟩, l1, as, _, rfl, SqL.of b1, b2, by omega, bnd false, fun l as' L nl hP hp hs => ?_⟩
      have t1 := (Same.refl H2).new (o := .lst (as'.map V.ref)) nl
      obtain ⟨bs, c1, c2⟩ := br.same t1
      have := sideBows_len b ns true (ns.length + 1)
      refine ⟨_, .inl ⟨kvs, .inr (Str.ofString "r"), .inl (t1 _ _ hd2), rfl, kr.symm⟩, r1, bs, _, rfl, SqL.of c1, c2, by omega, bnd true, fun r bs' R nr hP2 hp2 hs2 => ?_⟩
      have t2 := (Same.refl (upd H2 l (.lst (as'.map V.ref)))).new (o := .lst (bs'.map V.ref)) nr
      refine ⟨(by show 2 ≤ sizeLine; decide), fun t nt => ?_⟩
      have t3 := (Same.refl (upd (upd H2 l (.lst (as'.map V.ref))) r (.lst (bs'.map V.ref)))).new (o := .tup [.ref l, .ref r]) nt
      have elr2 : l ≠ r := fun e => by subst e; rw [upd_same] at nr; cases nr
      refine q t l r L R _ (sm.free (t1.free (t2.free nt))) (sm.free nl) (sm.free (t1.free nr)) (((sm.trans t1).trans t2).trans t3) ⟨upd_same, ?_, ?_, ⟨hp, hs⟩, ⟨hp2, hs2⟩, elr2⟩
      · exact ((bows_copy (l := l) hP nl).same t2).same t3
      · exact (bows_copy (l := r) hP2 nr).same t3
theorem ok_cell_at (B : Blt mg) (E : Fn K mg "_law_cell_at" s_cell_at ["_law_script", "_law_k"]) : Def P w K mg base 1 "_law_cell_at" s_cell_at ["_law_script", "_law_k"] (spCell K) := E.mk' fun f fd F => by
  refine F.okS sc_cell_at (fun vs H Q E h => ?_) (fun cdv A outer s H vs Q E hr h => ?_)
  · obtain ⟨a, ns, k, rfl, _⟩ := h
    rfl
  · obtain ⟨a, ns, k, rfl, hS, q⟩ := h
    refine ⟨[some (.ref a), some (.int k)], _, rfl, (L2.QSs.h (qpss_cons (qps_if (qpt_cmpR op_lt (qpv 1) (qpe_callB call_len_seq (by rfl) B.len PySem.boot_len (qpa_Name (qpv 0) qpa_nil)) (nomark _))
      (qpss_one (qps_ret (qpe_ix ix_list (qpv 0) (qpv 1) (fun _ _ => rfl))))
      qpss_nil)
      (qpss_one (qps_ret qpe_int)))), ?_⟩
    walk_at "wp"
    refine ⟨_, .inl hS, ?_⟩
    rw [List.length_map]
    refine ite2 (fun h => ?_) (fun h => ?_)
    · have hk : k < ns.length := by omega
      refine ⟨_, .int (ns.getD k 0), hS, atI_nat ?_, q⟩
      simp [List.getElem?_map, hk]
    · have hk : ns.length ≤ k := by omega
      have e : ns.getD k 0 = 0 := by simp [List.getD, List.getElem?_eq_none hk]
      rw [e] at q
      exact q
theorem ok_mix (E : Fn K mg "_law_mix" s_mix ["_law_seed", "_law_k"]) : Def P w K mg base 1 "_law_mix" s_mix ["_law_seed", "_law_k"] spMix := E.mk' fun f fd F => by
  refine F.okS sc_mix (fun vs H Q E h => ?_) (fun cdv A outer s H vs Q E hr h => ?_)
  · obtain ⟨a, k, rfl, _⟩ := h
    rfl
  · obtain ⟨a, k, rfl, h0, h1, q⟩ := h
    refine ⟨[some (.int a), some (.int k), none], _, rfl, (L2.QSs.h (qpss_cons (qps_set (i := 2) sc_mix.nd rfl (Or.inl rfl) (qpe_op op_mod (qpe_op op_mul (qpe_op op_add (qpe_op op_add (qpe_op op_add (qpe_op op_mod (qpv 0) (qpe_op op_pow qpe_int qpe_int)) (qpe_op op_mul qpe_int (qpv 1))) (qpe_op op_mul (qpe_op op_mul (qpv 1) (qpv 1)) (qpv 1))) qpe_int) qpe_int) qpe_int))
      (qpss_one (qps_ret (qpe_op op_mod (qpe_op op_mul (qpv 2) qpe_int) qpe_int))))), ?_⟩
    walk_at "wp"
    have hkk : 0 ≤ k * k ∧ k * k ≤ 1000000 := ⟨Int.mul_nonneg h0 h0, by have := Int.mul_le_mul h1 h1 h0 (by decide); omega⟩
    refine ⟨⟨by decide, by decide, by decide⟩, by decide, .inl ⟨by decide, by decide⟩, .inl ⟨by omega, by omega⟩, .inl ⟨by omega, by omega⟩, .inr ⟨by decide, by decide⟩, by decide, .inr ⟨by decide, by decide⟩, by decide, q⟩
theorem ok_whole (B : Blt mg) (E : Fn K mg "_law_whole" s_whole ["_law_found"]) : Def P w K mg base 1 "_law_whole" s_whole ["_law_found"] (spWhole K) := E.mk' fun f fd F => by
  refine F.okS sc_whole (fun vs H Q E h => ?_) (fun cdv A outer s H vs Q E hr h => ?_)
  · obtain ⟨x, t, b, c, rfl, _⟩ := h
    rfl
  · obtain ⟨x, t, b, c, rfl, ty, e1, e2, q⟩ := h
    refine ⟨[some x], _, rfl, (L2.QSs.h (qpss_one (qps_ret (qpe_and (qpe_callB call_isi (by rfl) B.isinstance PyProof.Rows.boot_isinstance (qpa_Name (qpv 0) (qpa_Name (qpe_bltn (v := .ty "int") (by rfl) B.int PyProof.Rows.boot_int rfl) qpa_nil))) (qpe_one (qpe_not (qpe_callB call_isi (by rfl) B.isinstance PyProof.Rows.boot_isinstance (qpa_Name (qpv 0) (qpa_Name (qpe_bltn (v := .ty "bool") (by rfl) B.bool PyProof.Rows.boot_bool rfl) qpa_nil))))))))), ?_⟩
    walk_at "wp"
    refine ⟨_, _, _, b, rfl, ty, e1, ?_⟩
    walk_at "wp"
    cases b with
    | false => exact iteF q
    | true => exact iteT ⟨_, _, _, c, rfl, ty, e2, _, rfl, q⟩
theorem ok_order_by (B : Blt mg) (E : Fn K mg "_law_order_by" s_order_by ["_law_cell", "_law_room"]) (D_mix : Def P w K mg base 1 "_law_mix" s_mix ["_law_seed", "_law_k"] spMix) : Def P w K mg base 2 "_law_order_by" s_order_by ["_law_cell", "_law_room"] spOrderBy := E.mk' fun f fd F => by
  refine F.okS sc_order_by (fun vs H Q E h => ?_) (fun cdv A outer s H vs Q E hr h => ?_)
  · obtain ⟨c, room, rfl, _⟩ := h
    rfl
  · obtain ⟨c, room, rfl, r0, r1, q⟩ := h
    refine ⟨[some (.int c), some (.int room), none, none, none, none, none, none], _, rfl, (L2.QSs.h (qpss_cons (qps_set (i := 2) sc_order_by.nd rfl (Or.inl rfl) (qpe_op op_mod (qpe_op op_fdiv (qpv 0) qpe_int) (qpv 1)))
      (qpss_cons (qps_set (i := 3) sc_order_by.nd rfl (Or.inl rfl) (qpe_op op_fdiv (qpe_op op_fdiv (qpv 0) qpe_int) (qpv 1)))
      (qpss_cons (qps_set (i := 4) sc_order_by.nd rfl (Or.inl rfl) (qpe_callTy (call_list_rng rfl) (by rfl) B.list PyProof.Rows.boot_list (qpa_cons (qpe_callTy call_rng2 (by rfl) B.range PyProof.Rows.boot_range (qpa_Constant qpe_int (qpa_BinOp (qpe_op op_add (qpv 2) qpe_int) qpa_nil))) qpa_nil)))
      (qpss_cons (qps_set (i := 5) sc_order_by.nd rfl (Or.inl rfl) (qpe_lst qpa_nil))
      (qpss_cons (qps_for PassesOwn.never rfl (qpi_range1 (by rfl) B.range (qpa_Name (qpv 2) qpa_nil)) (qpg_name (i := 6) sc_order_by.nd rfl (Or.inl rfl))
      (qpss_cons (qps_set (i := 7) sc_order_by.nd rfl (Or.inl rfl) (qpe_op op_mod (qpv 3) (qpe_callB call_len_seq (by rfl) B.len PySem.boot_len (qpa_Name (qpv 4) qpa_nil))))
        (qpss_cons (qps_if ((qpw_or (qpt_cmpR op_eq (qpe_op op_mod (qpv 0) qpe_int) qpe_int (nomark _)) (qpw_or1 (qpt_cmpR op_eq (qpv 3) qpe_int (nomark _))))).pt
        (qpss_one (qps_set (i := 7) sc_order_by.nd rfl (Or.inl rfl) (qpe_op op_mod (qpe_callD D_mix (hr.mono (by decide)) (by rfl) (qpa_Name (qpv 0) (qpa_Name (qpv 6) qpa_nil))) (qpe_callB call_len_seq (by rfl) B.len PySem.boot_len (qpa_Name (qpv 4) qpa_nil)))))
        qpss_nil)
        (qpss_cons (qps_set (i := 3) sc_order_by.nd rfl (Or.inl rfl) (qpe_op op_fdiv (qpv 3) (qpe_callB call_len_seq (by rfl) B.len PySem.boot_len (qpa_Name (qpv 4) qpa_nil))))
        (qpss_one (qps_expr (qpe_bm PySem.F.plainAttrs_list PySem.F.slot_list_append PySem.F.type_list_append mt_append (qpv 5) (qpa_Call (qpe_bm PySem.F.plainAttrs_list PySem.F.slot_list_pop PySem.F.type_list_pop mt_popAt (qpv 4) (qpa_Name (qpv 7) qpa_nil)) qpa_nil))))))))
      (qpss_one (qps_ret (qpe_callTy call_tuple_of (by rfl) B.tuple PyProof.Rows.boot_tuple (qpa_Name (qpv 5) qpa_nil)))))))))), ?_⟩
    walk_at "wp"
    have m0 : 0 ≤ c / 2 % room := Int.emod_nonneg _ (by omega)
    have m1 : c / 2 % room < room := Int.emod_lt_of_pos _ (by omega)
    generalize c / 2 % room = many at m0 m1 ⊢
    refine ⟨⟨by decide, by decide⟩, by omega, ⟨by decide, by decide⟩, ⟨by omega, by omega⟩, fun r hr0 => ⟨1, _, upd_same, ⟨by decide, by decide, by omega, by omega, by omega⟩, fun pl hpl => ⟨Nat.zero_le _, fun fl hfl => ⟨by omega, by omega, ?_⟩⟩⟩⟩
    have s1 : Same H (upd H r (.rng 1 (many + 1))) := (Same.refl _).new hr0
    have npl : H pl = none := s1.free hpl
    have eN : (many + 1 - 1).toNat = many.toNat := by omega
    rw [eN] at hfl ⊢
    have s2 := s1.new (o := .lst ((rngZ 1 many.toNat).map V.int)) npl
    have nfl : H fl = none := s2.free hfl
    have npf : pl ≠ fl := fun e => by subst e; rw [upd_same] at hfl; cases hfl
    refine for_range (n := many.toNat) (fun i σ H2 => ∃ (ns ts : List Int) (rest : Int) (x6 x7 : Option V), σ = [some (.int c), some (.int room), some (.int many), some (.int rest), some (.ref pl), some (.ref fl), x6, x7] ∧ Same H H2 ∧ H2 pl = some (.lst (ns.map V.int)) ∧ H2 fl = some (.lst (ts.map V.int)) ∧ (ts ++ ns).Perm (rngZ 1 many.toNat) ∧ ts.length = i)
      ⟨rngZ 1 many.toNat, [], _, none, none, rfl, s2.new nfl, by rw [upd_ne npf, upd_same], upd_same, .refl _, rfl⟩ ?_ ?_
    · rintro i σ H2 hi ⟨ns, ts, rest, x6, x7, rfl, sm, hp, hf, pm, hl2⟩
      have hlen := pm.length_eq
      rw [List.length_append, rngZ_len] at hlen
      walk_at "wp"
      have h0 : 0 < ((ns.map V.int).length : Int) := by rw [List.length_map]; omega
      have h1 : ((ns.map V.int).length : Int) < 1073741824 := by rw [List.length_map]; omega
      refine ⟨_, .inl (SqL.of hp), h0, by decide, ite2 (fun _ => ⟨c, _, rfl, by omega, by omega, ?_⟩) (fun _ => ite2 (fun _ => ⟨c, _, rfl, by omega, by omega, ?_⟩) (fun _ => ?_))⟩
      case' refine_1 => (refine ⟨_, .inl (SqL.of hp), ?_⟩; walk_at "wp"; refine ⟨h0, ?_⟩)
      case' refine_2 => (refine ⟨_, .inl (SqL.of hp), ?_⟩; walk_at "wp"; refine ⟨h0, ?_⟩)
      all_goals
        refine ⟨_, .inl (SqL.of hp), ⟨h0, h1⟩, w_tyL hf, w_tyL hp, ?_⟩
        refine pop_mod hp (by omega) (by rw [List.length_map]; omega) fun k y hk hy => ?_
        obtain ⟨z, hz, rfl⟩ := got_map hy
        refine ⟨ts.map V.int, by rw [upd_ne npf.symm]; exact hf, by rw [List.length_map]; exact small1000 (by omega), ns.eraseIdx k, ts ++ [z], _, _, _, rfl, (sm.new npl).new nfl, by rw [upd_ne npf, upd_same, map_erase], by rw [upd_same, List.map_append]; rfl, ?_, by simp [hl2]⟩
        rw [List.append_assoc]
        exact ((erase_perm hz).append_left ts).trans pm
    · rintro σ H2 ⟨ns, ts, rest, x6, x7, rfl, sm, hp, hf, pm, hl2⟩
      have hlen := pm.length_eq
      rw [List.length_append, rngZ_len] at hlen
      have hr : ns = [] := List.eq_nil_of_length_eq_zero (by omega)
      subst hr
      rw [List.append_nil] at pm
      walk_at "wp"
      refine ⟨_, .inl ⟨SqL.of hf, fun l nl => q l ts _ (sm.free nl) (sm.new (sm.free nl)) upd_same (by omega) ?_⟩⟩
      rw [hl2]; exact pm
theorem ok_from (B : Blt mg) (E : Fn K mg "_law_from" s_from ["_law_bows", "_law_row"]) : Def P w K mg base 1 "_law_from" s_from ["_law_bows", "_law_row"] spFrom := E.mk' fun f fd F => by
  refine F.okS sc_from (fun vs H Q E h => ?_) (fun cdv A outer s H vs Q E hr h => ?_)
  · obtain ⟨l, ps, x, p, rfl, _⟩ := h
    rfl
  · obtain ⟨l, ps, x, p, rfl, bo, hl, hf, q⟩ := h
    obtain ⟨as, b1, ble, bg⟩ := bo.get
    refine ⟨[some (.ref l), some (.int x), none], _, rfl, (L2.QSs.h (qpss_cons (qps_setC (i := 2) sc_from.nd rfl (Or.inl rfl) (own := ["_law_bow"]) (ns := ["_law_row"]) (caps := [1]) rfl ⟨rfl, by decide +kernel, by decide +kernel, by decide +kernel⟩ (.cons rfl rfl (.inl rfl) .nil) (qpi_list (qpv 0)) (fun C s H fp pn => (qpg_name (i := 0) (show List.Nodup ((["_law_bow"] : List Str) ++ (["_law_row"] : List Str)) by decide +kernel) rfl (Or.inl rfl))) (fun C s H fp pn => (qpf_one (qpt_cmpR (op_inD' (K := K) rfl (hu_64 hr)) (qpv 1) (qpv 0) (by with_unfolding_all rfl)))) (fun C s H fp pn => (qpv 0)))
      (qpss_cons (qps_if (qpt_cmpR op_ne (qpe_callB call_len_seq (by rfl) B.len PySem.boot_len (qpa_Name (qpv 2) qpa_nil)) qpe_int (nomark _))
      (qpss_one (qps_ret qpe_non))
      qpss_nil)
      (qpss_one (qps_ret (qpe_op op_sub (qpe_op op_add (qpe_ix ix_seq (qpe_ix ix_list (qpv 2) qpe_int (fun _ _ => rfl)) qpe_int (fun _ _ => rfl)) (qpe_ix ix_seq (qpe_ix ix_list (qpv 2) qpe_int (fun _ _ => rfl)) qpe_int (fun _ _ => rfl))) (qpv 1))))))), ?_⟩
    walk_at "wp"
    refine ⟨⟨_, SqL.of b1⟩, comp_list (xs := as.map V.ref) (fun i ys σ H2 => ∃ (x0 : Option V) (cs : List Addr), σ = [x0, some (.int x)] ∧ H2 = H ∧ i ≤ ps.length ∧ ys = cs.map V.ref ∧ Paired (tupAt H) cs ((ps.take i).filter (hasR x)))
      ⟨none, [], rfl, rfl, Nat.zero_le _, rfl, by rw [List.take_zero]; exact .nil⟩ ?_ (Nat.le_of_lt (small1000 (by rw [List.length_map, ble]; omega))) ?_ ?_⟩
    · rintro i ys σ H2 ⟨x0, cs, rfl, rfl, hi, rfl, hc⟩
      refine ⟨SqL.of b1, ?_⟩
      have h1 : cs.length = _ := Paired.length hc
      have h2 := List.length_filter_le (hasR x) (ps.take i)
      rw [List.length_take] at h2
      rw [List.length_map]; omega
    · rintro i y ys σ H2 N hy ⟨x0, cs, rfl, rfl, hi, rfl, hc⟩ hN
      obtain ⟨a, p', rfl, hp, ta⟩ := bg i y hy
      have hi' := (List.getElem?_eq_some_iff.mp hp).1
      have et : (ps.take (i + 1)).filter (hasR x) = (ps.take i).filter (hasR x) ++ [p'].filter (hasR x) := by rw [List.take_add_one, hp, List.filter_append]; rfl
      walk_at "wp"
      refine in_ints (ns := [p'.1, p'.2]) (.inr (SqT.of ta)) ?_
      have eh : decide (x ∈ [p'.1, p'.2]) = hasR x p' := by simp [hasR]
      simp only [Bool.false_eq_true, if_false, eh]
      refine ⟨_, rfl, ?_⟩
      refine ite2 (fun z => ?_) (fun z => ?_)
      · refine hN _ _ _ ⟨_, cs ++ [a], rfl, rfl, hi', by rw [List.map_append]; rfl, ?_⟩
        rw [et]
        simp only [List.filter_cons, z, if_true, List.filter_nil]
        exact pair_snoc hc ta
      · refine hN _ _ _ ⟨_, cs, rfl, rfl, hi', rfl, ?_⟩
        rw [et]
        simp only [List.filter_cons, z, if_false, List.filter_nil, List.append_nil, Bool.false_eq_true]
        exact hc
    · rintro ys σ H2 t ⟨x0, cs, rfl, rfl, hi, rfl, hc⟩ nt
      rw [List.length_map, ble, List.take_length, hf] at hc
      cases hc with
      | cons ta r =>
        cases r
        rename_i a
        have sm := (Same.refl H2).new (o := .lst [.ref a]) nt
        have ta' := ta.same sm
        walk_at "wp"
        refine ⟨_, .inl (SqL.of upd_same), ifN (by simp) ?_⟩
        refine ⟨_, _, SqL.of upd_same, rfl, .inr (.inl ⟨a, _, _, _, rfl, rfl, SqT.of ta', rfl, ?_⟩)⟩
        refine ⟨_, _, SqL.of upd_same, rfl, .inr (.inl ⟨a, _, _, _, rfl, rfl, SqT.of ta', rfl, ?_⟩)⟩
        walk_at "wp"
        exact q _ sm
theorem ok_sound (B : Blt mg) (E : Fn K mg "_law_sound" s_sound ["_law_bows"]) (D_whole : Def P w K mg base 1 "_law_whole" s_whole ["_law_found"] (spWhole K)) : Def P w K mg base 2 "_law_sound" s_sound ["_law_bows"] spSound := E.mk' fun f fd F => by
  refine F.okS sc_sound (fun vs H Q E h => ?_) (fun cdv A outer s H vs Q E hr h => ?_)
  · obtain ⟨l, ps, rfl, _⟩ := h
    rfl
  · obtain ⟨l, ps, rfl, bo, hl, ha, hb, hlt, q⟩ := h
    obtain ⟨as, b1, b2⟩ := id bo
    have hal : as.length = ps.length := Paired.length b2
    refine ⟨[some (.ref l), none], _, rfl, (L2.QSs.h (qpss_cons (qps_if ((qpw_or (qpt_not (qpt_val (qpe_callB call_isi (by rfl) B.isinstance PyProof.Rows.boot_isinstance (qpa_Name (qpv 0) (qpa_Name (qpe_bltn (v := .ty "list") (by rfl) B.list PyProof.Rows.boot_list rfl) qpa_nil))))) (qpw_or1 (qpt_cmpR (op_neD (hu_64 hr)) (qpe_callB call_sorted_bows (by rfl) B.sorted PyProof.Rows.boot_sorted (qpa_Name (qpv 0) qpa_nil)) (qpv 0) (nomark _))))).pt
      (qpss_one (qps_ret qpe_bl))
      qpss_nil)
      (qpss_cons (qps_for PassesOwn.never rfl (qpi_list (qpv 0)) (qpg_name (i := 1) sc_sound.nd rfl (Or.inl rfl))
      (qpss_cons (qps_if ((qpw_or (qpt_not (qpt_val (qpe_callB call_isi (by rfl) B.isinstance PyProof.Rows.boot_isinstance (qpa_Name (qpv 1) (qpa_Name (qpe_bltn (v := .ty "tuple") (by rfl) B.tuple PyProof.Rows.boot_tuple rfl) qpa_nil))))) (qpw_or (qpt_cmpR op_ne (qpe_callB call_len_seq (by rfl) B.len PySem.boot_len (qpa_Name (qpv 1) qpa_nil)) qpe_int (nomark _)) (qpw_or (qpt_not (qpt_val (qpe_callD D_whole (hr.mono (by decide)) (by rfl) (qpa_Subscript (qpe_ix ix_tup (qpv 1) qpe_int (fun _ _ => rfl)) qpa_nil)))) (qpw_or1 (qpt_not (qpt_val (qpe_callD D_whole (hr.mono (by decide)) (by rfl) (qpa_Subscript (qpe_ix ix_tup (qpv 1) qpe_int (fun _ _ => rfl)) qpa_nil))))))))).pt
        (qpss_one (qps_ret qpe_bl))
        qpss_nil)
        (qpss_one (qps_if (qpt_cmpR op_ge (qpe_ix ix_tup (qpv 1) qpe_int (fun _ _ => rfl)) (qpe_ix ix_tup (qpv 1) qpe_int (fun _ _ => rfl)) (nomark _))
        (qpss_one (qps_ret qpe_bl))
        qpss_nil))))
      (qpss_one (qps_ret qpe_bl))))), ?_⟩
    walk_at "wp"
    refine ⟨_, _, _, true, rfl, .lst b1, rfl, ?_⟩
    refine ⟨_, rfl, ifN (fun z => nomatch z) ⟨l, as, ps, rfl, SqL.of b1, b2, by omega, hb, fun l2 as2 ps2 n2 hP hp hs => ?_⟩⟩
    have e : ps2 = ps := leB_one hp hs ha
    subst e
    have sm := (Same.refl H).new (o := .lst (as2.map V.ref)) n2
    refine ⟨bowsD _, bowsD _, bows_rep (bows_copy (l := l2) hP n2), bows_rep (bo.same sm), bows_lay _, bows_lay _, Nat.le_trans (Nat.min_le_left _ _) (Nat.le_trans (bows_depth _) (by decide)), ?_⟩
    simp only [bows_eqv, decide_true, if_true]
    refine ⟨_, rfl, ifN (fun z => nomatch z) ⟨⟨_, SqL.of (sm _ _ b1)⟩, ?_⟩⟩
    obtain ⟨as', c1, cle, bg⟩ := (bo.same sm).get
    rw [sm _ _ b1] at c1
    have ea : as'.map V.ref = as.map V.ref := by injection c1 with c1; injection c1 with c1; exact c1.symm
    generalize upd H l2 (.lst (as2.map V.ref)) = H3 at *
    refine for_list (xs := as.map V.ref) (fun i σ H2 => ∃ x1 : Option V, σ = [some (.ref l), x1] ∧ H2 = H3) ⟨none, rfl, rfl⟩ (fun i σ H2 _ ⟨_, _, e⟩ => by rw [e]; exact SqL.of (sm _ _ b1)) ?_ ?_
    · rintro i x σ H2 hx ⟨x1, rfl, rfl⟩
      obtain ⟨a, p, rfl, hp, ta⟩ := bg i x (by rw [ea]; exact hx)
      walk_at "wp"
      refine ⟨_, _, _, true, rfl, .tup ta, rfl, ?_⟩
      walk_at "wp"
      refine ifN (fun z => nomatch z) ⟨_, .inr (SqT.of ta), ifN (by simp) ⟨_, _, SqT.of ta, rfl, whole_of (.int _) ?_⟩⟩
      walk_at "wp"
      refine ifN (fun z => nomatch z) ⟨_, _, SqT.of ta, rfl, whole_of (.int _) ?_⟩
      walk_at "wp"
      refine ifN (fun z => nomatch z) ⟨_, _, SqT.of ta, rfl, _, _, SqT.of ta, rfl, ?_⟩
      walk_at "wp"
      have := hlt p (List.mem_of_getElem? hp)
      exact ifN (by omega) ⟨_, rfl, trivial⟩
    · rintro σ H2 ⟨x1, rfl, rfl⟩
      walk_at "wp"
      exact q _ sm
theorem ok_law (B : Blt mg) (E : Fn K mg "law" s_law ["_law_script"]) (D_bows_of : Def P w K mg base 3 "bows_of" s_bows_of ["maze"] spBowsOf) (D_cell_at : Def P w K mg base 1 "_law_cell_at" s_cell_at ["_law_script", "_law_k"] (spCell K))
    (D_order_by : Def P w K mg base 2 "_law_order_by" s_order_by ["_law_cell", "_law_room"] spOrderBy) (D_from : Def P w K mg base 1 "_law_from" s_from ["_law_bows", "_law_row"] spFrom) (D_sound : Def P w K mg base 2 "_law_sound" s_sound ["_law_bows"] spSound) : Def P w K mg base 5 "law" s_law ["_law_script"] (spLaw K) := E.mk' fun f fd F => by
  refine F.okS sc_law (fun vs H Q E h => ?_) (fun cdv A outer s H vs Q E hr h => ?_)
  · obtain ⟨a, ns, rfl, _⟩ := h
    rfl
  · obtain ⟨a, cs, rfl, hS, hlen, kQ⟩ := h
    refine ⟨[some (.ref a), none, none, none, none, none, none, none, none], _, rfl, (L2.QSs.h (qpss_cons (qps_set (i := 1) sc_law.nd rfl (Or.inl rfl) (qpe_ix ix_str qpe_str (qpe_op op_mod (qpe_callD D_cell_at (hr.mono (by decide)) (by rfl) (qpa_Name (qpv 0) (qpa_Constant qpe_int qpa_nil))) qpe_int) (fun _ _ => rfl)))
      (qpss_cons (qps_set (i := 2) sc_law.nd rfl (Or.inl rfl) (qpe_callD D_order_by (hr.mono (by decide)) (by rfl) (qpa_Call (qpe_callD D_cell_at (hr.mono (by decide)) (by rfl) (qpa_Name (qpv 0) (qpa_Constant qpe_int qpa_nil))) (qpa_Constant qpe_int qpa_nil))))
      (qpss_cons (qps_set (i := 3) sc_law.nd rfl (Or.inl rfl) (qpe_callD D_bows_of (hr.mono (by decide)) (by rfl) (qpa_Tuple (qpe_tup (qpa_Name (qpv 1) (qpa_Name (qpv 2) qpa_nil))) qpa_nil)))
      (qpss_cut (qps_if ((qpw_or (qpt_not (qpt_val (qpe_callB call_isi (by rfl) B.isinstance PyProof.Rows.boot_isinstance (qpa_Name (qpv 3) (qpa_Name (qpe_bltn (v := .ty "tuple") (by rfl) B.tuple PyProof.Rows.boot_tuple rfl) qpa_nil))))) (qpw_or (qpt_cmpR op_ne (qpe_callB call_len_seq (by rfl) B.len PySem.boot_len (qpa_Name (qpv 3) qpa_nil)) qpe_int (nomark _)) (qpw_or (qpt_not (qpt_val (qpe_callD D_sound (hr.mono (by decide)) (by rfl) (qpa_Subscript (qpe_ix ix_tup (qpv 3) qpe_int (fun _ _ => rfl)) qpa_nil)))) (qpw_or1 (qpt_not (qpt_val (qpe_callD D_sound (hr.mono (by decide)) (by rfl) (qpa_Subscript (qpe_ix ix_tup (qpv 3) qpe_int (fun _ _ => rfl)) qpa_nil))))))))).pt
      (qpss_one (qps_ret qpe_bl))
      qpss_nil)
      (qpss_cut (qps_if (qpt_cmpR op_ne (qpe_op op_add (qpe_callB call_len_seq (by rfl) B.len PySem.boot_len (qpa_Subscript (qpe_ix ix_tup (qpv 3) qpe_int (fun _ _ => rfl)) qpa_nil)) (qpe_callB call_len_seq (by rfl) B.len PySem.boot_len (qpa_Subscript (qpe_ix ix_tup (qpv 3) qpe_int (fun _ _ => rfl)) qpa_nil))) (qpe_op op_add (qpe_callB call_len_seq (by rfl) B.len PySem.boot_len (qpa_Name (qpv 2) qpa_nil)) qpe_int) (nomark _))
      (qpss_one (qps_ret qpe_bl))
      qpss_nil)
      (qpss_cons (qps_set (i := 4) sc_law.nd rfl (Or.inl rfl) qpe_int)
      (qpss_cons (qps_set (i := 5) sc_law.nd rfl (Or.inl rfl) (qpe_callTy call_int1 (by rfl) B.int PyProof.Rows.boot_int (qpa_Compare (qpe_cmpR op_eq (qpv 1) qpe_str (nomark _)) qpa_nil)))
      (qpss_cut (qps_for PassesOwn.never rfl (qpi_list (qpe_op op_cat (qpe_callTy call_list_of (by rfl) B.list PyProof.Rows.boot_list (qpa_Name (qpv 2) qpa_nil)) (qpe_lst (qpa_BinOp (qpe_op op_add (qpe_callB call_len_seq (by rfl) B.len PySem.boot_len (qpa_Name (qpv 2) qpa_nil)) qpe_int) qpa_nil)))) (qpg_name (i := 6) sc_law.nd rfl (Or.inl rfl))
      (qpss_cons (qps_set (i := 4) sc_law.nd rfl (Or.inl rfl) (qpe_callD D_from (hr.mono (by decide)) (by rfl) (qpa_Subscript (qpe_ix ix_tup (qpv 3) (qpv 5) (fun _ _ => rfl)) (qpa_Name (qpv 4) qpa_nil))))
        (qpss_cons (qps_if ((qpw_or (qpt_cmpR op_isN (qpv 4) qpe_non (nomark _)) (qpw_or1 (qpt_cmpR op_ne (qpv 4) (qpv 6) (nomark _))))).pt
        (qpss_one (qps_ret qpe_bl))
        qpss_nil)
        (qpss_one (qps_set (i := 5) sc_law.nd rfl (Or.inl rfl) (qpe_op op_sub qpe_int (qpv 5)))))))
      (qpss_cut (qps_for PassesOwn.never rfl (qpi_tup (qpv 2)) (qpg_name (i := 6) sc_law.nd rfl (Or.inl rfl))
      (qpss_one (qps_if ((qpw_or (qpt_cmpR op_isN (qpe_callD D_from (hr.mono (by decide)) (by rfl) (qpa_Subscript (qpe_ix ix_tup (qpv 3) qpe_int (fun _ _ => rfl)) (qpa_Name (qpv 6) qpa_nil))) qpe_non (nomark _)) (qpw_or1 (qpt_cmpR op_isN (qpe_callD D_from (hr.mono (by decide)) (by rfl) (qpa_Subscript (qpe_ix ix_tup (qpv 3) qpe_int (fun _ _ => rfl)) (qpa_Name (qpv 6) qpa_nil))) qpe_non (nomark _))))).pt
        (qpss_one (qps_ret qpe_bl))
        qpss_nil)))
      (qpss_cons (qps_set (i := 7) sc_law.nd rfl (Or.inl rfl) (qpe_lst (qpa_Call (qpe_callTy call_list_of (by rfl) B.list PyProof.Rows.boot_list (qpa_Subscript (qpe_ix ix_tup (qpv 3) qpe_int (fun _ _ => rfl)) qpa_nil)) (qpa_Call (qpe_callTy call_list_of (by rfl) B.list PyProof.Rows.boot_list (qpa_Subscript (qpe_ix ix_tup (qpv 3) qpe_int (fun _ _ => rfl)) qpa_nil)) qpa_nil))))
      (qpss_cons (qps_expr (qpe_bm PySem.F.plainAttrs_list PySem.F.slot_list_append PySem.F.type_list_append mt_append (qpe_ix ix_tup (qpv 3) qpe_int (fun _ _ => rfl)) (qpa_Tuple (qpe_tup (qpa_Constant qpe_int (qpa_Constant qpe_int qpa_nil))) qpa_nil)))
      (qpss_cons (qps_expr (qpe_bm PySem.F.plainAttrs_list PySem.F.slot_list_append PySem.F.type_list_append mt_append (qpe_ix ix_tup (qpv 3) qpe_int (fun _ _ => rfl)) (qpa_Tuple (qpe_tup (qpa_Constant qpe_int (qpa_Constant qpe_int qpa_nil))) qpa_nil)))
      (qpss_cons (qps_set (i := 8) sc_law.nd rfl (Or.inl rfl) (qpe_callD D_bows_of (hr.mono (by decide)) (by rfl) (qpa_Tuple (qpe_tup (qpa_Name (qpv 1) (qpa_Name (qpv 2) qpa_nil))) qpa_nil)))
      (qpss_one (qps_ret (qpe_cmpR (op_eqD (hu_64 hr)) (qpe_lst (qpa_Subscript (qpe_ix ix_tup (qpv 8) qpe_int (fun _ _ => rfl)) (qpa_Subscript (qpe_ix ix_tup (qpv 8) qpe_int (fun _ _ => rfl)) qpa_nil))) (qpv 7) (nomark _)))))))))))))))))), ?_⟩
    walk_at "wp"
    refine ⟨a, cs, 1, rfl, hS, ?_⟩
    walk_at "wp"
    refine ⟨by decide, by decide, _, lr_at (Int.emod_nonneg _ (by decide)) (Int.emod_lt_of_pos _ (by decide)), ?_⟩
    rw [lr_sd]
    generalize decide (cs.getD 1 0 % 2 = 1) = b
    refine ⟨a, cs, 0, rfl, hS, _, 21, rfl, by decide, by decide, fun o ns H1 no s1 ho hol hop => ?_⟩
    have O : Ord ns := ⟨by omega, hop⟩
    have hn := O.len
    walk_at "wp"
    refine ⟨(by show 2 ≤ sizeLine; decide), fun m nm => ?_⟩
    have s2 := (Same.refl H1).new (o := .tup [.str (sd b), .ref o]) nm
    refine ⟨m, o, b, ns, rfl, ⟨upd_same, s2 _ _ ho⟩, O, fun t l r L R H2 nt nl nr s3 BO => ?_⟩
    have ho2 := s3 _ _ (s2 _ _ ho)
    have fl1 := s2.free nl
    have fr1 := s2.free nr
    have s12 : Same H1 H2 := s2.trans s3
    refine cut_intro (fun σ H' => σ = [some (.ref a), some (.str (sd b)), some (.ref o), some (.ref t), none, none, none, none, none] ∧ Same H1 H' ∧ BowsOf H' t l r b ns L R) ?_ ?_
    · walk_at "wp"
      refine ⟨_, _, _, true, rfl, .tup BO.tup, rfl, ?_⟩
      walk_at "wp"
      refine ifN (fun z => nomatch z) ⟨_, .inr (SqT.of BO.tup), ifN (by simp) ⟨_, _, SqT.of BO.tup, rfl, l, L, rfl, BO.left, Nat.le_trans (BO.isL.len O) (by decide), BO.isL.asc, BO.isL.in O, BO.isL.lt O, fun H3 s4 => ?_⟩⟩
      walk_at "wp"
      refine ifN (fun z => nomatch z) ⟨_, _, SqT.of (s4 _ _ BO.tup), rfl, r, R, rfl, BO.right.same s4, Nat.le_trans (BO.isR.len O) (by decide), BO.isR.asc, BO.isR.in O, BO.isR.lt O, fun H4 s5 => ?_⟩
      walk_at "wp"
      have s45 := s4.trans s5
      exact ifN (fun z => nomatch z) ⟨trivial, s12.trans s45, ⟨s45 _ _ BO.tup, BO.left.same s45, BO.right.same s45, BO.isL, BO.isR, BO.ne⟩⟩
    clear BO ho2 s3
    rintro σ' H3 ⟨rfl, s13, BO⟩
    have ho3 := s13 _ _ ho
    have hLR : L.length + R.length = ns.length + 1 := by rw [BO.isL.perm.length_eq, BO.isR.perm.length_eq, sideBows_sum]
    refine cut_intro (fun σ H' => σ = [some (.ref a), some (.str (sd b)), some (.ref o), some (.ref t), none, none, none, none, none] ∧ Same H1 H' ∧ BowsOf H' t l r b ns L R) ?_ ?_
    · walk_at "wp"
      obtain ⟨as, b1, bl, _⟩ := BO.left.get
      obtain ⟨bs, c1, cl, _⟩ := BO.right.get
      refine ⟨_, _, SqT.of BO.tup, rfl, l, _, rfl, .inl (SqL.of b1), _, _, SqT.of BO.tup, rfl, r, _, rfl, .inl (SqL.of c1), _, .inr (SqT.of ho3), ifN ?_ ⟨trivial, s13, BO⟩⟩
      simp only [List.length_map, bl, cl]
      omega
    clear BO ho3 s13
    rintro σ' H4 ⟨rfl, s14, BO⟩
    have ho4 := s14 _ _ ho
    walk_at "wp"
    refine cut_intro (fun σ H' => ∃ x4 x5 x6 : Option V, σ = [some (.ref a), some (.str (sd b)), some (.ref o), some (.ref t), x4, x5, x6, none, none] ∧ Same H1 H' ∧ BowsOf H' t l r b ns L R) ?_ ?_
    · walk_at "wp"
      refine ⟨_, .inr (SqT.of ho4), fun p1 n1 => ?_⟩
      have t1 := (Same.refl H4).new (o := .lst (ns.map V.int)) n1
      refine ⟨_, .inr (SqT.of (t1 _ _ ho4)), (by show 1 ≤ sizeLine; decide), fun p2 n2 => ?_⟩
      have t2 := t1.new (o := .lst [.int (((ns.map V.int).length : Int) + 1)]) (t1.free n2)
      have e12 : p1 ≠ p2 := fun e => by subst e; rw [upd_same] at n2; cases n2
      refine ⟨p1, p2, _, _, rfl, rfl, by rw [upd_ne e12, upd_same], upd_same, Nat.le_of_lt (small1000 (by simp; omega)), fun p3 n3 => ?_⟩
      have el : ns.map V.int ++ [.int (((ns.map V.int).length : Int) + 1)] = (ns ++ [(ns.length : Int) + 1]).map V.int := by simp
      rw [el]
      have t3 := t2.new (o := .lst ((ns ++ [(ns.length : Int) + 1]).map V.int)) (t2.free n3)
      have hp3 : upd (upd (upd H4 p1 (.lst (ns.map V.int))) p2 (.lst [.int (((ns.map V.int).length : Int) + 1)])) p3 (.lst ((ns ++ [(ns.length : Int) + 1]).map V.int)) p3 = some (.lst ((ns ++ [(ns.length : Int) + 1]).map V.int)) := upd_same
      generalize upd (upd (upd H4 p1 (.lst (ns.map V.int))) p2 (.lst [.int (((ns.map V.int).length : Int) + 1)])) p3 (.lst ((ns ++ [(ns.length : Int) + 1]).map V.int)) = H5 at t3 hp3 ⊢
      clear n1 n2 n3 t1 t2
      have keep : ∀ {H'}, Same H5 H' → BowsOf H' t l r b ns L R := fun {H'} sm => ⟨(t3.trans sm) _ _ BO.tup, BO.left.same (t3.trans sm), BO.right.same (t3.trans sm), BO.isL, BO.isR, BO.ne⟩
      have hside : (if sd b = Str.ofString "r" then (1 : Int) else 0) = if b then 1 else 0 := by simp only [sd_r]
      rw [hside]
      refine ⟨p3, rfl, ⟨_, SqL.of hp3⟩, for_list (xs := (ns ++ [(ns.length : Int) + 1]).map V.int) (fun i σ H' => ∃ x6 : Option V, σ = [some (.ref a), some (.str (sd b)), some (.ref o), some (.ref t), some (.int (rowZ ns i)), some (.int (if (b ^^ odd i) then 1 else 0)), x6, none, none] ∧ Same H5 H')
        ⟨none, by rw [rowZ_0, show odd 0 = false from rfl, Bool.xor_false], Same.refl _⟩ (fun i σ H' _ ⟨_, _, sm⟩ => SqL.of (sm _ _ hp3)) ?_ ?_⟩
      · rintro i x σ H' hx ⟨x6, rfl, sm⟩
        obtain ⟨y, hy, rfl⟩ := got_map hx
        have hi : i ≤ ns.length := by have := (List.getElem?_eq_some_iff.mp hy).1; simp at this; omega
        have BO' := keep sm
        have ey := rowZ_mid hy
        have es : (stepB ns i).1 + (stepB ns i).2 - rowZ ns i = y := by rw [step_sum, ey]; omega
        have hon := onSide_self b i
        have fin : ∀ k : Int, k = (if (b ^^ odd i) then 1 else 0) → some (V.int (1 - k)) = some (V.int (if (b ^^ odd (i + 1)) then 1 else 0)) := fun k hk => by
          subst hk
          rw [odd_succ]
          cases b <;> cases odd i <;> rfl
        have fin := fin _ rfl
        walk_at "wp"
        cases hs : (b ^^ odd i) with
        | false =>
          rw [hs] at hon fin
          refine ⟨_, _, SqT.of BO'.tup, rfl, l, L, _, _, rfl, BO'.left, Nat.le_trans (BO.isL.len O) (by decide), BO.isL.only O hi hon (.inl rfl), fun H6 sm2 => ?_⟩
          walk_at "wp"
          rw [es]
          refine ⟨trivial, ifN (fun z => nomatch z) (ifN (fun z => z rfl) ⟨some (.int y), ?_, sm.trans sm2⟩)⟩
          rw [ey, ← fin]; rfl
        | true =>
          rw [hs] at hon fin
          refine ⟨_, _, SqT.of BO'.tup, rfl, r, R, _, _, rfl, BO'.right, Nat.le_trans (BO.isR.len O) (by decide), BO.isR.only O hi hon (.inl rfl), fun H6 sm2 => ?_⟩
          walk_at "wp"
          rw [es]
          refine ⟨trivial, ifN (fun z => nomatch z) (ifN (fun z => z rfl) ⟨some (.int y), ?_, sm.trans sm2⟩)⟩
          rw [ey, ← fin]; rfl
      · rintro σ' H6 ⟨x6, rfl, sm⟩
        exact ⟨_, _, _, rfl, s14.trans (t3.trans sm), keep sm⟩
    clear BO
    rintro σ' H7 ⟨x4, x5, x6, rfl, s17, BO⟩
    have ho7 := s17 _ _ ho
    refine cut_intro (fun σ H' => ∃ x4 x5 x6 : Option V, σ = [some (.ref a), some (.str (sd b)), some (.ref o), some (.ref t), x4, x5, x6, none, none] ∧ Same H1 H' ∧ BowsOf H' t l r b ns L R) ?_ ?_
    · walk_at "wp"
      refine ⟨⟨_, SqT.of ho7⟩, for_tup (xs := ns.map V.int) (fun i σ H' => ∃ x4 x5 x6 : Option V, σ = [some (.ref a), some (.str (sd b)), some (.ref o), some (.ref t), x4, x5, x6, none, none] ∧ Same H7 H') ⟨_, _, _, rfl, Same.refl _⟩ (fun i σ H' _ ⟨_, _, _, _, sm⟩ => SqT.of (sm _ _ ho7)) ?_ ?_⟩
      · rintro i x σ H' hx ⟨y4, y5, y6, rfl, sm⟩
        obtain ⟨y, hy, rfl⟩ := got_map hx
        have hi := (List.getElem?_eq_some_iff.mp hy).1
        have ey := rowZ_ring hy
        have one : ∀ s : Bool, ∃ k, k ≤ ns.length ∧ onSide b s k = true ∧ (k = i + 1 ∨ k + 1 = i + 1) := fun s => by
          cases hs : onSide b s i with
          | true => exact ⟨i, by omega, hs, .inr rfl⟩
          | false =>
            refine ⟨i + 1, hi, ?_, .inl rfl⟩
            simp only [onSide, odd_succ] at hs ⊢
            revert hs
            cases b <;> cases s <;> cases odd i <;> decide
        obtain ⟨k0, h01, h02, h03⟩ := one false
        obtain ⟨k1, h11, h12, h13⟩ := one true
        have g0 := BO.isL.only O h01 h02 h03
        have g1 := BO.isR.only O h11 h12 h13
        rw [ey] at g0 g1
        walk_at "wp"
        refine ⟨_, _, SqT.of (sm _ _ BO.tup), rfl, l, L, _, _, rfl, BO.left.same sm, Nat.le_trans (BO.isL.len O) (by decide), g0, fun H8 sm2 => ?_⟩
        have sm' := sm.trans sm2
        walk_at "wp"
        refine ⟨trivial, ifN (fun z => nomatch z) ⟨_, _, SqT.of (sm' _ _ BO.tup), rfl, r, R, _, _, rfl, BO.right.same sm', Nat.le_trans (BO.isR.len O) (by decide), g1, fun H9 sm3 => ?_⟩⟩
        walk_at "wp"
        exact ⟨trivial, ifN (fun z => nomatch z) ⟨_, _, _, rfl, sm'.trans sm3⟩⟩
      · rintro σ' H' ⟨y4, y5, y6, rfl, sm⟩
        exact ⟨_, _, _, rfl, s17.trans sm, ⟨sm _ _ BO.tup, BO.left.same sm, BO.right.same sm, BO.isL, BO.isR, BO.ne⟩⟩
    clear BO ho7 s17
    rintro σ' H8 ⟨y4, y5, y6, rfl, s18, BO⟩
    walk_at "wp"
    obtain ⟨as, b1, b2⟩ := id BO.left
    have ha : as.length = L.length := Paired.length b2
    refine ⟨_, _, SqT.of BO.tup, rfl, l, _, rfl, .inl (SqL.of b1), fun p1 n1 => ?_⟩
    have u1 := (Same.refl H8).new (o := .lst (as.map V.ref)) n1
    have B1 := bows_copy (l := l) b2 n1
    have R1 := BO.right.same u1
    have l1 := u1 _ _ b1
    have t1 := u1 _ _ BO.tup
    have v1 : Same H1 _ := s18.trans u1
    have np1l : p1 ≠ l := (ne_of_none b1 n1).symm
    generalize upd H8 p1 (.lst (as.map V.ref)) = X1 at *
    obtain ⟨bs, c1, c2⟩ := id R1
    have hb : bs.length = R.length := Paired.length c2
    refine ⟨_, _, SqT.of t1, rfl, r, _, rfl, .inl (SqL.of c1), fun p2 n2 => ?_⟩
    have u2 := (Same.refl X1).new (o := .lst (bs.map V.ref)) n2
    have C2 := bows_copy (l := r) c2 n2
    have np2l : p2 ≠ l := (ne_of_none l1 n2).symm
    have np2r : p2 ≠ r := (ne_of_none c1 n2).symm
    have np1r : p1 ≠ r := fun e => by
      subst e
      have := BO.right
      obtain ⟨_, z, _⟩ := this
      rw [n1] at z; cases z
    refine ⟨(by show 2 ≤ sizeLine; decide), fun p3 n3 => ?_⟩
    have u3 := (Same.refl (upd X1 p2 (.lst (bs.map V.ref)))).new (o := .lst [.ref p1, .ref p2]) n3
    have h3 : upd (upd X1 p2 (.lst (bs.map V.ref))) p3 (.lst [.ref p1, .ref p2]) p3 = some (.lst [.ref p1, .ref p2]) := upd_same
    have np3l : p3 ≠ l := (ne_of_none (u2 _ _ l1) n3).symm
    have np3r : p3 ≠ r := (ne_of_none (u2 _ _ c1) n3).symm
    have u13 := u2.trans u3
    have B3 := B1.same u13
    have C3 := C2.same u3
    have l3 := u13 _ _ l1
    have r3 := u13 _ _ c1
    have t3 := u13 _ _ t1
    have v3 := v1.trans u13
    generalize upd (upd X1 p2 (.lst (bs.map V.ref))) p3 (.lst [.ref p1, .ref p2]) = X3 at *
    have hL := BO.isL.len O
    have hR := BO.isR.len O
    refine ⟨_, _, SqT.of t3, rfl, w_tyL l3, (by show 2 ≤ sizeLine; decide), fun q1 m1 => ?_⟩
    have u4 := (Same.refl X3).new (o := .tup [.int 90, .int 91]) m1
    refine ⟨l, _, _, rfl, rfl, u4 _ _ l3, by rw [List.length_map]; exact small1000 (by omega), ?_⟩
    have B5 := bows_upd (ys := as.map V.ref ++ [.ref q1]) (B3.same u4) (u4 _ _ l3) np1l
    have C5 := bows_upd (ys := as.map V.ref ++ [.ref q1]) (C3.same u4) (u4 _ _ l3) np2l
    have h5 : upd (upd X3 q1 (.tup [.int 90, .int 91])) l (.lst (as.map V.ref ++ [.ref q1])) p3 = _ := (upd_ne np3l).trans (u4 _ _ h3)
    have ntl : t ≠ l := fun e => by subst e; rw [t3] at l3; cases l3
    have ntr : t ≠ r := fun e => by subst e; rw [t3] at r3; cases r3
    have t5 : upd (upd X3 q1 (.tup [.int 90, .int 91])) l (.lst (as.map V.ref ++ [.ref q1])) t = _ := (upd_ne ntl).trans (u4 _ _ t3)
    have r5 : upd (upd X3 q1 (.tup [.int 90, .int 91])) l (.lst (as.map V.ref ++ [.ref q1])) r = _ := (upd_ne BO.ne.symm).trans (u4 _ _ r3)
    have v5 := (v3.trans u4).new (o := .lst (as.map V.ref ++ [.ref q1])) fl1
    generalize upd (upd X3 q1 (.tup [.int 90, .int 91])) l (.lst (as.map V.ref ++ [.ref q1])) = X5 at *
    refine ⟨_, _, SqT.of t5, rfl, w_tyL r5, (by show 2 ≤ sizeLine; decide), fun q2 m2 => ?_⟩
    have u6 := (Same.refl X5).new (o := .tup [.int 90, .int 91]) m2
    refine ⟨r, _, _, rfl, rfl, u6 _ _ r5, by rw [List.length_map]; exact small1000 (by omega), ?_⟩
    have B7 := bows_upd (ys := bs.map V.ref ++ [.ref q2]) (B5.same u6) (u6 _ _ r5) np1r
    have C7 := bows_upd (ys := bs.map V.ref ++ [.ref q2]) (C5.same u6) (u6 _ _ r5) np2r
    have h7 : upd (upd X5 q2 (.tup [.int 90, .int 91])) r (.lst (bs.map V.ref ++ [.ref q2])) p3 = _ := (upd_ne np3r).trans (u6 _ _ h5)
    have v7 := (v5.trans u6).new (o := .lst (bs.map V.ref ++ [.ref q2])) fr1
    generalize upd (upd X5 q2 (.tup [.int 90, .int 91])) r (.lst (bs.map V.ref ++ [.ref q2])) = X7 at *
    refine ⟨(by show 2 ≤ sizeLine; decide), fun m2 nm2 => ?_⟩
    have u8 := (Same.refl X7).new (o := .tup [.str (sd b), .ref o]) nm2
    refine ⟨m2, o, b, ns, rfl, ⟨upd_same, u8 _ _ (v7 _ _ ho)⟩, O, fun t' l' r' L' R' X9 nt' nl' nr' s9 BO' => ?_⟩
    have eL := BO'.isL.uniq BO.isL
    have eR := BO'.isR.uniq BO.isR
    subst eL eR
    walk_at "wp"
    refine ⟨_, _, SqT.of BO'.tup, rfl, _, _, SqT.of BO'.tup, rfl, (by show 2 ≤ sizeLine; decide), fun p9 n9 => ?_⟩
    have u9 := (Same.refl X9).new (o := .lst [.ref l', .ref r']) n9
    have u79 := (u8.trans s9).trans u9
    have lay2 : (PyData.list [bowsD L', bowsD R']).canLay0 = true := by show (PyData.canLay0 (bowsD L') && (PyData.canLay0 (bowsD R') && true)) = true; rw [bows_lay, bows_lay]; rfl
    have dep2 : (PyData.list [bowsD L', bowsD R']).depth ≤ 3 := by
      show max (bowsD L').depth (max (bowsD R').depth 0) + 1 ≤ 3
      have := bows_depth L'
      have := bows_depth R'
      omega
    have eqv2 : PyData.eqv (PyData.list [bowsD L', bowsD R']) (PyData.list [bowsD L', bowsD R']) = true := by
      show (PyData.eqv (bowsD L') (bowsD L') && (PyData.eqv (bowsD R') (bowsD R') && true)) = true
      rw [bows_eqv, bows_eqv]; simp
    refine ⟨.list [bowsD L', bowsD R'], .list [bowsD L', bowsD R'], .lst (SqL.of upd_same) (.cons (bows_rep (BO'.left.same u9)) (.cons (bows_rep (BO'.right.same u9)) .nil)),
      .lst (SqL.of (u79 _ _ h7)) (.cons (bows_rep (B7.same u79)) (.cons (bows_rep (C7.same u79)) .nil)), lay2, lay2, Nat.le_trans (Nat.min_le_left _ _) (Nat.le_trans dep2 (by decide)), ?_⟩
    simp only [eqv2, Bool.false_eq_true, if_false]
    exact kQ _
end
theorem fn_mk {K : PySem.W.Frag} {h : Heap} {mg : Str → Option Value} (X : K.In h) (G : h.Ns mainGlobals mg) {x : Str} {st : Stmt} {ps : List Str} {f : Addr} {oc : Value} {od an : Option Addr} {osl : Array (Option Value)} {kV doc pm cdv ct : Value}
    (a : PySem.W.nsIn K mainGlobals x = some (some (.ref f))) (l : K.lookup f = some ⟨oc, od, .func (PySem.W.fnOf x x (defArgs st) (defBody st) (defScope st) .none kV doc pm an cdv ct), osl⟩) (c : PySem.W.codeIn K cdv x = true) (k : PySem.W.keepIn K (.ref f) = true)
    (hb : ∀ (kV doc pm : Value) (an : Option Addr) (cdv ct : Value) (us : List Value), us.length = ps.length → bindArgs (PySem.W.fnOf x x (defArgs st) (defBody st) (defScope st) .none kV doc pm an cdv ct) ⟨us, []⟩ = pure (ps.zip us)) : Fn K mg x st ps :=
  have F := fun_mk (st := st) l c k
  ⟨f, _, F, PySem.W.mg_of X G a, F.binds hb⟩
theorem all_mk {l : PySem.W.OpenLaw} {w : World} {K : PySem.W.Frag} {h : Heap} {mg : Str → Option Value} {fa : Addr} (X : K.In h) (G : h.Ns mainGlobals mg) (hfa : mg "law" = some (.ref fa))
    {f_other_side : Addr} {od_other_side an_other_side : Option Addr} {sl_other_side : Array (Option Value)} {oc_other_side kV_other_side dc_other_side pm_other_side cd_other_side ct_other_side : Value}
    (a_other_side : PySem.W.nsIn K mainGlobals "other_side" = some (some (.ref f_other_side))) (l_other_side : K.lookup f_other_side = some ⟨oc_other_side, od_other_side, .func (PySem.W.fnOf "other_side" "other_side" (defArgs s_other_side) (defBody s_other_side) (defScope s_other_side) .none kV_other_side dc_other_side pm_other_side an_other_side cd_other_side ct_other_side), sl_other_side⟩) (c_other_side : PySem.W.codeIn K cd_other_side "other_side" = true) (k_other_side : PySem.W.keepIn K (.ref f_other_side) = true)
    {f_side_of_step : Addr} {od_side_of_step an_side_of_step : Option Addr} {sl_side_of_step : Array (Option Value)} {oc_side_of_step kV_side_of_step dc_side_of_step pm_side_of_step cd_side_of_step ct_side_of_step : Value}
    (a_side_of_step : PySem.W.nsIn K mainGlobals "side_of_step" = some (some (.ref f_side_of_step))) (l_side_of_step : K.lookup f_side_of_step = some ⟨oc_side_of_step, od_side_of_step, .func (PySem.W.fnOf "side_of_step" "side_of_step" (defArgs s_side_of_step) (defBody s_side_of_step) (defScope s_side_of_step) .none kV_side_of_step dc_side_of_step pm_side_of_step an_side_of_step cd_side_of_step ct_side_of_step), sl_side_of_step⟩) (c_side_of_step : PySem.W.codeIn K cd_side_of_step "side_of_step" = true) (k_side_of_step : PySem.W.keepIn K (.ref f_side_of_step) = true)
    {f_rows_of_way : Addr} {od_rows_of_way an_rows_of_way : Option Addr} {sl_rows_of_way : Array (Option Value)} {oc_rows_of_way kV_rows_of_way dc_rows_of_way pm_rows_of_way cd_rows_of_way ct_rows_of_way : Value}
    (a_rows_of_way : PySem.W.nsIn K mainGlobals "rows_of_way" = some (some (.ref f_rows_of_way))) (l_rows_of_way : K.lookup f_rows_of_way = some ⟨oc_rows_of_way, od_rows_of_way, .func (PySem.W.fnOf "rows_of_way" "rows_of_way" (defArgs s_rows_of_way) (defBody s_rows_of_way) (defScope s_rows_of_way) .none kV_rows_of_way dc_rows_of_way pm_rows_of_way an_rows_of_way cd_rows_of_way ct_rows_of_way), sl_rows_of_way⟩) (c_rows_of_way : PySem.W.codeIn K cd_rows_of_way "rows_of_way" = true) (k_rows_of_way : PySem.W.keepIn K (.ref f_rows_of_way) = true)
    {f_bows_of : Addr} {od_bows_of an_bows_of : Option Addr} {sl_bows_of : Array (Option Value)} {oc_bows_of kV_bows_of dc_bows_of pm_bows_of cd_bows_of ct_bows_of : Value}
    (a_bows_of : PySem.W.nsIn K mainGlobals "bows_of" = some (some (.ref f_bows_of))) (l_bows_of : K.lookup f_bows_of = some ⟨oc_bows_of, od_bows_of, .func (PySem.W.fnOf "bows_of" "bows_of" (defArgs s_bows_of) (defBody s_bows_of) (defScope s_bows_of) .none kV_bows_of dc_bows_of pm_bows_of an_bows_of cd_bows_of ct_bows_of), sl_bows_of⟩) (c_bows_of : PySem.W.codeIn K cd_bows_of "bows_of" = true) (k_bows_of : PySem.W.keepIn K (.ref f_bows_of) = true)
    {f_cell_at : Addr} {od_cell_at an_cell_at : Option Addr} {sl_cell_at : Array (Option Value)} {oc_cell_at kV_cell_at dc_cell_at pm_cell_at cd_cell_at ct_cell_at : Value}
    (a_cell_at : PySem.W.nsIn K mainGlobals "_law_cell_at" = some (some (.ref f_cell_at))) (l_cell_at : K.lookup f_cell_at = some ⟨oc_cell_at, od_cell_at, .func (PySem.W.fnOf "_law_cell_at" "_law_cell_at" (defArgs s_cell_at) (defBody s_cell_at) (defScope s_cell_at) .none kV_cell_at dc_cell_at pm_cell_at an_cell_at cd_cell_at ct_cell_at), sl_cell_at⟩) (c_cell_at : PySem.W.codeIn K cd_cell_at "_law_cell_at" = true) (k_cell_at : PySem.W.keepIn K (.ref f_cell_at) = true)
    {f_mix : Addr} {od_mix an_mix : Option Addr} {sl_mix : Array (Option Value)} {oc_mix kV_mix dc_mix pm_mix cd_mix ct_mix : Value}
    (a_mix : PySem.W.nsIn K mainGlobals "_law_mix" = some (some (.ref f_mix))) (l_mix : K.lookup f_mix = some ⟨oc_mix, od_mix, .func (PySem.W.fnOf "_law_mix" "_law_mix" (defArgs s_mix) (defBody s_mix) (defScope s_mix) .none kV_mix dc_mix pm_mix an_mix cd_mix ct_mix), sl_mix⟩) (c_mix : PySem.W.codeIn K cd_mix "_law_mix" = true) (k_mix : PySem.W.keepIn K (.ref f_mix) = true)
    {f_whole : Addr} {od_whole an_whole : Option Addr} {sl_whole : Array (Option Value)} {oc_whole kV_whole dc_whole pm_whole cd_whole ct_whole : Value}
    (a_whole : PySem.W.nsIn K mainGlobals "_law_whole" = some (some (.ref f_whole))) (l_whole : K.lookup f_whole = some ⟨oc_whole, od_whole, .func (PySem.W.fnOf "_law_whole" "_law_whole" (defArgs s_whole) (defBody s_whole) (defScope s_whole) .none kV_whole dc_whole pm_whole an_whole cd_whole ct_whole), sl_whole⟩) (c_whole : PySem.W.codeIn K cd_whole "_law_whole" = true) (k_whole : PySem.W.keepIn K (.ref f_whole) = true)
    {f_order_by : Addr} {od_order_by an_order_by : Option Addr} {sl_order_by : Array (Option Value)} {oc_order_by kV_order_by dc_order_by pm_order_by cd_order_by ct_order_by : Value}
    (a_order_by : PySem.W.nsIn K mainGlobals "_law_order_by" = some (some (.ref f_order_by))) (l_order_by : K.lookup f_order_by = some ⟨oc_order_by, od_order_by, .func (PySem.W.fnOf "_law_order_by" "_law_order_by" (defArgs s_order_by) (defBody s_order_by) (defScope s_order_by) .none kV_order_by dc_order_by pm_order_by an_order_by cd_order_by ct_order_by), sl_order_by⟩) (c_order_by : PySem.W.codeIn K cd_order_by "_law_order_by" = true) (k_order_by : PySem.W.keepIn K (.ref f_order_by) = true)
    {f_from : Addr} {od_from an_from : Option Addr} {sl_from : Array (Option Value)} {oc_from kV_from dc_from pm_from cd_from ct_from : Value}
    (a_from : PySem.W.nsIn K mainGlobals "_law_from" = some (some (.ref f_from))) (l_from : K.lookup f_from = some ⟨oc_from, od_from, .func (PySem.W.fnOf "_law_from" "_law_from" (defArgs s_from) (defBody s_from) (defScope s_from) .none kV_from dc_from pm_from an_from cd_from ct_from), sl_from⟩) (c_from : PySem.W.codeIn K cd_from "_law_from" = true) (k_from : PySem.W.keepIn K (.ref f_from) = true)
    {f_sound : Addr} {od_sound an_sound : Option Addr} {sl_sound : Array (Option Value)} {oc_sound kV_sound dc_sound pm_sound cd_sound ct_sound : Value}
    (a_sound : PySem.W.nsIn K mainGlobals "_law_sound" = some (some (.ref f_sound))) (l_sound : K.lookup f_sound = some ⟨oc_sound, od_sound, .func (PySem.W.fnOf "_law_sound" "_law_sound" (defArgs s_sound) (defBody s_sound) (defScope s_sound) .none kV_sound dc_sound pm_sound an_sound cd_sound ct_sound), sl_sound⟩) (c_sound : PySem.W.codeIn K cd_sound "_law_sound" = true) (k_sound : PySem.W.keepIn K (.ref f_sound) = true)
    {f_law : Addr} {od_law an_law : Option Addr} {sl_law : Array (Option Value)} {oc_law kV_law dc_law pm_law cd_law ct_law : Value}
    (a_law : PySem.W.nsIn K mainGlobals "law" = some (some (.ref f_law))) (l_law : K.lookup f_law = some ⟨oc_law, od_law, .func (PySem.W.fnOf "law" "law" (defArgs s_law) (defBody s_law) (defScope s_law) .none kV_law dc_law pm_law an_law cd_law ct_law), sl_law⟩) (c_law : PySem.W.codeIn K cd_law "law" = true) (k_law : PySem.W.keepIn K (.ref f_law) = true)
    (z_len : PySem.W.nsIn K mainGlobals "len" = some none) (z_range : PySem.W.nsIn K mainGlobals "range" = some none) (z_int : PySem.W.nsIn K mainGlobals "int" = some none) (z_list : PySem.W.nsIn K mainGlobals "list" = some none) (z_tuple : PySem.W.nsIn K mainGlobals "tuple" = some none) (z_isinstance : PySem.W.nsIn K mainGlobals "isinstance" = some none) (z_str : PySem.W.nsIn K mainGlobals "str" = some none) (z_bool : PySem.W.nsIn K mainGlobals "bool" = some none) (z_sorted : PySem.W.nsIn K mainGlobals "sorted" = some none) :
    ∃ fd : FuncData, (∀ (s : Shared) (v : Value), BindsTo s fd ⟨[v], []⟩ [("_law_script", v)]) ∧ ∀ base : Heap, K.In base → base.Ns mainGlobals mg → FnOk l.prog w K mg base CX0 5 fa fd ["_law_script"] (spLaw K) := by
  have B : Blt mg := ⟨PySem.W.mg_none_of X G z_len, PySem.W.mg_none_of X G z_range, PySem.W.mg_none_of X G z_int, PySem.W.mg_none_of X G z_list, PySem.W.mg_none_of X G z_tuple, PySem.W.mg_none_of X G z_isinstance, PySem.W.mg_none_of X G z_str, PySem.W.mg_none_of X G z_bool, PySem.W.mg_none_of X G z_sorted⟩
  have E_other_side : Fn K mg "other_side" s_other_side ["side"] := fn_mk X G a_other_side l_other_side c_other_side k_other_side fun _ _ _ _ _ _ us hl => match us, hl with | [_], _ => rfl
  have E_side_of_step : Fn K mg "side_of_step" s_side_of_step ["maze", "step"] := fn_mk X G a_side_of_step l_side_of_step c_side_of_step k_side_of_step fun _ _ _ _ _ _ us hl => match us, hl with | [_, _], _ => rfl
  have E_rows_of_way : Fn K mg "rows_of_way" s_rows_of_way ["maze"] := fn_mk X G a_rows_of_way l_rows_of_way c_rows_of_way k_rows_of_way fun _ _ _ _ _ _ us hl => match us, hl with | [_], _ => rfl
  have E_bows_of : Fn K mg "bows_of" s_bows_of ["maze"] := fn_mk X G a_bows_of l_bows_of c_bows_of k_bows_of fun _ _ _ _ _ _ us hl => match us, hl with | [_], _ => rfl
  have E_cell_at : Fn K mg "_law_cell_at" s_cell_at ["_law_script", "_law_k"] := fn_mk X G a_cell_at l_cell_at c_cell_at k_cell_at fun _ _ _ _ _ _ us hl => match us, hl with | [_, _], _ => rfl
  have E_mix : Fn K mg "_law_mix" s_mix ["_law_seed", "_law_k"] := fn_mk X G a_mix l_mix c_mix k_mix fun _ _ _ _ _ _ us hl => match us, hl with | [_, _], _ => rfl
  have E_whole : Fn K mg "_law_whole" s_whole ["_law_found"] := fn_mk X G a_whole l_whole c_whole k_whole fun _ _ _ _ _ _ us hl => match us, hl with | [_], _ => rfl
  have E_order_by : Fn K mg "_law_order_by" s_order_by ["_law_cell", "_law_room"] := fn_mk X G a_order_by l_order_by c_order_by k_order_by fun _ _ _ _ _ _ us hl => match us, hl with | [_, _], _ => rfl
  have E_from : Fn K mg "_law_from" s_from ["_law_bows", "_law_row"] := fn_mk X G a_from l_from c_from k_from fun _ _ _ _ _ _ us hl => match us, hl with | [_, _], _ => rfl
  have E_sound : Fn K mg "_law_sound" s_sound ["_law_bows"] := fn_mk X G a_sound l_sound c_sound k_sound fun _ _ _ _ _ _ us hl => match us, hl with | [_], _ => rfl
  have E_law : Fn K mg "law" s_law ["_law_script"] := fn_mk X G a_law l_law c_law k_law fun _ _ _ _ _ _ us hl => match us, hl with | [_], _ => rfl
  have key : ∀ base : Heap, Def l.prog w K mg base 5 "law" s_law ["_law_script"] (spLaw K) := fun base => by
    have D_other_side := ok_other_side (P := l.prog) (w := w) (base := base) E_other_side
    have D_side_of_step := ok_side_of_step E_side_of_step D_other_side
    have D_rows_of_way := ok_rows_of_way (P := l.prog) (w := w) (base := base) B E_rows_of_way
    have D_bows_of := ok_bows_of B E_bows_of D_side_of_step D_rows_of_way
    have D_cell_at := ok_cell_at (P := l.prog) (w := w) (base := base) B E_cell_at
    have D_mix := ok_mix (P := l.prog) (w := w) (base := base) E_mix
    have D_whole := ok_whole (P := l.prog) (w := w) (base := base) B E_whole
    have D_order_by := ok_order_by B E_order_by D_mix
    have D_from := ok_from (P := l.prog) (w := w) (base := base) B E_from
    have D_sound := ok_sound B E_sound D_whole
    exact ok_law B E_law D_bows_of D_cell_at D_order_by D_from D_sound
  have e := hfa.symm.trans (PySem.W.mg_of X G a_law)
  cases e
  refine ⟨PySem.W.fnOf "law" "law" (defArgs s_law) (defBody s_law) (defScope s_law) .none kV_law dc_law pm_law an_law cd_law ct_law, fun s v => .of_eq rfl, fun base _ _ => ?_⟩
  obtain ⟨f, fd, F, m, b, ok⟩ := (key base).ex
  rw [PySem.W.mg_of X G a_law] at m
  cases m
  obtain ⟨_, _, _, _, _, _, _, _, _, rfl, lk, _⟩ := F.ex
  rw [l_law] at lk
  cases lk
  exact ok
theorem walk {l : PySem.W.OpenLaw} {q : Program} {loose : List Str} {XP : (Str → Option Value) → Heap → Prop} {YP : World → Heap → Prop} {d : DefRec} {K : Params → PySem.W.Frag} (hn : l.most = some 63) (hdf : d.params.defaults = [])
    (hY : ∀ (w : World) (h : Heap), YP w h → (K w.params).In h)
    (F : ∀ (w : World) (mg : Str → Option Value) (fa : Addr) (h : Heap), (K w.params).In h → h.Ns mainGlobals mg → mg d.name = some (.ref fa) →
      ∃ fd : FuncData, (∀ (s : Shared) (u : Value), BindsTo s fd ⟨[u], []⟩ [("_law_script", u)]) ∧ ∀ base : Heap, (K w.params).In base → base.Ns mainGlobals mg → FnOk l.prog w (K w.params) mg base CX0 5 fa fd ["_law_script"] (spLaw (K w.params))) :
    PySem.W.WalkO q loose XP YP l.row.toRowW d [] (fun f vs => PySem.call f vs) :=
  L2.walk_of (n := 63) (k := 5) (x := "_law_script") (CX := fun _ => CX0) (sp := fun w => spLaw (K w.params)) hn (by decide) hdf ⟨rfl, by decide, by decide⟩ hY F (fun _ _ a ns hl _ hS => ⟨a, ns, rfl, hS, hl, fun _ => rfl⟩) fun _ _ _ _ _ z => z
end Rm
open PySem PySem.W PyProof.Rows
set_option maxRecDepth 100000 in
set_option maxHeartbeats 0 in
theorem PySem.Challenge.cw_ringmaze_k07_bows_of_mazes_holds : PySem.Challenge.rw_ringmaze_k07_bows_of_mazes.Holds := by
  w_on; o_law; k_head; (case hw => w_witness2)
  k_fill
  refine Rm.walk (l := PySem.Challenge.rw_ringmaze_k07_bows_of_mazes) rfl rfl (fun w h Y => PySem.W.kIn_of Y) ?F
  case F =>
    intro w mg fa h KX G hmg
    refine' Rm.all_mk KX G hmg ?a_other_side ?l_other_side ?c_other_side ?k_other_side ?a_side_of_step ?l_side_of_step ?c_side_of_step ?k_side_of_step ?a_rows_of_way ?l_rows_of_way ?c_rows_of_way ?k_rows_of_way ?a_bows_of ?l_bows_of ?c_bows_of ?k_bows_of ?a_cell_at ?l_cell_at ?c_cell_at ?k_cell_at ?a_mix ?l_mix ?c_mix ?k_mix ?a_whole ?l_whole ?c_whole ?k_whole ?a_order_by ?l_order_by ?c_order_by ?k_order_by ?a_from ?l_from ?c_from ?k_from ?a_sound ?l_sound ?c_sound ?k_sound ?a_law ?l_law ?c_law ?k_law ?z_len ?z_range ?z_int ?z_list ?z_tuple ?z_isinstance ?z_str ?z_bool ?z_sorted
    (case a_other_side => k_is)
    (case l_other_side => k_is)
    (case c_other_side => k_is)
    (case k_other_side => k_is)
    (case a_side_of_step => k_is)
    (case l_side_of_step => k_is)
    (case c_side_of_step => k_is)
    (case k_side_of_step => k_is)
    (case a_rows_of_way => k_is)
    (case l_rows_of_way => k_is)
    (case c_rows_of_way => k_is)
    (case k_rows_of_way => k_is)
    (case a_bows_of => k_is)
    (case l_bows_of => k_is)
    (case c_bows_of => k_is)
    (case k_bows_of => k_is)
    (case a_cell_at => k_is)
    (case l_cell_at => k_is)
    (case c_cell_at => k_is)
    (case k_cell_at => k_is)
    (case a_mix => k_is)
    (case l_mix => k_is)
    (case c_mix => k_is)
    (case k_mix => k_is)
    (case a_whole => k_is)
    (case l_whole => k_is)
    (case c_whole => k_is)
    (case k_whole => k_is)
    (case a_order_by => k_is)
    (case l_order_by => k_is)
    (case c_order_by => k_is)
    (case k_order_by => k_is)
    (case a_from => k_is)
    (case l_from => k_is)
    (case c_from => k_is)
    (case k_from => k_is)
    (case a_sound => k_is)
    (case l_sound => k_is)
    (case c_sound => k_is)
    (case k_sound => k_is)
    (case a_law => k_is)
    (case l_law => k_is)
    (case c_law => k_is)
    (case k_law => k_is)
    (case z_len => k_is)
    (case z_range => k_is)
    (case z_int => k_is)
    (case z_list => k_is)
    (case z_tuple => k_is)
    (case z_isinstance => k_is)
    (case z_str => k_is)
    (case z_bool => k_is)
    (case z_sorted => k_is)
#print axioms PySem.Challenge.cw_ringmaze_k07_bows_of_mazes_holds
