import PyProof.Rows.All
import Wide.All
import OpenK.AllK
import Wide.FinOn
import Lean
import PyProof.EqAt
import PyProof.EqKinds
import PyProof.TupleCall
import KE.LcSums
import PyProof.StrLawsJoin
import KE.KSortedM
import KE.KSortTup
import KE.KSortKey
import PyProof.WalkInts
import PyProof.MinMaxWalk
import KE.KRevIter
import PySem.Challenge.RW_ringmaze_k26_laid_in
-- CHANGE: your row's module here, as the last of these rows
set_option Elab.async false
set_option linter.all false
set_option maxRecDepth 100000
/-! THE HAND LAYER, for ints, bools, texts, own classes, LISTS and tuples (index, slices, in, append, pop ..), calls, loops. Paste it whole ahead of your own text; what your proof does not reach may be deleted. -/
def PySem.W.Fast.tw17067392705822613024 : Nat := 0
def PySem.W.Fast.tw12342609570690817166 : Nat := 0
def PySem.W.Fast.tw15448555125315525219 : Nat := 0
def PySem.W.Fast.tw669698341450219123 : Nat := 0
def PySem.W.Fast.tw6850919921376034396 : Nat := 0
def PySem.W.Fast.tw14465963023310598444 : Nat := 0
def PySem.W.Fast.tw5159255209579176666 : Nat := 0
def PySem.W.Fast.tw18041021504067753599 : Nat := 0
def PySem.W.Fast.tw100316419600259746 : Nat := 0
def PySem.W.Fast.tw8941038944671885424 : Nat := 0
def PySem.W.Fast.tw5917230093162279866 : Nat := 0
def PySem.W.Fast.tw4532926411114404899 : Nat := 0
def PySem.W.Fast.tw16711703684253935942 : Nat := 0
def PySem.W.Fast.tw1225737140456189629 : Nat := 0
def PySem.W.Fast.tw17205406873817124479 : Nat := 0
def PySem.W.Fast.tw7739760621305573091 : Nat := 0
def PySem.W.Fast.tw13304957957825153614 : Nat := 0
def PySem.W.Fast.tw2362600470132762878 : Nat := 0
def PySem.W.Fast.tw14725498833855889987 : Nat := 0
def PySem.W.Fast.tw1273335011622815797 : Nat := 0
def PySem.W.Fast.tw15072631162644982119 : Nat := 0
def PySem.W.Fast.tw7969098110133491629 : Nat := 0
def PySem.W.Fast.tw9971045430722695555 : Nat := 0
def PySem.W.Fast.tw2229009857735906516 : Nat := 0
def PySem.W.Fast.tw1016530896294152513 : Nat := 0
def PySem.W.Fast.tw1465063185789946729 : Nat := 0
def PySem.W.Fast.tw17072445930121169353 : Nat := 0
def PySem.W.Fast.tw4671645205617804981 : Nat := 0
def PySem.W.Fast.tw17093278818851112227 : Nat := 0
def PySem.W.Fast.tw5080532290244169109 : Nat := 0
def PySem.W.Fast.tw14928701373790678613 : Nat := 0
namespace L2
open PySem PySem.Spec PyProof.Rows

/-- a key: an int or a str -/
abbrev Key := Sum Int Str
def keyIs : Key → Value → Bool
  | .inl k, v => Value.isInt k v
  | .inr x, v => Value.isStrOf x v
def keyH (w : World) : Key → Int
  | .inl k => hashInt k
  | .inr x => hashStr w x
theorem keyIs_shape : ∀ {k : Key} {v : Value}, keyIs k v = true → (∃ i t, k = Sum.inl i ∧ v = Value.int i t) ∨ (∃ x t, k = Sum.inr x ∧ v = Value.str x t)
  | .inl i, v, h => by
    obtain ⟨t, e⟩ := Value.isInt_shape (k := i) (v := v) h
    exact .inl ⟨i, t, rfl, e⟩
  | .inr x, v, h => by
    obtain ⟨t, e⟩ := Value.isStrOf_shape (x := x) (v := v) h
    exact .inr ⟨x, t, rfl, e⟩
theorem keyIs_int (i : Int) (t : Tok) : keyIs (.inl i) (.int i t) = true := by simp [keyIs, Value.isInt]
theorem keyIs_str (x : Str) (t : Tok) : keyIs (.inr x) (.str x t) = true := by simp [keyIs, Value.isStrOf]
theorem key_ll (a b : Int) : decide ((Sum.inl a : Key) = Sum.inl b) = (a == b) := by
  by_cases e : a = b
  · subst e; simp
  · have h : ¬ (Sum.inl a : Key) = Sum.inl b := fun q => e (Sum.inl.inj q)
    rw [decide_eq_false h]
    exact (beq_eq_false_iff_ne.mpr e).symm
theorem key_rr (a b : Str) : decide ((Sum.inr a : Key) = Sum.inr b) = decide (a = b) := by
  by_cases e : a = b
  · subst e; simp
  · have h : ¬ (Sum.inr a : Key) = Sum.inr b := fun q => e (Sum.inr.inj q)
    rw [decide_eq_false h, decide_eq_false e]
theorem key_lr (a : Int) (b : Str) : decide ((Sum.inl a : Key) = Sum.inr b) = false := decide_eq_false (fun q => nomatch q)
theorem key_rl (a : Str) (b : Int) : decide ((Sum.inr a : Key) = Sum.inl b) = false := decide_eq_false (fun q => nomatch q)

def mixKind (prog : Program) (w : World) : PySem.KeyKind prog w Key where
  is := keyIs
  hash := keyH w
  inj := fun v a b ha hb => by
    rcases keyIs_shape ha with ⟨i, t, rfl, rfl⟩ | ⟨x, t, rfl, rfl⟩
    · rcases keyIs_shape hb with ⟨j, u, rfl, e⟩ | ⟨y, u, rfl, e⟩
      · injection e with e1 _; rw [e1]
      · exact nomatch e
    · rcases keyIs_shape hb with ⟨j, u, rfl, e⟩ | ⟨y, u, rfl, e⟩
      · exact nomatch e
      · injection e with e1 _; rw [e1]
  byValue := fun k v h => by
    rcases keyIs_shape h with ⟨i, t, rfl, rfl⟩ | ⟨x, t, rfl, rfl⟩ <;> rfl
  pyHash := fun hv h => by
    rcases keyIs_shape hv with ⟨i, t, rfl, rfl⟩ | ⟨x, t, rfl, rfl⟩
    · exact wpAny_pyHash_int h
    · exact wpAny_pyHash_str h
  eqBool := fun hu hv h => by
    rcases keyIs_shape hu with ⟨i, t, rfl, rfl⟩ | ⟨x, t, rfl, rfl⟩
    · rcases keyIs_shape hv with ⟨j, u, rfl, rfl⟩ | ⟨y, u, rfl, rfl⟩
      · rw [key_ll] at h; exact wpAny_eqBool_int h
      · rw [key_lr] at h; exact SeqAt.EqAt.int_str i t y u _ _ _ _ h
    · rcases keyIs_shape hv with ⟨j, u, rfl, rfl⟩ | ⟨y, u, rfl, rfl⟩
      · rw [key_rl] at h; exact SeqAt.EqAt.str_int x t j u _ _ _ _ h
      · rw [key_rr] at h; exact wpAny_eqBool_str h
  «strs» := fun k x t v h => by
    rcases keyIs_shape h with ⟨i, u, rfl, e⟩ | ⟨y, u, rfl, e⟩
    · exact nomatch e
    · injection e with e1 _
      subst e1
      cases v <;> rfl

theorem mixKind_int (prog : Program) (w : World) (i : Int) (t : Tok) : (mixKind prog w).is (.inl i) (.int i t) = true := keyIs_int i t
theorem mixKind_str (prog : Program) (w : World) (x : Str) (t : Tok) : (mixKind prog w).is (.inr x) (.str x t) = true := keyIs_str x t
end L2

namespace L2
open PySem PySem.Spec PyProof.Rows

/-- a value, without the heap -/
inductive V where
  | non | bl (b : Bool) | int (i : Int) | str (x : Str) | byt (b : Array UInt8) | flt (b : UInt64) | ref (a : Addr) | ty (n : String)
  deriving DecidableEq

def RelV : V → Value → Prop
  | .non, u => u = Value.none
  | .bl b, u => u = Value.bool b
  | .int i, u => ∃ t, u = Value.int i t
  | .str x, u => ∃ t, u = Value.str x t
  | .byt b, u => ∃ t, u = Value.bytes b t
  | .flt b, u => ∃ t, u = Value.float b t
  | .ref a, u => u = Value.ref a
  | .ty n, u => u = Value.type n

abbrev Vals : List V → List Value → Prop := Paired RelV
theorem Vals.length {xs : List V} {us : List Value} (r : Vals xs us) : xs.length = us.length := Paired.length r
theorem Vals.get : ∀ {xs : List V} {us : List Value} {i : Nat} {x : V}, Vals xs us → xs[i]? = some x → ∃ u, us[i]? = some u ∧ RelV x u
  | _, _, _, _, .nil, e => by simp at e
  | _, _, 0, _, .cons r _, e => by simp at e; subst e; exact ⟨_, rfl, r⟩
  | _, _, i + 1, x, .cons _ t, e => by
    obtain ⟨u, h1, h2⟩ := Vals.get (i := i) (x := x) t (by simpa using e)
    exact ⟨u, by simpa using h1, h2⟩
theorem Vals.set {x : V} {u : Value} (r : RelV x u) : ∀ {xs : List V} {us : List Value} (i : Nat), Vals xs us → Vals (xs.set i x) (us.set i u)
  | _, _, _, .nil => .nil
  | _, _, 0, .cons _ t => .cons r t
  | _, _, i + 1, .cons q t => .cons q (Vals.set r i t)
theorem Vals.append : ∀ {xs ys : List V} {us ws : List Value}, Vals xs us → Vals ys ws → Vals (xs ++ ys) (us ++ ws)
  | _, _, _, _, .nil, s => s
  | _, _, _, _, .cons r t, s => .cons r (Vals.append t s)
theorem Vals.take : ∀ {xs : List V} {us : List Value} (n : Nat), Vals xs us → Vals (xs.take n) (us.take n)
  | _, _, 0, _ => .nil
  | _, _, _ + 1, .nil => .nil
  | _, _, n + 1, .cons r t => .cons r (Vals.take n t)
theorem Vals.drop : ∀ {xs : List V} {us : List Value} (n : Nat), Vals xs us → Vals (xs.drop n) (us.drop n)
  | _, _, 0, r => r
  | _, _, _ + 1, .nil => .nil
  | _, _, n + 1, .cons _ t => Vals.drop n t
def RelO : Option V → Option Value → Prop
  | some v, some u => RelV v u
  | none, none => True
  | _, _ => False
def KV {κ : Type} : List (κ × V) → List (κ × Value) → Prop := Paired fun (p : κ × V) (q : κ × Value) => p.1 = q.1 ∧ RelV p.2 q.2

/-- a key of a dict (00_mix): an int or a text -/
def kV : Key → V
  | .inl i => .int i
  | .inr x => .str x

/-- what stands at a tracked address -/
inductive HO where
  /-- a list -/
  | lst (xs : List V)
  /-- a tuple (never changes) -/
  | tup (xs : List V)
  /-- a dict whose keys are ints and texts; one whose keys are tuples of ints and texts (the empty one is both) -/
  | dK (kvs : List (Key × V)) | dT (kvs : List (List Key × V))
  /-- a set of ints: its members, its size -/
  | set (S : Int → Bool) (n : Nat)
  /-- an instance of the class at C, its dict at dx, its attributes -/
  | ins (C dx : Addr) (fs : List (Str × V))
  /-- the dict of the instance at x -/
  | own (x : Addr)
  /-- the dict of an exception -/
  | xd (fs : List (Str × V))
  /-- a bound method, f of x -/
  | met (f x : Addr)
  /-- a range object lo, lo + 1, .. below hi -/
  | rng (lo hi : Int)
  /-- a thing that is known to the object (the script; a dict while a loop walks it): read, never written while it is so -/
  | frz (o : Obj) (u : HO)
  /-- a code object's table -/
  | tbl (ps : Array Value)
  /-- any other thing, by what is true of its one object (a def of one's own: SetO a S n := HO.ext fun h => ..) -/
  | ext (φ : Heap → Prop)

abbrev Hp := Addr → Option HO
def upd (H : Hp) (a : Addr) (o : HO) : Hp := fun b => if b = a then some o else H b
theorem upd_same {H : Hp} {a : Addr} {o : HO} : upd H a o a = some o := by unfold upd; rw [if_pos rfl]
theorem upd_ne {H : Hp} {a b : Addr} {o : HO} (h : b ≠ a) : upd H a o b = H b := by unfold upd; rw [if_neg h]
/-- two objects of different content stand apart -/
theorem ne_of {H : Hp} {a b : Addr} {o u : HO} (h : H a = some o) (h' : H b = some u) (d : o ≠ u) : a ≠ b := by
  intro e; subst e; rw [h] at h'; exact d (Option.some.inj h')
theorem ne_of_none {H : Hp} {a b : Addr} {o : HO} (h : H a = some o) (h' : H b = none) : a ≠ b := by
  intro e; subst e; rw [h] at h'; cases h'

section
variable (P : Program) (w : World)
def ObjOk (H : Hp) (h : Heap) (a : Addr) : HO → Prop
  | .lst xs => xs.length ≤ sizeLine ∧ ∃ (its : List Value) (n : Nat), Vals xs its ∧ h.get? a = some { cls := .type "list", data := .seq its.toArray n }
  | .tup xs => xs.length ≤ sizeLine ∧ ∃ its : List Value, Vals xs its ∧ IsTup h a its.toArray
  | .dK kvs => kvs.length ≤ sizeLine ∧ (a == sysModules) = false ∧ ∃ vs, KV kvs vs ∧ h.DictOf (mixKind P w) a vs
  | .dT kvs => kvs.length ≤ sizeLine ∧ (a == sysModules) = false ∧ ∃ xs : List (List Key × Addr × Value),
      Paired (fun (p : List Key × V) (q : List Key × Addr × Value) => p.1 = q.1 ∧ H q.2.1 = some (.tup (p.1.map kV)) ∧ RelV p.2 q.2.2) kvs xs ∧
      ∃ o es ep, h.get? a = some o ∧ o.ExactDict ∧ o.data = .dict es ep ∧ es.toList = xs.map (entryOfKey (tupleKind (mixKind P w))) ∧ (xs.map (·.1)).Nodup
  | .set S n => h.SetOf (intKind P w) a S n
  | .ins C dx fs => H dx = some (.own a) ∧ fs.length ≤ 1000 ∧ dx ≠ a ∧ h.get? a = some (PySem.W.instObj C dx) ∧
      ∃ mA, h.Ns1 dx mA ∧ (∀ f, RelO (fs.lookup f) (mA f)) ∧ PySem.Within mA (fs.map (·.1))
  | .own _ => ∃ o, h.get? a = some o
  | .xd fs => ∃ mA, h.Ns1 a mA ∧ ∀ f, RelO (fs.lookup f) (mA f)
  | .rng lo hi => ∃ t u v, h.get? a = some { cls := .type "range", data := .fields #[.int lo t, .int hi u, .int 1 v] }
  | .frz o u => h.get? a = some o ∧ ObjOk H h a u
  | .tbl ps => h.get? a = some { cls := .none, data := .fields ps }
  | .met f x => h.get? a = some (PySem.W.methodObj (.ref f) (.ref x))
  | .ext φ => φ h ∧ (∃ o, h.get? a = some o) ∧ ∀ h1 h2 : Heap, φ h1 → (∀ o, h1.get? a = some o → h2.get? a = some o) → φ h2
/-- the abstract heap is held -/
def HOk (H : Hp) (h : Heap) : Prop := ∀ a o, H a = some o → ObjOk P w H h a o
end

section
variable {P : Program} {w : World} {H H' : Hp} {h h' : Heap} {a : Addr} {o : HO}
theorem ObjOk.lt (x : ObjOk P w H h a o) : a < h.objs.size := by
  cases o with
  | lst xs => obtain ⟨_, _, _, _, e⟩ := x; exact Heap.lt_size e
  | tup xs => obtain ⟨_, _, _, p⟩ := x; exact p.lt
  | dK kvs => obtain ⟨_, _, _, _, o, _, _, e, _⟩ := x; exact Heap.lt_size e
  | dT kvs => obtain ⟨_, _, _, _, o, _, _, e, _⟩ := x; exact Heap.lt_size e
  | set S n => obtain ⟨o, _, _, _, e, _⟩ := x; exact Heap.lt_size e
  | ins C dx fs => obtain ⟨_, _, _, e, _⟩ := x; exact Heap.lt_size e
  | own y => obtain ⟨_, e⟩ := x; exact Heap.lt_size e
  | xd fs => obtain ⟨_, ⟨_, _, _, e, _⟩, _⟩ := x; exact Heap.lt_size e
  | rng lo hi => obtain ⟨_, _, _, e⟩ := x; exact Heap.lt_size e
  | frz ob u => obtain ⟨e, _⟩ := x; exact Heap.lt_size e
  | tbl ps => exact Heap.lt_size (show h.get? a = some _ from x)
  | met f y => exact Heap.lt_size (show h.get? a = some _ from x)
  | ext φ => obtain ⟨_, ⟨_, e⟩, _⟩ := x; exact Heap.lt_size e
theorem Paired.mapP {α β : Type} {F G : α → β → Prop} : ∀ {l₁ : List α} {l₂ : List β}, Paired F l₁ l₂ → (∀ a b, F a b → G a b) → Paired G l₁ l₂
  | _, _, .nil, _ => .nil
  | _, _, .cons r t, f => .cons (f _ _ r) (Paired.mapP t f)
/-- what an object's description leans on: its own object, its own dict, the tuples -/
theorem ObjOk.stay (x : ObjOk P w H h a o) (k : ∀ b u, (b = a ∨ H b = some (.own a)) → h.get? b = some u → h'.get? b = some u)
    (ho : ∀ b, H b = some (.own a) → H' b = some (.own a)) (ht : ∀ b xs, H b = some (.tup xs) → H' b = some (.tup xs)) : ObjOk P w H' h' a o := by
  induction o with
  | lst xs => obtain ⟨z, its, n, r, e⟩ := x; exact ⟨z, its, n, r, k _ _ (.inl rfl) e⟩
  | tup xs => obtain ⟨z, its, r, ob, e, c⟩ := x; exact ⟨z, its, r, ob, k _ _ (.inl rfl) e, c⟩
  | dK kvs => obtain ⟨z, y, vs, r, ob, es, ep, e, c⟩ := x; exact ⟨z, y, vs, r, ob, es, ep, k _ _ (.inl rfl) e, c⟩
  | dT kvs =>
    obtain ⟨z, y, xs, r, ob, es, ep, e, c⟩ := x
    exact ⟨z, y, xs, Paired.mapP r fun p q z => ⟨z.1, ht _ _ z.2.1, z.2.2⟩, ob, es, ep, k _ _ (.inl rfl) e, c⟩
  | set S n => obtain ⟨ob, es, ep, t, e, c⟩ := x; exact ⟨ob, es, ep, t, k _ _ (.inl rfl) e, c⟩
  | ins C dx fs =>
    obtain ⟨d, z, ne, e, mA, ⟨od, es, ep, e2, c⟩, r⟩ := x
    exact ⟨ho _ d, z, ne, k _ _ (.inl rfl) e, mA, ⟨od, es, ep, k _ _ (.inr d) e2, c⟩, r⟩
  | own y => obtain ⟨ob, e⟩ := x; exact ⟨ob, k _ _ (.inl rfl) e⟩
  | xd fs => obtain ⟨mA, ⟨od, es, ep, e, c⟩, r⟩ := x; exact ⟨mA, ⟨od, es, ep, k _ _ (.inl rfl) e, c⟩, r⟩
  | rng lo hi => obtain ⟨t, u, v, e⟩ := x; exact ⟨t, u, v, k _ _ (.inl rfl) e⟩
  | frz ob u ih => obtain ⟨e, q⟩ := x; exact ⟨k _ _ (.inl rfl) e, ih q⟩
  | tbl ps =>
    have e : h.get? a = some { cls := .none, data := .fields ps } := x
    show h'.get? a = some { cls := .none, data := .fields ps }
    exact k a _ (.inl rfl) e
  | met f y =>
    have e : h.get? a = some (PySem.W.methodObj (.ref f) (.ref y)) := x
    show h'.get? a = some (PySem.W.methodObj (.ref f) (.ref y))
    exact k a _ (.inl rfl) e
  | ext φ => obtain ⟨p, ⟨o, e⟩, st⟩ := x; exact ⟨st _ _ p fun o q => k _ _ (.inl rfl) q, ⟨o, k _ _ (.inl rfl) e⟩, st⟩
theorem HOk.lt (x : HOk P w H h) (e : H a = some o) : a < h.objs.size := (x a o e).lt
theorem HOk.fresh (x : HOk P w H h) (e : h.objs.size ≤ a) : H a = none := by
  cases q : H a with
  | none => rfl
  | some u => exact absurd (Nat.lt_of_lt_of_le (x.lt q) e) (Nat.lt_irrefl _)
/-- every object of the heap is kept -/
theorem HOk.kept (x : HOk P w H h) (k : ∀ b u, h.get? b = some u → h'.get? b = some u) : HOk P w H h' := fun a o e =>
  (x a o e).stay (fun b u _ q => k b u q) (fun _ q => q) fun _ _ q => q
/-- a new object is laid and tracked -/
theorem HOk.laid (x : HOk P w H h) (k : ∀ b u, h.get? b = some u → h'.get? b = some u) (hp : h.objs.size ≤ a) (new : ObjOk P w (upd H a o) h' a o) : HOk P w (upd H a o) h' := fun b u e => by
  have hn := x.fresh hp
  by_cases hb : b = a
  · subst hb; rw [upd_same] at e; cases e; exact new
  · rw [upd_ne hb] at e
    exact (x b u e).stay (fun c v _ q => k c v q) (fun c q => by rw [upd_ne (ne_of_none q hn)]; exact q) fun c xs q => by rw [upd_ne (ne_of_none q hn)]; exact q
end

/-- what may be read as u: it is u, or a known u -/
def Rd (H : Hp) (a : Addr) (u : HO) : Prop := H a = some u ∨ ∃ o, H a = some (.frz o u)
theorem Rd.of {H : Hp} {a : Addr} {u : HO} (h : H a = some u) : Rd H a u := .inl h
theorem Rd.ok {P : Program} {w : World} {H : Hp} {h : Heap} {a : Addr} {u : HO} (r : Rd H a u) (x : HOk P w H h) : ObjOk P w H h a u := by
  rcases r with r | ⟨o, r⟩
  · exact x a u r
  · obtain ⟨_, q⟩ := x a _ r
    exact q
/-- what may be written -/
def Mut : Option HO → Prop
  | some (.lst _) => True
  | some (.dK _) => True
  | some (.dT _) => True
  | some (.set _ _) => True
  | some (.ins _ _ _) => True
  | some (.ext _) => True
  | _ => False
section
variable {P : Program} {w : World} {H : Hp} {h h' : Heap} {x e : Addr} {o' : HO}
/-- the object at e is changed: x itself, or the dict of the instance x -/
theorem HOk.write (ok : HOk P w H h) (mu : Mut (H x)) (he : e = x ∨ H e = some (.own x)) (k : ∀ b u, b ≠ e → h.get? b = some u → h'.get? b = some u) (heo : ∃ u, h'.get? e = some u)
    (new : ObjOk P w (upd H x o') h' x o') : HOk P w (upd H x o') h' := fun b u q => by
  have nown : ∀ c y, H c = some (.own y) → c ≠ x := fun c y r z => by subst z; rw [r] at mu; exact mu
  have ntup : ∀ c xs, H c = some (.tup xs) → c ≠ x := fun c xs r z => by subst z; rw [r] at mu; exact mu
  by_cases hb : b = x
  · subst hb; rw [upd_same] at q; cases q; exact new
  · rw [upd_ne hb] at q
    by_cases hbe : b = e
    · have q' : H b = some (.own x) := by
        rcases he with z | z
        · exact absurd (hbe.trans z) hb
        · rw [hbe]; exact z
      rw [q] at q'; cases q'
      obtain ⟨v, hv⟩ := heo
      exact ⟨v, by rw [hbe]; exact hv⟩
    · refine (ok b u q).stay (fun c v hc r => k c v ?_ r) (fun c r => by rw [upd_ne (nown c b r)]; exact r) fun c xs r => by rw [upd_ne (ntup c xs r)]; exact r
      rcases hc with rfl | hc
      · exact hbe
      · rintro rfl
        rcases he with z | z
        · exact nown c b hc z
        · rw [hc] at z; cases z; exact hb rfl
end

/-! ### kept unless tracked; of the frames at fs (the callers') the slots may change (an exception that passes writes there); of the records at ex (iterators) nothing is said -/
structure Un (fs ex : List Addr) (H H' : Hp) (h h' : Heap) : Prop where
  keep : ∀ b o, h.get? b = some o → H b = none → b ∉ fs → b ∉ ex → h'.get? b = some o
  slot : ∀ b o, h.get? b = some o → H b = none → b ∈ fs → b ∉ ex → ∃ sl, h'.get? b = some { o with slots := sl }
  free : ∀ b o, h.get? b = some o → H b = none → b ∉ ex → H' b = none
  there : ∀ b o, h.get? b = some o → b ∉ ex → ∃ o', h'.get? b = some o'
  tups : ∀ b xs, H b = some (.tup xs) → H' b = some (.tup xs)
  frzs : ∀ b o u, H b = some (.frz o u) → H' b = some (.frz o u)
  tbls : ∀ b ps, H b = some (.tbl ps) → ∃ more, H' b = some (.tbl (ps ++ more))
section
variable {fs fs' ex ex' : List Addr} {H H1 H2 : Hp} {h h1 h2 h' : Heap} {a x e : Addr} {o : HO}
theorem Un.any (u : Un fs ex H H1 h h1) {b : Addr} {ob : Obj} (q : h.get? b = some ob) (n : H b = none) (hx : b ∉ ex) : ∃ sl, h1.get? b = some { ob with slots := sl } := by
  by_cases hb : b ∈ fs
  · exact u.slot b ob q n hb hx
  · exact ⟨ob.slots, u.keep b ob q n hb hx⟩
theorem Un.trans (a : Un fs ex H H1 h h1) (b : Un fs ex H1 H2 h1 h2) : Un fs ex H H2 h h2 where
  keep := fun c ob q n hc hx => b.keep c ob (a.keep c ob q n hc hx) (a.free c ob q n hx) hc hx
  slot := fun c ob q n hc hx => by
    obtain ⟨sl, e1⟩ := a.slot c ob q n hc hx
    obtain ⟨sl', e2⟩ := b.slot c _ e1 (a.free c ob q n hx) hc hx
    exact ⟨sl', e2⟩
  free := fun c ob q n hx => by
    obtain ⟨o', e1⟩ := a.there c ob q hx
    exact b.free c o' e1 (a.free c ob q n hx) hx
  there := fun c ob q hx => by
    obtain ⟨o', e1⟩ := a.there c ob q hx
    exact b.there c o' e1 hx
  tups := fun c xs q => b.tups c xs (a.tups c xs q)
  frzs := fun c ob xs q => b.frzs c ob xs (a.frzs c ob xs q)
  tbls := fun c ps q => by
    obtain ⟨m1, e1⟩ := a.tbls c ps q
    obtain ⟨m2, e2⟩ := b.tbls c _ e1
    exact ⟨m1 ++ m2, by rw [e2, Array.append_assoc]⟩
theorem Un.kept (k : ∀ b u, h.get? b = some u → h'.get? b = some u) : Un fs ex H H h h' :=
  ⟨fun b ob q _ _ _ => k b ob q, fun b ob q _ _ _ => ⟨ob.slots, k b ob q⟩, fun _ _ _ n _ => n, fun b ob q _ => ⟨ob, k b ob q⟩, fun _ _ q => q, fun _ _ _ q => q, fun _ ps q => ⟨#[], by rw [q]; simp⟩⟩
theorem Un.refl : Un fs ex H H h h := Un.kept fun _ _ q => q
theorem Un.laid (k : ∀ b u, h.get? b = some u → h'.get? b = some u) (hp : h.objs.size ≤ a) (hn : H a = none) : Un fs ex H (upd H a o) h h' where
  keep := fun b u q _ _ _ => k b u q
  slot := fun b u q _ _ _ => ⟨u.slots, k b u q⟩
  free := fun b u q n _ => by rw [upd_ne (Nat.ne_of_lt (Nat.lt_of_lt_of_le (Heap.lt_size q) hp))]; exact n
  there := fun b u q _ => ⟨u, k b u q⟩
  tups := fun b xs q => by rw [upd_ne (ne_of_none q hn)]; exact q
  frzs := fun b u xs q => by rw [upd_ne (ne_of_none q hn)]; exact q
  tbls := fun b ps q => ⟨#[], by rw [upd_ne (ne_of_none q hn), q]; simp⟩
theorem Un.write (mu : Mut (H x)) (he : e = x ∨ H e = some (.own x)) (k : ∀ b u, b ≠ e → h.get? b = some u → h'.get? b = some u) (heo : ∃ u, h'.get? e = some u) : Un fs ex H (upd H x o) h h' := by
  have hx : ∀ b, H b = none → b ≠ x := fun b n z => by subst z; rw [n] at mu; exact mu
  have hb : ∀ b, H b = none → b ≠ e := fun b n z => by
    subst z
    rcases he with r | r
    · exact hx b n r
    · rw [n] at r; cases r
  have hm : ∀ b u, H b = some u → ¬ Mut (some u) → b ≠ x := fun b u q nm z => by subst z; rw [q] at mu; exact nm mu
  refine ⟨fun b u q n _ _ => k b u (hb b n) q, fun b u q n _ _ => ⟨u.slots, k b u (hb b n) q⟩, fun b u q n _ => by rw [upd_ne (hx b n)]; exact n, fun b u q _ => ?_,
    fun b xs q => by rw [upd_ne (hm b _ q fun z => z)]; exact q, fun b u xs q => by rw [upd_ne (hm b _ q fun z => z)]; exact q, fun b ps q => ⟨#[], by rw [upd_ne (hm b _ q fun z => z), q]; simp⟩⟩
  by_cases hbe : b = e
  · subst hbe; exact heo
  · exact ⟨u, k b u hbe q⟩
theorem Un.mono (u : Un fs ex H H1 h h1) (hs : ∀ b ∈ fs, b ∈ fs') (hx : ∀ b ∈ ex, b ∈ ex') : Un fs' ex' H H1 h h1 :=
  ⟨fun b ob q n hb he => u.keep b ob q n (fun z => hb (hs b z)) fun z => he (hx b z), fun _ _ q n _ he => u.any q n fun z => he (hx _ z), fun b ob q n he => u.free b ob q n fun z => he (hx b z), fun b ob q he => u.there b ob q fun z => he (hx b z), u.tups, u.frzs, u.tbls⟩
end

/-! ### the heap without what is tracked -/
def trk (h : Heap) (H : Hp) : List Addr := (List.range h.objs.size).filter fun a => (H a).isSome
def hidT (h : Heap) (H : Hp) : Heap := PySem.W.hideAll h (trk h H)
theorem hidT_size (h : Heap) (H : Hp) : (hidT h H).objs.size = h.objs.size := PySem.W.hideAll_size _ _
theorem hidT_get {h : Heap} {H : Hp} {b : Addr} {o : Obj} (e : h.get? b = some o) (n : H b = none) : (hidT h H).get? b = some o :=
  PySem.W.hideAll_get _ e fun hm => by
    have q : (H b).isSome = true := (List.mem_filter.mp hm).2
    rw [n] at q; simp at q
theorem of_hidT {h : Heap} {H : Hp} {b : Addr} {o : Obj} (e : (hidT h H).get? b = some o) : h.get? b = some o ∧ H b = none := by
  have e' : h.get? b = some o := PySem.W.of_hideAll (trk h H) e
  refine ⟨e', ?_⟩
  cases q : H b with
  | none => rfl
  | some x =>
    have hm : b ∈ trk h H := List.mem_filter.mpr ⟨List.mem_range.mpr (Heap.lt_size e'), by simp [q]⟩
    have z : (hidT h H).get? b = none := PySem.W.hideAll_none (trk h H) hm
    rw [z] at e; cases e

/-! ### OpenK's ledger, filled with every new object but one -/
def allNews (g h : Heap) (L : Addr) : List (Addr × Obj) := (List.range h.objs.size).filterMap fun a => if a = L ∨ (g.get? a).isSome = true then none else (h.get? a).map fun o => (a, o)
def rest (g h : Heap) (L d : Addr) : List (Addr × Obj) := (allNews g h L).filter fun p => decide (p.1 ≠ d)
end L2

namespace L2
open PySem PySem.Spec PyProof.Rows

/-- the module's facts, over the base: the heap at the law's entry without what is tracked there -/
structure Mod (K : PySem.W.Frag) (mg : Str → Option Value) (base : Heap) : Prop where
  kin : K.In base
  glob : base.Ns mainGlobals mg
  blt : ∃ mb, base.Ns builtinsNs mb ∧ ∀ x : Str, x ≠ "__name__" → mb x = bootBuiltins x
  nolimit : base.NoLimit

/-- the context: a def's body (or a comprehension's block) running. base: fixed through the whole law; s₀, H₀: the entry; outer: the frames whose slots others may change (a def's callers); stack: all frames that run;
   ex: iterators that were made ahead of the entry and are walked here (a comprehension's); fn: the names whose cells were made at the entry (a def: all; a comprehension's block: its own); calm: not within an except suite; pn: pins that every state bears; xe: what is wanted of an exception that leaves the code -/
structure Cx where
  prog : Program
  w : World
  K : PySem.W.Frag
  mg : Str → Option Value
  base : Heap
  A : Around
  N : List Str
  s₀ : Shared
  H₀ : Hp
  env : Env
  outer : List Env
  stack : List Env
  ex : List Addr
  fn : Str → Bool
  calm : Bool
  pn : List (Addr × Obj)
  xe : Value → Shared → Prop
/-- the callers' frames -/
def frs (l : List Env) : List Addr := l.filterMap (·.frame)
abbrev Cx.fs (X : Cx) : List Addr := frs X.outer

def Vis (sc : Scope) (x : Str) : Prop := sc.names.lookup x = some .local ∨ sc.names.lookup x = some .cell ∨ sc.names.lookup x = some .free
def Loc (sc : Scope) (x : Str) : Prop := sc.names.lookup x = some .local ∨ sc.names.lookup x = some .cell
def Look (env : Env) (h : Heap) (m : Str → Option Value) (x : Str) (u : Value) : Prop :=
  (env.kindOf x = some .local ∧ m x = some u) ∨ ((env.kindOf x = some .cell ∨ env.kindOf x = some .free) ∧ ∃ c, env.cells.lookup x = some c ∧ h.IsCell c (some u))

structure Cx.Ok (X : Cx) : Prop where
  mod : Mod X.K X.mg X.base
  kind : X.env.scope.kind = .function
  glob : X.env.globals = mainGlobals
  blt : X.env.builtins = builtinsNs
  above : X.s₀.heap.objs.size ≤ X.env.locals
  inj : ∀ x y c, X.env.cells.lookup x = some c → X.env.cells.lookup y = some c → x = y
  has : ∀ x, (X.env.kindOf x = some .cell ∨ X.env.kindOf x = some .free) → ∃ c, X.env.cells.lookup x = some c
  cab : ∀ x c, X.fn x = true → X.env.cells.lookup x = some c → X.s₀.heap.objs.size ≤ c
  hd : X.calm = true → X.A.handled = none
  frames : X.A.frames = some X.stack
  stk : X.stack = X.outer ∨ (X.stack = X.env :: X.outer ∧ X.env.frame = some X.env.locals)
  exf : ∀ b ∈ X.ex, b ≠ X.env.locals ∧ ∀ x c, X.env.cells.lookup x = some c → c ≠ b
  bs : ∀ b o, X.base.get? b = some o → X.s₀.heap.get? b = some o ∧ X.H₀ b = none
  bsz : X.base.objs.size ≤ X.s₀.heap.objs.size
  noex : ∀ b o, X.base.get? b = some o → b ∉ X.ex
  exfs : ∀ b ∈ X.ex, b ∉ X.fs
  funs : X.s₀.heap.FunFrames X.base X.outer
  frf : ∀ b ∈ X.fs, X.H₀ b = none

structure Inv (X : Cx) (pins : List (Addr × Obj)) (σ : List (Option V)) (H : Hp) (s : Shared) : Prop where
  ok : X.Ok
  os : s.os = X.s₀.os
  bare : AllBare s.gens
  base : Un X.fs X.ex X.H₀ H X.s₀.heap s.heap
  loc : ∃ m, s.heap.Ns X.env.locals m ∧ ∀ (i : Nat) (x : Str) (v : V), X.N[i]? = some x → σ[i]? = some (some v) → Vis X.env.scope x → ∃ u, RelV v u ∧ Look X.env s.heap m x u
  cell : ∀ x c, X.env.cells.lookup x = some c → ∃ v, s.heap.IsCell c v
  free : H X.env.locals = none
  freeC : ∀ x c, X.env.cells.lookup x = some c → H c = none
  pin : ∀ p ∈ X.pn ++ pins, s.heap.get? p.1 = some p.2 ∧ H p.1 = none ∧ p.1 ≠ X.env.locals ∧ p.1 ∉ X.fs ∧ ∀ v, p.2.data ≠ .cell v
  hok : HOk X.prog X.w H s.heap
  len : σ.length = X.N.length

section
variable {X : Cx} {pins : List (Addr × Obj)} {σ : List (Option V)} {H H' : Hp} {s : Shared} {h' : Heap}

theorem Cx.Ok.nofr (ok : X.Ok) {b : Addr} {o : Obj} (e : X.base.get? b = some o) : b ∉ X.fs := fun hb => by
  have := (ok.funs.mem hb).1
  rw [e] at this; cases this
theorem Inv.bs (I : Inv X pins σ H s) : ∀ b o, X.base.get? b = some o → s.heap.get? b = some o ∧ H b = none := fun b o e =>
  ⟨I.base.keep b o (I.ok.bs b o e).1 (I.ok.bs b o e).2 (I.ok.nofr e) (I.ok.noex b o e), I.base.free b o (I.ok.bs b o e).1 (I.ok.bs b o e).2 (I.ok.noex b o e)⟩
theorem Inv.bk (I : Inv X pins σ H s) : ∀ b o, X.base.get? b = some o → s.heap.get? b = some o := fun b o e => (I.bs b o e).1
theorem Inv.mod (I : Inv X pins σ H s) : Mod X.K X.mg X.base := I.ok.mod
theorem Inv.kIn (I : Inv X pins σ H s) : X.K.In s.heap := I.ok.mod.kin.keeps I.bk
theorem Inv.nolimit (I : Inv X pins σ H s) : s.heap.NoLimit := I.ok.mod.nolimit.keeps I.bk
/-- the frame over the base: for OpenK's rules (K.In X.base is I.mod.kin) -/
theorem Inv.fr (I : Inv X pins σ H s) : ∃ m, Fr X.base X.env.locals s.heap m :=
  let ⟨m, hn, _⟩ := I.loc
  ⟨m, hn, I.bk, Nat.le_trans I.ok.bsz I.ok.above⟩
theorem Inv.lt (I : Inv X pins σ H s) : X.env.locals < s.heap.objs.size := let ⟨_, hn, _⟩ := I.loc; hn.lt
theorem Inv.sz (I : Inv X pins σ H s) : X.s₀.heap.objs.size ≤ s.heap.objs.size := Nat.le_trans I.ok.above (Nat.le_of_lt I.lt)
theorem Inv.nofs (I : Inv X pins σ H s) {a : Addr} (h : s.heap.objs.size ≤ a) : a ∉ X.fs := fun hb => by
  obtain ⟨_, o, ho, _⟩ := I.ok.funs.mem hb
  exact absurd (Nat.lt_of_lt_of_le (Heap.lt_size ho) (Nat.le_trans I.sz h)) (Nat.lt_irrefl _)
theorem Inv.cne (I : Inv X pins σ H s) : ∀ x c, X.env.cells.lookup x = some c → c ≠ X.env.locals := fun x c e z => by
  obtain ⟨v, o, ho, hd⟩ := I.cell x c e
  obtain ⟨m, ⟨o', es, ep, ho', hd', _⟩, _⟩ := I.loc
  rw [z, ho'] at ho; cases ho; rw [hd'] at hd; cases hd
theorem Inv.funs (I : Inv X pins σ H s) : s.heap.FunFrames X.base X.outer := by
  have all : ∀ (l : List Env), (∀ b ∈ frs l, b ∈ X.fs) → X.s₀.heap.FunFrames X.base l → s.heap.FunFrames X.base l := by
    intro l
    induction l with
    | nil => intro _ _; trivial
    | cons env r ih =>
      intro hs hl
      obtain ⟨hk, ⟨L, o, hf, hn, ho, hd⟩, hr⟩ := hl
      have hL : L ∈ X.fs := hs L (by unfold frs; rw [List.filterMap_cons, hf]; exact List.mem_cons_self)
      obtain ⟨sl, e⟩ := I.base.slot L o ho (I.ok.frf L hL) hL fun z => I.ok.exfs L z hL
      exact ⟨hk, ⟨L, _, hf, hn, e, hd⟩, ih (fun b hb => hs b (by unfold frs; rw [List.filterMap_cons, hf]; exact List.mem_cons_of_mem _ hb)) hr⟩
  exact all X.outer (fun _ hb => hb) I.ok.funs

/-- the frames that run, for a call -/
theorem Inv.stack (I : Inv X pins σ H s) : s.heap.FunFrames X.base X.stack := by
  rcases I.ok.stk with e | ⟨e, hf⟩
  · rw [e]; exact I.funs
  · rw [e]
    obtain ⟨m, hn, _⟩ := I.loc
    refine .cons (by rw [I.ok.kind]; decide) hf hn ?_ I.funs
    exact Heap.get?_none_of_le (Nat.le_trans I.ok.bsz I.ok.above)
theorem Inv.stkSub (I : Inv X pins σ H s) : ∀ b ∈ frs X.stack, b ∈ X.env.locals :: X.fs := fun b hb => by
  rcases I.ok.stk with e | ⟨e, hf⟩
  · rw [e] at hb; exact List.mem_cons_of_mem _ hb
  · rw [e] at hb
    unfold frs at hb
    rw [List.filterMap_cons, hf] at hb
    exact hb
theorem Inv.stkFree (I : Inv X pins σ H s) : ∀ b ∈ frs X.stack, H b = none := fun b hb => by
  rcases List.mem_cons.mp (I.stkSub b hb) with e | hb
  · rw [e]; exact I.free
  · obtain ⟨_, o, ho, _⟩ := I.ok.funs.mem hb
    exact I.base.free b o ho (I.ok.frf b hb) fun z => I.ok.exfs b z hb

/-- THE STEP: the untracked objects but the frame and the records at ch are kept (the callers' frames up to slots), the frame's map is kept, the new abstract heap is held -/
theorem Inv.step {g' : Array GenState} {t' : Nat} {d' : Drawn} {ch : List Addr} (I : Inv X pins σ H s)
    (hch : ∀ b ∈ ch, (b ∈ X.ex ∨ X.s₀.heap.objs.size ≤ b) ∧ b ≠ X.env.locals ∧ (∀ x c, X.env.cells.lookup x = some c → c ≠ b) ∧ ∀ p ∈ X.pn ++ pins, p.1 ≠ b)
    (keep : ∀ b o, b ≠ X.env.locals → b ∉ X.fs → b ∉ ch → s.heap.get? b = some o → H b = none → h'.get? b = some o)
    (slot : ∀ b o, b ≠ X.env.locals → b ∈ X.fs → b ∉ ch → s.heap.get? b = some o → H b = none → ∃ sl, h'.get? b = some { o with slots := sl }) (free : ∀ b o, b ∉ ch → s.heap.get? b = some o → H b = none → H' b = none)
    (there : ∀ b o, b ∉ ch → s.heap.get? b = some o → ∃ o', h'.get? b = some o')
    (tups : ∀ b xs, H b = some (.tup xs) → H' b = some (.tup xs)) (frzs : ∀ b o u, H b = some (.frz o u) → H' b = some (.frz o u)) (tbls : ∀ b ps, H b = some (.tbl ps) → ∃ more, H' b = some (.tbl (ps ++ more)))
    (ns : ∀ m, s.heap.Ns X.env.locals m → h'.Ns X.env.locals m) (hok : HOk X.prog X.w H' h') (hg : AllBare g') :
    Inv X pins σ H' { s with heap := h', gens := g', drawn := d', toks := t' } := by
  have neL : ∀ b o, X.s₀.heap.get? b = some o → b ≠ X.env.locals := fun b o e => Nat.ne_of_lt (Nat.lt_of_lt_of_le (Heap.lt_size e) I.ok.above)
  have neC : ∀ b o, X.s₀.heap.get? b = some o → b ∉ X.ex → b ∉ ch := fun b o e hx hb => by
    rcases (hch b hb).1 with z | z
    · exact hx z
    · exact absurd (Nat.lt_of_lt_of_le (Heap.lt_size e) z) (Nat.lt_irrefl _)
  have cellK : ∀ x c, X.env.cells.lookup x = some c → ∀ v, s.heap.IsCell c v → h'.IsCell c v := fun x c e v ⟨o, ho, hd⟩ => by
    have nch : c ∉ ch := fun z => (hch c z).2.2.1 x c e rfl
    by_cases hc : c ∈ X.fs
    · obtain ⟨sl, q⟩ := slot c o (I.cne x c e) hc nch ho (I.freeC x c e)
      exact ⟨_, q, hd⟩
    · exact ⟨o, keep c o (I.cne x c e) hc nch ho (I.freeC x c e), hd⟩
  refine ⟨I.ok, I.os, hg, ⟨fun b o e n hb hx => ?_, fun b o e n hb hx => ?_, fun b o e n hx => ?_, fun b o e hx => ?_, fun b xs e => tups b xs (I.base.tups b xs e), fun b o xs e => frzs b o xs (I.base.frzs b o xs e), fun b ps e => ?_⟩, ?_, fun x c e => ?_, ?_, fun x c e => ?_, fun p hp => ?_, hok, I.len⟩
  · exact keep b o (neL b o e) hb (neC b o e hx) (I.base.keep b o e n hb hx) (I.base.free b o e n hx)
  · obtain ⟨sl, e1⟩ := I.base.slot b o e n hb hx
    obtain ⟨sl', e2⟩ := slot b _ (neL b o e) hb (neC b o e hx) e1 (I.base.free b o e n hx)
    exact ⟨sl', e2⟩
  · obtain ⟨o', e1⟩ := I.base.there b o e hx
    exact free b o' (neC b o e hx) e1 (I.base.free b o e n hx)
  · obtain ⟨o', e1⟩ := I.base.there b o e hx
    exact there b o' (neC b o e hx) e1
  · obtain ⟨m1, e1⟩ := I.base.tbls b ps e
    obtain ⟨m2, e2⟩ := tbls b _ e1
    exact ⟨m1 ++ m2, by rw [e2, Array.append_assoc]⟩
  · obtain ⟨m, hn, hl⟩ := I.loc
    refine ⟨m, ns m hn, fun i x v e1 e2 e3 => ?_⟩
    obtain ⟨u, r, l⟩ := hl i x v e1 e2 e3
    refine ⟨u, r, ?_⟩
    rcases l with l | ⟨k, c, e, z⟩
    · exact .inl l
    · exact .inr ⟨k, c, e, cellK x c e _ z⟩
  · obtain ⟨v, z⟩ := I.cell x c e
    exact ⟨v, cellK x c e v z⟩
  · obtain ⟨m, ⟨o, _, _, ho, _⟩, _⟩ := I.loc
    exact free _ o (fun z => (hch _ z).2.1 rfl) ho I.free
  · obtain ⟨v, o, ho, hd⟩ := I.cell x c e
    exact free c o (fun z => (hch c z).2.2.1 x c e rfl) ho (I.freeC x c e)
  · obtain ⟨e, n, ne, nf, d⟩ := I.pin p hp
    have nch : p.1 ∉ ch := fun z => (hch p.1 z).2.2.2 p hp rfl
    exact ⟨keep p.1 p.2 ne nf nch e n, free p.1 p.2 nch e n, ne, nf, d⟩
/-- .. where the frame's own object is kept too -/
theorem Inv.un {t' : Nat} (I : Inv X pins σ H s) (u : Un X.fs [] H H' s.heap h') (hok : HOk X.prog X.w H' h') : Inv X pins σ H' { s with heap := h', toks := t' } := by
  obtain ⟨m, ⟨o, es, ep, ho, r⟩, _⟩ := id I.loc
  obtain ⟨sl, hL⟩ := u.any ho I.free (by simp)
  exact I.step (g' := s.gens) (d' := s.drawn) (ch := []) (fun _ z => nomatch z) (fun b o _ hb _ e n => u.keep b o e n hb (by simp)) (fun b o _ hb _ e n => u.slot b o e n hb (by simp)) (fun b o _ e n => u.free b o e n (by simp)) (fun b o _ e => u.there b o e (by simp)) u.tups u.frzs u.tbls (fun m' hm => by
    obtain ⟨o', es', ep', ho', r'⟩ := hm
    rw [ho] at ho'; cases ho'
    exact ⟨_, es', ep', hL, r'⟩) hok I.bare
/-- behind a call (or a comprehension's block): the slots of this frame may have changed too, the records at ch may have turned -/
theorem Inv.call {g' : Array GenState} {t' : Nat} {d' : Drawn} {ch : List Addr} (I : Inv X pins σ H s) (u : Un (frs X.stack) ch H H' s.heap h') (hok : HOk X.prog X.w H' h') (hg : AllBare g')
    (hch : ∀ b ∈ ch, (b ∈ X.ex ∨ X.s₀.heap.objs.size ≤ b) ∧ b ≠ X.env.locals ∧ (∀ x c, X.env.cells.lookup x = some c → c ≠ b) ∧ ∀ p ∈ X.pn ++ pins, p.1 ≠ b) :
    Inv X pins σ H' { s with heap := h', gens := g', drawn := d', toks := t' } := by
  obtain ⟨m, ⟨o, es, ep, ho, r⟩, _⟩ := id I.loc
  obtain ⟨sl, hL⟩ := u.any ho I.free fun z => (hch _ z).2.1 rfl
  exact I.step (ch := ch) hch (fun b o hL hb hc e n => u.keep b o e n (fun z => (List.mem_cons.mp (I.stkSub b z)).elim hL hb) hc) (fun b o _ _ hc e n => u.any e n hc) (fun b o hc e n => u.free b o e n hc) (fun b o hc e => u.there b o e hc) u.tups u.frzs u.tbls (fun m' hm => by
    obtain ⟨o', es', ep', ho', r'⟩ := hm
    rw [ho] at ho'; cases ho'
    exact ⟨_, es', ep', hL, r'⟩) hok hg
/-- an untracked record of ours (an iterator) has turned -/
theorem Inv.turned {t' : Nat} {it : Addr} (I : Inv X pins σ H s) (k : ∀ b o, b ≠ it → s.heap.get? b = some o → h'.get? b = some o) (hn : H it = none) (hL : it ≠ X.env.locals)
    (h1 : it ∈ X.ex ∨ X.s₀.heap.objs.size ≤ it) (h2 : ∀ x c, X.env.cells.lookup x = some c → c ≠ it) (h3 : ∀ p ∈ X.pn ++ pins, p.1 ≠ it) : Inv X pins σ H { s with heap := h', toks := t' } := by
  have nit : ∀ b u, H b = some u → b ≠ it := fun b u e z => by rw [z, hn] at e; cases e
  refine I.step (g' := s.gens) (d' := s.drawn) (ch := [it]) (fun b hb => ?_) (fun b o _ _ hc e _ => k b o (fun z => hc (by simp [z])) e) (fun b o _ _ hc e _ => ⟨o.slots, k b o (fun z => hc (by simp [z])) e⟩) (fun _ _ _ _ n => n)
    (fun b o hc e => ⟨o, k b o (fun z => hc (by simp [z])) e⟩) (fun _ _ e => e) (fun _ _ _ e => e) (fun b ps e => ⟨#[], by rw [e]; simp⟩) (fun m hm => ?_) (fun b u e => ?_) I.bare
  · have e : b = it := by simpa using hb
    subst e
    exact ⟨h1, hL, h2, h3⟩
  · obtain ⟨o, es, ep, ho, r⟩ := hm
    exact ⟨o, es, ep, k _ o (Ne.symm hL) ho, r⟩
  · refine (I.hok b u e).stay (fun c v hc q => k c v ?_ q) (fun _ q => q) fun _ _ q => q
    rcases hc with z | z
    · rw [z]; exact nit b u e
    · exact nit c _ z
theorem Inv.tok (I : Inv X pins σ H s) (t : Nat) : Inv X pins σ H { s with toks := t } := I.un (h' := s.heap) (t' := t) Un.refl I.hok
/-- all objects kept -/
theorem Inv.kept {t' : Nat} (I : Inv X pins σ H s) (k : ∀ b u, s.heap.get? b = some u → h'.get? b = some u) : Inv X pins σ H { s with heap := h', toks := t' } := I.un (Un.kept k) (I.hok.kept k)
/-- a new object laid and tracked -/
theorem Inv.laid {a : Addr} {o : HO} {t' : Nat} (I : Inv X pins σ H s) (k : ∀ b u, s.heap.get? b = some u → h'.get? b = some u) (hp : s.heap.objs.size ≤ a) (new : ObjOk X.prog X.w (upd H a o) h' a o) :
    Inv X pins σ (upd H a o) { s with heap := h', toks := t' } := I.un (Un.laid k hp (I.hok.fresh hp)) (I.hok.laid k hp new)
/-- an object written -/
theorem Inv.write {x e : Addr} {o : HO} {t' : Nat} (I : Inv X pins σ H s) (mu : Mut (H x)) (he : e = x ∨ H e = some (.own x)) (k : ∀ b u, b ≠ e → s.heap.get? b = some u → h'.get? b = some u) (heo : ∃ u, h'.get? e = some u)
    (new : ObjOk X.prog X.w (upd H x o) h' x o) : Inv X pins σ (upd H x o) { s with heap := h', toks := t' } := I.un (Un.write mu he k heo) (I.hok.write mu he k heo new)
theorem Inv.pins_of {pins' : List (Addr × Obj)} (I : Inv X pins σ H s) (h : ∀ p ∈ pins', s.heap.get? p.1 = some p.2 ∧ H p.1 = none ∧ p.1 ≠ X.env.locals ∧ p.1 ∉ X.fs ∧ ∀ v, p.2.data ≠ .cell v) : Inv X pins' σ H s :=
  ⟨I.ok, I.os, I.bare, I.base, I.loc, I.cell, I.free, I.freeC, fun p hp => (List.mem_append.mp hp).elim (fun z => I.pin p (List.mem_append_left _ z)) (h p), I.hok, I.len⟩

theorem nodup_ix {N : List Str} (hN : N.Nodup) {i j : Nat} {x : Str} (a : N[i]? = some x) (b : N[j]? = some x) : i = j := by
  obtain ⟨h1, e1⟩ := List.getElem?_eq_some_iff.mp a
  obtain ⟨h2, e2⟩ := List.getElem?_eq_some_iff.mp b
  exact (List.getElem_inj hN).mp (e1.trans e2.symm)

/-- a name is stored; what changed -/
theorem store_ok2 {M : Model} {A : Around} {E : Value → Shared → Prop} {i : Nat} {x : Str} {v : V} {u : Value} {Q : Unit → Shared → Prop} (I : Inv X pins σ H s) (hN : X.N.Nodup) (hi : X.N[i]? = some x) (hx : Loc X.env.scope x) (r : RelV v u)
    (h : ∀ s', Inv X pins (σ.set i (some v)) H s' → (∃ a, Heap.SameBut a s.heap s'.heap ∧ (a = X.env.locals ∨ X.env.cells.lookup x = some a)) → Q () s') (hf : X.fn x = true ∨ X.env.scope.names.lookup x = some .local := by first | exact .inl rfl | exact .inr rfl | assumption) : wpAny M A (storeName X.env x u) Q E s := by
  obtain ⟨m, hn, hl⟩ := id I.loc
  have hcls : (X.env.scope.kind == .class || (X.env.scope.kind == .module && X.env.locals != X.env.globals)) = false := by rw [I.ok.kind]; rfl
  have hiσ : i < σ.length := by rw [I.len]; exact (List.getElem?_eq_some_iff.mp hi).1
  have cne := I.cne
  have tracked : ∀ {a : Addr} {h' : Heap}, (∃ o, s.heap.get? a = some o ∧ H a = none) → Heap.SameBut a s.heap h' → HOk X.prog X.w H h' := fun {a h'} ha hs b ob e => by
    obtain ⟨_, _, hfree⟩ := ha
    refine (I.hok b ob e).stay (fun c w' hc q => (hs.2 c ?_).trans q) (fun _ q => q) fun _ _ q => q
    rintro rfl
    rcases hc with rfl | hc
    · rw [hfree] at e; cases e
    · rw [hfree] at hc; cases hc
  rcases hx with hk | hk
  · refine wpAny_storeName_local hk hn (fun h' hn' hs => ?_) hcls
    obtain ⟨oL, _, _, hoL, _⟩ := id hn
    refine h _ ⟨I.ok, I.os, I.bare, ⟨fun b o e n hb hx => ?_, fun b o e n hb hx => ?_, I.base.free, fun b o e hx => ?_, I.base.tups, I.base.frzs, I.base.tbls⟩, ⟨_, hn', fun j y v' e1 e2 e3 => ?_⟩, fun y c e => ?_, I.free, I.freeC, fun p hp => ?_, tracked ⟨oL, hoL, I.free⟩ hs, by simpa using I.len⟩ ⟨_, hs, .inl rfl⟩
    · exact (hs.2 b (Nat.ne_of_lt (Nat.lt_of_lt_of_le (Heap.lt_size e) I.ok.above))).trans (I.base.keep b o e n hb hx)
    · obtain ⟨sl, e1⟩ := I.base.slot b o e n hb hx
      exact ⟨sl, (hs.2 b (Nat.ne_of_lt (Nat.lt_of_lt_of_le (Heap.lt_size e) I.ok.above))).trans e1⟩
    · obtain ⟨o', e1⟩ := I.base.there b o e hx
      exact ⟨o', (hs.2 b (Nat.ne_of_lt (Nat.lt_of_lt_of_le (Heap.lt_size e) I.ok.above))).trans e1⟩
    · by_cases hj : j = i
      · subst hj
        rw [hi] at e1; cases e1
        rw [List.getElem?_set_self hiσ] at e2
        cases e2
        exact ⟨u, r, .inl ⟨hk, by simp⟩⟩
      · rw [List.getElem?_set_ne (Ne.symm hj)] at e2
        obtain ⟨u', r', q⟩ := hl j y v' e1 e2 e3
        refine ⟨u', r', ?_⟩
        rcases q with ⟨k, e⟩ | ⟨k, c, e, z⟩
        · refine .inl ⟨k, ?_⟩
          have : y ≠ x := fun e => hj (nodup_ix hN e1 (e ▸ hi))
          simp [this, e]
        · exact .inr ⟨k, c, e, z.sameBut hs (cne y c e)⟩
    · obtain ⟨w', z⟩ := I.cell y c e
      exact ⟨w', z.sameBut hs (cne y c e)⟩
    · obtain ⟨e, n, ne, nf, d⟩ := I.pin p hp
      exact ⟨(hs.2 p.1 ne).trans e, n, ne, nf, d⟩
  · have hfn : X.fn x = true := by
      rcases hf with z | z
      · exact z
      · rw [z] at hk; cases hk
    obtain ⟨c, hc⟩ := I.ok.has x (.inl hk)
    obtain ⟨w', z⟩ := I.cell x c hc
    refine wpAny_storeName_cell I.ok.kind hk hc z (fun h' hc' hs => ?_)
    obtain ⟨oc, hoc, hocd⟩ := id z
    refine h { s with heap := h' } ⟨I.ok, I.os, I.bare, ⟨fun b o e n hb hx => ?_, fun b o e n hb hx => ?_, I.base.free, fun b o e hx => ?_, I.base.tups, I.base.frzs, I.base.tbls⟩, ⟨m, hn.sameBut hs (Ne.symm (cne x c hc)), fun j y v' e1 e2 e3 => ?_⟩, fun y c' e => ?_, I.free, I.freeC, fun p hp => ?_, tracked ⟨oc, hoc, I.freeC x c hc⟩ hs, by simpa using I.len⟩ ⟨c, hs, .inr hc⟩
    · exact (hs.2 b (Nat.ne_of_lt (Nat.lt_of_lt_of_le (Heap.lt_size e) (I.ok.cab x c hfn hc)))).trans (I.base.keep b o e n hb hx)
    · obtain ⟨sl, e1⟩ := I.base.slot b o e n hb hx
      exact ⟨sl, (hs.2 b (Nat.ne_of_lt (Nat.lt_of_lt_of_le (Heap.lt_size e) (I.ok.cab x c hfn hc)))).trans e1⟩
    · obtain ⟨o', e1⟩ := I.base.there b o e hx
      exact ⟨o', (hs.2 b (Nat.ne_of_lt (Nat.lt_of_lt_of_le (Heap.lt_size e) (I.ok.cab x c hfn hc)))).trans e1⟩
    · by_cases hj : j = i
      · subst hj
        rw [hi] at e1; cases e1
        rw [List.getElem?_set_self hiσ] at e2
        cases e2
        exact ⟨u, r, .inr ⟨.inl hk, c, hc, hc'⟩⟩
      · rw [List.getElem?_set_ne (Ne.symm hj)] at e2
        obtain ⟨u', r', q⟩ := hl j y v' e1 e2 e3
        refine ⟨u', r', ?_⟩
        rcases q with q | ⟨k, c', e, z'⟩
        · exact .inl q
        · refine .inr ⟨k, c', e, z'.sameBut hs ?_⟩
          rintro rfl
          exact hj (nodup_ix hN e1 (I.ok.inj _ _ _ e hc ▸ hi))
    · by_cases hcc : c' = c
      · subst hcc; exact ⟨_, hc'⟩
      · obtain ⟨w2, z2⟩ := I.cell y c' e
        exact ⟨w2, z2.sameBut hs hcc⟩
    · obtain ⟨e, n, ne, nf, d⟩ := I.pin p hp
      refine ⟨(hs.2 p.1 ?_).trans e, n, ne, nf, d⟩
      intro q
      rw [q, hoc] at e
      have q' : oc = p.2 := Option.some.inj e
      exact d w' (by rw [← q']; exact hocd)
theorem store_ok {M : Model} {A : Around} {E : Value → Shared → Prop} {i : Nat} {x : Str} {v : V} {u : Value} {Q : Unit → Shared → Prop} (I : Inv X pins σ H s) (hN : X.N.Nodup) (hi : X.N[i]? = some x) (hx : Loc X.env.scope x) (r : RelV v u)
    (h : ∀ s', Inv X pins (σ.set i (some v)) H s' → Q () s') (hf : X.fn x = true ∨ X.env.scope.names.lookup x = some .local := by first | exact .inl rfl | exact .inr rfl | assumption) : wpAny M A (storeName X.env x u) Q E s :=
  store_ok2 I hN hi hx r (fun s' I' _ => h s' I') hf
/-- behind a call or a block, the state as it is -/
theorem Inv.call' {s' : Shared} {ch : List Addr} (I : Inv X pins σ H s) (ho : s'.os = s.os) (u : Un (frs X.stack) ch H H' s.heap s'.heap) (hok : HOk X.prog X.w H' s'.heap) (hg : AllBare s'.gens)
    (hch : ∀ b ∈ ch, (b ∈ X.ex ∨ X.s₀.heap.objs.size ≤ b) ∧ b ≠ X.env.locals ∧ (∀ x c, X.env.cells.lookup x = some c → c ≠ b) ∧ ∀ p ∈ X.pn ++ pins, p.1 ≠ b) : Inv X pins σ H' s' := by
  obtain ⟨h', g', d', t', o'⟩ := s'
  have e : o' = s.os := ho
  subst e
  exact I.call (g' := g') (t' := t') (d' := d') u hok hg hch
end

/-! ### the judgements -/
/-- an exception: its class, its own dict's address (where it has one), the abstract heap behind it -/
abbrev XK := Value → Option Addr → Hp → Prop
abbrev St := List (Option V)
abbrev VK := V → Hp → Prop
/-- an expression's reading; a test's; an argument list's -/
abbrev TE := St → Hp → VK → Prop
abbrev TT := St → Hp → (Bool → Hp → Prop) → Prop
abbrev TA := St → Hp → (List V → Hp → Prop) → Prop
/-- what is wanted behind a statement -/
structure Ends where
  nx : St → Hp → Prop
  rt : VK
  bk : St → Hp → Prop := fun _ _ => False
  ct : St → Hp → Prop := fun _ _ => False
abbrev TS := Ends → St → Hp → Prop

def EP (X : Cx) (pins : List (Addr × Obj)) (σ : St) (Q : VK) (u : Value) (s' : Shared) : Prop := ∃ v H', Inv X pins σ H' s' ∧ RelV v u ∧ Q v H'
def TP (X : Cx) (pins : List (Addr × Obj)) (σ : St) (Q : Bool → Hp → Prop) (b : Bool) (s' : Shared) : Prop := ∃ H', Inv X pins σ H' s' ∧ Q b H'
def AP (X : Cx) (pins : List (Addr × Obj)) (σ : St) (Q : List V → Hp → Prop) (us : List Value) (s' : Shared) : Prop := ∃ vs H', Inv X pins σ H' s' ∧ Vals vs us ∧ Q vs H'
def SP (X : Cx) (pins : List (Addr × Obj)) (D : Ends) (f : Flow) (s' : Shared) : Prop :=
  match f with
  | .next => ∃ σ' H', Inv X pins σ' H' s' ∧ D.nx σ' H'
  | .brk => ∃ σ' H', Inv X pins σ' H' s' ∧ D.bk σ' H'
  | .cont => ∃ σ' H', Inv X pins σ' H' s' ∧ D.ct σ' H'
  | .ret u => ∃ v σ' H', Inv X pins σ' H' s' ∧ RelV v u ∧ D.rt v H'

def PE (X : Cx) (e : Expr) (t : TE) : Prop :=
  ∀ (pins : List (Addr × Obj)) (s : Shared) (σ : St) (H : Hp) (Q : VK), Inv X pins σ H s → t σ H Q → wpAny (model X.prog X.w) X.A (eval e X.env) (EP X pins σ Q) X.xe s
def PT (X : Cx) (e : Expr) (t : TT) : Prop :=
  ∀ (pins : List (Addr × Obj)) (s : Shared) (σ : St) (H : Hp) (Q : Bool → Hp → Prop), Inv X pins σ H s → t σ H Q → wpAny (model X.prog X.w) X.A (isTrue e X.env (eval e X.env)) (TP X pins σ Q) X.xe s
/-- a test whatever its 'whole' is (and, or) -/
def PW (X : Cx) (e : Expr) (t : TT) : Prop :=
  ∀ (whole : Sem Value) (pins : List (Addr × Obj)) (s : Shared) (σ : St) (H : Hp) (Q : Bool → Hp → Prop), Inv X pins σ H s → t σ H Q → wpAny (model X.prog X.w) X.A (isTrue e X.env whole) (TP X pins σ Q) X.xe s
theorem PW.pt {X : Cx} {e : Expr} {t : TT} (h : PW X e t) : PT X e t := h _
/-- an argument list (no star), from the left -/
def PA (X : Cx) (es : List Expr) (t : TA) : Prop :=
  ∀ (pos : Pos) (pins : List (Addr × Obj)) (s : Shared) (σ : St) (H : Hp) (Q : List V → Hp → Prop), Inv X pins σ H s → t σ H Q → wpAny (model X.prog X.w) X.A (spliced (backTo pos (starEach es X.env))) (AP X pins σ Q) X.xe s
def PS (X : Cx) (st : Stmt) (t : TS) : Prop :=
  ∀ (pins : List (Addr × Obj)) (s : Shared) (σ : St) (H : Hp) (D : Ends), Inv X pins σ H s → t D σ H → wpAny (model X.prog X.w) X.A (exec st X.env) (SP X pins D) X.xe s
def PSs (X : Cx) (st : List Stmt) (t : TS) : Prop :=
  ∀ (pins : List (Addr × Obj)) (s : Shared) (σ : St) (H : Hp) (D : Ends), Inv X pins σ H s → t D σ H → wpAny (model X.prog X.w) X.A (execs st X.env) (SP X pins D) X.xe s
/-- weaken the end -/
theorem thn {α : Type} {t : Sem α} {Q Q' : α → Shared → Prop} {M : Model} {A : Around} {E : Value → Shared → Prop} {s : Shared} (h : wpAny M A t Q E s) (hQ : ∀ a s, Q a s → Q' a s) : wpAny M A t Q' E s := wpAny_mono h hQ fun _ _ x => x
end L2

namespace L2
open PySem PySem.Spec PyProof.Rows
section
variable {X : Cx}

/-! ### names and constants -/
def tVar (i : Nat) : TE := fun σ H Q => ∃ v, σ[i]? = some (some v) ∧ Q v H
def tC (v : V) : TE := fun _ H Q => Q v H
theorem pe_var {i : Nat} {x : Str} {pos : Pos} (hN : X.N[i]? = some x) (hv : Vis X.env.scope x) (hd : (x == ("__debug__" : Str)) = false := by decide) (hcd : (x == ("__classdict__" : Str)) = false := by decide) : PE X (.Name x pos) (tVar i) := by
  intro pins s σ H Q I h
  obtain ⟨v, e, h⟩ := h
  obtain ⟨m, hn, hl⟩ := I.loc
  obtain ⟨u, r, l⟩ := hl i x v hN e hv
  have fin : EP X pins σ Q u s := ⟨v, H, I, r, h⟩
  rcases l with ⟨hk, hm⟩ | ⟨hk, c, hc, hcell⟩
  · exact wpAny_Name (wpAny_loadName_local I.ok.kind hk hn hm fin) hd
  · rcases hk with hk | hk
    · exact wpAny_Name (wpAny_loadName_cell I.ok.kind hk hc hcell fin) hd
    · exact wpAny_Name (wpAny_loadName_free I.ok.kind hk hc hcell fin hcd) hd
theorem pe_int {i j pos} : PE X (.Constant (.int i) j pos) (tC (.int i)) := fun _ _ _ H _ I h => wpAny_Constant_int ⟨.int i, H, I.tok _, ⟨_, rfl⟩, h⟩
theorem pe_bl {b j pos} : PE X (.Constant (.bool b) j pos) (tC (.bl b)) := fun _ _ _ H _ I h => Constant_bool ⟨.bl b, H, I, rfl, h⟩
theorem pe_non {j pos} : PE X (.Constant .none j pos) (tC .non) := fun _ _ _ H _ I h => Constant_none ⟨.non, H, I, rfl, h⟩
theorem pe_str {x j pos} : PE X (.Constant (.str x) j pos) (tC (.str x)) := fun _ _ _ H _ I h => Calls.Constant_str ⟨.str x, H, I.tok _, ⟨_, rfl⟩, h⟩

/-- a global name of the def -/
def Gl (X : Cx) (x : Str) : Prop := X.env.kindOf x = some .globalImplicit
theorem ld_glob {E : Value → Shared → Prop} {pins : List (Addr × Obj)} {s : Shared} {σ : St} {H : Hp} {x : Str} {u : Value} {pos : Pos} {Q : Value → Shared → Prop} (I : Inv X pins σ H s) (hg : Gl X x) (hm : X.mg x = some u) (h : Q u s)
    (hd : (x == ("__debug__" : Str)) = false := by decide) : wpAny (model X.prog X.w) X.A (eval (.Name x pos) X.env) Q E s :=
  Calls.Name_function_global I.ok.kind hg (Calls.loadGlobal_global (by rw [I.ok.glob]; exact I.mod.glob.keeps I.bk) hm h) hd
theorem ld_blt {E : Value → Shared → Prop} {pins : List (Addr × Obj)} {s : Shared} {σ : St} {H : Hp} {x : Str} {u : Value} {pos : Pos} {Q : Value → Shared → Prop} (I : Inv X pins σ H s) (hg : Gl X x) (hm : X.mg x = none) (hv : bootBuiltins x = some u) (h : Q u s)
    (hn : x ≠ "__name__" := by decide) (hd : (x == ("__debug__" : Str)) = false := by decide) : wpAny (model X.prog X.w) X.A (eval (.Name x pos) X.env) Q E s := by
  obtain ⟨mb, h1, h2⟩ := I.mod.blt
  exact Calls.Name_function_global I.ok.kind hg (Calls.loadGlobal_builtin (by rw [I.ok.glob]; exact I.mod.glob.keeps I.bk) hm (by rw [I.ok.blt]; exact h1.keeps I.bk) ((h2 x hn).trans hv) h) hd
/-- a module's constant, a class, a function, as a value -/
theorem pe_glob {x : Str} {v : V} {u : Value} {pos : Pos} (hg : Gl X x) (hm : X.mg x = some u) (r : RelV v u) (hd : (x == ("__debug__" : Str)) = false := by decide) : PE X (.Name x pos) (tC v) :=
  fun _ _ _ H _ I h => ld_glob I hg hm ⟨v, H, I, r, h⟩ hd
theorem pe_bltn {x : Str} {v : V} {u : Value} {pos : Pos} (hg : Gl X x) (hm : X.mg x = none) (hv : bootBuiltins x = some u) (r : RelV v u) (hn : x ≠ "__name__" := by decide) (hd : (x == ("__debug__" : Str)) = false := by decide) : PE X (.Name x pos) (tC v) :=
  fun _ _ _ H _ I h => ld_blt I hg hm hv ⟨v, H, I, r, h⟩ hn hd

/-! ### arithmetic -/
/-- two ints -/
def t2I (ta tb : TE) (k : Int → Int → Hp → Prop) : St → Hp → Prop := fun σ H => ta σ H fun x H1 => tb σ H1 fun y H2 => ∃ i j, x = .int i ∧ y = .int j ∧ k i j H2
def tAdd (ta tb : TE) : TE := fun σ H Q => t2I ta tb (fun i j H2 => Q (.int (i + j)) H2) σ H
def tSub (ta tb : TE) : TE := fun σ H Q => t2I ta tb (fun i j H2 => Q (.int (i - j)) H2) σ H
/-- the left factor below 2^64 -/
def tMul (ta tb : TE) : TE := fun σ H Q => t2I ta tb (fun i j H2 => (-(2 ^ 64) < i ∧ i < 2 ^ 64) ∧ Q (.int (i * j)) H2) σ H
variable {a b : Expr} {ta tb : TE} {pos : Pos}
/-! ### comparisons -/
def PC (X : Cx) (op : CmpOp) (a b : Expr) (t : TE) : Prop :=
  ∀ (pins : List (Addr × Obj)) (s : Shared) (σ : St) (H : Hp) (Q : VK), Inv X pins σ H s → t σ H Q →
    wpAny (model X.prog X.w) X.A (eval a X.env) (fun v s₁ => wpAny (model X.prog X.w) X.A (eval b X.env) (fun u s₂ => wpAny (model X.prog X.w) X.A (compareOp op v u) (EP X pins σ Q) X.xe s₂) X.xe s₁) X.xe s
theorem nobehind (b : Expr) {op : CmpOp} (h : op ≠ .In) (h2 : op ≠ .NotIn) : behindInMarks op b = false := by
  have e1 : (op == CmpOp.In) = false := by cases op <;> first | rfl | exact absurd rfl h
  have e2 : (op == CmpOp.NotIn) = false := by cases op <;> first | rfl | exact absurd rfl h2
  cases b <;> simp [behindInMarks, e1, e2]
def tCmp (p : Int → Int → Bool) (ta tb : TE) : TE := fun σ H Q => t2I ta tb (fun i j H2 => Q (.bl (p i j)) H2) σ H
abbrev tLt : TE → TE → TE := tCmp fun i j => decide (i < j)
abbrev tLe : TE → TE → TE := tCmp fun i j => decide (i ≤ j)
abbrev tGt : TE → TE → TE := tCmp fun i j => decide (j < i)
abbrev tGe : TE → TE → TE := tCmp fun i j => decide (j ≤ i)
abbrev tEqI : TE → TE → TE := tCmp fun i j => decide (i = j)
abbrev tNeI : TE → TE → TE := tCmp fun i j => !decide (i = j)
/-- is None -/
def tIsN (ta : TE) : TE := fun σ H Q => ta σ H fun x H1 => Q (.bl (decide (x = .non))) H1
def tNotN (ta : TE) : TE := fun σ H Q => ta σ H fun x H1 => Q (.bl (!decide (x = .non))) H1
/-- a comparison as a value, as a test -/
def tB (t : TE) : TT := fun σ H Q => t σ H fun x H1 => ∃ c, x = .bl c ∧ Q c H1
theorem pt_cmp {op : CmpOp} {t : TE} (h : PC X op a b t) (h1 : behindInMarks op b = false := by first | exact nobehind _ (by decide) (by decide) | rfl) : PT X (.Compare a [op] [b] pos) (tB t) := by
  intro pins s σ H Q I hw
  refine wpAny_isTrue_Compare1 (thn (h pins s σ H _ I hw) fun v s1 h1 => thn h1 fun u s2 h2 => thn h2 fun c s3 ⟨x, H1, I1, r1, q1⟩ => ?_) h1
  obtain ⟨d, rfl, q⟩ := q1
  cases r1
  exact wpAny_truthy_bool ⟨H1, I1, q⟩
/-- an expression whose value is a bool, as a test -/
theorem pt_val {e : Expr} {t : TE} (h : PE X e t) (he : ∀ whole, isTrue e X.env whole = (do let v ← whole; standAt e.pos; holding [v] (truthy v)) := by intro _; rfl) : PT X e (tB t) := by
  intro pins s σ H Q I hw
  refine isTrue_plain (thn (h pins s σ H _ I hw) fun v s1 ⟨x, H1, I1, r1, q1⟩ => ?_) (he _)
  obtain ⟨d, rfl, q⟩ := q1
  cases r1
  exact wpAny_truthy_bool ⟨H1, I1, q⟩

/-! ### and, or, not -/
variable {tA tB' : TT} {rest : List Expr}
def tAnd (t u : TT) : TT := fun σ H Q => t σ H fun c H1 => if c = true then u σ H1 Q else Q false H1
def tOr (t u : TT) : TT := fun σ H Q => t σ H fun c H1 => if c = true then Q true H1 else u σ H1 Q
def tNot (t : TT) : TT := fun σ H Q => t σ H fun c H1 => Q (!c) H1
theorem pw_and1 (ha : PT X a tA) : PW X (.BoolOp .And [a] pos) tA := by
  intro wh pins s σ H Q I h
  refine isTrue_and (thn (ha pins s σ H Q I h) fun c s1 e => ?_)
  cases c with
  | true => exact isTrue_and_nil e
  | false => exact e
theorem pw_or1 (ha : PT X a tA) : PW X (.BoolOp .Or [a] pos) tA := by
  intro wh pins s σ H Q I h
  refine isTrue_or (thn (ha pins s σ H Q I h) fun c s1 e => ?_)
  cases c with
  | false => exact isTrue_or_nil e
  | true => exact e
theorem pw_and (ha : PT X a tA) (hb : PW X (.BoolOp .And (b :: rest) pos) tB') : PW X (.BoolOp .And (a :: b :: rest) pos) (tAnd tA tB') := by
  intro wh pins s σ H Q I h
  refine isTrue_and (thn (ha pins s σ H _ I h) fun c s1 ⟨H1, I1, q1⟩ => ?_)
  cases c with
  | true => exact hb wh pins s1 σ H1 Q I1 q1
  | false => exact ⟨H1, I1, q1⟩
theorem pw_or (ha : PT X a tA) (hb : PW X (.BoolOp .Or (b :: rest) pos) tB') : PW X (.BoolOp .Or (a :: b :: rest) pos) (tOr tA tB') := by
  intro wh pins s σ H Q I h
  refine isTrue_or (thn (ha pins s σ H _ I h) fun c s1 ⟨H1, I1, q1⟩ => ?_)
  cases c with
  | true => exact ⟨H1, I1, q1⟩
  | false => exact hb wh pins s1 σ H1 Q I1 q1
theorem pt_not (ha : PT X a tA) : PT X (.UnaryOp .Not a pos) (tNot tA) := by
  intro pins s σ H Q I h
  exact isTrue_not (ha pins s σ H (fun c H1 => Q (!c) H1) I h)
/-- .. as values (bools) -/
def tAndV (ta tb : TE) : TE := fun σ H Q => ta σ H fun x H1 => ∃ c, x = .bl c ∧ if c = true then tb σ H1 Q else Q (.bl false) H1
def tOrV (ta tb : TE) : TE := fun σ H Q => ta σ H fun x H1 => ∃ c, x = .bl c ∧ if c = true then Q (.bl true) H1 else tb σ H1 Q
def tNotV (ta : TE) : TE := fun σ H Q => ta σ H fun x H1 => ∃ c, x = .bl c ∧ Q (.bl (!c)) H1
theorem pe_one {op} {t : TE} (h : PE X a t) : PE X (.BoolOp op [a] pos) t := fun pins s σ H Q I hw => BoolOp_one (h pins s σ H Q I hw)
theorem pe_and (ha : PE X a ta) (hb : PE X (.BoolOp .And (b :: rest) pos) tb) : PE X (.BoolOp .And (a :: b :: rest) pos) (tAndV ta tb) := by
  intro pins s σ H Q I h
  refine BoolOp_and (thn (ha pins s σ H _ I h) fun v s1 ⟨x, H1, I1, r1, q1⟩ => ?_)
  obtain ⟨c, rfl, q1⟩ := q1
  cases r1
  refine wpAny_truthy_bool ?_
  cases c with
  | true => exact hb pins s1 σ H1 Q I1 q1
  | false => exact ⟨.bl false, H1, I1, rfl, q1⟩
theorem pe_not (ha : PE X a ta) : PE X (.UnaryOp .Not a pos) (tNotV ta) := by
  intro pins s σ H Q I h
  refine UnaryOp_ (thn (ha pins s σ H _ I h) fun v s1 ⟨x, H1, I1, r1, q1⟩ => ?_)
  obtain ⟨c, rfl, q1⟩ := q1
  cases r1
  exact not_of (wpAny_truthy_bool ⟨.bl (!c), H1, I1, rfl, q1⟩)
/-- a if t else b -/
def tIf (t : TT) (ta tb : TE) : TE := fun σ H Q => t σ H fun c H1 => if c = true then ta σ H1 Q else tb σ H1 Q
end
end L2

namespace L2
open PySem PySem.Spec PyProof.Rows

/-! ### a list, a tuple that is read: tracked, frozen, or an object of the module -/
def SqL (K : PySem.W.Frag) (H : Hp) (a : Addr) (xs : List V) : Prop :=
  Rd H a (.lst xs) ∨
    ∃ (o : Obj) (its : Array Value) (n : Nat), K.lookup a = some o ∧ o.cls = .type "list" ∧ o.dict = none ∧ o.data = .seq its n ∧ its.size ≤ sizeLine ∧ Vals xs its.toList
def SqT (K : PySem.W.Frag) (H : Hp) (a : Addr) (xs : List V) : Prop :=
  Rd H a (.tup xs) ∨
    ∃ (o : Obj) (its : Array Value) (n : Nat), K.lookup a = some o ∧ o.cls = .type "tuple" ∧ o.data = .seq its n ∧ its.size ≤ sizeLine ∧ Vals xs its.toList
def absV : Value → Option V
  | .none => some .non
  | .bool b => some (.bl b)
  | .int i _ => some (.int i)
  | .str x _ => some (.str x)
  | .bytes b _ => some (.byt b)
  | .float b _ => some (.flt b)
  | .ref a => some (.ref a)
  | .type n => some (.ty n)
  | _ => none
theorem RelV.abs {x : V} {u : Value} (r : RelV x u) : absV u = some x := by
  cases x with
  | non => cases r; rfl
  | bl _ => cases r; rfl
  | int _ => obtain ⟨t, rfl⟩ := r; rfl
  | str _ => obtain ⟨t, rfl⟩ := r; rfl
  | byt _ => obtain ⟨t, rfl⟩ := r; rfl
  | flt _ => obtain ⟨t, rfl⟩ := r; rfl
  | ref _ => cases r; rfl
  | ty _ => cases r; rfl
theorem RelV.inj {x y : V} {u : Value} (r : RelV x u) (q : RelV y u) : x = y := Option.some.inj (r.abs.symm.trans q.abs)
theorem Vals.inj : ∀ {xs ys : List V} {us : List Value}, Vals xs us → Vals ys us → xs = ys
  | _, _, _, .nil, .nil => rfl
  | _, _, _, .cons r t, .cons r' t' => by rw [r.inj r', Vals.inj t t']
section
variable {X : Cx} {pins : List (Addr × Obj)} {σ : St} {H : Hp} {s : Shared} {a : Addr} {xs ys : List V}
theorem SqL.of {K : PySem.W.Frag} (h : H a = some (.lst xs)) : SqL K H a xs := .inl (.inl h)
theorem SqT.of {K : PySem.W.Frag} (h : H a = some (.tup xs)) : SqT K H a xs := .inl (.inl h)
theorem Inv.list (I : Inv X pins σ H s) (h : SqL X.K H a xs) : ∃ its : List Value, Vals xs its ∧ PlainL s.heap a its.toArray ∧ xs.length ≤ sizeLine := by
  rcases h with h | ⟨o, its, n, hk, hc, hd, hs, hz, r⟩
  · obtain ⟨z, its, n, r, e⟩ := h.ok I.hok
    exact ⟨its, r, ⟨_, n, e, rfl, rfl, rfl⟩, z⟩
  · refine ⟨its.toList, r, ⟨o, n, I.kIn a o hk, hc, hd, by simpa using hs⟩, ?_⟩
    have e := r.length
    simp only [Array.length_toList] at e
    omega
theorem Inv.tuple (I : Inv X pins σ H s) (h : SqT X.K H a xs) : ∃ its : List Value, Vals xs its ∧ IsTup s.heap a its.toArray ∧ xs.length ≤ sizeLine := by
  rcases h with h | ⟨o, its, n, hk, hc, hs, hz, r⟩
  · obtain ⟨z, its, r, p⟩ := h.ok I.hok
    exact ⟨its, r, p, z⟩
  · refine ⟨its.toList, r, ⟨o, I.kIn a o hk, hc, n, by simpa using hs⟩, ?_⟩
    have e := r.length
    simp only [Array.length_toList] at e
    omega
theorem Inv.list_inj (I : Inv X pins σ H s) (h : SqL X.K H a xs) (h' : SqL X.K H a ys) : xs = ys := by
  obtain ⟨its, r, ⟨o, n, e, _, _, d⟩, _⟩ := I.list h
  obtain ⟨its', r', ⟨o', n', e', _, _, d'⟩, _⟩ := I.list h'
  rw [e] at e'; cases e'
  rw [d] at d'
  injection d' with d1 _
  have : its = its' := by simpa using congrArg Array.toList d1
  subst this
  exact r.inj r'
end

/-! ### another wish about exceptions -/
abbrev Cx.wish (X : Cx) (E : Value → Shared → Prop) : Cx := { X with xe := E }
/-- no exception leaves -/
abbrev Cx.nox (X : Cx) : Cx := X.wish fun _ _ => False
theorem Cx.Ok.wish {X : Cx} (ok : X.Ok) (E : Value → Shared → Prop) : (X.wish E).Ok :=
  ⟨ok.mod, ok.kind, ok.glob, ok.blt, ok.above, ok.inj, ok.has, ok.cab, ok.hd, ok.frames, ok.stk, ok.exf, ok.bs, ok.bsz, ok.noex, ok.exfs, ok.funs, ok.frf⟩
theorem Cx.Ok.unwish {X : Cx} {E : Value → Shared → Prop} (ok : (X.wish E).Ok) : X.Ok :=
  ⟨ok.mod, ok.kind, ok.glob, ok.blt, ok.above, ok.inj, ok.has, ok.cab, ok.hd, ok.frames, ok.stk, ok.exf, ok.bs, ok.bsz, ok.noex, ok.exfs, ok.funs, ok.frf⟩
section
variable {X : Cx} {pins : List (Addr × Obj)} {σ : St} {H : Hp} {s : Shared} {E : Value → Shared → Prop}
theorem Inv.wish (I : Inv X pins σ H s) (E : Value → Shared → Prop) : Inv (X.wish E) pins σ H s := ⟨I.ok.wish E, I.os, I.bare, I.base, I.loc, I.cell, I.free, I.freeC, I.pin, I.hok, I.len⟩
theorem Inv.unwish (I : Inv (X.wish E) pins σ H s) : Inv X pins σ H s := ⟨I.ok.unwish, I.os, I.bare, I.base, I.loc, I.cell, I.free, I.freeC, I.pin, I.hok, I.len⟩
theorem SP.unwish {D : Ends} {f : Flow} {s' : Shared} (h : SP (X.wish E) pins D f s') : SP X pins D f s' := by
  cases f with
  | next => obtain ⟨σ', H', I, q⟩ := h; exact ⟨σ', H', I.unwish, q⟩
  | brk => obtain ⟨σ', H', I, q⟩ := h; exact ⟨σ', H', I.unwish, q⟩
  | cont => obtain ⟨σ', H', I, q⟩ := h; exact ⟨σ', H', I.unwish, q⟩
  | ret u => obtain ⟨v, σ', H', I, r, q⟩ := h; exact ⟨v, σ', H', I.unwish, r, q⟩
theorem PE.nox {e : Expr} {t : TE} (h : PE X.nox e t) : PE X e t := fun pins s σ H Q I hw =>
  wpAny_mono (h pins s σ H Q (I.wish _) hw) (fun _ _ ⟨v, H', I', r, q⟩ => ⟨v, H', I'.unwish, r, q⟩) fun _ _ z => False.elim z
theorem PT.nox {e : Expr} {t : TT} (h : PT X.nox e t) : PT X e t := fun pins s σ H Q I hw =>
  wpAny_mono (h pins s σ H Q (I.wish _) hw) (fun _ _ ⟨H', I', q⟩ => ⟨H', I'.unwish, q⟩) fun _ _ z => False.elim z
theorem PSs.nox {st : List Stmt} {t : TS} (h : PSs X.nox st t) : PSs X st t := fun pins s σ H D I hw =>
  wpAny_mono (h pins s σ H D (I.wish _) hw) (fun _ _ q => q.unwish) fun _ _ z => False.elim z
end

/-! ### blocks and small statements -/
section
variable {X : Cx} {st : Stmt} {rest : List Stmt} {t u : TS} {e : Expr} {te : TE} {pos : Pos}
def tNext : TS := fun D σ H => D.nx σ H
def tSeq (t u : TS) : TS := fun D σ H => t { D with nx := u D } σ H
theorem pss_nil : PSs X [] tNext := fun _ _ σ H _ I h => wpAny_execs_nil ⟨σ, H, I, h⟩
theorem pss_cons (h1 : PS X st t) (h2 : PSs X rest u) : PSs X (st :: rest) (tSeq t u) := by
  intro pins s σ H D I h
  refine wpAny_execs_cons (thn (h1 pins s σ H { D with nx := u D } I h) fun f s1 q => ?_)
  cases f with
  | next =>
    obtain ⟨σ', H', I', q⟩ := q
    exact h2 pins s1 σ' H' D I' q
  | ret v => exact q
  | brk => exact q
  | cont => exact q
theorem pss_one (h1 : PS X st t) : PSs X [st] t := by
  intro pins s σ H D I h
  refine wpAny_execs_cons (thn (h1 pins s σ H D I h) fun f s1 q => ?_)
  cases f with
  | next => exact wpAny_execs_nil q
  | ret v => exact q
  | brk => exact q
  | cont => exact q
def tBreak : TS := fun D σ H => D.bk σ H
def tCont : TS := fun D σ H => D.ct σ H
/-- in a def's body nothing is shown -/
theorem Inv.quiet {pins : List (Addr × Obj)} {σ : St} {H : Hp} {s : Shared} (I : Inv X pins σ H s) : interactive X.env = false := by simp [interactive, I.ok.kind]
/-- an expression whose value is dropped -/
def tDrop (te : TE) : TS := fun D σ H => te σ H fun _ H1 => D.nx σ H1
theorem ps_expr (he : PE X e te) (hs : swapsWith e none pos.line X.env = pure false := by rfl) : PS X (.Expr e pos) (tDrop te) := by
  intro pins s σ H D I h
  exact wpAny_Expr_any (thn (he pins s σ H _ I h) fun v s1 ⟨x, H1, I1, r1, q1⟩ => ⟨σ, H1, I1, q1⟩) I.quiet hs
def tRet (te : TE) : TS := fun D σ H => te σ H D.rt
theorem ps_ret (he : PE X e te) : PS X (.Return (some e) pos) (tRet te) := by
  intro pins s σ H D I h
  exact wpAny_Return_some (thn (he pins s σ H _ I h) fun v s1 ⟨x, H1, I1, r1, q1⟩ => ⟨x, σ, H1, I1, r1, q1⟩)
def tRetN : TS := fun D _ H => D.rt .non H
def tIfS (c : TT) (t u : TS) : TS := fun D σ H => c σ H fun b H1 => if b = true then t D σ H1 else u D σ H1
theorem ps_if {c : Expr} {a b : List Stmt} {tc : TT} (hc : PT X c tc) (ha : PSs X a t) (hb : PSs X b u) : PS X (.If c a b pos) (tIfS tc t u) := by
  intro pins s σ H D I h
  refine wpAny_If (thn (hc pins s σ H _ I h) fun d s1 ⟨H1, I1, q1⟩ => ?_)
  cases d with
  | true => exact ha pins s1 σ H1 D I1 q1
  | false => exact hb pins s1 σ H1 D I1 q1
/-- code that the proof never comes to -/
def tNever : TS := fun _ _ _ => False
end

/-! ### targets -/
abbrev TG := V → St → Hp → (St → Hp → Prop) → Prop
abbrev TGs := List V → St → Hp → (St → Hp → Prop) → Prop
def PG (X : Cx) (target : Expr) (t : TG) : Prop :=
  ∀ (pins : List (Addr × Obj)) (s : Shared) (σ : St) (H : Hp) (v : V) (u : Value) (Q : St → Hp → Prop), Inv X pins σ H s → RelV v u → t v σ H Q →
    wpAny (model X.prog X.w) X.A (assign target X.env u) (fun _ s' => ∃ σ' H', Inv X pins σ' H' s' ∧ Q σ' H') X.xe s
/-- several targets, one after another -/
def PGs (X : Cx) (ts : List Expr) (t : TGs) : Prop :=
  ∀ (pins : List (Addr × Obj)) (s : Shared) (σ : St) (H : Hp) (vs : List V) (us : List Value) (Q : St → Hp → Prop), Inv X pins σ H s → Vals vs us → t vs σ H Q →
    wpAny (model X.prog X.w) X.A (assignInOrder ((assignEach ts X.env).map (·.2)) us) (fun _ s' => ∃ σ' H', Inv X pins σ' H' s' ∧ Q σ' H') X.xe s
/-- o[i] = v, by values -/
abbrev TSet := V → V → V → Hp → (Hp → Prop) → Prop
def PSet (X : Cx) (t : TSet) : Prop :=
  ∀ (pins : List (Addr × Obj)) (s : Shared) (σ : St) (H : Hp) (o i v : V) (ov iv u : Value) (Q : Hp → Prop), Inv X pins σ H s → RelV o ov → RelV i iv → RelV v u → t o i v H Q →
    wpAny (model X.prog X.w) X.A (setItem ov iv u) (fun _ s' => ∃ H', Inv X pins σ H' s' ∧ Q H') X.xe s
/-- a op= b, by values -/
abbrev TIp := V → V → Hp → VK → Prop
def PIp (X : Cx) (op : Operator) (t : TIp) : Prop :=
  ∀ (pins : List (Addr × Obj)) (s : Shared) (σ : St) (H : Hp) (x y : V) (v u : Value) (Q : VK), Inv X pins σ H s → RelV x v → RelV y u → t x y H Q →
    wpAny (model X.prog X.w) X.A (inplaceOp op v u) (EP X pins σ Q) X.xe s
section
variable {X : Cx} {pos : Pos}
def gName (i : Nat) : TG := fun v σ H Q => Q (σ.set i (some v)) H
theorem pg_name {i : Nat} {x : Str} (hN : X.N.Nodup) (hi : X.N[i]? = some x) (hx : Loc X.env.scope x) (hf : X.fn x = true ∨ X.env.scope.names.lookup x = some .local := by first | exact .inl rfl | exact .inr rfl | assumption) : PG X (.Name x pos) (gName i) := by
  intro pins s σ H v u Q I r h
  exact wpAny_assign_Name (store_ok I hN hi hx r (fun s' I' => ⟨_, H, I', h⟩) hf)
def gNil : TGs := fun vs σ H Q => vs = [] ∧ Q σ H
def gCons (t : TG) (u : TGs) : TGs := fun vs σ H Q => ∃ v r, vs = v :: r ∧ t v σ H fun σ' H' => u r σ' H' Q
theorem pgs_nil : PGs X [] gNil := by
  intro pins s σ H vs us Q I r h
  obtain ⟨e, h⟩ := h
  subst e
  cases r
  exact assignInOrder_nil ⟨σ, H, I, h⟩
theorem pgs_cons {e : Expr} {es : List Expr} {t : TG} {u : TGs} (h1 : PG X e t) (h2 : PGs X es u)
    (hs : (assignEach (e :: es) X.env).map (·.2) = assign e X.env :: (assignEach es X.env).map (·.2) := by rfl) : PGs X (e :: es) (gCons t u) := by
  intro pins s σ H vs us Q I r h
  obtain ⟨v, vr, e1, h⟩ := h
  subst e1
  cases r with
  | cons r rr =>
    rw [hs]
    refine assignInOrder_cons (thn (h1 pins s σ H _ _ _ I r h) fun _ s1 ⟨σ1, H1, I1, q1⟩ => ?_)
    exact h2 pins s1 σ1 H1 _ _ Q I1 rr q1
/-- (a, b, ..) = a tuple of that length -/
def gTup (K : PySem.W.Frag) (n : Nat) (t : TGs) : TG := fun v σ H Q => ∃ a xs, v = .ref a ∧ SqT K H a xs ∧ xs.length = n ∧ t xs σ H Q
theorem pg_tup {es : List Expr} {k : Nat} {t : TGs} {n : Nat} (hc : X.calm = true) (h : PGs X es t)
    (hn : (assignEach es X.env).length = n := by rfl) (hst : (assignEach es X.env).findIdx? (·.1) = none := by rfl) : PG X (.Tuple es k pos) (gTup X.K n t) := by
  intro pins s σ H v u Q I r hw
  obtain ⟨a, xs, e1, hq, hl, hw⟩ := hw
  subst e1
  cases r
  obtain ⟨its, rv, ht, hz⟩ := I.tuple hq
  refine assign_Tuple_tuple (I.ok.hd hc) ht (by simp [hn, ← hl, rv.length]) hst fun h' hx => ?_
  have I1 : Inv X pins σ H { s with heap := h' } := I.kept (t' := s.toks) fun b o e => hx b o (Nat.ne_of_lt (Heap.lt_size e)) e
  exact h pins _ σ H xs _ Q I1 (by simpa using rv) hw
/-- o[i] = .. -/
def gSub (to ti : TE) (t : TSet) : TG := fun v σ H Q => to σ H fun o H1 => ti σ H1 fun i H2 => t o i v H2 fun H3 => Q σ H3
/-- target = value -/
def tAsg (te : TE) (g : TG) : TS := fun D σ H => te σ H fun x H1 => g x σ H1 D.nx
/-- name = value -/
theorem ps_set {i : Nat} {x : Str} {e : Expr} {te : TE} {pos' : Pos} (hN : X.N.Nodup) (hi : X.N[i]? = some x) (hx : Loc X.env.scope x) (he : PE X e te) (hs : swapsWith e (some (.Name x pos')) pos.line X.env = pure false := by rfl) (hf : X.fn x = true ∨ X.env.scope.names.lookup x = some .local := by first | exact .inl rfl | exact .inr rfl | assumption) :
    PS X (.Assign [.Name x pos'] e pos) (tAsg te (gName i)) := by
  intro pins s σ H D I h
  refine wpAny_Assign_Name (thn (he pins s σ H _ I h) fun v s1 ⟨y, H1, I1, r1, q1⟩ => ?_) hs
  exact store_ok I1 hN hi hx r1 (fun s2 I2 => ⟨_, H1, I2, q1⟩) hf
/-- a, b = x, y with plain local names: stored from the right; the pair itself is not tracked (the opening rows as in PyProof/Rows/TupAssign.lean:23) -/
def tPar (i j : Nat) (ta : TA) : TS := fun D σ H => ta σ H fun vs H1 => ∃ v w, vs = [v, w] ∧ D.nx ((σ.set i (some v)).set j (some w)) H1
/-- name op= e -/
def tAug (i : Nat) (te : TE) (ti : TIp) : TS := fun D σ H => ∃ x, σ[i]? = some (some x) ∧ te σ H fun y H1 => ti x y H1 fun z H2 => D.nx (σ.set i (some z)) H2
theorem ps_aug {i : Nat} {x : Str} {e : Expr} {te : TE} {op : Operator} {ti : TIp} {pos' : Pos} (hN : X.N.Nodup) (hi : X.N[i]? = some x) (hx : Loc X.env.scope x) (he : PE X e te) (ho : PIp X op ti) (hf : X.fn x = true ∨ X.env.scope.names.lookup x = some .local := by first | exact .inl rfl | exact .inr rfl | assumption) :
    PS X (.AugAssign (.Name x pos') op e pos) (tAug i te ti) := by
  intro pins s σ H D I h
  obtain ⟨v, e1, h⟩ := h
  obtain ⟨m, hn, hl⟩ := I.loc
  have vis : Vis X.env.scope x := by rcases hx with k | k; exact .inl k; exact .inr (.inl k)
  obtain ⟨u, r, l⟩ := hl i x v hi e1 vis
  refine wpAny_AugAssign_Name ?_
  have go : wpAny (model X.prog X.w) X.A (eval e X.env) (fun w s₂ => wpAny (model X.prog X.w) X.A (inplaceOp op u w) (fun r s₃ => wpAny (model X.prog X.w) X.A (storeName X.env x r) (fun _ => SP X pins D .next) X.xe s₃) X.xe s₂) X.xe s := by
    refine thn (he pins s σ H _ I h) fun w s1 ⟨y, H1, I1, r1, q1⟩ => ?_
    refine thn (ho pins s1 σ H1 v y u w _ I1 r r1 q1) fun z s2 ⟨zv, H2, I2, r2, q2⟩ => ?_
    exact store_ok I2 hN hi hx r2 (fun s3 I3 => ⟨_, H2, I3, q2⟩) hf
  rcases l with ⟨hk, hm⟩ | ⟨hk, c, hc, hcell⟩
  · exact wpAny_loadName_local I.ok.kind hk hn hm go
  · rcases hk with hk | hk
    · exact wpAny_loadName_cell I.ok.kind hk hc hcell go
    · rcases hx with k | k
      · have : X.env.scope.names.lookup x = some .free := hk
        rw [k] at this; cases this
      · have : X.env.scope.names.lookup x = some .free := hk
        rw [k] at this; cases this
/-- o[i] op= e -/
def tAugS (to ti te : TE) (tget : V → V → Hp → VK → Prop) (tip : TIp) (tset : TSet) : TS := fun D σ H => to σ H fun o H1 => ti σ H1 fun i H2 => tget o i H2 fun x H3 => te σ H3 fun y H4 => tip x y H4 fun z H5 => tset o i z H5 fun H6 => D.nx σ H6
/-- o[i], by values -/
def PGet (X : Cx) (t : V → V → Hp → VK → Prop) : Prop :=
  ∀ (pins : List (Addr × Obj)) (s : Shared) (σ : St) (H : Hp) (o i : V) (ov iv : Value) (Q : VK), Inv X pins σ H s → RelV o ov → RelV i iv → t o i H Q →
    wpAny (model X.prog X.w) X.A (getItem ov iv) (EP X pins σ Q) X.xe s
/-- ints -/
def ipI (f : Int → Int → Int) : TIp := fun x y H Q => ∃ i j, x = .int i ∧ y = .int j ∧ Q (.int (f i j)) H
theorem ip_add : PIp X .Add (ipI fun i j => i + j) := by
  intro pins s σ H x y v u Q I r1 r2 h
  obtain ⟨i, j, e1, e2, q⟩ := h
  subst e1; subst e2
  obtain ⟨t, rfl⟩ := r1
  obtain ⟨t', rfl⟩ := r2
  exact iadd_int ⟨.int _, H, I.tok _, ⟨_, rfl⟩, q⟩
theorem ip_sub : PIp X .Sub (ipI fun i j => i - j) := by
  intro pins s σ H x y v u Q I r1 r2 h
  obtain ⟨i, j, e1, e2, q⟩ := h
  subst e1; subst e2
  obtain ⟨t, rfl⟩ := r1
  obtain ⟨t', rfl⟩ := r2
  exact isub_int ⟨.int _, H, I.tok _, ⟨_, rfl⟩, q⟩
end

/-! ### while -/
section
variable {X : Cx} {pos : Pos}
/-- the invariant W with its measure -/
def tWhile (c : TT) (tb : TS) : TS := fun D σ H => ∃ W : Nat → St → Hp → Prop, (∃ m, W m σ H) ∧ ∀ m σ H, W m σ H →
  c σ H fun b H1 => if b = true then ∃ N : St → Hp → Prop, (∀ σ' H', N σ' H' → ∃ m', m' < m ∧ W m' σ' H') ∧ tb { D with nx := N, ct := N, bk := D.nx } σ H1 else D.nx σ H1
theorem ps_while {c : Expr} {body : List Stmt} {tc : TT} {tb : TS} (hp : PassesOwn (model X.prog X.w) X.A X.env X.xe) (hc : PT X c tc) (hb : PSs X body tb) : PS X (.While c body [] pos) (tWhile tc tb) := by
  intro pins s σ H D I h
  obtain ⟨W, ⟨m0, w0⟩, turn⟩ := h
  refine wpAny_While (codeAny_whileLoop (fun n s' => ∃ σ' H', Inv X pins σ' H' s' ∧ W n σ' H') ?_ m0 ⟨σ, H, I, w0⟩)
  rintro n s1 ⟨σ1, H1, I1, w1⟩
  refine wpAny_passesOwn hp (thn (hc pins s1 σ1 H1 _ I1 (turn n σ1 H1 w1)) fun b s2 ⟨H2, I2, q2⟩ => ?_)
  cases b with
  | true =>
    obtain ⟨N, hN, q2⟩ := q2
    rw [if_pos rfl]
    refine wpAny_passesOwn hp (thn (hb pins s2 σ1 H2 _ I2 q2) fun f s3 q3 => ?_)
    cases f with
    | next =>
      obtain ⟨σ3, H3, I3, n3⟩ := q3
      obtain ⟨m', hm, w3⟩ := hN σ3 H3 n3
      exact ⟨m', hm, σ3, H3, I3, w3⟩
    | cont =>
      obtain ⟨σ3, H3, I3, n3⟩ := q3
      obtain ⟨m', hm, w3⟩ := hN σ3 H3 n3
      exact ⟨m', hm, σ3, H3, I3, w3⟩
    | brk => exact q3
    | ret v => exact q3
  | false =>
    rw [if_neg Bool.false_ne_true]
    exact wpAny_execs_nil ⟨σ1, H2, I2, q2⟩
end

/-! ### what a loop or a comprehension walks -/
/-- at turn i: it yields x (the heap may grow), or it stops -/
structure It where
  go : Nat → Hp → Prop
  yld : Nat → Hp → V → Hp → Prop
  stop : Nat → Hp → Prop
/-- the iterator's own objects may turn: they are not the frame's, not pinned, younger than the entry (or a comprehension's own) -/
def FpOk (X : Cx) (pins : List (Addr × Obj)) (H : Hp) (b : Addr) : Prop :=
  H b = none ∧ b ≠ X.env.locals ∧ b ∉ X.fs ∧ (b ∈ X.ex ∨ X.s₀.heap.objs.size ≤ b) ∧ (∀ x c, X.env.cells.lookup x = some c → c ≠ b) ∧ ∀ p ∈ X.pn ++ pins, p.1 ≠ b
theorem Inv.fpOk {X : Cx} {pins : List (Addr × Obj)} {σ : St} {H H' : Hp} {s : Shared} {b : Addr} (I : Inv X pins σ H s) (hb : s.heap.objs.size ≤ b) (hn : H' b = none) : FpOk X pins H' b := by
  refine ⟨hn, Nat.ne_of_gt (Nat.lt_of_lt_of_le I.lt hb), I.nofs hb, .inr (Nat.le_trans I.sz hb), fun x c e z => ?_, fun p hp z => ?_⟩
  · obtain ⟨v, q⟩ := I.cell x c e
    exact absurd (Nat.lt_of_lt_of_le q.lt (by rw [z]; exact hb)) (Nat.lt_irrefl _)
  · exact absurd (Nat.lt_of_lt_of_le (Heap.lt_size (I.pin p hp).1) (by rw [z]; exact hb)) (Nat.lt_irrefl _)
structure Turn (P : Program) (w : World) (K : PySem.W.Frag) (tg : Expr) (J : It) (fp : List Addr) (it : Addr) (tn : Nat → Heap → Prop) : Prop where
  mem : it ∈ fp
  obj : ∀ i h, tn i h → ∀ b ∈ fp, ∃ o, h.get? b = some o ∧ ∀ v, o.data ≠ .cell v
  keep : ∀ i h h', tn i h → (∀ b ∈ fp, ∀ o, h.get? b = some o → h'.get? b = some o) → tn i h'
  item : ∀ (X : Cx), X.prog = P → X.w = w → X.K = K → X.calm = true → ∀ (i : Nat) (pins : List (Addr × Obj)) (s : Shared) (σ : St) (H : Hp) (E : Value → Shared → Prop), Inv X pins σ H s → (∀ b ∈ fp, FpOk X pins H b) → tn i s.heap → J.go i H →
    wpAny (model P w) X.A (pyNext (.ref it)) (fun r s1 => ∃ u, r = some u ∧
      wpAny (model P w) X.A (letOwnedTupleGo tg (.ref it) u) (fun _ s2 => ∃ x H', Inv X pins σ H' s2 ∧ RelV x u ∧ J.yld i H x H' ∧ tn (i + 1) s2.heap ∧ ∀ b ∈ fp, H' b = none) E s1) E s
  done : ∀ (X : Cx), X.prog = P → X.w = w → X.K = K → X.calm = true → ∀ (i : Nat) (pins : List (Addr × Obj)) (s : Shared) (σ : St) (H : Hp) (E : Value → Shared → Prop), Inv X pins σ H s → (∀ b ∈ fp, FpOk X pins H b) → tn i s.heap → J.stop i H →
    wpAny (model P w) X.A (pyNext (.ref it)) (fun r s1 => r = none ∧ Inv X pins σ H s1) E s
  self : ∀ (A : Around) (i : Nat) (s : Shared) (Q : Value → Shared → Prop) (E : Value → Shared → Prop), tn i s.heap → Q (.ref it) s → wpAny (model P w) A (pyIter (.ref it)) Q E s
abbrev TI := St → Hp → (It → Hp → Prop) → Prop
/-- an iterator has come -/
def PIE (X : Cx) (pins : List (Addr × Obj)) (σ : St) (tg : Expr) (R : It → Hp → Prop) (itv : Value) (s2 : Shared) : Prop :=
  ∃ (it : Addr) (fp : List Addr) (tn : Nat → Heap → Prop) (J : It) (H' : Hp), itv = .ref it ∧ Inv X pins σ H' s2 ∧ Turn X.prog X.w X.K tg J fp it tn ∧ tn 0 s2.heap ∧ (∀ b ∈ fp, FpOk X pins H' b) ∧ R J H'
def PI (X : Cx) (tg iter : Expr) (wi : TI) : Prop :=
  ∀ (pins : List (Addr × Obj)) (s : Shared) (σ : St) (H : Hp) (R : It → Hp → Prop), Inv X pins σ H s → wi σ H R →
    wpAny (model X.prog X.w) X.A (eval iter X.env) (fun v s1 => wpAny (model X.prog X.w) X.A (pyIter v) (PIE X pins σ tg R) X.xe s1) X.xe s

/-- the step ahead of the store is nothing for an iterator that keeps no tuple -/
theorem go_of {M : Model} {A : Around} {E : Value → Shared → Prop} {s : Shared} {tg : Expr} {it : Addr} {u : Value} {o : Obj} {n : String} {vs : Array Value} {Q : Unit → Shared → Prop} (ho : s.heap.get? it = some o) (hc : o.cls = .type n) (hd : o.data = .fields vs)
    (hn : ["enumerate", "zip", "dict_itemiterator", "dict_reverseitemiterator", "odict_iterator", "itertools.zip_longest", "itertools.pairwise"].contains n = false) (hQ : Q () s) : wpAny M A (letOwnedTupleGo tg (.ref it) u) Q E s := by
  unfold letOwnedTupleGo
  cases tg <;> first
    | exact wpAny_pure hQ
    | (cases u <;> first
        | exact wpAny_pure hQ
        | (refine wpAny_bind (wpAny_load ho ?_)
           rw [hc, hd]
           show wpAny M A (if (["enumerate", "zip", "dict_itemiterator", "dict_reverseitemiterator", "odict_iterator", "itertools.zip_longest", "itertools.pairwise"].contains n && vs[0]? == some (rawInt _)) = true then _ else _) Q E s
           rw [if_neg (by intro h; rw [hn, Bool.false_and] at h; cases h)]
           exact wpAny_pure hQ))

/-- the list at a, as it stands at each turn (a loop may append to it) -/
def Itl (K : PySem.W.Frag) (a : Addr) : It :=
  ⟨fun i H => ∃ xs x, SqL K H a xs ∧ xs[i]? = some x, fun i H x H' => H' = H ∧ ∀ xs, SqL K H a xs → xs[i]? = some x, fun i H => ∃ xs, SqL K H a xs ∧ xs.length ≤ i⟩
def Itt (K : PySem.W.Frag) (a : Addr) : It :=
  ⟨fun i H => ∃ xs x, SqT K H a xs ∧ xs[i]? = some x, fun i H x H' => H' = H ∧ ∀ xs, SqT K H a xs → xs[i]? = some x, fun i H => ∃ xs, SqT K H a xs ∧ xs.length ≤ i⟩
/-- lo, lo + 1, .. (n of them) -/
def Itr (lo : Int) (n : Nat) : It := ⟨fun i _ => i < n, fun i H x H' => H' = H ∧ x = .int (lo + i), fun i _ => n ≤ i⟩
theorem turn_list {P : Program} {w : World} {K : PySem.W.Frag} {tg : Expr} (a it : Addr) : Turn P w K tg (Itl K a) [it] it (fun i h => h.IsListIter it a i) where
  mem := by simp
  obj := fun i h st b hb => by
    have e : b = it := by simpa using hb
    subst e
    obtain ⟨o, e, c, d⟩ := st
    exact ⟨o, e, fun v z => by rw [d] at z; cases z⟩
  keep := fun i h h' st k => st.at fun o e => k it (by simp) o e
  item := by
    intro X hP hw hK hc i pins s σ H E I hf st hg
    subst hP hw hK
    obtain ⟨xs, x, hq, hx⟩ := hg
    obtain ⟨its, rv, p, hz⟩ := I.list hq
    obtain ⟨u, hu, ru⟩ := rv.get hx
    obtain ⟨f0, f1, f2, f3, f4, f5⟩ := hf it (by simp)
    refine wpAny_pyNext_list_item st p.isList (x := u) (by simpa using hu) fun h' st' sb => ?_
    have I1 : Inv X pins σ H { s with heap := h' } := I.turned (t' := s.toks) (fun b o hb e => (sb.2 b hb).trans e) f0 f1 f3 f4 f5
    obtain ⟨o, e, c, d⟩ := id st'
    exact ⟨u, rfl, go_of (s := { s with heap := h' }) e c d (by decide) ⟨x, H, I1, ru, ⟨rfl, fun ys hy => by rw [I.list_inj hy hq]; exact hx⟩, st', fun b hb => (hf b hb).1⟩⟩
  done := by
    intro X hP hw hK hc i pins s σ H E I hf st hg
    subst hP hw hK
    obtain ⟨xs, hq, hx⟩ := hg
    obtain ⟨its, rv, p, hz⟩ := I.list hq
    obtain ⟨f0, f1, f2, f3, f4, f5⟩ := hf it (by simp)
    have hl := rv.length
    exact wpAny_pyNext_list_end (I.ok.hd hc) st p.isList (by simp; omega) fun h' eb => ⟨rfl, I.turned (t' := s.toks) (fun b o hb e => eb b o hb e) f0 f1 f3 f4 f5⟩
  self := fun _ _ _ _ _ st h => wpAny_pyIter_listiter st h
theorem turn_range {P : Program} {w : World} {K : PySem.W.Frag} {tg : Expr} (it : Addr) (lo : Int) (n : Nat) : Turn P w K tg (Itr lo n) [it] it (fun i h => IsRangeIter h it (lo + (i : Nat) * 1) ((n : Int) - (i : Nat)) 1) where
  mem := by simp
  obj := fun i h st b hb => by
    have e : b = it := by simpa using hb
    subst e
    exact ⟨_, st, fun v z => by
      have z' : Data.fields _ = Data.cell v := z
      cases z'⟩
  keep := fun i h h' st k => k it (by simp) _ st
  item := by
    intro X hP hw hK hc i pins s σ H E I hf st hg
    subst hP hw hK
    obtain ⟨f0, f1, f2, f3, f4, f5⟩ := hf it (by simp)
    have W := Walks.range (prog := X.prog) (w := X.w) (I.ok.hd hc) it lo 1 n
    refine W.item i s _ _ hg st fun v h' tk hv st' kk => ?_
    obtain ⟨t, rfl⟩ := hv
    have I1 : Inv X pins σ H { s with heap := h', toks := tk } := I.turned (fun b o hb e => kk b o (by simpa using hb) e) f0 f1 f3 f4 f5
    refine ⟨_, rfl, go_of (s := { s with heap := h', toks := tk }) (n := "range_iterator") st' rfl rfl (by decide) ⟨.int (lo + i), H, I1, ⟨t, ?_⟩, ⟨rfl, rfl⟩, st', fun b hb => (hf b hb).1⟩⟩
    rw [Int.mul_one]
  done := by
    intro X hP hw hK hc i pins s σ H E I hf st hg
    subst hP hw hK
    obtain ⟨f0, f1, f2, f3, f4, f5⟩ := hf it (by simp)
    exact wpAny_pyNext_range_end (I.ok.hd hc) st (by have : n ≤ i := hg; omega) fun h' eb => ⟨rfl, I.turned (t' := s.toks) (fun b o hb e => eb b o hb e) f0 f1 f3 f4 f5⟩
  self := fun _ _ _ _ _ st h => wpAny_pyIter_rangeiter st h
end L2

namespace L2
open PySem PySem.Spec PyProof.Rows
section
variable {X : Cx} {tg : Expr}
def iList (K : PySem.W.Frag) (tl : TE) : TI := fun σ H R => tl σ H fun x H1 => ∃ a, x = .ref a ∧ (∃ xs, SqL K H1 a xs) ∧ R (Itl K a) H1
def iTup (K : PySem.W.Frag) (tl : TE) : TI := fun σ H R => tl σ H fun x H1 => ∃ a, x = .ref a ∧ (∃ xs, SqT K H1 a xs) ∧ R (Itt K a) H1
theorem pi_list {l : Expr} {tl : TE} (hl : PE X l tl) : PI X tg l (iList X.K tl) := by
  intro pins s σ H R I h
  refine thn (hl pins s σ H _ I h) fun v s1 ⟨x, H1, I1, r1, q1⟩ => ?_
  obtain ⟨a, e, ⟨xs, hq⟩, q⟩ := q1
  subst e
  cases r1
  obtain ⟨its, rv, p, hz⟩ := I1.list hq
  refine wpAny_pyIter_list p.isList ?_
  refine ⟨s1.heap.objs.size, [s1.heap.objs.size], _, _, H1, rfl, I1.kept (t' := s1.toks) fun b o e => Heap.get?_push_of_some _ e, turn_list a _, ⟨_, Heap.get?_push_size _ rfl, rfl, rfl⟩, fun b hb => ?_, q⟩
  have e : b = s1.heap.objs.size := by simpa using hb
  subst e
  exact I1.fpOk (Nat.le_refl _) (I1.hok.fresh (Nat.le_refl _))
/-- a range object just made, walked -/
theorem range_it {pins : List (Addr × Obj)} {σ : St} {H : Hp} {s : Shared} {R : It → Hp → Prop} {E : Value → Shared → Prop} {lo hi : Int} {t u v : Tok} {tk : Nat} (I : Inv X pins σ H s) (h1 : -(2 ^ 62) ≤ lo) (h2 : lo < 2 ^ 62) (h3 : -(2 ^ 62) ≤ hi) (h4 : hi < 2 ^ 62)
    (q : R (Itr lo (hi - lo).toNat) H) : wpAny (model X.prog X.w) X.A (pyIter (.ref s.heap.objs.size)) (PIE X pins σ tg R) E { s with heap := s.heap.push { cls := .type "range", data := .fields #[.int lo t, .int hi u, .int 1 v] }, toks := tk } := by
  refine wpAny_pyIter_range (IsRange.new ..) (small_one h1 h2 h3 h4) ?_
  have I1 : Inv X pins σ H { s with heap := s.heap.push { cls := .type "range", data := .fields #[.int lo t, .int hi u, .int 1 v] }, toks := tk } := I.kept fun b o e => Heap.get?_push_of_some _ e
  refine ⟨(s.heap.push { cls := .type "range", data := .fields #[.int lo t, .int hi u, .int 1 v] }).objs.size, [(s.heap.push { cls := .type "range", data := .fields #[.int lo t, .int hi u, .int 1 v] }).objs.size], _, _, H, rfl,
    I1.kept (t' := tk) fun b o e => Heap.get?_push_of_some _ e, turn_range _ lo (hi - lo).toNat, ?_, fun b hb => ?_, q⟩
  · have e1 : lo + ((0 : Nat) : Int) * 1 = lo := by simp
    have e2 : (((hi - lo).toNat : Nat) : Int) - ((0 : Nat) : Int) = Builtin.Range.rangeSize lo hi 1 := by rw [rangeSize_one]; split <;> omega
    show IsRangeIter _ _ (lo + ((0 : Nat) : Int) * 1) ((((hi - lo).toNat : Nat) : Int) - ((0 : Nat) : Int)) 1
    rw [e1, e2]
    exact Heap.get?_push_size _ rfl
  · have e : b = (s.heap.push { cls := .type "range", data := .fields #[.int lo t, .int hi u, .int 1 v] }).objs.size := by simpa using hb
    subst e
    exact I1.fpOk (Nat.le_refl _) (I1.hok.fresh (Nat.le_refl _))
def iRng1 (ta : TA) : TI := fun σ H R => ta σ H fun vs H1 => ∃ j : Int, vs = [.int j] ∧ -(2 ^ 62) ≤ j ∧ j < 2 ^ 62 ∧ R (Itr 0 j.toNat) H1
def iRng2 (ta : TA) : TI := fun σ H R => ta σ H fun vs H1 => ∃ i j : Int, vs = [.int i, .int j] ∧ (-(2 ^ 62) ≤ i ∧ i < 2 ^ 62 ∧ -(2 ^ 62) ≤ j ∧ j < 2 ^ 62) ∧ R (Itr i (j - i).toNat) H1
theorem pi_range1 {a : Expr} {ta : TA} {p pos : Pos} (hg : Gl X "range") (hm : X.mg "range" = none) (ha : PA X [a] ta) (hs : starEach [a] X.env = [(false, eval a X.env)] := by rfl) : PI X tg (.Call (.Name "range" p) [a] [] pos) (iRng1 ta) := by
  intro pins s σ H R I h
  refine Call_ (ld_blt I hg hm boot_range (PyProof.Rows.callWith_type1 (thn (ha pos pins s σ H _ I h) fun us s1 ⟨vs, H1, I1, r1, q1⟩ => ?_) hs rfl))
  obtain ⟨j, e, q1, q2, q⟩ := q1
  subst e
  cases r1 with
  | cons r rr =>
    cases rr
    obtain ⟨t, rfl⟩ := r
    exact call_range_1 (range_it I1 (by omega) (by omega) q1 q2 (by simpa using q))
/-! ### for -/
/-- W: the invariant by the turn and a measure; N: what the body is to reach -/
def tFor (wi : TI) (g : TG) (tb : TS) : TS := fun D σ H => wi σ H fun J H1 => ∃ W : Nat → Nat → St → Hp → Prop, (∃ m, W 0 m σ H1) ∧ ∀ i m σ H, W i m σ H →
  (J.stop i H ∧ D.nx σ H) ∨ (J.go i H ∧ ∃ N : St → Hp → Prop, (∀ σ' H', N σ' H' → ∃ m', m' < m ∧ W (i + 1) m' σ' H') ∧ ∀ x H', J.yld i H x H' → g x σ H' fun σ2 H2 => tb { D with nx := N, ct := N, bk := D.nx } σ2 H2)
/-- the records at fp as they stand -/
def pinsAt (fp : List Addr) (h : Heap) : List (Addr × Obj) := fp.filterMap fun b => (h.get? b).map fun o => (b, o)
theorem mem_pinsAt {fp : List Addr} {h : Heap} {b : Addr} {o : Obj} (hb : b ∈ fp) (e : h.get? b = some o) : (b, o) ∈ pinsAt fp h := List.mem_filterMap.mpr ⟨b, hb, by rw [e]; rfl⟩
theorem of_pinsAt {fp : List Addr} {h : Heap} {p : Addr × Obj} (hp : p ∈ pinsAt fp h) : p.1 ∈ fp ∧ h.get? p.1 = some p.2 := by
  obtain ⟨b, hb, e⟩ := List.mem_filterMap.mp hp
  cases q : h.get? b with
  | none => rw [q] at e; cases e
  | some o =>
    rw [q] at e
    have e' : (b, o) = p := Option.some.inj e
    subst e'
    exact ⟨hb, q⟩
theorem Inv.pinned {pins : List (Addr × Obj)} {σ : St} {H : Hp} {s : Shared} {fp : List Addr} (I : Inv X pins σ H s) (hf : ∀ b ∈ fp, FpOk X pins H b) (ho : ∀ b ∈ fp, ∃ o, s.heap.get? b = some o ∧ ∀ v, o.data ≠ .cell v) : Inv X (pins ++ pinsAt fp s.heap) σ H s :=
  I.pins_of fun p hp => (List.mem_append.mp hp).elim (fun z => I.pin p (List.mem_append_right _ z)) fun z => by
    obtain ⟨hb, e⟩ := of_pinsAt z
    obtain ⟨f0, f1, f2, _⟩ := hf p.1 hb
    obtain ⟨o, e', d⟩ := ho p.1 hb
    rw [e] at e'; cases e'
    exact ⟨e, f0, f1, f2, d⟩
theorem Inv.unpinned {pins pl : List (Addr × Obj)} {σ : St} {H : Hp} {s : Shared} (I : Inv X (pins ++ pl) σ H s) : Inv X pins σ H s := I.pins_of fun p hp => I.pin p (List.mem_append_right _ (List.mem_append_left _ hp))
theorem ps_for {iter : Expr} {body : List Stmt} {wi : TI} {g : TG} {tb : TS} {pos : Pos} (hp : PassesOwn (model X.prog X.w) X.A X.env X.xe) (hc : X.calm = true) (hi : PI X tg iter wi) (hg : PG X tg g) (hb : PSs X body tb)
    (hs : ∀ x, foldedSetIterable iter X.env x = pure x := by intro _; rfl) : PS X (.For tg iter body [] pos) (tFor wi g tb) := by
  intro pins s σ H D I h
  refine wpAny_For (thn (hi pins s σ H _ I h) fun v s1 h1 => thn h1 fun itv s2 h2 => ?_) hs
  obtain ⟨it, fp, tn, J, H2, e, I2, T, st2, f2, W, ⟨m0, w0⟩, turn⟩ := h2
  subst e
  -- what stays true of the iterator's objects through the loop
  have stat : ∀ {H' : Hp}, (∀ b ∈ fp, H' b = none) → ∀ b ∈ fp, FpOk X pins H' b := fun hn b hb => ⟨hn b hb, (f2 b hb).2⟩
  refine codeAny_forLoop_any (fun n s' => ∃ i σ' H', Inv X pins σ' H' s' ∧ tn i s'.heap ∧ (∀ b ∈ fp, H' b = none) ∧ W i n σ' H') ?_ m0 ⟨0, σ, H2, I2, st2, fun b hb => (f2 b hb).1, w0⟩
  rintro n s3 ⟨i, σ3, H3, I3, st3, fr3, w3⟩
  rcases turn i n σ3 H3 w3 with ⟨stop, qn⟩ | ⟨go, N, hN, step⟩
  · refine wpAny_passesOwn hp (thn (T.done X rfl rfl rfl hc i pins s3 σ3 H3 X.xe I3 (stat fr3) st3 stop) fun r s4 ⟨hr, I4⟩ => ?_)
    subst hr
    exact wpAny_execs_nil ⟨σ3, H3, I4, qn⟩
  · refine wpAny_passesOwn hp (thn (T.item X rfl rfl rfl hc i pins s3 σ3 H3 X.xe I3 (stat fr3) st3 go) fun r s4 ⟨u, hr, h4⟩ => ?_)
    subst hr
    refine wpAny_passesOwn hp (thn h4 fun _ s5 ⟨x, H5, I5, r5, y5, st5, fr5⟩ => ?_)
    have I5' := I5.pinned (stat fr5) (T.obj _ _ st5)
    refine wpAny_passesOwn hp (thn (hg _ s5 σ3 H5 x u _ I5' r5 (step x H5 y5)) fun _ s6 ⟨σ6, H6, I6, q6⟩ => ?_)
    refine wpAny_passesOwn hp (thn (hb _ s6 σ6 H6 _ I6 q6) fun f s7 q7 => ?_)
    have again : ∀ {σ7 : St} {H7 : Hp}, Inv X (pins ++ pinsAt fp s5.heap) σ7 H7 s7 → N σ7 H7 → ∃ m, m < n ∧ ∃ i σ' H', Inv X pins σ' H' s7 ∧ tn i s7.heap ∧ (∀ b ∈ fp, H' b = none) ∧ W i m σ' H' := fun {σ7 H7} I7 n7 => by
      obtain ⟨m', hm, w7⟩ := hN σ7 H7 n7
      refine ⟨m', hm, i + 1, σ7, H7, I7.unpinned, T.keep _ _ _ st5 fun b hb o e => (I7.pin (b, o) (List.mem_append_right _ (List.mem_append_right _ (mem_pinsAt hb e)))).1, fun b hb => ?_, w7⟩
      obtain ⟨o, e, d⟩ := T.obj _ _ st5 b hb
      exact (I7.pin (b, o) (List.mem_append_right _ (List.mem_append_right _ (mem_pinsAt hb e)))).2.1
    cases f with
    | next => obtain ⟨σ7, H7, I7, n7⟩ := q7; exact again I7 n7
    | cont => obtain ⟨σ7, H7, I7, n7⟩ := q7; exact again I7 n7
    | brk => obtain ⟨σ7, H7, I7, q7⟩ := q7; exact ⟨σ7, H7, I7.unpinned, q7⟩
    | ret v => obtain ⟨x7, σ7, H7, I7, r7, q7⟩ := q7; exact ⟨x7, σ7, H7, I7.unpinned, r7, q7⟩
end

/-! ### the forms one uses -/
/-- over a list that the body leaves as it is -/
theorem for_list {K : PySem.W.Frag} {a : Addr} {xs : List V} {g : TG} {tb : TS} {D : Ends} {σ : St} {H : Hp} (Pv : Nat → St → Hp → Prop) (h0 : Pv 0 σ H) (hl : ∀ i σ H, i ≤ xs.length → Pv i σ H → SqL K H a xs)
    (hs : ∀ i x σ H, xs[i]? = some x → Pv i σ H → g x σ H fun σ2 H2 => tb { D with nx := Pv (i + 1), ct := Pv (i + 1), bk := D.nx } σ2 H2) (hd : ∀ σ H, Pv xs.length σ H → D.nx σ H) :
    ∃ W : Nat → Nat → St → Hp → Prop, (∃ m, W 0 m σ H) ∧ ∀ i m σ H, W i m σ H →
      ((Itl K a).stop i H ∧ D.nx σ H) ∨ ((Itl K a).go i H ∧ ∃ N : St → Hp → Prop, (∀ σ' H', N σ' H' → ∃ m', m' < m ∧ W (i + 1) m' σ' H') ∧ ∀ x H', (Itl K a).yld i H x H' → g x σ H' fun σ2 H2 => tb { D with nx := N, ct := N, bk := D.nx } σ2 H2) := by
  refine ⟨fun i m σ H => m = xs.length - i ∧ i ≤ xs.length ∧ Pv i σ H, ⟨xs.length, by simp, Nat.zero_le _, h0⟩, ?_⟩
  rintro i m σ H ⟨rfl, hi, p⟩
  have q := hl i σ H hi p
  by_cases hlt : i < xs.length
  · refine .inr ⟨⟨xs, xs[i], q, by simp [hlt]⟩, Pv (i + 1), fun σ' H' p' => ⟨xs.length - (i + 1), by omega, rfl, hlt, p'⟩, fun x H' y => ?_⟩
    obtain ⟨e, y⟩ := y
    subst e
    exact hs i x σ _ (y xs q) p
  · have e : i = xs.length := by omega
    subst e
    exact .inl ⟨⟨xs, q, Nat.le_refl _⟩, hd σ H p⟩
theorem for_range {lo : Int} {n : Nat} {g : TG} {tb : TS} {D : Ends} {σ : St} {H : Hp} (Pv : Nat → St → Hp → Prop) (h0 : Pv 0 σ H)
    (hs : ∀ i σ H, i < n → Pv i σ H → g (.int (lo + i)) σ H fun σ2 H2 => tb { D with nx := Pv (i + 1), ct := Pv (i + 1), bk := D.nx } σ2 H2) (hd : ∀ σ H, Pv n σ H → D.nx σ H) :
    ∃ W : Nat → Nat → St → Hp → Prop, (∃ m, W 0 m σ H) ∧ ∀ i m σ H, W i m σ H →
      ((Itr lo n).stop i H ∧ D.nx σ H) ∨ ((Itr lo n).go i H ∧ ∃ N : St → Hp → Prop, (∀ σ' H', N σ' H' → ∃ m', m' < m ∧ W (i + 1) m' σ' H') ∧ ∀ x H', (Itr lo n).yld i H x H' → g x σ H' fun σ2 H2 => tb { D with nx := N, ct := N, bk := D.nx } σ2 H2) := by
  refine ⟨fun i m σ H => m = n - i ∧ i ≤ n ∧ Pv i σ H, ⟨n, by simp, Nat.zero_le _, h0⟩, ?_⟩
  rintro i m σ H ⟨rfl, hi, p⟩
  by_cases hlt : i < n
  · refine .inr ⟨hlt, Pv (i + 1), fun σ' H' p' => ⟨n - (i + 1), by omega, rfl, hlt, p'⟩, fun x H' y => ?_⟩
    obtain ⟨e, y⟩ := y
    subst e y
    exact hs i σ _ hlt p
  · have e : i = n := by omega
    subst e
    exact .inl ⟨Nat.le_refl _, hd σ H p⟩
end L2

namespace L2
open PySem PySem.Spec PyProof.Rows

abbrev R2 := V → V → Hp → VK → Prop
/-- a two-place operation on values: f is binaryOp op, inplaceOp op or compareOp op -/
def OpR (X : Cx) (f : Value → Value → Sem Value) (r : R2) : Prop :=
  ∀ (pins : List (Addr × Obj)) (s : Shared) (σ : St) (H : Hp) (x y : V) (v u : Value) (Q : VK), Inv X pins σ H s → RelV x v → RelV y u → r x y H Q →
    wpAny (model X.prog X.w) X.A (f v u) (EP X pins σ Q) X.xe s
/-- a one-place operation -/
def UnR (X : Cx) (f : Value → Sem Value) (r : V → Hp → VK → Prop) : Prop :=
  ∀ (pins : List (Addr × Obj)) (s : Shared) (σ : St) (H : Hp) (x : V) (v : Value) (Q : VK), Inv X pins σ H s → RelV x v → r x H Q →
    wpAny (model X.prog X.w) X.A (f v) (EP X pins σ Q) X.xe s
/-- a call of a value that is known (a builtin, a type) with values -/
def CallR (X : Cx) (f : Value) (r : List V → Hp → VK → Prop) : Prop :=
  ∀ (pins : List (Addr × Obj)) (s : Shared) (σ : St) (H : Hp) (xs : List V) (us : List Value) (Q : VK), Inv X pins σ H s → Vals xs us → r xs H Q →
    wpAny (model X.prog X.w) X.A (call f us) (EP X pins σ Q) X.xe s
/-- a value's truth -/
def TruR (X : Cx) (r : V → Hp → (Bool → Hp → Prop) → Prop) : Prop :=
  ∀ (pins : List (Addr × Obj)) (s : Shared) (σ : St) (H : Hp) (x : V) (v : Value) (Q : Bool → Hp → Prop), Inv X pins σ H s → RelV x v → r x H Q →
    wpAny (model X.prog X.w) X.A (truthy v) (TP X pins σ Q) X.xe s

def tOp (r : R2) (ta tb : TE) : TE := fun σ H Q => ta σ H fun x H1 => tb σ H1 fun y H2 => r x y H2 Q
def tUn (r : V → Hp → VK → Prop) (ta : TE) : TE := fun σ H Q => ta σ H fun x H1 => r x H1 Q
/-- ints in, under C, and a value out -/
def rI (C : Int → Int → Prop) (g : Int → Int → V) : R2 := fun x y H Q => ∃ i j, x = .int i ∧ y = .int j ∧ C i j ∧ Q (g i j) H
def rI0 (g : Int → Int → V) : R2 := fun x y H Q => ∃ i j, x = .int i ∧ y = .int j ∧ Q (g i j) H
def rU (g : Int → V) : V → Hp → VK → Prop := fun x H Q => ∃ i, x = .int i ∧ Q (g i) H

section
variable {X : Cx} {a b c : Expr} {ta tb tc : TE} {pos : Pos}

theorem binT (ha : PE X a ta) (hb : PE X b tb) {pins : List (Addr × Obj)} {s : Shared} {σ : St} {H : Hp} {R : V → V → Hp → Prop} (I : Inv X pins σ H s)
    (h : ta σ H fun x H1 => tb σ H1 fun y H2 => R x y H2) {Q : Value → Shared → Prop} {f : Value → Value → Sem Value}
    (hf : ∀ v u s2 x y H2, Inv X pins σ H2 s2 → RelV x v → RelV y u → R x y H2 → wpAny (model X.prog X.w) X.A (f v u) Q X.xe s2) :
    wpAny (model X.prog X.w) X.A (eval a X.env) (fun v s₁ => wpAny (model X.prog X.w) X.A (eval b X.env) (fun u s₂ => wpAny (model X.prog X.w) X.A (f v u) Q X.xe s₂) X.xe s₁) X.xe s := by
  refine thn (ha pins s σ H _ I h) fun v s1 ⟨x, H1, I1, r1, q1⟩ => ?_
  refine thn (hb pins s1 σ H1 _ I1 q1) fun u s2 ⟨y, H2, I2, r2, q2⟩ => ?_
  exact hf v u s2 x y H2 I2 r1 r2 q2

theorem pe_op {op : Operator} {r : R2} (ho : OpR X (binaryOp op) r) (ha : PE X a ta) (hb : PE X b tb) : PE X (.BinOp a op b pos) (tOp r ta tb) := by
  intro pins s σ H Q I h
  exact wpAny_BinOp (binT ha hb I h fun v u s2 x y H2 I2 rx ry q => ho pins s2 σ H2 x y v u Q I2 rx ry q)
theorem pe_un {op : UnaryOp} {r : V → Hp → VK → Prop} (ho : UnR X (unaryOp op) r) (ha : PE X a ta) : PE X (.UnaryOp op a pos) (tUn r ta) := by
  intro pins s σ H Q I h
  exact UnaryOp_ (thn (ha pins s σ H _ I h) fun v s1 ⟨x, H1, I1, r1, q1⟩ => ho pins s1 σ H1 x v Q I1 r1 q1)
/-! ### ints -/
theorem opI {f : Value → Value → Sem Value} {C : Int → Int → Prop} {g : Int → Int → Int}
    (rule : ∀ (i j : Int) (t u : Tok) (s : Shared) (Q : Value → Shared → Prop) (E : Value → Shared → Prop), C i j → Q (.int (g i j) s.toks) { s with toks := s.toks + 1 } → wpAny (model X.prog X.w) X.A (f (.int i t) (.int j u)) Q E s) :
    OpR X f (rI C fun i j => .int (g i j)) := by
  intro pins s σ H x y v u Q I rx ry h
  obtain ⟨i, j, rfl, rfl, hc, q⟩ := h
  obtain ⟨t, rfl⟩ := rx
  obtain ⟨t', rfl⟩ := ry
  exact rule i j t t' s _ _ hc ⟨.int (g i j), H, I.tok _, ⟨_, rfl⟩, q⟩
theorem opI0 {f : Value → Value → Sem Value} {g : Int → Int → Int}
    (rule : ∀ (i j : Int) (t u : Tok) (s : Shared) (Q : Value → Shared → Prop) (E : Value → Shared → Prop), Q (.int (g i j) s.toks) { s with toks := s.toks + 1 } → wpAny (model X.prog X.w) X.A (f (.int i t) (.int j u)) Q E s) :
    OpR X f (rI0 fun i j => .int (g i j)) := by
  intro pins s σ H x y v u Q I rx ry h
  obtain ⟨i, j, rfl, rfl, q⟩ := h
  obtain ⟨t, rfl⟩ := rx
  obtain ⟨t', rfl⟩ := ry
  exact rule i j t t' s _ _ ⟨.int (g i j), H, I.tok _, ⟨_, rfl⟩, q⟩
theorem opB0 {f : Value → Value → Sem Value} {g : Int → Int → Bool}
    (rule : ∀ (i j : Int) (t u : Tok) (s : Shared) (Q : Value → Shared → Prop) (E : Value → Shared → Prop), Q (.bool (g i j)) s → wpAny (model X.prog X.w) X.A (f (.int i t) (.int j u)) Q E s) :
    OpR X f (rI0 fun i j => .bl (g i j)) := by
  intro pins s σ H x y v u Q I rx ry h
  obtain ⟨i, j, rfl, rfl, q⟩ := h
  obtain ⟨t, rfl⟩ := rx
  obtain ⟨t', rfl⟩ := ry
  exact rule i j t t' s _ _ ⟨.bl (g i j), H, I, rfl, q⟩

def CDiv (i j : Int) : Prop := 0 < j ∧ j < 1073741824
def CDivN (i j : Int) : Prop := j ≠ 0 ∧ j.natAbs < 1073741824
def CPow (i j : Int) : Prop := 0 ≤ j ∧ j ≤ 1000000 ∧ i.natAbs < 2 ^ 64
def CMul (i j : Int) : Prop := (-(2 ^ 64) < i ∧ i < 2 ^ 64) ∨ (-(2 ^ 64) < j ∧ j < 2 ^ 64)
theorem CMul.ok {i j : Int} (h : CMul i j) : IntMulOk i j := by
  rcases h with ⟨h1, h2⟩ | ⟨h1, h2⟩
  · exact .of_left (intBits_le_64 h1 h2)
  · exact .of_right (intBits_le_64 h1 h2)
theorem op_add : OpR X (binaryOp .Add) (rI0 fun i j => .int (i + j)) := opI0 fun _ _ _ _ _ _ _ q => add_int q
theorem op_sub : OpR X (binaryOp .Sub) (rI0 fun i j => .int (i - j)) := opI0 fun _ _ _ _ _ _ _ q => sub_int q
theorem op_mul : OpR X (binaryOp .Mult) (rI CMul fun i j => .int (i * j)) := opI fun _ _ _ _ _ _ _ hc q => mul_int q hc.ok
/-- // by a positive divisor -/
theorem op_fdiv : OpR X (binaryOp .FloorDiv) (rI CDiv fun i j => .int (i / j)) := opI fun i j _ _ _ _ _ hc q => by
  have h1 : (0 : Int) < j := hc.1
  have h2 : j < 1073741824 := hc.2
  exact floordiv_int (by omega) (by rw [Int.fdiv_eq_ediv_of_nonneg i (by omega)]; exact q) (.inl (PyProof.noPylong_small (by omega)))
/-- % by a positive divisor of any size -/
theorem op_mod : OpR X (binaryOp .Mod) (rI (fun _ j => 0 < j) fun i j => .int (i % j)) := opI fun i j _ _ _ _ _ hc q => by
  have h1 : (0 : Int) < j := hc
  exact mod_int' (by omega) (by rw [Int.fmod_eq_emod_of_nonneg i (by omega)]; exact q)
theorem op_pow : OpR X (binaryOp .Pow) (rI CPow fun i j => .int (i ^ j.toNat)) := opI fun _ _ _ _ _ _ _ hc q => pow_int_small hc.1 hc.2.1 hc.2.2 q
theorem unI {f : Value → Sem Value} {g : Int → Int}
    (rule : ∀ (i : Int) (t : Tok) (s : Shared) (Q : Value → Shared → Prop) (E : Value → Shared → Prop), Q (.int (g i) s.toks) { s with toks := s.toks + 1 } → wpAny (model X.prog X.w) X.A (f (.int i t)) Q E s) :
    UnR X f (rU fun i => .int (g i)) := by
  intro pins s σ H x v Q I rx h
  obtain ⟨i, rfl, q⟩ := h
  obtain ⟨t, rfl⟩ := rx
  exact rule i t s _ _ ⟨.int (g i), H, I.tok _, ⟨_, rfl⟩, q⟩
theorem un_neg : UnR X (unaryOp .USub) (rU fun i => .int (-i)) := unI fun _ _ _ _ _ q => neg_int q
/-! ### bools among ints: n += (a < b) -/
end

/-! ### comparisons -/
/-- the scalars that == tells apart as data does -/
def scal : V → V → Bool
  | .non, .non => true | .non, .int _ => true | .int _, .non => true | .non, .bl _ => true | .bl _, .non => true | .non, .str _ => true | .str _, .non => true
  | .int _, .int _ => true | .bl _, .bl _ => true | .str _, .str _ => true | .byt _, .byt _ => true
  | .int _, .str _ => true | .str _, .int _ => true | .bl _, .str _ => true | .str _, .bl _ => true
  | _, _ => false
def rEq : R2 := fun x y H Q => scal x y = true ∧ Q (.bl (decide (x = y))) H
def rNe : R2 := fun x y H Q => scal x y = true ∧ Q (.bl (!decide (x = y))) H

theorem dec_int {i j : Int} : decide (V.int i = V.int j) = (i == j) := by
  rw [Bool.eq_iff_iff]
  simp
theorem dec_bl {i j : Bool} : decide (V.bl i = V.bl j) = (i == j) := by
  rw [Bool.eq_iff_iff]
  simp
theorem dec_str {i j : Str} : decide (V.str i = V.str j) = (i == j) := by
  rw [Bool.eq_iff_iff]
  simp
theorem dec_byt {i j : Array UInt8} : decide (V.byt i = V.byt j) = (i.toList == j.toList) := by
  rw [Bool.eq_iff_iff]
  cases i
  cases j
  simp

section
variable {X : Cx} {a b c : Expr} {ta tb tc : TE} {pos : Pos}
theorem fin_bl {pins : List (Addr × Obj)} {σ : St} {H : Hp} {s : Shared} {Q : VK} {k k' : Bool} (I : Inv X pins σ H s) (q : Q (.bl k) H) (e : k = k') : EP X pins σ Q (.bool k') s := by
  subst e
  exact ⟨.bl k, H, I, rfl, q⟩
theorem op_eq : OpR X (compareOp .Eq) rEq := by
  intro pins s σ H x y v u Q I rx ry h
  obtain ⟨hs, q⟩ := h
  cases x with
  | non =>
    cases rx
    cases y with
    | non => cases ry; exact PySem.EqNone.eq_none_none (fin_bl I q (by simp))
    | bl j => cases ry; exact PySem.EqNone.eq_none_bool (fin_bl I q (by simp))
    | int j => obtain ⟨t', rfl⟩ := ry; exact PySem.EqNone.eq_none_int (fin_bl I q (by simp))
    | str j => obtain ⟨t', rfl⟩ := ry; exact PySem.EqNone.eq_none_str (fin_bl I q (by simp))
    | _ => exact absurd (show false = true from hs) Bool.false_ne_true
  | bl i =>
    cases rx
    cases y with
    | non => cases ry; exact PySem.EqNone.eq_bool_none (fin_bl I q (by simp))
    | bl j => cases ry; exact eq_bool (fin_bl I q dec_bl)
    | str j => obtain ⟨t', rfl⟩ := ry; exact PySem.EqMixed.eq_bool_str (fin_bl I q (by simp))
    | _ => exact absurd (show false = true from hs) Bool.false_ne_true
  | int i =>
    obtain ⟨t, rfl⟩ := rx
    cases y with
    | non => cases ry; exact PySem.EqNone.eq_int_none (fin_bl I q (by simp))
    | int j => obtain ⟨t', rfl⟩ := ry; exact eq_int (fin_bl I q dec_int)
    | str j => obtain ⟨t', rfl⟩ := ry; exact PySem.EqMixed.eq_int_str (fin_bl I q (by simp))
    | _ => exact absurd (show false = true from hs) Bool.false_ne_true
  | str i =>
    obtain ⟨t, rfl⟩ := rx
    cases y with
    | non => cases ry; exact PySem.EqNone.eq_str_none (fin_bl I q (by simp))
    | bl j => cases ry; exact PySem.EqMixed.eq_str_bool (fin_bl I q (by simp))
    | int j => obtain ⟨t', rfl⟩ := ry; exact PySem.EqMixed.eq_str_int (fin_bl I q (by simp))
    | str j => obtain ⟨t', rfl⟩ := ry; exact eq_str (fin_bl I q dec_str)
    | _ => exact absurd (show false = true from hs) Bool.false_ne_true
  | byt i =>
    obtain ⟨t, rfl⟩ := rx
    cases y with
    | byt j => obtain ⟨t', rfl⟩ := ry; exact PySem.W.eq_bytes (fin_bl I q dec_byt)
    | _ => exact absurd (show false = true from hs) Bool.false_ne_true
  | _ => cases y <;> exact absurd (show false = true from hs) Bool.false_ne_true
theorem op_ne : OpR X (compareOp .NotEq) rNe := by
  intro pins s σ H x y v u Q I rx ry h
  obtain ⟨hs, q⟩ := h
  cases x with
  | non =>
    cases rx
    cases y with
    | non => cases ry; exact PySem.EqNone.ne_none_none (fin_bl I q (by simp))
    | bl j => cases ry; exact PySem.EqNone.ne_none_bool (fin_bl I q (by simp))
    | int j => obtain ⟨t', rfl⟩ := ry; exact PySem.EqNone.ne_none_int (fin_bl I q (by simp))
    | str j => obtain ⟨t', rfl⟩ := ry; exact PySem.EqNone.ne_none_str (fin_bl I q (by simp))
    | _ => exact absurd (show false = true from hs) Bool.false_ne_true
  | bl i =>
    cases rx
    cases y with
    | non => cases ry; exact PySem.EqNone.ne_bool_none (fin_bl I q (by simp))
    | bl j => cases ry; exact ne_bool (fin_bl I q (congrArg not dec_bl))
    | str j => obtain ⟨t', rfl⟩ := ry; exact PySem.EqMixed.ne_bool_str (fin_bl I q (by simp))
    | _ => exact absurd (show false = true from hs) Bool.false_ne_true
  | int i =>
    obtain ⟨t, rfl⟩ := rx
    cases y with
    | non => cases ry; exact PySem.EqNone.ne_int_none (fin_bl I q (by simp))
    | int j => obtain ⟨t', rfl⟩ := ry; exact ne_int (fin_bl I q (congrArg not dec_int))
    | str j => obtain ⟨t', rfl⟩ := ry; exact PySem.EqMixed.ne_int_str (fin_bl I q (by simp))
    | _ => exact absurd (show false = true from hs) Bool.false_ne_true
  | str i =>
    obtain ⟨t, rfl⟩ := rx
    cases y with
    | non => cases ry; exact PySem.EqNone.ne_str_none (fin_bl I q (by simp))
    | bl j => cases ry; exact PySem.EqMixed.ne_str_bool (fin_bl I q (by simp))
    | int j => obtain ⟨t', rfl⟩ := ry; exact PySem.EqMixed.ne_str_int (fin_bl I q (by simp))
    | str j => obtain ⟨t', rfl⟩ := ry; exact ne_str (fin_bl I q (congrArg not dec_str))
    | _ => exact absurd (show false = true from hs) Bool.false_ne_true
  | byt i =>
    obtain ⟨t, rfl⟩ := rx
    cases y with
    | byt j => obtain ⟨t', rfl⟩ := ry; exact PySem.W.ne_bytes (fin_bl I q (congrArg not dec_byt))
    | _ => exact absurd (show false = true from hs) Bool.false_ne_true
  | _ => cases y <;> exact absurd (show false = true from hs) Bool.false_ne_true

theorem op_lt : OpR X (compareOp .Lt) (rI0 fun i j => .bl (decide (i < j))) := opB0 fun _ _ _ _ _ _ _ q => lt_int q
theorem op_le : OpR X (compareOp .LtE) (rI0 fun i j => .bl (decide (i ≤ j))) := opB0 fun _ _ _ _ _ _ _ q => le_int q
theorem op_gt : OpR X (compareOp .Gt) (rI0 fun i j => .bl (decide (j < i))) := opB0 fun _ _ _ _ _ _ _ q => gt_int q
theorem op_ge : OpR X (compareOp .GtE) (rI0 fun i j => .bl (decide (j ≤ i))) := opB0 fun _ _ _ _ _ _ _ q => ge_int q
/-- is, is not of two objects that are tracked lists or instances -/
def isObj : HO → Bool
  | .lst _ => true
  | .ins _ _ _ => true
  | _ => false
/-- two rules for one operation: by cases -/
theorem OpR.or {f : Value → Value → Sem Value} {r r' : R2} (h : OpR X f r) (h' : OpR X f r') : OpR X f (fun x y H Q => r x y H Q ∨ r' x y H Q) := by
  intro pins s σ H x y v u Q I rx ry q
  rcases q with q | q
  · exact h pins s σ H x y v u Q I rx ry q
  · exact h' pins s σ H x y v u Q I rx ry q

theorem nomark (b : Expr) {op : CmpOp} (h : op ≠ .In := by decide) (h2 : op ≠ .NotIn := by decide) : behindInMarks op b = false := by
  have e1 : (op == CmpOp.In) = false := by cases op <;> first | rfl | exact absurd rfl h
  have e2 : (op == CmpOp.NotIn) = false := by cases op <;> first | rfl | exact absurd rfl h2
  cases b <;> simp [behindInMarks, e1, e2]
/-- a comparison as a value; hm: nomark b, or (for in, not in) by with_unfolding_all rfl -/
theorem pe_cmpR {op : CmpOp} {r : R2} (ho : OpR X (compareOp op) r) (ha : PE X a ta) (hb : PE X b tb) (hm : behindInMarks op b = false) : PE X (.Compare a [op] [b] pos) (tOp r ta tb) := by
  intro pins s σ H Q I h
  exact wpAny_Compare1 (binT ha hb I h fun v u s2 x y H2 I2 rx ry q => ho pins s2 σ H2 x y v u Q I2 rx ry q) hm
/-- a reading of a value as a test -/
def tTest (t : TE) : TT := fun σ H Q => t σ H fun x H' => ∃ k, x = .bl k ∧ Q k H'
theorem pt_cmpR {op : CmpOp} {r : R2} (ho : OpR X (compareOp op) r) (ha : PE X a ta) (hb : PE X b tb) (hm : behindInMarks op b = false) : PT X (.Compare a [op] [b] pos) (tTest (tOp r ta tb)) := by
  intro pins s σ H Q I h
  refine wpAny_isTrue_Compare1 (thn (ha pins s σ H _ I h) fun v s1 ⟨x, H1, I1, r1, q1⟩ => thn (hb pins s1 σ H1 _ I1 q1) fun u s2 ⟨y, H2, I2, r2, q2⟩ =>
    thn (ho pins s2 σ H2 x y v u _ I2 r1 r2 q2) fun c s3 ⟨z, H3, I3, r3, k, e, q3⟩ => ?_) hm
  subst e
  cases r3
  exact wpAny_truthy_bool ⟨H3, I3, q3⟩
/-- a op1 b op2 c -/
def tChain (r r' : R2) (ta tb tc : TE) : TE := fun σ H Q => ta σ H fun x H1 => tb σ H1 fun y H2 => r x y H2 fun z H3 => ∃ k, z = .bl k ∧
  (if k = true then tc σ H3 fun w' H4 => r' y w' H4 Q else Q (.bl false) H3)
theorem pe_chain {op op' : CmpOp} {r r' : R2} (ho : OpR X (compareOp op) r) (ho' : OpR X (compareOp op') r') (ha : PE X a ta) (hb : PE X b tb) (hc : PE X c tc)
    (hm : lastMarks [op, op'] [b, c] = false := by with_unfolding_all rfl) : PE X (.Compare a [op, op'] [b, c] pos) (tChain r r' ta tb tc) := by
  intro pins s σ H Q I h
  refine Compare_chain (thn (ha pins s σ H _ I h) fun v s1 ⟨x, H1, I1, r1, q1⟩ => chain_link (thn (hb pins s1 σ H1 _ I1 q1) fun u s2 ⟨y, H2, I2, r2, q2⟩ =>
    thn (ho pins s2 σ H2 x y v u _ I2 r1 r2 q2) fun d s3 ⟨z, H3, I3, r3, k, e, q3⟩ => ?_)) hm
  subst e
  cases r3
  refine wpAny_truthy_bool ?_
  cases k with
  | false => exact ite_ff ⟨.bl false, H3, I3, rfl, q3⟩
  | true => exact ite_tt (chain_last (thn (hc pins s3 σ H3 _ I3 q3) fun w' s4 ⟨z', H4, I4, r4, q4⟩ => ho' pins s4 σ H4 y z' u w' Q I4 r2 r4 q4))
theorem pt_chain {op op' : CmpOp} {r r' : R2} (ho : OpR X (compareOp op) r) (ho' : OpR X (compareOp op') r') (ha : PE X a ta) (hb : PE X b tb) (hc : PE X c tc)
    (hm : lastMarks [op, op'] [b, c] = false := by with_unfolding_all rfl) : PT X (.Compare a [op, op'] [b, c] pos) (tTest (tChain r r' ta tb tc)) := by
  intro pins s σ H Q I h
  refine isTrue_chain (thn (ha pins s σ H _ I h) fun v s1 ⟨x, H1, I1, r1, q1⟩ => test_link (thn (hb pins s1 σ H1 _ I1 q1) fun u s2 ⟨y, H2, I2, r2, q2⟩ =>
    thn (ho pins s2 σ H2 x y v u _ I2 r1 r2 q2) fun d s3 ⟨z, H3, I3, r3, k, e, q3⟩ => ?_)) hm
  subst e
  cases r3
  refine wpAny_truthy_bool ?_
  cases k with
  | false =>
    obtain ⟨k', e', q'⟩ := q3
    cases e'
    exact ite_ff ⟨H3, I3, q'⟩
  | true =>
    refine ite_tt (test_last (thn (hc pins s3 σ H3 _ I3 q3) fun w' s4 ⟨z', H4, I4, r4, q4⟩ => thn (ho' pins s4 σ H4 y z' u w' _ I4 r2 r4 q4) fun d' s5 ⟨z2, H5, I5, r5, k2, e2, q5⟩ => ?_))
    subst e2
    cases r5
    exact wpAny_truthy_bool ⟨H5, I5, q5⟩

/-! ### truth -/
/-- a value's truth by the abstract heap -/
def TruV (K : PySem.W.Frag) (x : V) (H : Hp) (k : Bool) : Prop :=
  match x with
  | .non => k = false
  | .bl b => k = b
  | .int i => k = (i != 0)
  | .str y => y.length ≤ sizeLine ∧ k = ((y.length : Int) != 0)
  | .byt y => y.size ≤ sizeLine ∧ k = ((y.size : Int) != 0)
  | .ref p => (∃ xs, SqL K H p xs ∧ k = !xs.isEmpty) ∨ (∃ xs, SqT K H p xs ∧ k = !xs.isEmpty) ∨ ∃ kvs, H p = some (.dK kvs) ∧ k = !kvs.isEmpty
  | _ => False
theorem isEmpty_kv {κ : Type} {kvs : List (κ × V)} {vs : List (κ × Value)} (r : KV kvs vs) : (!vs.isEmpty) = !kvs.isEmpty := by
  cases r <;> rfl
theorem isEmpty_of {xs : List V} {its : List Value} (r : Vals xs its) : (!its.toArray.isEmpty) = !xs.isEmpty := by
  cases r <;> simp
theorem line63 : (sizeLine : Nat) < 2 ^ 63 := by rw [sizeLine_eq]; decide
theorem tru_ok : TruR X (fun x H Q => ∃ k, TruV X.K x H k ∧ Q k H) := by
  intro pins s σ H x v Q I rx h
  obtain ⟨k, e, q⟩ := h
  have hl := line63
  have hs : sizeLine = 16777216 := sizeLine_eq
  cases x with
  | non =>
    cases rx
    have e' : k = false := e
    subst e'
    exact truthy_none ⟨H, I, q⟩
  | bl b =>
    cases rx
    have e' : k = b := e
    subst e'
    exact wpAny_truthy_bool ⟨H, I, q⟩
  | int i =>
    obtain ⟨t, rfl⟩ := rx
    have e' : k = (i != 0) := e
    subst e'
    exact PySem.P.truthy_int ⟨H, I, q⟩
  | str y =>
    obtain ⟨t, rfl⟩ := rx
    obtain ⟨hy, e'⟩ : y.length ≤ sizeLine ∧ k = ((y.length : Int) != 0) := e
    subst e'
    exact PySem.P.truthy_str (by omega) ⟨H, I.tok _, q⟩
  | byt y =>
    obtain ⟨t, rfl⟩ := rx
    obtain ⟨hy, e'⟩ : y.size ≤ sizeLine ∧ k = ((y.size : Int) != 0) := e
    subst e'
    exact PySem.W.truthy_bytes (by omega) ⟨H, I.tok _, q⟩
  | ref p =>
    cases rx
    have e' : (∃ xs, SqL X.K H p xs ∧ k = !xs.isEmpty) ∨ (∃ xs, SqT X.K H p xs ∧ k = !xs.isEmpty) ∨ ∃ kvs, H p = some (.dK kvs) ∧ k = !kvs.isEmpty := e
    rcases e' with ⟨xs, hx, e'⟩ | ⟨xs, hx, e'⟩ | ⟨kvs, hx, e'⟩
    · subst e'
      obtain ⟨its, r, pl, hz⟩ := I.list hx
      have hlen := r.length
      exact wpAny_truthy_list pl.isList (by simp only [List.size_toArray]; omega) ⟨H, I.tok _, by rw [isEmpty_of r]; exact q⟩
    · subst e'
      obtain ⟨its, r, pl, hz⟩ := I.tuple hx
      have hlen := r.length
      exact truthy_tuple pl (by simp only [List.size_toArray]; omega) ⟨H, I.tok _, by rw [isEmpty_of r]; exact q⟩
    · subst e'
      obtain ⟨hz, hS, vs, r, m⟩ : kvs.length ≤ sizeLine ∧ (p == sysModules) = false ∧ ∃ vs, KV kvs vs ∧ s.heap.DictOf (mixKind X.prog X.w) p vs := I.hok p _ hx
      have hlen : kvs.length = vs.length := Paired.length r
      exact wpAny_truthy_dict hS m (by omega) ⟨H, I.tok _, by rw [isEmpty_kv r]; exact q⟩
  | _ => exact (show False from e).elim
/-- any expression whose test is its value's truth (a name, a call, a subscript, a field ..: he by fun _ => rfl) -/
theorem pt_truth (ha : PE X a ta) (he : ∀ whole, isTrue a X.env whole = (do let v ← whole; standAt a.pos; holding [v] (truthy v))) :
    PT X a (fun σ H Q => ta σ H fun x H' => ∃ k, TruV X.K x H' k ∧ Q k H') := by
  intro pins s σ H Q I h
  exact isTrue_plain (thn (ha pins s σ H _ I h) fun v s1 ⟨x, H1, I1, r1, q1⟩ => tru_ok pins s1 σ H1 x v Q I1 r1 q1) (he _)

/-! ### strs and bytes -/
theorem op_add_str : OpR X (binaryOp .Add) (fun x y H Q => ∃ i j, x = .str i ∧ y = .str j ∧ i.length + j.length ≤ sizeLine ∧ Q (.str (i ++ j)) H) := by
  intro pins s σ H x y v u Q I rx ry h
  obtain ⟨i, j, rfl, rfl, hz, q⟩ := h
  obtain ⟨t, rfl⟩ := rx
  obtain ⟨t', rfl⟩ := ry
  exact add_str (fun t' tk => ⟨.str (i ++ j), H, I.tok _, ⟨_, rfl⟩, q⟩) hz
def PlainIxT (b : Expr) : Prop := ∀ o i, subscripted b false o i = operate [o, i] (getItem o i)
/-! ### scalar builtins, by CallR -/
theorem vals1 {x : V} {us : List Value} (r : Vals [x] us) : ∃ u, us = [u] ∧ RelV x u := by
  cases r with
  | cons r1 r2 => cases r2; exact ⟨_, rfl, r1⟩
theorem call_int1 : CallR X (.type "int") (fun xs H Q => (∃ i, xs = [.int i] ∧ Q (.int i) H) ∨ ∃ k, xs = [.bl k] ∧ Q (.int (if k then 1 else 0)) H) := by
  intro pins s σ H xs us Q I r h
  rcases h with ⟨i, rfl, q⟩ | ⟨k, rfl, q⟩
  · obtain ⟨u, rfl, t, rfl⟩ := vals1 r
    exact call_int_int ⟨.int i, H, I, ⟨_, rfl⟩, q⟩
  · obtain ⟨u, rfl, r1⟩ := vals1 r
    cases r1
    exact call_int_bool ⟨.int (if k then 1 else 0), H, I.tok _, ⟨_, rfl⟩, q⟩
/-- len of a str, a bytes, a list, a tuple -/
def LenV (K : PySem.W.Frag) (x : V) (H : Hp) (n : Nat) : Prop :=
  match x with
  | .str y => y.length ≤ sizeLine ∧ n = y.length
  | .byt y => y.size ≤ sizeLine ∧ n = y.size
  | .ref p => (∃ xs, SqL K H p xs ∧ n = xs.length) ∨ ∃ xs, SqT K H p xs ∧ n = xs.length
  | _ => False
end
end L2

namespace L2
open PySem PySem.Spec PyProof.Rows

/-! ### an instance, its attributes a map -/
structure ObjM (h : Heap) (x dx C : Addr) (mA : Str → Option Value) : Prop where
  obj : h.get? x = some (PySem.W.instObj C dx)
  ns : h.Ns1 dx mA
  ne : dx ≠ x

theorem lookIn_ns {h : Heap} {dx : Addr} {mA : Str → Option Value} (n : h.Ns1 dx mA) : ∃ od, h.get? dx = some od ∧ ∀ name, PySem.W.lookIn name od = some (mA name) := by
  obtain ⟨o, es, ep, ho, hd, hk, _, hm⟩ := n
  refine ⟨o, ho, fun name => ?_⟩
  have e := hm name
  unfold nsFind findBy at e
  rw [← Array.find?_toList] at e
  unfold PySem.W.lookIn
  rw [hd]
  dsimp only
  split
  · rename_i y q
    rw [q] at e
    exact congrArg some e
  · rename_i q
    rw [q] at e
    have a : es.toList.any (·.refKey) = false := by
      rw [List.any_eq_false]
      intro y hy
      obtain ⟨z, t, hkey⟩ := hk y (Array.mem_toList_iff.mp hy)
      simp [DictEntry.refKey, hkey]
    have a' : ¬ es.toList.any (·.refKey) = true := by rw [a]; exact Bool.false_ne_true
    rw [if_neg a']
    exact congrArg some e

theorem ObjM.look {h : Heap} {x dx C : Addr} {mA : Str → Option Value} (I : ObjM h x dx C mA) : ∃ od, PySem.W.InstAt h x (PySem.W.instObj C dx) C (some od) ∧ ∀ name, PySem.W.lookIn name od = some (mA name) :=
  let ⟨od, ho, hl⟩ := lookIn_ns I.ns
  ⟨od, ⟨I.obj, rfl, rfl, ho⟩, hl⟩

section
variable {prog : Program} {w : World} {A : Around} {E : Value → Shared → Prop} {s : Shared} {K : PySem.W.Frag} {x dx C f : Addr} {mA : Str → Option Value} {name : Str} {v : Value}

end

/-! ### the attributes as a list of pairs -/
def putF (f : Str) (v : V) : List (Str × V) → List (Str × V)
  | [] => [(f, v)]
  | (g, x) :: r => if g = f then (g, v) :: r else (g, x) :: putF f v r
theorem RelO.some_of {v : V} {o : Option Value} (r : RelO (some v) o) : ∃ u, o = some u ∧ RelV v u := by
  cases o with
  | none => exact (show False from r).elim
  | some u => exact ⟨u, rfl, r⟩
section
variable {P : Program} {w : World} {H H' : Hp} {h h' : Heap} {a C dx : Addr} {fs fs' : List (Str × V)}
theorem ins_get (hok : HOk P w H h) (e : H a = some (.ins C dx fs)) : ∃ mA, ObjM h a dx C mA ∧ (∀ f, RelO (fs.lookup f) (mA f)) ∧ PySem.Within mA (fs.map (·.1)) ∧ fs.length ≤ 1000 ∧ H dx = some (.own a) := by
  obtain ⟨d, z, ne, ob, mA, n, r, q⟩ := (show ObjOk P w H h a (.ins C dx fs) from hok a _ e)
  exact ⟨mA, ⟨ob, n, ne⟩, r, q, z, d⟩
end

/-! ### what of the text a class must have -/
structure Cls (K : PySem.W.Frag) (C : Addr) : Prop where
  pg : PySem.W.plainGet K C Str.empty = true
  hd : PySem.W.hasDictIn K C = true
  po : PySem.W.plainOver K C = true
  sa : PySem.W.findIn K (.ref C) "__setattr__" = some (some (.builtin "object.__setattr__"))
theorem Cls.get {K : PySem.W.Frag} {C : Addr} (c : Cls K C) (f : Str) : PySem.W.plainGet K C f = true := c.pg
/-- no class of it has the name -/
def NoAttr (K : PySem.W.Frag) (C : Addr) (f : Str) : Prop := PySem.W.findIn K (.ref C) f = some none
/-- a constant of the class -/
structure Con (K : PySem.W.Frag) (C : Addr) (f : Str) (v : V) (u : Value) : Prop where
  at_ : PySem.W.findIn K (.ref C) f = some (some u)
  rel : RelV v u
  get : PySem.W.specialIn K u "__get__" = some none
  cp : PySem.W.copiedNames.contains f = false
/-- a method: a plain def of the class or of one above it -/
structure Meth (K : PySem.W.Frag) (C : Addr) (m : Str) (f : Addr) : Prop where
  at_ : PySem.W.findIn K (.ref C) m = some (some (.ref f))
  fn : PySem.W.isFn K (.ref f) = true
  kp : PySem.W.keepIn K (.ref f) = true

section
variable {X : Cx} {pins : List (Addr × Obj)} {σ : St} {H : Hp} {s : Shared} {a C dx : Addr} {fs : List (Str × V)} {f : Str} {v : V} {A : Around} {E : Value → Shared → Prop}

/-- a new instance, tracked, without attributes -/
theorem Inv.made (I : Inv X pins σ H s) : Inv X pins σ (upd (upd H s.heap.objs.size (.own (s.heap.objs.size + 1))) (s.heap.objs.size + 1) (.ins C s.heap.objs.size []))
    { s with heap := (s.heap.push PySem.W.emptyDict).push (PySem.W.instObj C s.heap.objs.size) } := by
  have e1 : (s.heap.push PySem.W.emptyDict).get? s.heap.objs.size = some PySem.W.emptyDict := Heap.get?_push_size s.heap rfl
  have e2 : ((s.heap.push PySem.W.emptyDict).push (PySem.W.instObj C s.heap.objs.size)).get? (s.heap.objs.size + 1) = some (PySem.W.instObj C s.heap.objs.size) := by
    have := Heap.get?_push_size (s.heap.push PySem.W.emptyDict) (o := PySem.W.instObj C s.heap.objs.size) rfl
    rwa [Heap.size_push] at this
  have e3 : (s.heap.push PySem.W.emptyDict).Ns s.heap.objs.size (fun _ => none) := ⟨PySem.W.emptyDict, #[], _, e1, rfl, (fun e he => absurd he (by simp)), fun _ => rfl⟩
  have I1 := I.laid (a := s.heap.objs.size) (o := .own (s.heap.objs.size + 1)) (h' := s.heap.push PySem.W.emptyDict) (t' := s.toks) (fun b u q => Heap.get?_push_of_some _ q) (Nat.le_refl _) ⟨_, e1⟩
  refine I1.laid (a := s.heap.objs.size + 1) (o := .ins C s.heap.objs.size []) (t' := s.toks) (fun b u q => Heap.get?_push_of_some _ q) (Nat.le_of_eq (Heap.size_push _ _)) ?_
  have ne : s.heap.objs.size ≠ s.heap.objs.size + 1 := Nat.ne_of_lt (Nat.lt_succ_self _)
  refine ⟨by rw [upd_ne ne, upd_same], Nat.zero_le _, ne, e2, fun _ => none, (Heap.Ns1.of_empty e3).at fun o q => Heap.get?_push_of_some _ q, fun _ => True.intro, fun y hy => absurd rfl hy⟩

end

/-! ### readings and rules -/
/-- e.f, an attribute of the instance -/
def tFld (K : PySem.W.Frag) (ta : TE) (f : Str) : TE := fun σ H Q => ta σ H fun x H1 => ∃ a C dx fs v, x = .ref a ∧ H1 a = some (.ins C dx fs) ∧ Cls K C ∧ NoAttr K C f ∧ fs.lookup f = some v ∧ Q v H1
/-- e.f, a constant of the class -/
def tCon (K : PySem.W.Frag) (ta : TE) (f : Str) : TE := fun σ H Q => ta σ H fun x H1 => ∃ a C dx fs v u, x = .ref a ∧ H1 a = some (.ins C dx fs) ∧ Cls K C ∧ Con K C f v u ∧ fs.lookup f = none ∧ Q v H1
/-- e.f = value -/
def sFld (K : PySem.W.Frag) (ta tv : TE) (f : Str) : TS := fun D σ H => tv σ H fun y H1 => ta σ H1 fun x H2 => ∃ a C dx fs, x = .ref a ∧ H2 a = some (.ins C dx fs) ∧ Cls K C ∧ NoAttr K C f ∧ fs.length < 1000 ∧
  D.nx σ (upd H2 a (.ins C dx (putF f y fs)))
/-- an augmented operator on two values -/
def InOp (X : Cx) (op : Operator) (rd : V → V → Hp → VK → Prop) : Prop :=
  ∀ (pins : List (Addr × Obj)) (s : Shared) (σ : St) (H : Hp) (x y : V) (u v : Value) (Q : VK), Inv X pins σ H s → RelV x u → RelV y v → rd x y H Q → wpAny (model X.prog X.w) X.A (inplaceOp op u v) (EP X pins σ Q) X.xe s
/-- e.f op= value -/
def sFldAug (K : PySem.W.Frag) (ta tv : TE) (rd : V → V → Hp → VK → Prop) (f : Str) : TS := fun D σ H => ta σ H fun x H1 => ∃ a C dx fs v, x = .ref a ∧ H1 a = some (.ins C dx fs) ∧ Cls K C ∧ NoAttr K C f ∧ fs.lookup f = some v ∧
  tv σ H1 fun y H2 => rd v y H2 fun z H3 => ∃ dx' fs', H3 a = some (.ins C dx' fs') ∧ fs'.length < 1000 ∧ D.nx σ (upd H3 a (.ins C dx' (putF f z fs')))

section
variable {X : Cx} {o e value : Expr} {f : Str} {pos pos' tpos : Pos} {ta tv : TE}
def rAdd : V → V → Hp → VK → Prop := fun x y H Q => ∃ i j, x = .int i ∧ y = .int j ∧ Q (.int (i + j)) H
def rSub : V → V → Hp → VK → Prop := fun x y H Q => ∃ i j, x = .int i ∧ y = .int j ∧ Q (.int (i - j)) H
end

/-! ### isinstance -/
section
variable {X : Cx} {pins : List (Addr × Obj)} {σ : St} {H : Hp} {s : Shared} {A : Around} {E : Value → Shared → Prop} {Q : Value → Shared → Prop} {c : Value} {b : Bool}
/-- the type of a value, as the fragment's deciders take it; for an instance its class -/
inductive TyOf (K : PySem.W.Frag) (H : Hp) : V → Value → Prop where
  | non : TyOf K H .non (.type "NoneType")
  | bl (x : Bool) : TyOf K H (.bl x) (.type "bool")
  | int (i : Int) : TyOf K H (.int i) (.type "int")
  | str (x : Str) : TyOf K H (.str x) (.type "str")
  | flt (x : UInt64) : TyOf K H (.flt x) (.type "float")
  | lst {a : Addr} {xs : List V} (e : H a = some (.lst xs)) : TyOf K H (.ref a) (.type "list")
  | frz {a : Addr} {o : Obj} {xs : List V} (e : H a = some (.frz o (.lst xs))) : TyOf K H (.ref a) (.type "list")
  | tup {a : Addr} {xs : List V} (e : H a = some (.tup xs)) : TyOf K H (.ref a) (.type "tuple")
  | dK {a : Addr} {kvs : List (Key × V)} (e : H a = some (.dK kvs)) : TyOf K H (.ref a) (.type "dict")
  | dT {a : Addr} {kvs : List (List Key × V)} (e : H a = some (.dT kvs)) : TyOf K H (.ref a) (.type "dict")
  | ins {a C dx : Addr} {fs : List (Str × V)} (e : H a = some (.ins C dx fs)) (cl : Cls K C) (ha : PySem.W.findIn K (.ref C) "__class__" = some (some (.builtin "object.__class__")))
      (hn : PySem.W.specialIn K (.builtin "object.__class__") "__get__" = some (some (.builtin "getset_descriptor.__get__"))) (htk : PySem.W.takesIn K (.builtin "object.__class__") = some true)
      (hm : PySem.W.mroIn K C (.type "object") = some true) : TyOf K H (.ref a) (.ref C)
/-- isinstance(x, c) for one class c, a built-in or an own one: kitOne's answer -/
theorem isinst_ok {x : V} {u t : Value} (I : Inv X pins σ H s) (rx : RelV x u) (ty : TyOf X.K H x t) (e : PySem.W.kitOne X.K t c = some b) (h : ∀ tk, Q (.bool b) { s with toks := tk }) :
    wpAny (model X.prog X.w) A (call (.builtin "isinstance") [u, c]) Q E s := by
  cases ty with
  | non => cases (show u = Value.none from rx); exact PySem.W.kia_one PySem.W.kitx_none I.kIn True.intro e (fun z => nomatch z) h
  | bl y => cases (show u = Value.bool y from rx); exact PySem.W.kia_one PySem.W.kitx_bool I.kIn True.intro e (fun z => nomatch z) h
  | int i => obtain ⟨t, q⟩ := (show ∃ t, u = Value.int i t from rx); cases q; exact PySem.W.kia_one PySem.W.kitx_int I.kIn True.intro e (fun z => nomatch z) h
  | str y => obtain ⟨t, q⟩ := (show ∃ t, u = Value.str y t from rx); cases q; exact PySem.W.kia_one PySem.W.kitx_str I.kIn True.intro e (fun z => nomatch z) h
  | flt y => obtain ⟨t, q⟩ := (show ∃ t, u = Value.float y t from rx); cases q; exact PySem.W.kia_one PySem.W.kitx_float I.kIn True.intro e (fun z => nomatch z) h
  | @lst a xs ea =>
    cases (show u = Value.ref a from rx)
    obtain ⟨_, _, n, _, h1⟩ := (show ObjOk X.prog X.w H s.heap a (.lst xs) from I.hok a _ ea)
    exact PySem.W.kia_one PySem.W.kitx_list I.kIn ⟨_, h1, rfl⟩ e (fun z => nomatch z) h
  | @frz a ob xs ea =>
    cases (show u = Value.ref a from rx)
    obtain ⟨_, _, _, n, _, h1⟩ := (show ObjOk X.prog X.w H s.heap a (.frz ob (.lst xs)) from I.hok a _ ea)
    exact PySem.W.kia_one PySem.W.kitx_list I.kIn ⟨_, h1, rfl⟩ e (fun z => nomatch z) h
  | @tup a xs ea =>
    cases (show u = Value.ref a from rx)
    obtain ⟨_, _, _, p⟩ := (show ObjOk X.prog X.w H s.heap a (.tup xs) from I.hok a _ ea)
    obtain ⟨o, h1, h2, _⟩ := p
    exact PySem.W.kia_one PySem.W.kitx_tuple I.kIn ⟨o, h1, h2⟩ e (fun z => nomatch z) h
  | @dK a kvs ea =>
    cases (show u = Value.ref a from rx)
    obtain ⟨_, _, vs, _, p⟩ := (show ObjOk X.prog X.w H s.heap a (.dK kvs) from I.hok a _ ea)
    obtain ⟨o, es, ep, h1, h2, _⟩ := p
    exact PySem.W.kia_one PySem.W.kitx_dict I.kIn ⟨o, h1, h2.1⟩ e (fun z => nomatch z) h
  | @dT a kvs ea =>
    cases (show u = Value.ref a from rx)
    obtain ⟨_, _, xs, _, o, es, ep, h1, h2, _⟩ := (show ObjOk X.prog X.w H s.heap a (.dT kvs) from I.hok a _ ea)
    exact PySem.W.kia_one PySem.W.kitx_dict I.kIn ⟨o, h1, h2.1⟩ e (fun z => nomatch z) h
  | @ins a C dx fs ea cl ha hn htk hm =>
    cases (show u = Value.ref a from rx)
    obtain ⟨mA, O, _⟩ := ins_get I.hok ea
    obtain ⟨od, J, _⟩ := O.look
    exact PySem.W.kia_one (PySem.W.kitx_own (cl.get _) cl.hd ha hn htk hm) I.kIn J e (fun z => nomatch z) h
end
end L2

namespace L2
open PySem PySem.Spec PyProof.Rows

/-! ### room -/
structure Room (k : Nat) (A : Around) : Prop where
  hd : A.handled = none
  dp : A.depth + 3 * k + 5 < recursionLimit
  un : A.units + 16 * k + 200 < cLine
theorem Room.mono {j k : Nat} {A : Around} (r : Room k A) (h : j ≤ k) : Room j A := ⟨r.hd, by have := r.dp; omega, by have := r.un; omega⟩
theorem Room.deeper {k : Nat} {A : Around} (r : Room (k + 1) A) (env : Env) : Room k (A.deeper env) :=
  ⟨r.hd, by have := r.dp; show A.depth + 1 + 3 * k + 5 < _; omega, by have := r.un; show A.units + 3 + 16 * k + 200 < _; omega⟩
theorem Room.in1 {k : Nat} {A : Around} (r : Room (k + 1) A) : Room k A.in1 :=
  ⟨r.hd, by have := r.dp; show A.depth + 3 * k + 5 < _; omega, by have := r.un; show A.units + 1 + 16 * k + 200 < _; omega⟩
theorem Room.depth {k : Nat} {A : Around} (r : Room k A) : A.depth < recursionLimit := by have := r.dp; omega
theorem Room.units {k : Nat} {A : Around} (r : Room k A) : A.units + 64 < cLine := by have := r.un; omega
/-! ### argument lists and displays -/
def tNil : TA := fun _ H Q => Q [] H
def tCons (ta : TE) (tr : TA) : TA := fun σ H Q => ta σ H fun x H1 => tr σ H1 fun xs H2 => Q (x :: xs) H2
section
variable {X : Cx} {e : Expr} {es : List Expr} {te : TE} {t : TA} {pos : Pos}
theorem pa_nil : PA X [] tNil := fun _ _ _ _ H Q I h => Calls.spliced_nil ⟨[], H, I, .nil, h⟩
theorem pa_cons (ha : PE X e te) (hr : PA X es t) (hs : starEach (e :: es) X.env = (false, eval e X.env) :: starEach es X.env := by rfl) : PA X (e :: es) (tCons te t) := by
  intro pos pins s σ H Q I h
  rw [hs]
  show wpAny _ _ (spliced ((false, eval e X.env) :: backTo pos (starEach es X.env))) _ _ s
  refine Calls.spliced_cons (thn (ha pins s σ H _ I h) fun u s1 ⟨x, H1, I1, r1, q1⟩ => ?_)
  exact thn (hr pos pins s1 σ H1 _ I1 q1) fun us s2 ⟨xs, H2, I2, r2, q2⟩ => ⟨x :: xs, H2, I2, .cons r1 r2, q2⟩

/-- a tuple, a list of written items -/
def tTup (t : TA) : TE := fun σ H Q => t σ H fun xs H1 => xs.length ≤ sizeLine ∧ ∀ p, H1 p = none → Q (.ref p) (upd H1 p (.tup xs))
def tLst (t : TA) : TE := fun σ H Q => t σ H fun xs H1 => xs.length ≤ sizeLine ∧ ∀ p, H1 p = none → Q (.ref p) (upd H1 p (.lst xs))
theorem pe_tup {x1} (h : PA X es t) : PE X (.Tuple es x1 pos) (tTup t) := by
  intro pins s σ H Q I hq
  refine wpAny_Tuple_spliced (thn (h pos pins s σ H _ I hq) fun us s1 ⟨xs, H1, I1, r, z, q⟩ => ⟨by rw [← r.length]; exact z, ?_⟩)
  have hf : H1 s1.heap.objs.size = none := I1.hok.fresh (Nat.le_refl _)
  refine ⟨.ref s1.heap.objs.size, upd H1 s1.heap.objs.size (.tup xs), I1.laid (t' := s1.toks) (fun b u e => Heap.get?_push_of_some _ e) (Nat.le_refl _) ?_, rfl, q _ hf⟩
  exact ⟨z, us, r, ⟨_, Heap.get?_push_size _ rfl, rfl, _, rfl⟩⟩
theorem pe_lst (h : PA X es t) : PE X (.List es pos) (tLst t) := by
  intro pins s σ H Q I hq
  refine wpAny_List_spliced (thn (h pos pins s σ H _ I hq) fun us s1 ⟨xs, H1, I1, r, z, q⟩ => ⟨by rw [← r.length]; exact z, ?_⟩)
  have hf : H1 s1.heap.objs.size = none := I1.hok.fresh (Nat.le_refl _)
  refine ⟨.ref s1.heap.objs.size, upd H1 s1.heap.objs.size (.lst xs), I1.laid (t' := s1.toks) (fun b u e => Heap.get?_push_of_some _ e) (Nat.le_refl _) ?_, rfl, q _ hf⟩
  exact ⟨z, us, 0, r, Heap.get?_push_size _ rfl⟩
end

/-! ### what a def promises -/
/-- a def's promise: the bound arguments in the parameters' order, the heap, the wanted end, the wanted exception -/
abbrev Sp := List V → Hp → VK → XK → Prop
/-- how an exception lies behind a call (file 08 gives it): the callers' frames, abstract heap and state ahead of the call, the wish, the exception, the state -/
abbrev CXT := List Env → Hp → Shared → XK → Value → Shared → Prop

/-- the state at a call -/
structure Env0 (P : Program) (w : World) (K : PySem.W.Frag) (mg : Str → Option Value) (base : Heap) (A : Around) (outer : List Env) (s : Shared) (H : Hp) : Prop where
  frames : A.frames = some outer
  mod : Mod K mg base
  bs : ∀ b o, base.get? b = some o → s.heap.get? b = some o ∧ H b = none
  bsz : base.objs.size ≤ s.heap.objs.size
  funs : s.heap.FunFrames base outer
  frf : ∀ b ∈ frs outer, H b = none
  hok : HOk P w H s.heap
  bare : AllBare s.gens
/-- a call's end -/
def CE (outer : List Env) (P : Program) (w : World) (H : Hp) (s : Shared) (Q : VK) (u : Value) (s' : Shared) : Prop :=
  ∃ v H', s'.os = s.os ∧ AllBare s'.gens ∧ Un (frs outer) [] H H' s.heap s'.heap ∧ HOk P w H' s'.heap ∧ RelV v u ∧ Q v H'
def CR (CX : CXT) (outer : List Env) (P : Program) (w : World) (H : Hp) (s : Shared) (Q : VK) (E : XK) (r : Result) (s' : Shared) : Prop :=
  match r with
  | .ok (.ret u) => CE outer P w H s Q u s'
  | .ok _ => False
  | .error e => CX outer H s E e s'
structure FnOk (P : Program) (w : World) (K : PySem.W.Frag) (mg : Str → Option Value) (base : Heap) (CX : CXT) (k : Nat) (f : Addr) (fd : FuncData) (ps : List Str) (sp : Sp) : Prop where
  len : ∀ vs H Q E, sp vs H Q E → vs.length = ps.length
  run : ∀ (A : Around) (outer : List Env) (s : Shared) (H : Hp) (args : Args) (us : List Value) (vs : List V) (Q : VK) (E : XK), Room k A → Env0 P w K mg base A outer s H → BindsTo s fd args (ps.zip us) → Vals vs us → sp vs H Q E →
    codeAny (model P w) A (.call (.ref f) args) (CR CX outer P w H s Q E) s
theorem FnOk.mono {P : Program} {w : World} {K : PySem.W.Frag} {mg : Str → Option Value} {base : Heap} {CX : CXT} {j k : Nat} {f : Addr} {fd : FuncData} {ps : List Str} {sp : Sp} (F : FnOk P w K mg base CX j f fd ps sp) (h : j ≤ k) :
    FnOk P w K mg base CX k f fd ps sp := ⟨F.len, fun A outer s H args us vs Q E hr => F.run A outer s H args us vs Q E (hr.mono h)⟩
/-- a weaker promise -/
theorem FnOk.imp {P : Program} {w : World} {K : PySem.W.Frag} {mg : Str → Option Value} {base : Heap} {CX : CXT} {k : Nat} {f : Addr} {fd : FuncData} {ps : List Str} {sp sp' : Sp} (F : FnOk P w K mg base CX k f fd ps sp)
    (h : ∀ vs H Q E, sp' vs H Q E → sp vs H Q E) : FnOk P w K mg base CX k f fd ps sp' :=
  ⟨fun vs H Q E q => F.len vs H Q E (h _ _ _ _ q), fun A outer s H args us vs Q E hr he hb hv hs => F.run A outer s H args us vs Q E hr he hb hv (h _ _ _ _ hs)⟩

theorem Env0.in1 {P : Program} {w : World} {K : PySem.W.Frag} {mg : Str → Option Value} {base : Heap} {A : Around} {outer : List Env} {s : Shared} {H : Hp} (e : Env0 P w K mg base A outer s H) :
    Env0 P w K mg base A.in1 outer s H := ⟨e.frames, e.mod, e.bs, e.bsz, e.funs, e.frf, e.hok, e.bare⟩

section
variable {X : Cx} {pins : List (Addr × Obj)} {σ : St} {H : Hp} {s s' : Shared}
/-- from a body: what a callee wants -/
theorem Inv.env0 (I : Inv X pins σ H s) : Env0 X.prog X.w X.K X.mg X.base X.A X.stack s H :=
  ⟨I.ok.frames, I.ok.mod, I.bs, Nat.le_trans I.ok.bsz I.sz, I.stack, I.stkFree, I.hok, I.bare⟩
/-- behind a call -/
theorem Inv.after {Q : VK} {u : Value} (I : Inv X pins σ H s) (h : CE X.stack X.prog X.w H s Q u s') : EP X pins σ Q u s' := by
  obtain ⟨v, H', os, bare, un, hok, r, q⟩ := h
  obtain ⟨hh, g, d, t, os'⟩ := s'
  obtain rfl : os' = s.os := os
  exact ⟨v, H', I.call (h' := hh) (g' := g) (d' := d) (t' := t) (ch := []) un hok bare (fun b z => absurd z (by simp)), r, q⟩
end

/-! ### calls -/
/-- f(..): the written arguments, then the defaults dvs; E: what is wanted of an exception -/
def tCall (sp : Sp) (dvs : List V) (E : XK) (t : TA) : TE := fun σ H Q => t σ H fun vs H1 => sp (vs ++ dvs) H1 Q E
/-- o.m(..) of an instance of the class at C -/
def tMeth (C : Addr) (m : Str) (sp : Sp) (dvs : List V) (E : XK) (ta : TE) (t : TA) : TE := fun σ H Q => ta σ H fun x H1 => ∃ a dx fs, x = .ref a ∧ H1 a = some (.ins C dx fs) ∧ fs.lookup m = none ∧
  t σ H1 fun vs H2 => sp (x :: (vs ++ dvs)) H2 Q E
/-- C(..): a new instance and its dict, then __init__ -/
def tMake (C : Addr) (sp : Sp) (dvs : List V) (E : XK) (t : TA) : TE := fun σ H Q => t σ H fun vs H1 => ∀ x dx, H1 x = none → H1 dx = none → dx ≠ x →
  sp (.ref x :: (vs ++ dvs)) (upd (upd H1 dx (.own x)) x (.ins C dx [])) (fun v H2 => v = .non ∧ Q (.ref x) H2) E

/-- how the parameters are bound: us the positional arguments, kw the keywords' values by name, ds the defaults that fill up -/
def Binds (K : PySem.W.Frag) (fd : FuncData) (ps : List Str) (ds : List Value) : Prop :=
  ∀ (s : Shared) (us : List Value), K.In s.heap → (us ++ ds).length = ps.length → BindsTo s fd ⟨us, []⟩ (ps.zip (us ++ ds))
/-- every parameter is given -/
theorem Binds.all {K : PySem.W.Frag} {fd : FuncData} {ps : List Str} (h : ∀ us : List Value, us.length = ps.length → bindArgs fd ⟨us, []⟩ = pure (ps.zip us)) : Binds K fd ps [] := fun s us _ hl => by
  rw [List.append_nil] at hl ⊢
  exact .of_eq (h us hl)

/-- an exception of a callee reaches what this body wants of exceptions -/
def Passes (CX : CXT) (X : Cx) (E : XK) : Prop := ∀ (pins : List (Addr × Obj)) (σ : St) (H : Hp) (s : Shared) (e : Value) (s' : Shared), Inv X pins σ H s → CX X.stack H s E e s' → X.xe e s'

section
variable {X : Cx} {CX : CXT} {k : Nat} {f C : Addr} {fd : FuncData} {ps : List Str} {sp : Sp} {dvs : List V} {ds : List Value} {E : XK} {x m : Str} {p pos apos : Pos} {e o : Expr} {es : List Expr} {ta : TE} {t : TA}

/-- the callee runs -/
theorem run_fn {pins : List (Addr × Obj)} {σ : St} {H : Hp} {s : Shared} {Q : VK} {us : List Value} {vs : List V} (F : FnOk X.prog X.w X.K X.mg X.base CX k f fd ps sp) (hr : Room k X.A) (hb : Binds X.K fd ps ds) (hd : Vals dvs ds) (hx : Passes CX X E)
    (I : Inv X pins σ H s) (r : Vals vs us) (h : sp (vs ++ dvs) H Q E) : wpAny (model X.prog X.w) X.A (call (.ref f) us) (EP X pins σ Q) X.xe s := by
  have r2 : Vals (vs ++ dvs) (us ++ ds) := r.append hd
  have hl : (us ++ ds).length = ps.length := by rw [← r2.length]; exact F.len _ _ _ _ h
  refine wpAny_call (codeAny_mono (F.run X.A X.stack s H ⟨us, []⟩ (us ++ ds) (vs ++ dvs) Q E hr I.env0 (hb s us I.kIn hl) r2 h) fun r s' hq => ?_)
  cases r with
  | error e => exact hx pins σ H s e s' I hq
  | ok fl =>
    cases fl with
    | ret u => exact I.after hq
    | next => exact False.elim hq
    | brk => exact False.elim hq
    | cont => exact False.elim hq

theorem pe_call (F : FnOk X.prog X.w X.K X.mg X.base CX k f fd ps sp) (hr : Room k X.A) (hg : Gl X x) (hm : X.mg x = some (.ref f)) (hk : PySem.W.keepIn X.K (.ref f) = true) (hb : Binds X.K fd ps ds) (hd : Vals dvs ds) (hx : Passes CX X E)
    (ha : PA X (e :: es) t) (hdb : (x == ("__debug__" : Str)) = false := by decide) (he : starEach (e :: es) X.env = (false, eval e X.env) :: starEach es X.env := by rfl) (hpl : (backTo pos (starEach es X.env)).any (·.1) = false := by rfl) :
    PE X (.Call (.Name x p) (e :: es) [] pos) (tCall sp dvs E t) := by
  intro pins s σ H Q I h
  refine wpAny_Call_Name_kw (ld_glob I hg hm ?_ hdb)
  refine PySem.W.callWith_K (h₀ := X.base) I.ok.mod.kin hk (thn (ha pos pins s σ H _ I h) fun us s1 ⟨vs, H1, I1, r, q⟩ => ⟨I1.kIn, ?_⟩) he hpl
  exact run_fn F hr hb hd hx I1 r q
/-- what a class must have to be made -/
structure Mk (K : PySem.W.Frag) (C f : Addr) : Prop where
  makes : PySem.W.makesIn K C = true
  init : PySem.W.findIn K (.ref C) "__init__" = some (some (.ref f))
  fn : PySem.W.isFn K (.ref f) = true
  kp : PySem.W.keepIn K (.ref C) = true

end

/-! ### keywords -/
/-- the values of the keywords, from the left -/
def PK (X : Cx) (kws : List Keyword) (t : TA) : Prop :=
  ∀ (pos : Pos) (pins : List (Addr × Obj)) (s : Shared) (σ : St) (H : Hp) (Q : List V → Hp → Prop), Inv X pins σ H s → t σ H Q → wpAny (model X.prog X.w) X.A (evalAll ((backToKw pos (keywordEach kws X.env)).map (·.2))) (AP X pins σ Q) X.xe s
section
variable {X : Cx} {CX : CXT} {k : Nat} {f C : Addr} {fd : FuncData} {ps ks : List Str} {sp : Sp} {E : XK} {x m : Str} {p pos apos kpos : Pos} {e o : Expr} {es : List Expr} {kws : List Keyword} {te ta : TE} {t tk : TA} {nm : Option Str}
/-- how a call with keywords binds: g puts the positional values us and the keywords' values ws (names ks) in the parameters' order, defaults among them -/
structure KBinds (K : PySem.W.Frag) (fd : FuncData) (ps ks : List Str) (g : List Value → List Value → List Value) (gV : List V → List V → List V) : Prop where
  to : ∀ (s : Shared) (us ws : List Value), K.In s.heap → (g us ws).length = ps.length → BindsTo s fd ⟨us, ks.zip ws⟩ (ps.zip (g us ws))
  rel : ∀ {vs : List V} {us : List Value} {zs : List V} {ws : List Value}, Vals vs us → Vals zs ws → Vals (gV vs zs) (g us ws)
def tCallK (sp : Sp) (gV : List V → List V → List V) (E : XK) (t tk : TA) : TE := fun σ H Q => t σ H fun vs H1 => tk σ H1 fun zs H2 => sp (gV vs zs) H2 Q E
variable {g : List Value → List Value → List Value} {gV : List V → List V → List V}
end

/-! ### a def's body keeps its promise -/
/-- names: the parameters first -/
structure FnScope (N P : List Str) (sc : Scope) : Prop where
  kind : sc.kind = .function
  co : sc.isCoroutine = false
  gen : sc.isGenerator = false
  nd : N.Nodup
  pre : N.take P.length = P
  par : ∀ x ∈ P, sc.names.lookup x = some .local ∨ sc.names.lookup x = some .cell
  nofree : ∀ y ∈ sc.names, y.2 ≠ .free

theorem bindL_out {kindOf : Str → Option NameKind} {x : Str} : ∀ {binds : List (Str × Value)} {m : Str → Option Value}, (∀ v, (x, v) ∉ binds) → bindL kindOf binds m x = m x
  | [], _, _ => rfl
  | (n, v) :: r, m, h => by
    unfold bindL
    rw [bindL_out fun w hw => h w (List.mem_cons_of_mem _ hw)]
    split
    · have : x ≠ n := by rintro rfl; exact h v List.mem_cons_self
      simp [this]
    · rfl
theorem bindC_out {kindOf : Str → Option NameKind} {x : Str} : ∀ {binds : List (Str × Value)} {m : Str → Option Value}, (∀ v, (x, v) ∉ binds) → bindC kindOf binds m x = m x
  | [], _, _ => rfl
  | (n, v) :: r, m, h => by
    unfold bindC
    rw [bindC_out fun w hw => h w (List.mem_cons_of_mem _ hw)]
    split
    · rfl
    · have : x ≠ n := by rintro rfl; exact h v List.mem_cons_self
      simp [this]
theorem bindL_get {kindOf : Str → Option NameKind} {x : Str} {v : Value} : ∀ {P : List Str} {vs : List Value} {i : Nat} {m : Str → Option Value}, P.Nodup → P[i]? = some x → vs[i]? = some v → kindOf x = some .local →
    bindL kindOf (P.zip vs) m x = some v
  | [], _, _, _, _, h, _, _ => by simp at h
  | _ :: _, [], _, _, _, _, h, _ => by simp at h
  | p :: P, w :: vs, 0, m, nd, h1, h2, hk => by
    simp at h1 h2; subst h1; subst h2
    show bindL kindOf ((p, w) :: P.zip vs) m p = _
    unfold bindL
    rw [bindL_out fun v hv => (List.nodup_cons.mp nd).1 (List.of_mem_zip hv).1, if_pos hk]
    simp
  | p :: P, w :: vs, i + 1, m, nd, h1, h2, hk => by
    show bindL kindOf ((p, w) :: P.zip vs) m x = _
    unfold bindL
    exact bindL_get (i := i) (List.nodup_cons.mp nd).2 (by simpa using h1) (by simpa using h2) hk
theorem bindC_get {kindOf : Str → Option NameKind} {x : Str} {v : Value} : ∀ {P : List Str} {vs : List Value} {i : Nat} {m : Str → Option Value}, P.Nodup → P[i]? = some x → vs[i]? = some v → kindOf x ≠ some .local →
    bindC kindOf (P.zip vs) m x = some v
  | [], _, _, _, _, h, _, _ => by simp at h
  | _ :: _, [], _, _, _, _, h, _ => by simp at h
  | p :: P, w :: vs, 0, m, nd, h1, h2, hk => by
    simp at h1 h2; subst h1; subst h2
    show bindC kindOf ((p, w) :: P.zip vs) m p = _
    unfold bindC
    rw [bindC_out fun v hv => (List.nodup_cons.mp nd).1 (List.of_mem_zip hv).1, if_neg hk]
    simp
  | p :: P, w :: vs, i + 1, m, nd, h1, h2, hk => by
    show bindC kindOf ((p, w) :: P.zip vs) m x = _
    unfold bindC
    exact bindC_get (i := i) (List.nodup_cons.mp nd).2 (by simpa using h1) (by simpa using h2) hk

/-- the names' values at the entry -/
def start (N : List Str) (vs : List V) : St := vs.map some ++ List.replicate (N.length - vs.length) none

/-- the context of a def's body, at its entry; an exception leaves the frame, then lies as CX says -/
def cxOf (CX : CXT) (P : Program) (w : World) (K : PySem.W.Frag) (mg : Str → Option Value) (base : Heap) (N : List Str) (qual : Str) (scope : Scope) (f : Addr) (cd : Value) (A : Around) (outer : List Env) (s : Shared) (H : Hp) (E : XK) : Cx where
  prog := P
  w := w
  K := K
  mg := mg
  base := base
  A := A.deeper (envOfC qual scope s.heap.objs.size f cd)
  N := N
  s₀ := s
  H₀ := H
  env := envOfC qual scope s.heap.objs.size f cd
  outer := outer
  stack := envOfC qual scope s.heap.objs.size f cd :: outer
  ex := []
  calm := true
  fn := fun _ => true
  pn := []
  xe := fun e s' => wpAny (model P w) (A.deeper (envOfC qual scope s.heap.objs.size f cd)) (leaving (envOfC qual scope s.heap.objs.size f cd) e) (fun _ s'' => CX outer H s E e s'') (fun e' s'' => CX outer H s E e' s'') s'

theorem cell_has {sc : Scope} {n : Nat} {x : Str} (h : sc.names.lookup x = some .cell) : ∃ c, (cellsFrom n sc.names []).lookup x = some c := by
  have q := PySem.W.cellsFrom_some sc.names n [] (.inl h)
  exact Option.isSome_iff_exists.mp q

theorem inv_start {CX : CXT} {P : Program} {w : World} {K : PySem.W.Frag} {mg : Str → Option Value} {base : Heap} {N ps : List Str} {qual : Str} {scope : Scope} {f : Addr} {cd : Value} {A : Around} {outer : List Env} {s s1 : Shared} {H : Hp} {E : XK} {us : List Value} {vs : List V}
    (S : FnScope N ps scope) (hd : A.handled = none) (e0 : Env0 P w K mg base A outer s H) (hl : vs.length = ps.length) (r : Vals vs us)
    (x : InCallC s s.heap.objs.size (bindL (envOfC qual scope s.heap.objs.size f cd).kindOf (ps.zip us) fun _ => none) (cellsFrom (s.heap.objs.size + 1) scope.names []) (bindC (envOfC qual scope s.heap.objs.size f cd).kindOf (ps.zip us) fun _ => none) s1) :
    Inv (cxOf CX P w K mg base N qual scope f cd A outer s H E) [] (start N vs) H s1 := by
  have hpl : ps.length ≤ N.length := by have := congrArg List.length S.pre; rw [List.length_take] at this; omega
  obtain ⟨h1, tk, rfl, hk⟩ := x.done
  have noA : ∀ b : Addr, b ∉ (cxOf CX P w K mg base N qual scope f cd A outer s H E).ex := fun b z => absurd (show b ∈ ([] : List Addr) from z) (by simp)
  refine ⟨⟨e0.mod, S.kind, rfl, rfl, Nat.le_refl _, fun y z c h1 h2 => ?_, fun y hy => ?_, fun y c _ h => ?_, fun _ => hd, Around.frames_deeper e0.frames, .inr ⟨rfl, rfl⟩, fun b z => absurd z (noA b), e0.bs, e0.bsz, fun b _ _ => noA b, fun b z => absurd z (noA b), e0.funs, e0.frf⟩,
    rfl, e0.bare, Un.kept hk, ⟨_, x.toInCall.ns, fun i y v h1 h2 h3 => ?_⟩, fun y c h => ⟨_, x.cell y c h⟩, e0.hok.fresh (Nat.le_refl _), fun y c h => ?_, fun p hp => absurd (show p ∈ ([] : List (Addr × Obj)) from hp) (by simp), e0.hok.kept hk, ?_⟩
  · exact name_of_addr x.apart (PySem.mem_of_lookup h1) (PySem.mem_of_lookup h2)
  · have hy : scope.names.lookup y = some .cell ∨ scope.names.lookup y = some .free := hy
    rcases hy with hy | hy
    · exact cell_has hy
    · exact absurd rfl (S.nofree _ (PySem.mem_of_lookup hy))
  · exact Nat.le_of_lt (x.above y c (PySem.mem_of_lookup h))
  · have hi : i < vs.length := by
      unfold start at h2
      by_cases hi : i < vs.length
      · exact hi
      · rw [List.getElem?_append_right (by simpa using hi)] at h2
        rw [List.getElem?_replicate] at h2
        split at h2 <;> cases h2
    have ha : vs[i]? = some v := by
      unfold start at h2
      rw [List.getElem?_append_left (by simpa using hi), List.getElem?_map] at h2
      cases e : vs[i]? with
      | none => rw [e] at h2; cases h2
      | some a => rw [e] at h2; cases h2; rfl
    obtain ⟨u, hu, rv⟩ := r.get ha
    have hp : ps[i]? = some y := by
      rw [← S.pre, List.getElem?_take_of_lt (by omega)]; exact h1
    have ndP : ps.Nodup := by rw [← S.pre]; exact S.nd.sublist (List.take_sublist _ _)
    refine ⟨u, rv, ?_⟩
    rcases S.par y (List.mem_of_getElem? hp) with k | k
    · exact .inl ⟨k, bindL_get ndP hp hu k⟩
    · obtain ⟨c, e⟩ := cell_has (n := s.heap.objs.size + 1) k
      refine .inr ⟨.inl k, c, e, ?_⟩
      have q := x.cell y c e
      rw [bindC_get ndP hp hu (by show scope.names.lookup y ≠ _; rw [k]; decide)] at q
      exact q
  · exact e0.hok.fresh (Nat.le_of_lt (x.above y c (PySem.mem_of_lookup h)))
  · unfold start
    show _ = N.length
    rw [List.length_append, List.length_map, List.length_replicate]
    omega

/-- THE RULE: a def (or a method) of the text, by its body. The body's reading t is chosen for each entry; it is run at the parameters' values -/
theorem fn_of {CX : CXT} {P : Program} {w : World} {K : PySem.W.Frag} {mg : Str → Option Value} {base : Heap} {k : Nat} {f : Addr} {name qual : Str} {params : Arguments} {body : List Stmt} {scope : Scope} {dV kV doc pm cdv ct oc : Value} {an od : Option Addr}
    {osl : Array (Option Value)} {N ps : List Str} {sp : Sp} (lk : K.lookup f = some ⟨oc, od, .func (PySem.W.fnOf name qual params body scope dV kV doc pm an cdv ct), osl⟩) (hcd : PySem.W.codeIn K cdv qual = true) (S : FnScope N ps scope)
    (len : ∀ vs H Q E, sp vs H Q E → vs.length = ps.length)
    (hbody : ∀ (A : Around) (outer : List Env) (s : Shared) (H : Hp) (vs : List V) (Q : VK) (E : XK), Room k (A.deeper (envOfC qual scope s.heap.objs.size f cdv)) → sp vs H Q E →
      ∃ t, PSs (cxOf CX P w K mg base N qual scope f cdv A outer s H E) body t ∧ t { nx := fun _ H' => Q .non H', rt := Q } (start N vs) H) :
    FnOk P w K mg base CX (k + 1) f (PySem.W.fnOf name qual params body scope dV kV doc pm an cdv ct) ps sp := by
  refine ⟨len, fun A outer s H args us vs Q E hr e0 hb r hsp => ?_⟩
  have hl := len _ _ _ _ hsp
  have KX : K.In s.heap := e0.mod.kin.keeps fun b o e => (e0.bs b o e).1
  have lim : s.heap.NoLimit := e0.mod.nolimit.keeps fun b o e => (e0.bs b o e).1
  have hkind : ∀ y ∈ ps.zip us, scope.names.lookup y.1 = some .local ∨ (scope.names.lookup y.1 = some .cell ∧ ((cellsFrom (s.heap.objs.size + 1) scope.names []).lookup y.1).isSome = true) := fun ⟨n, v⟩ hy => by
    rcases S.par n (List.of_mem_zip hy).1 with q | q
    · exact .inl q
    · exact .inr ⟨q, PySem.W.cellsFrom_some _ _ _ (.inl q)⟩
  refine codeAny_call_function hr.depth (KX _ _ lk) rfl S.co S.gen rfl (PySem.W.codeRec_of KX hcd) (hb _ _ _ _ ?_)
  refine wpAny_newFunctionEnv_cells S.kind hkind fun env he s1 x => ?_
  subst he
  refine ⟨lim.keeps x.toInCall.keep, codeAny_func ?_⟩
  obtain ⟨t, ht, hq⟩ := hbody A outer s H vs Q E (hr.deeper _) hsp
  have I : Inv (cxOf CX P w K mg base N qual scope f cdv A outer s H E) [] (start N vs) H s1 := inv_start S hr.hd e0 hl r x
  refine wpAny_mono (ht [] s1 (start N vs) H _ I hq) (fun fl s' hs => ?_) fun e s' hs => hs
  have fin : ∀ {σ' : St} {H' : Hp} {v : V} {u : Value}, Inv (cxOf CX P w K mg base N qual scope f cdv A outer s H E) [] σ' H' s' → RelV v u → Q v H' → CE outer P w H s Q u s' :=
    fun {σ' H' v u} J rv q => ⟨v, H', J.os, J.bare, J.base, J.hok, rv, q⟩
  cases fl with
  | ret u =>
    obtain ⟨v, σ', H', J, rv, q⟩ := hs
    exact fin J rv q
  | next =>
    obtain ⟨σ', H', J, q⟩ := hs
    exact fin (v := V.non) (u := Value.none) J rfl q
  | brk =>
    obtain ⟨_, _, _, q⟩ := hs
    exact False.elim q
  | cont =>
    obtain ⟨_, _, _, q⟩ := hs
    exact False.elim q
end L2

namespace L2
open PySem PySem.Spec PyProof.Rows
section
variable {X : Cx} {x : Str} {p pos : Pos} {e : Expr} {es : List Expr} {t : TA} {id T : String} {r : List V → Hp → VK → Prop}

def tCB (r : List V → Hp → VK → Prop) (t : TA) : TE := fun σ H Q => t σ H fun vs H1 => r vs H1 Q
/-- f(e, ..), f a built-in function -/
theorem pe_callB (hc : CallR X (.builtin id) r) (hg : Gl X x) (hm : X.mg x = none) (hv : bootBuiltins x = some (.builtin id)) (ha : PA X (e :: es) t) (hn : x ≠ "__name__" := by decide) (hdb : (x == ("__debug__" : Str)) = false := by decide)
    (he : starEach (e :: es) X.env = (false, eval e X.env) :: starEach es X.env := by rfl) (hpl : (backTo pos (starEach es X.env)).any (·.1) = false := by rfl) : PE X (.Call (.Name x p) (e :: es) [] pos) (tCB r t) := by
  intro pins s σ H Q I h
  refine wpAny_Call_Name_kw (ld_blt I hg hm hv ?_ hn hdb)
  exact PyProof.Rows.callWith_builtin1 (thn (ha pos pins s σ H _ I h) fun us s1 ⟨vs, H1, I1, r1, q1⟩ => hc pins s1 σ H1 vs us Q I1 r1 q1) he hpl
/-- T(e, ..), T a built-in type -/
theorem pe_callTy (hc : CallR X (.type T) r) (hg : Gl X x) (hm : X.mg x = none) (hv : bootBuiltins x = some (.type T)) (ha : PA X (e :: es) t) (hn : x ≠ "__name__" := by decide) (hdb : (x == ("__debug__" : Str)) = false := by decide)
    (he : starEach (e :: es) X.env = (false, eval e X.env) :: starEach es X.env := by rfl) (hpl : (backTo pos (starEach es X.env)).any (·.1) = false := by rfl) : PE X (.Call (.Name x p) (e :: es) [] pos) (tCB r t) := by
  intro pins s σ H Q I h
  refine wpAny_Call_Name_kw (ld_blt I hg hm hv ?_ hn hdb)
  exact PyProof.Rows.callWith_type1 (thn (ha pos pins s σ H _ I h) fun us s1 ⟨vs, H1, I1, r1, q1⟩ => hc pins s1 σ H1 vs us Q I1 r1 q1) he hpl
end
end L2

namespace HT
open PySem PyProof.Rows

/-- t < u of tuples of ints -/
def lexLt : List Int → List Int → Bool
  | [], [] => false
  | [], _ :: _ => true
  | _ :: _, [] => false
  | x :: xs, y :: ys => if x = y then lexLt xs ys else decide (x < y)
section
open PySem.SeqAt
open PySem.AutoSeq1 (wpAny_loadPart')
open PySem.MeetsSeq PySem.MeetsSeq2 PySem.MeetsSeq3

end

section
variable {prog : Program} {w : World} {A : Around} {E : Value → Shared → Prop} {s : Shared}

/-! ### t[a:b], not the whole -/
/-- a slice's bound as a place among n (d where it is left out) -/
def sIx (n d : Nat) : Option Int → Nat
  | none => d
  | some v => if v < 0 then (v + (n : Int)).toNat else min v.toNat n
end
end HT

namespace L2
open PySem PySem.Spec PyProof.Rows

/-! ### the parts of a slice -/
abbrev TO := St → Hp → (Option Int → Hp → Prop) → Prop
/-- a slice's part (left out, or an int) -/
def PO (X : Cx) (e : Option Expr) (t : TO) : Prop :=
  ∀ (pins : List (Addr × Obj)) (s : Shared) (σ : St) (H : Hp) (Q : Option Int → Hp → Prop), Inv X pins σ H s → t σ H Q →
    wpAny (model X.prog X.w) X.A (evalPart e X.env) (fun u s' => ∃ o H', Inv X pins σ H' s' ∧ IsPart u o ∧ Q o H') X.xe s
def tNoPart : TO := fun _ H Q => Q none H
def tPart (t : TE) : TO := fun σ H Q => t σ H fun x H1 => ∃ i, x = .int i ∧ Q (some i) H1

theorem intsAre_of {ns : List Int} : ∀ {us : List Value}, Vals (ns.map V.int) us → IntsAre us ns := by
  induction ns with
  | nil => intro us r; rw [List.map_nil] at r; cases r; exact .nil
  | cons n ns ih =>
    intro us r
    rw [List.map_cons] at r
    cases r with
    | cons r1 r2 =>
      obtain ⟨t, e⟩ := r1
      subst e
      exact .cons n t (ih r2)

section
variable {X : Cx} {e : Expr} {te : TE} {lo hi : Option Expr} {tl th : TO} {pos p2 : Pos}

theorem po_none : PO X none tNoPart := by
  intro pins s σ H Q I h
  rw [evalPart_none]
  exact wpAny_pure ⟨none, H, I, .none, h⟩
theorem po_some (h : PE X e te) : PO X (some e) (tPart te) := by
  intro pins s σ H Q I hw
  rw [evalPart_some]
  refine thn (h pins s σ H _ I hw) fun u s1 ⟨x, H1, I1, r1, q1⟩ => ?_
  obtain ⟨i, rfl, q⟩ := q1
  obtain ⟨t, rfl⟩ := r1
  exact ⟨some i, H1, I1, .int i t, q⟩

/-- what a slice of a value is, by values: the slice object stands at sl -/
def SlR (X : Cx) (r : V → Option Int → Option Int → Hp → VK → Prop) : Prop :=
  ∀ (pins : List (Addr × Obj)) (s : Shared) (σ : St) (H : Hp) (x : V) (v vl vu : Value) (lo hi : Option Int) (sl : Addr) (Q : VK), Inv X pins σ H s → RelV x v → s.heap.IsSliceOf sl vl vu .none → IsPart vl lo → IsPart vu hi → r x lo hi H Q →
    ∃ T id, typeLookup (.type T) "__getitem__" = pure (some (.builtin id)) ∧ s.TypeIs v T ∧ wpAny (model X.prog X.w) X.A (getItem v (.ref sl)) (EP X pins σ Q) X.xe s
theorem SlR.or {r r' : V → Option Int → Option Int → Hp → VK → Prop} (h : SlR X r) (h' : SlR X r') : SlR X (fun x lo hi H Q => r x lo hi H Q ∨ r' x lo hi H Q) := by
  intro pins s σ H x v vl vu lo hi sl Q I rx hs pl pu q
  rcases q with q | q
  · exact h pins s σ H x v vl vu lo hi sl Q I rx hs pl pu q
  · exact h' pins s σ H x v vl vu lo hi sl Q I rx hs pl pu q
def tSl (r : V → Option Int → Option Int → Hp → VK → Prop) (te : TE) (tl th : TO) : TE := fun σ H Q => te σ H fun x H1 => tl σ H1 fun l H2 => th σ H2 fun u H3 => r x l u H3 Q
/-- a[lo:hi], any a -/
theorem pe_slice {r : V → Option Int → Option Int → Hp → VK → Prop} (hr : SlR X r) (he : PE X e te) (hl : PO X lo tl) (hu : PO X hi th) : PE X (.Subscript e (.Slice lo hi none p2) pos) (tSl r te tl th) := by
  intro pins s σ H Q I h
  refine Subscript_ (thn (he pins s σ H _ I h) fun v s1 ⟨x, H1, I1, r1, q1⟩ => ?_)
  refine wpAny_Slice (thn (hl pins s1 σ H1 _ I1 q1) fun vl s2 ⟨l, H2, I2, pl, q2⟩ => thn (hu pins s2 σ H2 _ I2 q2) fun vu s3 ⟨u, H3, I3, pu, q3⟩ => ?_)
  rw [evalPart_none]
  refine wpAny_pure ?_
  have I4 : Inv X pins σ H3 { s3 with heap := s3.heap.push { cls := .type "slice", data := .fields #[vl, vu, .none] } } := I3.kept (t' := s3.toks) fun b ob q => Heap.get?_push_of_some _ q
  obtain ⟨T, id, hT, ht, hg⟩ := hr pins { s3 with heap := s3.heap.push { cls := .type "slice", data := .fields #[vl, vu, .none] } } σ H3 x v vl vu l u s3.heap.objs.size Q I4 r1 (Heap.IsSliceOf.new ..) pl pu q3
  show wpAny (model X.prog X.w) X.A (subscriptTail e (.Slice lo hi none p2) v (.ref s3.heap.objs.size)) (EP X pins σ Q) X.xe { s3 with heap := s3.heap.push { cls := .type "slice", data := .fields #[vl, vu, .none] } }
  exact tail_any (ops := [.ref s3.heap.objs.size, v]) ht hT hg (by with_unfolding_all rfl)

/-- the items of xs[lo:hi] -/
def cutV (xs : List V) (lo hi : Option Int) : List V := (xs.drop (HT.sIx xs.length 0 lo)).take (HT.sIx xs.length xs.length hi - HT.sIx xs.length 0 lo)
/-- t[lo:hi], not the whole of it (the whole would be t itself) -/
def rSlT (K : PySem.W.Frag) : V → Option Int → Option Int → Hp → VK → Prop := fun x lo hi H Q => ∃ a xs, x = .ref a ∧ SqT K H a xs ∧
  ¬ (HT.sIx xs.length 0 lo = 0 ∧ HT.sIx xs.length xs.length hi = xs.length) ∧ ∀ p, H p = none → Q (.ref p) (upd H p (.tup (cutV xs lo hi)))
/-! ### t < u, t + u -/
def rLtT (K : PySem.W.Frag) : R2 := fun x y H Q => ∃ a b ns ms, x = .ref a ∧ y = .ref b ∧ SqT K H a (ns.map V.int) ∧ SqT K H b (ms.map V.int) ∧ Q (.bl (HT.lexLt ns ms)) H
/-- t + u, t not empty: u empty gives t itself -/
def rCatT (K : PySem.W.Frag) : R2 := fun x y H Q => ∃ a b xs ys, x = .ref a ∧ y = .ref b ∧ SqT K H a xs ∧ SqT K H b ys ∧ xs ≠ [] ∧ xs.length + ys.length ≤ sizeLine ∧
  (ys = [] → Q (.ref a) H) ∧ (ys ≠ [] → ∀ p, H p = none → Q (.ref p) (upd H p (.tup (xs ++ ys))))
end
end L2

namespace L2
open PySem PySem.Spec PyProof.Rows

/-! ### places -/
/-- the place that an index of any sign means -/
def ixN (n : Nat) (i : Int) : Option Nat := if 0 ≤ i then (if i < n then some i.toNat else none) else if -(n : Int) ≤ i then some (i + n).toNat else none
def atI {α : Type} (xs : List α) (i : Int) : Option α := (ixN xs.length i).bind fun j => xs[j]?
theorem ixN_seq {n : Nat} {i : Int} {j : Nat} (h : ixN n i = some j) : seqIndex? i n = some j ∧ j < n ∧ -(n : Int) ≤ i ∧ i < n := by
  unfold ixN at h
  by_cases h0 : 0 ≤ i
  · rw [if_pos h0] at h
    by_cases h1 : i < n
    · rw [if_pos h1] at h
      have e : i.toNat = j := Option.some.inj h
      exact ⟨by rw [seqIndex_of h0 h1, e], by omega, by omega, h1⟩
    · rw [if_neg h1] at h; cases h
  · rw [if_neg h0] at h
    by_cases h1 : -(n : Int) ≤ i
    · rw [if_pos h1] at h
      have e : (i + n).toNat = j := Option.some.inj h
      exact ⟨by rw [seqIndex_neg (by omega) h1, e], by omega, h1, by omega⟩
    · rw [if_neg h1] at h; cases h
theorem atI_get {α : Type} {xs : List α} {i : Int} {v : α} (h : atI xs i = some v) : ∃ j, seqIndex? i xs.length = some j ∧ xs[j]? = some v ∧ j < xs.length ∧ -(xs.length : Int) ≤ i ∧ i < xs.length := by
  unfold atI at h
  cases e : ixN xs.length i with
  | none => rw [e] at h; cases h
  | some j =>
    rw [e] at h
    obtain ⟨h1, h2, h3, h4⟩ := ixN_seq e
    exact ⟨j, h1, h, h2, h3, h4⟩
theorem atI_nat {α : Type} {xs : List α} {j : Nat} {v : α} (h : xs[j]? = some v) : atI xs (j : Int) = some v := by
  have hj : j < xs.length := (List.getElem?_eq_some_iff.mp h).1
  have e : ixN xs.length (j : Int) = some j := by
    unfold ixN
    rw [if_pos (by omega), if_pos (by omega)]; simp
  unfold atI; rw [e]; exact h
/-! ### what may be subscripted -/
/-- what stands as an index of a plain subscript -/
def PlainIx (b : Expr) : Prop := ∀ o i, subscripted b false o i = operate [o, i] (getItem o i)
/-- a subscript by values -/
def IxR (X : Cx) (r : R2) : Prop :=
  ∀ (value slice : Expr) (pins : List (Addr × Obj)) (s : Shared) (σ : St) (H : Hp) (x y : V) (v u : Value) (Q : VK), Inv X pins σ H s → RelV x v → RelV y u → r x y H Q →
    subscripted slice false v u = operate [v, u] (getItem v u) → wpAny (model X.prog X.w) X.A (subscriptTail value slice v u) (EP X pins σ Q) X.xe s
/-- a call of a builtin's method by values: the receiver, the arguments -/
def MtR (X : Cx) (id : String) (r : V → List V → Hp → VK → Prop) : Prop :=
  ∀ (pins : List (Addr × Obj)) (s : Shared) (σ : St) (H : Hp) (x : V) (xs : List V) (v : Value) (us : List Value) (Q : VK), Inv X pins σ H s → RelV x v → Vals xs us → r x xs H Q →
    wpAny (model X.prog X.w) X.A (call (.builtin id) (v :: us)) (EP X pins σ Q) X.xe s
section
variable {X : Cx} {a b : Expr} {ta tb : TE} {pos : Pos}
theorem IxR.or {r r' : R2} (h : IxR X r) (h' : IxR X r') : IxR X (fun x y H Q => r x y H Q ∨ r' x y H Q) := by
  intro value slice pins s σ H x y v u Q I rx ry q hs
  rcases q with q | q
  · exact h value slice pins s σ H x y v u Q I rx ry q hs
  · exact h' value slice pins s σ H x y v u Q I rx ry q hs
theorem MtR.or {id : String} {r r' : V → List V → Hp → VK → Prop} (h : MtR X id r) (h' : MtR X id r') : MtR X id (fun x xs H Q => r x xs H Q ∨ r' x xs H Q) := by
  intro pins s σ H x xs v us Q I rx rs q
  rcases q with q | q
  · exact h pins s σ H x xs v us Q I rx rs q
  · exact h' pins s σ H x xs v us Q I rx rs q
/-- a[b] -/
theorem pe_ix {r : R2} (hr : IxR X r) (ha : PE X a ta) (hb : PE X b tb) (hs : PlainIx b) : PE X (.Subscript a b pos) (tOp r ta tb) := by
  intro pins s σ H Q I h
  exact Subscript_ (binT ha hb I h fun v u s2 x y H2 I2 rx ry q => hr a b pins s2 σ H2 x y v u Q I2 rx ry q (hs _ _))

def rIxL (K : PySem.W.Frag) : R2 := fun x y H Q => ∃ p xs i v, x = .ref p ∧ y = .int i ∧ SqL K H p xs ∧ atI xs i = some v ∧ Q v H
def rIxT (K : PySem.W.Frag) : R2 := fun x y H Q => ∃ p xs i v, x = .ref p ∧ y = .int i ∧ SqT K H p xs ∧ atI xs i = some v ∧ Q v H
def rIxS : R2 := fun x y H Q => ∃ z i c, x = .str z ∧ y = .int i ∧ z.length ≤ sizeLine ∧ atI z.cps.toList i = some c ∧ Q (.str ⟨#[c]⟩) H
theorem ix_list : IxR X (rIxL X.K) := by
  intro value slice pins s σ H x y v u Q I rx ry h hs
  obtain ⟨p, xs, i, z, rfl, rfl, hq, he, q⟩ := h
  cases rx
  obtain ⟨t, rfl⟩ := ry
  obtain ⟨its, r, pl, hz⟩ := I.list hq
  obtain ⟨j, h1, h2, h3, h4, h5⟩ := atI_get he
  obtain ⟨w, ew, rw'⟩ := r.get h2
  have hl := r.length
  have hn := line63
  have fin : EP X pins σ Q w s := ⟨z, H, I, rw', q⟩
  by_cases h0 : 0 ≤ i
  · have hj : i.toNat = j := by
      rw [seqIndex_of h0 h5] at h1
      exact Option.some.inj h1
    exact item_listR pl.isList h0 (by omega) (by rw [hj]; simpa using ew) fin hs
  · have hj : (i + (its.toArray.size : Int)).toNat = j := by
      rw [seqIndex_neg (by omega) h4] at h1
      rw [List.size_toArray, ← hl]
      exact Option.some.inj h1
    exact subscriptTail_builtinR (x := w) pl.isList.typeIs slot_list_getitem.lookup
      (wpAny_getItem_list_neg (Q := fun r s' => r = w ∧ EP X pins σ Q r s') pl.isList (by omega) (by rw [List.size_toArray] <;> omega) (by omega) (by rw [hj]; simpa using ew) ⟨rfl, fin⟩) hs
theorem ix_tup : IxR X (rIxT X.K) := by
  intro value slice pins s σ H x y v u Q I rx ry h hs
  obtain ⟨p, xs, i, z, rfl, rfl, hq, he, q⟩ := h
  cases rx
  obtain ⟨t, rfl⟩ := ry
  obtain ⟨its, r, pl, hz⟩ := I.tuple hq
  obtain ⟨j, h1, h2, h3, h4, h5⟩ := atI_get he
  obtain ⟨w, ew, rw'⟩ := r.get h2
  have hl := r.length
  have hn := line63
  have fin : EP X pins σ Q w s := ⟨z, H, I, rw', q⟩
  exact subscriptTail_builtinR (x := w) pl.typeIs slot_tuple_getitem.lookup
    (getItem_tuple (j := j) (Q := fun r s' => r = w ∧ EP X pins σ Q r s') pl (by omega) (by omega) (by rw [List.size_toArray, ← hl]; exact h1) (by simpa using ew) ⟨rfl, fin⟩) hs
theorem ix_str : IxR X rIxS := by
  intro value slice pins s σ H x y v u Q I rx ry h hs
  obtain ⟨z, i, c, rfl, rfl, hz, he, q⟩ := h
  obtain ⟨t, rfl⟩ := rx
  obtain ⟨t', rfl⟩ := ry
  obtain ⟨j, h1, h2, h3, h4, h5⟩ := atI_get he
  have hl : z.cps.toList.length = z.length := by simp [Str.length]
  rw [hl] at h1 h4 h5
  have hn := line63
  exact tail_any (typeIs_str s z t) slot_str_getitem.lookup (getItem_str (c := c) (by
    have e1 : decide (i < -(2 ^ 63 : Int)) = false := decide_eq_false (by omega)
    have e2 : decide (i ≥ 2 ^ 63) = false := decide_eq_false (by omega)
    rw [e1, e2, Bool.or_false]) (by rw [h1]; simpa using h2) ⟨.str ⟨#[c]⟩, H, I.tok _, ⟨_, rfl⟩, q⟩) hs
/-- list, tuple or str -/
def rIx (K : PySem.W.Frag) : R2 := fun x y H Q => rIxL K x y H Q ∨ rIxT K x y H Q ∨ rIxS x y H Q
/-! ### xs[i] = v, any sign -/
theorem Inv.lst {pins : List (Addr × Obj)} {σ : St} {H : Hp} {s : Shared} {p : Addr} {xs : List V} (I : Inv X pins σ H s) (h : H p = some (.lst xs)) :
    ∃ (its : List Value) (n : Nat), Vals xs its ∧ s.heap.get? p = some { cls := .type "list", data := .seq its.toArray n } ∧ xs.length ≤ sizeLine := by
  obtain ⟨z, its, n, r, e⟩ := I.hok p _ h
  exact ⟨its, n, r, e, z⟩
def rSetL : V → V → V → Hp → (Hp → Prop) → Prop := fun o i v H Q => ∃ p xs k j, o = .ref p ∧ i = .int k ∧ H p = some (.lst xs) ∧ ixN xs.length k = some j ∧ Q (upd H p (.lst (xs.set j v)))
/-! ### slices -/
/-- xs[lo:hi] of a list: a new list -/
def rSlL (K : PySem.W.Frag) : V → Option Int → Option Int → Hp → VK → Prop := fun x lo hi H Q => ∃ a xs, x = .ref a ∧ SqL K H a xs ∧ ∀ p, H p = none → Q (.ref p) (upd H p (.lst (cutV xs lo hi)))
/-! ### in, not in: flat items -/
def flatV : V → Bool
  | .non => true
  | .bl _ => true
  | .int _ => true
  | .str _ => true
  | _ => false
/-- == of flat values -/
def eqV : V → V → Bool
  | .non, .non => true
  | .bl a, .bl b => a == b
  | .bl a, .int b => (if a then 1 else 0) == b
  | .int a, .bl b => a == (if b then 1 else 0)
  | .int a, .int b => a == b
  | .str a, .str b => a == b
  | _, _ => false
/-- the items' answers, read off the values (a value's own answer does not lean on its token) -/
def eqU (x : V) (u : Value) : Bool := match u with
  | .none => eqV .non x
  | .bool b => eqV (.bl b) x
  | .int i _ => eqV (.int i) x
  | .str z _ => eqV (.str z) x
  | _ => false
def inV (x : V) (xs : List V) : Bool := xs.any fun y => eqV y x
/-- x in a list or tuple of flat items -/
def rIn (K : PySem.W.Frag) (neg : Bool) : R2 := fun x y H Q => ∃ p xs, y = .ref p ∧ (SqL K H p xs ∨ SqT K H p xs) ∧ flatV x = true ∧ xs.all flatV = true ∧ Q (.bl (if neg then !inV x xs else inV x xs)) H
/-! ### len, list(x), tuple(x) of any list or tuple that is read -/
theorem call_len_seq : CallR X (.builtin "len") (fun xs H Q => ∃ p ys, xs = [.ref p] ∧ (SqL X.K H p ys ∨ SqT X.K H p ys) ∧ Q (.int ys.length) H) := by
  intro pins s σ H xs us Q I r h
  obtain ⟨p, ys, rfl, hq, q⟩ := h
  obtain ⟨u, rfl, rx⟩ := vals1 r
  cases rx
  have hn := line63
  rcases hq with hq | hq
  · obtain ⟨its, r', pl, hz⟩ := I.list hq
    have hlen := r'.length
    exact Calls.call_len_list pl.isList (by simp only [List.size_toArray] <;> omega) ⟨.int ys.length, H, I.tok _, ⟨s.toks + 1, by rw [List.size_toArray, hlen]⟩, q⟩
  · obtain ⟨its, r', pl, hz⟩ := I.tuple hq
    have hlen := r'.length
    exact len_tuple pl (by simp only [List.size_toArray] <;> omega) ⟨.int ys.length, H, I.tok _, ⟨s.toks + 1, by rw [List.size_toArray, hlen]⟩, q⟩
theorem call_len_str : CallR X (.builtin "len") (fun xs H Q => ∃ z, xs = [.str z] ∧ z.length ≤ sizeLine ∧ Q (.int z.length) H) := by
  intro pins s σ H xs us Q I r h
  obtain ⟨z, rfl, hz, q⟩ := h
  obtain ⟨u, rfl, t, rfl⟩ := vals1 r
  have hn := line63
  exact len_str (by omega) ⟨.int z.length, H, I.tok _, ⟨_, rfl⟩, q⟩
theorem CallR.or {f : Value} {r r' : List V → Hp → VK → Prop} (h : CallR X f r) (h' : CallR X f r') : CallR X f (fun xs H Q => r xs H Q ∨ r' xs H Q) := by
  intro pins s σ H xs us Q I rs q
  rcases q with q | q
  · exact h pins s σ H xs us Q I rs q
  · exact h' pins s σ H xs us Q I rs q
theorem call_tuple_of : CallR X (.type "tuple") (fun xs H Q => ∃ p ys, xs = [.ref p] ∧ ((SqL X.K H p ys ∧ ∀ l, H l = none → Q (.ref l) (upd H l (.tup ys))) ∨ (SqT X.K H p ys ∧ Q (.ref p) H))) := by
  intro pins s σ H xs us Q I r h
  obtain ⟨p, ys, rfl, h⟩ := h
  obtain ⟨u, rfl, rx⟩ := vals1 r
  cases rx
  rcases h with ⟨hq, q⟩ | ⟨hq, q⟩
  · obtain ⟨its, r', pl, hz⟩ := I.list hq
    have hlen := r'.length
    refine call_tuple_list pl.isList (fun h' kp => ?_) (by simp only [List.size_toArray] <;> omega)
    have I1 : Inv X pins σ H { s with heap := h' } := I.kept (t' := s.toks) kp
    have I2 : Inv X pins σ (upd H h'.objs.size (.tup ys)) { s with heap := h'.push { cls := .type "tuple", data := .seq its.toArray } } :=
      I1.laid (t' := s.toks) (fun b o e => Heap.get?_push_of_some _ e) (Nat.le_refl _) (show ObjOk X.prog X.w _ _ _ (.tup ys) from ⟨hz, its, r', IsTup.new _ _⟩)
    exact ⟨.ref h'.objs.size, _, I2, rfl, q _ (I1.hok.fresh (Nat.le_refl _))⟩
  · obtain ⟨its, r', pl, hz⟩ := I.tuple hq
    exact call_tuple_same pl ⟨.ref p, H, I, rfl, q⟩

/-! ### the call of a builtin's method: o.m(..) -/
/-- the value is of that builtin type -/
def tyV (K : PySem.W.Frag) (T : String) (x : V) (H : Hp) : Prop := match x with
  | .str _ => T = "str"
  | .int _ => T = "int"
  | .ref p => (T = "list" ∧ ∃ xs, SqL K H p xs) ∨ (T = "tuple" ∧ ∃ o, K.lookup p = some o ∧ o.cls = .type "tuple" ∧ o.dict = none) ∨
      (T = "dict" ∧ ((∃ kvs, H p = some (.dK kvs)) ∨ ∃ kvs, H p = some (.dT kvs))) ∨ (T = "set" ∧ ∃ S n, H p = some (.set S n))
  | _ => False
theorem tyV_is {pins : List (Addr × Obj)} {σ : St} {H : Hp} {s : Shared} {T : String} {x : V} {v : Value} (I : Inv X pins σ H s) (r : RelV x v) (ty : tyV X.K T x H) :
    s.TypeIs v T ∧ ∀ a, v = .ref a → ∃ ob, s.heap.get? a = some ob ∧ ob.dict = none := by
  cases x with
  | str z =>
    obtain ⟨t, rfl⟩ := r
    cases (show T = "str" from ty)
    exact ⟨typeIs_str s z t, fun _ e => nomatch e⟩
  | int i =>
    obtain ⟨t, rfl⟩ := r
    cases (show T = "int" from ty)
    exact ⟨typeIs_int s i t, fun _ e => nomatch e⟩
  | ref p =>
    cases r
    rcases ty with ⟨rfl, xs, hq⟩ | ⟨rfl, o, hk, hc, hd⟩ | ⟨rfl, hk⟩ | ⟨rfl, S, n, hk⟩
    · obtain ⟨its, _, pl, _⟩ := I.list hq
      refine ⟨pl.isList.typeIs, fun a e => ?_⟩
      cases e
      obtain ⟨o, n, e, c, hd, _⟩ := pl
      exact ⟨o, e, hd⟩
    · refine ⟨⟨o, I.kIn p o hk, hc⟩, fun a e => ?_⟩
      cases e
      exact ⟨o, I.kIn _ o hk, hd⟩
    · have z : ∃ o, s.heap.get? p = some o ∧ o.ExactDict := by
        rcases hk with ⟨kvs, hk⟩ | ⟨kvs, hk⟩
        · obtain ⟨_, _, _, _, o, _, _, e, ex, _⟩ := I.hok p _ hk
          exact ⟨o, e, ex⟩
        · obtain ⟨_, _, _, _, o, _, _, e, ex, _⟩ := I.hok p _ hk
          exact ⟨o, e, ex⟩
      obtain ⟨o, e, ex⟩ := z
      refine ⟨⟨o, e, ex.1⟩, fun a e2 => ?_⟩
      cases e2
      exact ⟨o, e, ex.2.1⟩
    · obtain ⟨o, _, _, _, e, ex, _⟩ := I.hok p _ hk
      refine ⟨⟨o, e, ex.1⟩, fun a e2 => ?_⟩
      cases e2
      exact ⟨o, e, ex.2.1⟩
  | _ => exact False.elim ty
def tBM0 (K : PySem.W.Frag) (T : String) (r : V → List V → Hp → VK → Prop) (to : TE) : TE := fun σ H Q => to σ H fun x H1 => tyV K T x H1 ∧ r x [] H1 Q
def tBM (K : PySem.W.Frag) (T : String) (r : V → List V → Hp → VK → Prop) (to : TE) (t : TA) : TE := fun σ H Q => to σ H fun x H1 => tyV K T x H1 ∧ t σ H1 fun xs H2 => r x xs H2 Q
variable {o e : Expr} {es : List Expr} {to : TE} {t : TA} {name : Str} {apos cpos : Pos} {T id : String} {r : V → List V → Hp → VK → Prop}
theorem pe_bm0 (pa : PlainAttrs T) (slot : Slot T name id) (hty : typeOf (.builtin id) = pure (.type "method_descriptor")) (hm : MtR X id r) (ho : PE X o to)
    (hbase : attributeBase o name X.env (eval o X.env) = eval o X.env := by rfl) (hline : (apos.endLine == cpos.line) = true := by rfl) : PE X (.Call (.Attribute o name apos) [] [] cpos) (tBM0 X.K T r to) := by
  intro pins s σ H Q I h
  refine wpAny_Call_method0_late hbase hline (thn (ho pins s σ H _ I h) fun v s1 ⟨x, H1, I1, r1, ty, q1⟩ => ?_)
  obtain ⟨h1, h2⟩ := tyV_is I1 r1 ty
  exact ⟨T, id, pa, slot, hty, h1, h2, Calls.callWith_builtin rfl (PySem.evalArgs_none (hm pins s1 σ H1 x [] v [] Q I1 r1 .nil q1))⟩
theorem pe_bm (pa : PlainAttrs T) (slot : Slot T name id) (hty : typeOf (.builtin id) = pure (.type "method_descriptor")) (hm : MtR X id r) (ho : PE X o to) (ha : PA X (e :: es) t)
    (hbase : attributeBase o name X.env (eval o X.env) = eval o X.env := by rfl)
    (hfew : ((backTo cpos (starEach (e :: es) X.env)).all (fun x => !x.1) && (backToKw cpos (keywordEach [] X.env)).all (fun x => x.1.isSome)
      && decide ((e :: es).length + ([] : List Keyword).length + (if ([] : List Keyword).isEmpty then 0 else 1) < 30)) = true := by rfl)
    (hline : (apos.endLine == cpos.line) = true := by rfl) (hs : starEach (e :: es) X.env = (false, eval e X.env) :: starEach es X.env := by rfl) (hplain : (backTo cpos (starEach es X.env)).any (·.1) = false := by rfl) :
    PE X (.Call (.Attribute o name apos) (e :: es) [] cpos) (tBM X.K T r to t) := by
  intro pins s σ H Q I h
  refine wpAny_Call_method_late hbase hfew hline rfl (thn (ho pins s σ H _ I h) fun v s1 ⟨x, H1, I1, r1, ty, q1⟩ => ?_)
  obtain ⟨h1, h2⟩ := tyV_is I1 r1 ty
  refine ⟨T, id, pa, slot, hty, h1, h2, ?_⟩
  have hA := ha cpos pins s1 σ H1 _ I1 q1
  rw [hs] at hA ⊢
  refine Calls.callWith_builtin (by show (false || (backTo cpos (starEach es X.env)).any (·.1)) = false; rw [hplain] <;> rfl) (Calls.evalArgs_plain ?_)
  exact thn hA fun us s2 ⟨vs, H2, I2, r2, q2⟩ => hm pins s2 σ H2 x vs v us Q I2 r1 r2 q2
/- xs.append(e), list.index on a module's tuple .. are MtR facts of 06m -/
end
end L2

namespace L2
open PySem PySem.Spec PyProof.Rows

def MtM (X : Cx) (id : String) (r : V → List V → Hp → VK → Prop) : Prop :=
  ∀ (pins : List (Addr × Obj)) (s : Shared) (σ : St) (H : Hp) (x : V) (xs : List V) (v : Value) (us : List Value) (Q : VK), Inv X pins σ H s → RelV x v → Vals xs us → r x xs H Q →
    wpAny (model X.prog X.w) X.A (call (.builtin id) (v :: us)) (EP X pins σ Q) X.xe s

/-! ### lists of values -/
theorem Vals.one : ∀ {x : V} {us : List Value}, Vals [x] us → ∃ u, us = [u] ∧ RelV x u
  | _, _, .cons r .nil => ⟨_, rfl, r⟩
theorem Vals.two : ∀ {x y : V} {us : List Value}, Vals [x, y] us → ∃ u v, us = [u, v] ∧ RelV x u ∧ RelV y v
  | _, _, _, .cons r (.cons q .nil) => ⟨_, _, rfl, r, q⟩
theorem Vals.zero : ∀ {us : List Value}, Vals [] us → us = []
  | _, .nil => rfl
theorem Vals.dropLast {xs : List V} {us : List Value} (h : Vals xs us) : Vals xs.dropLast us.dropLast := by
  induction h with
  | nil => exact .nil
  | cons r t ih =>
    cases t with
    | nil => exact .nil
    | cons q t' => exact .cons r ih
theorem Vals.eraseIdx : ∀ {xs : List V} {us : List Value} (i : Nat), Vals xs us → Vals (xs.eraseIdx i) (us.eraseIdx i)
  | _, _, _, .nil => .nil
  | _, _, 0, .cons _ t => t
  | _, _, i + 1, .cons r t => .cons r (Vals.eraseIdx i t)
theorem Vals.reverse {xs : List V} {us : List Value} (h : Vals xs us) : Vals xs.reverse us.reverse := by
  induction h with
  | nil => exact .nil
  | cons r t ih => rw [List.reverse_cons, List.reverse_cons]; exact Vals.append ih (.cons r .nil)
theorem Vals.rep {xs : List V} {us : List Value} (h : Vals xs us) : ∀ k : Nat, Vals (List.replicate k xs).flatten (List.replicate k us).flatten
  | 0 => .nil
  | k + 1 => by
    rw [List.replicate_succ, List.replicate_succ, List.flatten_cons, List.flatten_cons]
    exact Vals.append h (Vals.rep h k)
theorem erase_last {α : Type} (l : List α) : l.eraseIdx (l.length - 1) = l.dropLast := by
  induction l with
  | nil => rfl
  | cons a r ih =>
    cases r with
    | nil => rfl
    | cons b r =>
      have e : (a :: b :: r).length - 1 = ((b :: r).length - 1) + 1 := by
        have h1 : (a :: b :: r).length = r.length + 2 := rfl
        have h2 : (b :: r).length = r.length + 1 := rfl
        omega
      rw [e, List.eraseIdx_cons_succ, ih]
      all_goals rfl
section
variable {X : Cx} {pins : List (Addr × Obj)} {σ : St} {H : Hp} {s : Shared} {l b : Addr} {xs ys zs : List V}

/-! ### the two steps: a tracked list is rewritten, a new list is laid -/
theorem Inv.lset {its its' : List Value} {n : Nat} {f : Array Value → Array Value} {t' : Nat} (I : Inv X pins σ H s) (hH : H l = some (.lst xs))
    (e : s.heap.get? l = some { cls := .type "list", data := .seq its.toArray n }) (hf : f its.toArray = its'.toArray) (hv : Vals ys its') (hz : ys.length ≤ sizeLine) :
    Inv X pins σ (upd H l (.lst ys)) { s with heap := s.heap.update l (Obj.mapSeq f), toks := t' } := by
  have q := PySem.IsL.update e f
  rw [hf] at q
  refine I.write (x := l) (e := l) (by rw [hH]; exact trivial) (.inl rfl) (fun b' u hb hu => (Heap.get?_update_other s.heap (Obj.mapSeq f) (Ne.symm hb)).trans hu) ⟨_, q⟩ ?_
  exact ⟨hz, its', _, hv, q⟩
theorem Inv.lnew {its : List Value} {t' : Nat} (I : Inv X pins σ H s) (hv : Vals ys its) (hz : ys.length ≤ sizeLine) :
    Inv X pins σ (upd H s.heap.objs.size (.lst ys)) { s with heap := s.heap.push { cls := .type "list", data := .seq its.toArray }, toks := t' } :=
  I.laid (fun _ _ q => Heap.get?_push_of_some _ q) (Nat.le_refl _) ⟨hz, its, 0, hv, Heap.get?_push_size _ rfl⟩
theorem Inv.fresh (I : Inv X pins σ H s) : H s.heap.objs.size = none := I.hok.fresh (Nat.le_refl _)
theorem Inv.lstM (I : Inv X pins σ H s) (hH : H l = some (.lst xs)) : xs.length ≤ sizeLine ∧ ∃ (its : List Value) (n : Nat), Vals xs its ∧ xs.length = its.length ∧ s.heap.get? l = some { cls := .type "list", data := .seq its.toArray n } := by
  obtain ⟨z, its, n, r, e⟩ := I.hok l _ hH
  exact ⟨z, its, n, r, r.length, e⟩

end

section
variable {X : Cx}

/-! ### methods -/
def rAppend : V → List V → Hp → VK → Prop := fun x vs H Q => ∃ l xs y, x = .ref l ∧ vs = [y] ∧ H l = some (.lst xs) ∧ xs.length < sizeLine ∧ Q .non (upd H l (.lst (xs ++ [y])))
theorem mt_append : MtM X "list.append" rAppend := by
  intro pins s σ H x vs v us Q I rx rv h
  obtain ⟨l, xs, y, rfl, rfl, hH, hz, q⟩ := h
  cases rx
  obtain ⟨u, rfl, ru⟩ := rv.one
  obtain ⟨z, its, n, r, hl, e⟩ := I.lstM hH
  refine call_meets F.slot_list_append ⟨_, e, rfl⟩ F.entry_list_append (F.args_list_append_2 _ _) (PySem.list_append l its.toArray n u (by rw [List.size_toArray]; omega)) ⟨e, ?_⟩
  refine ⟨.non, _, I.lset (its' := its ++ [u]) hH e (by simp) (r.append (.cons ru .nil)) ?_, rfl, q⟩
  rw [List.length_append, List.length_singleton]
  omega

def rExtend : V → List V → Hp → VK → Prop := fun x vs H Q => ∃ l b xs zs, x = .ref l ∧ vs = [.ref b] ∧ H l = some (.lst xs) ∧ H b = some (.lst zs) ∧ xs.length + zs.length ≤ sizeLine ∧ Q .non (upd H l (.lst (xs ++ zs)))
def rPop : V → List V → Hp → VK → Prop := fun x vs H Q => ∃ l xs y, x = .ref l ∧ vs = [] ∧ H l = some (.lst xs) ∧ xs[xs.length - 1]? = some y ∧ Q y (upd H l (.lst xs.dropLast))
theorem mt_pop : MtM X "list.pop" rPop := by
  intro pins s σ H x vs v us Q I rx rv h
  obtain ⟨l, xs, y, rfl, rfl, hH, hy, q⟩ := h
  cases rx
  have hus := rv.zero
  subst hus
  obtain ⟨z, its, n, r, hl, e⟩ := I.lstM hH
  obtain ⟨u, hu, ru⟩ := r.get hy
  have hy' : its.toArray[its.toArray.size - 1]? = some u := by
    show its.toArray[its.length - 1]? = some u
    rw [← Array.getElem?_toList, ← hl]
    exact hu
  refine call_meets F.slot_list_pop ⟨_, e, rfl⟩ F.entry_list_pop (F.args_list_pop_1 _) (MeetsSeq.list_pop_last l its.toArray n u hy' (by rw [List.size_toArray]; omega)) ⟨e, ?_⟩
  refine ⟨y, _, I.lset (its' := its.dropLast) hH e ?_ r.dropLast ?_, ru, q⟩
  · show its.toArray.eraseIdxIfInBounds (its.toArray.size - 1) = its.dropLast.toArray
    rw [List.size_toArray, List.eraseIdxIfInBounds_toArray, erase_last]
  · rw [List.length_dropLast]
    omega

def rPopAt : V → List V → Hp → VK → Prop := fun x vs H Q => ∃ l xs i k y, x = .ref l ∧ vs = [.int i] ∧ H l = some (.lst xs) ∧ -(2 ^ 63) ≤ i ∧ i < 2 ^ 63 ∧ seqIndex? i xs.length = some k ∧ xs[k]? = some y ∧ Q y (upd H l (.lst (xs.eraseIdx k)))
def rReverse : V → List V → Hp → VK → Prop := fun x vs H Q => ∃ l xs, x = .ref l ∧ vs = [] ∧ H l = some (.lst xs) ∧ Q .non (upd H l (.lst xs.reverse))
def rClear : V → List V → Hp → VK → Prop := fun x vs H Q => ∃ l xs, x = .ref l ∧ vs = [] ∧ H l = some (.lst xs) ∧ Q .non (upd H l (.lst []))
/-! ### list + list, list += list, list * int -/
def rCat : R2 := fun x y H Q => ∃ l b xs zs, x = .ref l ∧ y = .ref b ∧ H l = some (.lst xs) ∧ H b = some (.lst zs) ∧ xs.length + zs.length ≤ sizeLine ∧ ∀ p, H p = none → Q (.ref p) (upd H p (.lst (xs ++ zs)))
theorem op_cat : OpR X (binaryOp .Add) rCat := by
  intro pins s σ H x y v u Q I rx ry h
  obtain ⟨l, b, xs, zs, rfl, rfl, hH, hB, hz, q⟩ := h
  cases rx
  cases ry
  obtain ⟨z, its, n, r, hl, e⟩ := I.lstM hH
  obtain ⟨z2, its2, n2, r2, hl2, e2⟩ := I.lstM hB
  refine PySem.P.add_list e e2 ?_ (by rw [List.size_toArray, List.size_toArray]; omega)
  have ea : its.toArray ++ its2.toArray = (its ++ its2).toArray := by simp
  rw [ea]
  exact ⟨.ref _, _, I.lnew (t' := s.toks) (r.append r2) (by rw [List.length_append]; omega), rfl, q _ I.fresh⟩
/-- a list times an int (a negative one is nothing) -/
def rRep : R2 := fun x y H Q => ∃ l k xs, x = .ref l ∧ y = .int k ∧ H l = some (.lst xs) ∧ -(2 ^ 63) ≤ k ∧ k < 2 ^ 63 ∧ xs.length * k.toNat ≤ sizeLine ∧
  ∀ p, H p = none → Q (.ref p) (upd H p (.lst (List.replicate k.toNat xs).flatten))
/-! ### del xs[i] -/
end

/-! ### xs[a:b] = ys -/
section
variable {prog : Program} {w : World} {A : Around} {E : Value → Shared → Prop} {s : Shared}
set_option maxRecDepth 100000 in
end

section
variable {X : Cx}
end
end L2

namespace Att
open PySem PySem.W PySem.Calls PyProof.Rows

/-! ### the script -/
theorem ints_of_wellAll {P : Params} {h : Heap} : ∀ (ns : List Int) (vs : List Value), WellAll P h vs (ns.map WData.int) → IntsAre vs ns := by
  intro ns
  induction ns with
  | nil =>
    intro vs w
    rw [List.map_nil] at w
    cases w
    exact .nil
  | cons n ns ih =>
    intro vs w
    rw [List.map_cons] at w
    cases w with
    | cons a b =>
      cases a
      exact .cons _ _ (ih _ b)

theorem script_of {l : OpenLaw} {n : Nat} (hn : l.most = some n) {P : Params} {h : Heap} {args : List WData} {vals : List Value}
    (hpre : l.row.toRowW.claim.pre args = true) (hwl : WellAll P h vals args) :
    ∃ a vs ns, vals = [Value.ref a] ∧ args = [WData.list (ns.map WData.int)] ∧ h.get? a = some { cls := .type "list", data := .seq vs.toArray } ∧ IntsAre vs ns ∧ ns.length ≤ n := by
  have hsh : WShape.hasAll [] args [.list .int] = true := (pre_splitW hpre).1
  have hc : l.pre.holds [] { args := args } = true := (pre_splitW hpre).2
  obtain ⟨d, r, rfl, h1, h2⟩ := hasAllW_cons hsh
  obtain rfl := hasAllW_nil h2
  obtain ⟨xs, rfl, h3⟩ := hasW_list h1
  obtain ⟨ns, rfl⟩ := items_int h3
  have hlen : ns.length ≤ n := by
    unfold OpenLaw.pre at hc
    have h4 : (WTm.not (.lt (.lit (.int (n : Int))) (.len (.arg 0)))).holds [] { args := [.list (ns.map .int)] } = true := by
      have h4 := (holds_andW hc).1
      rw [hn] at h4
      exact h4
    have h5 := condW_of h4 (w_not (w_lt w_lit (w_len_list (w_arg rfl))))
    rw [List.length_map] at h5
    refine Nat.le_of_not_lt fun q => ?_
    have q' : (n : Int) < ((ns.length : Nat) : Int) := by omega
    first
      | (rw [decide_eq_true q'] at h5; exact absurd h5 (by decide))
      | (simp at h5; omega)
  cases hwl with
  | cons w1 w2 =>
    cases w2
    cases w1 with
    | list ho hall => exact ⟨_, _, ns, rfl, rfl, ho, ints_of_wellAll ns _ hall, hlen⟩

theorem post_true (l : OpenLaw) (args : List WData) : l.row.toRowW.claim.post args (.bool true) args = true :=
  postW_of (r := l.row.toRowW) (X := (true == true))
    (show WShape.has [] (.bool true) .bool = true by first | rfl | decide | simp [WShape.has, WShape.arms, WShape.armsAll])
    (show (WTm.eq .res (.lit (.bool true))).value [] { args := args, res := some (.bool true), after := args } = some (.bool (true == true)) from w_eq_bool (w_res rfl) w_lit) rfl

/-! ### the attachment: holds_open's last premise (the goal 'hc' behind k_head) from a wpAny of the law's body -/
/-- the same from a codeAny of the CALL (for a layer whose function contracts speak of calls) -/
theorem attach_call {l : OpenLaw} {n : Nat} {q : Program} {loose : List Str} {XP : (Str → Option Value) → Heap → Prop} {YP : World → Heap → Prop} {d : DefRec}
    (hn : l.most = some n) (hdf : d.params.defaults = [])
    (call : ∀ (w : World) (s₀ s₁ : Shared) (mg mb : Str → Option Value) (fa : Addr) (o : Obj) (pm cd doc : Value) (a : Addr) (vs : List Value) (ns : List Int),
      Ground q loose [] XP w s₀ mg mb s₁.heap → YP w s₁.heap →
      s₁.heap.get? fa = some o → o.data = .func (docDef d.name d.params d.body d.scope pm cd doc) → s₁.heap.CodeRec cd d.name → mg d.name = some (.ref fa) →
      s₁.heap.get? a = some { cls := .type "list", data := .seq vs.toArray } → IntsAre vs ns → ns.length ≤ n → s₁.gens = #[] →
      codeAny (model l.prog w) callerA (.call (.ref fa) ⟨[.ref a], []⟩) (fun r s' => r = .ok (.ret (.bool true)) ∧ OldK s₁.heap s'.heap ∧ s'.os = s₁.os ∧ AllBare s'.gens) s₁) :
    WalkO q loose XP YP l.row.toRowW d [] (fun f vs => PySem.call f vs) := by
  intro w s₀ s₁ mg mb G Y fa o pm cd doc dV kV ho hd hcd hD hmg hg args vals as hpre hlay hrd hwl hlo
  obtain rfl : dV = .none := Dflts.none hD hdf
  obtain rfl : kV = .none := Dflts.noKw hD
  obtain ⟨a, vs, ns, rfl, rfl, hobj, hints, hlen⟩ := script_of hn hpre hwl
  refine enter_call (codeAny_mono (call w s₀ s₁ mg mb fa o pm cd doc a vs ns G Y ho (fd_plain hd) hcd hmg hobj hints hlen hg) fun r s' hq => ?_)
  obtain ⟨rfl, h2, h3, h4⟩ := hq
  exact ⟨.inl ⟨.bool true, .bool true, [], rfl, fun _ => rfl, .bool true, post_true l _, fun _ => ⟨List.Pairwise.nil, fun _ hm => (nomatch hm)⟩⟩, h2, h3, h4⟩

/-! ### rules over ANY heap (no ledger) from facts about the written part K: the library's own take a ledger (News) for what they write -/
section
variable {prog : Program} {w : World} {A : Around} {E : Value → Shared → Prop} {s : Shared} {K : Frag}

/-! the whole heap as the ledger: makes every rule that writes through a ledger a rule over any heap -/
def noObjs (h : Heap) : Heap := { h with objs := #[] }
def ledger (h : Heap) (L d : Addr) : List (Addr × Obj) := (List.range h.objs.size).filterMap fun a => if a = L ∨ a = d then none else (h.get? a).map fun o => (a, o)
end
end Att

namespace L2
open PySem PySem.Spec PyProof.Rows

theorem vals_ints : ∀ {vs : List Value} {ns : List Int}, IntsAre vs ns → Vals (ns.map V.int) vs
  | _, _, .nil => .nil
  | _, _, .cons n t h => .cons ⟨t, rfl⟩ (vals_ints h)

/-- nothing is tracked but the script, known to the object (or it is an object of the module) -/
def Only (H : Hp) : Prop := ∀ b, H b = none ∨ ∃ o xs, H b = some (.frz o (.lst xs))

/-- THE HEAD: the law's promise, at the heap behind the top. F, the promise of the law's def, may use that base is part of the heap (so K.In base, base.Ns mainGlobals mg stand in Mod) -/
theorem law_call {P : Program} {w : World} {K : PySem.W.Frag} {mg mb : Str → Option Value} {CX : CXT} {k : Nat} {fa a : Addr} {fd : FuncData} {x : Str} {sp : Sp} {s₁ : Shared} {vs : List Value} {ns : List Int}
    (KX : K.In s₁.heap) (hns : s₁.heap.Ns mainGlobals mg) (hb : s₁.heap.Ns builtinsNs mb) (hbb : ∀ x : Str, x ≠ "__name__" → mb x = bootBuiltins x) (hlim : s₁.heap.NoLimit) (hg : s₁.gens = #[])
    (ha : s₁.heap.get? a = some { cls := .type "list", data := .seq vs.toArray }) (hi : IntsAre vs ns) (hl : ns.length ≤ sizeLine) (hr : Room k callerA)
    (F : ∀ base : Heap, K.In base → base.Ns mainGlobals mg → FnOk P w K mg base CX k fa fd [x] sp) (hbind : ∀ (s : Shared) (u : Value), BindsTo s fd ⟨[u], []⟩ [(x, u)])
    (hsp : ∀ H : Hp, Only H → SqL K H a (ns.map V.int) → sp [.ref a] H (fun v _ => v = .bl true) fun _ _ _ => False)
    (hCX : ∀ H e s', CX [] H s₁ (fun _ _ _ => False) e s' → False) :
    codeAny (model P w) callerA (.call (.ref fa) ⟨[.ref a], []⟩) (fun r s' => r = .ok (.ret (.bool true)) ∧ OldK s₁.heap s'.heap ∧ s'.os = s₁.os ∧ AllBare s'.gens) s₁ := by
  have rv := vals_ints hi
  have lenV := hi.length
  -- from an abstract heap in which nothing but the script may be tracked
  have core : ∀ H : Hp, Only H → SqL K H a (ns.map V.int) → HOk P w H s₁.heap → (∀ b, H b ≠ none → b = a) → (H a ≠ none → K.lookup a = none) →
      codeAny (model P w) callerA (.call (.ref fa) ⟨[.ref a], []⟩) (fun r s' => r = .ok (.ret (.bool true)) ∧ OldK s₁.heap s'.heap ∧ s'.os = s₁.os ∧ AllBare s'.gens) s₁ := by
    intro H hO hS hok hA hK
    have base_of : ∀ {b : Addr} {o : Obj}, s₁.heap.get? b = some o → H b = none → (hidT s₁.heap H).get? b = some o := fun e n => hidT_get e n
    have noA : ∀ {b : Addr} {o : Obj} {es : Array DictEntry} {ep : Nat}, s₁.heap.get? b = some o → o.data = .dict es ep → H b = none := fun {b o es ep} e d => by
      cases q : H b with
      | none => rfl
      | some u =>
        have e' : b = a := hA b (by rw [q]; simp)
        subst e'
        rw [ha] at e; cases e
        have d' : Data.seq vs.toArray _ = Data.dict es ep := d
        cases d'
    have nsK : ∀ {b : Addr} {m : Str → Option Value}, s₁.heap.Ns b m → (hidT s₁.heap H).Ns b m := fun {b m} ⟨o, es, ep, e, d, r⟩ => ⟨o, es, ep, base_of e (noA e d), d, r⟩
    have hKb : K.In (hidT s₁.heap H) := fun b o e => base_of (KX b o e) (by
      cases q : H b with
      | none => rfl
      | some u =>
        have e' : b = a := hA b (by rw [q]; simp)
        subst e'
        rw [hK (by rw [q]; simp)] at e; cases e)
    have hM : Mod K mg (hidT s₁.heap H) := ⟨hKb, nsK hns, ⟨mb, nsK hb, hbb⟩, let ⟨mc, h1, h2⟩ := hlim; ⟨mc, nsK h1, h2⟩⟩
    have e0 : Env0 P w K mg (hidT s₁.heap H) callerA [] s₁ H := ⟨rfl, hM, fun b o e => of_hidT e, Nat.le_of_eq (hidT_size _ _), trivial, fun b hb => absurd (show b ∈ ([] : List Addr) from hb) (by simp), hok, .of_eq hg⟩
    refine codeAny_mono ((F _ hKb (nsK hns)).run callerA [] s₁ H ⟨[.ref a], []⟩ [.ref a] [.ref a] _ _ hr e0 (hbind s₁ (.ref a)) (.cons rfl .nil) (hsp H hO hS)) fun r s' h => ?_
    cases r with
    | error e => exact (hCX H e s' h).elim
    | ok fl =>
      cases fl with
      | next => exact False.elim h
      | brk => exact False.elim h
      | cont => exact False.elim h
      | ret u =>
        obtain ⟨v, H', os, bare, un, hok', r', q⟩ := h
        have q' : v = .bl true := q
        subst q'
        obtain rfl : u = Value.bool true := r'
        refine ⟨rfl, OldK.of_keep fun b o e => ?_, os, bare⟩
        cases q : H b with
        | none => exact un.keep b o e q (by intro z; exact absurd (show b ∈ ([] : List Addr) from z) (by simp)) (by simp)
        | some u =>
          rcases hO b with z | ⟨ob, xs, z⟩
          · rw [q] at z; cases z
          · have z2 := un.frzs b ob _ z
            obtain ⟨e1, _⟩ := hok b _ z
            obtain ⟨e2, _⟩ := hok' b _ z2
            rw [e] at e1; cases e1
            exact e2
  cases hk : K.lookup a with
  | some o =>
    -- the script is one of the module's own objects
    have e := KX a o hk
    rw [ha] at e
    cases e
    refine core (fun _ => none) (fun _ => .inl rfl) (.inr ⟨_, vs.toArray, _, hk, rfl, rfl, rfl, by rw [List.size_toArray, lenV]; exact hl, by simpa using rv⟩) (fun b u z => by have z' : (none : Option HO) = some u := z; cases z') (fun b z => absurd rfl z) fun z => absurd rfl z
  | none =>
    refine core (fun b => if b = a then some (.frz { cls := .type "list", data := .seq vs.toArray } (.lst (ns.map V.int))) else none) (fun b => ?_) (.inl (.inr ⟨{ cls := .type "list", data := .seq vs.toArray }, if_pos rfl⟩)) (fun b u z => ?_) (fun b z => ?_) fun _ => hk
    · by_cases hb : b = a
      · exact .inr ⟨_, _, if_pos hb⟩
      · exact .inl (if_neg hb)
    · by_cases hb : b = a
      · have z' := (if_pos hb).symm.trans z
        cases z'
        subst hb
        exact ⟨ha, by rw [List.length_map]; exact hl, vs, _, rv, ha⟩
      · have z' := (if_neg hb).symm.trans z
        cases z'
    · by_cases hb : b = a
      · exact hb
      · exact absurd (if_neg hb) z
end L2

namespace L2
open PySem PySem.Spec PyProof.Rows

abbrev KOf {K : PySem.W.Frag} {h : Heap} (_ : K.In h) : PySem.W.Frag := K

/-- the goal that k_head leaves (case hc), from the law's promise. F gives the function object fd (K's own) once, then the promise over every base -/
theorem walk_of {l : PySem.W.OpenLaw} {n k : Nat} {q : Program} {loose : List Str} {XP : (Str → Option Value) → Heap → Prop} {YP : World → Heap → Prop} {d : DefRec} {K : Params → PySem.W.Frag} {CX : World → CXT} {sp : World → Sp} {x : Str}
    (hn : l.most = some n) (hn2 : n ≤ sizeLine) (hdf : d.params.defaults = []) (hr : Room k callerA)
    (hY : ∀ (w : World) (h : Heap), YP w h → (K w.params).In h)
    (F : ∀ (w : World) (mg : Str → Option Value) (fa : Addr) (h : Heap), (K w.params).In h → h.Ns mainGlobals mg → mg d.name = some (.ref fa) →
      ∃ fd : FuncData, (∀ (s : Shared) (u : Value), BindsTo s fd ⟨[u], []⟩ [(x, u)]) ∧
        ∀ base : Heap, (K w.params).In base → base.Ns mainGlobals mg → FnOk l.prog w (K w.params) mg base (CX w) k fa fd [x] (sp w))
    (hsp : ∀ (w : World) (H : Hp) (a : Addr) (ns : List Int), ns.length ≤ n → Only H → SqL (K w.params) H a (ns.map V.int) → sp w [.ref a] H (fun v _ => v = .bl true) fun _ _ _ => False)
    (hCX : ∀ (w : World) (H : Hp) (s : Shared) (e : Value) (s' : Shared), CX w [] H s (fun _ _ _ => False) e s' → False) :
    PySem.W.WalkO q loose XP YP l.row.toRowW d [] (fun f vs => PySem.call f vs) := by
  refine Att.attach_call hn hdf fun w s₀ s₁ mg mb fa o pm cd doc a vs ns G Y ho hd hcd hmg hobj hints hlen hg => ?_
  have KX := hY w _ Y
  obtain ⟨fd, hb, hF⟩ := F w mg fa _ KX G.T.g hmg
  exact law_call KX G.T.g G.T.b G.T.builtins G.T.nolimit hg hobj hints (Nat.le_trans hlen hn2) hr hF hb (fun H hO hS => hsp w H a ns hlen hO hS) fun H e s' => hCX w H s₁ e s'
end L2

/- THE LAST THEOREM (shape; LID, My.* are yours):
   My.Adr: a structure of the addresses that your layer names (classes, functions); My.Txt K t: a structure (Prop) of the equations over K;
   My.txt_mk : {K} {implicit addresses ..} (e1 : nsIn K mainGlobals "law" = some (some (.ref f))) (e2 : K.lookup f = some ⟨oc, od, .func (fnOf "law" "law" params body scope dV kV doc pm an cdv ct), sl⟩) (e3 : codeIn K cdv "law" = true) .. : ∃ t, My.Txt K t

set_option maxRecDepth 100000 in
set_option maxHeartbeats 0 in
theorem PySem.Challenge.cw_LID_holds : PySem.Challenge.rw_LID.Holds := by
  w_on; o_law; k_head; (case hw => w_witness2)
  k_fill
  refine L2.walk_of (l := PySem.Challenge.rw_LID) (n := 63) (k := 40) (x := "script") (CX := fun w => ..) (sp := fun _ => My.sp_law) rfl (by decide) rfl ⟨rfl, by decide, by decide⟩ (fun w h Y => PySem.W.kIn_of Y) ?F ?S ?C
  case F =>
    intro w mg fa h KX G hmg
    have T : ∃ t, My.Txt (L2.KOf KX) t := by
      dsimp only [L2.KOf]                          -- K must stand as «<heap const> w.params» for k_is
      refine' My.txt_mk ?e1 ?e2 ?e3 ..
      (case e1 => PySem.W.k_is)                    -- in the order: a name -> its address -> its object -> its parts
      (case e2 => PySem.W.k_is)
      ..
    obtain ⟨t, T⟩ := T
    have e0 := hmg.symm.trans (PySem.W.mg_of KX G T.law)
    cases e0                                       -- fa is the law's own address
    exact ⟨_, fun s u => .of_eq rfl, fun base kb nb => My.law_fn T kb nb⟩     -- if «.of_eq rfl» comes too early: refine' ⟨_, ?b, fun base kb nb => My.law_fn T kb nb⟩; exact fun s u => .of_eq rfl
  case S => exact fun w H a ns hl hO hS => ..
  case C => exact ..
(the tactic k_is has no namespace: write k_is) -/

/-! SHORT WORDS over the layer: a def of the text, its body, what a loop and a test want. -/
namespace L2
open PySem PySem.Spec PyProof.Rows

/-! ### the text by places -/
/-- the j-th statement of a class's body -/
def inClass (s : Stmt) (j : Nat) : Stmt := match s with
  | .ClassDef _ _ _ body _ _ _ _ _ _ _ => body.getD j (.Pass ⟨0, 0, 0, 0⟩)
  | _ => .Pass ⟨0, 0, 0, 0⟩
def defArgs (s : Stmt) : Arguments := match s with
  | .FunctionDef _ a _ _ _ _ _ _ _ _ => a
  | _ => { posonlyargs := [], args := [], vararg := none, kwonlyargs := [], kw_defaults := [], kwarg := none, defaults := [] }
def defBody (s : Stmt) : List Stmt := match s with
  | .FunctionDef _ _ b _ _ _ _ _ _ _ => b
  | _ => []
def defScope (s : Stmt) : Scope := match s with
  | .FunctionDef _ _ _ _ _ _ sc _ _ _ => sc
  | _ => { kind := .function, names := [], isGenerator := false, isCoroutine := false }

/-! ### no exception leaves a def -/
abbrev CX0 : CXT := fun _ _ _ _ _ _ => False
abbrev E0 : XK := fun _ _ _ => False
theorem pass0 {X : Cx} : Passes CX0 X E0 := fun _ _ _ _ _ _ _ h => h.elim

/-! ### a def (or method) of the text as it stands behind the top -/
structure Fun (K : PySem.W.Frag) (x qual : Str) (st : Stmt) (f : Addr) (fd : FuncData) : Prop where
  ex : ∃ (oc : Value) (od : Option Addr) (kV doc pm : Value) (an : Option Addr) (cdv ct : Value) (osl : Array (Option Value)),
    fd = PySem.W.fnOf x qual (defArgs st) (defBody st) (defScope st) .none kV doc pm an cdv ct ∧ K.lookup f = some ⟨oc, od, .func fd, osl⟩ ∧ PySem.W.codeIn K cdv qual = true
  kp : PySem.W.keepIn K (.ref f) = true
section
variable {P : Program} {w : World} {K : PySem.W.Frag} {mg : Str → Option Value} {base : Heap}
/-- THE RULE for a def: its body as a term of rules, and the reading of that term -/
theorem Fun.ok {x qual : Str} {st : Stmt} {f : Addr} {fd : FuncData} {N ps : List Str} {k : Nat} {sp : Sp} (F : Fun K x qual st f fd) (S : FnScope N ps (defScope st)) (len : ∀ vs H Q E, sp vs H Q E → vs.length = ps.length)
    (hbody : ∀ (cdv : Value) (A : Around) (outer : List Env) (s : Shared) (H : Hp) (vs : List V) (Q : VK) (E : XK), Room k (A.deeper (envOfC qual (defScope st) s.heap.objs.size f cdv)) → sp vs H Q E →
      ∃ t, PSs (cxOf CX0 P w K mg base N qual (defScope st) f cdv A outer s H E).nox (defBody st) t ∧ t { nx := fun _ H' => Q .non H', rt := Q } (start N vs) H) : FnOk P w K mg base CX0 (k + 1) f fd ps sp := by
  obtain ⟨oc, od, kV, doc, pm, an, cdv, ct, osl, rfl, lk, hcd⟩ := F.ex
  refine fn_of lk hcd S len fun A outer s H vs Q E hr hsp => ?_
  obtain ⟨t, h, q⟩ := hbody cdv A outer s H vs Q E hr hsp
  exact ⟨t, h.nox, q⟩
/-- how its arguments bind (no defaults): h is «fun _ _ _ _ _ _ us hl => match us, hl with | [_, _], _ => rfl», one _ a parameter -/
theorem Fun.binds {x qual : Str} {st : Stmt} {f : Addr} {fd : FuncData} {ps : List Str} (F : Fun K x qual st f fd)
    (h : ∀ (kV doc pm : Value) (an : Option Addr) (cdv ct : Value) (us : List Value), us.length = ps.length → bindArgs (PySem.W.fnOf x qual (defArgs st) (defBody st) (defScope st) .none kV doc pm an cdv ct) ⟨us, []⟩ = pure (ps.zip us)) : Binds K fd ps [] := by
  obtain ⟨oc, od, kV, doc, pm, an, cdv, ct, osl, rfl, lk, hcd⟩ := F.ex
  exact .all (h kV doc pm an cdv ct)
theorem fun_mk {x qual : Str} {st : Stmt} {f : Addr} {oc : Value} {od an : Option Addr} {osl : Array (Option Value)} {kV doc pm cdv ct : Value} (l : K.lookup f = some ⟨oc, od, .func (PySem.W.fnOf x qual (defArgs st) (defBody st) (defScope st) .none kV doc pm an cdv ct), osl⟩)
    (c : PySem.W.codeIn K cdv qual = true) (k : PySem.W.keepIn K (.ref f) = true) : Fun K x qual st f (PySem.W.fnOf x qual (defArgs st) (defBody st) (defScope st) .none kV doc pm an cdv ct) := ⟨⟨oc, od, kV, doc, pm, an, cdv, ct, osl, rfl, l, c⟩, k⟩
end
theorem small1000 {n : Nat} (h : n ≤ 1000) : n < sizeLine := Nat.lt_of_le_of_lt h (by decide)

/-! ### expressions in short: the name that stands in the i-th slot -/
section
variable {X : Cx}
theorem pv (i : Nat) {x : Str} {pos : Pos} (hN : X.N[i]? = some x := by rfl) (hv : Vis X.env.scope x := by first | exact Or.inl rfl | exact Or.inr (Or.inl rfl) | exact Or.inr (Or.inr rfl)) (hd : (x == ("__debug__" : Str)) = false := by decide)
    (hcd : (x == ("__classdict__" : Str)) = false := by decide) : PE X (.Name x pos) (tVar i) := pe_var hN hv hd hcd
end

/-! ### tests -/
theorem iteF {A B : Prop} (h : B) : if false = true then A else B := by
  rw [if_neg Bool.false_ne_true]
  exact h
theorem iteT {A B : Prop} (h : A) : if true = true then A else B := by
  rw [if_pos rfl]
  exact h
theorem ite2 {c A B : Prop} [Decidable c] (h1 : c → A) (h2 : ¬ c → B) : if c then A else B := by
  by_cases h : c
  · rw [if_pos h]
    exact h1 h
  · rw [if_neg h]
    exact h2 h
/-! ### heaps -/
/-- all that was tracked is as it was -/
def Same (H H' : Hp) : Prop := ∀ b o, H b = some o → H' b = some o
theorem Same.refl (H : Hp) : Same H H := fun _ _ h => h
theorem Same.trans {H H1 H2 : Hp} (a : Same H H1) (b : Same H1 H2) : Same H H2 := fun c o h => b c o (a c o h)
theorem Same.free {H H' : Hp} (e : Same H H') {l : Addr} (h : H' l = Option.none) : H l = Option.none := by
  cases q : H l with
  | none => rfl
  | some o =>
    rw [e l o q] at h
    cases h
theorem Same.seq {K : PySem.W.Frag} {H H' : Hp} {a : Addr} {xs : List V} (e : Same H H') (h : SqL K H a xs) : SqL K H' a xs := by
  rcases h with (h | ⟨o, h⟩) | h
  · exact .inl (.inl (e _ _ h))
  · exact .inl (.inr ⟨o, e _ _ h⟩)
  · exact .inr h

end L2

set_option Elab.async false
set_option linter.all false
set_option maxRecDepth 100000
set_option maxHeartbeats 4000000
/-! Rules beyond the layer: deep data, isinstance, chains of three, list(range(..)), is True; and the words by which a reading is reckoned out. -/
namespace L2
open PySem PySem.Spec PyProof.Rows

/-! ### plain data on the abstract heap -/
mutual
inductive Rep (K : PySem.W.Frag) (H : Hp) : V → PyData → Prop
  | non : Rep K H .non .none
  | bl (b : Bool) : Rep K H (.bl b) (.bool b)
  | int (i : Int) : Rep K H (.int i) (.int i)
  | str (x : Str) : Rep K H (.str x) (.str x)
  | tup {a : Addr} {xs : List V} {ds : List PyData} : SqT K H a xs → RepL K H xs ds → Rep K H (.ref a) (.tuple ds)
  | lst {a : Addr} {xs : List V} {ds : List PyData} : SqL K H a xs → RepL K H xs ds → Rep K H (.ref a) (.list ds)
inductive RepL (K : PySem.W.Frag) (H : Hp) : List V → List PyData → Prop
  | nil : RepL K H [] []
  | cons {x : V} {xs : List V} {d : PyData} {ds : List PyData} : Rep K H x d → RepL K H xs ds → RepL K H (x :: xs) (d :: ds)
end
section
variable {X : Cx} {pins : List (Addr × Obj)} {σ : St} {H : Hp} {s : Shared}
mutual
theorem Rep.reads (I : Inv X pins σ H s) : ∀ {x : V} {d : PyData} {u : Value}, Rep X.K H x d → RelV x u → ∃ as, Reads s.heap u d as
  | _, _, _, .non, r => by cases r; exact ⟨_, .none⟩
  | _, _, _, .bl b, r => by cases r; exact ⟨_, .bool b⟩
  | _, _, _, .int i, r => by obtain ⟨t, rfl⟩ := r; exact ⟨_, .int i t⟩
  | _, _, _, .str x, r => by obtain ⟨t, rfl⟩ := r; exact ⟨_, .str x t⟩
  | _, _, _, .tup h hl, r => by
    cases r
    obtain ⟨its, vs, ⟨o, e, c, n, dd⟩, _⟩ := I.tuple h
    obtain ⟨as, ra⟩ := RepL.reads I hl vs
    exact ⟨_, .tuple e c dd (by simpa using ra)⟩
  | _, _, _, .lst h hl, r => by
    cases r
    obtain ⟨its, vs, pl, _⟩ := I.list h
    obtain ⟨o, e, c, n, dd⟩ := pl.isList
    obtain ⟨as, ra⟩ := RepL.reads I hl vs
    exact ⟨_, .list e c dd (by simpa using ra)⟩
theorem RepL.reads (I : Inv X pins σ H s) : ∀ {xs : List V} {ds : List PyData} {us : List Value}, RepL X.K H xs ds → Vals xs us → ∃ as, ReadsAll s.heap us ds as
  | _, _, _, .nil, .nil => ⟨_, .nil⟩
  | _, _, _, .cons h hl, .cons r rs => by
    obtain ⟨as, ra⟩ := Rep.reads I h r
    obtain ⟨bs, rb⟩ := RepL.reads I hl rs
    exact ⟨_, .cons ra rb⟩
end
end

/-! ### == and != of plain data, in -/
def rEqD (K : PySem.W.Frag) (neg : Bool) : R2 := fun x y H Q => ∃ d e, Rep K H x d ∧ Rep K H y e ∧ d.canLay0 = true ∧ e.canLay0 = true ∧ min d.depth e.depth ≤ 60 ∧
  Q (.bl (if neg then !PyData.eqv d e else PyData.eqv d e)) H
section
variable {X : Cx}
theorem op_eqD (hu : X.A.units + 64 < cLine) : OpR X (compareOp .Eq) (rEqD X.K false) := by
  intro pins s σ H x y v u Q I rx ry h
  obtain ⟨d, e, h1, h2, h3, h4, h5, q⟩ := h
  obtain ⟨as, ra⟩ := h1.reads I rx
  obtain ⟨bs, rb⟩ := h2.reads I ry
  exact SeqAt.compareEq_reads ra rb h3 h4 (by omega) ⟨.bl _, H, I, rfl, q⟩
theorem op_neD (hu : X.A.units + 64 < cLine) : OpR X (compareOp .NotEq) (rEqD X.K true) := by
  intro pins s σ H x y v u Q I rx ry h
  obtain ⟨d, e, h1, h2, h3, h4, h5, q⟩ := h
  obtain ⟨as, ra⟩ := h1.reads I rx
  obtain ⟨bs, rb⟩ := h2.reads I ry
  exact SeqAt.compareNe_reads ra rb h3 h4 (by omega) ⟨.bl _, H, I, rfl, q⟩
open Classical in
/-- the answer for an item, read off the heap -/
noncomputable def eqR (h : Heap) (d : PyData) (u : Value) : Bool := if z : ∃ e as, Reads h u e as ∧ e.canLay0 = true then PyData.eqv z.choose d else false
theorem eqR_of {h : Heap} {d e : PyData} {u : Value} {as : List Addr} (r : Reads h u e as) (c : e.canLay0 = true) : eqR h d u = PyData.eqv e d := by
  have z : ∃ e as, Reads h u e as ∧ e.canLay0 = true := ⟨e, as, r, c⟩
  unfold eqR
  rw [dif_pos z]
  obtain ⟨as', r', c'⟩ := z.choose_spec
  rw [SeqAt.Reads.unique _ _ _ _ _ c' r' r]
theorem any_eqR {h : Heap} {d : PyData} : ∀ {us : List Value} {es : List PyData} {as : List Addr}, ReadsAll h us es as → PyData.canLayAll0 es = true → us.any (eqR h d) = es.any fun e => PyData.eqv e d
  | _, _, _, .nil, _ => rfl
  | _, _, _, .cons r rs, c => by
    have c' : (PyData.canLay0 _ && PyData.canLayAll0 _) = true := c
    rw [Bool.and_eq_true] at c'
    rw [List.any_cons, List.any_cons, eqR_of r c'.1, any_eqR rs c'.2]
theorem mem_eqR {A : Around} {s : Shared} {d : PyData} {x : Value} {bs : List Addr} (rx : Reads s.heap x d bs) (cx : d.canLay0 = true) (hu : A.units + d.depth < cLine) :
    ∀ {us : List Value} {es : List PyData} {as : List Addr}, ReadsAll s.heap us es as → PyData.canLayAll0 es = true → ∀ u ∈ us, SeqAt.EqAt A s u x (eqR s.heap d u)
  | _, _, _, .nil, _ => fun u hu => nomatch hu
  | _, _, _, .cons r rs, c => fun u hm => by
    have c' : (PyData.canLay0 _ && PyData.canLayAll0 _) = true := c
    rw [Bool.and_eq_true] at c'
    rcases List.mem_cons.mp hm with rfl | hm
    · rw [eqR_of r c'.1]
      exact SeqAt.eqAt_reads _ _ A s _ _ _ _ r rx c'.1 cx (by omega)
    · exact mem_eqR rx cx hu rs c'.2 u hm
def rInD (K : PySem.W.Frag) (neg : Bool) : R2 := fun x y H Q => ∃ d es p xs, Rep K H x d ∧ y = .ref p ∧ (SqL K H p xs ∨ SqT K H p xs) ∧ RepL K H xs es ∧ d.canLay0 = true ∧ PyData.canLayAll0 es = true ∧ d.depth ≤ 60 ∧
  Q (.bl (if neg then !(es.any fun e => PyData.eqv e d) else es.any fun e => PyData.eqv e d)) H
theorem op_notInD (hu : X.A.units + 64 < cLine) : OpR X (compareOp .NotIn) (rInD X.K true) := by
  intro pins s σ H x y v u Q I rx ry h
  obtain ⟨d, es, p, xs, h1, rfl, hq, h2, h3, h4, h5, q⟩ := h
  cases ry
  obtain ⟨as, ra⟩ := h1.reads I rx
  rcases hq with hq | hq
  · obtain ⟨its, r, pl, hz⟩ := I.list hq
    obtain ⟨bs, rb⟩ := h2.reads I r
    refine SeqAt.notIn_listAt (eqR s.heap d) pl.isList (fun z hz => mem_eqR (A := X.A.in1) ra h3 (by show X.A.units + 1 + d.depth < cLine; omega) rb h4 z (by simpa using hz)) ⟨.bl _, H, I, rfl, ?_⟩
    rw [show its.toArray.any (eqR s.heap d) = its.any (eqR s.heap d) by simp, any_eqR rb h4]
    exact q
  · obtain ⟨its, r, pl, hz⟩ := I.tuple hq
    obtain ⟨bs, rb⟩ := h2.reads I r
    refine SeqAt.notIn_tupleAt (eqR s.heap d) pl (fun z hz => mem_eqR (A := X.A.in1) ra h3 (by show X.A.units + 1 + d.depth < cLine; omega) rb h4 z (by simpa using hz)) ⟨.bl _, H, I, rfl, ?_⟩
    rw [show its.toArray.any (eqR s.heap d) = its.any (eqR s.heap d) by simp, any_eqR rb h4]
    exact q

/-! ### isinstance(x, T), T a built-in class -/
def rIsi (K : PySem.W.Frag) : List V → Hp → VK → Prop := fun xs H Q => ∃ x T t b, xs = [x, .ty T] ∧ TyOf K H x t ∧ PySem.W.kitOne K t (.type T) = some b ∧ Q (.bl b) H
theorem call_isi : CallR X (.builtin "isinstance") (rIsi X.K) := by
  intro pins s σ H xs us Q I r h
  obtain ⟨x, T, t, b, rfl, ty, e, q⟩ := h
  obtain ⟨u, w, rfl, rx, rw'⟩ := Vals.two r
  cases (show w = Value.type T from rw')
  exact isinst_ok I rx ty e fun tk => ⟨.bl b, H, I.tok tk, rfl, q⟩

/-! ### a op b op c op d -/
def tChain3 (r r' r2 : R2) (ta tb tc td : TE) : TE := fun σ H Q => ta σ H fun x H1 => tb σ H1 fun y H2 => r x y H2 fun z H3 => ∃ k, z = .bl k ∧
  (if k = true then tc σ H3 fun w' H4 => r' y w' H4 fun z2 H5 => ∃ k2, z2 = .bl k2 ∧ (if k2 = true then td σ H5 fun e H6 => r2 w' e H6 Q else Q (.bl false) H5) else Q (.bl false) H3)
/-! ### is True, is not True -/
/-! ### list(range(a, b)) -/
def rngZ (lo : Int) (n : Nat) : List Int := (List.range n).map fun (i : Nat) => lo + (i : Int)
end

/-! ### a def of the text, bundled -/
structure Fn (K : PySem.W.Frag) (mg : Str → Option Value) (x : Str) (st : Stmt) (ps : List Str) : Prop where
  ex : ∃ f fd, Fun K x x st f fd ∧ mg x = some (.ref f) ∧ Binds K fd ps []
structure Def (P : Program) (w : World) (K : PySem.W.Frag) (mg : Str → Option Value) (base : Heap) (k : Nat) (x : Str) (st : Stmt) (ps : List Str) (sp : Sp) : Prop where
  ex : ∃ f fd, Fun K x x st f fd ∧ mg x = some (.ref f) ∧ Binds K fd ps [] ∧ FnOk P w K mg base CX0 k f fd ps sp
theorem Fn.mk' {P : Program} {w : World} {K : PySem.W.Frag} {mg : Str → Option Value} {base : Heap} {k : Nat} {x : Str} {st : Stmt} {ps : List Str} {sp : Sp} (E : Fn K mg x st ps)
    (h : ∀ f fd, Fun K x x st f fd → FnOk P w K mg base CX0 k f fd ps sp) : Def P w K mg base k x st ps sp := by
  obtain ⟨f, fd, F, m, b⟩ := E.ex
  exact ⟨f, fd, F, m, b, h f fd F⟩
theorem Same.new {H H2 : Hp} {l : Addr} {o : HO} (s : Same H H2) (h : H l = none) : Same H (upd H2 l o) := fun b u e => by rw [upd_ne (ne_of_none e h)]; exact s b u e
theorem paired_snoc {α β : Type} {R : α → β → Prop} : ∀ {xs : List α} {ys : List β} {x : α} {y : β}, Paired R xs ys → R x y → Paired R (xs ++ [x]) (ys ++ [y])
  | _, _, _, _, .nil, h => .cons h .nil
  | _, _, _, _, .cons r t, h => .cons r (paired_snoc t h)
theorem paired_imp {α β : Type} {R S : α → β → Prop} : ∀ {xs : List α} {ys : List β}, Paired R xs ys → (∀ a b, R a b → S a b) → Paired S xs ys
  | _, _, .nil, _ => .nil
  | _, _, .cons r t, f => .cons (f _ _ r) (paired_imp t f)
theorem paired_get {α β : Type} {R : α → β → Prop} : ∀ {xs : List α} {ys : List β} {i : Nat} {x : α}, Paired R xs ys → xs[i]? = some x → ∃ y, ys[i]? = some y ∧ R x y
  | _, _, _, _, .nil, e => by simp at e
  | _, _, 0, _, .cons r _, e => by simp at e; subst e; exact ⟨_, rfl, r⟩
  | _, _, i + 1, x, .cons _ t, e => by
    obtain ⟨y, h1, h2⟩ := paired_get (i := i) (x := x) t (by simpa using e)
    exact ⟨y, by simpa using h1, h2⟩
/-- an int of the file's top -/
theorem pe_globI {X : Cx} {x : Str} {i : Int} {pos : Pos} (hg : Gl X x) (hm : ∃ t, X.mg x = some (.int i t)) (hd : (x == ("__debug__" : Str)) = false := by decide) : PE X (.Name x pos) (tC (.int i)) :=
  let ⟨t, h⟩ := hm
  pe_glob hg h ⟨t, rfl⟩ hd
theorem pe_callD {X : Cx} {k : Nat} {x : Str} {st : Stmt} {ps : List Str} {sp : Sp} {e : Expr} {es : List Expr} {t : TA} {p pos : Pos} (D : Def X.prog X.w X.K X.mg X.base k x st ps sp) (hr : Room k X.A) (hg : Gl X x) (ha : PA X (e :: es) t)
    (hdb : (x == ("__debug__" : Str)) = false := by decide) (he : starEach (e :: es) X.env = (false, eval e X.env) :: starEach es X.env := by rfl) (hpl : (backTo pos (starEach es X.env)).any (·.1) = false := by rfl) :
    PE X (.Call (.Name x p) (e :: es) [] pos) (tCall sp [] E0 t) := by
  obtain ⟨f, fd, F, m, b, G⟩ := D.ex
  exact pe_call G hr hg m F.kp b .nil pass0 ha hdb he hpl

/-! ### readings reckoned out -/
section
variable {σ : St} {H : Hp} {Q : VK} {D : Ends}
theorem w_var0 {v : V} : tVar 0 (some v :: σ) H Q = Q v H := propext ⟨fun ⟨_, e, h⟩ => by cases e; exact h, fun h => ⟨v, rfl, h⟩⟩
theorem w_varS {i : Nat} {x : Option V} : tVar (i + 1) (x :: σ) H Q = tVar i σ H Q := rfl
theorem w_c {v : V} : tC v σ H Q = Q v H := rfl
theorem w_op {r : R2} {ta tb : TE} : tOp r ta tb σ H Q = ta σ H fun x H1 => tb σ H1 fun y H2 => r x y H2 Q := rfl
theorem w_un {r : V → Hp → VK → Prop} {ta : TE} : tUn r ta σ H Q = ta σ H fun x H1 => r x H1 Q := rfl
theorem w_I0 {g : Int → Int → V} {i j : Int} : rI0 g (.int i) (.int j) H Q = Q (g i j) H := propext ⟨fun ⟨_, _, e, e', h⟩ => by cases e; cases e'; exact h, fun h => ⟨i, j, rfl, rfl, h⟩⟩
theorem w_I {C : Int → Int → Prop} {g : Int → Int → V} {i j : Int} : rI C g (.int i) (.int j) H Q = (C i j ∧ Q (g i j) H) := propext ⟨fun ⟨_, _, e, e', h⟩ => by cases e; cases e'; exact h, fun h => ⟨i, j, rfl, rfl, h⟩⟩
theorem w_U {g : Int → V} {i : Int} : rU g (.int i) H Q = Q (g i) H := propext ⟨fun ⟨_, e, h⟩ => by cases e; exact h, fun h => ⟨i, rfl, h⟩⟩
theorem w_eqI {i j : Int} : rEq (.int i) (.int j) H Q = Q (.bl (decide (i = j))) H := propext ⟨fun ⟨_, h⟩ => by simpa using h, fun h => ⟨rfl, by simpa using h⟩⟩
theorem w_neI {i j : Int} : rNe (.int i) (.int j) H Q = Q (.bl (!decide (i = j))) H := propext ⟨fun ⟨_, h⟩ => by simpa using h, fun h => ⟨rfl, by simpa using h⟩⟩
theorem w_eqS {i j : Str} : rEq (.str i) (.str j) H Q = Q (.bl (decide (i = j))) H := propext ⟨fun ⟨_, h⟩ => by simpa using h, fun h => ⟨rfl, by simpa using h⟩⟩
theorem w_neS {i j : Str} : rNe (.str i) (.str j) H Q = Q (.bl (!decide (i = j))) H := propext ⟨fun ⟨_, h⟩ => by simpa using h, fun h => ⟨rfl, by simpa using h⟩⟩
theorem w_eqB {i j : Bool} : rEq (.bl i) (.bl j) H Q = Q (.bl (decide (i = j))) H := propext ⟨fun ⟨_, h⟩ => by simpa using h, fun h => ⟨rfl, by simpa using h⟩⟩
theorem w_neB {i j : Bool} : rNe (.bl i) (.bl j) H Q = Q (.bl (!decide (i = j))) H := propext ⟨fun ⟨_, h⟩ => by simpa using h, fun h => ⟨rfl, by simpa using h⟩⟩
theorem w_exB {b : Bool} {q : Bool → Prop} : (∃ k, V.bl b = .bl k ∧ q k) = q b := propext ⟨fun ⟨_, e, h⟩ => by cases e; exact h, fun h => ⟨b, rfl, h⟩⟩
theorem w_exI {b : Int} {q : Int → Prop} : (∃ k, V.int b = .int k ∧ q k) = q b := propext ⟨fun ⟨_, e, h⟩ => by cases e; exact h, fun h => ⟨b, rfl, h⟩⟩
theorem w_addS {i j : Str} {q : Str → Str → Prop} : (∃ a b, V.str i = .str a ∧ V.str j = .str b ∧ q a b) = q i j :=
  propext ⟨fun ⟨_, _, e, e', h⟩ => by cases e; cases e'; exact h, fun h => ⟨i, j, rfl, rfl, h⟩⟩
theorem w_K {CX : CXT} {P : Program} {w : World} {K : PySem.W.Frag} {mg : Str → Option Value} {base : Heap} {N : List Str} {qual : Str} {scope : Scope} {f : Addr} {cd : Value} {A : Around} {outer : List Env} {s : Shared} {H : Hp} {E : XK} : (cxOf CX P w K mg base N qual scope f cd A outer s H E).K = K := rfl
theorem w_aug {i : Nat} {te : TE} {ti : TIp} : tAug i te ti D σ H = tVar i σ H fun x _ => te σ H fun y H1 => ti x y H1 fun z H2 => D.nx (σ.set i (some z)) H2 := rfl
theorem w_ip {f : Int → Int → Int} {i j : Int} : ipI f (.int i) (.int j) H Q = Q (.int (f i j)) H := propext ⟨fun ⟨_, _, e, e', h⟩ => by cases e; cases e'; exact h, fun h => ⟨i, j, rfl, rfl, h⟩⟩
theorem w_exB2 {a b : Bool} {q : Bool → Bool → Prop} : (∃ c d, V.bl a = .bl c ∧ V.bl b = .bl d ∧ q c d) = q a b := propext ⟨fun ⟨_, _, e, e', h⟩ => by cases e; cases e'; exact h, fun h => ⟨a, b, rfl, rfl, h⟩⟩
theorem w_exR {a : Addr} {q : Addr → Prop} : (∃ b, V.ref a = .ref b ∧ q b) = q a := propext ⟨fun ⟨_, e, h⟩ => by cases e; exact h, fun h => ⟨a, rfl, h⟩⟩
theorem w_exR2 {α : Type} {a : Addr} {q : Addr → α → Prop} : (∃ b y, V.ref a = .ref b ∧ q b y) = ∃ y, q a y := propext ⟨fun ⟨_, y, e, h⟩ => by cases e; exact ⟨y, h⟩, fun ⟨y, h⟩ => ⟨a, y, rfl, h⟩⟩
theorem w_ex1I {i : Int} {q : Int → Prop} : (∃ j, [V.int i] = [.int j] ∧ q j) = q i := propext ⟨fun ⟨_, e, h⟩ => by cases e; exact h, fun h => ⟨i, rfl, h⟩⟩
theorem w_ex1S {i : Str} {q : Str → Prop} : (∃ j, [V.str i] = [.str j] ∧ q j) = q i := propext ⟨fun ⟨_, e, h⟩ => by cases e; exact h, fun h => ⟨i, rfl, h⟩⟩
theorem w_ex1R {α : Type} {i : Addr} {q : Addr → α → Prop} : (∃ j y, [V.ref i] = [.ref j] ∧ q j y) = ∃ y, q i y := propext ⟨fun ⟨_, y, e, h⟩ => by cases e; exact ⟨y, h⟩, fun ⟨y, h⟩ => ⟨i, y, rfl, h⟩⟩
theorem w_ex2R {α β : Type} {i : Addr} {q : Addr → α → β → Prop} : (∃ j y z, [V.ref i] = [.ref j] ∧ q j y z) = ∃ y z, q i y z := propext ⟨fun ⟨_, y, z, e, h⟩ => by cases e; exact ⟨y, z, h⟩, fun ⟨y, z, h⟩ => ⟨i, y, z, rfl, h⟩⟩
theorem w_ex2I {i j : Int} {q : Int → Int → Prop} : (∃ a b, [V.int i, V.int j] = [.int a, .int b] ∧ q a b) = q i j := propext ⟨fun ⟨_, _, e, h⟩ => by cases e; exact h, fun h => ⟨i, j, rfl, h⟩⟩
theorem w_int1 {b : Bool} {q : Int → Prop} {r : Bool → Prop} : ((∃ i, [V.bl b] = [.int i] ∧ q i) ∨ ∃ k, [V.bl b] = [.bl k] ∧ r k) = r b :=
  propext ⟨fun h => by rcases h with ⟨_, e, _⟩ | ⟨_, e, h⟩ <;> cases e; exact h, fun h => .inr ⟨b, rfl, h⟩⟩
theorem w_ixS {z : Str} {i : Int} : rIxS (.str z) (.int i) H Q = (z.length ≤ sizeLine ∧ ∃ c, atI z.cps.toList i = some c ∧ Q (.str ⟨#[c]⟩) H) :=
  propext ⟨fun ⟨_, _, c, e, e', h1, h2, h3⟩ => by cases e; cases e'; exact ⟨h1, c, h2, h3⟩, fun ⟨h1, c, h2, h3⟩ => ⟨z, i, c, rfl, rfl, h1, h2, h3⟩⟩
theorem w_ixL {K : PySem.W.Frag} {p : Addr} {i : Int} : rIxL K (.ref p) (.int i) H Q = ∃ xs v, SqL K H p xs ∧ atI xs i = some v ∧ Q v H :=
  propext ⟨fun ⟨_, xs, _, v, e, e', h⟩ => by cases e; cases e'; exact ⟨xs, v, h⟩, fun ⟨xs, v, h⟩ => ⟨p, xs, i, v, rfl, rfl, h⟩⟩
theorem w_ixT {K : PySem.W.Frag} {p : Addr} {i : Int} : rIxT K (.ref p) (.int i) H Q = ∃ xs v, SqT K H p xs ∧ atI xs i = some v ∧ Q v H :=
  propext ⟨fun ⟨_, xs, _, v, e, e', h⟩ => by cases e; cases e'; exact ⟨xs, v, h⟩, fun ⟨xs, v, h⟩ => ⟨p, xs, i, v, rfl, rfl, h⟩⟩
theorem w_app {l : Addr} {y : V} : rAppend (.ref l) [y] H Q = ∃ xs, H l = some (.lst xs) ∧ xs.length < sizeLine ∧ Q .non (upd H l (.lst (xs ++ [y]))) :=
  propext ⟨fun ⟨_, xs, _, e, e', h⟩ => by cases e; cases e'; exact ⟨xs, h⟩, fun ⟨xs, h⟩ => ⟨l, xs, y, rfl, rfl, h⟩⟩
theorem w_pop {l : Addr} : rPop (.ref l) [] H Q = ∃ xs y, H l = some (.lst xs) ∧ xs[xs.length - 1]? = some y ∧ Q y (upd H l (.lst xs.dropLast)) :=
  propext ⟨fun ⟨_, xs, y, e, _, h⟩ => by cases e; exact ⟨xs, y, h⟩, fun ⟨xs, y, h⟩ => ⟨l, xs, y, rfl, rfl, h⟩⟩
theorem got_map {α : Type} {f : α → V} {l : List α} {k : Nat} {y : V} (h : (l.map f)[k]? = some y) : ∃ x, l[k]? = some x ∧ y = f x := by
  rw [List.getElem?_map] at h
  cases e : l[k]? with
  | none => rw [e] at h; cases h
  | some x => rw [e] at h; exact ⟨x, rfl, (Option.some.inj h).symm⟩
theorem w_tyL {K : PySem.W.Frag} {l : Addr} {xs : List V} (h : H l = some (.lst xs)) : tyV K "list" (.ref l) H := .inl ⟨rfl, xs, SqL.of h⟩
theorem w_test {t : TE} {q : Bool → Hp → Prop} : tTest t σ H q = t σ H fun x H' => ∃ k, x = .bl k ∧ q k H' := rfl
theorem w_tB {t : TE} {q : Bool → Hp → Prop} : tB t σ H q = t σ H fun x H' => ∃ k, x = .bl k ∧ q k H' := rfl
theorem w_and {t u : TT} {q : Bool → Hp → Prop} : tAnd t u σ H q = t σ H fun c H1 => if c = true then u σ H1 q else q false H1 := rfl
theorem w_or {t u : TT} {q : Bool → Hp → Prop} : tOr t u σ H q = t σ H fun c H1 => if c = true then q true H1 else u σ H1 q := rfl
theorem w_not {t : TT} {q : Bool → Hp → Prop} : tNot t σ H q = t σ H fun c H1 => q (!c) H1 := rfl
theorem w_andV {ta tb : TE} : tAndV ta tb σ H Q = ta σ H fun x H1 => ∃ c, x = .bl c ∧ if c = true then tb σ H1 Q else Q (.bl false) H1 := rfl
theorem w_orV {ta tb : TE} : tOrV ta tb σ H Q = ta σ H fun x H1 => ∃ c, x = .bl c ∧ if c = true then Q (.bl true) H1 else tb σ H1 Q := rfl
theorem w_notV {ta : TE} : tNotV ta σ H Q = ta σ H fun x H1 => ∃ c, x = .bl c ∧ Q (.bl (!c)) H1 := rfl
theorem w_if {t : TT} {ta tb : TE} : tIf t ta tb σ H Q = t σ H fun c H1 => if c = true then ta σ H1 Q else tb σ H1 Q := rfl
theorem w_seq {t u : TS} : tSeq t u D σ H = t { nx := u D, rt := D.rt, bk := D.bk, ct := D.ct } σ H := rfl
theorem w_next : tNext D σ H = D.nx σ H := rfl
theorem w_brk : tBreak D σ H = D.bk σ H := rfl
theorem w_cont : tCont D σ H = D.ct σ H := rfl
theorem w_drop {te : TE} : tDrop te D σ H = te σ H fun _ H1 => D.nx σ H1 := rfl
theorem w_ret {te : TE} : tRet te D σ H = te σ H D.rt := rfl
theorem w_retN : tRetN D σ H = D.rt .non H := rfl
theorem w_ifS {c : TT} {t u : TS} : tIfS c t u D σ H = c σ H fun b H1 => if b = true then t D σ H1 else u D σ H1 := rfl
theorem w_asg {te : TE} {g : TG} : tAsg te g D σ H = te σ H fun x H1 => g x σ H1 D.nx := rfl
theorem w_gName {i : Nat} {v : V} {q : St → Hp → Prop} : gName i v σ H q = q (σ.set i (some v)) H := rfl
theorem w_set0 {v : V} {x : Option V} : List.set (x :: σ) 0 (some v) = some v :: σ := rfl
theorem w_setS {i : Nat} {v : V} {x : Option V} : List.set (x :: σ) (i + 1) (some v) = x :: List.set σ i (some v) := rfl
theorem w_nil {q : List V → Hp → Prop} : tNil σ H q = q [] H := rfl
theorem w_cons {ta : TE} {tr : TA} {q : List V → Hp → Prop} : tCons ta tr σ H q = ta σ H fun x H1 => tr σ H1 fun xs H2 => q (x :: xs) H2 := rfl
theorem w_cb {r : List V → Hp → VK → Prop} {t : TA} : tCB r t σ H Q = t σ H fun vs H1 => r vs H1 Q := rfl
theorem w_tup {t : TA} : tTup t σ H Q = t σ H fun xs H1 => xs.length ≤ sizeLine ∧ ∀ p, H1 p = none → Q (.ref p) (upd H1 p (.tup xs)) := rfl
theorem w_lst {t : TA} : tLst t σ H Q = t σ H fun xs H1 => xs.length ≤ sizeLine ∧ ∀ p, H1 p = none → Q (.ref p) (upd H1 p (.lst xs)) := rfl
theorem w_call {sp : Sp} {dvs : List V} {E : XK} {t : TA} : tCall sp dvs E t σ H Q = t σ H fun vs H1 => sp (vs ++ dvs) H1 Q E := rfl
theorem w_bm {K : PySem.W.Frag} {T : String} {r : V → List V → Hp → VK → Prop} {to : TE} {t : TA} : tBM K T r to t σ H Q = to σ H fun x H1 => tyV K T x H1 ∧ t σ H1 fun xs H2 => r x xs H2 Q := rfl
theorem w_bm0 {K : PySem.W.Frag} {T : String} {r : V → List V → Hp → VK → Prop} {to : TE} : tBM0 K T r to σ H Q = to σ H fun x H1 => tyV K T x H1 ∧ r x [] H1 Q := rfl
def ForJ (J : It) (g : TG) (tb : TS) (D : Ends) (σ : St) (H1 : Hp) : Prop := ∃ W : Nat → Nat → St → Hp → Prop, (∃ m, W 0 m σ H1) ∧ ∀ i m σ H, W i m σ H →
  (J.stop i H ∧ D.nx σ H) ∨ (J.go i H ∧ ∃ N : St → Hp → Prop, (∀ σ' H', N σ' H' → ∃ m', m' < m ∧ W (i + 1) m' σ' H') ∧ ∀ x H', J.yld i H x H' → g x σ H' fun σ2 H2 => tb { D with nx := N, ct := N, bk := D.nx } σ2 H2)
theorem w_for1 {ta : TA} {g : TG} {tb : TS} : tFor (iRng1 ta) g tb D σ H = ta σ H fun vs H1 => ∃ j : Int, vs = [.int j] ∧ -(2 ^ 62) ≤ j ∧ j < 2 ^ 62 ∧ ForJ (Itr 0 j.toNat) g tb D σ H1 := rfl
theorem w_for2 {ta : TA} {g : TG} {tb : TS} : tFor (iRng2 ta) g tb D σ H = ta σ H fun vs H1 => ∃ i j : Int, vs = [.int i, .int j] ∧ (-(2 ^ 62) ≤ i ∧ i < 2 ^ 62 ∧ -(2 ^ 62) ≤ j ∧ j < 2 ^ 62) ∧ ForJ (Itr i (j - i).toNat) g tb D σ H1 := rfl
theorem w_forL {K : PySem.W.Frag} {tl : TE} {g : TG} {tb : TS} : tFor (iList K tl) g tb D σ H = tl σ H fun x H1 => ∃ a, x = .ref a ∧ (∃ xs, SqL K H1 a xs) ∧ ForJ (Itl K a) g tb D σ H1 := rfl
theorem w_forT {K : PySem.W.Frag} {tl : TE} {g : TG} {tb : TS} : tFor (iTup K tl) g tb D σ H = tl σ H fun x H1 => ∃ a, x = .ref a ∧ (∃ xs, SqT K H1 a xs) ∧ ForJ (Itt K a) g tb D σ H1 := rfl
theorem w_gTup {K : PySem.W.Frag} {n : Nat} {t : TGs} {v : V} {q : St → Hp → Prop} : gTup K n t v σ H q = ∃ a xs, v = .ref a ∧ SqT K H a xs ∧ xs.length = n ∧ t xs σ H q := rfl
theorem w_gNil {q : St → Hp → Prop} : gNil [] σ H q = q σ H := propext ⟨fun h => h.2, fun h => ⟨rfl, h⟩⟩
theorem w_gCons {t : TG} {u : TGs} {v : V} {r : List V} {q : St → Hp → Prop} : gCons t u (v :: r) σ H q = t v σ H fun σ' H' => u r σ' H' q := propext ⟨fun ⟨_, _, e, h⟩ => by cases e; exact h, fun h => ⟨v, r, rfl, h⟩⟩
theorem w_chain3 {r r' r2 : R2} {ta tb tc td : TE} : tChain3 r r' r2 ta tb tc td σ H Q = ta σ H fun x H1 => tb σ H1 fun y H2 => r x y H2 fun z H3 => ∃ k, z = .bl k ∧
  (if k = true then tc σ H3 fun w' H4 => r' y w' H4 fun z2 H5 => ∃ k2, z2 = .bl k2 ∧ (if k2 = true then td σ H5 fun e H6 => r2 w' e H6 Q else Q (.bl false) H5) else Q (.bl false) H3) := rfl
theorem w_chain {r r' : R2} {ta tb tc : TE} : tChain r r' ta tb tc σ H Q = ta σ H fun x H1 => tb σ H1 fun y H2 => r x y H2 fun z H3 => ∃ k, z = .bl k ∧
  (if k = true then tc σ H3 fun w' H4 => r' y w' H4 Q else Q (.bl false) H3) := rfl
end
theorem us1 {P : List Value → Prop} (h : ∀ a : Value, P [a]) : ∀ us : List Value, us.length = 1 → P us
  | [a], _ => h a
theorem usS {P : List Value → Prop} {n : Nat} (h : ∀ (a : Value) (r : List Value), r.length = n → P (a :: r)) : ∀ us : List Value, us.length = n + 1 → P us
  | a :: r, e => h a r (Nat.succ.inj e)
theorem us2 {P : List Value → Prop} (h : ∀ a b : Value, P [a, b]) : ∀ us : List Value, us.length = 2 → P us := usS fun a => us1 fun b => h a b
theorem us3 {P : List Value → Prop} (h : ∀ a b c : Value, P [a, b, c]) : ∀ us : List Value, us.length = 3 → P us := usS fun a => us2 fun b c => h a b c
theorem us4 {P : List Value → Prop} (h : ∀ a b c d : Value, P [a, b, c, d]) : ∀ us : List Value, us.length = 4 → P us := usS fun a => us3 fun b c d => h a b c d
theorem us5 {P : List Value → Prop} (h : ∀ a b c d e : Value, P [a, b, c, d, e]) : ∀ us : List Value, us.length = 5 → P us := usS fun a => us4 fun b c d e => h a b c d e
end L2

/-! Words of brackets as lists of truths (true: opens): heights of places, balance, mates. -/
namespace Rm
def dl (b : Bool) : Int := if b then 1 else -1
def D (bs : List Bool) (i : Nat) : Int := ((bs.take i).map dl).sum
theorem D_zero (bs : List Bool) : D bs 0 = 0 := by simp [D]
theorem D_succ {bs : List Bool} {i : Nat} {b : Bool} (h : bs[i]? = some b) : D bs (i + 1) = D bs i + dl b := by
  obtain ⟨hi, e⟩ := List.getElem?_eq_some_iff.mp h
  unfold D
  rw [List.take_add_one, h]
  simp
theorem D_append {xs ys : List Bool} {i : Nat} (h : i ≤ xs.length) : D (xs ++ ys) i = D xs i := by
  unfold D
  rw [List.take_append_of_le_length h]
theorem D_snoc (xs : List Bool) (b : Bool) : D (xs ++ [b]) (xs.length + 1) = D xs xs.length + dl b := by
  rw [D_succ (b := b) (by simp), D_append (Nat.le_refl _)]
/-- what a word is -/
structure Bal (bs : List Bool) : Prop where
  nn : ∀ i, i ≤ bs.length → 0 ≤ D bs i
  z : D bs bs.length = 0
/-- a word that grows: deep more are open than closed, room places are left -/
structure Grow (bs : List Bool) (deep : Int) (room : Int) : Prop where
  nn : ∀ i, i ≤ bs.length → 0 ≤ D bs i
  d : D bs bs.length = deep
  le : deep ≤ room
  ev : (room - deep) % 2 = 0
theorem Grow.start (n : Int) (h : 0 ≤ n) : Grow [] 0 (2 * n) := ⟨fun i hi => by simp [D], by simp [D], by omega, by omega⟩
theorem Grow.snoc {bs : List Bool} {deep room : Int} (g : Grow bs deep room) (b : Bool) (h0 : 0 ≤ deep + dl b) (h1 : deep + dl b ≤ room - 1) : Grow (bs ++ [b]) (deep + dl b) (room - 1) := by
  refine ⟨fun i hi => ?_, ?_, h1, ?_⟩
  · rw [List.length_append, List.length_singleton] at hi
    by_cases e : i ≤ bs.length
    · rw [D_append e]; exact g.nn i e
    · have : i = bs.length + 1 := by omega
      subst this
      rw [D_snoc, g.d]; exact h0
  · rw [List.length_append, List.length_singleton, D_snoc, g.d]
  · have := g.ev
    cases b <;> simp only [dl, if_true, if_false, Bool.false_eq_true] <;> omega
theorem Grow.deep0 {bs : List Bool} {deep room : Int} (g : Grow bs deep room) : 0 ≤ deep := by
  have := g.nn bs.length (Nat.le_refl _); rw [g.d] at this; exact this
theorem Grow.opens {bs : List Bool} {deep room : Int} (g : Grow bs deep room) (hr : 0 < room) (h : deep = 0 ∨ deep < room) : Grow (bs ++ [true]) (deep + 1) (room - 1) := by
  have h0 := g.deep0
  have h1 := g.ev
  have h2 := g.le
  exact g.snoc true (by simp only [dl, if_true]; omega) (by simp only [dl, if_true]; omega)
theorem Grow.closes {bs : List Bool} {deep room : Int} (g : Grow bs deep room) (h : deep ≠ 0) : Grow (bs ++ [false]) (deep - 1) (room - 1) := by
  have h0 := g.deep0
  have h2 := g.le
  have := g.snoc false (by simp only [dl, Bool.false_eq_true, if_false]; omega) (by simp only [dl, Bool.false_eq_true, if_false]; omega)
  simpa only [dl, Bool.false_eq_true, if_false, ← Int.sub_eq_add_neg] using this
theorem Grow.bal {bs : List Bool} {deep room : Int} (g : Grow bs deep room) (h : room = 0) : Bal bs :=
  ⟨g.nn, by have := g.deep0; have := g.le; rw [g.d]; omega⟩
/-- the place that closes the one at k -/
structure Mate (bs : List Bool) (k m : Nat) : Prop where
  lt : k < m
  ml : m < bs.length
  op : bs[k]? = some true
  cl : bs[m]? = some false
  eq : D bs (m + 1) = D bs k
  gt : ∀ i, k < i → i ≤ m → D bs k < D bs i
theorem Mate.uniq {bs : List Bool} {k m m' : Nat} (a : Mate bs k m) (b : Mate bs k m') : m = m' := by
  have h1 : ¬ m < m' := fun h => by have := b.gt (m + 1) (by have := a.lt; omega) h; rw [a.eq] at this; omega
  have h2 : ¬ m' < m := fun h => by have := a.gt (m' + 1) (by have := b.lt; omega) h; rw [b.eq] at this; omega
  omega
theorem Mate.uniqL {bs : List Bool} {k k' m : Nat} (a : Mate bs k m) (b : Mate bs k' m) : k = k' := by
  have h1 : ¬ k < k' := fun h => by
    have := a.gt k' h (by have := b.lt; omega)
    have e := a.eq; have e' := b.eq; rw [e] at e'; omega
  have h2 : ¬ k' < k := fun h => by
    have := b.gt k h (by have := a.lt; omega)
    have e := a.eq; have e' := b.eq; rw [e] at e'; omega
  omega
/-- walking on from an open bracket at k: j is the next place to look at -/
structure Walk (bs : List Bool) (k j : Nat) (deep : Int) : Prop where
  op : bs[k]? = some true
  kj : k ≤ j
  jl : j ≤ bs.length
  d : deep = D bs j - D bs k
  gt : ∀ i, k < i → i < j → D bs k < D bs i
theorem Walk.start {bs : List Bool} {k : Nat} (h : bs[k]? = some true) : Walk bs k k 0 :=
  ⟨h, Nat.le_refl _, by have := (List.getElem?_eq_some_iff.mp h).1; omega, by omega, fun i h1 h2 => by omega⟩
theorem Walk.inside {bs : List Bool} {k j : Nat} {deep : Int} (b : Bal bs) (w : Walk bs k j deep) (h : 0 < deep ∨ j = k) : j < bs.length := by
  have hk := (List.getElem?_eq_some_iff.mp w.op).1
  rcases h with h | h
  · have e := w.d
    have h0 := b.nn k (by omega)
    have hj := w.jl
    by_cases q : j < bs.length
    · exact q
    · have : j = bs.length := by omega
      rw [this, b.z] at e; omega
  · omega
theorem Walk.step {bs : List Bool} {k j : Nat} {deep : Int} {c : Bool} (w : Walk bs k j deep) (h : 0 < deep ∨ j = k) (hc : bs[j]? = some c) : Walk bs k (j + 1) (deep + dl c) := by
  have hj := (List.getElem?_eq_some_iff.mp hc).1
  refine ⟨w.op, by have := w.kj; omega, hj, ?_, fun i h1 h2 => ?_⟩
  · rw [D_succ hc, w.d]; omega
  · by_cases e : i < j
    · exact w.gt i h1 e
    · have : i = j := by omega
      subst this
      rcases h with h | h
      · have := w.d; omega
      · omega
theorem Walk.mate {bs : List Bool} {k j : Nat} {deep : Int} (w : Walk bs k j deep) (h : ¬ (0 < deep ∨ j = k)) : ∃ m, j = m + 1 ∧ Mate bs k m := by
  have hk := (List.getElem?_eq_some_iff.mp w.op).1
  have h1 := w.kj
  have hne : j ≠ k := fun e => h (.inr e)
  obtain ⟨m, rfl⟩ : ∃ m, j = m + 1 := ⟨j - 1, by omega⟩
  have hjl := w.jl
  have hm : m < bs.length := by omega
  have hd : deep ≤ 0 := by
    by_cases q : 0 < deep
    · exact absurd (.inl q) h
    · omega
  have e := w.d
  have hkm : k < m := by
    rcases Nat.lt_or_ge k m with q | q
    · exact q
    · have : k = m := by omega
      subst this
      rw [D_succ w.op] at e
      simp only [dl, if_true] at e
      omega
  have hg := w.gt m hkm (by omega)
  obtain ⟨c, hc⟩ : ∃ c, bs[m]? = some c := ⟨bs[m], List.getElem?_eq_getElem hm⟩
  have hs := D_succ hc
  cases c with
  | true => simp only [dl, if_true] at hs; omega
  | false =>
    simp only [dl, Bool.false_eq_true, if_false] at hs
    refine ⟨m, rfl, hkm, hm, w.op, hc, by omega, fun i a b => ?_⟩
    by_cases q : i = m
    · subst q; exact hg
    · exact w.gt i a (by omega)
/-- the mates of the open brackets below k, in order -/
structure Mates (bs : List Bool) (k : Nat) (ms : List (Nat × Nat)) : Prop where
  mate : ∀ p ∈ ms, Mate bs p.1 p.2 ∧ p.1 < k
  all : ∀ i, i < k → bs[i]? = some true → ∃ m, (i, m) ∈ ms
  inc : ms.Pairwise (fun p q => p.1 < q.1)
  len : ms.length ≤ k
theorem Mates.nil (bs : List Bool) : Mates bs 0 [] := ⟨(fun _ h => nomatch h), fun i h => by omega, .nil, Nat.le_refl _⟩
theorem Mates.skip {bs : List Bool} {k : Nat} {ms : List (Nat × Nat)} (a : Mates bs k ms) (h : bs[k]? ≠ some true) : Mates bs (k + 1) ms :=
  ⟨fun p hp => ⟨(a.mate p hp).1, by have := (a.mate p hp).2; omega⟩, fun i hi ho => by
    by_cases e : i = k
    · subst e; exact absurd ho h
    · exact a.all i (by omega) ho, a.inc, Nat.le_succ_of_le a.len⟩
theorem Mates.snoc {bs : List Bool} {k m : Nat} {ms : List (Nat × Nat)} (a : Mates bs k ms) (h : Mate bs k m) : Mates bs (k + 1) (ms ++ [(k, m)]) := by
  refine ⟨fun p hp => ?_, fun i hi ho => ?_, ?_, by rw [List.length_append]; exact Nat.succ_le_succ a.len⟩
  · rcases List.mem_append.mp hp with hp | hp
    · exact ⟨(a.mate p hp).1, by have := (a.mate p hp).2; omega⟩
    · have : p = (k, m) := by simpa using hp
      subst this
      exact ⟨h, Nat.lt_succ_self k⟩
  · by_cases e : i = k
    · subst e; exact ⟨m, by simp⟩
    · obtain ⟨m', hm⟩ := a.all i (by omega) ho
      exact ⟨m', List.mem_append_left _ hm⟩
  · refine List.pairwise_append.mpr ⟨a.inc, by simp, fun p hp q hq => ?_⟩
    have : q = (k, m) := by simpa using hq
    subst this
    exact (a.mate p hp).2
end Rm

set_option Elab.async false
set_option linter.all false
set_option maxRecDepth 100000
set_option maxHeartbeats 4000000
/-! What the helpers of the texts promise, apart from any one text. -/
namespace L2
open PySem PySem.Spec PyProof.Rows
theorem Fun.okS {P : Program} {w : World} {K : PySem.W.Frag} {mg : Str → Option Value} {base : Heap} {x qual : Str} {st : Stmt} {f : Addr} {fd : FuncData} {N ps : List Str} {k : Nat} {sp : Sp} (F : Fun K x qual st f fd) (S : FnScope N ps (defScope st)) (len : ∀ vs H Q E, sp vs H Q E → vs.length = ps.length)
    (hbody : ∀ (cdv : Value) (A : Around) (outer : List Env) (s : Shared) (H : Hp) (vs : List V) (Q : VK) (E : XK), Room k (A.deeper (envOfC qual (defScope st) s.heap.objs.size f cdv)) → sp vs H Q E →
      ∃ (σ : St) (t : TS), start N vs = σ ∧ PSs (cxOf CX0 P w K mg base N qual (defScope st) f cdv A outer s H E).nox (defBody st) t ∧ t { nx := fun _ H' => Q .non H', rt := Q } σ H) : FnOk P w K mg base CX0 (k + 1) f fd ps sp :=
  F.ok S len fun cdv A outer s H vs Q E hr h => by
    obtain ⟨σ, t, e, h1, h2⟩ := hbody cdv A outer s H vs Q E hr h
    exact ⟨t, h1, by rw [e]; exact h2⟩
theorem hu_64 {A : Around} {k : Nat} (hr : Room k A) : A.units + 64 < cLine := hr.units
end L2
namespace Rm
open PySem L2
/-! ### words -/
def cpB (b : Bool) : Nat := if b then 40 else 41
def wd (bs : List Bool) : Str := ⟨(bs.map cpB).toArray⟩
theorem wd_length (bs : List Bool) : (wd bs).length = bs.length := by simp [wd, Str.length]
theorem str_open : (Str.ofString "(") = ⟨#[40]⟩ := by decide +kernel
theorem str_close : (Str.ofString ")") = ⟨#[41]⟩ := by decide +kernel
theorem str_nil : (Str.ofString "") = ⟨#[]⟩ := by decide +kernel
theorem len_open : (Str.ofString "(").length = 1 := by rw [str_open]; rfl
theorem len_close : (Str.ofString ")").length = 1 := by rw [str_close]; rfl
theorem wd_nil : wd [] = Str.ofString "" := by rw [str_nil]; rfl
theorem wd_open (bs : List Bool) : wd bs ++ Str.ofString "(" = wd (bs ++ [true]) := by
  rw [str_open]
  show Str.mk _ = Str.mk _
  simp [wd, cpB]
theorem wd_close (bs : List Bool) : wd bs ++ Str.ofString ")" = wd (bs ++ [false]) := by
  rw [str_close]
  show Str.mk _ = Str.mk _
  simp [wd, cpB]
theorem wd_at {bs : List Bool} {i : Nat} {b : Bool} (h : bs[i]? = some b) : (wd bs).cps.toList[i]? = some (cpB b) := by
  simp [wd, h]
theorem sign_open (b : Bool) : ((⟨#[cpB b]⟩ : Str) = Str.ofString "(") = (b = true) := by
  rw [str_open]
  cases b <;> simp [cpB]
/-! ### what is a word -/
def scan : List Nat → Int → Bool
  | [], w => decide (w = 0)
  | c :: r, w => if c = 40 then scan r (w + 1) else if c = 41 then (if w - 1 < 0 then false else scan r (w - 1)) else false
def isW (z : Str) : Bool := decide (z.length ≤ 40) && scan z.cps.toList 0
theorem scan_bal : ∀ (bs pre : List Bool) (w : Int), w = D (pre ++ bs) pre.length → Bal (pre ++ bs) → scan (bs.map cpB) w = true
  | [], pre, w, hw, b => by
    have := b.z
    rw [List.append_nil] at this hw
    show decide (w = 0) = true
    exact decide_eq_true (by rw [hw, this])
  | x :: bs, pre, w, hw, b => by
    have hs : D (pre ++ x :: bs) (pre.length + 1) = D (pre ++ x :: bs) pre.length + dl x := D_succ (by simp)
    have hn := b.nn (pre.length + 1) (by simp)
    have ih := fun w' (h : w' = w + dl x) => scan_bal bs (pre ++ [x]) w' (by rw [h, hw]; simpa using hs.symm) (by simpa using b)
    cases x with
    | true =>
      show (if (40 : Nat) = 40 then scan (bs.map cpB) (w + 1) else _) = true
      rw [if_pos rfl]
      exact ih _ (by simp [dl])
    | false =>
      show (if (41 : Nat) = 40 then _ else if (41 : Nat) = 41 then (if w - 1 < 0 then false else scan (bs.map cpB) (w - 1)) else false) = true
      rw [if_neg (by decide), if_pos rfl, if_neg (by simp only [dl, Bool.false_eq_true, if_false] at hs; omega)]
      exact ih _ (by simp [dl]; omega)
theorem wd_codes (bs : List Bool) : (wd bs).cps.toList = bs.map cpB := by simp [wd]
theorem wd_ascii (bs : List Bool) : (wd bs).cps.all (· < 128) = true := by
  rw [← Array.all_toList, wd_codes, List.all_eq_true]
  intro c hc
  obtain ⟨b, _, rfl⟩ := List.mem_map.mp hc
  cases b <;> decide
theorem wd_size (bs : List Bool) : (wd bs).cps.size = bs.length := by simp [wd]
theorem isW_wd {bs : List Bool} (b : Bal bs) (h : bs.length ≤ 40) : isW (wd bs) = true := by
  unfold isW
  rw [wd_length, decide_eq_true h, wd_codes, scan_bal bs [] 0 (by simp [D]) b]
  rfl
theorem wd_cps {bs : List Bool} {i c : Nat} (h : (wd bs).cps[i]? = some c) : ∃ b, bs[i]? = some b ∧ c = cpB b := by
  have h1 : (wd bs).cps.toList[i]? = some c := by simpa using h
  rw [wd_codes, List.getElem?_map] at h1
  cases e : bs[i]? with
  | none => rw [e] at h1; cases h1
  | some b => rw [e] at h1; exact ⟨b, rfl, (Option.some.inj h1).symm⟩
theorem code_open (c : Nat) : ((⟨#[c]⟩ : Str) = Str.ofString "(") = (c = 40) := by rw [str_open]; simp
theorem code_close (c : Nat) : ((⟨#[c]⟩ : Str) = Str.ofString ")") = (c = 41) := by rw [str_close]; simp
/-! ### bows on the heap -/
abbrev Bw := Int × Int
def tupAt (H : Hp) (a : Addr) (p : Bw) : Prop := H a = some (.tup [.int p.1, .int p.2])
def BowsAt (H : Hp) (l : Addr) (ps : List Bw) : Prop := ∃ as : List Addr, H l = some (.lst (as.map V.ref)) ∧ Paired (tupAt H) as ps
theorem tupAt.same {H H' : Hp} (s : Same H H') {a : Addr} {p : Bw} (h : tupAt H a p) : tupAt H' a p := s _ _ h
theorem BowsAt.same {H H' : Hp} (s : Same H H') {l : Addr} {ps : List Bw} (h : BowsAt H l ps) : BowsAt H' l ps :=
  let ⟨as, h1, h2⟩ := h
  ⟨as, s _ _ h1, paired_imp h2 fun _ _ z => z.same s⟩
/-- one more bow: its tuple is new at t, the list at l grows -/
theorem bows_snoc {H : Hp} {l t : Addr} {as : List Addr} {ps : List Bw} {x y : Int} (h1 : H l = some (.lst (as.map V.ref))) (h2 : Paired (tupAt H) as ps) (ht : H t = none) :
    BowsAt (upd (upd H t (.tup [.int x, .int y])) l (.lst (as.map V.ref ++ [V.ref t]))) l (ps ++ [(x, y)]) := by
  have ntl : t ≠ l := fun e => by subst e; rw [h1] at ht; cases ht
  refine ⟨as ++ [t], by rw [upd_same, List.map_append]; rfl, paired_snoc (paired_imp h2 fun a p z => ?_) ?_⟩
  · have z' : H a = some (.tup [.int p.1, .int p.2]) := z
    have n1 : a ≠ l := ne_of z' h1 (by intro q; cases q)
    have n2 : a ≠ t := ne_of_none z' ht
    show upd _ _ _ a = _
    rw [upd_ne n1, upd_ne n2]; exact z'
  · show upd _ _ _ t = _
    rw [upd_ne ntl, upd_same]
/-- another list changes -/
theorem bows_upd {H : Hp} {l f : Addr} {ps : List Bw} {xs ys : List V} (h : BowsAt H f ps) (hl : H l = some (.lst xs)) (ne : f ≠ l) : BowsAt (upd H l (.lst ys)) f ps := by
  obtain ⟨as, h1, h2⟩ := h
  refine ⟨as, by rw [upd_ne ne]; exact h1, paired_imp h2 fun a p z => ?_⟩
  have z' : H a = some (.tup [.int p.1, .int p.2]) := z
  show upd _ _ _ a = _
  rw [upd_ne (ne_of z' hl (by intro q; cases q))]; exact z'
theorem bows_copy {H : Hp} {l hd : Addr} {as : List Addr} {ps : List Bw} (h2 : Paired (tupAt H) as ps) (hn : H hd = none) : BowsAt (upd H hd (.lst (as.map V.ref))) hd ps :=
  ⟨as, upd_same, paired_imp h2 fun a p z => by
    have z' : H a = some (.tup [.int p.1, .int p.2]) := z
    show upd _ _ _ a = _
    rw [upd_ne (ne_of_none z' hn)]; exact z'⟩
theorem BowsAt.get {H : Hp} {l : Addr} {ps : List Bw} (h : BowsAt H l ps) : ∃ as : List Addr, H l = some (.lst (as.map V.ref)) ∧ as.length = ps.length ∧ ∀ (i : Nat) x, (as.map V.ref)[i]? = some x → ∃ a p, x = .ref a ∧ ps[i]? = some p ∧ tupAt H a p := by
  obtain ⟨as, h1, h2⟩ := h
  refine ⟨as, h1, Paired.length h2, fun i x hx => ?_⟩
  rw [List.getElem?_map] at hx
  cases e : as[i]? with
  | none => rw [e] at hx; cases hx
  | some a =>
    rw [e] at hx
    obtain ⟨p, hp, ht⟩ := paired_get h2 e
    exact ⟨a, p, (Option.some.inj hx).symm, hp, ht⟩
/-! ### bows as plain data -/
def bowD (p : Bw) : PyData := .tuple [.int p.1, .int p.2]
def bowsD (ps : List Bw) : PyData := .list (ps.map bowD)
def crossZ (p q : Bw) : Bool := decide (p.1 < q.1) && (decide (q.1 < p.2) && decide (p.2 < q.2))
def natV (ws : List Nat) : List V := ws.map fun (n : Nat) => V.int (n : Int)
theorem natV_len (ws : List Nat) : (natV ws).length = ws.length := by simp [natV]
theorem natV_snoc (ws : List Nat) (k : Nat) : natV (ws ++ [k]) = natV ws ++ [.int k] := by simp [natV]
theorem natV_drop (ws : List Nat) (k : Nat) : (natV (ws ++ [k])).dropLast = natV ws := by rw [natV_snoc]; simp
theorem natV_last (ws : List Nat) (k : Nat) : (natV (ws ++ [k]))[(natV (ws ++ [k])).length - 1]? = some (.int k) := by rw [natV_snoc]; simp
/-! ### promises -/
def spCell (K : PySem.W.Frag) : Sp := fun vs H Q _ => ∃ (a : Addr) (ns : List Int) (k : Nat), vs = [.ref a, .int k] ∧ SqL K H a (ns.map V.int) ∧ Q (.int (ns.getD k 0)) H
def mixZ (a k : Int) : Int := (a % 10 ^ 20 + 17 * k + k * k * k + 5) * 48271 % 1000003 * 69621 % 999983
def spMix : Sp := fun vs H Q _ => ∃ a k : Int, vs = [.int a, .int k] ∧ 0 ≤ k ∧ k ≤ 1000 ∧ Q (.int (mixZ a k)) H
def spWordBy : Sp := fun vs H Q _ => ∃ c : Int, vs = [.int c] ∧ ∀ bs, Bal bs → bs.length ≤ 40 → Q (.str (wd bs)) H
def msZ (ms : List (Nat × Nat)) : List Bw := ms.map fun p => ((p.1 : Int), (p.2 : Int))
def spMates : Sp := fun vs H Q _ => ∃ bs, vs = [.str (wd bs)] ∧ Bal bs ∧ bs.length ≤ 40 ∧ ∀ l ms H', Mates bs bs.length ms → H l = none → Same H H' → BowsAt H' l (msZ ms) → Q (.ref l) H'
def spBowsBy : Sp := fun vs H Q _ => ∃ c m : Int, vs = [.int c, .int m] ∧ 0 ≤ m ∧ m ≤ 20 ∧ ∀ l ps H', H l = none → Same H H' → BowsAt H' l ps → ps.length ≤ 20 → Q (.ref l) H'
def spCross : Sp := fun vs H Q _ => ∃ a b p q, vs = [.ref a, .ref b] ∧ tupAt H a p ∧ tupAt H b q ∧ Q (.bl (crossZ p q)) H
def spCrossing : Sp := fun vs H Q _ => ∃ l ps, vs = [.ref l] ∧ BowsAt H l ps ∧ ((∀ p ∈ ps, ∀ q ∈ ps, crossZ p q = false) → Q .non H) ∧
  ∀ p ∈ ps, ∀ q ∈ ps, crossZ p q = true → ∀ t a b H', H t = none → Same H H' → H' t = some (.tup [.ref a, .ref b]) → tupAt H' a p → tupAt H' b q → Q (.ref t) H'
def spIsWord (K : PySem.W.Frag) : Sp := fun vs H Q _ => ∃ x : V, vs = [x] ∧ ((∃ z : Str, x = .str z ∧ z.cps.all (· < 128) = true ∧ z.length ≤ 1000 ∧ Q (.bl (isW z)) H) ∨ (∃ t : Value, TyOf K H x t ∧ PySem.W.kitOne K t (.type "str") = some false ∧ Q (.bl false) H))
def spPairs : Sp := fun vs H Q _ => ∃ bs ms, vs = [.str (wd bs)] ∧ Bal bs ∧ bs.length ≤ 40 ∧ Mates bs bs.length ms ∧ ∀ l H', H l = none → Same H H' → BowsAt H' l (msZ ms) → Q (.ref l) H'
def spWhole (K : PySem.W.Frag) : Sp := fun vs H Q _ => ∃ (x : V) (t : Value) (b c : Bool), vs = [x] ∧ TyOf K H x t ∧ PySem.W.kitOne K t (.type "int") = some b ∧ PySem.W.kitOne K t (.type "bool") = some c ∧ Q (.bl (b && !c)) H
def spLaw (K : PySem.W.Frag) : Sp := fun vs H Q _ => ∃ (a : Addr) (ns : List Int), vs = [.ref a] ∧ SqL K H a (ns.map V.int) ∧ ns.length ≤ 63 ∧ ∀ H', Q (.bl true) H'
end Rm

set_option Elab.async false
set_option linter.all false
set_option maxRecDepth 100000
set_option maxHeartbeats 4000000
/-! More calls: sorted of ints, all, any, join; and plain data that is tracked. -/
namespace L2
open PySem PySem.Spec PyProof.Rows
theorem vals_strs : ∀ {ts : List Str} {us : List Value}, Vals (ts.map V.str) us → ∃ l : List (Str × Tok), us = strValues l ∧ l.map (·.1) = ts
  | [], _, .nil => ⟨[], rfl, rfl⟩
  | t :: ts, _, .cons ⟨k, e⟩ r => by
    subst e
    obtain ⟨l, e1, e2⟩ := vals_strs r
    exact ⟨(t, k) :: l, by rw [e1]; rfl, by rw [List.map_cons, e2]⟩
section
variable {X : Cx}
def rSortI (K : PySem.W.Frag) : List V → Hp → VK → Prop := fun xs H Q => ∃ (p : Addr) (ns : List Int), xs = [.ref p] ∧ SqL K H p (ns.map V.int) ∧ ns.length < 64 ∧
  ∀ (l : Addr) (ms : List Int), H l = none → ms.Perm ns → ms.Pairwise (· ≤ ·) → Q (.ref l) (upd H l (.lst (ms.map V.int)))
def rAll (K : PySem.W.Frag) (f : List Bool → Bool) : List V → Hp → VK → Prop := fun xs H Q => ∃ (p : Addr) (bs : List Bool), xs = [.ref p] ∧ SqL K H p (bs.map V.bl) ∧ Q (.bl (f bs)) H
def rJoin (K : PySem.W.Frag) : V → List V → Hp → VK → Prop := fun x vs H Q => ∃ (z : Str) (p : Addr) (ts : List Str), x = .str z ∧ vs = [.ref p] ∧ SqL K H p (ts.map V.str) ∧ JoinOk z ts = true ∧ Q (.str (Txt.join z ts)) H
theorem mt_join : MtM X "str.join" (rJoin X.K) := by
  intro pins s σ H x xs v us Q I r rv h
  obtain ⟨z, p, ts, rfl, rfl, hq, ok, q⟩ := h
  obtain ⟨t, rfl⟩ := r
  obtain ⟨u, rfl, rx⟩ := vals1 rv
  cases rx
  obtain ⟨its, rv', pl, hz⟩ := I.list hq
  obtain ⟨l, rfl, e⟩ := vals_strs rv'
  exact SC.join pl.isList e ok fun t' k => ⟨.str _, H, I.tok k, ⟨t', rfl⟩, q⟩
end

/-! ### plain data, tracked -/
mutual
inductive Dat (H : Hp) : V → PyData → Prop
  | non : Dat H .non .none
  | bl (b : Bool) : Dat H (.bl b) (.bool b)
  | int (i : Int) : Dat H (.int i) (.int i)
  | str (x : Str) : Dat H (.str x) (.str x)
  | tup {a : Addr} {xs : List V} {ds : List PyData} : H a = some (.tup xs) → DatL H xs ds → Dat H (.ref a) (.tuple ds)
  | lst {a : Addr} {xs : List V} {ds : List PyData} : H a = some (.lst xs) → DatL H xs ds → Dat H (.ref a) (.list ds)
inductive DatL (H : Hp) : List V → List PyData → Prop
  | nil : DatL H [] []
  | cons {x : V} {xs : List V} {d : PyData} {ds : List PyData} : Dat H x d → DatL H xs ds → DatL H (x :: xs) (d :: ds)
end
mutual
theorem Dat.rep {K : PySem.W.Frag} {H : Hp} : ∀ {x : V} {d : PyData}, Dat H x d → Rep K H x d
  | _, _, .non => .non
  | _, _, .bl b => .bl b
  | _, _, .int i => .int i
  | _, _, .str x => .str x
  | _, _, .tup h r => .tup (SqT.of h) (DatL.rep r)
  | _, _, .lst h r => .lst (SqL.of h) (DatL.rep r)
theorem DatL.rep {K : PySem.W.Frag} {H : Hp} : ∀ {xs : List V} {ds : List PyData}, DatL H xs ds → RepL K H xs ds
  | _, _, .nil => .nil
  | _, _, .cons h r => .cons (Dat.rep h) (DatL.rep r)
end
mutual
theorem Dat.same {H H' : Hp} (s : Same H H') : ∀ {x : V} {d : PyData}, Dat H x d → Dat H' x d
  | _, _, .non => .non
  | _, _, .bl b => .bl b
  | _, _, .int i => .int i
  | _, _, .str x => .str x
  | _, _, .tup h r => .tup (s _ _ h) (DatL.same s r)
  | _, _, .lst h r => .lst (s _ _ h) (DatL.same s r)
theorem DatL.same {H H' : Hp} (s : Same H H') : ∀ {xs : List V} {ds : List PyData}, DatL H xs ds → DatL H' xs ds
  | _, _, .nil => .nil
  | _, _, .cons h r => .cons (Dat.same s h) (DatL.same s r)
end
theorem DatL.len {H : Hp} : ∀ {xs : List V} {ds : List PyData}, DatL H xs ds → xs.length = ds.length
  | _, _, .nil => rfl
  | _, _, .cons _ r => by simp [DatL.len r]
theorem DatL.get {H : Hp} : ∀ {xs : List V} {ds : List PyData} {i : Nat} {x : V}, DatL H xs ds → xs[i]? = some x → ∃ d, ds[i]? = some d ∧ Dat H x d
  | _, _, _, _, .nil, e => by simp at e
  | _, _, 0, _, .cons h _, e => by simp at e; subst e; exact ⟨_, rfl, h⟩
  | _, _, i + 1, x, .cons _ r, e => by
    obtain ⟨d, h1, h2⟩ := DatL.get (i := i) (x := x) r (by simpa using e)
    exact ⟨d, by simpa using h1, h2⟩
def tyD : PyData → Value
  | .none => .type "NoneType"
  | .bool _ => .type "bool"
  | .int _ => .type "int"
  | .str _ => .type "str"
  | .list _ => .type "list"
  | .tuple _ => .type "tuple"
  | .dict _ => .type "dict"
theorem Dat.ty {K : PySem.W.Frag} {H : Hp} {x : V} {d : PyData} (h : Dat H x d) : TyOf K H x (tyD d) := by
  cases h with
  | non => exact .non
  | bl b => exact .bl b
  | int i => exact .int i
  | str x => exact .str x
  | tup h _ => exact .tup h
  | lst h _ => exact .lst h
def isI : PyData → Bool | .int _ => true | .bool _ => true | _ => false
def isB : PyData → Bool | .bool _ => true | _ => false
def isS : PyData → Bool | .str _ => true | _ => false
def isT : PyData → Bool | .tuple _ => true | _ => false
def isL : PyData → Bool | .list _ => true | _ => false
section
variable {K : PySem.W.Frag} {H : Hp} {x : V} {d : PyData} {Q : VK}
end
theorem ints_rep {K : PySem.W.Frag} {H : Hp} : ∀ (ns : List Int), RepL K H (ns.map V.int) (ns.map PyData.int)
  | [] => .nil
  | n :: ns => .cons (.int n) (ints_rep ns)
theorem ints_eqv : ∀ ms ns : List Int, PyData.eqvAll (ms.map PyData.int) (ns.map PyData.int) = decide (ms = ns)
  | [], [] => rfl
  | [], _ :: _ => by simp [PyData.eqvAll]
  | _ :: _, [] => by simp [PyData.eqvAll]
  | p :: ps, q :: qs => by
    show (PyData.eqv (.int p) (.int q) && PyData.eqvAll (ps.map PyData.int) (qs.map PyData.int)) = _
    rw [ints_eqv ps qs]
    by_cases h1 : p = q <;> by_cases h2 : ps = qs <;> simp [PyData.eqv, h1, h2]
theorem ints_layAll : ∀ ns : List Int, PyData.canLayAll0 (ns.map PyData.int) = true
  | [] => rfl
  | n :: ns => by
    show (PyData.canLay0 (.int n) && PyData.canLayAll0 (ns.map PyData.int)) = true
    rw [ints_layAll ns]; rfl
theorem ints_depth : ∀ ns : List Int, PyData.depthAll (ns.map PyData.int) = 0
  | [] => rfl
  | n :: ns => by
    show max (PyData.depth (.int n)) (PyData.depthAll (ns.map PyData.int)) = 0
    rw [ints_depth ns]; rfl
theorem ints_any (n : Int) (ns : List Int) : ((ns.map PyData.int).any fun e => PyData.eqv e (.int n)) = decide (n ∈ ns) := by
  induction ns with
  | nil => simp
  | cons m ns ih =>
    rw [List.map_cons, List.any_cons, ih]
    by_cases h1 : n = m
    · subst h1; simp [PyData.eqv]
    · have h2 : ¬ m = n := fun e => h1 e.symm
      by_cases h3 : n ∈ ns <;> simp [PyData.eqv, h1, h2, h3]
theorem in_ints {K : PySem.W.Frag} {H : Hp} {b : Addr} {n : Int} {ns : List Int} {neg : Bool} {Q : VK} (hb : SqL K H b (ns.map V.int) ∨ SqT K H b (ns.map V.int)) (q : Q (.bl (if neg then !decide (n ∈ ns) else decide (n ∈ ns))) H) : rInD K neg (.int n) (.ref b) H Q := by
  refine ⟨.int n, ns.map PyData.int, b, _, .int n, rfl, hb, ints_rep ns, rfl, ints_layAll ns, Nat.zero_le _, ?_⟩
  rw [ints_any]
  exact q
end L2

set_option Elab.async false
set_option linter.all false
set_option maxRecDepth 100000
set_option maxHeartbeats 4000000
/-! [e for t in it if c]: a block of its own, that reads names of its def. -/
namespace L2
open PySem PySem.Spec PyProof.Rows
/-! ### the cells handed to the block -/
def clOf (env : Env) : List (Str × NameKind) → List (Str × Addr) → List (Str × Addr)
  | [], acc => acc
  | (n, k) :: r, acc => clOf env r (if (k == NameKind.free) = true then (n, (env.cells.lookup n).getD 0) :: acc else acc)
theorem closureFor_cl {scope : Scope} {env : Env} (h : ∀ x ∈ scope.names, x.2 = .free → ∃ c, env.cells.lookup x.1 = some c) : closureFor scope env = pure (clOf env scope.names []) := by
  simp only [closureFor]
  generalize ([] : List (Str × Addr)) = acc
  revert h
  generalize scope.names = l
  intro h
  induction l generalizing acc with
  | nil => rfl
  | cons x l ih =>
    obtain ⟨n, k⟩ := x
    have ih' := fun acc => ih acc fun y hy => h y (List.mem_cons_of_mem _ hy)
    rw [List.forIn_cons]
    cases hk : (k == NameKind.free) with
    | false =>
      simp only [Bool.false_eq_true, if_false, pure_bind]
      rw [show clOf env ((n, k) :: l) acc = clOf env l acc by simp [clOf, hk]]
      exact ih' acc
    | true =>
      obtain ⟨c, hc⟩ := h (n, k) List.mem_cons_self (by simpa using hk)
      have e : cellOf env n = pure c := by unfold cellOf; rw [hc]
      simp only [if_true, e, pure_bind]
      rw [show clOf env ((n, k) :: l) acc = clOf env l ((n, c) :: acc) by simp [clOf, hk, hc]]
      exact ih' ((n, c) :: acc)
theorem clOf_lookup {env : Env} {x : Str} {c : Addr} : ∀ {l : List (Str × NameKind)} {acc : List (Str × Addr)}, (∀ y ∈ l, y.2 = .free → ∃ c, env.cells.lookup y.1 = some c) → (clOf env l acc).lookup x = some c → acc.lookup x = some c ∨ env.cells.lookup x = some c
  | [], acc, _, h => .inl h
  | (n, k) :: l, acc, hf, h => by
    have ih := clOf_lookup (l := l) (acc := if (k == NameKind.free) = true then (n, (env.cells.lookup n).getD 0) :: acc else acc) (fun y hy => hf y (List.mem_cons_of_mem _ hy)) h
    rcases ih with e | e
    · cases hk : (k == NameKind.free) with
      | false => rw [hk] at e; exact .inl (by simpa using e)
      | true =>
        rw [hk] at e
        simp only [if_true, List.lookup_cons] at e
        cases hx : x == n with
        | false => rw [hx] at e; exact .inl e
        | true =>
          rw [hx] at e
          obtain ⟨c', hc⟩ := hf (n, k) List.mem_cons_self (by simpa using hk)
          have hxn : x = n := by simpa using hx
          subst hxn
          rw [hc] at e
          simp only [Option.getD_some] at e
          exact .inr (hc.trans e)
    · exact .inr e
theorem clOf_mono {env : Env} {x : Str} : ∀ {l : List (Str × NameKind)} {acc : List (Str × Addr)}, (∃ c, acc.lookup x = some c) → ∃ c, (clOf env l acc).lookup x = some c
  | [], acc, h => h
  | (n, k) :: l, acc, h => by
    refine clOf_mono (l := l) ?_
    cases hk : (k == NameKind.free) with
    | false => simpa using h
    | true =>
      simp only [if_true, List.lookup_cons]
      cases hx : x == n with
      | false => exact h
      | true => exact ⟨_, rfl⟩
theorem clOf_has {env : Env} {x : Str} : ∀ {l : List (Str × NameKind)} {acc : List (Str × Addr)}, (x, NameKind.free) ∈ l → ∃ c, (clOf env l acc).lookup x = some c
  | [], _, h => nomatch h
  | (n, k) :: l, acc, h => by
    rcases List.mem_cons.mp h with e | e
    · cases e
      refine clOf_mono (l := l) ?_
      simp
    · exact clOf_has (l := l) e
def rlF (env : Env) (p : Str × NameKind) : Str × NameKind := if (p.2 == NameKind.free && env.scope.kind == .function && env.kindOf p.1 == some .cell) then (p.1, NameKind.cell) else p
theorem relabel_names (scope : Scope) (env : Env) : (relabel scope env).names = scope.names.map (rlF env) := by
  show scope.names.map _ = _
  congr 1
theorem rlF_fst (env : Env) (p : Str × NameKind) : (rlF env p).1 = p.1 := by unfold rlF; split <;> rfl
theorem lookup_rlF {env : Env} {x : Str} : ∀ {names : List (Str × NameKind)}, (names.map (rlF env)).lookup x = (names.lookup x).map fun k => (rlF env (x, k)).2
  | [] => rfl
  | (n, q) :: r => by
    rw [List.map_cons]
    have e : rlF env (n, q) = (n, (rlF env (n, q)).2) := Prod.ext (rlF_fst env _) rfl
    rw [e, List.lookup_cons, List.lookup_cons]
    cases hx : x == n with
    | true =>
      have hxn : x = n := by simpa using hx
      subst hxn
      rfl
    | false => exact lookup_rlF (names := r)
theorem relabel_some {scope : Scope} {env : Env} {x : Str} {k : NameKind} (h : (relabel scope env).names.lookup x = some k) : scope.names.lookup x = some k ∨ (k = .cell ∧ scope.names.lookup x = some .free) := by
  rw [relabel_names, lookup_rlF] at h
  cases e : scope.names.lookup x with
  | none => rw [e] at h; cases h
  | some q =>
    rw [e] at h
    have h' : (rlF env (x, q)).2 = k := Option.some.inj h
    unfold rlF at h'
    split at h'
    · rename_i hc
      have hq : q = .free := by
        have := (Bool.and_eq_true _ _).mp ((Bool.and_eq_true _ _).mp hc).1
        simpa using this.1
      exact .inr ⟨h'.symm, by rw [hq]⟩
    · exact .inl (by rw [← h'])
theorem relabel_free {scope : Scope} {env : Env} {x : Str} (h : scope.names.lookup x = some .free) : (relabel scope env).names.lookup x = some .cell ∨ (relabel scope env).names.lookup x = some .free := by
  rw [relabel_names, lookup_rlF, h]
  show some (rlF env (x, .free)).2 = _ ∨ some (rlF env (x, .free)).2 = _
  unfold rlF
  split
  · exact .inl rfl
  · exact .inr rfl

/-! ### the block's context -/
def cxC (X : Cx) (N : List Str) (scope : Scope) (C : Addr) (s : Shared) (H : Hp) (fp : List Addr) (pn : List (Addr × Obj)) : Cx :=
  { X with N := N, s₀ := s, H₀ := H, env := compEnvC scope (clOf X.env scope.names []) C X.env, outer := X.stack, ex := fp, fn := fun _ => false, pn := pn, xe := fun _ _ => False }
structure CScope (scope : Scope) (ns : List Str) : Prop where
  kind : scope.kind = .function
  nocell : ∀ y ∈ scope.names, y.2 ≠ .cell
  names : ∀ y ∈ scope.names, y.2 = .local → scope.names.lookup y.1 = some .local
  frees : ∀ y ∈ scope.names, y.2 = .free → y.1 ∈ ns
/-- the names that the block reads, and their places in the def -/
inductive Caps (X : Cx) (scope : Scope) : List Str → List Nat → Prop
  | nil : Caps X scope [] []
  | cons {x : Str} {i : Nat} {ns : List Str} {is : List Nat} : X.N[i]? = some x → scope.names.lookup x = some .free → (X.env.kindOf x = some .cell ∨ X.env.kindOf x = some .free) → Caps X scope ns is → Caps X scope (x :: ns) (i :: is)
theorem Caps.mem {X : Cx} {scope : Scope} {ns : List Str} {is : List Nat} {x : Str} (c : Caps X scope ns is) (h : x ∈ ns) : X.env.kindOf x = some .cell ∨ X.env.kindOf x = some .free := by
  induction c with
  | nil => exact nomatch h
  | cons _ _ k _ ih =>
    rcases List.mem_cons.mp h with e | e
    · subst e; exact k
    · exact ih e
theorem Caps.len {X : Cx} {scope : Scope} {ns : List Str} {is : List Nat} (c : Caps X scope ns is) : is.length = ns.length := by
  induction c with
  | nil => rfl
  | cons _ _ _ _ ih => simp [ih]
theorem Caps.at_ {X : Cx} {scope : Scope} {ns : List Str} {is : List Nat} (c : Caps X scope ns is) {j : Nat} {x : Str} (h : ns[j]? = some x) :
    ∃ i, is[j]? = some i ∧ X.N[i]? = some x ∧ scope.names.lookup x = some .free ∧ (X.env.kindOf x = some .cell ∨ X.env.kindOf x = some .free) := by
  induction c generalizing j with
  | nil => simp at h
  | cons a b k _ ih =>
    cases j with
    | zero => simp at h; subst h; exact ⟨_, rfl, a, b, k⟩
    | succ j => exact ih (by simpa using h)
/-- the block's names at its start -/
def getJ (σ : St) (i : Nat) : Option V := (σ[i]?).join
def initC (k : Nat) (caps : List Nat) (σ : St) : St := List.replicate k none ++ caps.map fun i => getJ σ i
section
variable {X : Cx} {pins : List (Addr × Obj)} {σ : St} {H : Hp} {s s4 : Shared}
theorem comp_start {own ns : List Str} {caps : List Nat} {scope : Scope} {C : Addr} {fp : List Addr} (I : Inv X pins σ H s) (S : CScope scope ns) (cp : Caps X scope ns caps) (hf : ∀ b ∈ fp, FpOk X pins H b)
    (hfl : ∀ b ∈ fp, b < s.heap.objs.size) (hC : s.heap.objs.size ≤ C) (os : s4.os = s.os) (gens : s4.gens = s.gens) (k : ∀ b o, s.heap.get? b = some o → s4.heap.get? b = some o) {m : Str → Option Value} (hn : s4.heap.Ns C m) :
    Inv (cxC X (own ++ ns) scope C s H fp (X.pn ++ pins)) [] (initC own.length caps σ) H s4 := by
  have cells : ∀ x c, (clOf X.env scope.names []).lookup x = some c → X.env.cells.lookup x = some c := fun x c e => by
    rcases clOf_lookup (fun y hy hfr => I.ok.has y.1 (cp.mem (S.frees y hy hfr))) e with z | z
    · simp at z
    · exact z
  have neL : C ≠ X.env.locals := Nat.ne_of_gt (Nat.lt_of_lt_of_le I.lt hC)
  have inFs : ∀ b, b ∈ frs X.stack → b = X.env.locals ∨ b ∈ X.fs := fun b hb => List.mem_cons.mp (I.stkSub b hb)
  have nst : ∀ b, b ≠ X.env.locals → b ∉ X.fs → b ∉ frs X.stack := fun b h1 h2 z => (inFs b z).elim h1 h2
  have cle : ∀ x c, X.env.cells.lookup x = some c → c < s.heap.objs.size := fun x c e => by obtain ⟨v, q⟩ := I.cell x c e; exact q.lt
  refine ⟨⟨I.ok.mod, S.kind, I.ok.glob, I.ok.blt, hC, fun x y c h1 h2 => I.ok.inj x y c (cells _ _ h1) (cells _ _ h2), fun x hx => ?_, (fun x c h => nomatch h), I.ok.hd, I.ok.frames, .inl rfl, fun b hb => ⟨fun z => ?_, fun x c e => (hf b hb).2.2.2.2.1 x c (cells _ _ e)⟩,
      I.bs, Nat.le_trans I.ok.bsz I.sz, fun b o e hb => ?_, fun b hb => nst b (hf b hb).2.1 (hf b hb).2.2.1, I.stack, I.stkFree⟩,
    os, by rw [gens]; exact I.bare, Un.kept k, ⟨m, hn, fun i x v e1 e2 e3 => ?_⟩, fun x c e => ?_, ?_, fun x c e => I.freeC x c (cells _ _ e), fun p hp => ?_, I.hok.kept k, ?_⟩
  · have hx' : (relabel scope X.env).names.lookup x = some .cell ∨ (relabel scope X.env).names.lookup x = some .free := hx
    have hfree : scope.names.lookup x = some .free := by
      rcases hx' with z | z
      · rcases relabel_some z with q | q
        · exact absurd rfl (S.nocell _ (PySem.mem_of_lookup q))
        · exact q.2
      · rcases relabel_some z with q | q
        · exact q
        · exact absurd q.1 (by decide)
    exact clOf_has (PySem.mem_of_lookup hfree)
  · exact absurd (Nat.lt_of_lt_of_le (hfl b hb) hC) (by rw [show b = C from z]; exact Nat.lt_irrefl _)
  · obtain ⟨f0, f1, f2, f3, f4, f5⟩ := hf b hb
    rcases f3 with z | z
    · exact I.ok.noex b o e z
    · exact absurd (Nat.lt_of_lt_of_le (Heap.lt_size e) (Nat.le_trans I.ok.bsz z)) (Nat.lt_irrefl _)
  · have e2' : (List.replicate own.length none ++ caps.map fun i => getJ σ i)[i]? = some (some v) := e2
    have e1' : (own ++ ns)[i]? = some x := e1
    by_cases hi : i < own.length
    · rw [List.getElem?_append_left (by simpa using hi), List.getElem?_replicate, if_pos hi] at e2'
      cases e2'
    · rw [List.getElem?_append_right (by simpa using hi), List.length_replicate, List.getElem?_map] at e2'
      rw [List.getElem?_append_right (by omega)] at e1'
      obtain ⟨i', h1, h2, h3, h4⟩ := cp.at_ e1'
      rw [h1] at e2'
      have e4 : (σ[i']?).join = some v := Option.some.inj e2'
      have e5 : σ[i']? = some (some v) := by
        cases q : σ[i']? with
        | none => rw [q] at e4; cases e4
        | some w' => rw [q] at e4; rw [show w' = some v from e4]
      obtain ⟨m', hn', hl'⟩ := I.loc
      have vis : Vis X.env.scope x := h4.elim (fun z => .inr (.inl z)) fun z => .inr (.inr z)
      obtain ⟨u, r, l⟩ := hl' i' x v h2 e5 vis
      refine ⟨u, r, .inr ⟨relabel_free h3, ?_⟩⟩
      obtain ⟨c, hc⟩ := clOf_has (env := X.env) (acc := []) (PySem.mem_of_lookup h3)
      rcases l with ⟨z, _⟩ | ⟨_, c', e6, z⟩
      · rcases h4 with y | y <;> · rw [y] at z; cases z
      · have := cells _ _ hc
        rw [e6] at this
        cases this
        obtain ⟨o, ho, hd⟩ := z
        exact ⟨_, hc, o, k _ _ ho, hd⟩
  · obtain ⟨v, o, ho, hd⟩ := I.cell x c (cells _ _ e)
    exact ⟨v, o, k _ _ ho, hd⟩
  · exact I.hok.fresh hC
  · have hp' : p ∈ X.pn ++ pins := by simpa [cxC] using hp
    obtain ⟨a1, a2, a3, a4, a5⟩ := I.pin p hp'
    exact ⟨k _ _ a1, a2, Nat.ne_of_lt (Nat.lt_of_lt_of_le (Heap.lt_size a1) hC), nst _ a3 a4, a5⟩
  · show (initC own.length caps σ).length = (own ++ ns).length
    simp [initC, cp.len]
end
/-! ### the tests -/
def PF (X : Cx) (ifs : List Expr) (t : TT) : Prop :=
  ∀ (pins : List (Addr × Obj)) (s : Shared) (σ : St) (H : Hp) (Q : Bool → Hp → Prop), Inv X pins σ H s → t σ H Q →
    wpAny (model X.prog X.w) X.A (forIn ifs true fun c r => if r = true then do let ok ← isTrue c X.env (eval c X.env); pure (ForInStep.yield ok) else pure (ForInStep.yield r)) (TP X pins σ Q) X.xe s
def tNoIf : TT := fun _ H q => q true H
theorem pf_nil {X : Cx} : PF X [] tNoIf := fun _ _ _ H _ I h => wpAny_pure ⟨H, I, h⟩
theorem pf_one {X : Cx} {c : Expr} {t : TT} (h : PT X c t) : PF X [c] t := by
  intro pins s σ H Q I hq
  rw [List.forIn_cons]
  simp only [if_true, bind_assoc, pure_bind]
  refine wpAny_bind (thn (h pins s σ H Q I hq) fun b s1 q => ?_)
  exact wpAny_pure q
/-! ### the block run -/
def CompJ (J : It) (g : TG) (tf : TT) (te : TE) (Q : VK) (σ : St) (H1 : Hp) : Prop := ∃ W : Nat → Nat → List V → St → Hp → Prop, (∃ m, W 0 m [] σ H1) ∧ ∀ i m ys σ H, W i m ys σ H →
  (J.stop i H ∧ ys.length ≤ sizeLine ∧ ∀ p, H p = none → Q (.ref p) (upd H p (.lst ys))) ∨
  (J.go i H ∧ ys.length < sizeLine ∧ ∀ x H', J.yld i H x H' → g x σ H' fun σ2 H2 => tf σ2 H2 fun b H3 =>
    if b = true then te σ2 H3 fun y H4 => ∃ m', m' < m ∧ W (i + 1) m' (ys ++ [y]) σ2 H4 else ∃ m', m' < m ∧ W (i + 1) m' ys σ2 H3)
section
variable {X : Cx} {pins : List (Addr × Obj)} {σ : St} {H : Hp} {s : Shared}
theorem comp_turn_one {prog : Program} {w : World} {A : Around} {R : Result → Shared → Prop} {s : Shared} {elt target iter : Expr} {ifs : List Expr} {scope : Scope} {pos : Pos} {it acc : Value} {env : Env} (I : Nat → Shared → Prop)
    (turn : ∀ n s, I n s → wpAny (model prog w) A (pyNext it) (fun r s₁ => match r with
      | none => R (.ok .next) s₁
      | some v => wpAny (model prog w) A (letOwnedTupleGo target it v) (fun _ s₁ => wpAny (model prog w) A (assign target env v) (fun _ s₂ =>
          wpAny (model prog w) A (forIn ifs true fun c r => if r = true then do let ok ← isTrue c env (eval c env); pure (ForInStep.yield ok) else pure (ForInStep.yield r)) (fun ok s₃ =>
            if ok = true then wpAny (model prog w) A (eval elt env) (fun x s₄ =>
              wpAny (model prog w) A (call (.builtin "list.append") [acc, x]) (fun _ s₅ => ∃ m, m < n ∧ I m s₅) (notedBy (model prog w) A env fun e s' => R (.error e) s') s₄) (notedBy (model prog w) A env fun e s' => R (.error e) s') s₃
            else ∃ m, m < n ∧ I m s₃) (notedBy (model prog w) A env fun e s' => R (.error e) s') s₂) (notedBy (model prog w) A env fun e s' => R (.error e) s') s₁) (notedBy (model prog w) A env fun e s' => R (.error e) s') s₁) (notedBy (model prog w) A env fun e s' => R (.error e) s') s)
    (n : Nat) (h : I n s) : codeAny (model prog w) A (.compLoop (.ListComp elt [⟨target, iter, ifs, 0⟩] scope pos) 0 it acc env) R s := by
  refine codeAny_loop rfl I (fun n s hI => ?_) n h
  show wpAny _ A ((compTurn (.ListComp elt [⟨target, iter, ifs, 0⟩] scope pos) 0 it acc env).onRaise (fun x => do noteFrame x env; theTreesLotGoes x)) _ _ s
  refine wpAny_noted ?_
  rw [compTurn_list]
  refine wpAny_bind (wpAny_standAt (wpAny_bind (wpAny_mono (turn n s hI) (fun r s₁ h₁ => ?_) fun _ _ h' => h')))
  cases r with
  | none => exact wpAny_pure h₁
  | some v =>
    refine wpAny_bind (wpAny_mono h₁ (fun _ s₁ h₁ => ?_) fun _ _ h' => h')
    refine wpAny_bind (wpAny_mono h₁ (fun _ s₂ h₂ => wpAny_bind (wpAny_mono h₂ (fun ok s₃ h₃ => ?_) fun _ _ h' => h')) fun _ _ h' => h')
    cases ok with
    | false => exact wpAny_pure ⟨rfl, h₃⟩
    | true =>
      exact wpAny_bind (wpAny_bind (wpAny_mono h₃ (fun x s₄ h₄ => wpAny_bind (wpAny_mono h₄ (fun _ s₅ h₅ => wpAny_pure (wpAny_pure ⟨rfl, h₅⟩)) fun _ _ h' => h')) fun _ _ h' => h'))

theorem comp_run {own ns : List Str} {caps : List Nat} {elt tg iter : Expr} {ifs : List Expr} {scope : Scope} {pos : Pos} {it : Addr} {fp : List Addr} {tn : Nat → Heap → Prop} {J : It} {g : TG} {tf : TT} {te : TE} {Q : VK} {E : Value → Shared → Prop} {RR : Value → Addr → Result → Shared → Prop}
    (hc : X.calm = true) (S : CScope scope ns) (cp : Caps X scope ns caps)
    (hg : ∀ C s H fp pn, PG (cxC X (own ++ ns) scope C s H fp pn) tg g) (ht : ∀ C s H fp pn, PF (cxC X (own ++ ns) scope C s H fp pn) ifs tf) (he : ∀ C s H fp pn, PE (cxC X (own ++ ns) scope C s H fp pn) elt te)
    (I : Inv X pins σ H s) (T : Turn X.prog X.w X.K tg J fp it tn) (st : tn 0 s.heap) (hf : ∀ b ∈ fp, FpOk X pins H b) (hJ : CompJ J g tf te Q (initC own.length caps σ) H)
    (fin : ∀ D C m s' H' ys, D ≠ C → s'.heap.Ns C m → FpOk X pins (upd H' D (.lst ys)) C → Inv X pins σ (upd H' D (.lst ys)) s' → Q (.ref D) (upd H' D (.lst ys)) → RR (.ref D) C (.ok .next) s') :
    wpAny (model X.prog X.w) X.A (newList []) (fun acc s₃ => wpAny (model X.prog X.w) X.A (newFunctionEnv scope X.env.globals (clOf X.env scope.names []) [] X.env.qual none .none (some X.env)) (fun cenv s₄ =>
      codeAny (model X.prog X.w) X.A (.compStart (.ListComp elt [⟨tg, iter, ifs, 0⟩] scope pos) 0 (.ref it) acc { cenv with scope := relabel scope X.env }) (RR acc cenv.locals) s₄) E s₃) E s := by
  refine wpAny_newObj_type (wpAny_newFunctionEnv S.nocell (by intro y hy; simp at hy) (fun h₁ hns₁ hsb₁ => ?_) S.kind)
  dsimp only at hns₁ hsb₁ ⊢
  generalize hH2 : s.heap.push { cls := .type "list", dict := none, data := .seq ([] : List Value).toArray } = H2 at hns₁ hsb₁ ⊢
  have hC : H2.objs.size = s.heap.objs.size + 1 := by rw [← hH2, Heap.size_push]
  have hDC : s.heap.objs.size ≠ H2.objs.size := by rw [hC]; exact Nat.ne_of_lt (Nat.lt_succ_self _)
  have hCle : s.heap.objs.size ≤ H2.objs.size := by rw [hC]; exact Nat.le_succ _
  have old : ∀ b o, s.heap.get? b = some o → h₁.get? b = some o := fun b o e => hsb₁.extBut b o (by rw [hC]; exact Nat.ne_of_lt (Nat.lt_succ_of_lt (Heap.lt_size e))) (Heap.get?_push_of_some _ (hH2 ▸ Heap.get?_push_of_some _ e))
  have hacc : h₁.PlainList s.heap.objs.size #[] := ⟨_, hsb₁.extBut _ _ hDC (Heap.get?_push_of_some _ (hH2 ▸ Heap.get?_push_size _ rfl))⟩
  have hfl : ∀ b ∈ fp, b < s.heap.objs.size := fun b hb => by obtain ⟨o, e, _⟩ := T.obj _ _ st b hb; exact Heap.lt_size e
  generalize hD : s.heap.objs.size = D at hDC hacc ⊢
  generalize hCe : H2.objs.size = C at hns₁ hsb₁ hDC hCle hC ⊢
  have hDle : s.heap.objs.size ≤ D := by rw [hD]; exact Nat.le_refl _
  have hCle' : s.heap.objs.size ≤ C := by rw [hD]; rw [hD] at hCle; exact hCle
  have I₁ : Inv (cxC X (own ++ ns) scope C s H fp (X.pn ++ pins)) [] (initC own.length caps σ) H { s with heap := h₁, toks := s.toks + ([] : List (Str × Value)).length } :=
    comp_start I S cp hf hfl hCle' rfl rfl old hns₁
  have st₁ : tn 0 h₁ := T.keep _ _ _ st fun b _ o e => old b o e
  generalize hY : cxC X (own ++ ns) scope C s H fp (X.pn ++ pins) = Y at I₁
  have hgY : PG Y tg g := hY ▸ hg C s H fp (X.pn ++ pins)
  have htY : PF Y ifs tf := hY ▸ ht C s H fp (X.pn ++ pins)
  have heY : PE Y elt te := hY ▸ he C s H fp (X.pn ++ pins)
  have yP : Y.prog = X.prog := by rw [← hY]; rfl
  have yW : Y.w = X.w := by rw [← hY]; rfl
  have yK : Y.K = X.K := by rw [← hY]; rfl
  have yA : Y.A = X.A := by rw [← hY]; rfl
  have yC : Y.calm = true := by rw [← hY]; exact hc
  have yE : Y.env = compEnvC scope (clOf X.env scope.names []) C X.env := by rw [← hY]; rfl
  have yX : Y.xe = fun _ _ => False := by rw [← hY]; rfl
  have yF : Y.fs = frs X.stack := by rw [← hY]; rfl
  have yQ : Y.pn = X.pn ++ pins := by rw [← hY]; rfl
  have yI : Y.ex = fp := by rw [← hY]; rfl
  have yS : Y.s₀ = s := by rw [← hY]; rfl
  have yH : Y.H₀ = H := by rw [← hY]; rfl
  have cells : ∀ x c, Y.env.cells.lookup x = some c → X.env.cells.lookup x = some c := fun x c e => by
    rw [yE] at e
    rcases clOf_lookup (fun y hy hfr => I.ok.has y.1 (cp.mem (S.frees y hy hfr))) (show (clOf X.env scope.names []).lookup x = some c from e) with z | z
    · simp at z
    · exact z
  have nst : ∀ b, b ≠ X.env.locals → b ∉ X.fs → b ∉ Y.fs := fun b h1 h2 z => by
    rw [yF] at z
    exact (List.mem_cons.mp (I.stkSub b z)).elim h1 h2
  have fpY : ∀ {H' : Hp}, (∀ b ∈ fp, H' b = none) → ∀ b ∈ fp, FpOk Y [] H' b := fun {H'} hn b hb => by
    obtain ⟨f0, f1, f2, f3, f4, f5⟩ := hf b hb
    refine ⟨hn b hb, ?_, nst b f1 f2, .inl (by rw [yI]; exact hb), fun x c e => f4 x c (cells x c e), fun p hp => f5 p (by simpa [yQ] using hp)⟩
    rw [yE]
    exact Nat.ne_of_lt (Nat.lt_of_lt_of_le (hfl b hb) hCle')
  have fpD : ∀ {H' : Hp}, H' D = none → FpOk Y [] H' D := fun {H'} hn => by
    obtain ⟨f0, f1, f2, f3, f4, f5⟩ := I.fpOk (H' := H') hDle hn
    refine ⟨hn, by rw [yE]; exact hDC, nst D f1 f2, .inr (by rw [yS]; exact hDle), fun x c e => f4 x c (cells x c e), fun p hp => f5 p (by simpa [yQ] using hp)⟩
  have hDf : D ∉ fp := fun z => Nat.lt_irrefl _ (Nat.lt_of_lt_of_le (hfl D z) hDle)
  have objD : ∀ {h : Heap} {us : List Value}, h.PlainList D us.toArray → ∃ o, h.get? D = some o ∧ ∀ v, o.data ≠ .cell v := fun {h us} ⟨n, e⟩ => ⟨_, e, fun v z => by cases z⟩
  -- the pins of the list that grows
  have noErr : ∀ {α : Type} {t : Sem α} {Qt : α → Shared → Prop} {sx : Shared} {E' : Value → Shared → Prop}, wpAny (model Y.prog Y.w) Y.A t Qt Y.xe sx → wpAny (model X.prog X.w) X.A t Qt E' sx := fun {α t Qt sx E'} h => by
    rw [yP, yW, yA, yX] at h
    exact wpAny_mono h (fun _ _ q => q) fun _ _ f => f.elim
  obtain ⟨W, ⟨m0, w0⟩, turn⟩ := hJ
  have TY : Turn Y.prog Y.w Y.K tg J fp it tn := by rw [yP, yW, yK]; exact T
  have loop : ∀ s₃ : Shared, s₃ = { s with heap := h₁, toks := s.toks + ([] : List (Str × Value)).length } →
      codeAny (model X.prog X.w) X.A (.compLoop (.ListComp elt [⟨tg, iter, ifs, 0⟩] scope pos) 0 (.ref it) (.ref D) (compEnvC scope (clOf X.env scope.names []) C X.env)) (RR (.ref D) C) s₃ := by
    rintro s₃ rfl
    refine comp_turn_one (fun n s' => ∃ i ys us σ' H', Inv Y [] σ' H' s' ∧ tn i s'.heap ∧ (∀ b ∈ fp, H' b = none) ∧ H' D = none ∧ s'.heap.PlainList D us.toArray ∧ Vals ys us ∧ W i n ys σ' H') ?_ m0
      ⟨0, [], [], _, H, I₁, st₁, fun b hb => (hf b hb).1, I.hok.fresh hDle, hacc, .nil, w0⟩
    rintro n s3 ⟨i, ys, us, σ3, H3, I3, st3, fr3, hD3, pl3, v3, w3⟩
    have fD3 : ∀ b ∈ [D], FpOk Y [] H3 b := fun b hb => by
      have e : b = D := by simpa using hb
      subst e
      exact fpD hD3
    have I3' : Inv Y ([] ++ pinsAt [D] s3.heap) σ3 H3 s3 := I3.pinned fD3 fun b hb => by
      have e : b = D := by simpa using hb
      subst e
      exact objD pl3
    rw [List.nil_append] at I3'
    have fpY' : ∀ {H' : Hp}, (∀ b ∈ fp, H' b = none) → ∀ b ∈ fp, FpOk Y (pinsAt [D] s3.heap) H' b := fun {H'} hn b hb => by
      obtain ⟨f0, f1, f2, f3, f4, f5⟩ := fpY hn b hb
      refine ⟨f0, f1, f2, f3, f4, fun p hp => ?_⟩
      rcases List.mem_append.mp hp with z | z
      · exact f5 p (by simpa using z)
      · have e : p.1 = D := by simpa using (of_pinsAt z).1
        exact fun q => hDf (by rw [← e, q]; exact hb)
    obtain ⟨oD, eD, cD⟩ := objD pl3
    have keepD : ∀ {σ' : St} {H' : Hp} {s' : Shared} {pl : List (Addr × Obj)}, Inv Y (pinsAt [D] s3.heap ++ pl) σ' H' s' → s'.heap.PlainList D us.toArray ∧ H' D = none := fun {σ' H' s' pl} I' => by
      have := I'.pin (D, oD) (List.mem_append_right _ (List.mem_append_left _ (mem_pinsAt (by simp) eD)))
      refine ⟨?_, this.2.1⟩
      obtain ⟨k, e⟩ := pl3
      rw [e] at eD
      cases eD
      exact ⟨k, this.1⟩
    rcases turn i n ys σ3 H3 w3 with ⟨stop, hlen, qn⟩ | ⟨go, hlen, step⟩
    · refine noErr (thn (TY.done Y rfl rfl rfl yC i _ s3 σ3 H3 Y.xe I3' (fpY' fr3) st3 stop) fun r s4 ⟨hr, I4⟩ => ?_)
      subst hr
      obtain ⟨pl4, hD4⟩ := keepD (pl := []) (by rw [List.append_nil]; exact I4)
      have hun : Un (frs X.stack) fp H H3 s.heap s4.heap := by have := I4.base; rw [yF, yI, yS, yH] at this; exact this
      have hok : HOk X.prog X.w H3 s4.heap := by have := I4.hok; rw [yP, yW] at this; exact this
      obtain ⟨m4, hn4, _⟩ := I4.loc
      rw [yE] at hn4
      have hC4 : H3 C = none := by have := I4.free; rw [yE] at this; exact this
      have ne : ∀ b u, H3 b = some u → b ≠ D := fun b u e z => by rw [z, hD4] at e; cases e
      refine fin D C m4 s4 H3 ys hDC hn4 (I.fpOk hCle' (by rw [upd_ne (Ne.symm hDC)]; exact hC4)) (I.call' (ch := fp) ?_ ?_ ?_ I4.bare ?_) (qn D hD4)
      · have := I4.os; rw [yS] at this; exact this
      · exact ⟨hun.keep, hun.slot, fun b o e n hx => by rw [upd_ne (fun z => by rw [z] at e; exact absurd (Heap.lt_size e) (Nat.not_lt.mpr hDle))]; exact hun.free b o e n hx, hun.there,
          fun b xs e => by have := hun.tups b xs e; rw [upd_ne (ne _ _ this)]; exact this, fun b o u e => by have := hun.frzs b o u e; rw [upd_ne (ne _ _ this)]; exact this,
          fun b ps e => by obtain ⟨more, q⟩ := hun.tbls b ps e; exact ⟨more, by rw [upd_ne (ne _ _ q)]; exact q⟩⟩
      · intro b u e
        by_cases hb : b = D
        · subst hb
          rw [upd_same] at e
          cases e
          obtain ⟨k, e4⟩ := pl4
          exact ⟨hlen, us, k, v3, e4⟩
        · rw [upd_ne hb] at e
          exact (hok b u e).stay (fun c v _ q => q) (fun c q => by rw [upd_ne (ne _ _ q)]; exact q) fun c xs q => by rw [upd_ne (ne _ _ q)]; exact q
      · intro b hb
        obtain ⟨f0, f1, f2, f3, f4, f5⟩ := hf b hb
        exact ⟨f3, f1, f4, f5⟩
    · refine noErr (thn (TY.item Y rfl rfl rfl yC i _ s3 σ3 H3 Y.xe I3' (fpY' fr3) st3 go) fun r s4 ⟨u, hr, h4⟩ => ?_)
      subst hr
      refine noErr (thn h4 fun _ s5 ⟨x, H5, I5, r5, y5, st5, fr5⟩ => ?_)
      have I5' := I5.pinned (fpY' fr5) (T.obj _ _ st5)
      rw [← yE]
      refine noErr (thn (hgY _ s5 σ3 H5 x u _ I5' r5 (step x H5 y5)) fun _ s6 ⟨σ6, H6, I6, q6⟩ => ?_)
      refine noErr (thn (htY _ s6 σ6 H6 _ I6 q6) fun ok s7 ⟨H7, I7, q7⟩ => ?_)
      have fpK : ∀ {σ' : St} {H' : Hp} {s' : Shared}, Inv Y (pinsAt [D] s3.heap ++ pinsAt fp s5.heap) σ' H' s' → tn (i + 1) s'.heap ∧ ∀ b ∈ fp, H' b = none := fun {σ' H' s'} I' =>
        ⟨T.keep _ _ _ st5 fun b hb o e => (I'.pin (b, o) (List.mem_append_right _ (List.mem_append_right _ (mem_pinsAt hb e)))).1, fun b hb => by
          obtain ⟨o, e, _⟩ := T.obj _ _ st5 b hb
          exact (I'.pin (b, o) (List.mem_append_right _ (List.mem_append_right _ (mem_pinsAt hb e)))).2.1⟩
      cases ok with
      | false =>
        rw [if_neg Bool.false_ne_true] at q7 ⊢
        obtain ⟨m', hm, w7⟩ := q7
        obtain ⟨pl7, hD7⟩ := keepD I7
        obtain ⟨st7, fr7⟩ := fpK I7
        exact ⟨m', hm, i + 1, ys, us, σ6, H7, I7.pins_of (fun p hp => nomatch hp), st7, fr7, hD7, pl7, v3, w7⟩
      | true =>
        rw [if_pos rfl] at q7 ⊢
        refine noErr (thn (heY _ s7 σ6 H7 _ I7 q7) fun y s8 ⟨yv, H8, I8, r8, m', hm, w8⟩ => ?_)
        obtain ⟨pl8, hD8⟩ := keepD I8
        obtain ⟨st8, fr8⟩ := fpK I8
        have hul : us.length = ys.length := v3.length.symm
        refine wpAny_list_append_plain (hsz := by rw [List.size_toArray, hul]; exact Nat.le_of_lt hlen) pl8 fun h9 pl9 sb9 => ?_
        obtain ⟨d0, d1, d2, d3, d4, d5⟩ := fpD hD8
        refine ⟨m', hm, i + 1, ys ++ [yv], us ++ [y], σ6, H8, ?_, ?_, fr8, hD8, by simpa using pl9, v3.append (.cons r8 .nil), w8⟩
        · exact (I8.pins_of (pins' := []) fun p hp => nomatch hp).turned (t' := s8.toks) (fun b o hb e => (sb9.2 b hb).trans e) hD8 d1 d3 d4 d5
        · exact T.keep _ _ _ st8 fun b hb o e => (sb9.2 b (fun z => hDf (z ▸ hb))).trans e
  exact codeAny_compStart_list (loop _ rfl) (T.self _ 0 _ _ _ st₁ (loop _ rfl))
/-- [e for t in it if c] as a value -/
def tComp (k : Nat) (caps : List Nat) (wi : TI) (g : TG) (tf : TT) (te : TE) : TE := fun σ H Q => wi σ H fun J H1 => CompJ J g tf te Q (initC k caps σ) H1
theorem Caps.cl {scope : Scope} {ns : List Str} {caps : List Nat} (I : Inv X pins σ H s) (S : CScope scope ns) (cp : Caps X scope ns caps) : closureFor scope X.env = pure (clOf X.env scope.names []) :=
  closureFor_cl fun y hy hfr => I.ok.has y.1 (cp.mem (S.frees y hy hfr))
theorem pe_comp {own ns : List Str} {caps : List Nat} {elt tg iter : Expr} {ifs : List Expr} {scope : Scope} {pos : Pos} {wi : TI} {g : TG} {tf : TT} {te : TE} (hc : X.calm = true) (S : CScope scope ns) (cp : Caps X scope ns caps) (hi : PI X tg iter wi)
    (hg : ∀ C s H fp pn, PG (cxC X (own ++ ns) scope C s H fp pn) tg g) (ht : ∀ C s H fp pn, PF (cxC X (own ++ ns) scope C s H fp pn) ifs tf) (he : ∀ C s H fp pn, PE (cxC X (own ++ ns) scope C s H fp pn) elt te)
    (hs : ∀ x, foldedSetIterable iter X.env x = pure x := by intro _; rfl) : PE X (.ListComp elt [⟨tg, iter, ifs, 0⟩] scope pos) (tComp own.length caps wi g tf te) := by
  intro pins s σ H Q I h
  rw [eval_ListComp]
  refine wpAny_comprehension_free (use := none) rfl hs (cp.cl I S) S.kind S.names (thn (hi pins s σ H _ I h) fun v s1 h1 => thn h1 fun itv s2 h2 => ?_)
  obtain ⟨it, fp, tn, J, H2, e, I2, T, st2, f2, hJ⟩ := h2
  subst e
  refine comp_run hc S cp hg ht he I2 T st2 f2 hJ (RR := fun acc C => compPost (model X.prog X.w) X.A X.xe none (EP X pins σ Q) acc C) fun D C m s' H' ys hDC hn fC I' q => ?_
  refine ⟨m, hn, fun h' hs' => ⟨.ref D, _, ?_, rfl, q⟩⟩
  obtain ⟨f0, f1, f2, f3, f4, f5⟩ := fC
  exact I'.turned (t' := s'.toks) (fun b o hb e => (hs'.2 b hb).trans e) f0 f1 f3 f4 f5
/-- x = [e for t in it if c], stored ahead of the block's end -/
theorem ps_setC {i : Nat} {x : Str} {own ns : List Str} {caps : List Nat} {elt tg iter : Expr} {ifs : List Expr} {scope : Scope} {pos pos' spos : Pos} {wi : TI} {g : TG} {tf : TT} {te : TE} (hN : X.N.Nodup) (hi : X.N[i]? = some x) (hx : Loc X.env.scope x) (hc : X.calm = true) (S : CScope scope ns) (cp : Caps X scope ns caps) (hit : PI X tg iter wi)
    (hg : ∀ C s H fp pn, PG (cxC X (own ++ ns) scope C s H fp pn) tg g) (ht : ∀ C s H fp pn, PF (cxC X (own ++ ns) scope C s H fp pn) ifs tf) (he : ∀ C s H fp pn, PE (cxC X (own ++ ns) scope C s H fp pn) elt te)
    (hs : ∀ x, foldedSetIterable iter X.env x = pure x := by intro _; rfl) (hsw : swapsWith (.ListComp elt [⟨tg, iter, ifs, 0⟩] scope pos) (some (.Name x pos')) spos.line X.env = pure true := by rfl)
    (hf : X.fn x = true ∨ X.env.scope.names.lookup x = some .local := by first | exact .inl rfl | exact .inr rfl | assumption) :
    PS X (.Assign [.Name x pos'] (.ListComp elt [⟨tg, iter, ifs, 0⟩] scope pos) spos) (tAsg (tComp own.length caps wi g tf te) (gName i)) := by
  intro pins s σ H D I h
  rw [exec_Assign_Name_used _ _ _ _ hsw]
  refine wpAny_bind (wpAny_standAt (wpAny_bind ?_))
  show wpAny _ X.A (do let _ ← comprehension (.ListComp elt [⟨tg, iter, ifs, 0⟩] scope pos) scope X.env _ (newList []) false (eval iter X.env) (some (assign (.Name x pos') X.env))) _ _ s
  refine wpAny_bind (wpAny_mono (wpAny_comprehension_free (use := some (assign (.Name x pos') X.env)) (Q := fun _ s' => SP X pins D .next s') rfl hs (cp.cl I S) S.kind S.names
    (thn (hit pins s σ H _ I h) fun v s1 h1 => thn h1 fun itv s2 h2 => ?_)) (fun _ s' hq => wpAny_pure (wpAny_pure hq)) fun _ _ e => e)
  obtain ⟨it, fp, tn, J, H2, e, I2, T, st2, f2, hJ⟩ := h2
  subst e
  refine comp_run hc S cp hg ht he I2 T st2 f2 hJ (RR := fun acc C => compPost (model X.prog X.w) X.A X.xe (some (assign (.Name x pos') X.env)) (fun _ s' => SP X pins D .next s') acc C) fun L C m s' H' ys hDC hn fC I' q => ?_
  show wpAny _ X.A (assign (.Name x pos') X.env (.ref L)) _ _ _
  refine wpAny_assign_Name (store_ok2 I' hN hi hx (v := .ref L) (u := .ref L) rfl (fun s'' I'' ⟨a, sb, ha⟩ => ?_) hf)
  obtain ⟨f0, f1, f2, f3, f4, f5⟩ := fC
  have hCa : C ≠ a := by
    rcases ha with z | z
    · rw [z]; exact f1
    · exact fun y => f4 _ _ z y.symm
  exact ⟨m, hn.sameBut sb hCa, fun h' hs' => ⟨_, _, I''.turned (t' := s''.toks) (fun b o hb e => (hs'.2 b hb).trans e) f0 f1 f3 f4 f5, q⟩⟩
theorem w_compL {k : Nat} {caps : List Nat} {K : PySem.W.Frag} {tl : TE} {g : TG} {tf : TT} {te : TE} {Q : VK} : tComp k caps (iList K tl) g tf te σ H Q = tl σ H fun x H1 => ∃ a, x = .ref a ∧ (∃ xs, SqL K H1 a xs) ∧ CompJ (Itl K a) g tf te Q (initC k caps σ) H1 := rfl
theorem w_compT {k : Nat} {caps : List Nat} {K : PySem.W.Frag} {tl : TE} {g : TG} {tf : TT} {te : TE} {Q : VK} : tComp k caps (iTup K tl) g tf te σ H Q = tl σ H fun x H1 => ∃ a, x = .ref a ∧ (∃ xs, SqT K H1 a xs) ∧ CompJ (Itt K a) g tf te Q (initC k caps σ) H1 := rfl
theorem w_comp1 {k : Nat} {caps : List Nat} {ta : TA} {g : TG} {tf : TT} {te : TE} {Q : VK} : tComp k caps (iRng1 ta) g tf te σ H Q = ta σ H fun vs H1 => ∃ j : Int, vs = [.int j] ∧ -(2 ^ 62) ≤ j ∧ j < 2 ^ 62 ∧ CompJ (Itr 0 j.toNat) g tf te Q (initC k caps σ) H1 := rfl
theorem w_comp2 {k : Nat} {caps : List Nat} {ta : TA} {g : TG} {tf : TT} {te : TE} {Q : VK} : tComp k caps (iRng2 ta) g tf te σ H Q = ta σ H fun vs H1 => ∃ i j : Int, vs = [.int i, .int j] ∧ (-(2 ^ 62) ≤ i ∧ i < 2 ^ 62 ∧ -(2 ^ 62) ≤ j ∧ j < 2 ^ 62) ∧ CompJ (Itr i (j - i).toNat) g tf te Q (initC k caps σ) H1 := rfl
theorem w_init0 {x : Str} {l : List Str} {caps : List Nat} : initC (x :: l).length caps σ = none :: initC l.length caps σ := rfl
theorem w_initS {i : Nat} {is : List Nat} : initC ([] : List Str).length (i :: is) σ = getJ σ i :: initC ([] : List Str).length is σ := rfl
theorem w_initN : initC ([] : List Str).length [] σ = [] := rfl
theorem w_get0 {x : Option V} : getJ (x :: σ) 0 = x := rfl
theorem w_getS {x : Option V} {i : Nat} : getJ (x :: σ) (i + 1) = getJ σ i := rfl
theorem w_noif {q : Bool → Hp → Prop} : tNoIf σ H q = q true H := rfl
end

/-! ### the forms one uses -/
section
variable {K : PySem.W.Frag} {a : Addr} {xs : List V} {g : TG} {tf : TT} {te : TE} {Q : VK} {σ : St} {H : Hp}
theorem comp_by {J : It} (n : Nat) (hsz : n ≤ sizeLine) (Pv : Nat → List V → St → Hp → Prop) (h0 : Pv 0 [] σ H) (hlen : ∀ i ys σ H, Pv i ys σ H → ys.length ≤ i) (hgo : ∀ i ys σ H, i < n → Pv i ys σ H → J.go i H) (hstop : ∀ ys σ H, Pv n ys σ H → J.stop n H)
    (hs : ∀ i ys σ H x H' (N : List V → St → Hp → Prop), i < n → Pv i ys σ H → J.yld i H x H' → (∀ ys σ H, Pv (i + 1) ys σ H → N ys σ H) → g x σ H' fun σ2 H2 => tf σ2 H2 fun b H3 => if b = true then te σ2 H3 fun y H4 => N (ys ++ [y]) σ2 H4 else N ys σ2 H3)
    (hd : ∀ ys σ H p, Pv n ys σ H → H p = none → Q (.ref p) (upd H p (.lst ys))) : CompJ J g tf te Q σ H := by
  refine ⟨fun i m ys σ H => m = n - i ∧ i ≤ n ∧ Pv i ys σ H, ⟨n, by simp, Nat.zero_le _, h0⟩, ?_⟩
  rintro i m ys σ H ⟨rfl, hi, p⟩
  have hy := hlen i ys σ H p
  by_cases hlt : i < n
  · refine .inr ⟨hgo i ys σ H hlt p, by omega, fun x H' y => ?_⟩
    exact hs i ys σ H x H' (fun ys σ H => ∃ m', m' < n - i ∧ m' = n - (i + 1) ∧ i + 1 ≤ n ∧ Pv (i + 1) ys σ H) hlt p y fun ys σ H z => ⟨n - (i + 1), by omega, rfl, hlt, z⟩
  · have e : i = n := by omega
    subst e
    exact .inl ⟨hstop ys σ H p, by omega, fun p' hp => hd ys σ H p' p hp⟩
/-- over a list that the block leaves as it is -/
theorem comp_list (Pv : Nat → List V → St → Hp → Prop) (h0 : Pv 0 [] σ H) (hl : ∀ i ys σ H, Pv i ys σ H → SqL K H a xs ∧ ys.length ≤ i) (hsz : xs.length ≤ sizeLine)
    (hs : ∀ i x ys σ H (N : List V → St → Hp → Prop), xs[i]? = some x → Pv i ys σ H → (∀ ys σ H, Pv (i + 1) ys σ H → N ys σ H) → g x σ H fun σ2 H2 => tf σ2 H2 fun b H3 => if b = true then te σ2 H3 fun y H4 => N (ys ++ [y]) σ2 H4 else N ys σ2 H3)
    (hd : ∀ ys σ H p, Pv xs.length ys σ H → H p = none → Q (.ref p) (upd H p (.lst ys))) : CompJ (Itl K a) g tf te Q σ H := by
  refine comp_by xs.length hsz Pv h0 (fun i ys σ H p => (hl i ys σ H p).2) (fun i ys σ H hi p => ⟨xs, xs[i], (hl i ys σ H p).1, by simp [hi]⟩) (fun ys σ H p => ⟨xs, (hl _ ys σ H p).1, Nat.le_refl _⟩) ?_ hd
  rintro i ys σ H x H' N hi p ⟨rfl, y⟩ hN
  exact hs i x ys σ H' N (y xs (hl i ys σ _ p).1) p hN
theorem comp_range {lo : Int} {n : Nat} (Pv : Nat → List V → St → Hp → Prop) (h0 : Pv 0 [] σ H) (hl : ∀ i ys σ H, Pv i ys σ H → ys.length ≤ i) (hsz : n ≤ sizeLine)
    (hs : ∀ i ys σ H (N : List V → St → Hp → Prop), i < n → Pv i ys σ H → (∀ ys σ H, Pv (i + 1) ys σ H → N ys σ H) → g (.int (lo + i)) σ H fun σ2 H2 => tf σ2 H2 fun b H3 => if b = true then te σ2 H3 fun y H4 => N (ys ++ [y]) σ2 H4 else N ys σ2 H3)
    (hd : ∀ ys σ H p, Pv n ys σ H → H p = none → Q (.ref p) (upd H p (.lst ys))) : CompJ (Itr lo n) g tf te Q σ H := by
  refine comp_by n hsz Pv h0 hl (fun i ys σ H hi p => hi) (fun ys σ H p => Nat.le_refl _) ?_ hd
  rintro i ys σ H x H' N hi p ⟨rfl, rfl⟩ hN
  exact hs i ys σ H' N hi p hN
/-- one name, no test, a value for each item, the heap as it is -/
theorem comp_map {J : It} (n : Nat) (hsz : n ≤ sizeLine) {rest : St} (xs ys : List V) (hl : ys.length = n) (hgo : ∀ i, i < n → J.go i H) (hstop : J.stop n H) (hy : ∀ i x H', i < n → J.yld i H x H' → H' = H ∧ xs[i]? = some x)
    (hs : ∀ (i : Nat) (x y : V) (Q' : VK), xs[i]? = some x → ys[i]? = some y → Q' y H → te (some x :: rest) H Q')
    (q : ∀ p, H p = none → Q (.ref p) (upd H p (.lst ys))) : CompJ J (gName 0) tNoIf te Q (none :: rest) H := by
  refine comp_by n hsz (fun i zs σ H' => H' = H ∧ zs = ys.take i ∧ ∃ x, σ = x :: rest) ⟨rfl, by simp, _, rfl⟩ ?_ ?_ ?_ ?_ ?_
  · rintro i zs σ H' ⟨rfl, rfl, _⟩
    rw [List.length_take]; omega
  · rintro i zs σ H' hi ⟨rfl, _, _⟩
    exact hgo i hi
  · rintro zs σ H' ⟨rfl, _, _⟩
    exact hstop
  · rintro i zs σ H1 x H' N hi ⟨rfl, rfl, z, rfl⟩ y hN
    obtain ⟨rfl, hx⟩ := hy i x H' hi y
    show te (some x :: rest) H' _
    have hyi : ys[i]? = some ys[i] := List.getElem?_eq_getElem (by omega)
    refine hs i x ys[i] _ hx hyi (hN _ _ _ ⟨rfl, ?_, _, rfl⟩)
    rw [List.take_add_one, hyi]; rfl
  · rintro zs σ H' p ⟨rfl, rfl, _⟩ hp
    rw [← hl, List.take_length]
    exact q p hp
theorem comp_mapL {rest : St} (hx : SqL K H a xs) (hsz : xs.length ≤ sizeLine) (ys : List V) (hl : ys.length = xs.length)
    (hs : ∀ (i : Nat) (x y : V) (Q' : VK), xs[i]? = some x → ys[i]? = some y → Q' y H → te (some x :: rest) H Q')
    (q : ∀ p, H p = none → Q (.ref p) (upd H p (.lst ys))) : CompJ (Itl K a) (gName 0) tNoIf te Q (none :: rest) H := by
  refine comp_map xs.length hsz xs ys hl (fun i hi => ⟨xs, xs[i], hx, by simp [hi]⟩) ⟨xs, hx, Nat.le_refl _⟩ (fun i x H' hi y => ⟨y.1, y.2 xs hx⟩) hs q
theorem comp_mapR {lo : Int} {n : Nat} {rest : St} (hsz : n ≤ sizeLine) (ys : List V) (hl : ys.length = n)
    (hs : ∀ (i : Nat) y (Q' : VK), i < n → ys[i]? = some y → Q' y H → te (some (.int (lo + i)) :: rest) H Q')
    (q : ∀ p, H p = none → Q (.ref p) (upd H p (.lst ys))) : CompJ (Itr lo n) (gName 0) tNoIf te Q (none :: rest) H := by
  refine comp_map n hsz ((List.range n).map fun i : Nat => V.int (lo + i)) ys hl (fun i hi => hi) (Nat.le_refl _) (fun i x H' hi y => ⟨y.1, by simp [hi, y.2]⟩) (fun i x y Q' hx hy hq => ?_) q
  have hi : i < n := by
    have := (List.getElem?_eq_some_iff.mp hx).1
    simpa using this
  have e : x = .int (lo + i) := by simp [hi] at hx; exact hx.symm
  subst e
  exact hs i y Q' hi hy hq
end
end L2

set_option Elab.async false
set_option linter.all false
set_option maxRecDepth 100000
set_option maxHeartbeats 4000000
/-! Bows that fill a word, as plain data. -/
namespace Rm
open PySem L2
def isBowD : PyData → Bool
  | .tuple [.int a, .int b] => decide (a < b)
  | _ => false
def bowOf : PyData → Bw
  | .tuple [.int a, .int b] => (a, b)
  | _ => (0, 0)
def endsZ (ps : List Bw) : List Int := ps.map (·.1) ++ ps.map (·.2)
def fillZ (ps : List Bw) : Bool := (endsZ ps).isPerm (rngZ 0 (2 * ps.length))
def fillsD : PyData → Bool
  | .list ds => decide (2 * ds.length ≤ 40) && (ds.all isBowD && fillZ (ds.map bowOf))
  | _ => false
def wholeD (d : PyData) : Bool := isI d && !isB d
/-! ### promises -/
def spIsBow : Sp := fun vs H Q _ => ∃ x d, vs = [x] ∧ Dat H x d ∧ Q (.bl (isBowD d)) H
def spFills : Sp := fun vs H Q _ => ∃ x d, vs = [x] ∧ Dat H x d ∧ ∀ H', Same H H' → Q (.bl (fillsD d)) H'
theorem whole_of {K : PySem.W.Frag} {H : Hp} {x : V} {d : PyData} {Q : VK} {E : XK} (h : Dat H x d) (q : Q (.bl (wholeD d)) H) : spWhole K [x] H Q E :=
  ⟨x, _, isI d, isB d, rfl, h.ty, by cases h <;> rfl, by cases h <;> rfl, q⟩
end Rm

/-! The bows of a word by a heap of waiting ends. -/
namespace Rm
structure Stk (bs : List Bool) (i : Nat) (ws : List Nat) (bows : List (Nat × Nat)) : Prop where
  at_ : ∀ (j p : Nat), ws[j]? = some p → p < i ∧ bs[p]? = some true ∧ D bs p = j ∧ ∀ q, p < q → q ≤ i → D bs p < D bs q
  wlen : (ws.length : Int) = D bs i
  mate : ∀ b ∈ bows, Mate bs b.1 b.2 ∧ b.2 < i
  all : ∀ p, p < i → bs[p]? = some true → p ∈ ws ∨ ∃ m, (p, m) ∈ bows
  inc : bows.Pairwise (fun a b => a.2 < b.2)
  il : i ≤ bs.length
  len : ws.length + 2 * bows.length = i
theorem Stk.start (bs : List Bool) : Stk bs 0 [] [] :=
  ⟨fun j p h => by simp at h, by simp [D], (fun b h => nomatch h), fun p h => by omega, .nil, Nat.zero_le _, rfl⟩
theorem Stk.opens {bs : List Bool} {i : Nat} {ws : List Nat} {bows : List (Nat × Nat)} (S : Stk bs i ws bows) (h : bs[i]? = some true) : Stk bs (i + 1) (ws ++ [i]) bows := by
  have hs := D_succ h
  simp only [dl, if_true] at hs
  have hl := S.wlen
  refine ⟨fun j p hj => ?_, ?_, fun b hb => ⟨(S.mate b hb).1, by have := (S.mate b hb).2; omega⟩, fun p hp ho => ?_, S.inc, (List.getElem?_eq_some_iff.mp h).1, by have := S.len; simp only [List.length_append, List.length_singleton]; omega⟩
  · by_cases e : j < ws.length
    · rw [List.getElem?_append_left e] at hj
      obtain ⟨h1, h2, h3, h4⟩ := S.at_ j p hj
      refine ⟨by omega, h2, h3, fun q a b => ?_⟩
      by_cases c : q ≤ i
      · exact h4 q a c
      · have : q = i + 1 := by omega
        subst this
        have := h4 i (by omega) (Nat.le_refl _)
        omega
    · rw [List.getElem?_append_right (by omega)] at hj
      have hj0 : j - ws.length = 0 := by
        have := (List.getElem?_eq_some_iff.mp hj).1
        simp at this; omega
      rw [hj0] at hj
      have : p = i := by simpa using hj.symm
      subst this
      refine ⟨by omega, h, by omega, fun q a b => ?_⟩
      have : q = p + 1 := by omega
      subst this
      omega
  · simp only [List.length_append, List.length_singleton]; omega
  · by_cases e : p = i
    · subst e; exact .inl (by simp)
    · rcases S.all p (by omega) ho with z | z
      · exact .inl (List.mem_append_left _ z)
      · exact .inr z
theorem Stk.has {bs : List Bool} {i : Nat} {ws : List Nat} {bows : List (Nat × Nat)} (S : Stk bs i ws bows) (b : Bal bs) (h : bs[i]? = some false) : ∃ ws' p, ws = ws' ++ [p] := by
  have hs := D_succ h
  simp only [dl, Bool.false_eq_true, if_false] at hs
  have hl := S.wlen
  have hi := (List.getElem?_eq_some_iff.mp h).1
  have := b.nn (i + 1) (by omega)
  have hne : ws ≠ [] := fun e => by rw [e] at hl; simp at hl; omega
  exact ⟨ws.dropLast, ws.getLast hne, (List.dropLast_concat_getLast hne).symm⟩
theorem Stk.closes {bs : List Bool} {i p : Nat} {ws : List Nat} {bows : List (Nat × Nat)} (S : Stk bs i (ws ++ [p]) bows) (h : bs[i]? = some false) : Stk bs (i + 1) ws (bows ++ [(p, i)]) := by
  have hs := D_succ h
  simp only [dl, Bool.false_eq_true, if_false] at hs
  have hl := S.wlen
  simp only [List.length_append, List.length_singleton] at hl
  obtain ⟨p1, p2, p3, p4⟩ := S.at_ ws.length p (by simp)
  have hi := (List.getElem?_eq_some_iff.mp h).1
  have M : Mate bs p i := ⟨p1, hi, p2, h, by omega, p4⟩
  refine ⟨fun j q hj => ?_, by omega, fun b hb => ?_, fun q hq ho => ?_, ?_, hi, by have := S.len; simp only [List.length_append, List.length_singleton] at this ⊢; omega⟩
  · have hjl := (List.getElem?_eq_some_iff.mp hj).1
    obtain ⟨h1, h2, h3, h4⟩ := S.at_ j q (by rw [List.getElem?_append_left hjl]; exact hj)
    refine ⟨by omega, h2, h3, fun x a b => ?_⟩
    by_cases c : x ≤ i
    · exact h4 x a c
    · have : x = i + 1 := by omega
      subst this
      omega
  · rcases List.mem_append.mp hb with hb | hb
    · exact ⟨(S.mate b hb).1, by have := (S.mate b hb).2; omega⟩
    · have : b = (p, i) := by simpa using hb
      subst this
      exact ⟨M, Nat.lt_succ_self i⟩
  · by_cases e : q = i
    · subst e; rw [h] at ho; simp at ho
    · rcases S.all q (by omega) ho with z | ⟨m, z⟩
      · rcases List.mem_append.mp z with z | z
        · exact .inl z
        · have : q = p := by simpa using z
          subst this
          exact .inr ⟨i, by simp⟩
      · exact .inr ⟨m, List.mem_append_left _ z⟩
  · refine List.pairwise_append.mpr ⟨S.inc, by simp, fun a ha b hb => ?_⟩
    have : b = (p, i) := by simpa using hb
    subst this
    exact (S.mate a ha).2
theorem Stk.mem {bs : List Bool} {ws : List Nat} {bows ms : List (Nat × Nat)} (S : Stk bs bs.length ws bows) (b : Bal bs) (M : Mates bs bs.length ms) (x : Nat × Nat) : x ∈ bows ↔ x ∈ ms := by
  have hw : ws = [] := by
    have := S.wlen
    rw [b.z] at this
    exact List.eq_nil_of_length_eq_zero (by omega)
  subst hw
  refine ⟨fun h => ?_, fun h => ?_⟩
  · obtain ⟨m, _⟩ := S.mate x h
    have hx := (List.getElem?_eq_some_iff.mp m.op).1
    obtain ⟨y, hy⟩ := M.all x.1 hx m.op
    have := m.uniq (M.mate _ hy).1
    rw [show x = (x.1, y) from Prod.ext rfl this]
    exact hy
  · obtain ⟨m, hx⟩ := M.mate x h
    rcases S.all x.1 hx m.op with z | ⟨y, hy⟩
    · exact nomatch z
    · have := m.uniq (S.mate _ hy).1
      rw [show x = (x.1, y) from Prod.ext rfl this]
      exact hy
theorem inc_ext : ∀ (xs ys : List (Nat × Nat)), xs.Pairwise (fun a b => a.1 < b.1) → ys.Pairwise (fun a b => a.1 < b.1) → (∀ x, x ∈ xs ↔ x ∈ ys) → xs = ys
  | [], [], _, _, _ => rfl
  | [], y :: ys, _, _, h => absurd ((h y).mpr List.mem_cons_self) (by simp)
  | x :: xs, [], _, _, h => absurd ((h x).mp List.mem_cons_self) (by simp)
  | x :: xs, y :: ys, hx, hy, h => by
    obtain ⟨hx1, hx2⟩ := List.pairwise_cons.mp hx
    obtain ⟨hy1, hy2⟩ := List.pairwise_cons.mp hy
    have e : x = y := by
      rcases List.mem_cons.mp ((h x).mp List.mem_cons_self) with e | e
      · exact e
      · rcases List.mem_cons.mp ((h y).mpr List.mem_cons_self) with e' | e'
        · exact e'.symm
        · have := hx1 y e'
          have := hy1 x e
          omega
    subst e
    congr 1
    refine inc_ext xs ys hx2 hy2 fun z => ⟨fun hz => ?_, fun hz => ?_⟩
    · rcases List.mem_cons.mp ((h z).mp (List.mem_cons_of_mem _ hz)) with e | e
      · subst e; have := hx1 z hz; omega
      · exact e
    · rcases List.mem_cons.mp ((h z).mpr (List.mem_cons_of_mem _ hz)) with e | e
      · subst e; have := hy1 z hz; omega
      · exact e
/-- what is sorted, and holds the same, is the list of the mates -/
theorem Stk.sorted {bs : List Bool} {ws : List Nat} {bows ms out : List (Nat × Nat)} (S : Stk bs bs.length ws bows) (b : Bal bs) (M : Mates bs bs.length ms) (hp : out.Perm bows)
    (hs : out.Pairwise (fun a b => a.1 < b.1 ∨ a.1 = b.1 ∧ a.2 ≤ b.2)) : out = ms := by
  refine inc_ext out ms ?_ M.inc fun x => (hp.mem_iff).trans (S.mem b M x)
  have nd : bows.Nodup := S.inc.imp fun {a b} h e => by rw [e] at h; omega
  have nd' : out.Nodup := (hp.nodup_iff).mpr nd
  have key : ∀ l : List (Nat × Nat), (∀ x ∈ l, Mate bs x.1 x.2) → l.Nodup → l.Pairwise (fun a b => a.1 < b.1 ∨ a.1 = b.1 ∧ a.2 ≤ b.2) → l.Pairwise (fun a b => a.1 < b.1) := by
    intro l hm hn hq
    induction l with
    | nil => exact .nil
    | cons a l ih =>
      obtain ⟨h1, h2⟩ := List.pairwise_cons.mp hq
      obtain ⟨n1, n2⟩ := List.nodup_cons.mp hn
      refine List.pairwise_cons.mpr ⟨fun c hc => ?_, ih (fun x hx => hm x (List.mem_cons_of_mem _ hx)) n2 h2⟩
      rcases h1 c hc with z | ⟨z, _⟩
      · exact z
      · have ma := hm a List.mem_cons_self
        have mc := hm c (List.mem_cons_of_mem _ hc)
        rw [← z] at mc
        have e := ma.uniq mc
        exact absurd (show c ∈ l from hc) (by rw [show c = a from Prod.ext z.symm e.symm]; exact n1)
  exact key out (fun x hx => (S.mate x (hp.mem_iff.mp hx)).1) nd' hs
end Rm

set_option Elab.async false
set_option linter.all false
set_option maxHeartbeats 4000000
/-! The bows of a word: they fill it, don't cross, and tell it back. -/
namespace Rm
open PySem L2
theorem Stk.ex {bs : List Bool} (b : Bal bs) : ∀ i, i ≤ bs.length → ∃ ws bw, Stk bs i ws bw ∧ ∀ q, q < i → bs[q]? = some false → ∃ p, (p, q) ∈ bw
  | 0, _ => ⟨[], [], Stk.start bs, fun q h => by omega⟩
  | i + 1, hi => by
    obtain ⟨ws, bw, S, c⟩ := Stk.ex b i (by omega)
    have hb : bs[i]? = some bs[i] := List.getElem?_eq_getElem (by omega)
    cases e : bs[i] with
    | true =>
      rw [e] at hb
      refine ⟨_, _, S.opens hb, fun q hq hf => ?_⟩
      by_cases z : q = i
      · subst z; rw [hb] at hf; cases hf
      · exact c q (by omega) hf
    | false =>
      rw [e] at hb
      obtain ⟨ws', p, rfl⟩ := S.has b hb
      refine ⟨_, _, S.closes hb, fun q hq hf => ?_⟩
      by_cases z : q = i
      · subst z; exact ⟨p, by simp⟩
      · obtain ⟨p', hp⟩ := c q (by omega) hf
        exact ⟨p', List.mem_append_left _ hp⟩
theorem Mates.closed {bs : List Bool} {ms : List (Nat × Nat)} (M : Mates bs bs.length ms) (b : Bal bs) {q : Nat} (h : bs[q]? = some false) : ∃ p, (p, q) ∈ ms := by
  obtain ⟨ws, bw, S, c⟩ := Stk.ex b bs.length (Nat.le_refl _)
  obtain ⟨p, hp⟩ := c q (List.getElem?_eq_some_iff.mp h).1 h
  exact ⟨p, (S.mem b M (p, q)).mp hp⟩
theorem Mates.count {bs : List Bool} {ms : List (Nat × Nat)} (M : Mates bs bs.length ms) (b : Bal bs) : 2 * ms.length = bs.length := by
  obtain ⟨ws, bw, S, c⟩ := Stk.ex b bs.length (Nat.le_refl _)
  have hw : ws = [] := by
    have := S.wlen
    rw [b.z] at this
    exact List.eq_nil_of_length_eq_zero (by omega)
  subst hw
  have hl := S.len
  have nd1 : bw.Nodup := S.inc.imp fun {a b} h e => by rw [e] at h; omega
  have nd2 : ms.Nodup := M.inc.imp fun {a b} h e => by rw [e] at h; omega
  have hp : bw.Perm ms := by
    rw [List.perm_iff_count]
    intro x
    rw [nd1.count, nd2.count]
    by_cases h : x ∈ bw
    · rw [if_pos h, if_pos ((S.mem b M x).mp h)]
    · rw [if_neg h, if_neg (fun z => h ((S.mem b M x).mpr z))]
  have := hp.length_eq
  simp at hl
  omega
/-- the word that bows tell -/
def wordB (ps : List Bw) : List Bool := (List.range (2 * ps.length)).map fun e : Nat => decide ((e : Int) ∈ ps.map (·.1))
/-! ### lists in another order -/
def spWordOf : Sp := fun vs H Q _ => ∃ l ps, vs = [.ref l] ∧ BowsAt H l ps ∧ fillsD (bowsD ps) = true ∧ (∀ p ∈ ps, ∀ q ∈ ps, crossZ p q = false) ∧ ∀ H', Same H H' → Q (.str (wd (wordB ps))) H'
def spShuffled (K : PySem.W.Frag) : Sp := fun vs H Q _ => ∃ l xs c, vs = [.ref l, .int c] ∧ SqL K H l xs ∧ xs.length ≤ 40 ∧ ∀ l' ys H', H l' = none → Same H H' → H' l' = some (.lst ys) → ys.Perm xs → Q (.ref l') H'
/-! ### '(' and ')' joined -/
def sgn (b : Bool) : Str := if b then Str.ofString "(" else Str.ofString ")"
theorem sgn_cps (b : Bool) : (sgn b).cps = #[cpB b] := by
  unfold sgn
  cases b
  · rw [if_neg Bool.false_ne_true, str_close]; rfl
  · rw [if_pos rfl, str_open]; rfl
theorem join_fold : ∀ (bs : List Bool) (acc : Array Nat), (bs.map sgn).foldl (fun acc p => acc ++ (Str.ofString "").cps ++ p.cps) acc = acc ++ (bs.map cpB).toArray
  | [], acc => by simp
  | b :: bs, acc => by
    rw [List.map_cons, List.foldl_cons, join_fold bs, sgn_cps, str_nil]
    simp
theorem join_sgn (bs : List Bool) : Txt.join (Str.ofString "") (bs.map sgn) = wd bs := by
  cases bs with
  | nil => rfl
  | cons b bs =>
    show Str.mk (((((b :: bs).map sgn).drop 1).foldl (fun acc p => acc ++ (Str.ofString "").cps ++ p.cps) (((b :: bs).map sgn).headD Str.empty).cps)) = _
    rw [List.map_cons, List.drop_one, List.tail_cons, List.headD_cons, join_fold, sgn_cps]
    simp [wd]
end Rm

set_option Elab.async false
set_option linter.all false
set_option maxRecDepth 100000
set_option maxHeartbeats 4000000
/-! The rules with the module's frame said by itself (within a block). -/
namespace L2
open PySem PySem.Spec PyProof.Rows
theorem ifN {c : Prop} [Decidable c] {A B : Prop} (h : ¬ c) (b : B) : if c then A else B := by rw [if_neg h]; exact b
theorem ifY {c : Prop} [Decidable c] {A B : Prop} (h : c) (a : A) : if c then A else B := by rw [if_pos h]; exact a
section
variable {X : Cx} {K : PySem.W.Frag}
theorem ix_list' (h : X.K = K) : IxR X (rIxL K) := h ▸ ix_list
theorem ix_tup' (h : X.K = K) : IxR X (rIxT K) := h ▸ ix_tup
theorem op_notInD' (h : X.K = K) (hu : X.A.units + 64 < cLine) : OpR X (compareOp .NotIn) (rInD K true) := h ▸ op_notInD hu
theorem call_len_seq' (h : X.K = K) : CallR X (.builtin "len") (fun xs H Q => ∃ p ys, xs = [.ref p] ∧ (SqL K H p ys ∨ SqT K H p ys) ∧ Q (.int ys.length) H) := h ▸ call_len_seq
theorem pg_tup' {es : List Expr} {k : Nat} {t : TGs} {n : Nat} {pos : Pos} (hK : X.K = K) (hc : X.calm = true) (h : PGs X es t)
    (hn : (assignEach es X.env).length = n := by rfl) (hst : (assignEach es X.env).findIdx? (·.1) = none := by rfl) : PG X (.Tuple es k pos) (gTup K n t) := hK ▸ pg_tup hc h hn hst
theorem pi_list' {tg l : Expr} {tl : TE} (hK : X.K = K) (hl : PE X l tl) : PI X tg l (iList K tl) := hK ▸ pi_list hl
end
end L2
namespace L2
open PySem PySem.Spec PyProof.Rows
/-! ### a tuple of texts of the file's top -/
def StrTup (o : Obj) (xs : List Str) : Prop := o.cls = .type "tuple" ∧ ∃ its n, o.data = .seq its n ∧ its.size ≤ sizeLine ∧ Vals (xs.map V.str) its.toList
def tGlobR (K : PySem.W.Frag) (xs : List V) : TE := fun _ H Q => ∀ a, (∀ H, SqT K H a xs) → Q (.ref a) H
/-! ### a word behind a statement -/
def tCut (t u : TS) : TS := fun D σ H => ∃ J : St → Hp → Prop, t { D with nx := J } σ H ∧ ∀ σ' H', J σ' H' → u D σ' H'
theorem pss_cut {X : Cx} {st : Stmt} {rest : List Stmt} {t u : TS} (h1 : PS X st t) (h2 : PSs X rest u) : PSs X (st :: rest) (tCut t u) := by
  intro pins s σ H D I h
  obtain ⟨J, h, hJ⟩ := h
  refine wpAny_execs_cons (thn (h1 pins s σ H { D with nx := J } I h) fun f s1 q => ?_)
  cases f with
  | next =>
    obtain ⟨σ', H', I', q⟩ := q
    exact h2 pins s1 σ' H' D I' (hJ _ _ q)
  | ret v => exact q
  | brk => exact q
  | cont => exact q
end L2
namespace L2
open PySem PySem.Spec PyProof.Rows
/-! ### arguments, by the head of each -/
section
variable {X : Cx} {es : List Expr} {te : TE} {t : TA}
theorem pa_BinOp {a0 : PySem.Expr} {a1 : PySem.Operator} {a2 : PySem.Expr} {a3 : PySem.Pos} (ha : PE X (Expr.BinOp a0 a1 a2 a3) te) (hr : PA X es t) : PA X ((Expr.BinOp a0 a1 a2 a3) :: es) (tCons te t) := pa_cons ha hr rfl
theorem pa_UnaryOp {a0 : PySem.UnaryOp} {a1 : PySem.Expr} {a2 : PySem.Pos} (ha : PE X (Expr.UnaryOp a0 a1 a2) te) (hr : PA X es t) : PA X ((Expr.UnaryOp a0 a1 a2) :: es) (tCons te t) := pa_cons ha hr rfl
theorem pa_ListComp {a0 : PySem.Expr} {a1 : List Comprehension} {a2 : PySem.Scope} {a3 : PySem.Pos} (ha : PE X (Expr.ListComp a0 a1 a2 a3) te) (hr : PA X es t) : PA X ((Expr.ListComp a0 a1 a2 a3) :: es) (tCons te t) := pa_cons ha hr rfl
theorem pa_Compare {a0 : PySem.Expr} {a1 : List CmpOp} {a2 : List Expr} {a3 : PySem.Pos} (ha : PE X (Expr.Compare a0 a1 a2 a3) te) (hr : PA X es t) : PA X ((Expr.Compare a0 a1 a2 a3) :: es) (tCons te t) := pa_cons ha hr rfl
theorem pa_Call {a0 : PySem.Expr} {a1 : List Expr} {a2 : List Keyword} {a3 : PySem.Pos} (ha : PE X (Expr.Call a0 a1 a2 a3) te) (hr : PA X es t) : PA X ((Expr.Call a0 a1 a2 a3) :: es) (tCons te t) := pa_cons ha hr rfl
theorem pa_Constant {a0 : PySem.Const} {a1 : Nat} {a2 : PySem.Pos} (ha : PE X (Expr.Constant a0 a1 a2) te) (hr : PA X es t) : PA X ((Expr.Constant a0 a1 a2) :: es) (tCons te t) := pa_cons ha hr rfl
theorem pa_Subscript {a0 : PySem.Expr} {a1 : PySem.Expr} {a2 : PySem.Pos} (ha : PE X (Expr.Subscript a0 a1 a2) te) (hr : PA X es t) : PA X ((Expr.Subscript a0 a1 a2) :: es) (tCons te t) := pa_cons ha hr rfl
theorem pa_Name {a0 : PySem.Str} {a1 : PySem.Pos} (ha : PE X (Expr.Name a0 a1) te) (hr : PA X es t) : PA X ((Expr.Name a0 a1) :: es) (tCons te t) := pa_cons ha hr rfl
theorem pa_List {a0 : List Expr} {a1 : PySem.Pos} (ha : PE X (Expr.List a0 a1) te) (hr : PA X es t) : PA X ((Expr.List a0 a1) :: es) (tCons te t) := pa_cons ha hr rfl
theorem pa_Tuple {a0 : List Expr} {a1 : Nat} {a2 : PySem.Pos} (ha : PE X (Expr.Tuple a0 a1 a2) te) (hr : PA X es t) : PA X ((Expr.Tuple a0 a1 a2) :: es) (tCons te t) := pa_cons ha hr rfl
end
end L2
namespace L2
open PySem PySem.Spec PyProof.Rows
theorem w_gSub {to ti : TE} {t : TSet} {v : V} {σ : St} {H : Hp} {q : St → Hp → Prop} : gSub to ti t v σ H q = to σ H fun o H1 => ti σ H1 fun i H2 => t o i v H2 fun H3 => q σ H3 := rfl
end L2
namespace L2
open PySem PySem.Spec PyProof.Rows
theorem cut_intro {t u : TS} {D : Ends} {σ : St} {H : Hp} (J : St → Hp → Prop) (h1 : t { nx := J, rt := D.rt, bk := D.bk, ct := D.ct } σ H) (h2 : ∀ σ' H', J σ' H' → u D σ' H') : tCut t u D σ H := ⟨J, h1, h2⟩
end L2

/-! Sorting by asking: whatever is asked is answered by ranks, so the order that comes out rises. -/
namespace Rm
open PySem PySem.W PyProof.Rows
section
variable {r : Nat → Int} {N : Nat} {cmp : Nat → Nat → (Bool → Shared → Prop) → Shared → Prop} {s : Shared}
/-- each two places below N are asked, and the ranks answer -/
def Told (r : Nat → Int) (N : Nat) (cmp : Nat → Nat → (Bool → Shared → Prop) → Shared → Prop) (s : Shared) : Prop :=
  ∀ i j, i < N → j < N → ∀ C : Bool → Shared → Prop, C (decide (r i < r j)) s → cmp i j C s
def In (N : Nat) (p : Array Nat) : Prop := p.size = N ∧ ∀ i, p.getD i 0 < N
def Kk (r : Nat → Int) (p : Array Nat) (i : Nat) : Int := r (p.getD i 0)
def Asc (r : Nat → Int) (p : Array Nat) (k : Nat) : Prop := ∀ i j, i ≤ j → j < k → Kk r p i ≤ Kk r p j
def Des (r : Nat → Int) (p : Array Nat) (k : Nat) : Prop := ∀ i j, i ≤ j → j < k → Kk r p j ≤ Kk r p i
theorem Kk_congr {p q : Array Nat} {i j : Nat} (h : p[i]? = q[j]?) : Kk r p i = Kk r q j := by
  unfold Kk
  rw [Array.getD_eq_getD_getElem?, Array.getD_eq_getD_getElem?, h]
theorem Kk_rev {p : Array Nat} {i j : Nat} (hj : j ≤ p.size) (k : Nat) : Kk r (kas_rev p i j) k = if i ≤ k ∧ k < j then Kk r p (i + j - 1 - k) else Kk r p k := by
  have e := getElem?_mirror_all (i := i) hj k
  unfold kas_rev
  by_cases h1 : i ≤ k ∧ k < j
  · rw [if_pos h1] at e ⊢; exact Kk_congr e
  · rw [if_neg h1] at e ⊢; exact Kk_congr e
theorem Kk_bubble {p : Array Nat} {src d : Nat} (hs : src < p.size) (hd : d ≤ src) (k : Nat) : Kk r (bubble p src d) k = if k = src - d then Kk r p src else if src - d < k ∧ k ≤ src then Kk r p (k - 1) else Kk r p k := by
  have e := getElem?_bubble hs d hd k
  by_cases h1 : k = src - d
  · rw [if_pos h1] at e ⊢; exact Kk_congr e
  · rw [if_neg h1] at e ⊢
    by_cases h2 : src - d < k ∧ k ≤ src
    · rw [if_pos h2] at e ⊢; exact Kk_congr e
    · rw [if_neg h2] at e ⊢; exact Kk_congr e
theorem In.of_perm {p q : Array Nat} (h : In N p) (hp : q.Perm p) : In N q := by
  refine ⟨hp.size_eq.trans h.1, fun i => ?_⟩
  rw [Array.getD_eq_getD_getElem?]
  cases e : q[i]? with
  | none =>
    have := h.2 N
    rw [Array.getD_eq_getD_getElem?, Array.getElem?_eq_none (Nat.le_of_eq h.1)] at this
    exact this
  | some x =>
    have hx : x ∈ q := Array.mem_of_getElem? e
    have hx' : x ∈ p := hp.mem_iff.mp hx
    obtain ⟨j, hj, rfl⟩ := Array.mem_iff_getElem.mp hx'
    have := h.2 j
    rw [Array.getD_eq_getD_getElem?, Array.getElem?_eq_getElem hj] at this
    exact this
theorem In.rev {p : Array Nat} (h : In N p) (i j : Nat) : In N (kas_rev p i j) := h.of_perm (mirror_perm _ _ _ _)
theorem asc_spec (T : Told r N cmp s) {G : Nat → Shared → Prop} {p : Array Nat} (hp : In N p) : ∀ (f n : Nat), 1 ≤ n → Asc r p n → (∀ m, n ≤ m → m ≤ n + f → Asc r p m → (m < n + f → Kk r p m < Kk r p (m - 1)) → G m s) → (kas_asc p f n).kasWp cmp G s
  | 0, n, _, ha, hG => hG n (Nat.le_refl _) (Nat.le_refl _) ha (fun h => absurd h (by omega))
  | f + 1, n, h1, ha, hG => by
    refine T _ _ (hp.2 _) (hp.2 _) _ ?_
    by_cases c : Kk r p n < Kk r p (n - 1)
    · have c' : r (p.getD n 0) < r (p.getD (n - 1) 0) := c
      rw [decide_eq_true c']
      exact hG n (Nat.le_refl _) (by omega) ha fun _ => c
    · have c' : ¬ r (p.getD n 0) < r (p.getD (n - 1) 0) := c
      rw [decide_eq_false c']
      refine asc_spec T hp f (n + 1) (by omega) (fun i j hij hj => ?_) fun m a b c2 d => hG m (by omega) (by omega) c2 fun e => d (by omega)
      by_cases e : j = n
      · subst e
        by_cases e2 : i = j
        · subst e2; exact Int.le_refl _
        · have := ha i (j - 1) (by omega) (by omega)
          omega
      · exact ha i j hij (by omega)
/-- the last q + 1 of the first n rank alike -/
def Tail (r : Nat → Int) (p : Array Nat) (n q : Nat) : Prop := q < n ∧ ∀ k, n - (q + 1) ≤ k → k < n → Kk r p k = Kk r p (n - 1)
theorem rev_tail {p : Array Nat} {n q : Nat} (hn : n ≤ p.size) (h : Tail r p n q) (k : Nat) : Kk r (kas_rev p (n - (q + 1)) n) k = Kk r p k := by
  rw [Kk_rev hn]
  split
  · rw [h.2 _ (by have := h.1; omega) (by omega), h.2 k (by omega) (by omega)]
  · rfl
theorem Des.same {p p' : Array Nat} {n : Nat} (h : Des r p n) (e : ∀ k, Kk r p' k = Kk r p k) : Des r p' n := fun i j a b => by rw [e, e]; exact h i j a b
theorem desc_spec (T : Told r N cmp s) {G : Array Nat × Nat × Nat → Shared → Prop} : ∀ (f : Nat) (p : Array Nat) (n q : Nat), In N p → n + f ≤ N → Des r p n → Tail r p n q →
    (∀ p' n' q', p'.Perm p → n ≤ n' → n' ≤ n + f → Des r p' n' → Tail r p' n' q' → G (p', n', q') s) → (kas_desc f p n q).kasWp cmp G s
  | 0, p, n, q, _, _, hd, ht, hG => hG p n q (.refl _) (Nat.le_refl _) (Nat.le_refl _) hd ht
  | f + 1, p, n, q, hp, hN, hd, ht, hG => by
    refine T _ _ (hp.2 _) (hp.2 _) _ ?_
    by_cases c : Kk r p n < Kk r p (n - 1)
    · have c' : r (p.getD n 0) < r (p.getD (n - 1) 0) := c
      rw [decide_eq_true c']
      have hq := ht.1
      have grow : ∀ p' : Array Nat, p'.Perm p → (∀ k, Kk r p' k = Kk r p k) → (kas_desc f p' (n + 1) 0).kasWp cmp G s := fun p' hpp e => by
        refine desc_spec T f p' (n + 1) 0 (hp.of_perm hpp) (by omega) (fun i j hij hj => ?_) ⟨by omega, fun k h1 h2 => by have e9 : k = n := (by omega); rw [e9]; rfl⟩ fun p2 n2 q2 a b c2 d e2 => hG p2 n2 q2 (a.trans hpp) (by omega) (by omega) d e2
        rw [e, e]
        by_cases e3 : j = n
        · subst e3
          by_cases e4 : i = j
          · subst e4; exact Int.le_refl _
          · have := hd i (j - 1) (by omega) (by omega)
            omega
        · exact hd i j hij (by omega)
      show KasT.kasWp cmp (if true = true then (if q > 0 then kas_desc f (kas_rev p (n - (q + 1)) n) (n + 1) 0 else kas_desc f p (n + 1) 0) else _) G s
      rw [if_pos rfl]
      split
      · exact grow _ (mirror_perm _ _ _ _) (rev_tail (by rw [hp.1]; omega) ht)
      · exact grow p (.refl _) fun _ => rfl
    · have c' : ¬ r (p.getD n 0) < r (p.getD (n - 1) 0) := c
      rw [decide_eq_false c']
      show KasT.kasWp cmp (if false = true then _ else KasT.ask (p.getD (n - 1) 0) (p.getD n 0) fun d => if d = true then .ret (p, n, q) else kas_desc f p (n + 1) (q + 1)) G s
      rw [if_neg (by simp)]
      refine T _ _ (hp.2 _) (hp.2 _) _ ?_
      by_cases d : Kk r p (n - 1) < Kk r p n
      · have d' : r (p.getD (n - 1) 0) < r (p.getD n 0) := d
        rw [decide_eq_true d']
        exact hG p n q (.refl _) (Nat.le_refl _) (by omega) hd ht
      · have d' : ¬ r (p.getD (n - 1) 0) < r (p.getD n 0) := d
        rw [decide_eq_false d']
        have hq := ht.1
        have eq : Kk r p n = Kk r p (n - 1) := by omega
        refine desc_spec T f p (n + 1) (q + 1) hp (by omega) (fun i j hij hj => ?_) ⟨by omega, fun k h1 h2 => ?_⟩ fun p2 n2 q2 a b c2 d2 e2 => hG p2 n2 q2 a (by omega) (by omega) d2 e2
        · by_cases e3 : j = n
          · subst e3
            by_cases e4 : i = j
            · subst e4; exact Int.le_refl _
            · have := hd i (j - 1) (by omega) (by omega)
              omega
          · exact hd i j hij (by omega)
        · show Kk r p k = Kk r p n
          by_cases e3 : k = n
          · rw [e3]
          · rw [eq]; exact ht.2 k (by omega) (by omega)
/-- what counting the run gives -/
def Cnt (r : Nat → Int) (p : Array Nat) (nrem : Nat) (G : Nat × Array Nat → Shared → Prop) (s : Shared) : Prop := ∀ n p', p'.Perm p → 1 ≤ n → n ≤ nrem → Asc r p' n → G (n, p') s
theorem tail3_spec (T : Told r N cmp s) {G : Nat × Array Nat → Shared → Prop} {p : Array Nat} {n : Nat} (hp : In N p) (h1 : 1 ≤ n) (hn : n ≤ N) (hd : Des r p n) (hG : Cnt r p N G s) : (kas_tail3 n N p).kasWp cmp G s := by
  unfold kas_tail3
  rw [KasT.kasWp_bind]
  refine asc_spec T (hp.rev 0 n) (N - n) n h1 (fun i j hij hj => ?_) fun m a b c _ => hG m _ (mirror_perm _ _ _ _) (by omega) (by omega) c
  rw [Kk_rev (by rw [hp.1]; exact hn), Kk_rev (by rw [hp.1]; exact hn), if_pos (by omega), if_pos (by omega)]
  exact hd _ _ (by omega) (by omega)
theorem Cnt.perm {p q : Array Nat} {G : Nat × Array Nat → Shared → Prop} (h : Cnt r p N G s) (hp : q.Perm p) : Cnt r q N G s := fun n p' a b c d => h n p' (a.trans hp) b c d
theorem descPart_spec (T : Told r N cmp s) {G : Nat × Array Nat → Shared → Prop} {p : Array Nat} {n : Nat} (hp : In N p) (hn : n + 1 ≤ N) (h1 : 1 ≤ n) (hd : Des r p (n + 1)) (hG : Cnt r p N G s) : (kas_descPart n N p).kasWp cmp G s := by
  unfold kas_descPart
  rw [KasT.kasWp_bind]
  refine desc_spec T _ p (n + 1) 0 hp (by omega) hd ⟨by omega, fun k a b => by have e9 : k = n := (by omega); rw [e9]; rfl⟩ fun p' n' q' a b c d e => ?_
  dsimp only
  have hp' := hp.of_perm a
  split
  · exact tail3_spec T (hp'.rev _ _) (by omega) (by omega) (d.same (rev_tail (by rw [hp'.1]; omega) e)) (hG.perm ((mirror_perm _ _ _ _).trans a))
  · exact tail3_spec T hp' (by omega) (by omega) d (hG.perm a)
theorem count_spec (T : Told r N cmp s) {G : Nat × Array Nat → Shared → Prop} {p : Array Nat} (hp : In N p) (hN : 1 ≤ N) (hG : Cnt r p N G s) : (kas_count N p).kasWp cmp G s := by
  unfold kas_count
  rw [KasT.kasWp_bind]
  refine asc_spec T hp (N - 1) 1 (Nat.le_refl _) (fun i j a b => by have e9 : i = j := (by omega); rw [e9]; exact Int.le_refl _) fun n h1 h2 ha hb => ?_
  by_cases e : n = N
  · subst e
    rw [if_pos (by simp)]
    exact hG n p (.refl _) h1 (Nat.le_refl _) ha
  · rw [if_neg (by simp [e])]
    have hlt := hb (by omega)
    split
    · refine T _ _ (hp.2 _) (hp.2 _) _ ?_
      by_cases c : Kk r p 0 < Kk r p (n - 1)
      · have c' : r (p.getD 0 0) < r (p.getD (n - 1) 0) := c
        rw [decide_eq_true c']
        exact hG n p (.refl _) h1 (by omega) ha
      · have c' : ¬ r (p.getD 0 0) < r (p.getD (n - 1) 0) := c
        rw [decide_eq_false c']
        have alike : ∀ k, k < n → Kk r p k = Kk r p (n - 1) := fun k hk => by
          have a1 := ha 0 k (by omega) hk
          have a2 := ha k (n - 1) (by omega) (by omega)
          omega
        have same : ∀ k, Kk r (kas_rev p 0 n) k = Kk r p k := fun k => by
          rw [Kk_rev (by rw [hp.1]; omega)]
          split
          · rw [alike _ (by omega), alike k (by omega)]
          · rfl
        refine descPart_spec T (hp.rev 0 n) (by omega) h1 (Des.same (p := p) (fun i j hij hj => ?_) same) (hG.perm (mirror_perm _ _ _ _))
        by_cases e3 : j = n
        · subst e3
          by_cases e4 : i = j
          · subst e4; exact Int.le_refl _
          · rw [alike i (by omega)]; omega
        · rw [alike i (by omega), alike j (by omega)]; exact Int.le_refl _
    · have : n = 1 := by omega
      subst this
      refine descPart_spec T hp (by omega) (Nat.le_refl _) (fun i j hij hj => ?_) hG
      have hj' : j = 0 ∨ j = 1 := by omega
      have hi' : i = 0 ∨ i = 1 := by omega
      rcases hj' with rfl | rfl <;> rcases hi' with rfl | rfl
      · exact Int.le_refl _
      · omega
      · have : Kk r p 1 < Kk r p 0 := hlt
        omega
      · exact Int.le_refl _
theorem place_spec (T : Told r N cmp s) {G : Nat → Shared → Prop} {p : Array Nat} {k : Nat} (hp : In N p) (hs : Asc r p k) : ∀ (f l e : Nat), e ≤ k → e ≤ l + f → l ≤ e → (∀ i, i < l → Kk r p i ≤ Kk r p k) → (∀ i, e ≤ i → i < k → Kk r p k < Kk r p i) →
    (∀ l, l ≤ k → (∀ i, i < l → Kk r p i ≤ Kk r p k) → (∀ i, l ≤ i → i < k → Kk r p k < Kk r p i) → G l s) → (kas_place p k f l e).kasWp cmp G s
  | 0, l, e, h1, h2, h3, h4, h5, hG => by
    have : l = e := by omega
    subst this
    exact hG l h1 h4 h5
  | f + 1, l, e, h1, h2, h3, h4, h5, hG => by
    unfold kas_place
    split
    · have : l = e := by omega
      subst this
      exact hG l h1 h4 h5
    · refine T _ _ (hp.2 _) (hp.2 _) _ ?_
      by_cases c : Kk r p k < Kk r p ((l + e) / 2)
      · have c' : r (p.getD k 0) < r (p.getD ((l + e) / 2) 0) := c
        rw [decide_eq_true c']
        refine place_spec T hp hs f l ((l + e) / 2) (by omega) (by omega) (by omega) h4 (fun i a b => ?_) hG
        have := hs ((l + e) / 2) i a b
        omega
      · have c' : ¬ r (p.getD k 0) < r (p.getD ((l + e) / 2) 0) := c
        rw [decide_eq_false c']
        refine place_spec T hp hs f ((l + e) / 2 + 1) e h1 (by omega) (by omega) (fun i a => ?_) h5 hG
        have := hs i ((l + e) / 2) (by omega) (by omega)
        omega
theorem bubble_asc {p : Array Nat} {k l : Nat} (hk : k < p.size) (hs : Asc r p k) (hl : l ≤ k) (h1 : ∀ i, i < l → Kk r p i ≤ Kk r p k) (h2 : ∀ i, l ≤ i → i < k → Kk r p k < Kk r p i) : Asc r (bubble p k (k - l)) (k + 1) := fun i j hij hj => by
  rw [Kk_bubble hk (by omega), Kk_bubble hk (by omega)]
  have e : k - (k - l) = l := by omega
  rw [e]
  by_cases i1 : i = l
  · rw [if_pos i1]
    by_cases j1 : j = l
    · rw [if_pos j1]; exact Int.le_refl _
    · rw [if_neg j1, if_pos (by omega)]
      have := h2 (j - 1) (by omega) (by omega); omega
  · rw [if_neg i1]
    by_cases i2 : l < i ∧ i ≤ k
    · rw [if_pos i2, if_neg (by omega), if_pos (by omega)]
      exact hs _ _ (by omega) (by omega)
    · rw [if_neg i2]
      by_cases j1 : j = l
      · rw [if_pos j1]; exact h1 i (by omega)
      · rw [if_neg j1]
        by_cases j2 : l < j ∧ j ≤ k
        · rw [if_pos j2]; exact hs _ _ (by omega) (by omega)
        · rw [if_neg j2]; exact hs _ _ (by omega) (by omega)
theorem bin_spec (T : Told r N cmp s) {G : Array Nat → Shared → Prop} : ∀ (f : Nat) (p : Array Nat) (k : Nat), In N p → k + f = N → Asc r p k → (∀ p', p'.Perm p → Asc r p' N → G p' s) → (kas_bin f p k).kasWp cmp G s
  | 0, p, k, hp, hk, hs, hG => hG p (.refl _) (by have e9 : k = N := (by omega); rw [← e9]; exact hs)
  | f + 1, p, k, hp, hk, hs, hG => by
    unfold kas_bin
    rw [KasT.kasWp_bind]
    refine place_spec T hp hs k 0 k (Nat.le_refl _) (by omega) (by omega) (fun i h => absurd h (by omega)) (fun i h h' => absurd h' (by omega)) fun l h1 h2 h3 => ?_
    refine bin_spec T f _ (k + 1) (hp.of_perm (bubble_perm _ _ _)) (by omega) (bubble_asc (by rw [hp.1]; omega) hs h1 h2 h3) fun p' a b => hG p' (a.trans (bubble_perm _ _ _)) b
theorem sort_spec (T : Told r N cmp s) {G : Array Nat → Shared → Prop} (hN : 1 ≤ N) (hG : ∀ p : Array Nat, p.Perm (List.toArray (List.range N)) → Asc r p N → G p s) : (kas_sort N).kasWp cmp G s := by
  have h0 : In N (List.toArray (List.range N)) := ⟨by simp, fun i => by
    rw [Array.getD_eq_getD_getElem?]
    cases e : (List.toArray (List.range N))[i]? with
    | none => exact hN
    | some x =>
      have := Array.mem_of_getElem? e
      simpa using this⟩
  unfold kas_sort
  rw [KasT.kasWp_bind]
  refine count_spec T h0 hN fun n p a b c d => ?_
  dsimp only
  have hp := h0.of_perm a
  split
  · have e : max n 1 = n := by omega
    rw [e]
    exact bin_spec T _ p n hp (by omega) d fun p' x y => hG p' (x.trans a) y
  · have : n = N := by omega
    subst this
    exact hG p a d
end
end Rm

set_option Elab.async false
set_option linter.all false
set_option maxRecDepth 100000
set_option maxHeartbeats 4000000
/-! sorted(..) of what ranks tell apart. -/
namespace Rm
open PySem PySem.W PyProof.Rows
section
variable {prog : Program} {w : World} {A : Around} {E : Value → Shared → Prop} {s : Shared}
/-- the order in which the places come out -/
def outOf (vs : List Value) (p : Array Nat) : Array Value := List.toArray (p.toList.map fun i => vs.getD i Value.none)
theorem small_out : ∀ vs : List Value, vs.length < 2 → (vs.toArray.zip vs.toArray).map (·.2) = outOf vs (List.toArray (List.range vs.length))
  | [], _ => by simp [outOf]
  | [v], _ => by simp [outOf]
  | _ :: _ :: _, h => by simp at h; omega
/-- all but the one at a is kept -/
def Kp (a : Addr) (h h' : Heap) : Prop := ∀ b o, b ≠ a → h.get? b = some o → h'.get? b = some o
theorem list_sort_rank {a : Addr} {vs : List Value} {n : Nat} {P : PySem.Fin → Shared → Prop} {r : Nat → Int} (κ : SortKind) (ho : s.heap.get? a = some (seqObj "list" vs.toArray n)) (h64 : vs.length < 64)
    (hk : 2 ≤ vs.length → ∀ (h' : Heap) (Q : SortKind → Shared → Prop), Kp a s.heap h' → Q κ { s with heap := h' } → wpAny (model prog w) A (keyKind' vs.toArray) Q E { s with heap := h' })
    (hc : ∀ i j, i < vs.length → j < vs.length → ∀ (h' : Heap) (C : Bool → Shared → Prop), Kp a s.heap h' → C (decide (r i < r j)) { s with heap := h' } → wpAny (model prog w) A (keyLt' κ (vs.getD i Value.none) (vs.getD j Value.none)) C (fun _ _ => False) { s with heap := h' })
    (h : ∀ p : Array Nat, p.Perm (List.toArray (List.range vs.length)) → Asc r p vs.length → P (.done (.ret .none)) { s with heap := sortedHeap s.heap a vs (outOf vs p) }) :
    wpAny (model prog w) A (Builtin.«list.sort» ⟨[.ref a], []⟩) P E s := by
  rw [list_sort_plain]
  have ha : a < s.heap.objs.size := Heap.lt_size ho
  refine wpAny_bind (listItems_at ho rfl ?_)
  refine wpAny_bind (listUpdate_at ho rfl ?_)
  obtain ⟨e1, ho1⟩ : ∃ e1, (s.heap.update a (Obj.mapSeq fun _ => #[])).get? a = some (seqObj "list" #[] e1) := ⟨_, get?_update_seq ho (fun _ => #[])⟩
  refine wpAny_bind (seqEpoch_at ho1 rfl ?_)
  refine wpAny_bind (wpAny_newTuple ?_)
  refine wpAny_bind (wpAny_newList ?_)
  refine wpAny_holding ?_
  have ho6 : (((s.heap.update a (Obj.mapSeq fun _ => #[])).push (seqObj "tuple" vs.toArray 0)).push (seqObj "list" #[] 0)).get? a = some (seqObj "list" #[] e1) := by
    rw [Heap.get?_push_ne _ _ _ (by rw [size_push', Heap.size_update]; exact Nat.ne_of_lt (Nat.lt_succ_of_lt ha)), Heap.get?_push_ne _ _ _ (by rw [Heap.size_update]; exact Nat.ne_of_lt ha)]
    exact ho1
  have kp6 : Kp a s.heap (((s.heap.update a (Obj.mapSeq fun _ => #[])).push (seqObj "tuple" vs.toArray 0)).push (seqObj "list" #[] 0)) := fun b o hb e =>
    Heap.get?_push_of_some _ (Heap.get?_push_of_some _ (by rw [Heap.get?_update_ne _ _ _ _ hb]; exact e))
  show wpAny (model prog w) A _ P E { s with heap := ((s.heap.update a (Obj.mapSeq fun _ => #[])).push (seqObj "tuple" vs.toArray 0)).push (seqObj "list" #[] 0) }
  dsimp only
  have hsz : vs.toArray.size = vs.length := by simp
  by_cases h2 : vs.toArray.size < 2
  · rw [if_pos h2, if_pos h2]
    refine wpAny_bind (wpAny_pure ?_)
    rw [StateT.run_pure]
    refine wpAny_bind (wpAny_pure ?_)
    dsimp only
    refine wpAny_bind (seqEpoch_at ho6 rfl ?_)
    refine wpAny_bind (listUpdate_at ho6 rfl ?_ (hsz2 := by rw [Array.size_map]; show (pairsOf vs).size ≤ _; rw [pairsOf_size, sizeLine_eq]; omega))
    simp only [bne_self_eq_false, Bool.false_eq_true, if_false]
    have e : (arrOf (SortSt.mk' general' (vs.toArray.zip vs.toArray) #[] 7 none)).map (·.2) = outOf vs (List.toArray (List.range vs.length)) := by
      exact small_out vs (by omega)
    rw [e]
    refine wpAny_pure (h (List.toArray (List.range vs.length)) (Array.Perm.refl _) ?_)
    intro i j hij hj
    have e9 : i = j := by omega
    rw [e9]; exact Int.le_refl _
  · rw [if_neg h2, if_neg h2]
    refine wpAny_bind (hk (by omega) _ _ kp6 ?_)
    have T : Told r vs.length (kas_ask prog w A κ vs) { s with heap := ((s.heap.update a (Obj.mapSeq fun _ => #[])).push (seqObj "tuple" vs.toArray 0)).push (seqObj "list" #[] 0) } := fun i j hi hj C hC => hc i j hi hj _ C kp6 hC
    refine wpAny_bind (wpAny_mono (kat_run (ks := vs) (vs := vs) (Q := fun st' s' => s' = { s with heap := ((s.heap.update a (Obj.mapSeq fun _ => #[])).push (seqObj "tuple" vs.toArray 0)).push (seqObj "list" #[] 0) } ∧ ∃ p : Array Nat, p.size = vs.length ∧ arrOf st' = p.map (kas_item (vs.toArray.zip vs.toArray)) ∧ failedOf st' = none ∧ p.Perm (List.toArray (List.range vs.length)) ∧ Asc r p vs.length)
      (G := fun p s' => s' = { s with heap := ((s.heap.update a (Obj.mapSeq fun _ => #[])).push (seqObj "tuple" vs.toArray 0)).push (seqObj "list" #[] 0) } ∧ p.Perm (List.toArray (List.range vs.length)) ∧ Asc r p vs.length)
      rfl (by omega) h64 (fun p' st' s' a1 a2 a3 a4 => ⟨a4.1, p', a1, a2, a3, a4.2⟩) (sort_spec T (by omega) fun p hp ha => ⟨rfl, hp, ha⟩)) ?_ fun _ _ e => e)
    rintro ⟨⟨⟩, st'⟩ s' ⟨rfl, p, hps, har, hf, hp, hs⟩
    dsimp only
    have hout := kat_snds (ks := vs) (vs := vs) rfl har
    rw [hout]
    refine wpAny_bind (seqEpoch_at ho6 rfl ?_)
    refine wpAny_bind (listUpdate_at ho6 rfl ?_ (hsz2 := by rw [List.size_toArray, List.length_map, Array.length_toList, hps, sizeLine_eq]; omega))
    rw [hf]
    simp only [bne_self_eq_false, Bool.false_eq_true, if_false]
    exact wpAny_pure (h p hp hs)
theorem sorted_rank_of {l : Addr} {vs : List Value} {Q : Value → Shared → Prop} {r : Nat → Int} (κ : SortKind) (hcol : ∀ (A : Around) (E : Value → Shared → Prop) (Q : List Value → Shared → Prop), Q vs { s with heap := (s.heap.push (seqObj "list" #[] 0)).update s.heap.objs.size (Obj.mapSeq (· ++ vs.toArray)) } → wpAny (model prog w) A (collect (.ref l)) Q E s) (h64 : vs.length < 64)
    (hk : 2 ≤ vs.length → ∀ (h' : Heap) (Q : SortKind → Shared → Prop), (∀ b o, s.heap.get? b = some o → h'.get? b = some o) → Q κ { s with heap := h' } → wpAny (model prog w) A.in1.in1 (keyKind' vs.toArray) Q (fun _ _ => False) { s with heap := h' })
    (hc : ∀ i j, i < vs.length → j < vs.length → ∀ (h' : Heap) (C : Bool → Shared → Prop), (∀ b o, s.heap.get? b = some o → h'.get? b = some o) → C (decide (r i < r j)) { s with heap := h' } → wpAny (model prog w) A.in1.in1 (keyLt' κ (vs.getD i Value.none) (vs.getD j Value.none)) C (fun _ _ => False) { s with heap := h' })
    (h : ∀ p : Array Nat, p.Perm (List.toArray (List.range vs.length)) → Asc r p vs.length → Q (.ref (s.heap.objs.size + 1)) { s with heap := sortedAll s.heap vs (outOf vs p) }) :
    wpAny (model prog w) A (call (.builtin "sorted") [.ref l]) Q E s := by
  refine Calls.call_function_entry kind_sorted plain_sorted entry_sorted (args_sorted1 _) ?_
  unfold Builtin.«sorted»
  refine wpAny_bind (m := checkCount "sorted" 1 1 _) (wpAny_pure ?_)
  refine wpAny_bind (hcol _ _ _ ?_)
  refine wpAny_bind (wpAny_newList ?_)
  have hsz : ((s.heap.push (seqObj "list" #[] 0)).update s.heap.objs.size (Obj.mapSeq (· ++ vs.toArray))).objs.size = s.heap.objs.size + 1 := by
    rw [Heap.size_update, size_push']
  have hoL : (((s.heap.push (seqObj "list" #[] 0)).update s.heap.objs.size (Obj.mapSeq (· ++ vs.toArray))).push (seqObj "list" vs.toArray 0)).get? (s.heap.objs.size + 1) = some (seqObj "list" vs.toArray 0) := by
    rw [← hsz]; exact Heap.get?_push_size _ rfl
  have keep : ∀ b o, s.heap.get? b = some o → (((s.heap.push (seqObj "list" #[] 0)).update s.heap.objs.size (Obj.mapSeq (· ++ vs.toArray))).push (seqObj "list" vs.toArray 0)).get? b = some o := fun b o q => by
    have hlt : b < s.heap.objs.size := Heap.lt_size q
    rw [Heap.get?_push_ne _ _ _ (by rw [hsz]; exact Nat.ne_of_lt (Nat.lt_succ_of_lt hlt)), Heap.get?_update_ne _ _ _ _ (Nat.ne_of_lt hlt), Heap.get?_push_ne _ _ _ (Nat.ne_of_lt hlt)]
    exact q
  have keep2 : ∀ h', Kp (s.heap.objs.size + 1) (((s.heap.push (seqObj "list" #[] 0)).update s.heap.objs.size (Obj.mapSeq (· ++ vs.toArray))).push (seqObj "list" vs.toArray 0)) h' → ∀ b o, s.heap.get? b = some o → h'.get? b = some o := fun h' k b o q =>
    k b o (Nat.ne_of_lt (Nat.lt_succ_of_lt (Heap.lt_size q))) (keep b o q)
  show wpAny _ _ _ _ _ { s with heap := ((s.heap.push (seqObj "list" #[] 0)).update s.heap.objs.size (Obj.mapSeq (· ++ vs.toArray))).push (seqObj "list" vs.toArray 0) }
  rw [hsz]
  refine wpAny_bind (wpAny_holding (wpAny_call_entry slot_list_sort ⟨_, hoL, rfl⟩ entry_list_sort (list_sort_rank (r := r) κ hoL h64 (fun h2 h' Q k q => ?_) (fun i j hi hj h' C k q => ?_) fun p hp ha => ⟨_, rfl, ?_⟩) (args_list_sort _)))
  · exact wpAny_mono (hk h2 h' Q (keep2 h' k) q) (fun _ _ z => z) fun _ _ z => z.elim
  · exact hc i j hi hj h' C (keep2 h' k) q
  · exact wpAny_pure ⟨_, rfl, h p hp ha⟩
theorem sorted_rank {l : Addr} {vs : List Value} {Q : Value → Shared → Prop} {r : Nat → Int} (κ : SortKind) (hl : s.heap.IsList l vs.toArray) (h64 : vs.length < 64)
    (hk : 2 ≤ vs.length → ∀ (h' : Heap) (Q : SortKind → Shared → Prop), (∀ b o, s.heap.get? b = some o → h'.get? b = some o) → Q κ { s with heap := h' } → wpAny (model prog w) A.in1.in1 (keyKind' vs.toArray) Q (fun _ _ => False) { s with heap := h' })
    (hc : ∀ i j, i < vs.length → j < vs.length → ∀ (h' : Heap) (C : Bool → Shared → Prop), (∀ b o, s.heap.get? b = some o → h'.get? b = some o) → C (decide (r i < r j)) { s with heap := h' } → wpAny (model prog w) A.in1.in1 (keyLt' κ (vs.getD i Value.none) (vs.getD j Value.none)) C (fun _ _ => False) { s with heap := h' })
    (h : ∀ p : Array Nat, p.Perm (List.toArray (List.range vs.length)) → Asc r p vs.length → Q (.ref (s.heap.objs.size + 1)) { s with heap := sortedAll s.heap vs (outOf vs p) }) :
    wpAny (model prog w) A (call (.builtin "sorted") [.ref l]) Q E s :=
  sorted_rank_of κ (fun A E Q q => collect_list hl q (by rw [sizeLine_eq]; omega)) h64 hk hc h
end
end Rm

set_option Elab.async false
set_option linter.all false
set_option maxRecDepth 100000
set_option maxHeartbeats 4000000
/-! sorted(..) of a list of bows, and of ints. -/
namespace Rm
open PySem PySem.W PyProof.Rows L2
theorem vals_refs : ∀ {as : List Addr} {us : List Value}, Vals (as.map V.ref) us → us = as.map Value.ref
  | [], _, .nil => rfl
  | a :: as, u :: us, .cons r t => by
    have e : u = Value.ref a := r
    rw [e, vals_refs t]; rfl
theorem refs_vals (as : List Addr) : Vals (as.map V.ref) (as.map Value.ref) := by
  induction as with
  | nil => exact .nil
  | cons a as ih => exact .cons rfl ih
/-- a tuple of two ints as it lies in the heap -/
def Two (h : Heap) (a : Addr) (p : Bw) : Prop := ∃ o t u n, h.get? a = some o ∧ o.cls = .type "tuple" ∧ o.data = .seq #[.int p.1 t, .int p.2 u] n
theorem two_of {X : Cx} {pins : List (Addr × Obj)} {σ : L2.St} {H : Hp} {s : Shared} (I : Inv X pins σ H s) {a : Addr} {p : Bw} (h : tupAt H a p) : Two s.heap a p := by
  obtain ⟨_, its, v, o, e, c, n, d⟩ := I.hok a _ h
  obtain ⟨u, w, rfl, ⟨t, rfl⟩, t', rfl⟩ := Vals.two v
  exact ⟨o, t, t', n, e, c, by rw [d]⟩
theorem Two.kept {h h' : Heap} {a : Addr} {p : Bw} (x : Two h a p) (k : ∀ b o, h.get? b = some o → h'.get? b = some o) : Two h' a p := by
  obtain ⟨o, t, u, n, e, c, d⟩ := x
  exact ⟨o, t, u, n, k _ _ e, c, d⟩
theorem two_tups {h : Heap} : ∀ {as : List Addr} {ps : List Bw}, Paired (Two h) as ps → ∃ fs, KatTups h (as.map Value.ref) fs ∧ fs.length = as.length ∧ ∀ v ∈ fs, ∃ n t, v = Value.int n t
  | _, _, .nil => ⟨[], KatTups.nil, rfl, (fun v hv => nomatch hv)⟩
  | _, _, .cons r t => by
    obtain ⟨o, t1, u1, n, e, c, d⟩ := r
    obtain ⟨fs, h1, h2, h3⟩ := two_tups t
    exact ⟨.int _ t1 :: fs, KatTups.cons e c d rfl h1, by simp [h2], fun v hv => by
      rcases List.mem_cons.mp hv with rfl | hv
      · exact ⟨_, _, rfl⟩
      · exact h3 v hv⟩
def rankB (p : Bw) : Int := p.1 * 1000 + p.2
def kB : SortKind := tuples' (Value.type "int" != Value.type "tuple")
theorem two_lt {prog : Program} {w : World} {A : Around} {s : Shared} {a b : Addr} {p q : Bw} {C : Bool → Shared → Prop} (ha : Two s.heap a p) (hb : Two s.heap b q) (hp : 0 ≤ p.2 ∧ p.2 < 1000) (hq : 0 ≤ q.2 ∧ q.2 < 1000)
    (h : C (decide (rankB p < rankB q)) s) : wpAny (model prog w) A (keyLt' kB (.ref a) (.ref b)) C (fun _ _ => False) s := by
  obtain ⟨oa, t, u, n, ea, ca, da⟩ := ha
  obtain ⟨ob, t', u', n', eb, cb, db⟩ := hb
  refine kat_lt ea da eb db ?_
  show KatLex prog w A _ _ C [(Value.int p.1 t, Value.int q.1 t'), (Value.int p.2 u, Value.int q.2 u')] 0 s
  refine kat_cons (wpAny_eqBool_int (kat_go (fun e => ?_) (fun e => ?_)))
  · have e1 : p.1 = q.1 := by simpa using e
    refine kat_yes (kat_cons (wpAny_eqBool_int (kat_go (fun e => ?_) (fun e => ?_))))
    · have e2 : p.2 = q.2 := by simpa using e
      refine kat_yes (kat_nil ?_)
      have z : decide (rankB p < rankB q) = false := decide_eq_false (by unfold rankB; omega)
      rw [z] at h
      exact h
    · have e2 : ¬ p.2 = q.2 := by simpa using e
      refine kat_no ?_
      have z : decide (rankB p < rankB q) = decide (p.2 < q.2) := by
        by_cases y : p.2 < q.2
        · rw [decide_eq_true y, decide_eq_true (by unfold rankB; omega)]
        · rw [decide_eq_false y, decide_eq_false (by unfold rankB; omega)]
      rw [z] at h
      have b0 : ((Value.type "int" != Value.type "tuple") && ((0 + 1 : Nat) == 0)) = false := by decide
      rw [b0]
      exact kat_one _ _ (lt_int h)
  · have e1 : ¬ p.1 = q.1 := by simpa using e
    refine kat_no ?_
    have z : decide (rankB p < rankB q) = decide (p.1 < q.1) := by
      by_cases y : p.1 < q.1
      · rw [decide_eq_true y, decide_eq_true (by unfold rankB; omega)]
      · rw [decide_eq_false y, decide_eq_false (by unfold rankB; omega)]
    rw [z] at h
    have b0 : ((Value.type "int" != Value.type "tuple") && ((0 : Nat) == 0)) = true := by decide
    rw [b0]
    exact oneLt_int h
/-- places told by an array, in a list -/
def pick {α : Type} (d : α) (xs : List α) (p : Array Nat) : List α := p.toList.map fun i => xs.getD i d
theorem pick_perm {α : Type} (d : α) (xs : List α) {p : Array Nat} (hp : p.Perm (List.toArray (List.range xs.length))) : (pick d xs p).Perm xs := by
  have h1 : p.toList.Perm (List.range xs.length) := by simpa using Array.perm_iff_toList_perm.mp hp
  have h2 := h1.map fun i => xs.getD i d
  have e : (List.range xs.length).map (fun i => xs.getD i d) = xs := by
    apply List.ext_getElem
    · simp
    · intro i h1 h2
      simp at h1
      simp [h1]
  rw [e] at h2
  exact h2
theorem pick_paired {α β : Type} {R : α → β → Prop} (d : α) (e : β) {xs : List α} {ys : List β} (h : Paired R xs ys) {p : Array Nat} (hp : ∀ i ∈ p.toList, i < xs.length) : Paired R (pick d xs p) (pick e ys p) := by
  unfold pick
  revert hp
  induction p.toList with
  | nil => intro _; exact .nil
  | cons i r ih =>
    intro hp
    refine .cons ?_ (ih fun j hj => hp j (List.mem_cons_of_mem _ hj))
    have hi := hp i List.mem_cons_self
    have hx : xs[i]? = some xs[i] := List.getElem?_eq_getElem hi
    obtain ⟨y, hy, hr⟩ := paired_get h hx
    have e1 : xs.getD i d = xs[i] := by simp [List.getD, hx]
    have e2 : ys.getD i e = y := by simp [List.getD, hy]
    show R (xs.getD i d) (ys.getD i e)
    rw [e1, e2]; exact hr
theorem pick_asc {r : Nat → Int} {n : Nat} {p : Array Nat} (hn : p.size = n) (ha : Asc r p n) {α : Type} (d : α) (xs : List α) (f : α → Int) (hf : ∀ i, r i = f (xs.getD i d)) : (pick d xs p).Pairwise fun a b => f a ≤ f b := by
  rw [List.pairwise_iff_getElem]
  intro i j hi hj hij
  have hi' : i < p.size := by simpa [pick] using hi
  have hj' : j < p.size := by simpa [pick] using hj
  have h1 := ha i j (Nat.le_of_lt hij) (by omega)
  unfold Kk at h1
  rw [hf, hf] at h1
  simp only [Array.getD_eq_getD_getElem?, Array.getElem?_eq_getElem hi', Array.getElem?_eq_getElem hj', Option.getD_some] at h1
  simpa [pick] using h1
theorem msZ_perm {ps : List Bw} {bw : List (Nat × Nat)} (h : ps.Perm (msZ bw)) : ∃ ot, ps = msZ ot ∧ ot.Perm bw := by
  refine ⟨ps.map fun p => (p.1.toNat, p.2.toNat), ?_, ?_⟩
  · unfold msZ
    rw [List.map_map]
    have : ∀ p ∈ ps, ((fun p : Nat × Nat => ((p.1 : Int), (p.2 : Int))) ∘ fun p : Bw => (p.1.toNat, p.2.toNat)) p = p := fun p hp => by
      obtain ⟨x, _, rfl⟩ := List.mem_map.mp (h.mem_iff.mp hp)
      simp
    rw [List.map_congr_left this]
    simp
  · have h2 := h.map fun p : Bw => (p.1.toNat, p.2.toNat)
    unfold msZ at h2
    rw [List.map_map] at h2
    have : ∀ x ∈ bw, ((fun p : Bw => (p.1.toNat, p.2.toNat)) ∘ fun p : Nat × Nat => ((p.1 : Int), (p.2 : Int))) x = x := fun x _ => by simp
    rw [List.map_congr_left this] at h2
    simpa using h2
def leB (p q : Bw) : Prop := p.1 < q.1 ∨ p.1 = q.1 ∧ p.2 ≤ q.2
def rSortB (K : PySem.W.Frag) : List V → Hp → VK → Prop := fun xs H Q => ∃ (l : Addr) (as : List Addr) (ps : List Bw), xs = [.ref l] ∧ SqL K H l (as.map V.ref) ∧ Paired (tupAt H) as ps ∧ ps.length < 64 ∧ (∀ p ∈ ps, 0 ≤ p.2 ∧ p.2 < 1000) ∧
  ∀ l' as' ps', H l' = none → Paired (tupAt H) as' ps' → ps'.Perm ps → ps'.Pairwise leB → Q (.ref l') (upd H l' (.lst (as'.map V.ref)))
theorem call_sorted_bows {X : Cx} : CallR X (.builtin "sorted") (rSortB X.K) := by
  intro pins s σ H xs us Q I rr h
  obtain ⟨l, as, ps, rfl, hq, hP, h64, hb, q⟩ := h
  obtain ⟨u, rfl, rx⟩ := vals1 rr
  cases rx
  obtain ⟨its, rv, pl, hz⟩ := I.list hq
  have e := vals_refs rv
  subst e
  have hlen : as.length = ps.length := Paired.length hP
  have two : Paired (Two s.heap) as ps := paired_imp hP fun a p z => two_of I z
  have at_ : ∀ i, i < as.length → ∃ a p, (as.map Value.ref).getD i Value.none = .ref a ∧ ps.getD i (0, 0) = p ∧ Two s.heap a p ∧ 0 ≤ p.2 ∧ p.2 < 1000 := fun i hi => by
    have hx : as[i]? = some as[i] := List.getElem?_eq_getElem hi
    obtain ⟨p, hp, ht⟩ := paired_get two hx
    exact ⟨as[i], p, by simp [List.getD, hi], by simp [List.getD, hp], ht, hb p (List.mem_of_getElem? hp)⟩
  refine sorted_rank (r := fun i => rankB (ps.getD i (0, 0))) kB pl.isList (by rw [List.length_map]; omega) (fun h2 h' Q' k q' => ?_) (fun i j hi hj h' C k q' => ?_) fun p hp ha => ?_
  · obtain ⟨fs, k1, k2, k3⟩ := two_tups (paired_imp two fun a p z => z.kept k)
    refine kat_kind (T := .type "int") k1 (by rw [List.length_map] at h2; omega) (fun v hv => ?_) rfl q'
    obtain ⟨n, t, rfl⟩ := k3 v hv
    exact (show Looks _ _ (pure (Value.type "int")) (Value.type "int") from .now)
  · rw [List.length_map] at hi hj
    obtain ⟨a, p, e1, e2, t1, b1⟩ := at_ i hi
    obtain ⟨c, p', e3, e4, t2, b2⟩ := at_ j hj
    rw [e1, e3]
    refine two_lt (t1.kept k) (t2.kept k) b1 b2 ?_
    rw [← e2, ← e4]
    exact q'
  · rw [List.length_map] at hp ha
    obtain ⟨c, hc⟩ := sortedAll_at s.heap (as.map Value.ref) (outOf (as.map Value.ref) p)
    have hin : ∀ i ∈ p.toList, i < as.length := fun i hi => by
      have h1 : p.toList.Perm (List.range as.length) := by simpa using Array.perm_iff_toList_perm.mp hp
      simpa using h1.mem_iff.mp hi
    have eo : outOf (as.map Value.ref) p = List.toArray ((pick 0 as p).map Value.ref) := by
      unfold outOf pick
      rw [List.map_map]
      congr 1
      refine List.map_congr_left fun i hi => ?_
      have := hin i hi
      simp [List.getD, this]
    have hps : (pick 0 as p).length ≤ sizeLine := by
      have := (pick_perm 0 as hp).length_eq
      rw [this]
      exact Nat.le_of_lt (small1000 (by omega))
    rw [eo] at hc
    have hp' : p.Perm (List.toArray (List.range ps.length)) := by rw [← hlen]; exact hp
    refine ⟨.ref (s.heap.objs.size + 1), upd H (s.heap.objs.size + 1) (.lst ((pick 0 as p).map V.ref)), I.laid (t' := s.toks) (fun b o e => sortedAll_old e) (Nat.le_succ _) ?_, rfl, ?_⟩
    · exact (show ObjOk X.prog X.w _ _ _ (.lst _) from ⟨by rw [List.length_map]; exact hps, (pick 0 as p).map Value.ref, c, refs_vals _, by rw [eo]; exact hc⟩)
    · have hasc := pick_asc (n := as.length) (by have := hp.size_eq; simpa using this) ha (0, 0) ps rankB fun i => rfl
      have hmem : ∀ x ∈ pick (0, 0) ps p, 0 ≤ x.2 ∧ x.2 < 1000 := fun x hx => hb x ((pick_perm (0, 0) ps hp').mem_iff.mp hx)
      refine q _ _ (pick (0, 0) ps p) (I.hok.fresh (Nat.le_succ _)) (pick_paired 0 (0, 0) hP hin) (pick_perm (0, 0) ps hp') ?_
      refine List.Pairwise.imp_of_mem (fun {a b} ma mb hab => ?_) hasc
      have h1 := hmem a ma
      have h2 := hmem b mb
      unfold rankB at hab
      unfold leB
      omega
end Rm

set_option Elab.async false
set_option linter.all false
set_option maxRecDepth 100000
set_option maxHeartbeats 4000000
/-! sorted(..) of ints in a list or a tuple; tuple(range(..)); insert. -/
namespace L2
open PySem PySem.W PySem.Spec PyProof.Rows Rm
section
variable {X : Cx}
theorem ints_getD : ∀ {us : List Value} {ns : List Int}, IntsAre us ns → ∀ i, i < us.length → ∃ t, us.getD i Value.none = .int (ns.getD i 0) t
  | _, _, .nil, i, h => by simp at h
  | _, _, .cons n t r, 0, _ => ⟨t, rfl⟩
  | _, _, .cons n t r, i + 1, h => by
    obtain ⟨t', e⟩ := ints_getD r i (by simpa using h)
    exact ⟨t', by simpa using e⟩
theorem ints_len {us : List Value} {ns : List Int} (hi : IntsAre us ns) : us.length = ns.length := by
  induction hi with
  | nil => rfl
  | cons _ _ _ ih => simp [ih]
def rSortQ (K : PySem.W.Frag) : List V → Hp → VK → Prop := fun xs H Q => ∃ (p : Addr) (ns : List Int), xs = [.ref p] ∧ (SqL K H p (ns.map V.int) ∨ SqT K H p (ns.map V.int)) ∧ ns.length < 64 ∧
  ∀ (l : Addr) (ms : List Int), H l = none → ms.Perm ns → ms.Pairwise (· ≤ ·) → Q (.ref l) (upd H l (.lst (ms.map V.int)))
end
/-! ### tuple(range(..)) -/
section
variable {X : Cx}
/-! ### insert -/
def rInsert : V → List V → Hp → VK → Prop := fun x vs H Q => ∃ (l : Addr) (xs : List V) (k : Nat) (y : V), x = .ref l ∧ vs = [.int k, y] ∧ H l = some (.lst xs) ∧ k ≤ xs.length ∧ xs.length ≤ 999 ∧ Q .non (upd H l (.lst (xs.take k ++ y :: xs.drop k)))
end
end L2

set_option Elab.async false
set_option linter.all false
set_option maxRecDepth 100000
set_option maxHeartbeats 4000000
/-! Orders, sides and mazes as plain data. -/
namespace Rm
open PySem L2
/-! ### as many, without two alike, within: the same in another order -/
theorem perm_of_sub {α : Type} [DecidableEq α] : ∀ {l m : List α}, l.Nodup → (∀ x ∈ l, x ∈ m) → m.length ≤ l.length → l.Perm m
  | [], m, _, _, h => by
    have : m = [] := List.eq_nil_of_length_eq_zero (by simpa using h)
    rw [this]
  | x :: l, m, nd, hs, hl => by
    obtain ⟨n1, n2⟩ := List.nodup_cons.mp nd
    have hx := hs x List.mem_cons_self
    have hp : m.Perm (x :: m.erase x) := List.perm_cons_erase hx
    have hlen := hp.length_eq
    simp only [List.length_cons] at hlen hl
    have ih : l.Perm (m.erase x) := perm_of_sub n2 (fun y hy => by
      have hm := hs y (List.mem_cons_of_mem _ hy)
      rcases List.mem_cons.mp (hp.mem_iff.mp hm) with e | e
      · subst e; exact absurd hy n1
      · exact e) (by omega)
    exact (ih.cons x).trans hp.symm
def intOf : PyData → Int
  | .int n => n
  | _ => 0
theorem wholeD_int : ∀ {d : PyData}, wholeD d = true → d = .int (intOf d)
  | .int n, _ => rfl
def orderD : PyData → Bool
  | .tuple ds => decide (ds.length ≤ 20) && (ds.all wholeD && (ds.map intOf).isPerm (rngZ 1 ds.length))
  | _ => false
def sideD : PyData → Bool
  | .str z => decide (z = Str.ofString "l") || decide (z = Str.ofString "r")
  | _ => false
def mazeD : PyData → Bool
  | .tuple [a, b] => sideD a && orderD b
  | _ => false
theorem mem_rng1 {x : Int} {n : Nat} : x ∈ rngZ 1 n ↔ 1 ≤ x ∧ x ≤ n := by
  unfold rngZ
  rw [List.mem_map]
  constructor
  · rintro ⟨i, hi, rfl⟩
    have := List.mem_range.mp hi
    omega
  · rintro ⟨h1, h2⟩
    exact ⟨(x - 1).toNat, List.mem_range.mpr (by omega), by omega⟩
theorem rng1_nodup (n : Nat) : (rngZ 1 n).Nodup := by
  unfold rngZ List.Nodup
  rw [List.pairwise_map]
  exact (List.nodup_range (n := n)).imp fun h e => h (by omega)
/-- what the law's own walk over a tuple has met -/
structure Met (ds : List PyData) (i : Nat) : Prop where
  wh : ∀ d ∈ ds.take i, wholeD d = true
  inn : ∀ n ∈ (ds.map intOf).take i, 1 ≤ n ∧ n ≤ ds.length
  nd : ((ds.map intOf).take i).Nodup
theorem Met.start (ds : List PyData) : Met ds 0 := ⟨fun d h => by simp at h, fun d h => by simp at h, by simp⟩
theorem Met.next {ds : List PyData} {i : Nat} {d : PyData} (M : Met ds i) (h : ds[i]? = some d) (hw : wholeD d = true) (h1 : 1 ≤ intOf d) (h2 : intOf d ≤ ds.length) (hn : intOf d ∉ (ds.map intOf).take i) : Met ds (i + 1) := by
  have e : (ds.map intOf)[i]? = some (intOf d) := by rw [List.getElem?_map, h]; rfl
  refine ⟨fun x hx => ?_, fun x hx => ?_, ?_⟩
  · rw [List.take_add_one, h] at hx
    rcases List.mem_append.mp hx with z | z
    · exact M.wh x z
    · have e : x = d := by simpa using z
      subst e; exact hw
  · rw [List.take_add_one, e] at hx
    rcases List.mem_append.mp hx with z | z
    · exact M.inn x z
    · have e : x = intOf d := by simpa using z
      subst e; exact ⟨h1, h2⟩
  · rw [List.take_add_one, e]
    show ((ds.map intOf).take i ++ [intOf d]).Nodup
    rw [List.nodup_append]
    exact ⟨M.nd, by simp, fun a ha b hb z => by
      have e : b = intOf d := by simpa using hb
      subst e; subst z; exact hn ha⟩
theorem Met.order {ds : List PyData} (M : Met ds ds.length) (hl : ds.length ≤ 20) : orderD (.tuple ds) = true := by
  show (decide (ds.length ≤ 20) && (ds.all wholeD && (ds.map intOf).isPerm (rngZ 1 ds.length))) = true
  have hw := M.wh
  have hi := M.inn
  have nd := M.nd
  rw [List.take_length] at hw
  rw [List.take_of_length_le (by simp)] at hi nd
  rw [decide_eq_true hl, List.all_eq_true.mpr hw, List.isPerm_iff.mpr (perm_of_sub nd (fun x hx => mem_rng1.mpr (hi x hx)) (by simp [rngZ]))]
  rfl
/-- plain and not deep -/
structure Pl (d : PyData) (n : Nat) : Prop where
  lay : d.canLay0 = true
  deep : d.depth ≤ n
def spIsSide : Sp := fun vs H Q _ => ∃ x d, vs = [x] ∧ Dat H x d ∧ Pl d 60 ∧ Q (.bl (sideD d)) H
def spIsOrder : Sp := fun vs H Q _ => ∃ x d, vs = [x] ∧ Dat H x d ∧ ∀ H', Same H H' → Q (.bl (orderD d)) H'
def spIsMaze : Sp := fun vs H Q _ => ∃ x d, vs = [x] ∧ Dat H x d ∧ Pl d 60 ∧ ∀ H', Same H H' → Q (.bl (mazeD d)) H'
def spOrderBy : Sp := fun vs H Q _ => ∃ c room : Int, vs = [.int c, .int room] ∧ 1 ≤ room ∧ room ≤ 100 ∧ ∀ (l : Addr) (ns : List Int) (H' : Hp), H l = none → Same H H' → H' l = some (.tup (ns.map V.int)) → (ns.length : Int) < room → ns.Perm (rngZ 1 ns.length) → Q (.ref l) H'
def spSpoiled : Sp := fun vs H Q _ => ∃ (o : Addr) (kind cell : Int) (ns : List Int), vs = [.ref o, .int kind, .int cell] ∧ H o = some (.tup (ns.map V.int)) ∧ ns.length ≤ 20 ∧ ∀ x d H', Same H H' → Dat H' x d → Pl d 3 → mazeD d = false → Q x H'
/-! ### data without lists -/
mutual
def noL : PyData → Bool
  | .list _ => false
  | .tuple ds => noLs ds
  | .dict _ => false
  | _ => true
def noLs : List PyData → Bool
  | [] => true
  | d :: ds => noL d && noLs ds
end
mutual
theorem dat_upd {H : Hp} {l : Addr} {ys : List V} {o : HO} (hl : H l = some (.lst ys)) : ∀ {x : V} {d : PyData}, Dat H x d → noL d = true → Dat (upd H l o) x d
  | _, _, .non, _ => .non
  | _, _, .bl b, _ => .bl b
  | _, _, .int i, _ => .int i
  | _, _, .str x, _ => .str x
  | _, _, .tup h r, n => .tup (by rw [upd_ne (ne_of h hl (by intro q; cases q))]; exact h) (datL_upd hl r n)
  | _, _, .lst h r, n => nomatch n
theorem datL_upd {H : Hp} {l : Addr} {ys : List V} {o : HO} (hl : H l = some (.lst ys)) : ∀ {xs : List V} {ds : List PyData}, DatL H xs ds → noLs ds = true → DatL (upd H l o) xs ds
  | _, _, .nil, _ => .nil
  | _, _, .cons h r, n => by
    have n' : (noL _ && noLs _) = true := n
    rw [Bool.and_eq_true] at n'
    exact .cons (dat_upd hl h n'.1) (datL_upd hl r n'.2)
end
theorem noLs_all : ∀ {ds : List PyData}, (∀ d ∈ ds, noL d = true) → noLs ds = true
  | [], _ => rfl
  | d :: ds, h => by
    show (noL d && noLs ds) = true
    rw [h d List.mem_cons_self, noLs_all fun x hx => h x (List.mem_cons_of_mem _ hx)]; rfl
/-- a thing that may stand in an order's place -/
structure Itm (d : PyData) : Prop where
  lay : d.canLay0 = true
  deep : d.depth ≤ 1
  noL : noL d = true
  side : sideD d = false
theorem itm_noL {ds : List PyData} (h : ∀ d ∈ ds, Itm d) : noLs ds = true := noLs_all fun d hd => (h d hd).noL
/-- items at places -/
structure Row (H : Hp) (xs : List V) (ds : List PyData) : Prop where
  dat : DatL H xs ds
  itm : ∀ d ∈ ds, Itm d
theorem datL_take {H : Hp} : ∀ {xs : List V} {ds : List PyData} (k : Nat), DatL H xs ds → DatL H (xs.take k) (ds.take k)
  | _, _, 0, _ => by simpa using (DatL.nil : DatL H [] [])
  | _, _, k + 1, .nil => by simpa using (DatL.nil : DatL H [] [])
  | _, _, k + 1, .cons h r => .cons h (datL_take k r)
theorem datL_drop {H : Hp} : ∀ {xs : List V} {ds : List PyData} (k : Nat), DatL H xs ds → DatL H (xs.drop k) (ds.drop k)
  | _, _, 0, h => h
  | _, _, k + 1, .nil => by simpa using (DatL.nil : DatL H [] [])
  | _, _, k + 1, .cons h r => datL_drop k r
theorem datL_app {H : Hp} : ∀ {xs ys : List V} {ds es : List PyData}, DatL H xs ds → DatL H ys es → DatL H (xs ++ ys) (ds ++ es)
  | _, _, _, _, .nil, h => h
  | _, _, _, _, .cons a r, h => .cons a (datL_app r h)
theorem Row.put {H : Hp} {xs : List V} {ds : List PyData} {x : V} {d : PyData} (r : Row H xs ds) (j k : Nat) (h : Dat H x d) (hi : Itm d) : Row H (xs.take j ++ x :: xs.drop k) (ds.take j ++ d :: ds.drop k) :=
  ⟨datL_app (datL_take j r.dat) (.cons h (datL_drop k r.dat)), fun e he => by
    rcases List.mem_append.mp he with z | z
    · exact r.itm e (List.mem_of_mem_take z)
    · rcases List.mem_cons.mp z with rfl | z
      · exact hi
      · exact r.itm e (List.mem_of_mem_drop z)⟩
theorem Row.cut {H : Hp} {xs : List V} {ds : List PyData} (r : Row H xs ds) (j k : Nat) : Row H (xs.take j ++ xs.drop k) (ds.take j ++ ds.drop k) :=
  ⟨datL_app (datL_take j r.dat) (datL_drop k r.dat), fun e he => by
    rcases List.mem_append.mp he with z | z
    · exact r.itm e (List.mem_of_mem_take z)
    · exact r.itm e (List.mem_of_mem_drop z)⟩
theorem Row.upd {H : Hp} {l : Addr} {ys xs : List V} {o : HO} {ds : List PyData} (r : Row H xs ds) (hl : H l = some (.lst ys)) : Row (upd H l o) xs ds := ⟨datL_upd hl r.dat (itm_noL r.itm), r.itm⟩
theorem Row.same {H H' : Hp} {xs : List V} {ds : List PyData} (r : Row H xs ds) (s : Same H H') : Row H' xs ds := ⟨r.dat.same s, r.itm⟩
end Rm

set_option Elab.async false
set_option linter.all false
set_option maxRecDepth 100000
set_option maxHeartbeats 4000000
/-! Two words, joined ends, rounds, closings (math). -/
namespace Rm
open PySem L2 PyProof.Rows
/-! ### mates -/
theorem mate_ex {bs : List Bool} (b : Bal bs) {k : Nat} (h : bs[k]? = some true) : ∃ m, Mate bs k m := by
  have go : ∀ (f j : Nat) (deep : Int), Walk bs k j deep → bs.length - j < f → ∃ m, Mate bs k m := by
    intro f
    induction f with
    | zero => intro j deep _ hf; omega
    | succ f ih =>
      intro j deep w hf
      by_cases hc : 0 < deep ∨ j = k
      · have hj := w.inside b hc
        exact ih (j + 1) _ (w.step hc (List.getElem?_eq_getElem hj)) (by omega)
      · obtain ⟨m, _, hm⟩ := w.mate hc
        exact ⟨m, hm⟩
  exact go _ k 0 (Walk.start h) (Nat.lt_succ_self _)
theorem mates_ex {bs : List Bool} (b : Bal bs) : ∀ k, k ≤ bs.length → ∃ ms, Mates bs k ms
  | 0, _ => ⟨[], Mates.nil bs⟩
  | k + 1, h => by
    obtain ⟨ms, M⟩ := mates_ex b k (by omega)
    by_cases ho : bs[k]? = some true
    · obtain ⟨m, hm⟩ := mate_ex b ho
      exact ⟨_, M.snoc hm⟩
    · exact ⟨ms, M.skip ho⟩
def Pr (bs : List Bool) (x y : Nat) : Prop := Mate bs x y ∨ Mate bs y x
theorem Pr.symm {bs : List Bool} {x y : Nat} (h : Pr bs x y) : Pr bs y x := h.elim .inr .inl
theorem Pr.uniq {bs : List Bool} {x y z : Nat} (h : Pr bs x y) (g : Pr bs x z) : y = z := by
  rcases h with h | h <;> rcases g with g | g
  · exact h.uniq g
  · have := h.op; rw [g.cl] at this; cases this
  · have := g.op; rw [h.cl] at this; cases this
  · exact h.uniqL g
theorem Pr.lt {bs : List Bool} {x y : Nat} (h : Pr bs x y) : y < bs.length := by
  rcases h with h | h
  · exact h.ml
  · exact Nat.lt_trans h.lt h.ml
theorem pr_ex {bs : List Bool} (b : Bal bs) {x : Nat} (h : x < bs.length) : ∃ y, Pr bs x y := by
  cases e : bs[x] with
  | true =>
    obtain ⟨m, hm⟩ := mate_ex b (k := x) (by rw [List.getElem?_eq_getElem h, e])
    exact ⟨m, .inl hm⟩
  | false =>
    obtain ⟨ms, M⟩ := mates_ex b bs.length (Nat.le_refl _)
    obtain ⟨p, hp⟩ := M.closed b (q := x) (by rw [List.getElem?_eq_getElem h, e])
    exact ⟨p, .inr (M.mate _ hp).1⟩
open Classical in
noncomputable def mtF (bs : List Bool) (x : Nat) : Nat := if h : ∃ y, Pr bs x y then h.choose else x
theorem mtF_of {bs : List Bool} {x y : Nat} (h : Pr bs x y) : mtF bs x = y := by
  unfold mtF
  have hx : ∃ y, Pr bs x y := ⟨y, h⟩
  rw [dif_pos hx]
  exact hx.choose_spec.uniq h
theorem mtF_pr {bs : List Bool} (b : Bal bs) {x : Nat} (h : x < bs.length) : Pr bs x (mtF bs x) := by
  obtain ⟨y, hy⟩ := pr_ex b h
  rw [mtF_of hy]; exact hy
/-- a partner for each of n ends -/
structure Prt (n : Nat) (L : Nat → Nat) : Prop where
  lt : ∀ x, x < n → L x < n
  inv : ∀ x, x < n → L (L x) = x
theorem mtF_prt {bs : List Bool} (b : Bal bs) : Prt bs.length (mtF bs) :=
  ⟨fun x h => (mtF_pr b h).lt, fun x h => mtF_of (mtF_pr b h).symm⟩
/-! ### labels -/
def gv (g : List Int) (x : Nat) : Int := g.getD x 0
def relab (g : List Int) (one two : Int) : List Int := g.map fun y => if y = two then one else y
theorem gv_get {g : List Int} {x : Nat} (h : x < g.length) : g[x]? = some (gv g x) := by
  unfold gv
  rw [List.getElem?_eq_getElem h, List.getD_eq_getElem?_getD, List.getElem?_eq_getElem h]; rfl
theorem gv_relab {g : List Int} {one two : Int} {x : Nat} (h : x < g.length) : gv (relab g one two) x = if gv g x = two then one else gv g x := by
  have e : (relab g one two)[x]? = some (if gv g x = two then one else gv g x) := by
    unfold relab
    rw [List.getElem?_map, gv_get h]; rfl
  have h2 : x < (relab g one two).length := by unfold relab; rw [List.length_map]; exact h
  rw [gv_get h2] at e
  exact Option.some.inj e
structure Lab (n : Nat) (L : Nat → Nat) (bw : List (Nat × Nat)) (g : List Int) : Prop where
  len : g.length = n
  left : ∀ x, x < n → gv g (L x) = gv g x
  inn : ∀ p ∈ bw, p.1 < n ∧ p.2 < n
  bows : ∀ p ∈ bw, gv g p.1 = gv g p.2
  conn : ∀ S : Nat → Prop, (∀ x, x < n → S x → S (L x)) → (∀ p ∈ bw, (S p.1 ↔ S p.2)) → ∀ x y, x < n → y < n → S x → gv g y = gv g x → S y
def lab0 (n : Nat) (L : Nat → Nat) : List Int := (List.range n).map fun x => ((min x (L x) : Nat) : Int)
theorem gv_lab0 {n : Nat} {L : Nat → Nat} {x : Nat} (h : x < n) : gv (lab0 n L) x = ((min x (L x) : Nat) : Int) := by
  have h2 : x < (lab0 n L).length := by simp [lab0, h]
  have e := gv_get h2
  unfold lab0 at e
  rw [List.getElem?_map, List.getElem?_range h] at e
  exact (Option.some.inj e).symm
theorem Lab.start {n : Nat} {L : Nat → Nat} (P : Prt n L) : Lab n L [] (lab0 n L) := by
  refine ⟨by simp [lab0], fun x h => ?_, (fun p h => nomatch h), (fun p h => nomatch h), fun S hS _ x y hx hy sx e => ?_⟩
  · rw [gv_lab0 h, gv_lab0 (P.lt x h), P.inv x h, Nat.min_comm]
  · rw [gv_lab0 hx, gv_lab0 hy] at e
    have e' : min y (L y) = min x (L x) := by omega
    have cases4 : y = x ∨ y = L x ∨ L y = x ∨ L y = L x := by omega
    rcases cases4 with h | h | h | h
    · rw [h]; exact sx
    · rw [h]; exact hS x hx sx
    · have : y = L x := by rw [← h, P.inv y hy]
      rw [this]; exact hS x hx sx
    · have : y = x := by rw [← P.inv y hy, h, P.inv x hx]
      rw [this]; exact sx
theorem Lab.add {n : Nat} {L : Nat → Nat} {bw : List (Nat × Nat)} {g : List Int} {a b : Nat} (h : Lab n L bw g) (P : Prt n L) (ha : a < n) (hb : b < n) : Lab n L (bw ++ [(a, b)]) (relab g (gv g a) (gv g b)) := by
  have hl := h.len
  have gr : ∀ x, x < n → gv (relab g (gv g a) (gv g b)) x = if gv g x = gv g b then gv g a else gv g x := fun x hx => gv_relab (by omega)
  refine ⟨by unfold relab; rw [List.length_map]; exact hl, fun x hx => ?_, fun p hp => ?_, fun p hp => ?_, fun S hS hB x y hx hy sx e => ?_⟩
  · rw [gr x hx, gr _ (P.lt x hx), h.left x hx]
  · rcases List.mem_append.mp hp with hp | hp
    · exact h.inn p hp
    · rw [List.mem_singleton] at hp; subst hp; exact ⟨ha, hb⟩
  · rcases List.mem_append.mp hp with hp | hp
    · obtain ⟨h1, h2⟩ := h.inn p hp
      rw [gr _ h1, gr _ h2, h.bows p hp]
    · rw [List.mem_singleton] at hp; subst hp
      rw [gr _ ha, gr _ hb, if_pos rfl]
      by_cases e : gv g a = gv g b
      · rw [if_pos e]
      · rw [if_neg e]
  · have hB' : ∀ p ∈ bw, (S p.1 ↔ S p.2) := fun p hp => hB p (List.mem_append_left _ hp)
    have hab : S a ↔ S b := hB (a, b) (by simp)
    have cn := fun x y hx hy => h.conn S hS hB' x y hx hy
    rw [gr x hx, gr y hy] at e
    by_cases e1 : gv g x = gv g b
    · have sb : S b := cn x b hx hb sx e1.symm
      have sa : S a := hab.mpr sb
      by_cases e2 : gv g y = gv g b
      · exact cn b y hb hy sb e2
      · rw [if_neg e2, if_pos e1] at e
        exact cn a y ha hy sa e
    · rw [if_neg e1] at e
      by_cases e2 : gv g y = gv g b
      · rw [if_pos e2] at e
        have sa : S a := cn x a hx ha sx e
        exact cn b y hb hy (hab.mp sa) e2
      · rw [if_neg e2] at e
        exact cn x y hx hy sx e
/-! ### how many labels -/
def Cts (g : List Int) (k : Nat) : Prop := ∃ ls : List Int, ls.Nodup ∧ (∀ x, x ∈ ls ↔ x ∈ g) ∧ ls.length = k
theorem nodup_len {α : Type} [DecidableEq α] {l m : List α} (h : l.Nodup) (k : m.Nodup) (e : ∀ x, x ∈ l ↔ x ∈ m) : l.length = m.length := by
  have a : ∀ {l m : List α}, l.Nodup → (∀ x, x ∈ l → x ∈ m) → l.length ≤ m.length := by
    intro l m hl hm
    refine Nat.le_of_not_lt fun h => ?_
    have := (perm_of_sub hl hm (Nat.le_of_lt h)).length_eq
    omega
  exact Nat.le_antisymm (a h fun x hx => (e x).mp hx) (a k fun x hx => (e x).mpr hx)
theorem Cts.uniq {g : List Int} {j k : Nat} (h : Cts g j) (i : Cts g k) : j = k := by
  obtain ⟨l, h1, h2, rfl⟩ := h
  obtain ⟨m, i1, i2, rfl⟩ := i
  exact nodup_len h1 i1 fun x => (h2 x).trans (i2 x).symm
theorem Cts.add {g : List Int} {k : Nat} {one two : Int} (h : Cts g k) (h1 : one ∈ g) (h2 : two ∈ g) (ne : one ≠ two) : 1 ≤ k ∧ Cts (relab g one two) (k - 1) := by
  obtain ⟨ls, nd, e, rfl⟩ := h
  have m2 : two ∈ ls := (e two).mpr h2
  refine ⟨List.length_pos_of_mem m2, ls.erase two, nd.erase two, fun x => ?_, List.length_erase_of_mem m2⟩
  rw [nd.mem_erase_iff, e]
  unfold relab
  rw [List.mem_map]
  constructor
  · rintro ⟨n, hx⟩
    exact ⟨x, hx, by rw [if_neg n]⟩
  · rintro ⟨y, hy, rfl⟩
    by_cases c : y = two
    · rw [if_pos c]; exact ⟨ne, h1⟩
    · rw [if_neg c]; exact ⟨c, hy⟩
/-! ### closings -/
def stepC (s : List Bool × List Int) (p : Nat × Nat) : List Bool × List Int := (s.1 ++ [decide (gv s.2 p.1 = gv s.2 p.2)], relab s.2 (gv s.2 p.1) (gv s.2 p.2))
def closC (g : List Int) (ms : List (Nat × Nat)) : List Bool × List Int := ms.foldl stepC ([], g)
/-! ### rounds -/
structure Rnds (n : Nat) (L R : Nat → Nat) (rs : List (List Nat)) : Prop where
  inn : ∀ r ∈ rs, ∀ x ∈ r, x < n ∧ L x ∈ r ∧ R x ∈ r
  one : ∀ f : Nat → Int, (∀ x, x < n → f (L x) = f x ∧ f (R x) = f x) → ∀ r ∈ rs, ∀ x ∈ r, ∀ y ∈ r, f x = f y
  apart : rs.Pairwise fun r s => ∀ x ∈ r, x ∉ s
  ne : ∀ r ∈ rs, r ≠ []
end Rm

set_option Elab.async false
set_option linter.all false
set_option maxRecDepth 100000
set_option maxHeartbeats 4000000
/-! Exceptions of one's own: raised in a def, in flight, caught. -/
namespace L2
open PySem PySem.Spec PyProof.Rows
/-- the exception at e has no context -/
def CtD (dO : Option Addr) (e : Addr) (h : Heap) : Prop := ∃ o vs, h.get? e = some o ∧ (o.dict = dO ∧ o.data = .fields vs) ∧ vs[2]? = some .none
abbrev Ct0 (e : Addr) (h : Heap) : Prop := CtD none e h
structure Pres {α : Type} (I : Heap → Prop) (t : Sem α) : Prop where
  out : ∀ (M : Model) (Γ : PySem.Ctx) (P : α → Pos → Shared → Prop) (E : Value → Pos → Shared → Prop) (p : Pos) (s : Shared), I s.heap → Sem.wp M Γ t P E p s → Sem.wp M Γ t (fun a p' s' => P a p' s' ∧ I s'.heap) E p s
section
variable {α β : Type} {I : Heap → Prop}
theorem Pres.pure (a : α) : Pres I (Pure.pure a : Sem α) := ⟨fun M Γ P E p s i h => ⟨h, i⟩⟩
theorem Pres.un (w : String) : Pres I (unsupported w : Sem α) := ⟨fun M Γ P E p s i h => False.elim h⟩
theorem Pres.load (a : Addr) : Pres I (load a) := ⟨fun M Γ P E p s i ⟨o, e, h⟩ => ⟨o, e, h, i⟩⟩
theorem Pres.stack : Pres I stack := ⟨fun M Γ P E p s i h => ⟨h, i⟩⟩
theorem Pres.update {a : Addr} {f : Obj → Obj} (k : ∀ h, I h → I (h.update a f)) : Pres I (update a f) := ⟨fun M Γ P E p s i ⟨e, h⟩ => ⟨e, h, k _ i⟩⟩
theorem Pres.alloc {o : Obj} (k : ∀ h, I h → I (h.push o)) : Pres I (alloc o) := ⟨fun M Γ P E p s i h => ⟨h, k _ i⟩⟩
theorem Pres.bind {m : Sem α} {f : α → Sem β} (hm : Pres I m) (hf : ∀ a, Pres I (f a)) : Pres I (m >>= f) := ⟨fun M Γ P E p s i h => by
  have h' : Sem.wp M Γ (m.bind f) P E p s := h
  show Sem.wp M Γ (m.bind f) _ E p s
  rw [Sem.wp_bind] at h' ⊢
  exact Sem.wp_mono M Γ m (fun a p' s' ⟨h1, i1⟩ => (hf a).out M Γ P E p' s' i1 h1) (fun _ _ _ z => z) _ _ (hm.out M Γ _ E p s i h')⟩
theorem Pres.ite {c : Prop} [Decidable c] {a b : Sem α} (ha : Pres I a) (hb : Pres I b) : Pres I (if c then a else b) := by split <;> assumption
theorem Pres.newObjT {T : String} {vs : List Value} (k : ∀ h o, I h → I (h.push o)) : Pres I (newFields T vs) := by
  unfold newFields newObj
  exact Pres.ite (.bind (.un _) fun _ => .bind (.alloc fun h i => k h _ i) fun a => .pure _) (.bind (.alloc fun h i => k h _ i) fun a => .pure _)
end
theorem ct_push {dO : Option Addr} {e : Addr} {h : Heap} {o : Obj} (c : CtD dO e h) : CtD dO e (h.push o) := by
  obtain ⟨ob, vs, e1, e2, e3⟩ := c
  exact ⟨ob, vs, Heap.get?_push_of_some _ e1, e2, e3⟩
theorem ct_upd {dO : Option Addr} {e a : Addr} {h : Heap} {f : Obj → Obj} (k : ∀ o vs, o.dict = dO ∧ o.data = .fields vs → vs[2]? = some Value.none → ∃ ws, ((f o).dict = dO ∧ (f o).data = .fields ws) ∧ ws[2]? = some Value.none) (c : CtD dO e h) : CtD dO e (h.update a f) := by
  obtain ⟨ob, vs, e1, e2, e3⟩ := c
  by_cases z : a = e
  · subst z
    obtain ⟨ws, e4, e5⟩ := k ob vs e2 e3
    exact ⟨_, ws, Heap.get?_update_self f e1 (by clear e5; revert e4; generalize f ob = z; intro ⟨_, e4⟩; obtain ⟨c, d, da, sl⟩ := z; cases e4; rfl), e4, e5⟩
  · exact ⟨ob, vs, Heap.get?_update_of_ne f z e1, e2, e3⟩
theorem Pres.setField {dO : Option Addr} {e : Addr} {v x : Value} {i : Nat} (hi : i ≠ 2) : Pres (CtD dO e) (PySem.setField v i x) := by
  unfold PySem.setField
  split
  · unfold updateField
    refine .bind (.load _) fun o => ?_
    split
    · refine .ite (.update fun h c => ct_upd (fun o vs e1 e2 => ?_) c) (.un _)
      obtain ⟨c, d, da, sl⟩ := o
      obtain ⟨e0, e1⟩ := e1
      cases e1
      refine ⟨_, ⟨e0, rfl⟩, ?_⟩
      rw [Array.getElem?_setIfInBounds, if_neg hi]; exact e2
    · exact .un _
  · exact .un _
theorem Pres.field {I : Heap → Prop} {v : Value} {i : Nat} : Pres I (PySem.field v i) := by
  unfold PySem.field fieldsOf
  refine .bind ?_ fun vs => ?_
  · split
    · refine .bind (.load _) fun o => ?_
      split
      · exact .pure _
      · exact .un _
    · exact .un _
  · split
    · exact .pure _
    · exact .un _
theorem Pres.ready {dO : Option Addr} {e : Addr} : ∀ l : List Env, Pres (CtD dO e) (readyFrames l)
  | [] => .pure _
  | env :: outer => by
    unfold readyFrames
    split
    · refine .bind (.load _) fun o => .ite (.pure _) (.bind ?_ fun b => .bind ?_ fun c => .bind (.update fun h c => ct_upd (fun o vs e1 e2 => ⟨vs, e1, e2⟩) c) fun _ => Pres.ready outer)
      · unfold behindIsImport
        exact .ite (.pure _) (.ite (.pure _) (.bind .field fun _ => .pure _))
      · unfold keptBack
        split
        · refine .ite (.pure _) (.bind ?_ fun _ => .pure _)
          unfold underTheClaimsCaller
          exact .bind .stack fun _ => .pure _
        · exact .pure _
    · exact .un _
theorem Pres.note {dO : Option Addr} {e : Addr} {v : Value} {env : Env} : Pres (CtD dO e) (noteFrame v env) := by
  have jp : ∀ (f : Addr) (head : Value), Pres (CtD dO e) (do
      let a ← PySem.frameOf env
      let b ← entryPlaceOf f (head != Value.none)
      let c ← EntryCells.newEntry head a Value.none (rawInt ↑f) Value.none b
      PySem.setField v 1 c) := fun f head => by
    refine .bind ?_ fun a => .bind ?_ fun b => .bind ?_ fun c => .setField (by decide)
    · unfold PySem.frameOf frameEnvs
      refine .bind (.bind .stack fun _ => .pure _) fun l => .bind ?_ fun o => ?_
      · unfold frameObject
        split
        · exact .pure _
        · exact .bind (Pres.ready _) fun _ => .pure _
      · split
        · exact .pure _
        · exact .un _
    · unfold entryPlaceOf
      refine .bind .stack fun acts => ?_
      split
      · exact .pure _
      · exact .pure _
    · unfold EntryCells.newEntry
      exact .newObjT fun h o c => ct_push c
  unfold noteFrame
  split
  · refine .bind .field fun head => ?_
    refine .ite (.bind .field fun x => .ite (.pure _) (.bind (.setField (by decide)) fun _ => jp _ _)) (jp _ _)
  · exact .un _
theorem Pres.flight {dO : Option Addr} {e : Addr} {v : Value} {fr : Option Addr} : Pres (CtD dO e) (setFlight v fr) := by
  unfold setFlight
  exact .bind .field fun tb => .ite (.setField (by decide)) (.pure _)
theorem Pres.leave {dO : Option Addr} {e : Addr} {v : Value} {env : Env} : Pres (CtD dO e) (leaving env v) := by
  unfold leaving
  exact .bind .note fun _ => .flight
theorem Pres.any {α : Type} {I : Heap → Prop} {t : Sem α} (p : Pres I t) {M : Model} {A : Around} {Q : α → Shared → Prop} {E : Value → Shared → Prop} {s : Shared} (i : I s.heap) (h : wpAny M A t Q E s) : wpAny M A t (fun a s' => Q a s' ∧ I s'.heap) E s :=
  fun Γ q hΓ => p.out M Γ _ _ q s i (h Γ q hΓ)
theorem wpAny_pres {α : Type} {I : Heap → Prop} {t : Sem α} (p : Pres I t) {M : Model} {A : Around} {Q : α → Shared → Prop} {E : Value → Shared → Prop} {s : Shared} (i : I s.heap) (h : wpAny M A t (fun a s' => I s'.heap → Q a s') E s) : wpAny M A t Q E s :=
  wpAny_mono (p.any i h) (fun _ _ ⟨q, c⟩ => q c) fun _ _ z => z
theorem made_ct {h h' : Heap} {e : Addr} {cls : Value} {vs : List Value} (M : h.MadeExcOf h' e cls vs) : Ct0 e h' := by
  obtain ⟨t, e1, _⟩ := M.there
  exact ⟨_, _, e1, ⟨rfl, rfl⟩, rfl⟩
theorem unchain_entry : entryFor table "proto.unchain" = some Builtin.«proto.unchain» := entryFor_of_tree (Eq.refl (entriesT.find (code "proto.unchain")))
theorem ObjOk.ex {P : Program} {w : World} {H : Hp} {h : Heap} {a : Addr} {o : HO} (x : ObjOk P w H h a o) : ∃ ob, h.get? a = some ob := by
  cases o with
  | lst xs => obtain ⟨_, _, _, _, e⟩ := x; exact ⟨_, e⟩
  | tup xs => obtain ⟨_, _, _, ob, e, _⟩ := x; exact ⟨_, e⟩
  | dK kvs => obtain ⟨_, _, _, _, o, _, _, e, _⟩ := x; exact ⟨_, e⟩
  | dT kvs => obtain ⟨_, _, _, _, o, _, _, e, _⟩ := x; exact ⟨_, e⟩
  | set S n => obtain ⟨o, _, _, _, e, _⟩ := x; exact ⟨_, e⟩
  | ins C dx fs => obtain ⟨_, _, _, e, _⟩ := x; exact ⟨_, e⟩
  | own y => exact x
  | xd fs => obtain ⟨_, ⟨_, _, _, e, _⟩, _⟩ := x; exact ⟨_, e⟩
  | rng lo hi => obtain ⟨_, _, _, e⟩ := x; exact ⟨_, e⟩
  | frz ob u => obtain ⟨e, _⟩ := x; exact ⟨_, e⟩
  | tbl ps => exact ⟨_, show h.get? a = some _ from x⟩
  | met f y => exact ⟨_, show h.get? a = some _ from x⟩
  | ext φ => obtain ⟨_, e, _⟩ := x; exact e
/-- while an exception flies a heap B stays: it holds what was there ahead of the call, but for the callers' frames, and what is tracked -/
structure Cov (B h : Heap) (H' : Hp) (outer : List Env) : Prop where
  old : ∀ b o, h.get? b = some o → b ∉ frs outer → ∃ o', B.get? b = some o'
  trk : ∀ b u, H' b = some u → ∃ o', B.get? b = some o'
/-- how an exception of an own class lies behind a call -/
def CXx (P : Program) (w : World) : CXT := fun outer H s E e s' => ∃ (a C t : Addr) (H' : Hp) (B : Heap) (dO : Option Addr), e = .ref a ∧ s'.os = s.os ∧ AllBare s'.gens ∧ Un (frs outer) [] H H' s.heap s'.heap ∧ HOk P w H' s'.heap ∧
  B.FlyingW outer a (.ref C) (.ref t) s'.heap ∧ Cov B s.heap H' outer ∧ CtD dO a s'.heap ∧ E (.ref C) dO H'
theorem passX {P : Program} {w : World} {X : Cx} : Passes (CXx P w) X E0 := fun _ _ _ _ _ _ _ ⟨_, _, _, _, _, _, _, _, _, _, _, _, _, _, h⟩ => h.elim
theorem funs_rebase {h base B : Heap} : ∀ {l : List Env}, h.FunFrames base l → (∀ b ∈ frs l, B.get? b = none) → h.FunFrames B l
  | [], _, _ => trivial
  | env :: r, ⟨hk, ⟨L, o, hf, hn, ho, hd⟩, hr⟩, hb => ⟨hk, ⟨L, o, hf, hb L (by unfold frs; rw [List.filterMap_cons, hf]; exact List.mem_cons_self), ho, hd⟩,
      funs_rebase hr fun b m => hb b (by unfold frs; rw [List.filterMap_cons, hf]; exact List.mem_cons_of_mem _ m)⟩
/-- a body from which exceptions of E leave -/
def Rais (X : Cx) (E : XK) : Prop := ∀ (pins : List (Addr × Obj)) (σ : St) (H : Hp) (s : Shared) (h' : Heap) (e C : Addr) (vs : List Value), Inv X pins σ H s → s.heap.MadeExcOf h' e (.ref C) vs → E (.ref C) none H → X.xe (.ref e) { s with heap := h' }
theorem rais_def {P : Program} {w : World} {K : PySem.W.Frag} {mg : Str → Option Value} {base : Heap} {N : List Str} {qual : Str} {scope : Scope} {f : Addr} {cd : Value} {A : Around} {outer : List Env} {s0 : Shared} {H0 : Hp} {E : XK} :
    Rais (cxOf (CXx P w) P w K mg base N qual scope f cd A outer s0 H0 E) E := by
  intro pins σ H s h' e C vs I M hE
  generalize hX : cxOf (CXx P w) P w K mg base N qual scope f cd A outer s0 H0 E = X at I ⊢
  have hst : X.stack = X.env :: X.outer := by rw [← hX]; rfl
  have hfr : X.env.frame = some X.env.locals := by rw [← hX]; rfl
  have hxe : X.xe = fun e s' => wpAny (model X.prog X.w) X.A (leaving X.env e) (fun _ s'' => CXx X.prog X.w X.outer X.H₀ X.s₀ E e s'') (fun e' s'' => CXx X.prog X.w X.outer X.H₀ X.s₀ E e' s'') s' := by rw [← hX]; rfl
  have hex : X.ex = [] := by rw [← hX]; rfl
  have hfs : frs X.stack = X.env.locals :: X.fs := by rw [hst]; unfold frs; rw [List.filterMap_cons, hfr]; rfl
  clear hX
  rw [hxe]
  have hB : ∀ b o, s.heap.get? b = some o → b ∉ frs X.stack → (PySem.W.hideAll s.heap (frs X.stack)).get? b = some o := fun b o e1 e2 => PySem.W.hideAll_get _ e1 e2
  refine wpAny_pres (Pres.leave (dO := none) (e := e)) (made_ct M) ?_
  refine wpAny_leaves_madeW (base := PySem.W.hideAll s.heap (frs X.stack)) (h := s.heap) (outer := X.outer) (L := X.env.locals) (by rw [I.ok.frames, hst]) hfr (fun b o e1 => PySem.W.of_hideAll _ e1)
    (funs_rebase (hst ▸ I.stack) fun b m => PySem.W.hideAll_none _ (hst ▸ m)) M fun h2 t fl _ _ up ct => ?_
  have lt0 : ∀ b o, X.s₀.heap.get? b = some o → b ≠ X.env.locals := fun b o e1 => Nat.ne_of_lt (Nat.lt_of_lt_of_le (Heap.lt_size e1) I.ok.above)
  have out : ∀ b o, X.s₀.heap.get? b = some o → b ∉ X.fs → b ∉ frs X.stack := fun b o e1 e2 z => by
    rw [hfs] at z
    exact (List.mem_cons.mp z).elim (lt0 b o e1) e2
  have ne : ∀ b, b ∉ X.ex := fun b z => by rw [hex] at z; cases z
  have stay := fl.1
  have slot : ∀ b o, s.heap.get? b = some o → b ∈ X.fs → ∃ sl, h2.get? b = some { o with slots := sl } := fun b o e1 m => by
    obtain ⟨_, o', e2, nf⟩ := I.funs.mem m
    rw [e1] at e2
    cases e2
    obtain ⟨sl, q⟩ := up b o (M.keeps b o e1) nf
    exact ⟨sl, q⟩
  have u := I.base
  rw [hex] at u
  refine ⟨e, C, t, H, _, none, rfl, I.os, I.bare, ⟨fun b o e1 e2 e3 e4 => ?_, fun b o e1 e2 e3 e4 => ?_, u.free, fun b o e1 e2 => ?_, u.tups, u.frzs, u.tbls⟩, fun b o e1 => ?_, fl, ⟨fun b o e1 e2 => ?_, fun b o e1 => ?_⟩, ct, hE⟩
  · exact stay b o (hB b o (u.keep b o e1 e2 e3 e4) (out b o e1 e3))
  · obtain ⟨sl, q⟩ := u.slot b o e1 e2 e3 e4
    obtain ⟨sl', q'⟩ := slot b _ q e3
    exact ⟨sl', q'⟩
  · obtain ⟨o', q⟩ := u.there b o e1 e2
    by_cases m : b ∈ X.fs
    · obtain ⟨sl, q'⟩ := slot b o' q m
      exact ⟨_, q'⟩
    · exact ⟨o', stay b o' (hB b o' q (out b o e1 m))⟩
  · refine (I.hok b o e1).stay (fun c v hc q => stay c v (hB c v q fun z => ?_)) (fun _ q => q) fun _ _ q => q
    have n := I.stkFree c z
    rcases hc with r | r
    · rw [r, e1] at n; cases n
    · rw [r] at n; cases n
  · obtain ⟨o', q⟩ := u.there b o e1 (by simp)
    exact ⟨o', hB b o' q (out b o e1 e2)⟩
  · obtain ⟨ob, q⟩ := (I.hok b o e1).ex
    refine ⟨ob, hB b ob q fun z => ?_⟩
    have n := I.stkFree b z
    rw [e1] at n; cases n
theorem tail_has {h : Heap} {bmB : List Value} {v : Value} (hv : bmB.contains v = true) : ∀ {l : List Value}, OwnTail h bmB l → l.contains v = true
  | _, .base => hv
  | _, .own _ _ _ t => by rw [List.contains_cons, tail_has hv t, Bool.or_true]
theorem ns_keeps {h h' : Heap} (k : ∀ b o, h.get? b = some o → h'.get? b = some o) {N : Addr} {m : Str → Option Value} (x : h.Ns N m) : h'.Ns N m := by
  obtain ⟨o, es, ep, ho, r⟩ := x
  exact ⟨o, es, ep, k _ _ ho, r⟩
theorem tail_keeps {h h' : Heap} (k : ∀ b o, h.get? b = some o → h'.get? b = some o) {bmB : List Value} : ∀ {l : List Value}, OwnTail h bmB l → OwnTail h' bmB l
  | _, .base => .base
  | _, .own a b c t => .own (k _ _ a) (ns_keeps k b) c (tail_keeps k t)
def tRaise (C : Addr) (E : XK) (t : TA) : TS := fun _ σ H => t σ H fun vs H1 => vs.length ≤ sizeLine ∧ E (.ref C) none H1
section
variable {X : Cx}
theorem ps_raise {x : Str} {C : Addr} {bmB : List Value} {B newId initId : String} {E : XK} {e : Expr} {es : List Expr} {t : TA} {np cpos pos : Pos} (R : Rais X E) (O : OwnCls x C bmB newId X.mg X.base) (F : ExcBaseFacts B newId initId bmB) (hc : X.calm = true) (hg : Gl X x) (ha : PA X (e :: es) t)
    (hdb : (x == ("__debug__" : Str)) = false := by decide) (he : starEach (e :: es) X.env = (false, eval e X.env) :: starEach es X.env := by rfl) (hpl : (backTo cpos (starEach es X.env)).any (·.1) = false := by rfl) :
    PS X (.Raise (some (.Call (.Name x np) (e :: es) [] cpos)) none pos) (tRaise C E t) := by
  intro pins s σ H D I h
  obtain ⟨bm, N, nm, q, bs, hdct, sn, sub, ab, col, dd, k0, k1, k2, k3, k5, mN, hC, hN, hi, ot⟩ := O.obj
  have eq : backTo cpos (starEach (e :: es) X.env) = (false, eval e X.env) :: backTo cpos (starEach es X.env) := by rw [he]; rfl
  have hb : (backTo cpos (starEach (e :: es) X.env)).any (·.1) = false := by rw [eq, List.any_cons, hpl]; rfl
  refine wpAny_Raise_call_subT (nm := nm) (q := q) (N := N) (bs := bs) (hdct := hdct) (sn := sn) (sub := sub) (ab := ab) (col := col) (dd := dd) (k0 := k0) (k1 := k1) (k2 := k2) (k3 := k3) (k5 := k5) F (tail_has F.hasBase ot) (I.ok.hd hc) hb hi (ld_glob I hg O.bound ⟨rfl, ?_⟩ hdb)
  have pl := ha cpos pins s σ H _ I h
  rw [eq] at pl ⊢
  refine Calls.evalArgs_plain (thn pl fun us s1 ⟨vs, H1, I1, r, z, q1⟩ => ⟨rfl, by rw [← r.length]; exact z, I1.bk _ _ hC, ns_keeps I1.bk hN, tail_keeps I1.bk ot, fun h' a M => R pins σ H1 s1 h' a C us I1 M q1⟩)
end
/-! ### caught -/
/-- an exception that was caught -/
def excD (dO : Option Addr) (C a : Addr) : HO := .ext fun h => (∃ o, h.get? a = some o ∧ o.cls = .ref C) ∧ CtD dO a h
abbrev excO (C a : Addr) : HO := excD none C a
/-- within an except suite -/
def Cx.exc (X : Cx) (a : Addr) : Cx := { X with A := X.A.mark (some (.ref a)), calm := false, xe := fun _ _ => False }
section
variable {X : Cx} {pins : List (Addr × Obj)} {σ : St} {H H' : Hp} {s s' : Shared}
theorem Cx.Ok.exc (ok : X.Ok) (a : Addr) : (X.exc a).Ok :=
  ⟨ok.mod, ok.kind, ok.glob, ok.blt, ok.above, ok.inj, ok.has, ok.cab, (fun z => nomatch z), ok.frames, ok.stk, ok.exf, ok.bs, ok.bsz, ok.noex, ok.exfs, ok.funs, ok.frf⟩
theorem Inv.exc (I : Inv X pins σ H s) (a : Addr) : Inv (X.exc a) pins σ H s := ⟨I.ok.exc a, I.os, I.bare, I.base, I.loc, I.cell, I.free, I.freeC, I.pin, I.hok, I.len⟩
theorem Inv.unexc {a : Addr} (I : Inv (X.exc a) pins σ H s) (ok : X.Ok) : Inv X pins σ H s := ⟨ok, I.os, I.bare, I.base, I.loc, I.cell, I.free, I.freeC, I.pin, I.hok, I.len⟩
theorem UpToSlots.trans {h1 h2 h3 : Heap} (a : h1.UpToSlots h2) (b : h2.UpToSlots h3) : h1.UpToSlots h3 := fun c o e nf => by
  obtain ⟨sl, e1⟩ := a c o e nf
  obtain ⟨sl', e2⟩ := b c _ e1 nf
  exact ⟨sl', e2⟩
/-- behind the landing -/
theorem Inv.land {dO : Option Addr} {B : Heap} {a C t : Addr} {h4 : Heap} {E : XK} (I : Inv X pins σ H s) (os : s'.os = s.os) (bare : AllBare s'.gens) (un : Un (frs X.stack) [] H H' s.heap s'.heap) (hok : HOk X.prog X.w H' s'.heap) (f1 : B.FlyingW X.stack a (.ref C) (.ref t) s'.heap)
    (cov : Cov B s.heap H' X.stack) (f4 : B.FlyingW X.stack a (.ref C) (.ref t) h4) (up : s'.heap.UpToSlots h4) (ct : CtD dO a h4) : Inv X pins σ (upd H' a (excD dO C a)) { s' with heap := h4 } := by
  have Bn : B.get? a = none := f1.2.1
  have ntr : ∀ b u, H' b = some u → b ≠ a := fun b u e z => by
    obtain ⟨o, q⟩ := cov.trk b u e
    rw [z, Bn] at q; cases q
  have na : ∀ b o, s.heap.get? b = some o → b ≠ a := fun b o e z => by
    subst z
    by_cases m : b ∈ frs X.stack
    · obtain ⟨_, o1, e1, nf⟩ := f4.2.2.1.mem m
      obtain ⟨oe, vs, _, _, _, e2, _, e3, _⟩ := f4.2.2.2
      rw [e1] at e2; cases e2
      exact nf vs e3
    · obtain ⟨o', q⟩ := cov.old b o e m
      rw [Bn] at q; cases q
  have fr : ∀ b o, s'.heap.get? b = some o → b ∈ frs X.stack → ∃ sl, h4.get? b = some { o with slots := sl } := fun b o e m => by
    obtain ⟨_, o1, e1, nf⟩ := f1.2.2.1.mem m
    rw [e] at e1; cases e1
    exact up b o e nf
  have same : ∀ b o ob, B.get? b = some ob → s'.heap.get? b = some o → h4.get? b = some o := fun b o ob e e1 => by
    have e2 := f1.1 b ob e
    rw [e1] at e2; cases e2
    exact f4.1 b o e
  refine I.call' (s' := { s' with heap := h4 }) (ch := []) os ⟨fun b o e n hb _ => ?_, fun b o e n hb hx => ?_, fun b o e n hx => ?_, fun b o e hx => ?_, fun b xs e => ?_, fun b o u e => ?_, fun b ps e => ?_⟩ (fun b o e => ?_) bare (fun b z => nomatch z)
  · have e1 := un.keep b o e n hb (by simp)
    obtain ⟨ob, q⟩ := cov.old b o e hb
    exact same b o ob q e1
  · obtain ⟨sl, e1⟩ := un.slot b o e n hb (by simp)
    obtain ⟨sl', e2⟩ := fr b _ e1 hb
    exact ⟨sl', e2⟩
  · rw [upd_ne (na b o e)]; exact un.free b o e n (by simp)
  · obtain ⟨o', e1⟩ := un.there b o e (by simp)
    by_cases m : b ∈ frs X.stack
    · obtain ⟨sl, q⟩ := fr b o' e1 m
      exact ⟨_, q⟩
    · obtain ⟨ob, q⟩ := cov.old b o e m
      exact ⟨_, f4.1 b ob q⟩
  · have e1 := un.tups b xs e
    rw [upd_ne (ntr b _ e1)]; exact e1
  · have e1 := un.frzs b o u e
    rw [upd_ne (ntr b _ e1)]; exact e1
  · obtain ⟨more, e1⟩ := un.tbls b ps e
    exact ⟨more, by rw [upd_ne (ntr b _ e1)]; exact e1⟩
  · by_cases z : b = a
    · subst z
      rw [upd_same] at e
      cases e
      obtain ⟨oe, _, _, _, _, e2, ⟨e3, _⟩, _⟩ := f4.2.2.2
      refine ⟨⟨⟨oe, e2, e3⟩, ct⟩, ⟨oe, e2⟩, fun h1 h2 ⟨⟨o, e5, e6⟩, ⟨o', vs, e7, e8⟩⟩ k => ⟨⟨o, k o e5, e6⟩, ⟨o', vs, k o' e7, e8⟩⟩⟩
    · rw [upd_ne z] at e
      refine (hok b o e).stay (fun c v hc q => ?_) (fun c q => by rw [upd_ne (ntr c _ q)]; exact q) fun c xs q => by rw [upd_ne (ntr c _ q)]; exact q
      obtain ⟨ob, q'⟩ : ∃ ob, B.get? c = some ob := by
        rcases hc with r | r
        · rw [r]; exact cov.trk b o e
        · exact cov.trk c _ r
      exact same c v ob q' q
end
/-- the name of the clause goes -/
theorem goes_ok {X : Cx} {pins : List (Addr × Obj)} {σ : St} {H : Hp} {s : Shared} {M : Model} {A : Around} {E : Value → Shared → Prop} {i : Nat} {n : Str} {pos : Pos} {Q : Unit → Shared → Prop} (I : Inv X pins σ H s) (hN : X.N.Nodup) (hi : X.N[i]? = some n) (hx : X.env.scope.names.lookup n = some .local)
    (h : ∀ s', Inv X pins (σ.set i none) H s' → Q () s') : wpAny M A (do bindName X.env n Value.none; unbindBehindTheSuite X.env n pos) Q E s := by
  obtain ⟨m, hn, hl⟩ := id I.loc
  have hcls : (X.env.scope.kind == .class || (X.env.scope.kind == .module && X.env.locals != X.env.globals)) = false := by rw [I.ok.kind]; rfl
  have cne := I.cne
  refine wpAny_nameGoes_keeps hx hn hcls fun h' v hn' hs => ?_
  obtain ⟨oL, _, _, hoL, _⟩ := id hn
  refine h _ ⟨I.ok, I.os, I.bare, ⟨fun b o e n hb hx => ?_, fun b o e n hb hx => ?_, I.base.free, fun b o e hx => ?_, I.base.tups, I.base.frzs, I.base.tbls⟩, ⟨_, hn', fun j y v' e1 e2 e3 => ?_⟩, fun y c e => ?_, I.free, I.freeC, fun p hp => ?_, fun b ob e => ?_, by simpa using I.len⟩
  · exact (hs.2 b (Nat.ne_of_lt (Nat.lt_of_lt_of_le (Heap.lt_size e) I.ok.above))).trans (I.base.keep b o e n hb hx)
  · obtain ⟨sl, e1⟩ := I.base.slot b o e n hb hx
    exact ⟨sl, (hs.2 b (Nat.ne_of_lt (Nat.lt_of_lt_of_le (Heap.lt_size e) I.ok.above))).trans e1⟩
  · obtain ⟨o', e1⟩ := I.base.there b o e hx
    exact ⟨o', (hs.2 b (Nat.ne_of_lt (Nat.lt_of_lt_of_le (Heap.lt_size e) I.ok.above))).trans e1⟩
  · have hj : j ≠ i := fun z => by
      subst z
      have : j < σ.length := by rw [I.len]; exact (List.getElem?_eq_some_iff.mp e1).1
      rw [List.getElem?_set_self this] at e2
      cases e2
    rw [List.getElem?_set_ne (Ne.symm hj)] at e2
    obtain ⟨u', r', q⟩ := hl j y v' e1 e2 e3
    refine ⟨u', r', ?_⟩
    rcases q with ⟨k, e⟩ | ⟨k, c, e, z⟩
    · refine .inl ⟨k, ?_⟩
      have : y ≠ n := fun e => hj (nodup_ix hN e1 (e ▸ hi))
      simp [this, e]
    · exact .inr ⟨k, c, e, z.sameBut hs (cne y c e)⟩
  · obtain ⟨w', z⟩ := I.cell y c e
    exact ⟨w', z.sameBut hs (cne y c e)⟩
  · obtain ⟨e, n, ne, nf, d⟩ := I.pin p hp
    exact ⟨(hs.2 p.1 ne).trans e, n, ne, nf, d⟩
  · refine (I.hok b ob e).stay (fun c w' hc q => (hs.2 c ?_).trans q) (fun _ q => q) fun _ _ q => q
    rintro rfl
    have hfree := I.free
    rcases hc with rfl | hc
    · rw [hfree] at e; cases e
    · rw [hfree] at hc; cases hc
/-- try: f(..) except C as n: suite -/
def tTry (sp : Sp) (K : PySem.W.Frag) (c : Value) (i : Nat) (t : TA) (ts : Addr → TS) : TS := fun D σ H => t σ H fun vs H1 => sp vs H1 (fun _ H2 => D.nx σ H2) fun cls dO H2 =>
  ∃ C, cls = .ref C ∧ PySem.W.exmOne K (.ref C) c = some true ∧ ∀ a, H2 a = none → ts a { nx := fun σ' H' => D.nx (σ'.set i none) H', rt := D.rt, bk := fun σ' H' => D.bk (σ'.set i none) H', ct := fun σ' H' => D.ct (σ'.set i none) H' } (σ.set i (some (.ref a))) (upd H2 a (excD dO C a))
theorem ps_try {X : Cx} {k : Nat} {f : Addr} {fd : FuncData} {ps : List Str} {sp : Sp} {x cx n : Str} {c : Value} {i : Nat} {e : Expr} {es : List Expr} {b₀ : Stmt} {suite : List Stmt} {t : TA} {ts : Addr → TS} {p cpos epos np hpos pos : Pos}
    (hst : X.stack = X.env :: X.outer) (hfr : X.env.frame = some X.env.locals) (F : FnOk X.prog X.w X.K X.mg X.base (CXx X.prog X.w) k f fd ps sp) (hr : Room k X.A) (hg : Gl X x) (hm : X.mg x = some (.ref f)) (hk : PySem.W.keepIn X.K (.ref f) = true) (hb : Binds X.K fd ps [])
    (ha : PA X.nox (e :: es) t) (hgc : Gl X cx) (hmc : X.mg cx = some c) (hN : X.N.Nodup) (hi : X.N[i]? = some n) (hl : X.env.scope.names.lookup n = some .local) (hs : ∀ a, PSs (X.exc a) (b₀ :: suite) (ts a))
    (hdb : (x == ("__debug__" : Str)) = false := by decide) (hdc : (cx == ("__debug__" : Str)) = false := by decide) (he : starEach (e :: es) X.env = (false, eval e X.env) :: starEach es X.env := by rfl) (hpl : (backTo cpos (starEach es X.env)).any (·.1) = false := by rfl) :
    PS X (.Try [.Expr (.Call (.Name x p) (e :: es) [] cpos) epos] [.ExceptHandler (some (.Name cx np)) (some n) (b₀ :: suite) hpos] [] [] pos) (tTry sp X.K c i t ts) := by
  intro pins s σ H D I h
  generalize hE : (fun (cls : Value) (dO : Option Addr) (H2 : Hp) => ∃ C, cls = Value.ref C ∧ PySem.W.exmOne X.K (.ref C) c = some true ∧ ∀ a, H2 a = none → ts a { nx := fun σ' H' => D.nx (σ'.set i none) H', rt := D.rt, bk := fun σ' H' => D.bk (σ'.set i none) H', ct := fun σ' H' => D.ct (σ'.set i none) H' } (σ.set i (some (.ref a))) (upd H2 a (excD dO C a))) = E1
  have h' : t σ H fun vs H1 => sp vs H1 (fun _ H2 => D.nx σ H2) E1 := by rw [← hE]; exact h
  have run : wpAny (model X.prog X.w) X.A (eval (.Call (.Name x p) (e :: es) [] cpos) X.env) (EP X pins σ fun _ H2 => D.nx σ H2) (fun ev s' => ∃ H1 s1, Inv X pins σ H1 s1 ∧ CXx X.prog X.w X.stack H1 s1 E1 ev s') s := by
    refine wpAny_Call_Name_kw (ld_glob I hg hm ?_ hdb)
    refine PySem.W.callWith_K (h₀ := X.base) I.ok.mod.kin hk (wpAny_mono (ha cpos pins s σ H _ (I.wish _) h') (fun us s1 ⟨vs, H1, I1, r, q⟩ => ⟨I1.kIn, ?_⟩) fun _ _ z => False.elim z) he hpl
    have I1 := I1.unwish
    have r2 : Vals (vs ++ []) (us ++ []) := r.append .nil
    have q2 : sp (vs ++ []) H1 (fun _ H2 => D.nx σ H2) E1 := by rw [List.append_nil]; exact q
    have hlen : (us ++ []).length = ps.length := by rw [← r2.length]; exact F.len _ _ _ _ q2
    refine wpAny_call (codeAny_mono (F.run X.A X.stack s1 H1 ⟨us, []⟩ (us ++ []) (vs ++ []) _ E1 hr I1.env0 (hb s1 us I1.kIn hlen) r2 q2) fun r s' hq => ?_)
    cases r with
    | error ev => exact ⟨H1, s1, I1, hq⟩
    | ok fl =>
      cases fl with
      | ret u => exact I1.after hq
      | next => exact False.elim hq
      | brk => exact False.elim hq
      | cont => exact False.elim hq
  refine wpAny_Try_except (wpAny_execs_cons (wpAny_Expr_any (wpAny_mono run (fun v s1 ⟨_, H1, I1, _, q⟩ => wpAny_execs_nil (wpAny_execs_nil ⟨σ, H1, I1, q⟩)) fun ev s' ⟨H1, s1, I1, hx⟩ => ?_) I.quiet (by rfl)))
  obtain ⟨a, C, t0, H2, B, dO, rfl, os, bare, un, hok, fl, cov, ct, hE1⟩ := hx
  rw [← hE] at hE1
  obtain ⟨C', eC, hx, q⟩ := hE1
  cases eC
  have Hn : H2 a = none := by
    cases z : H2 a with
    | none => rfl
    | some u =>
      obtain ⟨o, e'⟩ := cov.trk a u z
      rw [fl.2.1] at e'; cases e'
  have fl' := fl
  rw [hst] at fl'
  refine wpAny_pres (Pres.note (e := a)) ct ?_
  refine wpAny_looks_onW (base := B) (env := X.env) (outer := X.outer) (by rw [I.ok.frames, hst]) hfr fl' fun h2 held up2 ct2 => ?_
  refine wpAny_pres (Pres.flight (e := a)) ct2 ?_
  refine wpAny_landsW held fun h3 fl3 up3 ct3 => ?_
  have fl3' := fl3
  rw [← hst] at fl3'
  have I3 : Inv X pins σ (upd H2 a (excD dO C a)) { s' with heap := h3 } := I1.land (E := E1) os bare un hok fl cov fl3' (UpToSlots.trans up2 up3) ct3
  refine wpAny_handleBy_cons (codeAny_handlers_test (ld_glob (X := X.exc a) (I3.exc a) hgc hmc ?_ hdc)) (fun z => nomatch z)
  obtain ⟨oe, e1, e2⟩ := Heap.FlyingW.there fl3
  refine PySem.W.exm_one (K := X.K) (h := h3) (cls := .ref C) I3.kIn (fun A Q E s k hq => wpAny_typeOf_ref (k _ _ e1) (by rw [e2]; exact hq)) hx _ _ _ _ (fun b o e => e) ?_
  refine codeAny_handlers_suite_as (wpAny_pres (Pres.flight (e := a)) ct3 (lands_againW fl3 fun h4 fl4 up4 ct4 => ?_))
  have fl4' := fl4
  rw [← hst] at fl4'
  have I4 : Inv X pins σ (upd H2 a (excD dO C a)) { s' with heap := h4 } := I1.land (E := E1) os bare un hok fl cov fl4' (UpToSlots.trans (UpToSlots.trans up2 up3) up4) ct4
  refine store_ok I4 hN hi (.inl hl) (show RelV (.ref a) (.ref a) from rfl) (fun s5 I5 => ?_) (.inr hl)
  refine wpAny_mono (hs a pins s5 _ _ _ (I5.exc a) (q a Hn)) (fun fw s6 h6 => ?_) (fun _ _ z => False.elim z)
  cases fw with
  | next => obtain ⟨σ6, H6, I6, q6⟩ := h6; exact goes_ok (I6.unexc I.ok) hN hi hl fun s7 I7 => ⟨_, _, I7, q6⟩
  | brk => obtain ⟨σ6, H6, I6, q6⟩ := h6; exact goes_ok (I6.unexc I.ok) hN hi hl fun s7 I7 => ⟨_, _, I7, q6⟩
  | cont => obtain ⟨σ6, H6, I6, q6⟩ := h6; exact goes_ok (I6.unexc I.ok) hN hi hl fun s7 I7 => ⟨_, _, I7, q6⟩
  | ret u => obtain ⟨v6, σ6, H6, I6, r6, q6⟩ := h6; exact goes_ok (I6.unexc I.ok) hN hi hl fun s7 I7 => ⟨v6, _, _, I7, r6, q6⟩
end L2

set_option Elab.async false
set_option linter.all false
set_option maxRecDepth 100000
set_option maxHeartbeats 4000000
/-! Within an except suite, and in what it calls. -/
namespace L2
open PySem PySem.Spec PyProof.Rows
section
variable {X : Cx} {tg : Expr}
def RIE (X : Cx) (pins : List (Addr × Obj)) (σ : St) (R : It → Hp → Prop) (itv : Value) (s2 : Shared) : Prop :=
  ∃ (it : Addr) (n : Nat) (H' : Hp), itv = .ref it ∧ Inv X pins σ H' s2 ∧ IsRangeIter s2.heap it (0 + ((0 : Nat) : Int) * 1) ((n : Int) - ((0 : Nat) : Int)) 1 ∧ FpOk X pins H' it ∧ R (Itr 0 n) H'
/-- for x in range(n), while the exception at a is handled -/
def tForH (a : Addr) (ta : TA) (g : TG) (tb : TS) : TS := fun D σ H => tFor (iRng1 ta) g tb { D with nx := fun σ H => (∃ C, H a = some (excO C a)) ∧ D.nx σ H } σ H
end
/-! ### a def that is called while the exception at a is handled -/
structure RoomH (a : Addr) (k : Nat) (A : Around) : Prop where
  hd : A.handled = some (.ref a)
  dp : A.depth + 3 * k + 5 < recursionLimit
  un : A.units + 16 * k + 200 < cLine
theorem RoomH.deeper {a : Addr} {k : Nat} {A : Around} (r : RoomH a (k + 1) A) (env : Env) : RoomH a k (A.deeper env) :=
  ⟨r.hd, by have := r.dp; show A.depth + 1 + 3 * k + 5 < _; omega, by have := r.un; show A.units + 3 + 16 * k + 200 < _; omega⟩
theorem RoomH.of {a : Addr} {k : Nat} {A : Around} (r : Room k A) : RoomH a k (A.mark (some (.ref a))) := ⟨rfl, r.dp, r.un⟩
structure FnOkH (P : Program) (w : World) (K : PySem.W.Frag) (mg : Str → Option Value) (base : Heap) (a : Addr) (k : Nat) (f : Addr) (fd : FuncData) (ps : List Str) (sp : Sp) : Prop where
  len : ∀ vs H Q E, sp vs H Q E → vs.length = ps.length
  run : ∀ (A : Around) (outer : List Env) (s : Shared) (H : Hp) (args : Args) (us : List Value) (vs : List V) (Q : VK) (E : XK), RoomH a k A → Env0 P w K mg base A outer s H → BindsTo s fd args (ps.zip us) → Vals vs us → sp vs H Q E →
    codeAny (model P w) A (.call (.ref f) args) (CR CX0 outer P w H s Q E) s
def cxH (P : Program) (w : World) (K : PySem.W.Frag) (mg : Str → Option Value) (base : Heap) (N : List Str) (qual : Str) (scope : Scope) (f : Addr) (cd : Value) (A : Around) (outer : List Env) (s : Shared) (H : Hp) (E : XK) : Cx :=
  { cxOf CX0 P w K mg base N qual scope f cd A outer s H E with calm := false, xe := fun _ _ => False }
theorem fnH_of {P : Program} {w : World} {K : PySem.W.Frag} {mg : Str → Option Value} {base : Heap} {a : Addr} {k : Nat} {f : Addr} {name qual : Str} {params : Arguments} {body : List Stmt} {scope : Scope} {dV kV doc pm cdv ct oc : Value} {an od : Option Addr}
    {osl : Array (Option Value)} {N ps : List Str} {sp : Sp} (lk : K.lookup f = some ⟨oc, od, .func (PySem.W.fnOf name qual params body scope dV kV doc pm an cdv ct), osl⟩) (hcd : PySem.W.codeIn K cdv qual = true) (S : FnScope N ps scope)
    (len : ∀ vs H Q E, sp vs H Q E → vs.length = ps.length)
    (hbody : ∀ (A : Around) (outer : List Env) (s : Shared) (H : Hp) (vs : List V) (Q : VK) (E : XK), RoomH a k (A.deeper (envOfC qual scope s.heap.objs.size f cdv)) → sp vs H Q E →
      ∃ t, PSs (cxH P w K mg base N qual scope f cdv A outer s H E) body t ∧ t { nx := fun _ H' => Q .non H', rt := Q } (start N vs) H) :
    FnOkH P w K mg base a (k + 1) f (PySem.W.fnOf name qual params body scope dV kV doc pm an cdv ct) ps sp := by
  refine ⟨len, fun A outer s H args us vs Q E hr e0 hb r hsp => ?_⟩
  have hl := len _ _ _ _ hsp
  have KX : K.In s.heap := e0.mod.kin.keeps fun b o e => (e0.bs b o e).1
  have lim : s.heap.NoLimit := e0.mod.nolimit.keeps fun b o e => (e0.bs b o e).1
  have hkind : ∀ y ∈ ps.zip us, scope.names.lookup y.1 = some .local ∨ (scope.names.lookup y.1 = some .cell ∧ ((cellsFrom (s.heap.objs.size + 1) scope.names []).lookup y.1).isSome = true) := fun ⟨n, v⟩ hy => by
    rcases S.par n (List.of_mem_zip hy).1 with q | q
    · exact .inl q
    · exact .inr ⟨q, PySem.W.cellsFrom_some _ _ _ (.inl q)⟩
  refine codeAny_call_function (by have := hr.dp; omega) (KX _ _ lk) rfl S.co S.gen rfl (PySem.W.codeRec_of KX hcd) (hb _ _ _ _ ?_)
  refine wpAny_newFunctionEnv_cells S.kind hkind fun env he s1 x => ?_
  subst he
  refine ⟨lim.keeps x.toInCall.keep, codeAny_func ?_⟩
  obtain ⟨t, ht, hq⟩ := hbody A outer s H vs Q E (hr.deeper _) hsp
  have e1 : Env0 P w K mg base { A with handled := none } outer s H := ⟨e0.frames, e0.mod, e0.bs, e0.bsz, e0.funs, e0.frf, e0.hok, e0.bare⟩
  have I0 := inv_start (CX := CX0) (E := E) (f := f) (qual := qual) (cd := cdv) S (A := { A with handled := none }) rfl e1 hl r x
  have ok0 := I0.ok
  have I : Inv (cxH P w K mg base N qual scope f cdv A outer s H E) [] (start N vs) H s1 :=
    ⟨⟨ok0.mod, ok0.kind, ok0.glob, ok0.blt, ok0.above, ok0.inj, ok0.has, ok0.cab, (fun z => nomatch z), Around.frames_deeper e0.frames, ok0.stk, ok0.exf, ok0.bs, ok0.bsz, ok0.noex, ok0.exfs, ok0.funs, ok0.frf⟩, I0.os, I0.bare, I0.base, I0.loc, I0.cell, I0.free, I0.freeC, I0.pin, I0.hok, I0.len⟩
  refine wpAny_mono (ht [] s1 (start N vs) H _ I hq) (fun fl s' hs => ?_) fun e s' hs => False.elim hs
  have fin : ∀ {σ' : St} {H' : Hp} {v : V} {u : Value}, Inv (cxH P w K mg base N qual scope f cdv A outer s H E) [] σ' H' s' → RelV v u → Q v H' → CE outer P w H s Q u s' :=
    fun {σ' H' v u} J rv q => ⟨v, H', J.os, J.bare, J.base, J.hok, rv, q⟩
  cases fl with
  | ret u =>
    obtain ⟨v, σ', H', J, rv, q⟩ := hs
    exact fin J rv q
  | next =>
    obtain ⟨σ', H', J, q⟩ := hs
    exact fin (v := V.non) (u := Value.none) J rfl q
  | brk =>
    obtain ⟨_, _, _, q⟩ := hs
    exact False.elim q
  | cont =>
    obtain ⟨_, _, _, q⟩ := hs
    exact False.elim q
/-- f(..) within the suite -/
theorem pe_callH {X : Cx} {a : Addr} {k : Nat} {f : Addr} {fd : FuncData} {ps : List Str} {sp : Sp} {x : Str} {e : Expr} {es : List Expr} {t : TA} {p pos : Pos} (F : FnOkH X.prog X.w X.K X.mg X.base a k f fd ps sp) (hr : RoomH a k X.A) (hg : Gl X x) (hm : X.mg x = some (.ref f)) (hk : PySem.W.keepIn X.K (.ref f) = true) (hb : Binds X.K fd ps [])
    (ha : PA X (e :: es) t) (hdb : (x == ("__debug__" : Str)) = false := by decide) (he : starEach (e :: es) X.env = (false, eval e X.env) :: starEach es X.env := by rfl) (hpl : (backTo pos (starEach es X.env)).any (·.1) = false := by rfl) :
    PE X (.Call (.Name x p) (e :: es) [] pos) (tCall sp [] E0 t) := by
  intro pins s σ H Q I h
  refine wpAny_Call_Name_kw (ld_glob I hg hm ?_ hdb)
  refine PySem.W.callWith_K (h₀ := X.base) I.ok.mod.kin hk (thn (ha pos pins s σ H _ I h) fun us s1 ⟨vs, H1, I1, r, q⟩ => ⟨I1.kIn, ?_⟩) he hpl
  have r2 : Vals (vs ++ []) (us ++ []) := r.append .nil
  have hl : (us ++ []).length = ps.length := by rw [← r2.length]; exact F.len _ _ _ _ q
  refine wpAny_call (codeAny_mono (F.run X.A X.stack s1 H1 ⟨us, []⟩ (us ++ []) (vs ++ []) Q E0 hr I1.env0 (hb s1 us I1.kIn hl) r2 q) fun r s' hq => ?_)
  cases r with
  | error e => exact False.elim hq
  | ok fl =>
    cases fl with
    | ret u => exact I1.after hq
    | next => exact False.elim hq
    | brk => exact False.elim hq
    | cont => exact False.elim hq
/-! ### isinstance(e, c) of a caught exception -/
theorem exc_class {prog : Program} {w : World} {A : Around} {E : Value → Shared → Prop} {s : Shared} {K : PySem.W.Frag} {a C N : Addr} {o : Obj} {bs bm bmB : List Value} {nm q : Str} {hdct : Bool} {sn : List Str} {sub : List Value} {ab : Bool} {col : Option Bool} {dd : Option Addr} {k0 k1 k2 k3 k5 : Option Value} {B newId : String} {Q : Option Value → Shared → Prop}
    (X : K.In s.heap) (I : PySem.W.InstAt s.heap a o C none) (hga : PySem.W.findIn K (.ref C) "__getattribute__" = some (some (.builtin "BaseException.__getattribute__"))) (hgt : PySem.W.findIn K (.ref C) "__getattr__" = some none)
    (hf : PySem.W.findObj K C none "__class__" = some (.bind (.builtin "getset_descriptor.__get__") (.builtin "object.__class__"))) (hm : PySem.W.mroIn K C (.type "object") = some true) (FB : ExcAttrBase B bmB)
    (hC : s.heap.get? C = some (excClassObj nm q C N bs bm hdct sn sub ab col dd k0 k1 k2 k3 k5 newId)) (T : OwnTailQ s.heap bmB bm) (hq : Q (some (.ref C)) { s with toks := s.toks + 1 }) : wpAny (model prog w) A (getAttr? (.ref a) "__class__") Q E s := by
  obtain ⟨h, g, d, t, os⟩ := s
  unfold getAttr?
  refine wpAny_bind (wpAny_mkText ?_)
  unfold getAttrBy?
  refine wpAny_bind (wpAny_attempt ?_)
  unfold getAttrBy
  refine wpAny_holding (wpAny_bind (PySem.W.Looks.at (PySem.W.InstAt.type I) (wpAny_bind (PySem.W.Looks.at (PySem.W.looks_findIn X hga) ?_))))
  refine wpAny_ite_false (by rfl) ?_
  unfold getAttrByItsOwn hookBefore
  refine wpAny_bind (wpAny_ite_true (by rfl) (PySem.W.Looks.at (PySem.W.looks_findIn X hgt) (wpAny_bind (wpAny_attempt (wpAny_holding ?_)))))
  unfold callGetattribute boundAndCalled
  refine wpAny_ite_false (by rfl) (wpAny_bind (wpAny_of_eq (FB.ga.bind (Value.ref a)) (wpAny_call (codeAny_call_builtin FB.ga.plain F.entry_bexc_ga (wpAny_check_ga_own FB hC T I.at_ I.cls ?_)))))
  unfold Builtin.«object.__getattribute__»
  refine wpAny_bind ?_
  unfold slotArgs
  refine wpAny_ite_false (by rfl) (wpAny_ite_false (by rfl) (wpAny_pure ?_))
  show wpAny _ _ (Bind.bind (Builtin.ObjectAttr.attrName (Value.str (Str.ofString "__class__") _)) _) _ _ _
  refine wpAny_bind ?_
  unfold Builtin.ObjectAttr.attrName
  refine wpAny_pure ?_
  refine wpAny_bind (PySem.W.Looks.at (PySem.W.InstAt.type I) (wpAny_bind (PySem.W.Looks.at (PySem.W.looks_find X I hf) ?_)))
  unfold Builtin.ObjectAttr.bindTo
  refine wpAny_bind (wpAny_holding (wpAny_call (PySem.W.class_get X I hm ?_)))
  refine wpAny_pure ?_
  refine PySem.W.handed_on rfl ?_
  exact wpAny_pure hq
/-- what is asked of an own exception class, by the text's own table -/
structure ExcK (K : PySem.W.Frag) (C : Addr) : Prop where
  ga : PySem.W.findIn K (.ref C) "__getattribute__" = some (some (.builtin "BaseException.__getattribute__"))
  gt : PySem.W.findIn K (.ref C) "__getattr__" = some none
  fo : PySem.W.findObj K C none "__class__" = some (.bind (.builtin "getset_descriptor.__get__") (.builtin "object.__class__"))
  mro : PySem.W.mroIn K C (.type "object") = some true
  lk : ∃ c dd cd sl, K.lookup C = some ⟨c, dd, .cls cd, sl⟩
  own : ∃ B bmB, ExcAttrBase B bmB ∧ ∀ h : Heap, K.In h → ∃ nm q N bs bm hdct sn sub ab col dd k0 k1 k2 k3 k5 newId, h.get? C = some (excClassObj nm q C N bs bm hdct sn sub ab col dd k0 k1 k2 k3 k5 newId) ∧ OwnTailQ h bmB bm
def ExcH (C a : Addr) (h : Heap) : Prop := (∃ o, h.get? a = some o ∧ o.cls = .ref C) ∧ Ct0 a h
theorem ExcH.inst {C a : Addr} {h : Heap} (x : ExcH C a h) : ∃ o, PySem.W.InstAt h a o C none := by
  obtain ⟨⟨o, e1, e2⟩, o', vs, e3, ⟨e4, e5⟩, _⟩ := x
  rw [e1] at e3
  cases e3
  exact ⟨o, e1, e2, by unfold PySem.W.notCls; rw [e5], by rw [e4]; trivial⟩
theorem kitx_exc {K : PySem.W.Frag} {C a : Addr} (k : ExcK K C) : PySem.W.KitX K (.ref a) (.ref C) (ExcH C a) := by
  obtain ⟨c, dd, cd, sl, lk⟩ := k.lk
  refine ⟨fun M h _ x => ?_, fun M h X _ A Q E s kp hq => ?_, fun h tp dd' its n sl' X htp => ?_, fun {prog w A E Q s} X x hq => ?_⟩
  · obtain ⟨o, I⟩ := x.inst
    exact PySem.W.InstAt.type I
  · exact wpAny_bind (wpAny_loadPart (kp C _ (X C _ lk)) (wpAny_pure hq))
  · refine Bool.eq_false_iff.mpr fun q => ?_
    have e := Value.ref.inj (beq_iff_eq.mp q)
    subst e
    rw [X C _ lk] at htp
    cases htp
  · obtain ⟨o, I⟩ := x.inst
    obtain ⟨B, bmB, FB, ow⟩ := k.own
    obtain ⟨nm, q, N, bs, bm, hdct, sn, sub, ab, col, dd, k0, k1, k2, k3, k5, newId, hC, T⟩ := ow s.heap X
    exact exc_class X I k.ga k.gt k.fo k.mro FB hC T hq
def rIsiE (K : PySem.W.Frag) : List V → Hp → VK → Prop := fun xs H Q => ∃ a C c cv b, xs = [.ref a, c] ∧ H a = some (excO C a) ∧ ExcK K C ∧ ((∃ T, c = .ty T ∧ cv = Value.type T) ∨ ∃ D, c = .ref D ∧ cv = Value.ref D) ∧ PySem.W.kitOne K (.ref C) cv = some b ∧ Q (.bl b) H
theorem call_isiE {X : Cx} : CallR X (.builtin "isinstance") (rIsiE X.K) := by
  intro pins s σ H xs us Q I r h
  obtain ⟨a, C, c, cv, b, rfl, hC, k, hc, e, q⟩ := h
  obtain ⟨u, w, rfl, rx, rw'⟩ := Vals.two r
  cases (show u = Value.ref a from rx)
  have ew : w = cv := by
    rcases hc with ⟨T, rfl, rfl⟩ | ⟨D, rfl, rfl⟩
    · exact rw'
    · exact rw'
  subst ew
  have hx : ExcH C a s.heap := (I.hok a _ hC).1
  exact PySem.W.kia_one (kitx_exc k) I.kIn hx e (fun z => nomatch z) fun tk => ⟨.bl b, H, I.tok tk, rfl, q⟩
end L2

set_option Elab.async false
set_option linter.all false
set_option maxRecDepth 100000
set_option maxHeartbeats 4000000
/-! What the table of a text says of its exception classes. -/
namespace L2
open PySem PySem.Spec PyProof.Rows
section
variable {K : PySem.W.Frag} {C D R N : Addr} {dd : Option Addr} {cd : ClassData} {sl : Array (Option Value)} {b : Bool}
theorem cls_kit (lk : K.lookup D = some ⟨.type "type", dd, .cls cd, sl⟩) (m : PySem.W.mroIn K C (.ref D) = some b) : PySem.W.kitCls K (.ref C) (.ref D) = some b := by
  have e1 : PySem.W.clsIn K D = some cd := by unfold PySem.W.clsIn; rw [lk]
  have e2 : PySem.W.typeIn K (.ref D) = some (.type "type") := by show Option.map (fun x => x.cls) (List.lookup D K) = _; rw [lk]; rfl
  show (if ((PySem.W.clsIn K D).isSome && PySem.W.typeIn K (Value.ref D) == some (Value.type "type")) = true then PySem.W.subIn K (Value.ref C) (Value.ref D) else none) = some b
  rw [e1, e2]
  rw [if_pos (by simp)]
  exact m
theorem kit_other (ne : (Value.ref C == Value.ref D) = false) (lk : K.lookup D = some ⟨.type "type", dd, .cls cd, sl⟩) (m : PySem.W.mroIn K C (.ref D) = some b) : PySem.W.kitOne K (.ref C) (.ref D) = some b := by
  unfold PySem.W.kitOne
  rw [if_neg (by rw [ne]; exact Bool.false_ne_true)]
  exact cls_kit lk m
theorem kit_self : PySem.W.kitOne K (.ref C) (.ref C) = some true := by
  unfold PySem.W.kitOne
  rw [if_pos (beq_self_eq_true _)]
theorem kit_type {T : String} (mt : PySem.W.kitMeta T = true) (m : PySem.W.mroIn K C (.type T) = some b) : PySem.W.kitOne K (.ref C) (.type T) = some b := by
  unfold PySem.W.kitOne PySem.W.kitCls
  rw [if_neg (by exact fun z => nomatch (beq_iff_eq.mp z))]
  simp only [mt, if_true]
  exact m
theorem exm_own (lk : K.lookup R = some ⟨.type "type", dd, .cls cd, sl⟩) (m : PySem.W.mroIn K C (.ref R) = some b) (e : PySem.W.mroIn K R (.type "BaseException") = some true) : PySem.W.exmOne K (.ref C) (.ref R) = some b := by
  unfold PySem.W.exmOne
  rw [if_pos (by show (PySem.W.mroIn K R (.type "BaseException") == some true) = true; rw [e]; rfl)]
  exact cls_kit lk m
theorem find_none {name : Str} {a g : Value} (lk : K.lookup C = some ⟨.type "type", dd, .cls cd, sl⟩) (h1 : PySem.W.findIn K (.ref C) name = some (some a)) (h2 : PySem.W.specialIn K a "__get__" = some (some g)) (h3 : PySem.W.takesIn K a = some true) : PySem.W.findObj K C none name = some (.bind g a) := by
  have e1 : PySem.W.clsIn K C = some cd := by unfold PySem.W.clsIn; rw [lk]
  unfold PySem.W.findObj
  simp only [e1, h1, h2, h3, Option.bind_some]
end
def strKeys (es : Array DictEntry) : Bool := es.toList.all fun e => match e.key with | .str _ _ => true | _ => false
theorem nsOk_of {K : PySem.W.Frag} {N : Addr} {c : Value} {d : Option Addr} {es : Array DictEntry} {ep : Nat} {sl : Array (Option Value)} (lk : K.lookup N = some ⟨c, d, .dict es ep, sl⟩) (h : strKeys es = true) : PySem.W.nsOkIn K N = true := by
  unfold PySem.W.nsOkIn
  rw [lk]
  unfold strKeys at h
  rw [Array.all_toList] at h
  exact h
theorem quiet4 {P : Str → Prop} (h1 : P "__init__") (h2 : P "__getattribute__") (h3 : P "__getattr__") (h4 : P "args") : ∀ n ∈ quietNames, P n := fun n hn => by
  unfold quietNames at hn
  simp only [List.mem_cons, List.not_mem_nil, or_false] at hn
  rcases hn with rfl | rfl | rfl | rfl <;> assumption
/-- a class C(R) of exceptions, R(B): by the equations of the table -/
theorem exc_facts {K : PySem.W.Frag} {C R N NR : Addr} {nm q x : Str} {bs bmB : List Value} {hdct : Bool} {sn : List Str} {sub : List Value} {ab : Bool} {col : Option Bool} {dd dR : Option Addr} {k0 k1 k2 k3 k5 : Option Value} {newId B : String} {cR : Value} {cdR : ClassData} {slR : Array (Option Value)} {mg : Str → Option Value} {base : Heap}
    (KX : K.In base) (G : base.Ns mainGlobals mg) (e0 : PySem.W.nsIn K mainGlobals x = some (some (.ref C))) (lkC : K.lookup C = some (excClassObj nm q C N bs (.ref R :: bmB) hdct sn sub ab col dd k0 k1 k2 k3 k5 newId)) (lkR : K.lookup R = some ⟨cR, dR, .cls cdR, slR⟩)
    (nC : PySem.W.nsOkIn K N = true) (iC : PySem.W.nsIn K N "__init__" = some none) (eR : cdR.ns = NR) (nR : PySem.W.nsOkIn K NR = true) (r1 : PySem.W.nsIn K NR "__init__" = some none) (r2 : PySem.W.nsIn K NR "__getattribute__" = some none) (r3 : PySem.W.nsIn K NR "__getattr__" = some none) (r4 : PySem.W.nsIn K NR "args" = some none)
    (FB : ExcAttrBase B bmB) (ga : PySem.W.findIn K (.ref C) "__getattribute__" = some (some (.builtin "BaseException.__getattribute__"))) (gt : PySem.W.findIn K (.ref C) "__getattr__" = some none) (gc : PySem.W.findIn K (.ref C) "__class__" = some (some (.builtin "object.__class__")))
    (sp : PySem.W.specialIn K (.builtin "object.__class__") "__get__" = some (some (.builtin "getset_descriptor.__get__"))) (tk : PySem.W.takesIn K (.builtin "object.__class__") = some true) (mr : PySem.W.mroIn K C (.type "object") = some true) : OwnCls x C bmB newId mg base ∧ ExcK K C := by
  subst eR
  refine ⟨⟨PySem.W.mg_of KX G e0, ?_⟩, ⟨ga, gt, find_none lkC gc sp tk, mr, ⟨_, _, _, _, lkC⟩, B, bmB, FB, fun h X => ?_⟩⟩
  · exact ⟨_, N, nm, q, bs, hdct, sn, sub, ab, col, dd, k0, k1, k2, k3, k5, _, KX _ _ lkC, Heap.Ns.of_isNs (PySem.W.isNs_of_in KX nC), PySem.W.nsMap_none_of_in KX nC iC,
      .own (KX _ _ lkR) (Heap.Ns.of_isNs (PySem.W.isNs_of_in KX nR)) (PySem.W.nsMap_none_of_in KX nR r1) .base⟩
  · exact ⟨nm, q, N, bs, _, hdct, sn, sub, ab, col, dd, k0, k1, k2, k3, k5, newId, X _ _ lkC, .own (X _ _ lkR) (Heap.Ns.of_isNs (PySem.W.isNs_of_in X nR))
      (quiet4 (PySem.W.nsMap_none_of_in X nR r1) (PySem.W.nsMap_none_of_in X nR r2) (PySem.W.nsMap_none_of_in X nR r3) (PySem.W.nsMap_none_of_in X nR r4)) .base⟩
end L2

set_option Elab.async false
set_option linter.all false
set_option maxRecDepth 100000
set_option maxHeartbeats 4000000
/-! Defs that raise, and defs called in an except suite, as bundles. -/
namespace L2
open PySem PySem.Spec PyProof.Rows
/-- a def from which exceptions of one's own may leave -/
structure DefX (P : Program) (w : World) (K : PySem.W.Frag) (mg : Str → Option Value) (base : Heap) (k : Nat) (x : Str) (st : Stmt) (ps : List Str) (sp : Sp) : Prop where
  ex : ∃ f fd, Fun K x x st f fd ∧ mg x = some (.ref f) ∧ Binds K fd ps [] ∧ FnOk P w K mg base (CXx P w) k f fd ps sp
/-- a def called while an exception is handled -/
structure DefH (P : Program) (w : World) (K : PySem.W.Frag) (mg : Str → Option Value) (base : Heap) (k : Nat) (x : Str) (st : Stmt) (ps : List Str) (sp : Addr → Sp) : Prop where
  ex : ∃ f fd, Fun K x x st f fd ∧ mg x = some (.ref f) ∧ Binds K fd ps [] ∧ ∀ a, FnOkH P w K mg base a k f fd ps (sp a)
section
variable {P : Program} {w : World} {K : PySem.W.Frag} {mg : Str → Option Value} {base : Heap} {k : Nat} {x : Str} {st : Stmt} {ps : List Str} {sp : Sp}
theorem Fn.mkX (E : Fn K mg x st ps) (h : ∀ f fd, Fun K x x st f fd → FnOk P w K mg base (CXx P w) k f fd ps sp) : DefX P w K mg base k x st ps sp := by
  obtain ⟨f, fd, F, m, b⟩ := E.ex
  exact ⟨f, fd, F, m, b, h f fd F⟩
theorem Fn.mkH {sp : Addr → Sp} (E : Fn K mg x st ps) (h : ∀ f fd, Fun K x x st f fd → ∀ a, FnOkH P w K mg base a k f fd ps (sp a)) : DefH P w K mg base k x st ps sp := by
  obtain ⟨f, fd, F, m, b⟩ := E.ex
  exact ⟨f, fd, F, m, b, h f fd F⟩
theorem Fun.okX {qual : Str} {f : Addr} {fd : FuncData} {N : List Str} (F : Fun K x qual st f fd) (S : FnScope N ps (defScope st)) (len : ∀ vs H Q E, sp vs H Q E → vs.length = ps.length)
    (hbody : ∀ (cdv : Value) (A : Around) (outer : List Env) (s : Shared) (H : Hp) (vs : List V) (Q : VK) (E : XK), Room k (A.deeper (envOfC qual (defScope st) s.heap.objs.size f cdv)) → sp vs H Q E →
      ∃ (σ : St) (t : TS), start N vs = σ ∧ PSs (cxOf (CXx P w) P w K mg base N qual (defScope st) f cdv A outer s H E) (defBody st) t ∧ t { nx := fun _ H' => Q .non H', rt := Q } σ H) : FnOk P w K mg base (CXx P w) (k + 1) f fd ps sp := by
  obtain ⟨oc, od, kV, doc, pm, an, cdv, ct, osl, rfl, lk, hcd⟩ := F.ex
  refine fn_of lk hcd S len fun A outer s H vs Q E hr hsp => ?_
  obtain ⟨σ, t, e, h, q⟩ := hbody cdv A outer s H vs Q E hr hsp
  exact ⟨t, h, by rw [e]; exact q⟩
theorem Fun.okH {a : Addr} {qual : Str} {f : Addr} {fd : FuncData} {N : List Str} (F : Fun K x qual st f fd) (S : FnScope N ps (defScope st)) (len : ∀ vs H Q E, sp vs H Q E → vs.length = ps.length)
    (hbody : ∀ (cdv : Value) (A : Around) (outer : List Env) (s : Shared) (H : Hp) (vs : List V) (Q : VK) (E : XK), RoomH a k (A.deeper (envOfC qual (defScope st) s.heap.objs.size f cdv)) → sp vs H Q E →
      ∃ (σ : St) (t : TS), start N vs = σ ∧ PSs (cxH P w K mg base N qual (defScope st) f cdv A outer s H E) (defBody st) t ∧ t { nx := fun _ H' => Q .non H', rt := Q } σ H) : FnOkH P w K mg base a (k + 1) f fd ps sp := by
  obtain ⟨oc, od, kV, doc, pm, an, cdv, ct, osl, rfl, lk, hcd⟩ := F.ex
  refine fnH_of lk hcd S len fun A outer s H vs Q E hr hsp => ?_
  obtain ⟨σ, t, e, h, q⟩ := hbody cdv A outer s H vs Q E hr hsp
  exact ⟨t, h, by rw [e]; exact q⟩
end
theorem RoomH.mono {a : Addr} {k j : Nat} {A : Around} (r : RoomH a k A) (h : j ≤ k) : RoomH a j A := ⟨r.hd, by have := r.dp; omega, by have := r.un; omega⟩
section
variable {X : Cx}
theorem ps_nox {st : Stmt} {t : TS} (h : PS X.nox st t) : PS X st t := fun pins s σ H D I hw =>
  wpAny_mono (h pins s σ H D (I.wish _) hw) (fun _ _ q => q.unwish) fun _ _ z => False.elim z
theorem pt_nox {e : Expr} {t : TT} (h : PT X.nox e t) : PT X e t := h.nox
/-- a class of the text by its name -/
theorem pe_globC {x : Str} {C : Addr} {pos : Pos} (hg : Gl X x) (hm : X.mg x = some (.ref C)) (hd : (x == ("__debug__" : Str)) = false := by decide) : PE X (.Name x pos) (tC (.ref C)) := pe_glob hg hm rfl hd
/-- f(..), of which here no exception is due -/
theorem pe_callX {k : Nat} {x : Str} {st : Stmt} {ps : List Str} {sp : Sp} {e : Expr} {es : List Expr} {t : TA} {p pos : Pos} (D : DefX X.prog X.w X.K X.mg X.base k x st ps sp) (hr : Room k X.A) (hg : Gl X x) (ha : PA X (e :: es) t)
    (hdb : (x == ("__debug__" : Str)) = false := by decide) (he : starEach (e :: es) X.env = (false, eval e X.env) :: starEach es X.env := by rfl) (hpl : (backTo pos (starEach es X.env)).any (·.1) = false := by rfl) :
    PE X (.Call (.Name x p) (e :: es) [] pos) (tCall sp [] E0 t) := by
  obtain ⟨f, fd, F, m, b, G⟩ := D.ex
  exact pe_call G hr hg m F.kp b .nil passX ha hdb he hpl
/-- f(..) in an except suite -/
theorem pe_callHD {a : Addr} {k : Nat} {x : Str} {st : Stmt} {ps : List Str} {sp : Addr → Sp} {e : Expr} {es : List Expr} {t : TA} {p pos : Pos} (D : DefH X.prog X.w X.K X.mg X.base k x st ps sp) (hr : RoomH a k X.A) (hg : Gl X x) (ha : PA X (e :: es) t)
    (hdb : (x == ("__debug__" : Str)) = false := by decide) (he : starEach (e :: es) X.env = (false, eval e X.env) :: starEach es X.env := by rfl) (hpl : (backTo pos (starEach es X.env)).any (·.1) = false := by rfl) :
    PE X (.Call (.Name x p) (e :: es) [] pos) (tCall (sp a) [] E0 t) := by
  obtain ⟨f, fd, F, m, b, G⟩ := D.ex
  exact pe_callH (G a) hr hg m F.kp b ha hdb he hpl
theorem ps_tryD {k : Nat} {st : Stmt} {ps : List Str} {sp : Sp} {x cx n : Str} {c : Value} {i : Nat} {e : Expr} {es : List Expr} {b₀ : Stmt} {suite : List Stmt} {t : TA} {ts : Addr → TS} {p cpos epos np hpos pos : Pos}
    (D : DefX X.prog X.w X.K X.mg X.base k x st ps sp) (hst : X.stack = X.env :: X.outer) (hfr : X.env.frame = some X.env.locals) (hr : Room k X.A) (hg : Gl X x)
    (ha : PA X.nox (e :: es) t) (hgc : Gl X cx) (hmc : X.mg cx = some c) (hN : X.N.Nodup) (hi : X.N[i]? = some n) (hl : X.env.scope.names.lookup n = some .local) (hs : ∀ a, PSs (X.exc a) (b₀ :: suite) (ts a))
    (hdb : (x == ("__debug__" : Str)) = false := by decide) (hdc : (cx == ("__debug__" : Str)) = false := by decide) (he : starEach (e :: es) X.env = (false, eval e X.env) :: starEach es X.env := by rfl) (hpl : (backTo cpos (starEach es X.env)).any (·.1) = false := by rfl) :
    PS X (.Try [.Expr (.Call (.Name x p) (e :: es) [] cpos) epos] [.ExceptHandler (some (.Name cx np)) (some n) (b₀ :: suite) hpos] [] [] pos) (tTry sp X.K c i t ts) := by
  obtain ⟨f, fd, F, m, b, G⟩ := D.ex
  exact ps_try hst hfr G hr hg m F.kp b ha hgc hmc hN hi hl hs hdb hdc he hpl
end
section
variable {σ : St} {H : Hp}
theorem w_raise {C : Addr} {E : XK} {t : TA} {D : Ends} : tRaise C E t D σ H = t σ H fun vs H1 => vs.length ≤ sizeLine ∧ E (.ref C) none H1 := rfl
theorem w_try {sp : Sp} {K : PySem.W.Frag} {c : Value} {i : Nat} {t : TA} {ts : Addr → TS} {D : Ends} : tTry sp K c i t ts D σ H = t σ H fun vs H1 => sp vs H1 (fun _ H2 => D.nx σ H2) fun cls dO H2 =>
  ∃ C, cls = .ref C ∧ PySem.W.exmOne K (.ref C) c = some true ∧ ∀ a, H2 a = none → ts a { nx := fun σ' H' => D.nx (σ'.set i none) H', rt := D.rt, bk := fun σ' H' => D.bk (σ'.set i none) H', ct := fun σ' H' => D.ct (σ'.set i none) H' } (σ.set i (some (.ref a))) (upd H2 a (excD dO C a)) := rfl
end
theorem call_isiE' {X : Cx} {K : PySem.W.Frag} (h : X.K = K) : CallR X (.builtin "isinstance") (rIsiE K) := h ▸ call_isiE
theorem isiE {K : PySem.W.Frag} {a C D : Addr} {H : Hp} {b : Bool} {Q : VK} (hC : H a = some (excO C a)) (k : ExcK K C) (e : PySem.W.kitOne K (.ref C) (.ref D) = some b) (q : Q (.bl b) H) : rIsiE K [.ref a, .ref D] H Q := ⟨a, C, _, _, b, rfl, hC, k, .inr ⟨D, rfl, rfl⟩, e, q⟩
theorem isiT {K : PySem.W.Frag} {a C : Addr} {T : String} {H : Hp} {b : Bool} {Q : VK} (hC : H a = some (excO C a)) (k : ExcK K C) (e : PySem.W.kitOne K (.ref C) (.type T) = some b) (q : Q (.bl b) H) : rIsiE K [.ref a, .ty T] H Q := ⟨a, C, _, _, b, rfl, hC, k, .inl ⟨T, rfl, rfl⟩, e, q⟩
theorem boot_ValueError : bootBuiltins "ValueError" = some (.type "ValueError") := by decide +kernel
/-- what the law asks of a caught exception: the classes ds in their order, of which it is the one of number due -/
structure Jst (K : PySem.W.Frag) (C : Addr) (ds : List Addr) (due : Nat) : Prop where
  ek : ExcK K C
  kit : ∀ j d, ds[j]? = some d → PySem.W.kitOne K (.ref C) (.ref d) = some (decide (j = due))
  val : PySem.W.kitOne K (.ref C) (.type "ValueError") = some true
end L2

set_option Elab.async false
set_option linter.all false
set_option maxRecDepth 100000
set_option maxHeartbeats 4000000
/-! What is no word, and what are no bows of one: specs of defs that refuse. -/
namespace Rm
open PySem L2
/-- a text of plain signs, not too long, or no text -/
def TxtOk : PyData → Prop
  | .str z => z.cps.all (· < 128) = true ∧ z.length ≤ 1000
  | _ => True
def isWordD : PyData → Bool
  | .str z => isW z
  | _ => false
theorem isWord_of {K : PySem.W.Frag} {H : Hp} {x : V} {d : PyData} {Q : VK} {E : XK} (h : Dat H x d) (t : TxtOk d) (q : Q (.bl (isWordD d)) H) : spIsWord K [x] H Q E := by
  refine ⟨x, rfl, ?_⟩
  cases id h with
  | str z => exact .inl ⟨z, rfl, t.1, t.2, q⟩
  | non => exact .inr ⟨_, h.ty, rfl, q⟩
  | bl b => exact .inr ⟨_, h.ty, rfl, q⟩
  | int i => exact .inr ⟨_, h.ty, rfl, q⟩
  | tup h1 h2 => exact .inr ⟨_, h.ty, rfl, q⟩
  | lst h1 h2 => exact .inr ⟨_, h.ty, rfl, q⟩
def spPairsX (C : Addr) : Sp := fun vs H Q E => ∃ x, vs = [x] ∧ ((∃ bs ms, x = .str (wd bs) ∧ Bal bs ∧ bs.length ≤ 40 ∧ Mates bs bs.length ms ∧ ∀ l H', H l = none → Same H H' → BowsAt H' l (msZ ms) → Q (.ref l) H') ∨
  (∃ d, Dat H x d ∧ TxtOk d ∧ isWordD d = false ∧ E (.ref C) none H))
/-- told: the word of these bows -/
def wordsD (d : PyData) : Option (List Bw) :=
  match d with
  | .list ds => if fillsD d && (ds.map bowOf).all (fun p => (ds.map bowOf).all fun q => !crossZ p q) then some (ds.map bowOf) else none
  | _ => none
def spWordOfX (C : Addr) : Sp := fun vs H Q E => ∃ x d, vs = [x] ∧ Dat H x d ∧ ∀ H', Same H H' → (match wordsD d with | some ps => Q (.str (wd (wordB ps))) H' | none => E (.ref C) none H')
/-- of a caught exception: whether it is just of the class due -/
def spJust (K : PySem.W.Frag) (ds : List Addr) (a : Addr) : Sp := fun vs H Q _ => ∃ (C : Addr) (due : Nat), vs = [.ref a, .int due] ∧ H a = some (excO C a) ∧ Jst K C ds due ∧ ∀ H', Same H H' → Q (.bl true) H'
/-- f(thing) is refused -/
def spRefused (P : V → Hp → Prop) : Sp := fun vs H Q _ => ∃ x, vs = [x] ∧ P x H ∧ ∀ H', Same H H' → Q (.bl true) H'
end Rm
namespace Rm
open PySem L2
end Rm
namespace Rm
open PySem L2
end Rm

set_option Elab.async false
set_option linter.all false
set_option maxRecDepth 100000
namespace L2
open PySem PySem.Spec PyProof.Rows

/-! ### lists of pairs as tables -/
section
variable {κ : Type} [DecidableEq κ]
def valV (kvs : List (κ × V)) (k : κ) : Option V := (kvs.find? fun kv => decide (kv.1 = k)).map (·.2)
/-- in its place, or at the end -/
def putK (kvs : List (κ × V)) (k : κ) (v : V) : List (κ × V) :=
  if (kvs.any fun kv => decide (kv.1 = k)) = true then kvs.map (fun kv => if kv.1 = k then (kv.1, v) else kv) else kvs ++ [(k, v)]
def dropK (kvs : List (κ × V)) (k : κ) : List (κ × V) := kvs.filter fun kv => decide (kv.1 ≠ k)

theorem valV_pos {p : κ × V} {r : List (κ × V)} {k : κ} (e : p.1 = k) : valV (p :: r) k = some p.2 := by simp [valV, List.find?_cons, e]
theorem valV_neg {p : κ × V} {r : List (κ × V)} {k : κ} (e : ¬ p.1 = k) : valV (p :: r) k = valV r k := by simp [valV, List.find?_cons, e]
theorem valV_any (k : κ) : ∀ kvs : List (κ × V), (kvs.any fun kv => decide (kv.1 = k)) = (valV kvs k).isSome
  | [] => rfl
  | p :: r => by
    rw [List.any_cons]
    by_cases e : p.1 = k
    · simp only [valV_pos e, decide_eq_true e, Bool.true_or, Option.isSome_some]
    · rw [valV_neg e, decide_eq_false e, Bool.false_or]; exact valV_any k r
theorem valV_map (k j : κ) (y : V) : ∀ kvs : List (κ × V), valV (kvs.map fun kv => if kv.1 = k then (kv.1, y) else kv) j = (valV kvs j).map fun x => if j = k then y else x
  | [] => rfl
  | p :: r => by
    have ih := valV_map k j y r
    rw [List.map_cons]
    by_cases h : p.1 = k
    · rw [if_pos h]
      by_cases e : p.1 = j
      · rw [valV_pos (p := (p.1, y)) e, valV_pos e, Option.map_some, if_pos (e.symm.trans h)]
      · rw [valV_neg (p := (p.1, y)) e, valV_neg e, ih]
    · rw [if_neg h]
      by_cases e : p.1 = j
      · rw [valV_pos (p := p) e, valV_pos e, Option.map_some, if_neg (fun z => h (e.trans z))]
      · rw [valV_neg (p := p) e, valV_neg e, ih]
theorem valV_snoc (k j : κ) (y : V) : ∀ kvs : List (κ × V), valV kvs k = none → valV (kvs ++ [(k, y)]) j = if j = k then some y else valV kvs j
  | [], _ => by
    by_cases e : k = j
    · rw [if_pos e.symm]; exact valV_pos (p := (k, y)) e
    · rw [if_neg (fun z => e z.symm)]; exact valV_neg (p := (k, y)) e
  | p :: r, hn => by
    rw [List.cons_append]
    have hk : ¬ p.1 = k := fun z => by rw [valV_pos z] at hn; cases hn
    rw [valV_neg hk] at hn
    have ih := valV_snoc k j y r hn
    by_cases e : p.1 = j
    · rw [valV_pos e, valV_pos e, if_neg (fun z => hk (e.trans z))]
    · rw [valV_neg e, valV_neg e, ih]
theorem valV_put (kvs : List (κ × V)) (k j : κ) (y : V) : valV (putK kvs k y) j = if j = k then some y else valV kvs j := by
  unfold putK
  by_cases a : (kvs.any fun kv => decide (kv.1 = k)) = true
  · rw [if_pos a, valV_map]
    rw [valV_any] at a
    by_cases e : j = k
    · obtain ⟨x, hx⟩ := Option.isSome_iff_exists.mp a
      rw [if_pos e, e, hx, Option.map_some, if_pos rfl]
    · rw [if_neg e]
      cases valV kvs j with
      | none => rfl
      | some x => rw [Option.map_some, if_neg e]
  · rw [if_neg a]
    refine valV_snoc k j y kvs ?_
    rw [valV_any] at a
    cases q : valV kvs k with
    | none => rfl
    | some x => rw [q] at a; exact (a rfl).elim
theorem length_putK (kvs : List (κ × V)) (k : κ) (v : V) : (putK kvs k v).length ≤ kvs.length + 1 := by
  unfold putK
  split
  · rw [List.length_map]; omega
  · rw [List.length_append, List.length_cons, List.length_nil]; omega
theorem RelO.isSome_eq {o : Option V} {u : Option Value} (r : RelO o u) : o.isSome = u.isSome := by
  cases o with
  | none => cases u with
    | none => rfl
    | some _ => exact (show False from r).elim
  | some _ => cases u with
    | none => exact (show False from r).elim
    | some _ => rfl
theorem RelO.getD {o : Option V} {u : Option Value} {d : V} {d' : Value} (r : RelO o u) (rd : RelV d d') : RelV (o.getD d) (u.getD d') := by
  cases o with
  | none => cases u with
    | none => exact rd
    | some _ => exact (show False from r).elim
  | some _ => cases u with
    | none => exact (show False from r).elim
    | some _ => exact r

/-- raw tables of the same keys -/
theorem KV.val {kvs : List (κ × V)} {vs : List (κ × Value)} (r : KV kvs vs) (k : κ) : RelO (valV kvs k) (valueAt vs k) := by
  unfold KV at r
  induction r with
  | nil => exact True.intro
  | @cons p q ps qs h t ih =>
    obtain ⟨h1, h2⟩ := h
    by_cases e : p.1 = k
    · have e' : q.1 = k := h1.symm.trans e
      have b : valueAt (q :: qs) k = some q.2 := by simp [valueAt, List.find?_cons, e']
      rw [valV_pos e, b]; exact h2
    · have e' : ¬ q.1 = k := fun z => e (h1.trans z)
      have b : valueAt (q :: qs) k = valueAt qs k := by simp [valueAt, List.find?_cons, e']
      rw [valV_neg e, b]; exact ih
theorem KV.any {kvs : List (κ × V)} {vs : List (κ × Value)} (r : KV kvs vs) (k : κ) : (kvs.any fun kv => decide (kv.1 = k)) = vs.any fun kv => decide (kv.1 = k) := by
  unfold KV at r
  induction r with
  | nil => rfl
  | cons h t ih => rw [List.any_cons, List.any_cons, ih, h.1]
theorem KV.repl {kvs : List (κ × V)} {vs : List (κ × Value)} (r : KV kvs vs) (k : κ) {y : V} {u : Value} (ry : RelV y u) :
    KV (kvs.map fun kv => if kv.1 = k then (kv.1, y) else kv) (vs.map fun kv => if kv.1 = k then (kv.1, u) else kv) := by
  unfold KV at r ⊢
  induction r with
  | nil => exact .nil
  | @cons p q ps qs h t ih =>
    rw [List.map_cons, List.map_cons]
    refine .cons ?_ ih
    obtain ⟨h1, h2⟩ := h
    by_cases e : p.1 = k
    · rw [if_pos e, if_pos (h1.symm.trans e)]; exact ⟨h1, ry⟩
    · rw [if_neg e, if_neg (fun z => e (h1.trans z))]; exact ⟨h1, h2⟩
theorem KV.put {kvs : List (κ × V)} {vs : List (κ × Value)} (r : KV kvs vs) (k : κ) {y : V} {u : Value} (ry : RelV y u) : KV (putK kvs k y) (stored vs k u) := by
  unfold putK stored
  rw [r.any k]
  by_cases e : (vs.any fun kv => decide (kv.1 = k)) = true
  · rw [if_pos e, if_pos e]; exact r.repl k ry
  · rw [if_neg e, if_neg e]; exact Paired.snoc r ⟨rfl, ry⟩
theorem KV.drop {kvs : List (κ × V)} {vs : List (κ × Value)} (r : KV kvs vs) (k : κ) : KV (dropK kvs k) (without vs k) := by
  unfold KV at r ⊢
  unfold dropK without
  induction r with
  | nil => exact .nil
  | @cons p q ps qs h t ih =>
    obtain ⟨h1, h2⟩ := h
    rw [List.filter_cons, List.filter_cons]
    by_cases e : p.1 = k
    · have a : ¬ decide (p.1 ≠ k) = true := by simp [e]
      have b : ¬ decide (q.1 ≠ k) = true := by simp [h1.symm.trans e]
      rw [if_neg a, if_neg b]; exact ih
    · have e' : ¬ q.1 = k := fun z => e (h1.trans z)
      have a : decide (p.1 ≠ k) = true := by simp [e]
      have b : decide (q.1 ≠ k) = true := by simp [e']
      rw [if_pos a, if_pos b]; exact .cons ⟨h1, h2⟩ ih
theorem KV.keys {kvs : List (κ × V)} {vs : List (κ × Value)} (r : KV kvs vs) : kvs.map (·.1) = vs.map (·.1) := by
  unfold KV at r
  induction r with
  | nil => rfl
  | cons h t ih => rw [List.map_cons, List.map_cons, ih, h.1]
theorem KV.length {kvs : List (κ × V)} {vs : List (κ × Value)} (r : KV kvs vs) : kvs.length = vs.length := Paired.length r
end


/-! ### a tracked dict, its keys ints and texts or tuples of these -/
theorem kV_is {P : Program} {w : World} {k : Key} {u : Value} (r : RelV (kV k) u) : (mixKind P w).is k u = true := by
  cases k with
  | inl i => obtain ⟨t, e⟩ := (show ∃ t, u = Value.int i t from r); subst e; exact mixKind_int P w i t
  | inr x => obtain ⟨t, e⟩ := (show ∃ t, u = Value.str x t from r); subst e; exact mixKind_str P w x t
theorem items_are {P : Program} {w : World} : ∀ {ks : List Key} {us : List Value}, Vals (ks.map kV) us → ItemsAre (mixKind P w) ks us
  | [], _, r => by rw [List.map_nil] at r; cases r; exact .nil
  | k :: ks, _, r => by
    rw [List.map_cons] at r
    cases r with
    | cons h t => exact .cons (kV_is h) (items_are t)

/-- raw entries of a dict with tuple keys -/
abbrev KT (H : Hp) : List (List Key × V) → List (List Key × Addr × Value) → Prop := Paired fun p q => p.1 = q.1 ∧ H q.2.1 = some (.tup (p.1.map kV)) ∧ RelV p.2 q.2.2
theorem KT.val {H : Hp} {kvs : List (List Key × V)} {xs : List (List Key × Addr × Value)} (r : KT H kvs xs) (k : List Key) : RelO (valV kvs k) ((atKey xs k).map (·.2)) := by
  induction r with
  | nil => exact True.intro
  | @cons p q ps qs h t ih =>
    obtain ⟨h1, _, h2⟩ := h
    by_cases e : p.1 = k
    · have e' : q.1 = k := h1.symm.trans e
      have b : atKey (q :: qs) k = some q.2 := by simp [atKey, List.find?_cons, e']
      rw [valV_pos e, b]; exact h2
    · have e' : ¬ q.1 = k := fun z => e (h1.trans z)
      have b : atKey (q :: qs) k = atKey qs k := by simp [atKey, List.find?_cons, e']
      rw [valV_neg e, b]; exact ih
theorem KT.repl {H : Hp} {kvs : List (List Key × V)} {xs : List (List Key × Addr × Value)} (r : KT H kvs xs) (k : List Key) {y : V} {u : Value} (ry : RelV y u) :
    KT H (kvs.map fun kv => if kv.1 = k then (kv.1, y) else kv) (xs.map (putAt k u)) := by
  induction r with
  | nil => exact .nil
  | @cons p q ps qs h t ih =>
    rw [List.map_cons, List.map_cons]
    refine .cons ?_ ih
    obtain ⟨h1, h2, h3⟩ := h
    unfold putAt
    by_cases e : p.1 = k
    · rw [if_pos e, if_pos (h1.symm.trans e)]; exact ⟨h1, h2, ry⟩
    · rw [if_neg e, if_neg (fun z => e (h1.trans z))]; exact ⟨h1, h2, h3⟩
theorem KT.put {H : Hp} {kvs : List (List Key × V)} {xs : List (List Key × Addr × Value)} (r : KT H kvs xs) (k : List Key) {b : Addr} {y : V} {u : Value} (hb : H b = some (.tup (k.map kV))) (ry : RelV y u) :
    KT H (putK kvs k y) (storedH xs k b u) := by
  have e : (kvs.any fun kv => decide (kv.1 = k)) = (atKey xs k).isSome := by
    rw [valV_any, (r.val k).isSome_eq, Option.isSome_map]
  unfold putK storedH
  rw [e]
  by_cases q : (atKey xs k).isSome = true
  · rw [if_pos q, if_pos q]; exact r.repl k ry
  · rw [if_neg q, if_neg q]; exact Paired.snoc r ⟨rfl, hb, ry⟩
theorem KT.keeps {H H' : Hp} {kvs : List (List Key × V)} {xs : List (List Key × Addr × Value)} (r : KT H kvs xs) (ht : ∀ b ys, H b = some (.tup ys) → H' b = some (.tup ys)) : KT H' kvs xs :=
  Paired.mapP r fun _ _ z => ⟨z.1, ht _ _ z.2.1, z.2.2⟩

section
variable {P : Program} {w : World} {H : Hp} {h : Heap} {a : Addr}
theorem rd_of {u : HO} (ok : HOk P w H h) (e : Rd H a u) : ObjOk P w H h a u := e.ok ok
theorem dk_rd {kvs : List (Key × V)} (ok : HOk P w H h) (e : Rd H a (.dK kvs)) : kvs.length ≤ sizeLine ∧ (a == sysModules) = false ∧ ∃ vs, KV kvs vs ∧ h.DictOf (mixKind P w) a vs :=
  show ObjOk P w H h a (.dK kvs) from rd_of ok e
theorem dk_of {kvs : List (Key × V)} (ok : HOk P w H h) (e : H a = some (.dK kvs)) : kvs.length ≤ sizeLine ∧ (a == sysModules) = false ∧ ∃ vs, KV kvs vs ∧ h.DictOf (mixKind P w) a vs := dk_rd ok (.inl e)
/-- a tracked tuple of ints and texts is a key -/
theorem key_of {ks : List Key} (ok : HOk P w H h) (e : H a = some (.tup (ks.map kV))) : (tupleKind (mixKind P w)).is h ks a := by
  obtain ⟨_, its, r, o, h1, h2, n, h3⟩ := (show ObjOk P w H h a (.tup (ks.map kV)) from ok a _ e)
  exact ⟨o, its.toArray, n, h1, h2, h3, by simpa using items_are r⟩
theorem dt_rd {kvs : List (List Key × V)} (ok : HOk P w H h) (e : Rd H a (.dT kvs)) : kvs.length ≤ sizeLine ∧ (a == sysModules) = false ∧
    ∃ xs, KT H kvs xs ∧ h.DictOfH (tupleKind (mixKind P w)) a xs := by
  obtain ⟨z, y, xs, r, o, es, ep, h1, h2, h3, h4, h5⟩ := (show ObjOk P w H h a (.dT kvs) from rd_of ok e)
  refine ⟨z, y, xs, r, o, es, ep, h1, h2, h3, h4, fun x hx => ?_, h5⟩
  have all : ∀ {l : List (List Key × V)} {m : List (List Key × Addr × Value)}, KT H l m → ∀ x ∈ m, (tupleKind (mixKind P w)).is h x.1 x.2.1 := by
    intro l m q
    induction q with
    | nil => intro x hx; exact nomatch hx
    | @cons p q ps qs hq t ih =>
      intro x hx
      rcases List.mem_cons.mp hx with e | hx
      · subst e
        exact key_of ok (by rw [← hq.1]; exact hq.2.1)
      · exact ih x hx
  exact all r x hx
theorem dt_of {kvs : List (List Key × V)} (ok : HOk P w H h) (e : H a = some (.dT kvs)) : kvs.length ≤ sizeLine ∧ (a == sysModules) = false ∧
    ∃ xs, KT H kvs xs ∧ h.DictOfH (tupleKind (mixKind P w)) a xs := dt_rd ok (.inl e)
end

/-- what the dict at a holds at the key y -/
def DGet (H : Hp) (a : Addr) (y : V) (r : Option V) : Prop :=
  (∃ kvs k, Rd H a (.dK kvs) ∧ y = kV k ∧ r = valV kvs k) ∨ ∃ kvs k b, Rd H a (.dT kvs) ∧ y = .ref b ∧ H b = some (.tup (k.map kV)) ∧ r = valV kvs k
/-- the heap behind a[y] = v -/
def DPut (H : Hp) (a : Addr) (y v : V) (H' : Hp) : Prop :=
  (∃ kvs k, H a = some (.dK kvs) ∧ y = kV k ∧ kvs.length < sizeLine ∧ H' = upd H a (.dK (putK kvs k v))) ∨
  ∃ kvs k b, H a = some (.dT kvs) ∧ y = .ref b ∧ H b = some (.tup (k.map kV)) ∧ kvs.length < sizeLine ∧ H' = upd H a (.dT (putK kvs k v))
theorem DGet.k {H : Hp} {a : Addr} {kvs : List (Key × V)} {k : Key} (e : H a = some (.dK kvs)) : DGet H a (kV k) (valV kvs k) := .inl ⟨kvs, k, .inl e, rfl, rfl⟩
theorem DGet.t {H : Hp} {a b : Addr} {kvs : List (List Key × V)} {k : List Key} (e : H a = some (.dT kvs)) (eb : H b = some (.tup (k.map kV))) : DGet H a (.ref b) (valV kvs k) := .inr ⟨kvs, k, b, .inl e, rfl, eb, rfl⟩
theorem DPut.k {H : Hp} {a : Addr} {kvs : List (Key × V)} {k : Key} {v : V} (e : H a = some (.dK kvs)) (hl : kvs.length < sizeLine) : DPut H a (kV k) v (upd H a (.dK (putK kvs k v))) := .inl ⟨kvs, k, e, rfl, hl, rfl⟩
theorem DPut.t {H : Hp} {a b : Addr} {kvs : List (List Key × V)} {k : List Key} {v : V} (e : H a = some (.dT kvs)) (eb : H b = some (.tup (k.map kV))) (hl : kvs.length < sizeLine) :
    DPut H a (.ref b) v (upd H a (.dT (putK kvs k v))) := .inr ⟨kvs, k, b, e, rfl, eb, hl, rfl⟩


section
variable {X : Cx} {pins : List (Addr × Obj)} {σ : St} {H : Hp} {s : Shared} {a : Addr} {y v : V} {u r : Value} {o : Option V} {A : Around} {E : Value → Shared → Prop}

theorem Inv.big (I : Inv X pins σ H s) : sysModules < s.heap.objs.size := by
  have h : mainGlobals < s.heap.objs.size := (I.mod.glob.keeps I.bk).lt
  exact Nat.lt_trans (by decide) h

/-- d[y], there -/
theorem d_getItem {Q : Value → Shared → Prop} (hu : A.units + 1 < cLine) (I : Inv X pins σ H s) (g : DGet H a y (some v)) (ry : RelV y u) (h : ∀ w' s', Inv X pins σ H s' → RelV v w' → Q w' s') :
    wpAny (model X.prog X.w) A (getItem (.ref a) u) Q E s := by
  rcases g with ⟨kvs, k, e, ey, l⟩ | ⟨kvs, k, b, e, ey, eb, l⟩
  · subst ey
    obtain ⟨z, hd, vs, rel, dd⟩ := dk_rd I.hok e
    obtain ⟨w', hw, rw'⟩ := RelO.some_of (v := v) (o := valueAt vs k) (by rw [l]; exact rel.val k)
    exact wpAny_getItem_of (kV_is ry) dd.mapOf hw (h w' _ (I.tok _) rw')
  · subst ey
    cases (show u = Value.ref b from ry)
    obtain ⟨z, hd, xs, rel, dd⟩ := dt_rd I.hok e
    obtain ⟨w', hw, rw'⟩ := RelO.some_of (v := v) (o := (atKey xs k).map (·.2)) (by rw [l]; exact rel.val k)
    obtain ⟨p, hp, hp2⟩ := Option.map_eq_some_iff.mp hw
    refine wpAny_getItem_heap (tupleKind_room_in1 hu) (key_of I.hok eb) dd hp ?_
    rw [hp2]
    exact h w' _ (I.tok _) rw'
theorem d_notIn {Q : Value → Shared → Prop} (hu : A.units + 1 < cLine) (I : Inv X pins σ H s) (g : DGet H a y o) (ry : RelV y u) (h : ∀ s', Inv X pins σ H s' → Q (.bool (!o.isSome)) s') :
    wpAny (model X.prog X.w) A (compareOp .NotIn u (.ref a)) Q E s := by
  rcases g with ⟨kvs, k, e, ey, l⟩ | ⟨kvs, k, b, e, ey, eb, l⟩
  · subst ey
    obtain ⟨z, hd, vs, rel, dd⟩ := dk_rd I.hok e
    refine wpAny_notIn_of (kV_is ry) hd dd.mapOf ?_
    rw [← (rel.val k).isSome_eq, ← l]
    exact h _ (I.tok _)
  · subst ey
    cases (show u = Value.ref b from ry)
    obtain ⟨z, hd, xs, rel, dd⟩ := dt_rd I.hok e
    refine wpAny_notIn_heap (tupleKind_room_in1 hu) (key_of I.hok eb) hd dd ?_
    have q := (rel.val k).isSome_eq
    rw [Option.isSome_map] at q
    rw [← q, ← l]
    exact h _ (I.tok _)
/-- a dict's object is replaced -/
theorem d_write {h' : Heap} {t' : Nat} {ob : HO} (I : Inv X pins σ H s) (mu : Mut (H a)) (hs : Heap.SameBut a s.heap h') (he : ∃ q, h'.get? a = some q) (new : ObjOk X.prog X.w (upd H a ob) h' a ob) :
    Inv X pins σ (upd H a ob) { s with heap := h', toks := t' } :=
  I.write (x := a) (e := a) mu (.inl rfl) (fun b q hb z => (hs.2 b hb).trans z) he new
theorem dk_new {P : Program} {w : World} {H' : Hp} {h' : Heap} {kvs : List (Key × V)} {vs : List (Key × Value)} (z : kvs.length ≤ sizeLine) (hd : (a == sysModules) = false) (rel : KV kvs vs) (dd : h'.DictOf (mixKind P w) a vs) :
    ObjOk P w H' h' a (.dK kvs) := ⟨z, hd, vs, rel, dd⟩
/-- d[y] = v -/
theorem d_setItem {H' : Hp} {Q : Unit → Shared → Prop} (hu : A.units + 1 < cLine) (I : Inv X pins σ H s) (g : DPut H a y v H') (ry : RelV y u) (rv : RelV v r) (h : ∀ s', Inv X pins σ H' s' → Q () s') :
    wpAny (model X.prog X.w) A (setItem (.ref a) u r) Q E s := by
  rcases g with ⟨kvs, k, e, ey, l, eH⟩ | ⟨kvs, k, b, e, ey, eb, l, eH⟩
  · subst ey eH
    obtain ⟨z, hd, vs, rel, dd⟩ := dk_of I.hok e
    have hz : vs.length ≤ sizeLine := by rw [← rel.length]; exact z
    have hl : (putK kvs k v).length ≤ sizeLine := by have := length_putK kvs k v; omega
    refine wpAny_setItem_pairs (hsz := hz) (kV_is ry) dd fun h' dd' hs => h _ ?_
    have he : ∃ q, h'.get? a = some q := let ⟨q, _, _, hq, _⟩ := dd'; ⟨q, hq⟩
    exact d_write I (by rw [e]; exact True.intro) hs he (dk_new hl hd (rel.put k rv) dd')
  · subst ey eH
    cases (show u = Value.ref b from ry)
    obtain ⟨z, hd, xs, rel, dd⟩ := dt_of I.hok e
    have hz : xs.length ≤ sizeLine := by rw [← Paired.length rel]; exact z
    have hl : (putK kvs k v).length ≤ sizeLine := by have := length_putK kvs k v; omega
    refine wpAny_setItem_heap (hsz := hz) (tupleKind_room_in1 hu) (key_of I.hok eb) dd fun h' dd' hs => h _ ?_
    obtain ⟨q, es, ep, hq, h2, h3, h4, _, h5⟩ := dd'
    refine d_write I (by rw [e]; exact True.intro) hs ⟨q, hq⟩ ⟨hl, hd, _, (rel.put k eb rv).keeps fun c ys ec => ?_, q, es, ep, hq, h2, h3, h4, h5⟩
    rw [upd_ne (ne_of ec e (fun z => nomatch z))]
    exact ec
end

section
variable {X : Cx} {pins : List (Addr × Obj)} {σ : St} {H : Hp} {s : Shared} {a : Addr} {kvs : List (Key × V)} {k : Key} {u : Value} {A : Around} {E : Value → Shared → Prop}
end


/-! ### readings and rules -/
/-- the element of a subscription, not a slice -/
def NoSl (i : Expr) : Prop := ∀ ov iv, subscripted i false ov iv = operate [ov, iv] (getItem ov iv)
theorem subD_of {prog : Program} {w : World} {A : Around} {E : Value → Shared → Prop} {s : Shared} {env : Env} {value slice : Expr} {pos : Pos} {T id : String} {Q : Value → Shared → Prop}
    (hl : typeLookup (.type T) "__getitem__" = pure (some (.builtin id))) (hs : NoSl slice)
    (h : wpAny (model prog w) A (eval value env) (fun o s₁ => wpAny (model prog w) A (eval slice env) (fun i s₂ => s₂.TypeIs o T ∧ wpAny (model prog w) A (getItem o i) Q E s₂) E s₁) E s) :
    wpAny (model prog w) A (eval (.Subscript value slice pos) env) Q E s := by
  refine Subscript_ (wpAny_mono h (fun o s₁ h₁ => wpAny_mono h₁ (fun i s₂ h₂ => ?_) fun _ _ x => x) fun _ _ x => x)
  obtain ⟨hT, h₂⟩ := h₂
  unfold subscriptTail
  refine wpAny_bind ?_
  rw [getitemInPython_of_ne hT.not_modules]
  refine wpAny_bind (wpAny_specialOf hT hl ?_)
  have fin : wpAny (model prog w) A (subscripted slice false o i) (fun r s₃ => wpAny (model prog w) A (letTemporaryGo value o r >>= fun _ => pure r) Q E s₃) E s₂ := by
    rw [hs o i]
    exact wpAny_operating (wpAny_mono h₂ (fun r s₃ h₃ => wpAny_bind (wpAny_letTemporaryGo (wpAny_pure h₃))) fun _ _ x => x)
  first
    | exact wpAny_pure (wpAny_bind fin)
    | exact wpAny_bind (wpAny_pure (wpAny_bind fin))
    | exact wpAny_bind fin

theorem dict_typeIs {X : Cx} {pins : List (Addr × Obj)} {σ : St} {H : Hp} {s : Shared} {a : Addr} {y : V} {o : Option V} (I : Inv X pins σ H s) (g : DGet H a y o) : s.TypeIs (.ref a) "dict" := by
  rcases g with ⟨kvs, k, e, _, _⟩ | ⟨kvs, k, b, e, _, _, _⟩
  · obtain ⟨_, _, vs, _, dd⟩ := dk_rd I.hok e
    exact dd.typeIs
  · obtain ⟨_, _, xs, _, dd⟩ := dt_rd I.hok e
    exact dd.typeIs
/-- d[y] -/
def tDGet (td ty : TE) : TE := fun σ H Q => td σ H fun x H1 => ty σ H1 fun y H2 => ∃ a v, x = .ref a ∧ DGet H2 a y (some v) ∧ Q v H2
/-- y in d, y not in d -/
def tDIn (ty td : TE) : TE := fun σ H Q => ty σ H fun y H1 => td σ H1 fun x H2 => ∃ a o, x = .ref a ∧ DGet H2 a y o ∧ Q (.bl o.isSome) H2
def tDNotIn (ty td : TE) : TE := fun σ H Q => ty σ H fun y H1 => td σ H1 fun x H2 => ∃ a o, x = .ref a ∧ DGet H2 a y o ∧ Q (.bl (!o.isSome)) H2
/-- d[y] = v -/
def sDPut (td ty tv : TE) : TS := fun D σ H => tv σ H fun v H1 => td σ H1 fun x H2 => ty σ H2 fun y H3 => ∃ a H4, x = .ref a ∧ DPut H3 a y v H4 ∧ D.nx σ H4
/-- d[y] op= v -/
def sDAug (td ty tv : TE) (rd : V → V → Hp → VK → Prop) : TS := fun D σ H => td σ H fun x H1 => ty σ H1 fun y H2 => ∃ a v, x = .ref a ∧ DGet H2 a y (some v) ∧
  tv σ H2 fun y2 H3 => rd v y2 H3 fun z H4 => ∃ H5, DPut H4 a y z H5 ∧ D.nx σ H5
/-- del d[y] -/
def sDDel (td ty : TE) : TS := fun D σ H => td σ H fun x H1 => ty σ H1 fun y H2 => ∃ a kvs k, x = .ref a ∧ H2 a = some (.dK kvs) ∧ y = kV k ∧ (valV kvs k).isSome = true ∧ D.nx σ (upd H2 a (.dK (dropK kvs k)))

section
variable {X : Cx} {o i e value : Expr} {pos pos' tpos : Pos} {td ty tv : TE}
theorem pe_dget (hu : X.A.units + 1 < cLine) (ho : PE X o td) (hi : PE X i ty) (hs : NoSl i) : PE X (.Subscript o i pos) (tDGet td ty) := by
  intro pins s σ H Q I h
  refine subD_of PySem.F.slot_dict_getitem.lookup hs (thn (ho pins s σ H _ I h) fun u s1 ⟨x, H1, I1, rx, q1⟩ => thn (hi pins s1 σ H1 _ I1 q1) fun iv s2 ⟨y, H2, I2, ry, a, v, ex, g, q2⟩ => ?_)
  subst ex
  obtain rfl : u = Value.ref a := rx
  exact ⟨dict_typeIs I2 g, d_getItem hu I2 g ry fun w' s3 I3 rw' => ⟨v, H2, I3, rw', q2⟩⟩
theorem pc_dnotin (hu : X.A.units + 1 < cLine) (hi : PE X i ty) (ho : PE X o td) : PC X .NotIn i o (tDNotIn ty td) := by
  intro pins s σ H Q I h
  refine thn (hi pins s σ H _ I h) fun iv s1 ⟨y, H1, I1, ry, q1⟩ => thn (ho pins s1 σ H1 _ I1 q1) fun u s2 ⟨x, H2, I2, rx, a, ov, ex, g, q2⟩ => ?_
  subst ex
  obtain rfl : u = Value.ref a := rx
  exact d_notIn hu I2 g ry fun s3 I3 => ⟨.bl (!ov.isSome), H2, I3, rfl, q2⟩
theorem ps_dput (hu : X.A.units + 1 < cLine) (ho : PE X o td) (hi : PE X i ty) (hv : PE X value tv) (hs : swapsWith value (some (.Subscript o i pos')) pos.line X.env = pure false) :
    PS X (.Assign [.Subscript o i pos'] value pos) (sDPut td ty tv) := by
  intro pins s σ H D I h
  refine wpAny_Assign_Subscript (thn (hv pins s σ H _ I h) fun r s1 ⟨v, H1, I1, rv, q1⟩ => thn (ho pins s1 σ H1 _ I1 q1) fun u s2 ⟨x, H2, I2, rx, q2⟩ => thn (hi pins s2 σ H2 _ I2 q2) fun iv s3 ⟨y, H3, I3, ry, a, H4, ex, g, q3⟩ => ?_) hs
  subst ex
  obtain rfl : u = Value.ref a := rx
  exact d_setItem hu I3 g ry rv fun s4 I4 => ⟨σ, H4, I4, q3⟩
end


/-! ### displays -/
theorem dk_empty {P : Program} {w : World} {H : Hp} (h : Heap) (hb : sysModules < h.objs.size) : ObjOk P w H (h.push { cls := .type "dict", data := .dict #[] }) h.objs.size (.dK []) :=
  ⟨Nat.zero_le _, beq_eq_false_iff_ne.mpr (Ne.symm (Nat.ne_of_lt hb)), [], .nil, Heap.DictOf.new h⟩
/-- {}, to be a dict of the kind that is wanted -/
def tDNewK : TE := fun _ H Q => ∀ p, H p = none → Q (.ref p) (upd H p (.dK []))
def tDNewT : TE := fun _ H Q => ∀ p, H p = none → Q (.ref p) (upd H p (.dT []))
section
variable {X : Cx} {pos : Pos}
theorem pe_dnewK : PE X (.Dict [] [] pos) tDNewK := fun pins s σ H Q I h =>
  wpAny_Dict_empty ⟨.ref s.heap.objs.size, _, I.laid (a := s.heap.objs.size) (o := .dK []) (t' := s.toks) (fun _ _ q => Heap.get?_push_of_some _ q) (Nat.le_refl _) (dk_empty s.heap I.big), rfl, h _ (I.hok.fresh (Nat.le_refl _))⟩
end

/-- the pairs of a display, from the left -/
def tPairs : List (TE × TE) → St → Hp → (List (V × V) → Hp → Prop) → Prop
  | [], _, H, Q => Q [] H
  | (tk, tv) :: r, σ, H, Q => tk σ H fun x H1 => tv σ H1 fun y H2 => tPairs r σ H2 fun ps H3 => Q ((x, y) :: ps) H3
abbrev VV : List (V × V) → List (Value × Value) → Prop := Paired fun p q => RelV p.1 q.1 ∧ RelV p.2 q.2
def PPs (X : Cx) (pos : Pos) (keys : List (Option Expr)) (values : List Expr) (trs : List (TE × TE)) : Prop :=
  ∀ (pins : List (Addr × Obj)) (s : Shared) (σ : St) (H : Hp) (Q : List (V × V) → Hp → Prop), Inv X pins σ H s → tPairs trs σ H Q →
    wpAny (model X.prog X.w) X.A (evalPairs (pairTrees keys values X.env pos)) (fun vs s' => ∃ ps H', Inv X pins σ H' s' ∧ VV ps vs ∧ Q ps H') X.xe s
def mergeK (kvs more : List (Key × V)) : List (Key × V) := more.foldl (fun acc kv => putK acc kv.1 kv.2) kvs
/-- {k: v, ..} with keys ints and texts; the new dict stands empty while the pairs are made -/
def tDisp (trs : List (TE × TE)) : TE := fun σ H Q => ∀ p, H p = none → tPairs trs σ (upd H p (.dK [])) fun ps H2 => H2 p = some (.dK []) ∧ ∃ kvs : List (Key × V), ps = kvs.map (fun kv => (kV kv.1, kv.2)) ∧ kvs.length ≤ 15 ∧ Q (.ref p) (upd H2 p (.dK (mergeK [] kvs)))
/-! ### methods -/
/-- a method call o.m(e) of a built-in, with one argument: what must be seen of the text -/
structure M1 (X : Cx) (o : Expr) (m : Str) (apos : Pos) (e : Expr) (cpos : Pos) : Prop where
  base : attributeBase o m X.env (eval o X.env) = eval o X.env
  few : ((backTo cpos (starEach [e] X.env)).all (fun x => !x.1) && (backToKw cpos (keywordEach [] X.env)).all (fun x => x.1.isSome)
    && decide (([e] : List Expr).length + ([] : List Keyword).length + (if ([] : List Keyword).isEmpty then 0 else 1) < 30)) = true
  line : (apos.endLine == cpos.line) = true
  trees : backTo cpos (starEach [e] X.env) = [(false, eval e X.env)]
structure M2 (X : Cx) (o : Expr) (m : Str) (apos : Pos) (e f : Expr) (cpos : Pos) : Prop where
  base : attributeBase o m X.env (eval o X.env) = eval o X.env
  few : ((backTo cpos (starEach [e, f] X.env)).all (fun x => !x.1) && (backToKw cpos (keywordEach [] X.env)).all (fun x => x.1.isSome)
    && decide (([e, f] : List Expr).length + ([] : List Keyword).length + (if ([] : List Keyword).isEmpty then 0 else 1) < 30)) = true
  line : (apos.endLine == cpos.line) = true
  trees : backTo cpos (starEach [e, f] X.env) = [(false, eval e X.env), (false, eval f X.env)]

/-- a is a dict, whatever its keys -/
def IsD (H : Hp) (a : Addr) : Prop := (∃ kvs, Rd H a (.dK kvs)) ∨ ∃ kvs, Rd H a (.dT kvs)
section
variable {X : Cx} {pins : List (Addr × Obj)} {σ : St} {H : Hp} {s : Shared} {a : Addr} {y d : V} {u r : Value} {o : Option V} {A : Around} {E : Value → Shared → Prop}
end

def tDGet1 (td ty : TE) : TE := fun σ H Q => td σ H fun x H1 => ∃ a, x = .ref a ∧ IsD H1 a ∧ ty σ H1 fun y H2 => ∃ o, DGet H2 a y o ∧ Q (o.getD .non) H2
def tDGet2 (td ty tx : TE) : TE := fun σ H Q => td σ H fun x H1 => ∃ a, x = .ref a ∧ IsD H1 a ∧ ty σ H1 fun y H2 => tx σ H2 fun z H3 => ∃ o, DGet H3 a y o ∧ Q (o.getD z) H3
/-- d.pop(k): there; d.pop(k, x): there or not -/
def tDPop1 (td ty : TE) : TE := fun σ H Q => td σ H fun x H1 => ∃ a, x = .ref a ∧ IsD H1 a ∧ ty σ H1 fun y H2 => ∃ kvs k v, H2 a = some (.dK kvs) ∧ y = kV k ∧ valV kvs k = some v ∧ Q v (upd H2 a (.dK (dropK kvs k)))
def tDPop2 (td ty tx : TE) : TE := fun σ H Q => td σ H fun x H1 => ∃ a, x = .ref a ∧ IsD H1 a ∧ ty σ H1 fun y H2 => tx σ H2 fun z H3 => ∃ kvs k, H3 a = some (.dK kvs) ∧ y = kV k ∧
  (∀ v, valV kvs k = some v → Q v (upd H3 a (.dK (dropK kvs k)))) ∧ (valV kvs k = none → Q z H3)
section
variable {X : Cx} {o e f : Expr} {apos cpos : Pos} {td ty tx : TE}
end

/-! ### dict(d): a copy -/
section
variable {X : Cx} {pins : List (Addr × Obj)} {σ : St} {H : Hp} {s : Shared} {a : Addr} {kvs : List (Key × V)} {A : Around} {E : Value → Shared → Prop}
end


section
variable {X : Cx} {pins : List (Addr × Obj)} {σ : St} {H : Hp} {s : Shared} {a : Addr} {y : V} {u : Value} {A : Around} {E : Value → Shared → Prop}
end
end L2
namespace L2
open PySem PySem.Spec PyProof.Rows
/-! ### a dict's pairs: keys that differ -/
section
variable {κ : Type} [DecidableEq κ]
end
end L2

set_option Elab.async false
set_option linter.all false
set_option maxRecDepth 100000
set_option maxHeartbeats 4000000
/-! sorted(.., key=f) of a list, f a def of the text that tells an int of each item. -/
namespace Rm
open PySem PySem.W PyProof.Rows L2
section
variable {prog : Program} {w : World} {A : Around} {E : Value → Shared → Prop} {S : Shared}
end
section
variable {X : Cx} {pins : List (Addr × Obj)} {σ : L2.St} {H : Hp} {s : Shared}
end
end Rm
namespace L2
open PySem PySem.W PySem.Spec PyProof.Rows Rm
/-! ### sorted(e, key=f) -/
def tSortK (K : PySem.W.Frag) (sp : Sp) (te : TE) : TE := fun σ H Q => te σ H fun x H1 => ∃ (l : Addr) (xs : List V) (kz : List Int), x = .ref l ∧ SqL K H1 l xs ∧ xs.length < 64 ∧ kz.length = xs.length ∧
  (∀ (i : Nat) x k (Q' : VK), xs[i]? = some x → kz[i]? = some k → Q' (.int k) H1 → sp [x] H1 Q' E0) ∧
  ∀ (l' : Addr) (zs : List (Int × V)), H1 l' = none → zs.Perm (kz.zip xs) → zs.Pairwise (fun a b => a.1 ≤ b.1) → Q (.ref l') (upd H1 l' (.lst (zs.map (·.2))))
section
variable {X : Cx} {k : Nat} {x f : Str} {st : Stmt} {ps : List Str} {sp : Sp} {e : Expr} {te : TE} {p p2 kp pos : Pos}
end
end L2

set_option Elab.async false
set_option linter.all false
set_option maxRecDepth 100000
set_option maxHeartbeats 4000000
/-! [e for k in d if c], d a dict by tuples: it stands still while it is walked. -/
namespace L2
open PySem PySem.Spec PyProof.Rows
section
variable {prog : Program} {w : World} {A : Around} {E : Value → Shared → Prop} {s : Shared}
end
/-! ### the walk -/
def ItD (a : Addr) (o : Obj) (kvs : List (List Key × V)) : It :=
  ⟨fun i H => i < kvs.length ∧ H a = some (.frz o (.dT kvs)), fun i H x H' => H' = H ∧ ∃ k v b, kvs[i]? = some (k, v) ∧ x = .ref b ∧ H b = some (.tup (k.map kV)), fun i H => i = kvs.length ∧ H a = some (.frz o (.dT kvs))⟩
section
variable {X : Cx} {pins : List (Addr × Obj)} {σ : St} {H : Hp} {s : Shared} {a : Addr} {o : Obj} {kvs : List (List Key × V)}
/-! ### the rules -/
def tCompD (k : Nat) (caps : List Nat) (tl : TE) (g : TG) (tf : TT) (te : TE) : TE := fun σ H Q => tl σ H fun x H1 => ∃ (a : Addr) (kvs : List (List Key × V)), x = .ref a ∧ H1 a = some (.dT kvs) ∧
  ∀ o, CompJ (ItD a o kvs) g tf te (fun v H' => H' a = some (.frz o (.dT kvs)) ∧ Q v (upd H' a (.dT kvs))) (initC k caps σ) (upd H1 a (.frz o (.dT kvs)))
theorem w_dget {td ty : TE} {Q : VK} : tDGet td ty σ H Q = td σ H fun x H1 => ty σ H1 fun y H2 => ∃ a v, x = .ref a ∧ DGet H2 a y (some v) ∧ Q v H2 := rfl
theorem w_dput {td ty tv : TE} {D : Ends} : sDPut td ty tv D σ H = tv σ H fun v H1 => td σ H1 fun x H2 => ty σ H2 fun y H3 => ∃ a H4, x = .ref a ∧ DPut H3 a y v H4 ∧ D.nx σ H4 := rfl
theorem w_dnewK {Q : VK} : tDNewK σ H Q = ∀ p, H p = none → Q (.ref p) (upd H p (.dK [])) := rfl
theorem w_din {ty td : TE} {Q : VK} : tDIn ty td σ H Q = ty σ H fun y H1 => td σ H1 fun x H2 => ∃ a o, x = .ref a ∧ DGet H2 a y o ∧ Q (.bl o.isSome) H2 := rfl
theorem w_dnotin {ty td : TE} {Q : VK} : tDNotIn ty td σ H Q = ty σ H fun y H1 => td σ H1 fun x H2 => ∃ a o, x = .ref a ∧ DGet H2 a y o ∧ Q (.bl (!o.isSome)) H2 := rfl
theorem pt_dnotin {k d : Expr} {ty td : TE} {pos : Pos} (hu : X.A.units + 1 < cLine) (hk : PE X k ty) (hd : PE X d td) (hm : behindInMarks .NotIn d = false := by first | rfl | with_unfolding_all rfl) : PT X (.Compare k [.NotIn] [d] pos) (tB (tDNotIn ty td)) := pt_cmp (pc_dnotin hu hk hd) hm
end
end L2

set_option Elab.async false
set_option linter.all false
set_option maxRecDepth 100000
set_option maxHeartbeats 4000000
/-! Mazes: sides, rows, the bows of a maze. -/
namespace L2
open PySem PySem.Spec PyProof.Rows
section
variable {σ : St} {H : Hp}
theorem w_sl {r : V → Option Int → Option Int → Hp → VK → Prop} {te : TE} {tl th : TO} {Q : VK} : tSl r te tl th σ H Q = te σ H fun x H1 => tl σ H1 fun l H2 => th σ H2 fun u H3 => r x l u H3 Q := rfl
theorem w_part {t : TE} {Q : Option Int → Hp → Prop} : tPart t σ H Q = t σ H fun x H1 => ∃ i, x = .int i ∧ Q (some i) H1 := rfl
theorem w_nopart {Q : Option Int → Hp → Prop} : tNoPart σ H Q = Q none H := rfl
end
end L2
namespace Rm
open PySem L2
/-- the sides: false is the left one -/
def sd (b : Bool) : Str := if b then Str.ofString "r" else Str.ofString "l"
def odd (i : Nat) : Bool := i % 2 == 1
theorem odd_succ (i : Nat) : odd (i + 1) = !odd i := by
  unfold odd
  rcases Nat.mod_two_eq_zero_or_one i with h | h <;> simp [Nat.add_mod, h]
def rowsZ (ns : List Int) : List Int := 0 :: (ns ++ [(ns.length : Int) + 1])
theorem rowsZ_len (ns : List Int) : (rowsZ ns).length = ns.length + 2 := by simp [rowsZ]
def rowZ (ns : List Int) (i : Nat) : Int := (rowsZ ns).getD i 0
def stepB (ns : List Int) (i : Nat) : Bw := (min (rowZ ns i) (rowZ ns (i + 1)), max (rowZ ns i) (rowZ ns (i + 1)))
def onSide (b s : Bool) (i : Nat) : Bool := (b ^^ odd i) == s
def sideBows (b : Bool) (ns : List Int) (s : Bool) (m : Nat) : List Bw := ((List.range m).filter (onSide b s)).map (stepB ns)
theorem sideBows_len (b : Bool) (ns : List Int) (s : Bool) (m : Nat) : (sideBows b ns s m).length ≤ m := by
  unfold sideBows
  rw [List.length_map]
  exact Nat.le_trans (List.length_filter_le _ _) (by rw [List.length_range]; exact Nat.le_refl _)
structure Ord (ns : List Int) : Prop where
  len : ns.length ≤ 20
  perm : ns.Perm (rngZ 1 ns.length)
theorem Ord.mem {ns : List Int} (O : Ord ns) {x : Int} : x ∈ ns ↔ 1 ≤ x ∧ x ≤ ns.length := O.perm.mem_iff.trans mem_rng1
theorem Ord.rows_nodup {ns : List Int} (O : Ord ns) : (rowsZ ns).Nodup := by
  have nd : ns.Nodup := O.perm.nodup_iff.mpr (rng1_nodup _)
  unfold rowsZ
  rw [List.nodup_cons, List.nodup_append]
  refine ⟨fun h => ?_, nd, by simp, fun a ha b hb e => ?_⟩
  · rcases List.mem_append.mp h with z | z
    · have := O.mem.mp z; omega
    · have : (0 : Int) = ns.length + 1 := by simpa using z
      omega
  · have : b = (ns.length : Int) + 1 := by simpa using hb
    have := O.mem.mp ha
    omega
theorem Ord.rows_mem {ns : List Int} (O : Ord ns) {x : Int} (h : x ∈ rowsZ ns) : 0 ≤ x ∧ x ≤ (ns.length : Int) + 1 := by
  unfold rowsZ at h
  rcases List.mem_cons.mp h with z | z
  · omega
  · rcases List.mem_append.mp z with z | z
    · have := O.mem.mp z; omega
    · have : x = (ns.length : Int) + 1 := by simpa using z
      omega
theorem rowZ_get {ns : List Int} {i : Nat} (h : i < ns.length + 2) : (rowsZ ns)[i]? = some (rowZ ns i) := by
  unfold rowZ
  have : i < (rowsZ ns).length := by rw [rowsZ_len]; exact h
  simp [List.getD, this]
theorem Ord.row_inj {ns : List Int} (O : Ord ns) {i j : Nat} (hi : i < ns.length + 2) (hj : j < ns.length + 2) (h : rowZ ns i = rowZ ns j) : i = j := by
  have h1 := List.getElem?_eq_some_iff.mp (rowZ_get hi)
  have h2 := List.getElem?_eq_some_iff.mp (rowZ_get hj)
  exact (List.getElem_inj O.rows_nodup (h₀ := h1.1) (h₁ := h2.1)).mp (h1.2.trans (h.trans h2.2.symm))
theorem Ord.row_in {ns : List Int} (O : Ord ns) {i : Nat} (hi : i < ns.length + 2) : 0 ≤ rowZ ns i ∧ rowZ ns i ≤ (ns.length : Int) + 1 := O.rows_mem (List.mem_of_getElem? (rowZ_get hi))
theorem Ord.step_lt {ns : List Int} (O : Ord ns) {i : Nat} (hi : i ≤ ns.length) : (stepB ns i).1 < (stepB ns i).2 := by
  have : rowZ ns i ≠ rowZ ns (i + 1) := fun e => by
    have := O.row_inj (by omega) (by omega) e
    omega
  show min (rowZ ns i) (rowZ ns (i + 1)) < max (rowZ ns i) (rowZ ns (i + 1))
  omega
theorem Ord.step_in {ns : List Int} (O : Ord ns) {i : Nat} (hi : i ≤ ns.length) : 0 ≤ (stepB ns i).1 ∧ (stepB ns i).2 ≤ (ns.length : Int) + 1 := by
  have h1 := O.row_in (i := i) (by omega)
  have h2 := O.row_in (i := i + 1) (by omega)
  show 0 ≤ min (rowZ ns i) (rowZ ns (i + 1)) ∧ max (rowZ ns i) (rowZ ns (i + 1)) ≤ _
  omega
theorem side_mem {b : Bool} {ns : List Int} {s : Bool} {m : Nat} {p : Bw} (h : p ∈ sideBows b ns s m) : ∃ i, i < m ∧ onSide b s i = true ∧ p = stepB ns i := by
  unfold sideBows at h
  obtain ⟨i, hi, rfl⟩ := List.mem_map.mp h
  obtain ⟨h1, h2⟩ := List.mem_filter.mp hi
  exact ⟨i, List.mem_range.mp h1, h2, rfl⟩
/-- a row is one of a bow's two -/
def hasR (x : Int) (p : Bw) : Bool := decide (x = p.1) || decide (x = p.2)
theorem Ord.has_iff {ns : List Int} (O : Ord ns) {i j : Nat} (hi : i < ns.length + 2) (hj : j ≤ ns.length) : hasR (rowZ ns i) (stepB ns j) = decide (j = i ∨ j + 1 = i) := by
  have e : hasR (rowZ ns i) (stepB ns j) = decide (rowZ ns i = rowZ ns j ∨ rowZ ns i = rowZ ns (j + 1)) := by
    show (decide (rowZ ns i = min (rowZ ns j) (rowZ ns (j + 1))) || decide (rowZ ns i = max (rowZ ns j) (rowZ ns (j + 1)))) = _
    rw [← Bool.decide_or]
    exact decide_eq_decide.mpr (by omega)
  rw [e]
  refine decide_eq_decide.mpr ⟨fun h => ?_, fun h => ?_⟩
  · rcases h with h | h
    · exact .inl (O.row_inj hi (by omega) h).symm
    · exact .inr (O.row_inj hi (by omega) h).symm
  · rcases h with rfl | rfl
    · exact .inl rfl
    · exact .inr rfl
theorem range_one {k : Nat} : ∀ {m : Nat}, k < m → (List.range m).filter (fun j => decide (j = k)) = [k]
  | m + 1, h => by
    rw [List.range_succ, List.filter_append]
    by_cases e : k = m
    · subst e
      have : (List.range k).filter (fun j => decide (j = k)) = [] := List.filter_eq_nil_iff.mpr fun x hx => by have := List.mem_range.mp hx; simp; omega
      simp [this]
    · have hm : ¬ m = k := fun z => e z.symm
      rw [range_one (m := m) (by omega)]
      simp [hm]
theorem odd_ne {b s : Bool} {j k : Nat} (h1 : onSide b s j = true) (h2 : onSide b s k = true) (h : j = k + 1) : False := by
  subst h
  simp only [onSide, odd_succ, beq_iff_eq] at h1 h2
  cases b <;> cases s <;> cases hk : odd k <;> simp [hk] at h1 h2
/-- of the bows of one side just one has a row that a step of this side comes from or to -/
theorem Ord.only {ns : List Int} (O : Ord ns) {b s : Bool} {i k : Nat} (hk : k ≤ ns.length) (hs : onSide b s k = true) (h : k = i ∨ k + 1 = i) : (sideBows b ns s (ns.length + 1)).filter (hasR (rowZ ns i)) = [stepB ns k] := by
  unfold sideBows
  rw [List.filter_map, List.filter_filter]
  have e : (List.range (ns.length + 1)).filter (fun a => (hasR (rowZ ns i) ∘ stepB ns) a && onSide b s a) = (List.range (ns.length + 1)).filter (fun j => decide (j = k)) := by
    refine List.filter_congr fun j hj => ?_
    have hj := List.mem_range.mp hj
    show (hasR (rowZ ns i) (stepB ns j) && onSide b s j) = _
    rw [O.has_iff (by omega) (by omega)]
    by_cases e : j = k
    · subst e; simp [hs, h]
    · cases hsj : onSide b s j with
      | false => simp [e]
      | true =>
        have : ¬ (j = i ∨ j + 1 = i) := fun z => by
          have : j = k + 1 ∨ k = j + 1 := by omega
          rcases this with z | z
          · exact odd_ne hsj hs z
          · exact odd_ne hs hsj z
        simp [this, e]
  rw [e, range_one (by omega)]
  rfl
/-! ### sorted lists of bows -/
theorem leB_one {ps qs : List Bw} (hp : ps.Perm qs) (h1 : ps.Pairwise leB) (h2 : qs.Pairwise leB) : ps = qs :=
  List.Perm.eq_of_pairwise (fun a b _ _ h h' => by
    unfold leB at h h'
    exact Prod.ext (by omega) (by omega)) h1 h2 hp
/-- the bows of a side, sorted -/
structure SideOf (b : Bool) (ns : List Int) (s : Bool) (L : List Bw) : Prop where
  perm : L.Perm (sideBows b ns s (ns.length + 1))
  asc : L.Pairwise leB
theorem SideOf.uniq {b : Bool} {ns : List Int} {s : Bool} {L M : List Bw} (h : SideOf b ns s L) (h' : SideOf b ns s M) : L = M := leB_one (h.perm.trans h'.perm.symm) h.asc h'.asc
theorem SideOf.len {b : Bool} {ns : List Int} {s : Bool} {L : List Bw} (h : SideOf b ns s L) (O : Ord ns) : L.length ≤ 21 := by
  have h1 := h.perm.length_eq
  have h2 := sideBows_len b ns s (ns.length + 1)
  have := O.len
  omega
theorem SideOf.lt {b : Bool} {ns : List Int} {s : Bool} {L : List Bw} (h : SideOf b ns s L) (O : Ord ns) : ∀ p ∈ L, p.1 < p.2 := fun p hp => by
  obtain ⟨i, hi, _, rfl⟩ := side_mem (h.perm.mem_iff.mp hp)
  exact O.step_lt (by omega)
theorem SideOf.in {b : Bool} {ns : List Int} {s : Bool} {L : List Bw} (h : SideOf b ns s L) (O : Ord ns) : ∀ p ∈ L, 0 ≤ p.2 ∧ p.2 < 1000 := fun p hp => by
  obtain ⟨i, hi, _, rfl⟩ := side_mem (h.perm.mem_iff.mp hp)
  have := O.step_in (i := i) (by omega)
  have := O.step_lt (i := i) (by omega)
  have := O.len
  omega
theorem SideOf.only {b : Bool} {ns : List Int} {s : Bool} {L : List Bw} (h : SideOf b ns s L) (O : Ord ns) {i k : Nat} (hk : k ≤ ns.length) (hs : onSide b s k = true) (e : k = i ∨ k + 1 = i) : L.filter (hasR (rowZ ns i)) = [stepB ns k] := by
  have := h.perm.filter (hasR (rowZ ns i))
  rw [O.only hk hs e] at this
  exact List.perm_singleton.mp this
/-! ### the specs -/
def MazeAt (H : Hp) (m o : Addr) (b : Bool) (ns : List Int) : Prop := H m = some (.tup [.str (sd b), .ref o]) ∧ H o = some (.tup (ns.map V.int))
theorem MazeAt.same {H H' : Hp} {m o : Addr} {b : Bool} {ns : List Int} (h : MazeAt H m o b ns) (s : Same H H') : MazeAt H' m o b ns := ⟨s _ _ h.1, s _ _ h.2⟩
def spOther : Sp := fun vs H Q _ => ∃ b, vs = [.str (sd b)] ∧ Q (.str (sd !b)) H
def spSideOf : Sp := fun vs H Q _ => ∃ m o b ns, ∃ k : Nat, vs = [.ref m, .int k] ∧ MazeAt H m o b ns ∧ Q (.str (sd (b ^^ odd k))) H
def spRows : Sp := fun vs H Q _ => ∃ m o b ns, vs = [.ref m] ∧ MazeAt H m o b ns ∧ ns.length ≤ 40 ∧ ∀ l H', H l = none → Same H H' → H' l = some (.lst ((rowsZ ns).map V.int)) → Q (.ref l) H'
structure BowsOf (H : Hp) (t l r : Addr) (b : Bool) (ns : List Int) (L R : List Bw) : Prop where
  tup : H t = some (.tup [.ref l, .ref r])
  left : BowsAt H l L
  right : BowsAt H r R
  isL : SideOf b ns false L
  isR : SideOf b ns true R
  ne : l ≠ r
def spBowsOf : Sp := fun vs H Q _ => ∃ m o b ns, vs = [.ref m] ∧ MazeAt H m o b ns ∧ Ord ns ∧ ∀ t l r L R H', H t = none → H l = none → H r = none → Same H H' → BowsOf H' t l r b ns L R → Q (.ref t) H'
def spFrom : Sp := fun vs H Q _ => ∃ l ps x p, vs = [.ref l, .int x] ∧ BowsAt H l ps ∧ ps.length ≤ 40 ∧ ps.filter (hasR x) = [p] ∧ ∀ H', Same H H' → Q (.int (p.1 + p.2 - x)) H'
def spSound : Sp := fun vs H Q _ => ∃ l ps, vs = [.ref l] ∧ BowsAt H l ps ∧ ps.length ≤ 40 ∧ ps.Pairwise leB ∧ (∀ p ∈ ps, 0 ≤ p.2 ∧ p.2 < 1000) ∧ (∀ p ∈ ps, p.1 < p.2) ∧ ∀ H', Same H H' → Q (.bl true) H'
end Rm
namespace Rm
open PySem L2
end Rm

set_option Elab.async false
set_option linter.all false
set_option maxRecDepth 100000
set_option maxHeartbeats 4000000
/-! Loops over the signs of a text, and over them with their numbers. -/
namespace L2
open PySem PySem.Spec PyProof.Rows
section
variable {X : Cx} {pins : List (Addr × Obj)} {σ : St} {H : Hp} {s : Shared} {h' : Heap}
/-- records at fp have turned, and a new thing at p is tracked -/
theorem Inv.turnNew {fp : List Addr} {p : Addr} {o : HO} {t' : Nat} (I : Inv X pins σ H s) (hf : ∀ b ∈ fp, FpOk X pins H b) (k : ∀ b u, b ∉ fp → s.heap.get? b = some u → h'.get? b = some u) (hp : s.heap.objs.size ≤ p)
    (new : ObjOk X.prog X.w (upd H p o) h' p o) : Inv X pins σ (upd H p o) { s with heap := h', toks := t' } := by
  have hn : H p = none := I.hok.fresh hp
  have nfp : ∀ b u, H b = some u → b ∉ fp := fun b u e z => by rw [(hf b z).1] at e; cases e
  refine I.step (g' := s.gens) (d' := s.drawn) (ch := fp) (fun b hb => ?_) (fun b u _ _ hc e _ => k b u hc e) (fun b u _ _ hc e _ => ⟨u.slots, k b u hc e⟩)
    (fun b u _ e n => by rw [upd_ne (Nat.ne_of_lt (Nat.lt_of_lt_of_le (Heap.lt_size e) hp))]; exact n) (fun b u hc e => ⟨u, k b u hc e⟩) (fun b xs e => by rw [upd_ne (ne_of_none e hn)]; exact e)
    (fun b u xs e => by rw [upd_ne (ne_of_none e hn)]; exact e) (fun b ps e => ⟨#[], by rw [upd_ne (ne_of_none e hn), e]; simp⟩) (fun m hm => ?_) (fun b u e => ?_) I.bare
  · obtain ⟨_, f1, _, f3, f4, f5⟩ := hf b hb
    exact ⟨f3, f1, f4, f5⟩
  · obtain ⟨ob, es, ep, ho, r⟩ := hm
    exact ⟨ob, es, ep, k _ ob (fun z => (hf _ z).2.1 rfl) ho, r⟩
  · by_cases hb : b = p
    · subst hb; rw [upd_same] at e; cases e; exact new
    · rw [upd_ne hb] at e
      refine (I.hok b u e).stay (fun c v hc q => k c v ?_ q) (fun c q => by rw [upd_ne (ne_of_none q hn)]; exact q) fun c xs q => by rw [upd_ne (ne_of_none q hn)]; exact q
      rcases hc with z | z
      · rw [z]; exact nfp b u e
      · exact nfp c _ z
end
/-! ### the signs of a text -/
def Its (x : Str) : It := ⟨fun i _ => i < x.cps.size, fun i H v H' => H' = H ∧ ∃ c, x.cps[i]? = some c ∧ v = .str ⟨#[c]⟩, fun i _ => x.cps.size ≤ i⟩
theorem turn_str {P : Program} {w : World} {K : PySem.W.Frag} {tg : Expr} (it : Addr) (x : Str) (t : Tok) : Turn P w K tg (Its x) [it] it (fun i h => h.IsStrIter it "str_ascii_iterator" x t i) where
  mem := by simp
  obj := fun i h st b hb => by
    have e : b = it := by simpa using hb
    subst e
    obtain ⟨o, e, c, d⟩ := st
    exact ⟨o, e, fun v z => by rw [d] at z; cases z⟩
  keep := fun i h h' st k => by
    obtain ⟨o, e, r⟩ := st
    exact ⟨o, k it (by simp) o e, r⟩
  item := by
    intro X hP hw hK hc i pins s σ H E I hf st hg
    subst hP hw hK
    obtain ⟨f0, f1, f2, f3, f4, f5⟩ := hf it (by simp)
    have hx : x.cps[i]? = some x.cps[i] := Array.getElem?_eq_getElem hg
    refine wpAny_pyNext_ascii_item st hx fun h' st' sb => ?_
    have I1 : Inv X pins σ H { s with heap := h', toks := s.toks + 1 } := I.turned (t' := s.toks + 1) (fun b o hb e => (sb.2 b hb).trans e) f0 f1 f3 f4 f5
    obtain ⟨o, e, c, d⟩ := id st'
    exact ⟨_, rfl, go_of (s := { s with heap := h', toks := s.toks + 1 }) e c d (by decide) ⟨.str ⟨#[x.cps[i]]⟩, H, I1, ⟨_, rfl⟩, ⟨rfl, _, hx, rfl⟩, st', fun b hb => (hf b hb).1⟩⟩
  done := by
    intro X hP hw hK hc i pins s σ H E I hf st hg
    subst hP hw hK
    obtain ⟨f0, f1, f2, f3, f4, f5⟩ := hf it (by simp)
    exact wpAny_pyNext_ascii_end (I.ok.hd hc) st (Array.getElem?_eq_none hg) fun h' eb => ⟨rfl, I.turned (t' := s.toks) (fun b o hb e => eb b o hb e) f0 f1 f3 f4 f5⟩
  self := fun _ _ _ _ _ st h => wpAny_pyIter_striter_ascii st h
def iStr (tl : TE) : TI := fun σ H R => tl σ H fun x H1 => ∃ z, x = .str z ∧ z.cps.all (· < 128) = true ∧ R (Its z) H1
theorem pi_str {X : Cx} {tg l : Expr} {tl : TE} (hl : PE X l tl) : PI X tg l (iStr tl) := by
  intro pins s σ H R I h
  refine thn (hl pins s σ H _ I h) fun v s1 ⟨x, H1, I1, r1, z, e, ha, q⟩ => ?_
  subst e
  obtain ⟨t, rfl⟩ := r1
  refine wpAny_pyIter_ascii ha ?_
  exact ⟨s1.heap.objs.size, [s1.heap.objs.size], _, _, H1, rfl, I1.kept (t' := s1.toks) fun b o e => Heap.get?_push_of_some _ e, turn_str _ z t, ⟨_, Heap.get?_push_size _ rfl, rfl, rfl⟩,
    fun b hb => by
      have e : b = s1.heap.objs.size := by simpa using hb
      subst e
      exact I1.fpOk (Nat.le_refl _) (I1.hok.fresh (Nat.le_refl _)), q⟩
/-! ### enumerate(text) -/
def Ite (x : Str) : It := ⟨fun i _ => i < x.cps.size, fun i H v H' => ∃ p c, H p = none ∧ x.cps[i]? = some c ∧ v = .ref p ∧ H' = upd H p (.tup [.int i, .str ⟨#[c]⟩]), fun i _ => i = x.cps.size⟩
theorem turn_enum {P : Program} {w : World} {K : PySem.W.Frag} {elts : List Expr} {x1 : Nat} {pos : Pos} (e it : Addr) (hne : e ≠ it) (x : Str) (t : Tok) :
    Turn P w K (.Tuple elts x1 pos) (Ite x) [e, it] e (fun i h => (∃ old, IsEnum h e it i old) ∧ h.IsStrIter it "str_ascii_iterator" x t i) where
  mem := by simp
  obj := fun i h st b hb => by
    obtain ⟨⟨old, he⟩, o, ei, c, d⟩ := st
    rcases List.mem_cons.mp hb with z | z
    · subst z; exact ⟨_, he, fun v z => by cases z⟩
    · have z' : b = it := by simpa using z
      subst z'
      exact ⟨o, ei, fun v z => by rw [d] at z; cases z⟩
  keep := fun i h h' st k => by
    obtain ⟨⟨old, he⟩, o, ei, r⟩ := st
    exact ⟨⟨old, k e (by simp) _ he⟩, o, k it (by simp) o ei, r⟩
  item := by
    intro X hP hw hK hc i pins s σ H E I hf st hg
    subst hP hw hK
    obtain ⟨⟨old, he⟩, hst⟩ := st
    have D : Draws X.prog X.w X.A.in1 it [it] x.cps.size _ _ := Draws.strAscii (show X.A.in1.handled = none from I.ok.hd hc) it x t
    refine wpAny_pyNext_enum_itemD D he hst hg hne (by simpa using hne) fun v h' tk hv ho st' ht hsz kp => ?_
    obtain ⟨c, u, hx, rfl⟩ := hv
    refine ⟨_, rfl, wpAny_letOwnedTupleGo_enum ho fun h2 he2 hs2 => ?_⟩
    have het : s.heap.objs.size ≠ e := Nat.ne_of_gt (Heap.lt_size he)
    have ht2 : h2.get? s.heap.objs.size = some { cls := .type "tuple", data := .seq #[.int i tk, .str ⟨#[c]⟩ u] } := (hs2.2 _ het).trans ht
    have hn : H s.heap.objs.size = none := I.hok.fresh (Nat.le_refl _)
    refine ⟨.ref s.heap.objs.size, upd H s.heap.objs.size (.tup [.int i, .str ⟨#[c]⟩]), I.turnNew (fp := [e, it]) hf (fun b o hb q => ?_) (Nat.le_refl _) (show ObjOk X.prog X.w _ h2 _ (.tup _) from ⟨(by show 2 ≤ sizeLine; decide), [.int i tk, .str ⟨#[c]⟩ u], .cons ⟨_, rfl⟩ (.cons ⟨_, rfl⟩ .nil), _, ht2, rfl, _, rfl⟩), rfl, ⟨_, c, hn, hx, rfl, rfl⟩, ⟨⟨_, by exact_mod_cast he2⟩, ?_⟩, fun b hb => ?_⟩
    · have n1 : b ≠ e := fun z => hb (by simp [z])
      have n2 : b ≠ it := fun z => hb (by simp [z])
      exact (hs2.2 b n1).trans (kp b o n1 n2 q)
    · obtain ⟨o, ei, r⟩ := st'
      exact ⟨o, (hs2.2 it hne.symm).trans ei, r⟩
    · have hb' := (hf b hb).1
      rw [upd_ne (fun z => ?_)]
      · exact hb'
      · obtain ⟨o, q, _⟩ := hst
        rcases List.mem_cons.mp hb with y | y
        · exact het (z.symm.trans y)
        · have y' : b = it := by simpa using y
          exact absurd (y'.symm.trans z) (Nat.ne_of_lt (Heap.lt_size q))
  done := by
    intro X hP hw hK hc i pins s σ H E I hf st hg
    subst hP hw hK
    obtain ⟨⟨old, he⟩, hst⟩ := st
    have hg' : i = x.cps.size := hg
    subst hg'
    obtain ⟨f0, f1, f2, f3, f4, f5⟩ := hf it (by simp)
    have D : Draws X.prog X.w X.A.in1 it [it] x.cps.size _ _ := Draws.strAscii (show X.A.in1.handled = none from I.ok.hd hc) it x t
    exact wpAny_pyNext_enum_endD D he hst fun h' eb => ⟨rfl, I.turned (t' := s.toks) (fun b o hb q => eb b o hb q) f0 f1 f3 f4 f5⟩
  self := fun _ _ _ _ _ st h => by
    obtain ⟨⟨old, he⟩, _⟩ := st
    exact wpAny_pyIter_enum he h
def iEnum (ta : TA) : TI := fun σ H R => ta σ H fun vs H1 => ∃ z, vs = [.str z] ∧ z.cps.all (· < 128) = true ∧ R (Ite z) H1
theorem pi_enum {X : Cx} {a : Expr} {ta : TA} {elts : List Expr} {x1 : Nat} {p pos tpos : Pos} (hg : Gl X "enumerate") (hm : X.mg "enumerate" = none) (ha : PA X [a] ta) (hs : starEach [a] X.env = [(false, eval a X.env)] := by rfl) :
    PI X (.Tuple elts x1 tpos) (.Call (.Name "enumerate" p) [a] [] pos) (iEnum ta) := by
  intro pins s σ H R I h
  refine Call_ (ld_blt I hg hm boot_enumerate (PyProof.Rows.callWith_type1 (thn (ha pos pins s σ H _ I h) fun us s1 ⟨vs, H1, I1, r1, z, e, hz, q⟩ => ?_) hs rfl))
  subst e
  obtain ⟨u, rfl, t, rfl⟩ := vals1 r1
  refine call_enumerate_str fun h' he hit hsz kp => ?_
  have ht : strIterType z = "str_ascii_iterator" := by unfold strIterType; rw [if_pos hz]
  rw [ht] at hit
  refine wpAny_pyIter_enum he ?_
  have I2 : Inv X pins σ H1 { s1 with heap := h' } := I1.kept (t' := s1.toks) kp
  exact ⟨s1.heap.objs.size + 1, [s1.heap.objs.size + 1, s1.heap.objs.size], _, _, H1, rfl, I2, turn_enum _ _ (Nat.succ_ne_self _) z t, ⟨⟨_, he⟩, hit⟩,
    fun b hb => by
      have hle : s1.heap.objs.size ≤ b := by
        rcases List.mem_cons.mp hb with y | y
        · rw [y]; exact Nat.le_succ _
        · have y' : b = s1.heap.objs.size := by simpa using y
          exact Nat.le_of_eq y'.symm
      exact I1.fpOk hle (I1.hok.fresh hle), q⟩
section
variable {σ : St} {H : Hp} {D : Ends}
theorem w_forS {tl : TE} {g : TG} {tb : TS} : tFor (iStr tl) g tb D σ H = tl σ H fun x H1 => ∃ z, x = .str z ∧ z.cps.all (· < 128) = true ∧ ForJ (Its z) g tb D σ H1 := rfl
theorem w_forE {ta : TA} {g : TG} {tb : TS} : tFor (iEnum ta) g tb D σ H = ta σ H fun vs H1 => ∃ z, vs = [.str z] ∧ z.cps.all (· < 128) = true ∧ ForJ (Ite z) g tb D σ H1 := rfl
theorem w_exS {a : Str} {q : Str → Prop} : (∃ b, V.str a = .str b ∧ q b) = q a := propext ⟨fun ⟨_, e, h⟩ => by cases e; exact h, fun h => ⟨a, rfl, h⟩⟩
/-- over the signs of a text -/
theorem for_str {x : Str} {g : TG} {tb : TS} (Pv : Nat → St → Hp → Prop) (h0 : Pv 0 σ H)
    (hs : ∀ i c σ H, x.cps[i]? = some c → Pv i σ H → g (.str ⟨#[c]⟩) σ H fun σ2 H2 => tb { D with nx := Pv (i + 1), ct := Pv (i + 1), bk := D.nx } σ2 H2) (hd : ∀ σ H, Pv x.cps.size σ H → D.nx σ H) : ForJ (Its x) g tb D σ H := by
  refine ⟨fun i m σ H => m + i = x.cps.size ∧ Pv i σ H, ⟨x.cps.size, rfl, h0⟩, ?_⟩
  rintro i m σ H ⟨hm, hp⟩
  by_cases hi : i < x.cps.size
  · refine .inr ⟨hi, Pv (i + 1), fun σ' H' h => ⟨m - 1, by omega, by omega, h⟩, ?_⟩
    rintro v H' ⟨rfl, c, hc, rfl⟩
    exact hs i c σ H' hc hp
  · have e : i = x.cps.size := by omega
    subst e
    exact .inl ⟨Nat.le_refl _, hd σ H hp⟩
theorem for_enum {x : Str} {g : TG} {tb : TS} (Pv : Nat → St → Hp → Prop) (h0 : Pv 0 σ H)
    (hs : ∀ i c σ H p, x.cps[i]? = some c → Pv i σ H → H p = none → g (.ref p) σ (upd H p (.tup [.int i, .str ⟨#[c]⟩])) fun σ2 H2 => tb { D with nx := Pv (i + 1), ct := Pv (i + 1), bk := D.nx } σ2 H2) (hd : ∀ σ H, Pv x.cps.size σ H → D.nx σ H) : ForJ (Ite x) g tb D σ H := by
  refine ⟨fun i m σ H => m + i = x.cps.size ∧ Pv i σ H, ⟨x.cps.size, rfl, h0⟩, ?_⟩
  rintro i m σ H ⟨hm, hp⟩
  by_cases hi : i < x.cps.size
  · refine .inr ⟨hi, Pv (i + 1), fun σ' H' h => ⟨m - 1, by omega, by omega, h⟩, ?_⟩
    rintro v H' ⟨p, c, hn, hc, rfl, rfl⟩
    exact hs i c σ H p hc hp hn
  · have e : i = x.cps.size := by omega
    subst e
    exact .inl ⟨rfl, hd σ H hp⟩
end
end L2

set_option Elab.async false
set_option linter.all false
set_option maxRecDepth 100000
set_option maxHeartbeats 4000000
/-! max(ints, default=d). -/
namespace L2
open PySem PySem.Spec PyProof.Rows
def mxZ (z : Nat → Int) : Nat → Option Int
  | 0 => none
  | i + 1 => some (match mxZ z i with | none => z i | some m => if m < z i then z i else m)
def boA (b : Option Value) : Array Value := match b with | none => #[] | some v => #[v, v]
def boIs (b : Option Value) (m : Option Int) : Prop := match b, m with | none, none => True | some v, some i => ∃ t, v = .int i t | _, _ => False
section
variable {prog : Program} {w : World} {A : Around} {R : Result → Shared → Prop} {I : Addr} {fp wr : List Addr} {n : Nat} {P : Nat → Value → Prop} {St : Nat → Heap → Prop} {z : Nat → Int} {d : Value}
abbrev maxAgain (I S : Addr) (d : Value) : Code := .builtin "max.loop" ⟨[.ref I, .none, .ref S], [("default", d)]⟩
end
def mxS (m : Option Int) (x : Int) : Option Int := match m with | none => some x | some y => some (if y < x then x else y)
/-- the greatest of ints, d of none -/
def maxD (ns : List Int) (d : Int) : Int := (ns.foldl mxS none).getD d
def rMaxD (K : PySem.W.Frag) : V → V → Hp → VK → Prop := fun x y H Q => ∃ (p : Addr) (ns : List Int) (d : Int), x = .ref p ∧ y = .int d ∧ SqL K H p (ns.map V.int) ∧ Q (.int (maxD ns d)) H
section
variable {X : Cx}
theorem hu_1 {A : Around} {k : Nat} (hr : Room k A) : A.units + 1 < cLine := by have := hr.units; omega
end
end L2

set_option Elab.async false
set_option linter.all false
set_option maxRecDepth 100000
set_option maxHeartbeats 4000000
/-! list(reversed(x)) of a list. -/
namespace L2
open PySem PySem.Spec PyProof.Rows
section
variable {prog : Program} {w : World} {A : Around} {E : Value → Shared → Prop} {s : Shared}
end
/-- list(reversed(x)), x a list -/
def tRev (te : TE) : TE := fun σ H Q => te σ H fun x H1 => ∃ (a : Addr) (xs : List V), x = .ref a ∧ H1 a = some (.lst xs) ∧ xs.length ≤ 1000 ∧ ∀ l, H1 l = none → Q (.ref l) (upd H1 l (.lst xs.reverse))
end L2

set_option Elab.async false
set_option linter.all false
set_option maxRecDepth 100000
/-! The rules over judgements that are structures. -/
namespace L2
open PySem PySem.Spec PyProof.Rows
structure QE (X : Cx) (e : Expr) (t : TE) : Prop where
  h : PE X e t
structure QT (X : Cx) (e : Expr) (t : TT) : Prop where
  h : PT X e t
structure QA (X : Cx) (es : List Expr) (t : TA) : Prop where
  h : PA X es t
structure QS (X : Cx) (st : Stmt) (t : TS) : Prop where
  h : PS X st t
structure QSs (X : Cx) (sts : List Stmt) (t : TS) : Prop where
  h : PSs X sts t
structure QG (X : Cx) (e : Expr) (t : TG) : Prop where
  h : PG X e t
structure QGs (X : Cx) (es : List Expr) (t : TGs) : Prop where
  h : PGs X es t
structure QF (X : Cx) (es : List Expr) (t : TT) : Prop where
  h : PF X es t
structure QW (X : Cx) (e : Expr) (t : TT) : Prop where
  h : PW X e t
structure QO (X : Cx) (e : Option Expr) (t : TO) : Prop where
  h : PO X e t
structure QPPs (X : Cx) (pos : Pos) (keys : List (Option Expr)) (values : List Expr) (trs : List (TE × TE)) : Prop where
  h : PPs X pos keys values trs
structure QI (X : Cx) (tg iter : Expr) (t : TI) : Prop where
  h : PI X tg iter t
theorem QW.pt {X : Cx} {e : Expr} {t : TT} (h : QW X e t) : QT X e t := ⟨h.h.pt⟩
section
variable {X : Cx}
end
section
variable {X : Cx}
theorem qpe_int {i j pos} : QE X (.Constant (.int i) j pos) (tC (.int i)) := ⟨pe_int ⟩
end
section
variable {X : Cx}
theorem qpe_bl {b j pos} : QE X (.Constant (.bool b) j pos) (tC (.bl b)) := ⟨pe_bl ⟩
end
section
variable {X : Cx}
theorem qpe_non {j pos} : QE X (.Constant .none j pos) (tC .non) := ⟨pe_non ⟩
end
section
variable {X : Cx}
theorem qpe_str {x j pos} : QE X (.Constant (.str x) j pos) (tC (.str x)) := ⟨pe_str ⟩
end
section
variable {X : Cx}
end
section
variable {X : Cx}
theorem qpe_bltn {x : Str} {v : V} {u : Value} {pos : Pos} (hg : Gl X x) (hm : X.mg x = none) (hv : bootBuiltins x = some u) (r : RelV v u) (hn : x ≠ "__name__" := by decide) (hd : (x == ("__debug__" : Str)) = false := by decide) : QE X (.Name x pos) (tC v) := ⟨pe_bltn hg hm hv r hn hd⟩
end
section
variable {X : Cx} {a b : Expr} {ta tb : TE} {pos : Pos}
end
section
variable {X : Cx} {a b : Expr} {ta tb : TE} {pos : Pos}
end
section
variable {X : Cx} {a b : Expr} {ta tb : TE} {pos : Pos}
end
section
variable {X : Cx} {a b : Expr} {ta tb : TE} {pos : Pos}
end
section
variable {X : Cx} {a b : Expr} {ta tb : TE} {pos : Pos}
end
section
variable {X : Cx} {a b : Expr} {ta tb : TE} {pos : Pos}
theorem qpt_val {e : Expr} {t : TE} (h : QE X e t) (he : ∀ whole, isTrue e X.env whole = (do let v ← whole; standAt e.pos; holding [v] (truthy v)) := by intro _; rfl) : QT X e (tB t) := ⟨pt_val h.h he⟩
end
section
variable {X : Cx} {a b : Expr} {ta tb : TE} {pos : Pos} {tA tB' : TT} {rest : List Expr}
theorem qpw_and1 (ha : QT X a tA) : QW X (.BoolOp .And [a] pos) tA := ⟨pw_and1 ha.h⟩
end
section
variable {X : Cx} {a b : Expr} {ta tb : TE} {pos : Pos} {tA tB' : TT} {rest : List Expr}
theorem qpw_or1 (ha : QT X a tA) : QW X (.BoolOp .Or [a] pos) tA := ⟨pw_or1 ha.h⟩
end
section
variable {X : Cx} {a b : Expr} {ta tb : TE} {pos : Pos} {tA tB' : TT} {rest : List Expr}
theorem qpw_and (ha : QT X a tA) (hb : QW X (.BoolOp .And (b :: rest) pos) tB') : QW X (.BoolOp .And (a :: b :: rest) pos) (tAnd tA tB') := ⟨pw_and ha.h hb.h⟩
end
section
variable {X : Cx} {a b : Expr} {ta tb : TE} {pos : Pos} {tA tB' : TT} {rest : List Expr}
theorem qpw_or (ha : QT X a tA) (hb : QW X (.BoolOp .Or (b :: rest) pos) tB') : QW X (.BoolOp .Or (a :: b :: rest) pos) (tOr tA tB') := ⟨pw_or ha.h hb.h⟩
end
section
variable {X : Cx} {a b : Expr} {ta tb : TE} {pos : Pos} {tA tB' : TT} {rest : List Expr}
theorem qpt_not (ha : QT X a tA) : QT X (.UnaryOp .Not a pos) (tNot tA) := ⟨pt_not ha.h⟩
end
section
variable {X : Cx} {a b : Expr} {ta tb : TE} {pos : Pos} {tA tB' : TT} {rest : List Expr}
theorem qpe_one {op} {t : TE} (h : QE X a t) : QE X (.BoolOp op [a] pos) t := ⟨pe_one h.h⟩
end
section
variable {X : Cx} {a b : Expr} {ta tb : TE} {pos : Pos} {tA tB' : TT} {rest : List Expr}
theorem qpe_and (ha : QE X a ta) (hb : QE X (.BoolOp .And (b :: rest) pos) tb) : QE X (.BoolOp .And (a :: b :: rest) pos) (tAndV ta tb) := ⟨pe_and ha.h hb.h⟩
end
section
variable {X : Cx} {a b : Expr} {ta tb : TE} {pos : Pos} {tA tB' : TT} {rest : List Expr}
end
section
variable {X : Cx} {a b : Expr} {ta tb : TE} {pos : Pos} {tA tB' : TT} {rest : List Expr}
theorem qpe_not (ha : QE X a ta) : QE X (.UnaryOp .Not a pos) (tNotV ta) := ⟨pe_not ha.h⟩
end
section
variable {X : Cx} {a b : Expr} {ta tb : TE} {pos : Pos} {tA tB' : TT} {rest : List Expr}
end
section
variable {X : Cx} {st : Stmt} {rest : List Stmt} {t u : TS} {e : Expr} {te : TE} {pos : Pos}
theorem qpss_nil  : QSs X [] tNext := ⟨pss_nil ⟩
end
section
variable {X : Cx} {st : Stmt} {rest : List Stmt} {t u : TS} {e : Expr} {te : TE} {pos : Pos}
theorem qpss_cons (h1 : QS X st t) (h2 : QSs X rest u) : QSs X (st :: rest) (tSeq t u) := ⟨pss_cons h1.h h2.h⟩
end
section
variable {X : Cx} {st : Stmt} {rest : List Stmt} {t u : TS} {e : Expr} {te : TE} {pos : Pos}
theorem qpss_one (h1 : QS X st t) : QSs X [st] t := ⟨pss_one h1.h⟩
end
section
variable {X : Cx} {st : Stmt} {rest : List Stmt} {t u : TS} {e : Expr} {te : TE} {pos : Pos}
end
section
variable {X : Cx} {st : Stmt} {rest : List Stmt} {t u : TS} {e : Expr} {te : TE} {pos : Pos}
end
section
variable {X : Cx} {st : Stmt} {rest : List Stmt} {t u : TS} {e : Expr} {te : TE} {pos : Pos}
end
section
variable {X : Cx} {st : Stmt} {rest : List Stmt} {t u : TS} {e : Expr} {te : TE} {pos : Pos}
end
section
variable {X : Cx} {st : Stmt} {rest : List Stmt} {t u : TS} {e : Expr} {te : TE} {pos : Pos}
theorem qps_expr (he : QE X e te) (hs : swapsWith e none pos.line X.env = pure false := by rfl) : QS X (.Expr e pos) (tDrop te) := ⟨ps_expr he.h hs⟩
end
section
variable {X : Cx} {st : Stmt} {rest : List Stmt} {t u : TS} {e : Expr} {te : TE} {pos : Pos}
theorem qps_ret (he : QE X e te) : QS X (.Return (some e) pos) (tRet te) := ⟨ps_ret he.h⟩
end
section
variable {X : Cx} {st : Stmt} {rest : List Stmt} {t u : TS} {e : Expr} {te : TE} {pos : Pos}
end
section
variable {X : Cx} {st : Stmt} {rest : List Stmt} {t u : TS} {e : Expr} {te : TE} {pos : Pos}
theorem qps_if {c : Expr} {a b : List Stmt} {tc : TT} (hc : QT X c tc) (ha : QSs X a t) (hb : QSs X b u) : QS X (.If c a b pos) (tIfS tc t u) := ⟨ps_if hc.h ha.h hb.h⟩
end
section
variable {X : Cx} {st : Stmt} {rest : List Stmt} {t u : TS} {e : Expr} {te : TE} {pos : Pos}
end
section
variable {X : Cx} {st : Stmt} {rest : List Stmt} {t u : TS} {e : Expr} {te : TE} {pos : Pos}
end
section
variable {X : Cx} {pos : Pos}
theorem qpg_name {i : Nat} {x : Str} (hN : X.N.Nodup) (hi : X.N[i]? = some x) (hx : Loc X.env.scope x) (hf : X.fn x = true ∨ X.env.scope.names.lookup x = some .local := by first | exact .inl rfl | exact .inr rfl | assumption) : QG X (.Name x pos) (gName i) := ⟨pg_name hN hi hx hf⟩
end
section
variable {X : Cx} {pos : Pos}
theorem qpgs_nil  : QGs X [] gNil := ⟨pgs_nil ⟩
end
section
variable {X : Cx} {pos : Pos}
theorem qpgs_cons {e : Expr} {es : List Expr} {t : TG} {u : TGs} (h1 : QG X e t) (h2 : QGs X es u) (hs : (assignEach (e :: es) X.env).map (·.2) = assign e X.env :: (assignEach es X.env).map (·.2) := by rfl) : QGs X (e :: es) (gCons t u) := ⟨pgs_cons h1.h h2.h hs⟩
end
section
variable {X : Cx} {pos : Pos}
theorem qpg_tup {es : List Expr} {k : Nat} {t : TGs} {n : Nat} (hc : X.calm = true) (h : QGs X es t) (hn : (assignEach es X.env).length = n := by rfl) (hst : (assignEach es X.env).findIdx? (·.1) = none := by rfl) : QG X (.Tuple es k pos) (gTup X.K n t) := ⟨pg_tup hc h.h hn hst⟩
end
section
variable {X : Cx} {pos : Pos}
end
section
variable {X : Cx} {pos : Pos}
end
section
variable {X : Cx} {pos : Pos}
theorem qps_set {i : Nat} {x : Str} {e : Expr} {te : TE} {pos' : Pos} (hN : X.N.Nodup) (hi : X.N[i]? = some x) (hx : Loc X.env.scope x) (he : QE X e te) (hs : swapsWith e (some (.Name x pos')) pos.line X.env = pure false := by rfl) (hf : X.fn x = true ∨ X.env.scope.names.lookup x = some .local := by first | exact .inl rfl | exact .inr rfl | assumption) : QS X (.Assign [.Name x pos'] e pos) (tAsg te (gName i)) := ⟨ps_set hN hi hx he.h hs hf⟩
end
section
variable {X : Cx} {pos : Pos}
end
section
variable {X : Cx} {pos : Pos}
theorem qps_aug {i : Nat} {x : Str} {e : Expr} {te : TE} {op : Operator} {ti : TIp} {pos' : Pos} (hN : X.N.Nodup) (hi : X.N[i]? = some x) (hx : Loc X.env.scope x) (he : QE X e te) (ho : PIp X op ti) (hf : X.fn x = true ∨ X.env.scope.names.lookup x = some .local := by first | exact .inl rfl | exact .inr rfl | assumption) : QS X (.AugAssign (.Name x pos') op e pos) (tAug i te ti) := ⟨ps_aug hN hi hx he.h ho hf⟩
end
section
variable {X : Cx} {pos : Pos}
end
section
variable {X : Cx} {pos : Pos}
theorem qps_while {c : Expr} {body : List Stmt} {tc : TT} {tb : TS} (hp : PassesOwn (model X.prog X.w) X.A X.env X.xe) (hc : QT X c tc) (hb : QSs X body tb) : QS X (.While c body [] pos) (tWhile tc tb) := ⟨ps_while hp hc.h hb.h⟩
end
section
variable {X : Cx} {tg : Expr}
theorem qpi_list {l : Expr} {tl : TE} (hl : QE X l tl) : QI X tg l (iList X.K tl) := ⟨pi_list hl.h⟩
end
section
variable {X : Cx} {tg : Expr}
end
section
variable {X : Cx} {tg : Expr}
theorem qpi_range1 {a : Expr} {ta : TA} {p pos : Pos} (hg : Gl X "range") (hm : X.mg "range" = none) (ha : QA X [a] ta) (hs : starEach [a] X.env = [(false, eval a X.env)] := by rfl) : QI X tg (.Call (.Name "range" p) [a] [] pos) (iRng1 ta) := ⟨pi_range1 hg hm ha.h hs⟩
end
section
variable {X : Cx} {tg : Expr}
end
section
variable {X : Cx} {tg : Expr}
theorem qps_for {iter : Expr} {body : List Stmt} {wi : TI} {g : TG} {tb : TS} {pos : Pos} (hp : PassesOwn (model X.prog X.w) X.A X.env X.xe) (hc : X.calm = true) (hi : QI X tg iter wi) (hg : QG X tg g) (hb : QSs X body tb) (hs : ∀ x, foldedSetIterable iter X.env x = pure x := by intro _; rfl) : QS X (.For tg iter body [] pos) (tFor wi g tb) := ⟨ps_for hp hc hi.h hg.h hb.h hs⟩
end
section
variable {X : Cx} {a b c : Expr} {ta tb tc : TE} {pos : Pos}
theorem qpe_op {op : Operator} {r : R2} (ho : OpR X (binaryOp op) r) (ha : QE X a ta) (hb : QE X b tb) : QE X (.BinOp a op b pos) (tOp r ta tb) := ⟨pe_op ho ha.h hb.h⟩
end
section
variable {X : Cx} {a b c : Expr} {ta tb tc : TE} {pos : Pos}
theorem qpe_un {op : UnaryOp} {r : V → Hp → VK → Prop} (ho : UnR X (unaryOp op) r) (ha : QE X a ta) : QE X (.UnaryOp op a pos) (tUn r ta) := ⟨pe_un ho ha.h⟩
end
section
variable {X : Cx} {a b c : Expr} {ta tb tc : TE} {pos : Pos}
theorem qpe_cmpR {op : CmpOp} {r : R2} (ho : OpR X (compareOp op) r) (ha : QE X a ta) (hb : QE X b tb) (hm : behindInMarks op b = false) : QE X (.Compare a [op] [b] pos) (tOp r ta tb) := ⟨pe_cmpR ho ha.h hb.h hm⟩
end
section
variable {X : Cx} {a b c : Expr} {ta tb tc : TE} {pos : Pos}
theorem qpt_cmpR {op : CmpOp} {r : R2} (ho : OpR X (compareOp op) r) (ha : QE X a ta) (hb : QE X b tb) (hm : behindInMarks op b = false) : QT X (.Compare a [op] [b] pos) (tTest (tOp r ta tb)) := ⟨pt_cmpR ho ha.h hb.h hm⟩
end
section
variable {X : Cx} {a b c : Expr} {ta tb tc : TE} {pos : Pos}
theorem qpe_chain {op op' : CmpOp} {r r' : R2} (ho : OpR X (compareOp op) r) (ho' : OpR X (compareOp op') r') (ha : QE X a ta) (hb : QE X b tb) (hc : QE X c tc) (hm : lastMarks [op, op'] [b, c] = false := by with_unfolding_all rfl) : QE X (.Compare a [op, op'] [b, c] pos) (tChain r r' ta tb tc) := ⟨pe_chain ho ho' ha.h hb.h hc.h hm⟩
end
section
variable {X : Cx} {a b c : Expr} {ta tb tc : TE} {pos : Pos}
theorem qpt_chain {op op' : CmpOp} {r r' : R2} (ho : OpR X (compareOp op) r) (ho' : OpR X (compareOp op') r') (ha : QE X a ta) (hb : QE X b tb) (hc : QE X c tc) (hm : lastMarks [op, op'] [b, c] = false := by with_unfolding_all rfl) : QT X (.Compare a [op, op'] [b, c] pos) (tTest (tChain r r' ta tb tc)) := ⟨pt_chain ho ho' ha.h hb.h hc.h hm⟩
end
section
variable {X : Cx} {a b c : Expr} {ta tb tc : TE} {pos : Pos}
theorem qpt_truth (ha : QE X a ta) (he : ∀ whole, isTrue a X.env whole = (do let v ← whole; standAt a.pos; holding [v] (truthy v))) : QT X a (fun σ H Q => ta σ H fun x H' => ∃ k, TruV X.K x H' k ∧ Q k H') := ⟨pt_truth ha.h he⟩
end
section
variable {X : Cx} {a b c : Expr} {ta tb tc : TE} {pos : Pos}
end
section
variable {X : Cx} {a b c : Expr} {ta tb tc : TE} {pos : Pos}
end
section
variable {X : Cx} {a b c : Expr} {ta tb tc : TE} {pos : Pos}
end
section
variable {X : Cx} {o e value : Expr} {f : Str} {pos pos' tpos : Pos} {ta tv : TE}
end
section
variable {X : Cx} {o e value : Expr} {f : Str} {pos pos' tpos : Pos} {ta tv : TE}
end
section
variable {X : Cx} {o e value : Expr} {f : Str} {pos pos' tpos : Pos} {ta tv : TE}
end
section
variable {X : Cx} {o e value : Expr} {f : Str} {pos pos' tpos : Pos} {ta tv : TE}
end
section
variable {X : Cx} {e : Expr} {es : List Expr} {te : TE} {t : TA} {pos : Pos}
theorem qpa_nil  : QA X [] tNil := ⟨pa_nil ⟩
end
section
variable {X : Cx} {e : Expr} {es : List Expr} {te : TE} {t : TA} {pos : Pos}
end
section
variable {X : Cx} {e : Expr} {es : List Expr} {te : TE} {t : TA} {pos : Pos}
theorem qpe_tup {x1} (h : QA X es t) : QE X (.Tuple es x1 pos) (tTup t) := ⟨pe_tup h.h⟩
end
section
variable {X : Cx} {e : Expr} {es : List Expr} {te : TE} {t : TA} {pos : Pos}
theorem qpe_lst (h : QA X es t) : QE X (.List es pos) (tLst t) := ⟨pe_lst h.h⟩
end
section
variable {X : Cx} {CX : CXT} {k : Nat} {f C : Addr} {fd : FuncData} {ps : List Str} {sp : Sp} {dvs : List V} {ds : List Value} {E : XK} {x m : Str} {p pos apos : Pos} {e o : Expr} {es : List Expr} {ta : TE} {t : TA}
end
section
variable {X : Cx} {CX : CXT} {k : Nat} {f C : Addr} {fd : FuncData} {ps : List Str} {sp : Sp} {dvs : List V} {ds : List Value} {E : XK} {x m : Str} {p pos apos : Pos} {e o : Expr} {es : List Expr} {ta : TE} {t : TA}
end
section
variable {X : Cx} {CX : CXT} {k : Nat} {f C : Addr} {fd : FuncData} {ps : List Str} {sp : Sp} {dvs : List V} {ds : List Value} {E : XK} {x m : Str} {p pos apos : Pos} {e o : Expr} {es : List Expr} {ta : TE} {t : TA}
end
section
variable {X : Cx} {CX : CXT} {k : Nat} {f C : Addr} {fd : FuncData} {ps : List Str} {sp : Sp} {dvs : List V} {ds : List Value} {E : XK} {x m : Str} {p pos apos : Pos} {e o : Expr} {es : List Expr} {ta : TE} {t : TA}
end
section
variable {X : Cx} {CX : CXT} {k : Nat} {f C : Addr} {fd : FuncData} {ps : List Str} {sp : Sp} {dvs : List V} {ds : List Value} {E : XK} {x m : Str} {p pos apos : Pos} {e o : Expr} {es : List Expr} {ta : TE} {t : TA}
end
section
variable {X : Cx} {CX : CXT} {k : Nat} {f C : Addr} {fd : FuncData} {ps : List Str} {sp : Sp} {dvs : List V} {ds : List Value} {E : XK} {x m : Str} {p pos apos : Pos} {e o : Expr} {es : List Expr} {ta : TE} {t : TA}
end
section
variable {X : Cx} {CX : CXT} {k : Nat} {f C : Addr} {fd : FuncData} {ps ks : List Str} {sp : Sp} {E : XK} {x m : Str} {p pos apos kpos : Pos} {e o : Expr} {es : List Expr} {kws : List Keyword} {te ta : TE} {t tk : TA} {nm : Option Str} {g : List Value → List Value → List Value} {gV : List V → List V → List V}
end
section
variable {X : Cx} {x : Str} {p pos : Pos} {e : Expr} {es : List Expr} {t : TA} {id T : String} {r : List V → Hp → VK → Prop}
theorem qpe_callB (hc : CallR X (.builtin id) r) (hg : Gl X x) (hm : X.mg x = none) (hv : bootBuiltins x = some (.builtin id)) (ha : QA X (e :: es) t) (hn : x ≠ "__name__" := by decide) (hdb : (x == ("__debug__" : Str)) = false := by decide) (he : starEach (e :: es) X.env = (false, eval e X.env) :: starEach es X.env := by rfl) (hpl : (backTo pos (starEach es X.env)).any (·.1) = false := by rfl) : QE X (.Call (.Name x p) (e :: es) [] pos) (tCB r t) := ⟨pe_callB hc hg hm hv ha.h hn hdb he hpl⟩
end
section
variable {X : Cx} {x : Str} {p pos : Pos} {e : Expr} {es : List Expr} {t : TA} {id T : String} {r : List V → Hp → VK → Prop}
theorem qpe_callTy (hc : CallR X (.type T) r) (hg : Gl X x) (hm : X.mg x = none) (hv : bootBuiltins x = some (.type T)) (ha : QA X (e :: es) t) (hn : x ≠ "__name__" := by decide) (hdb : (x == ("__debug__" : Str)) = false := by decide) (he : starEach (e :: es) X.env = (false, eval e X.env) :: starEach es X.env := by rfl) (hpl : (backTo pos (starEach es X.env)).any (·.1) = false := by rfl) : QE X (.Call (.Name x p) (e :: es) [] pos) (tCB r t) := ⟨pe_callTy hc hg hm hv ha.h hn hdb he hpl⟩
end
section
variable {X : Cx} {x : Str} {p pos : Pos} {e : Expr} {es : List Expr} {t : TA} {id T : String} {r : List V → Hp → VK → Prop}
end
section
variable {X : Cx} {e : Expr} {te : TE} {lo hi : Option Expr} {tl th : TO} {pos p2 : Pos}
theorem qpo_none  : QO X none tNoPart := ⟨po_none ⟩
end
section
variable {X : Cx} {e : Expr} {te : TE} {lo hi : Option Expr} {tl th : TO} {pos p2 : Pos}
theorem qpo_some (h : QE X e te) : QO X (some e) (tPart te) := ⟨po_some h.h⟩
end
section
variable {X : Cx} {e : Expr} {te : TE} {lo hi : Option Expr} {tl th : TO} {pos p2 : Pos}
theorem qpe_slice {r : V → Option Int → Option Int → Hp → VK → Prop} (hr : SlR X r) (he : QE X e te) (hl : QO X lo tl) (hu : QO X hi th) : QE X (.Subscript e (.Slice lo hi none p2) pos) (tSl r te tl th) := ⟨pe_slice hr he.h hl.h hu.h⟩
end
section
variable {X : Cx} {a b : Expr} {ta tb : TE} {pos : Pos}
theorem qpe_ix {r : R2} (hr : IxR X r) (ha : QE X a ta) (hb : QE X b tb) (hs : PlainIx b) : QE X (.Subscript a b pos) (tOp r ta tb) := ⟨pe_ix hr ha.h hb.h hs⟩
end
section
variable {X : Cx} {a b : Expr} {ta tb : TE} {pos : Pos} {o e : Expr} {es : List Expr} {to : TE} {t : TA} {name : Str} {apos cpos : Pos} {T id : String} {r : V → List V → Hp → VK → Prop}
theorem qpe_bm0 (pa : PlainAttrs T) (slot : Slot T name id) (hty : typeOf (.builtin id) = pure (.type "method_descriptor")) (hm : MtR X id r) (ho : QE X o to) (hbase : attributeBase o name X.env (eval o X.env) = eval o X.env := by rfl) (hline : (apos.endLine == cpos.line) = true := by rfl) : QE X (.Call (.Attribute o name apos) [] [] cpos) (tBM0 X.K T r to) := ⟨pe_bm0 pa slot hty hm ho.h hbase hline⟩
end
section
variable {X : Cx} {a b : Expr} {ta tb : TE} {pos : Pos} {o e : Expr} {es : List Expr} {to : TE} {t : TA} {name : Str} {apos cpos : Pos} {T id : String} {r : V → List V → Hp → VK → Prop}
theorem qpe_bm (pa : PlainAttrs T) (slot : Slot T name id) (hty : typeOf (.builtin id) = pure (.type "method_descriptor")) (hm : MtR X id r) (ho : QE X o to) (ha : QA X (e :: es) t) (hbase : attributeBase o name X.env (eval o X.env) = eval o X.env := by rfl) (hfew : ((backTo cpos (starEach (e :: es) X.env)).all (fun x => !x.1) && (backToKw cpos (keywordEach [] X.env)).all (fun x => x.1.isSome)
      && decide ((e :: es).length + ([] : List Keyword).length + (if ([] : List Keyword).isEmpty then 0 else 1) < 30)) = true := by rfl) (hline : (apos.endLine == cpos.line) = true := by rfl) (hs : starEach (e :: es) X.env = (false, eval e X.env) :: starEach es X.env := by rfl) (hplain : (backTo cpos (starEach es X.env)).any (·.1) = false := by rfl) : QE X (.Call (.Attribute o name apos) (e :: es) [] cpos) (tBM X.K T r to t) := ⟨pe_bm pa slot hty hm ho.h ha.h hbase hfew hline hs hplain⟩
end
section
variable {X : Cx}
theorem qpv (i : Nat) {x : Str} {pos : Pos} (hN : X.N[i]? = some x := by rfl) (hv : Vis X.env.scope x := by first | exact Or.inl rfl | exact Or.inr (Or.inl rfl) | exact Or.inr (Or.inr rfl)) (hd : (x == ("__debug__" : Str)) = false := by decide) (hcd : (x == ("__classdict__" : Str)) = false := by decide) : QE X (.Name x pos) (tVar i) := ⟨pv i hN hv hd hcd⟩
end
section
variable {X : Cx}
end
section
theorem qpe_globI {X : Cx} {x : Str} {i : Int} {pos : Pos} (hg : Gl X x) (hm : ∃ t, X.mg x = some (.int i t)) (hd : (x == ("__debug__" : Str)) = false := by decide) : QE X (.Name x pos) (tC (.int i)) := ⟨pe_globI hg hm hd⟩
end
section
theorem qpe_callD {X : Cx} {k : Nat} {x : Str} {st : Stmt} {ps : List Str} {sp : Sp} {e : Expr} {es : List Expr} {t : TA} {p pos : Pos} (D : Def X.prog X.w X.K X.mg X.base k x st ps sp) (hr : Room k X.A) (hg : Gl X x) (ha : QA X (e :: es) t) (hdb : (x == ("__debug__" : Str)) = false := by decide) (he : starEach (e :: es) X.env = (false, eval e X.env) :: starEach es X.env := by rfl) (hpl : (backTo pos (starEach es X.env)).any (·.1) = false := by rfl) : QE X (.Call (.Name x p) (e :: es) [] pos) (tCall sp [] E0 t) := ⟨pe_callD D hr hg ha.h hdb he hpl⟩
end
section
theorem qpi_str {X : Cx} {tg l : Expr} {tl : TE} (hl : QE X l tl) : QI X tg l (iStr tl) := ⟨pi_str hl.h⟩
end
section
theorem qpi_enum {X : Cx} {a : Expr} {ta : TA} {elts : List Expr} {x1 : Nat} {p pos tpos : Pos} (hg : Gl X "enumerate") (hm : X.mg "enumerate" = none) (ha : QA X [a] ta) (hs : starEach [a] X.env = [(false, eval a X.env)] := by rfl) : QI X (.Tuple elts x1 tpos) (.Call (.Name "enumerate" p) [a] [] pos) (iEnum ta) := ⟨pi_enum hg hm ha.h hs⟩
end
section
theorem qpf_nil {X : Cx} : QF X [] tNoIf := ⟨pf_nil ⟩
end
section
theorem qpf_one {X : Cx} {c : Expr} {t : TT} (h : QT X c t) : QF X [c] t := ⟨pf_one h.h⟩
end
section
end
section
variable {X : Cx} {pins : List (Addr × Obj)} {σ : St} {H : Hp} {s : Shared}
theorem qpe_comp {own ns : List Str} {caps : List Nat} {elt tg iter : Expr} {ifs : List Expr} {scope : Scope} {pos : Pos} {wi : TI} {g : TG} {tf : TT} {te : TE} (hc : X.calm = true) (S : CScope scope ns) (cp : Caps X scope ns caps) (hi : QI X tg iter wi) (hg : ∀ C s H fp pn, QG (cxC X (own ++ ns) scope C s H fp pn) tg g) (ht : ∀ C s H fp pn, QF (cxC X (own ++ ns) scope C s H fp pn) ifs tf) (he : ∀ C s H fp pn, QE (cxC X (own ++ ns) scope C s H fp pn) elt te) (hs : ∀ x, foldedSetIterable iter X.env x = pure x := by intro _; rfl) : QE X (.ListComp elt [⟨tg, iter, ifs, 0⟩] scope pos) (tComp own.length caps wi g tf te) := ⟨pe_comp hc S cp hi.h (fun C s H fp pn => (hg C s H fp pn).h) (fun C s H fp pn => (ht C s H fp pn).h) (fun C s H fp pn => (he C s H fp pn).h) hs⟩
end
section
variable {X : Cx} {pins : List (Addr × Obj)} {σ : St} {H : Hp} {s : Shared}
theorem qps_setC {i : Nat} {x : Str} {own ns : List Str} {caps : List Nat} {elt tg iter : Expr} {ifs : List Expr} {scope : Scope} {pos pos' spos : Pos} {wi : TI} {g : TG} {tf : TT} {te : TE} (hN : X.N.Nodup) (hi : X.N[i]? = some x) (hx : Loc X.env.scope x) (hc : X.calm = true) (S : CScope scope ns) (cp : Caps X scope ns caps) (hit : QI X tg iter wi) (hg : ∀ C s H fp pn, QG (cxC X (own ++ ns) scope C s H fp pn) tg g) (ht : ∀ C s H fp pn, QF (cxC X (own ++ ns) scope C s H fp pn) ifs tf) (he : ∀ C s H fp pn, QE (cxC X (own ++ ns) scope C s H fp pn) elt te) (hs : ∀ x, foldedSetIterable iter X.env x = pure x := by intro _; rfl) (hsw : swapsWith (.ListComp elt [⟨tg, iter, ifs, 0⟩] scope pos) (some (.Name x pos')) spos.line X.env = pure true := by rfl) (hf : X.fn x = true ∨ X.env.scope.names.lookup x = some .local := by first | exact .inl rfl | exact .inr rfl | assumption) : QS X (.Assign [.Name x pos'] (.ListComp elt [⟨tg, iter, ifs, 0⟩] scope pos) spos) (tAsg (tComp own.length caps wi g tf te) (gName i)) := ⟨ps_setC hN hi hx hc S cp hit.h (fun C s H fp pn => (hg C s H fp pn).h) (fun C s H fp pn => (ht C s H fp pn).h) (fun C s H fp pn => (he C s H fp pn).h) hs hsw hf⟩
end
section
variable {X : Cx} {K : PySem.W.Frag}
theorem qpg_tup' {es : List Expr} {k : Nat} {t : TGs} {n : Nat} {pos : Pos} (hK : X.K = K) (hc : X.calm = true) (h : QGs X es t) (hn : (assignEach es X.env).length = n := by rfl) (hst : (assignEach es X.env).findIdx? (·.1) = none := by rfl) : QG X (.Tuple es k pos) (gTup K n t) := ⟨pg_tup' hK hc h.h hn hst⟩
end
section
variable {X : Cx} {K : PySem.W.Frag}
theorem qpi_list' {tg l : Expr} {tl : TE} (hK : X.K = K) (hl : QE X l tl) : QI X tg l (iList K tl) := ⟨pi_list' hK hl.h⟩
end
section
variable {X : Cx} {K : PySem.W.Frag}
end
section
end
section
theorem qpss_cut {X : Cx} {st : Stmt} {rest : List Stmt} {t u : TS} (h1 : QS X st t) (h2 : QSs X rest u) : QSs X (st :: rest) (tCut t u) := ⟨pss_cut h1.h h2.h⟩
end
section
variable {X : Cx} {es : List Expr} {te : TE} {t : TA}
end
section
variable {X : Cx} {es : List Expr} {te : TE} {t : TA}
theorem qpa_BinOp {a0 : PySem.Expr} {a1 : PySem.Operator} {a2 : PySem.Expr} {a3 : PySem.Pos} (ha : QE X (Expr.BinOp a0 a1 a2 a3) te) (hr : QA X es t) : QA X ((Expr.BinOp a0 a1 a2 a3) :: es) (tCons te t) := ⟨pa_BinOp ha.h hr.h⟩
end
section
variable {X : Cx} {es : List Expr} {te : TE} {t : TA}
theorem qpa_UnaryOp {a0 : PySem.UnaryOp} {a1 : PySem.Expr} {a2 : PySem.Pos} (ha : QE X (Expr.UnaryOp a0 a1 a2) te) (hr : QA X es t) : QA X ((Expr.UnaryOp a0 a1 a2) :: es) (tCons te t) := ⟨pa_UnaryOp ha.h hr.h⟩
end
section
variable {X : Cx} {es : List Expr} {te : TE} {t : TA}
end
section
variable {X : Cx} {es : List Expr} {te : TE} {t : TA}
theorem qpa_ListComp {a0 : PySem.Expr} {a1 : List Comprehension} {a2 : PySem.Scope} {a3 : PySem.Pos} (ha : QE X (Expr.ListComp a0 a1 a2 a3) te) (hr : QA X es t) : QA X ((Expr.ListComp a0 a1 a2 a3) :: es) (tCons te t) := ⟨pa_ListComp ha.h hr.h⟩
end
section
variable {X : Cx} {es : List Expr} {te : TE} {t : TA}
theorem qpa_Compare {a0 : PySem.Expr} {a1 : List CmpOp} {a2 : List Expr} {a3 : PySem.Pos} (ha : QE X (Expr.Compare a0 a1 a2 a3) te) (hr : QA X es t) : QA X ((Expr.Compare a0 a1 a2 a3) :: es) (tCons te t) := ⟨pa_Compare ha.h hr.h⟩
end
section
variable {X : Cx} {es : List Expr} {te : TE} {t : TA}
theorem qpa_Call {a0 : PySem.Expr} {a1 : List Expr} {a2 : List Keyword} {a3 : PySem.Pos} (ha : QE X (Expr.Call a0 a1 a2 a3) te) (hr : QA X es t) : QA X ((Expr.Call a0 a1 a2 a3) :: es) (tCons te t) := ⟨pa_Call ha.h hr.h⟩
end
section
variable {X : Cx} {es : List Expr} {te : TE} {t : TA}
end
section
variable {X : Cx} {es : List Expr} {te : TE} {t : TA}
theorem qpa_Constant {a0 : PySem.Const} {a1 : Nat} {a2 : PySem.Pos} (ha : QE X (Expr.Constant a0 a1 a2) te) (hr : QA X es t) : QA X ((Expr.Constant a0 a1 a2) :: es) (tCons te t) := ⟨pa_Constant ha.h hr.h⟩
end
section
variable {X : Cx} {es : List Expr} {te : TE} {t : TA}
end
section
variable {X : Cx} {es : List Expr} {te : TE} {t : TA}
theorem qpa_Subscript {a0 : PySem.Expr} {a1 : PySem.Expr} {a2 : PySem.Pos} (ha : QE X (Expr.Subscript a0 a1 a2) te) (hr : QA X es t) : QA X ((Expr.Subscript a0 a1 a2) :: es) (tCons te t) := ⟨pa_Subscript ha.h hr.h⟩
end
section
variable {X : Cx} {es : List Expr} {te : TE} {t : TA}
theorem qpa_Name {a0 : PySem.Str} {a1 : PySem.Pos} (ha : QE X (Expr.Name a0 a1) te) (hr : QA X es t) : QA X ((Expr.Name a0 a1) :: es) (tCons te t) := ⟨pa_Name ha.h hr.h⟩
end
section
variable {X : Cx} {es : List Expr} {te : TE} {t : TA}
theorem qpa_List {a0 : List Expr} {a1 : PySem.Pos} (ha : QE X (Expr.List a0 a1) te) (hr : QA X es t) : QA X ((Expr.List a0 a1) :: es) (tCons te t) := ⟨pa_List ha.h hr.h⟩
end
section
variable {X : Cx} {es : List Expr} {te : TE} {t : TA}
theorem qpa_Tuple {a0 : List Expr} {a1 : Nat} {a2 : PySem.Pos} (ha : QE X (Expr.Tuple a0 a1 a2) te) (hr : QA X es t) : QA X ((Expr.Tuple a0 a1 a2) :: es) (tCons te t) := ⟨pa_Tuple ha.h hr.h⟩
end
section
variable {X : Cx} {es : List Expr} {te : TE} {t : TA}
end
section
variable {X : Cx} {o i e value : Expr} {pos pos' tpos : Pos} {td ty tv : TE}
theorem qpe_dget (hu : X.A.units + 1 < cLine) (ho : QE X o td) (hi : QE X i ty) (hs : NoSl i) : QE X (.Subscript o i pos) (tDGet td ty) := ⟨pe_dget hu ho.h hi.h hs⟩
end
section
variable {X : Cx} {o i e value : Expr} {pos pos' tpos : Pos} {td ty tv : TE}
theorem qps_dput (hu : X.A.units + 1 < cLine) (ho : QE X o td) (hi : QE X i ty) (hv : QE X value tv) (hs : swapsWith value (some (.Subscript o i pos')) pos.line X.env = pure false) : QS X (.Assign [.Subscript o i pos'] value pos) (sDPut td ty tv) := ⟨ps_dput hu ho.h hi.h hv.h hs⟩
end
section
variable {X : Cx} {o i e value : Expr} {pos pos' tpos : Pos} {td ty tv : TE}
end
section
variable {X : Cx} {o i e value : Expr} {pos pos' tpos : Pos} {td ty tv : TE}
end
section
variable {X : Cx} {pos : Pos}
theorem qpe_dnewK  : QE X (.Dict [] [] pos) tDNewK := ⟨pe_dnewK ⟩
end
section
variable {X : Cx} {pos : Pos}
end
section
end
section
end
section
end
section
variable {X : Cx} {o e f : Expr} {apos cpos : Pos} {td ty tx : TE}
end
section
variable {X : Cx} {o e f : Expr} {apos cpos : Pos} {td ty tx : TE}
end
section
variable {X : Cx} {o e f : Expr} {apos cpos : Pos} {td ty tx : TE}
end
section
variable {X : Cx} {o e f : Expr} {apos cpos : Pos} {td ty tx : TE}
end
section
variable {X : Cx} {k : Nat} {x f : Str} {st : Stmt} {ps : List Str} {sp : Sp} {e : Expr} {te : TE} {p p2 kp pos : Pos}
end
section
variable {X : Cx}
end
section
variable {X : Cx} {pins : List (Addr × Obj)} {σ : St} {H : Hp} {s : Shared} {a : Addr} {o : Obj} {kvs : List (List Key × V)}
end
section
variable {X : Cx} {pins : List (Addr × Obj)} {σ : St} {H : Hp} {s : Shared} {a : Addr} {o : Obj} {kvs : List (List Key × V)}
end
section
variable {X : Cx} {pins : List (Addr × Obj)} {σ : St} {H : Hp} {s : Shared} {a : Addr} {o : Obj} {kvs : List (List Key × V)}
end
section
variable {X : Cx} {pins : List (Addr × Obj)} {σ : St} {H : Hp} {s : Shared} {a : Addr} {o : Obj} {kvs : List (List Key × V)}
theorem qpt_dnotin {k d : Expr} {ty td : TE} {pos : Pos} (hu : X.A.units + 1 < cLine) (hk : QE X k ty) (hd : QE X d td) (hm : behindInMarks .NotIn d = false := by first | rfl | with_unfolding_all rfl) : QT X (.Compare k [.NotIn] [d] pos) (tB (tDNotIn ty td)) := ⟨pt_dnotin hu hk.h hd.h hm⟩
end
section
variable {X : Cx}
theorem qps_raise {x : Str} {C : Addr} {bmB : List Value} {B newId initId : String} {E : XK} {e : Expr} {es : List Expr} {t : TA} {np cpos pos : Pos} (R : Rais X E) (O : OwnCls x C bmB newId X.mg X.base) (F : ExcBaseFacts B newId initId bmB) (hc : X.calm = true) (hg : Gl X x) (ha : QA X (e :: es) t) (hdb : (x == ("__debug__" : Str)) = false := by decide) (he : starEach (e :: es) X.env = (false, eval e X.env) :: starEach es X.env := by rfl) (hpl : (backTo cpos (starEach es X.env)).any (·.1) = false := by rfl) : QS X (.Raise (some (.Call (.Name x np) (e :: es) [] cpos)) none pos) (tRaise C E t) := ⟨ps_raise R O F hc hg ha.h hdb he hpl⟩
end
section
end
section
variable {X : Cx} {tg : Expr}
end
section
end
section
variable {X : Cx}
theorem qps_nox {st : Stmt} {t : TS} (h : QS X.nox st t) : QS X st t := ⟨ps_nox h.h⟩
end
section
variable {X : Cx}
end
section
variable {X : Cx}
theorem qpt_nox {e : Expr} {t : TT} (h : QT X.nox e t) : QT X e t := ⟨pt_nox h.h⟩
end
section
variable {X : Cx}
theorem qpe_globC {x : Str} {C : Addr} {pos : Pos} (hg : Gl X x) (hm : X.mg x = some (.ref C)) (hd : (x == ("__debug__" : Str)) = false := by decide) : QE X (.Name x pos) (tC (.ref C)) := ⟨pe_globC hg hm hd⟩
end
section
variable {X : Cx}
theorem qpe_callX {k : Nat} {x : Str} {st : Stmt} {ps : List Str} {sp : Sp} {e : Expr} {es : List Expr} {t : TA} {p pos : Pos} (D : DefX X.prog X.w X.K X.mg X.base k x st ps sp) (hr : Room k X.A) (hg : Gl X x) (ha : QA X (e :: es) t) (hdb : (x == ("__debug__" : Str)) = false := by decide) (he : starEach (e :: es) X.env = (false, eval e X.env) :: starEach es X.env := by rfl) (hpl : (backTo pos (starEach es X.env)).any (·.1) = false := by rfl) : QE X (.Call (.Name x p) (e :: es) [] pos) (tCall sp [] E0 t) := ⟨pe_callX D hr hg ha.h hdb he hpl⟩
end
section
variable {X : Cx}
theorem qpe_callHD {a : Addr} {k : Nat} {x : Str} {st : Stmt} {ps : List Str} {sp : Addr → Sp} {e : Expr} {es : List Expr} {t : TA} {p pos : Pos} (D : DefH X.prog X.w X.K X.mg X.base k x st ps sp) (hr : RoomH a k X.A) (hg : Gl X x) (ha : QA X (e :: es) t) (hdb : (x == ("__debug__" : Str)) = false := by decide) (he : starEach (e :: es) X.env = (false, eval e X.env) :: starEach es X.env := by rfl) (hpl : (backTo pos (starEach es X.env)).any (·.1) = false := by rfl) : QE X (.Call (.Name x p) (e :: es) [] pos) (tCall (sp a) [] E0 t) := ⟨pe_callHD D hr hg ha.h hdb he hpl⟩
end
section
variable {X : Cx}
theorem qps_tryD {k : Nat} {st : Stmt} {ps : List Str} {sp : Sp} {x cx n : Str} {c : Value} {i : Nat} {e : Expr} {es : List Expr} {b₀ : Stmt} {suite : List Stmt} {t : TA} {ts : Addr → TS} {p cpos epos np hpos pos : Pos} (D : DefX X.prog X.w X.K X.mg X.base k x st ps sp) (hst : X.stack = X.env :: X.outer) (hfr : X.env.frame = some X.env.locals) (hr : Room k X.A) (hg : Gl X x) (ha : QA X.nox (e :: es) t) (hgc : Gl X cx) (hmc : X.mg cx = some c) (hN : X.N.Nodup) (hi : X.N[i]? = some n) (hl : X.env.scope.names.lookup n = some .local) (hs : ∀ a, QSs (X.exc a) (b₀ :: suite) (ts a)) (hdb : (x == ("__debug__" : Str)) = false := by decide) (hdc : (cx == ("__debug__" : Str)) = false := by decide) (he : starEach (e :: es) X.env = (false, eval e X.env) :: starEach es X.env := by rfl) (hpl : (backTo cpos (starEach es X.env)).any (·.1) = false := by rfl) : QS X (.Try [.Expr (.Call (.Name x p) (e :: es) [] cpos) epos] [.ExceptHandler (some (.Name cx np)) (some n) (b₀ :: suite) hpos] [] [] pos) (tTry sp X.K c i t ts) := ⟨ps_tryD D hst hfr hr hg ha.h hgc hmc hN hi hl (fun a => (hs a).h) hdb hdc he hpl⟩
end
section
end
end L2

set_option Elab.async false
set_option linter.all false
set_option maxRecDepth 100000
set_option maxHeartbeats 4000000
/-! Loops over a tuple with its numbers, and over two lists side by side. -/
namespace L2
open PySem PySem.Spec PyProof.Rows
open AutoSeq1 (wpAny_loadPart')
section
variable {prog : Program} {w : World} {A : Around} {E : Value → Shared → Prop} {s : Shared}
theorem nextT_item {it t : Addr} {i : Nat} {items} {x : Value} {Q : Value → Shared → Prop} (hit : s.heap.IsTupleIter it t i) (ht : s.heap.IsTuple t items) (hx : items[i]? = some x)
    (hQ : ∀ h', h'.IsTupleIter it t (i + 1) → Heap.SameBut it s.heap h' → Q x { s with heap := h' }) : wpAny (model prog w) A (Builtin.SmallTypes.nextOf (.ref it)) Q E s := by
  obtain ⟨o, ho, hc, hd⟩ := id hit; obtain ⟨ol, hol, _, nl, hdl⟩ := ht
  unfold Builtin.SmallTypes.nextOf
  refine wpAny_bind (wpAny_callSpecial?_slot (name := Str.ofString "__next__") hit.typeIs F.slot_tuple_iterator_next (wpAny_call_entry F.slot_tuple_iterator_next hit.typeIs F.entry_tuple_iterator_next ?_ (F.args_tuple_iterator_next_1 _)))
  show wpAny _ _ (field (.ref it) 0 >>= _) _ _ s; refine wpAny_bind (wpAny_field ho hd (x := .ref t) rfl ?_)
  show wpAny _ _ (if (Value.ref t == Value.none) = true then _ else _) _ _ s; rw [if_neg (show ¬ ((Value.ref t == Value.none) = true) from Bool.false_ne_true)]
  show wpAny _ _ (field (.ref it) 1 >>= _) _ _ s; refine wpAny_bind (wpAny_field ho hd (x := .int i 0) rfl ?_)
  show wpAny _ _ (seqItems? (.ref t) >>= _) _ _ s; refine wpAny_bind (wpAny_seqItems hol hdl ?_)
  simp only [Int.toNat_natCast, hx]; refine wpAny_bind (wpAny_setField ho hd (by simp) (wpAny_pure ⟨x, rfl, wpAny_pure (hQ _ ?_ (Heap.SameBut.update ..))⟩))
  exact ⟨_, Heap.get?_update_self _ ho (Obj.isFreed_of_fields (Obj.data_mapFields hd _)), (Obj.cls_mapFields ..).trans hc, by rw [Obj.data_mapFields hd]; simp [rawInt]⟩
theorem nextT_end {it t : Addr} {i : Nat} {items} {Q : Value → Shared → Prop} (hh : A.handled = none) (hit : s.heap.IsTupleIter it t i) (ht : s.heap.IsTuple t items) (hx : items[i]? = none)
    (hE : ∀ h' e, Heap.ExtBut it s.heap h' → (∃ o, h'.get? e = some o ∧ o.cls = .type "StopIteration") → E (.ref e) { s with heap := h' }) : wpAny (model prog w) A (Builtin.SmallTypes.nextOf (.ref it)) Q E s := by
  obtain ⟨o, ho, hc, hd⟩ := id hit; obtain ⟨ol, hol, _, nl, hdl⟩ := ht
  unfold Builtin.SmallTypes.nextOf
  refine wpAny_bind (wpAny_callSpecial?_slot (name := Str.ofString "__next__") hit.typeIs F.slot_tuple_iterator_next (wpAny_call_entry F.slot_tuple_iterator_next hit.typeIs F.entry_tuple_iterator_next ?_ (F.args_tuple_iterator_next_1 _)))
  show wpAny _ _ (field (.ref it) 0 >>= _) _ _ s; refine wpAny_bind (wpAny_field ho hd (x := .ref t) rfl ?_)
  show wpAny _ _ (if (Value.ref t == Value.none) = true then _ else _) _ _ s; rw [if_neg (show ¬ ((Value.ref t == Value.none) = true) from Bool.false_ne_true)]
  show wpAny _ _ (field (.ref it) 1 >>= _) _ _ s; refine wpAny_bind (wpAny_field ho hd (x := .int i 0) rfl ?_)
  show wpAny _ _ (seqItems? (.ref t) >>= _) _ _ s; refine wpAny_bind (wpAny_seqItems hol hdl ?_)
  simp only [Int.toNat_natCast, hx]; refine wpAny_bind (wpAny_rule (wpAny_bind (wpAny_setField ho hd (by simp) ?_)))
  show wpAny _ _ (newExc (.type "StopIteration") [] >>= _) _ _ _; refine wpAny_bind ?_
  simp only [newExc, newTuple]; refine wpAny_bind (wpAny_newObj_type ?_ (by size_fits))
  refine wpAny_bind (m := firstArgMember _ _) (wpAny_of_eq (a := Value.none) (by first | rfl | (simp only [firstArgMember]; rfl)) ?_); refine wpAny_newObj_type ?_ (by size_fits)
  simp only [raiseNew]; refine wpAny_bind (wpAny_handled ?_); first | rw [show A.in1.handled = none from hh] | rw [hh]
  refine wpAny_bind (wpAny_pure (wpAny_throw ?_)); exact hE _ _ (((Heap.SameBut.update ..).extBut.push _).push _) ⟨_, Heap.get?_push_size _ rfl, rfl⟩
theorem Draws.tup (hh : A.handled = none) (it t : Addr) (hne : t ≠ it) (items : Array Value) : Draws prog w A it [it, t] items.size (fun i v => items[i]? = some v) (fun i h => h.IsTupleIter it t i ∧ h.IsTuple t items) where
  live := fun _ _ st => let ⟨o, ho, _⟩ := st.1; ⟨o, ho⟩
  frame := fun _ _ _ st hk => by
    obtain ⟨st1, o, ho, r⟩ := st
    exact ⟨st1.at fun o e => hk it (by simp) o e, o, hk t (by simp) o ho, r⟩
  item := fun i s Q E hi st hQ => nextT_item st.1 st.2 (x := items[i]) (by simp [hi]) fun h' hit' hs' => hQ _ h' s.toks (by simp [hi]) ⟨hit', st.2.extBut hs'.extBut hne⟩ hs'
  done := fun s Q E st hE => nextT_end hh st.1 st.2 (by simp) hE
end
section
variable {X : Cx} {pins : List (Addr × Obj)} {σ : St} {H : Hp} {s : Shared} {h' : Heap}
end
/-- the items of the tuple at a, each with its number -/
def ItET (K : PySem.W.Frag) (a : Addr) : It :=
  ⟨fun i H => ∃ xs x, SqT K H a xs ∧ xs[i]? = some x, fun i H v H' => ∃ p x, H p = none ∧ (∀ xs, SqT K H a xs → xs[i]? = some x) ∧ v = .ref p ∧ H' = upd H p (.tup [.int i, x]), fun i H => ∃ xs, SqT K H a xs ∧ xs.length = i⟩
def iEnumT (K : PySem.W.Frag) (ta : TA) : TI := fun σ H R => ta σ H fun vs H1 => ∃ a, vs = [.ref a] ∧ (∃ xs, SqT K H1 a xs) ∧ R (ItET K a) H1
/-! ### zip(list, list) -/
def ItZ (K : PySem.W.Frag) (a b : Addr) : It :=
  ⟨fun i H => ∃ xs ys x y, SqL K H a xs ∧ SqL K H b ys ∧ xs[i]? = some x ∧ ys[i]? = some y,
   fun i H v H' => ∃ p x y, H p = none ∧ (∀ xs, SqL K H a xs → xs[i]? = some x) ∧ (∀ ys, SqL K H b ys → ys[i]? = some y) ∧ v = .ref p ∧ H' = upd H p (.tup [x, y]),
   fun i H => ∃ xs ys, SqL K H a xs ∧ SqL K H b ys ∧ (xs.length ≤ i ∨ ys.length ≤ i)⟩
def iZip (K : PySem.W.Frag) (ta : TA) : TI := fun σ H R => ta σ H fun vs H1 => ∃ a b, vs = [.ref a, .ref b] ∧ (∃ xs, SqL K H1 a xs) ∧ (∃ ys, SqL K H1 b ys) ∧ R (ItZ K a b) H1
end L2

set_option Elab.async false
set_option linter.all false
set_option maxRecDepth 100000
set_option maxHeartbeats 4000000
/-! A slice of a tuple, the whole of it too. -/
namespace L2
open PySem PySem.Spec PyProof.Rows HT
section
variable {prog : Program} {w : World} {A : Around} {E : Value → Shared → Prop} {s : Shared}
end
section
variable {X : Cx}
/-- t[lo:hi]: a new tuple, or t itself where that is all of it -/
def rSlTA (K : PySem.W.Frag) : V → Option Int → Option Int → Hp → VK → Prop := fun x lo hi H Q => ∃ a xs, x = .ref a ∧ SqT K H a xs ∧
  ((HT.sIx xs.length 0 lo = 0 ∧ HT.sIx xs.length xs.length hi = xs.length) → Q (.ref a) H) ∧ (¬ (HT.sIx xs.length 0 lo = 0 ∧ HT.sIx xs.length xs.length hi = xs.length) → ∀ p, H p = none → Q (.ref p) (upd H p (.tup (cutV xs lo hi))))
end
/-- t + u, of any tuples -/
def rCatTA (K : PySem.W.Frag) : R2 := fun x y H Q => ∃ a b xs ys, x = .ref a ∧ y = .ref b ∧ SqT K H a xs ∧ SqT K H b ys ∧ xs.length + ys.length ≤ sizeLine ∧
  (xs = [] → Q (.ref b) H) ∧ (xs ≠ [] → (ys = [] → Q (.ref a) H) ∧ (ys ≠ [] → ∀ p, H p = none → Q (.ref p) (upd H p (.tup (xs ++ ys)))))
/-! ### the loops of RmEnT, as one uses them -/
section
variable {X : Cx}
end
section
variable {σ : St} {H : Hp} {D : Ends} {K : PySem.W.Frag}
end
end L2

set_option Elab.async false
set_option linter.all false
set_option maxRecDepth 100000
set_option maxHeartbeats 4000000
/-! A maze taken apart (k19, k20). -/
namespace Rm
open PySem L2 PyProof.Rows
def mxZ (ns : List Int) : Int := ns.foldl max 0
def isCut (ns : List Int) (k : Nat) : Bool := decide (mxZ (ns.take k) = k)
def cutsZ (ns : List Int) (m : Nat) : List Nat := ((List.range m).filter fun i => isCut ns (i + 1)).map (· + 1)
def seg (ns : List Int) (s c : Nat) : List Int := ((ns.take c).drop s).map (· - (s : Int))
abbrev Pt := Bool × List Int
def stepP (b : Bool) (ns : List Int) (p : List Pt × Nat) (c : Nat) : List Pt × Nat := (p.1 ++ [(b ^^ odd p.2, seg ns p.2 c)], c)
def partsP (b : Bool) (ns : List Int) (cs : List Nat) : List Pt × Nat := cs.foldl (stepP b ns) ([], 0)
/-- a maze at a value -/
def Mz (H : Hp) (v : V) (p : Pt) : Prop := ∃ a o, v = .ref a ∧ MazeAt H a o p.1 p.2
theorem Mz.same {H H' : Hp} {v : V} {p : Pt} (h : Mz H v p) (s : Same H H') : Mz H' v p := by
  obtain ⟨a, o, e, m⟩ := h
  exact ⟨a, o, e, m.same s⟩
theorem ne_of_tl {H : Hp} {a l : Addr} {xs ys : List V} (h : H a = some (.tup xs)) (k : H l = some (.lst ys)) : a ≠ l := fun e => by
  subst e; rw [h] at k; cases k
theorem MazeAt.upd {H : Hp} {m o l : Addr} {b : Bool} {ns : List Int} {xs : List V} {u : HO} (h : MazeAt H m o b ns) (k : H l = some (.lst xs)) : MazeAt (L2.upd H l u) m o b ns :=
  ⟨by rw [upd_ne (ne_of_tl h.1 k)]; exact h.1, by rw [upd_ne (ne_of_tl h.2 k)]; exact h.2⟩
def Parts (H : Hp) (l : Addr) (ps : List Pt) : Prop := ∃ vs, H l = some (.lst vs) ∧ Paired (Mz H) vs ps
theorem paired_imp {α β : Type} {R T : α → β → Prop} (f : ∀ a b, R a b → T a b) : ∀ {xs : List α} {ys : List β}, Paired R xs ys → Paired T xs ys
  | _, _, .nil => .nil
  | _, _, .cons r t => .cons (f _ _ r) (paired_imp f t)
theorem Parts.same {H H' : Hp} {l : Addr} {ps : List Pt} (h : Parts H l ps) (s : Same H H') : Parts H' l ps := by
  obtain ⟨vs, e, p⟩ := h
  exact ⟨vs, s _ _ e, paired_imp (fun _ _ m => m.same s) p⟩
theorem Parts.new {H : Hp} {l : Addr} {ps : List Pt} {vs : List V} {a o : Addr} {b : Bool} {ns : List Int} (h : H l = some (.lst vs)) (p : Paired (Mz H) vs ps) (m : MazeAt H a o b ns) : Parts (upd H l (.lst (vs ++ [.ref a]))) l (ps ++ [(b, ns)]) :=
  ⟨_, upd_same, paired_snoc (paired_imp (fun _ _ ⟨a, o, e, m⟩ => ⟨a, o, e, m.upd h⟩) p) ⟨a, o, rfl, m.upd h⟩⟩
theorem paired_len {α β : Type} {R : α → β → Prop} : ∀ {xs : List α} {ys : List β}, Paired R xs ys → xs.length = ys.length
  | _, _, .nil => rfl
  | _, _, .cons _ t => congrArg (· + 1) (paired_len t)
theorem paired_get {α β : Type} {R : α → β → Prop} : ∀ {xs : List α} {ys : List β}, Paired R xs ys → ∀ {i : Nat} {x : α}, xs[i]? = some x → ∃ y, ys[i]? = some y ∧ R x y
  | _, _, .nil, i, x, h => by simp at h
  | _, _, .cons r t, 0, x, h => by simp at h; subst h; exact ⟨_, rfl, r⟩
  | _, _, .cons r t, i + 1, x, h => paired_get t (by simpa using h)
def shiftZ (n : Nat) (ms : List Int) : List Int := ms.map ((n : Int) + ·)
def spCellA (K : PySem.W.Frag) : Sp := fun vs H Q _ => ∃ (a : Addr) (ns : List Int) (k : Nat), vs = [.ref a, .int k] ∧ SqL K H a (ns.map V.int) ∧ ∀ v : Int, Q (.int v) H
def spDigs : Sp := fun vs H Q _ => ∃ (c : Int) (n : Nat), vs = [.int c, .int n] ∧ n ≤ 60 ∧ ∀ (l : Addr) (ds : List Int) (H' : Hp), H l = none → Same H H' → H' l = some (.lst (ds.map V.int)) → ds.length = n → Q (.ref l) H'
def spOrderN : Sp := fun vs H Q _ => ∃ (c : Int) (n : Nat), vs = [.int c, .int n] ∧ n ≤ 60 ∧ ∀ (l : Addr) (ns : List Int) (H' : Hp), H l = none → Same H H' → H' l = some (.tup (ns.map V.int)) → ns.length = n → ns.Perm (rngZ 1 n) → Q (.ref l) H'
def spSideL : Sp := fun vs H Q _ => ∃ (b : Bool) (k : Nat), vs = [.str (sd b), .int k] ∧ ∀ H', Same H H' → Q (.str (sd (b ^^ odd k))) H'
def spIsMz : Sp := fun vs H Q _ => ∃ (a b : Addr) (o1 o2 : Addr) (s : Bool) (ns : List Int), vs = [.ref a, .ref b] ∧ MazeAt H a o1 s ns ∧ MazeAt H b o2 s ns ∧ ns.length ≤ 60 ∧ ∀ H', Same H H' → Q (.bl true) H'
def spCuts : Sp := fun vs H Q _ => ∃ (o : Addr) (ns : List Int), vs = [.ref o] ∧ H o = some (.tup (ns.map V.int)) ∧ ns.length ≤ 60 ∧ ∀ (l : Addr) (H' : Hp), H l = none → Same H H' → H' l = some (.lst ((cutsZ ns ns.length).map fun c : Nat => V.int c)) → Q (.ref l) H'
def spApart : Sp := fun vs H Q _ => ∃ (m o : Addr) (b : Bool) (ns : List Int), vs = [.ref m] ∧ MazeAt H m o b ns ∧ ns.length ≤ 60 ∧ ∀ (l : Addr) (H' : Hp), H l = none → Same H H' → Parts H' l (partsP b ns (cutsZ ns ns.length)).1 → Q (.ref l) H'
end Rm

set_option Elab.async false
set_option linter.all false
set_option maxRecDepth 100000
set_option maxHeartbeats 4000000
/-! An exception of one's own that passes through a def. -/
namespace L2
open PySem PySem.Spec PyProof.Rows
theorem pass_def {P : Program} {w : World} {K : PySem.W.Frag} {mg : Str → Option Value} {base : Heap} {N : List Str} {qual : Str} {scope : Scope} {f : Addr} {cd : Value} {A : Around} {outer : List Env} {s0 : Shared} {H0 : Hp} {E : XK} :
    Passes (CXx P w) (cxOf (CXx P w) P w K mg base N qual scope f cd A outer s0 H0 E) E := by
  intro pins σ H s e s' I hc
  generalize hX : cxOf (CXx P w) P w K mg base N qual scope f cd A outer s0 H0 E = X at I hc ⊢
  have hst : X.stack = X.env :: X.outer := by rw [← hX]; rfl
  have hfr : X.env.frame = some X.env.locals := by rw [← hX]; rfl
  have hxe : X.xe = fun e s' => wpAny (model X.prog X.w) X.A (leaving X.env e) (fun _ s'' => CXx X.prog X.w X.outer X.H₀ X.s₀ E e s'') (fun e' s'' => CXx X.prog X.w X.outer X.H₀ X.s₀ E e' s'') s' := by rw [← hX]; rfl
  have hex : X.ex = [] := by rw [← hX]; rfl
  have hP : X.prog = P := by rw [← hX]; rfl
  have hw : X.w = w := by rw [← hX]; rfl
  have hfs : frs X.stack = X.env.locals :: X.fs := by rw [hst]; unfold frs; rw [List.filterMap_cons, hfr]; rfl
  clear hX
  subst hP hw
  rw [hxe]
  obtain ⟨a, C, t, H', B, dO, rfl, os, bare, un, hok, f1, cov, ct, hE⟩ := hc
  refine wpAny_pres (Pres.leave (e := a)) ct ?_
  refine wpAny_leaves_onW (base := B) (outer := X.outer) (L := X.env.locals) (by rw [I.ok.frames, hst]) hfr (hst ▸ f1) fun h2 f4 up ct2 => ?_
  have lt0 : ∀ b o, X.s₀.heap.get? b = some o → b ≠ X.env.locals := fun b o e1 => Nat.ne_of_lt (Nat.lt_of_lt_of_le (Heap.lt_size e1) I.ok.above)
  have out : ∀ b o, X.s₀.heap.get? b = some o → b ∉ X.fs → b ∉ frs X.stack := fun b o e1 e2 z => by
    rw [hfs] at z
    exact (List.mem_cons.mp z).elim (lt0 b o e1) e2
  have mem : ∀ b, b ∈ X.fs → b ∈ frs X.stack := fun b m => by rw [hfs]; exact List.mem_cons_of_mem _ m
  have same : ∀ b o ob, B.get? b = some ob → s'.heap.get? b = some o → h2.get? b = some o := fun b o ob e e1 => by
    have e2 := f1.1 b ob e
    rw [e1] at e2; cases e2
    exact f4.1 b o e
  have fr : ∀ b o, s'.heap.get? b = some o → b ∈ frs X.stack → ∃ sl, h2.get? b = some { o with slots := sl } := fun b o e m => by
    obtain ⟨_, o1, e1, nf⟩ := f1.2.2.1.mem m
    rw [e] at e1; cases e1
    exact up b o e nf
  have u := I.base
  rw [hex] at u
  refine ⟨a, C, t, H', B, dO, rfl, os.trans I.os, bare, ⟨fun b o e1 e2 e3 e4 => ?_, fun b o e1 e2 e3 e4 => ?_, fun b o e1 e2 e4 => ?_, fun b o e1 e2 => ?_, fun b xs e1 => ?_, fun b o v e1 => ?_, fun b ps e1 => ?_⟩, fun b o e1 => ?_, f4, ⟨fun b o e1 e2 => ?_, cov.trk⟩, ct2, hE⟩
  · have k1 := u.keep b o e1 e2 e3 e4
    have n1 := out b o e1 e3
    have k2 := un.keep b o k1 (u.free b o e1 e2 e4) n1 (by simp)
    obtain ⟨ob, q⟩ := cov.old b o k1 n1
    exact same b o ob q k2
  · obtain ⟨sl, q⟩ := u.slot b o e1 e2 e3 e4
    obtain ⟨sl1, q1⟩ := un.slot b _ q (u.free b o e1 e2 e4) (mem b e3) (by simp)
    obtain ⟨sl2, q2⟩ := fr b _ q1 (mem b e3)
    exact ⟨sl2, q2⟩
  · obtain ⟨o', q⟩ := u.there b o e1 e4
    exact un.free b o' q (u.free b o e1 e2 e4) (by simp)
  · obtain ⟨o', q⟩ := u.there b o e1 e2
    obtain ⟨o2, q2⟩ := un.there b o' q (by simp)
    by_cases m : b ∈ frs X.stack
    · obtain ⟨sl, q'⟩ := fr b o2 q2 m
      exact ⟨_, q'⟩
    · obtain ⟨ob, q'⟩ := cov.old b o' q m
      exact ⟨_, f4.1 b ob q'⟩
  · exact un.tups b xs (u.tups b xs e1)
  · exact un.frzs b o v (u.frzs b o v e1)
  · obtain ⟨m1, q1⟩ := u.tbls b ps e1
    obtain ⟨m2, q2⟩ := un.tbls b _ q1
    exact ⟨m1 ++ m2, by rw [q2, Array.append_assoc]⟩
  · refine (hok b o e1).stay (fun c v hc q => ?_) (fun _ q => q) fun _ _ q => q
    obtain ⟨ob, q'⟩ : ∃ ob, B.get? c = some ob := by
      rcases hc with r | r
      · rw [r]; exact cov.trk b o e1
      · exact cov.trk c _ r
    exact same c v ob q' q
  · obtain ⟨o', q⟩ := u.there b o e1 (by simp)
    exact cov.old b o' q (out b o e1 e2)
section
variable {P : Program} {w : World} {K : PySem.W.Frag} {mg : Str → Option Value} {base : Heap} {N : List Str} {qual : Str} {scope : Scope} {f : Addr} {cd : Value} {A : Around} {outer : List Env} {s0 : Shared} {H0 : Hp} {E : XK}
/-- f(..) whose exceptions leave this def, too -/
theorem qpe_callXP {k : Nat} {x : Str} {st : Stmt} {ps : List Str} {sp : Sp} {e : Expr} {es : List Expr} {t : TA} {p pos : Pos} (D : DefX P w K mg base k x st ps sp) (hr : Room k (cxOf (CXx P w) P w K mg base N qual scope f cd A outer s0 H0 E).A) (hg : Gl (cxOf (CXx P w) P w K mg base N qual scope f cd A outer s0 H0 E) x)
    (ha : QA (cxOf (CXx P w) P w K mg base N qual scope f cd A outer s0 H0 E) (e :: es) t) (hdb : (x == ("__debug__" : Str)) = false := by decide)
    (he : starEach (e :: es) (cxOf (CXx P w) P w K mg base N qual scope f cd A outer s0 H0 E).env = (false, eval e (cxOf (CXx P w) P w K mg base N qual scope f cd A outer s0 H0 E).env) :: starEach es (cxOf (CXx P w) P w K mg base N qual scope f cd A outer s0 H0 E).env := by rfl)
    (hpl : (backTo pos (starEach es (cxOf (CXx P w) P w K mg base N qual scope f cd A outer s0 H0 E).env)).any (·.1) = false := by rfl) :
    QE (cxOf (CXx P w) P w K mg base N qual scope f cd A outer s0 H0 E) (.Call (.Name x p) (e :: es) [] pos) (tCall sp [] E t) := by
  obtain ⟨g, fd, F, m, b, G⟩ := D.ex
  exact ⟨pe_call (X := cxOf (CXx P w) P w K mg base N qual scope f cd A outer s0 H0 E) G hr hg m F.kp b .nil pass_def ha.h hdb he hpl⟩
end
end L2
namespace L2
open PySem PySem.Spec PyProof.Rows
/-- try: f(..) except C: suite, without a name -/
def tTry0 (sp : Sp) (K : PySem.W.Frag) (c : Value) (t : TA) (ts : Addr → TS) : TS := fun D σ H => t σ H fun vs H1 => sp vs H1 (fun _ H2 => D.nx σ H2) fun cls dO H2 =>
  ∃ C, cls = Value.ref C ∧ PySem.W.exmOne K (.ref C) c = some true ∧ ∀ a, H2 a = none → ts a D σ (upd H2 a (excD dO C a))
theorem w_try0 {sp : Sp} {K : PySem.W.Frag} {c : Value} {t : TA} {ts : Addr → TS} {D : Ends} {σ : St} {H : Hp} : tTry0 sp K c t ts D σ H = t σ H fun vs H1 => sp vs H1 (fun _ H2 => D.nx σ H2) fun cls dO H2 =>
  ∃ C, cls = Value.ref C ∧ PySem.W.exmOne K (.ref C) c = some true ∧ ∀ a, H2 a = none → ts a D σ (upd H2 a (excD dO C a)) := rfl
end L2
namespace L2
open PySem
theorem w_dget2 {td ty tx : TE} {σ : St} {H : Hp} {Q : VK} : tDGet2 td ty tx σ H Q = td σ H fun x H1 => ∃ a, x = .ref a ∧ IsD H1 a ∧ ty σ H1 fun y H2 => tx σ H2 fun z H3 => ∃ o, DGet H3 a y o ∧ Q (o.getD z) H3 := rfl
end L2

set_option Elab.async false
set_option linter.all false
set_option maxRecDepth 100000
set_option maxHeartbeats 4000000
/-! Two words, joined ends, rounds, closings: the specs. -/
namespace Rm
open PySem L2 PyProof.Rows
abbrev KVs := List (Key × V)
/-- a dict by the ends 0 to n - 1 -/
def Dct (kvs : KVs) (n : Nat) (L : Nat → Nat) : Prop := ∀ x : Nat, x < n → valV kvs (.inl (x : Int)) = some (.int (L x : Nat))
def lenD : PyData → Nat
  | .str z => z.length
  | _ => 0
def twoD (d e : PyData) : Bool := isWordD d && (isWordD e && decide (lenD d = lenD e))
def wdD (bs : List Bool) : PyData := .str (wd bs)
theorem wd_txt {bs : List Bool} (h : bs.length ≤ 40) : TxtOk (wdD bs) := ⟨wd_ascii bs, by rw [wd_length]; omega⟩
theorem wd_isW {bs : List Bool} (b : Bal bs) (h : bs.length ≤ 40) : isWordD (wdD bs) = true := isW_wd b h
theorem two_wd {bs cs : List Bool} (b : Bal bs) (c : Bal cs) (h : bs.length ≤ 40) (e : cs.length = bs.length) : twoD (wdD bs) (wdD cs) = true := by
  unfold twoD
  rw [wd_isW b h, wd_isW c (by omega)]
  show (true && (true && decide ((wd bs).length = (wd cs).length))) = true
  rw [wd_length, wd_length, e]; simp
def spVetW (C : Addr) : Sp := fun vs H Q E => ∃ x y d e, vs = [x, y] ∧ Dat H x d ∧ TxtOk d ∧ Dat H y e ∧ TxtOk e ∧ ((twoD d e = true ∧ Q (.bl true) H) ∨ (twoD d e = false ∧ E (.ref C) none H))
def spPartners : Sp := fun vs H Q _ => ∃ bs, vs = [.str (wd bs)] ∧ Bal bs ∧ bs.length ≤ 40 ∧ ∀ d kvs H', H d = none → Same H H' → H' d = some (.dK kvs) → Dct kvs bs.length (mtF bs) → Q (.ref d) H'
theorem small_nodup {n : Nat} {l : List Nat} (h : l.Nodup) (k : ∀ x ∈ l, x < n) : l.length ≤ n := by
  refine Nat.le_of_not_lt fun hlt => ?_
  have := (perm_of_sub h (m := List.range n) (fun x hx => List.mem_range.mpr (k x hx)) (by simp; omega)).length_eq
  simp at this
  omega
/-! ### one round -/
def itF (L R : Nat → Nat) (e : Nat) : Nat → Nat
  | 0 => e
  | i + 1 => R (L (itF L R e i))
def rdL (L R : Nat → Nat) (e : Nat) : Nat → List Nat
  | 0 => []
  | i + 1 => rdL L R e i ++ [itF L R e i] ++ [L (itF L R e i)]
theorem rd_mem {L R : Nat → Nat} {e x : Nat} : ∀ {i : Nat}, x ∈ rdL L R e i ↔ ∃ j, j < i ∧ (x = itF L R e j ∨ x = L (itF L R e j))
  | 0 => by simp [rdL]
  | i + 1 => by
    rw [rdL, List.mem_append, List.mem_append, rd_mem, List.mem_singleton, List.mem_singleton]
    constructor
    · rintro ((⟨j, hj, h⟩ | h) | h)
      · exact ⟨j, by omega, h⟩
      · exact ⟨i, by omega, .inl h⟩
      · exact ⟨i, by omega, .inr h⟩
    · rintro ⟨j, hj, h⟩
      by_cases e : j = i
      · subst e; exact h.elim (fun h => .inl (.inr h)) .inr
      · exact .inl (.inl ⟨j, by omega, h⟩)
theorem rd_len {L R : Nat → Nat} {e : Nat} : ∀ i, (rdL L R e i).length = 2 * i
  | 0 => rfl
  | i + 1 => by rw [rdL, List.length_append, List.length_append, rd_len i]; simp; omega
theorem it_lt {n : Nat} {L R : Nat → Nat} {e : Nat} (PL : Prt n L) (PR : Prt n R) (h : e < n) : ∀ i, itF L R e i < n
  | 0 => h
  | i + 1 => PR.lt _ (PL.lt _ (it_lt PL PR h i))
/-- no end of the first i is met twice -/
def Inj (L R : Nat → Nat) (e i : Nat) : Prop := ∀ j k, j < i → k < i → itF L R e j = itF L R e k → j = k
theorem Inj.next {n : Nat} {L R : Nat → Nat} {e i : Nat} (PL : Prt n L) (PR : Prt n R) (h : e < n) (J : Inj L R e i) (hc : i = 0 ∨ itF L R e i ≠ e) : Inj L R e (i + 1) := by
  have back : ∀ j, 0 < j → j < i → itF L R e i = itF L R e j → False := fun j h0 hj q => by
    obtain ⟨j', rfl⟩ : ∃ j', j = j' + 1 := ⟨j - 1, by omega⟩
    obtain ⟨i', rfl⟩ : ∃ i', i = i' + 1 := ⟨i - 1, by omega⟩
    have l1 := it_lt (R := R) PL PR h i'
    have l2 := it_lt (R := R) PL PR h j'
    have q' : R (L (itF L R e i')) = R (L (itF L R e j')) := q
    have q2 := congrArg R q'
    rw [PR.inv _ (PL.lt _ l1), PR.inv _ (PL.lt _ l2)] at q2
    have q3 := congrArg L q2
    rw [PL.inv _ l1, PL.inv _ l2] at q3
    have := J i' j' (by omega) (by omega) q3
    omega
  have top : ∀ j, j < i → itF L R e i = itF L R e j → False := fun j hj q => by
    by_cases z : j = 0
    · subst z
      rcases hc with c | c
      · omega
      · exact c q
    · exact back j (by omega) hj q
  intro j k hj hk q
  by_cases ej : j = i <;> by_cases ek : k = i
  · omega
  · subst ej; exact (top k (by omega) q).elim
  · subst ek; exact (top j (by omega) q.symm).elim
  · exact J j k (by omega) (by omega) q
theorem Inj.le {n : Nat} {L R : Nat → Nat} {e i : Nat} (PL : Prt n L) (PR : Prt n R) (h : e < n) (J : Inj L R e i) : i ≤ n := by
  have nd : ((List.range i).map (itF L R e)).Nodup := by
    rw [List.Nodup, List.pairwise_map]
    refine (List.Pairwise.and_mem.mp (List.nodup_range (n := i))).imp fun {a b} hab q => ?_
    exact hab.2.2 (J a b (List.mem_range.mp hab.1) (List.mem_range.mp hab.2.1) q)
  have := small_nodup nd fun x hx => by
    obtain ⟨j, _, rfl⟩ := List.mem_map.mp hx
    exact it_lt PL PR h j
  simpa using this
structure Rnd (n : Nat) (L R : Nat → Nat) (e : Nat) (r : List Nat) : Prop where
  head : e ∈ r
  inn : ∀ x ∈ r, x < n ∧ L x ∈ r ∧ R x ∈ r
  one : ∀ f : Nat → Int, (∀ x, x < n → f (L x) = f x ∧ f (R x) = f x) → ∀ x ∈ r, f x = f e
  len : r.length ≤ 80
  per : ∃ i, r = rdL L R e i ∧ 0 < i ∧ Inj L R e i ∧ itF L R e i = e
theorem rnd_of {n : Nat} {L R : Nat → Nat} {e i : Nat} (PL : Prt n L) (PR : Prt n R) (h : e < n) (J : Inj L R e i) (n40 : n ≤ 40) (h0 : 0 < i) (hc : itF L R e i = e) : Rnd n L R e (rdL L R e i) := by
  have lt := fun j => it_lt (R := R) PL PR h j
  refine ⟨rd_mem.mpr ⟨0, h0, .inl rfl⟩, fun x hx => ?_, fun f hf x hx => ?_, by rw [rd_len]; have := J.le PL PR h; omega, i, rfl, h0, J, hc⟩
  · obtain ⟨j, hj, e1⟩ := rd_mem.mp hx
    have nxt : R (L (itF L R e j)) ∈ rdL L R e i := by
      by_cases c : j + 1 < i
      · exact rd_mem.mpr ⟨j + 1, c, .inl rfl⟩
      · have : j + 1 = i := by omega
        have q : itF L R e (j + 1) = e := by rw [this]; exact hc
        exact rd_mem.mpr ⟨0, h0, .inl q⟩
    rcases e1 with rfl | rfl
    · refine ⟨lt j, rd_mem.mpr ⟨j, hj, .inr rfl⟩, ?_⟩
      by_cases z : j = 0
      · subst z
        obtain ⟨i', rfl⟩ : ∃ i', i = i' + 1 := ⟨i - 1, by omega⟩
        have q : R (L (itF L R e i')) = e := hc
        refine rd_mem.mpr ⟨i', by omega, .inr ?_⟩
        show R e = _
        have q2 := congrArg R q
        rw [PR.inv _ (PL.lt _ (lt i'))] at q2
        exact q2.symm
      · obtain ⟨j', rfl⟩ : ∃ j', j = j' + 1 := ⟨j - 1, by omega⟩
        refine rd_mem.mpr ⟨j', by omega, .inr ?_⟩
        show R (R (L (itF L R e j'))) = _
        rw [PR.inv _ (PL.lt _ (lt j'))]
    · refine ⟨PL.lt _ (lt j), rd_mem.mpr ⟨j, hj, .inl (PL.inv _ (lt j))⟩, nxt⟩
  · have base : ∀ j, f (itF L R e j) = f e := by
      intro j
      induction j with
      | zero => rfl
      | succ j ih =>
        show f (R (L (itF L R e j))) = f e
        rw [(hf _ (PL.lt _ (lt j))).2, (hf _ (lt j)).1, ih]
    obtain ⟨j, hj, rfl | rfl⟩ := rd_mem.mp hx
    · exact base j
    · rw [(hf _ (lt j)).1]; exact base j
def natI (r : List Nat) : List V := r.map fun x : Nat => V.int x
def spRound : Sp := fun vs H Q _ => ∃ (e : Nat) (d1 d2 : Addr) (k1 k2 : KVs) (n : Nat) (L R : Nat → Nat), vs = [.int e, .ref d1, .ref d2] ∧ H d1 = some (.dK k1) ∧ H d2 = some (.dK k2) ∧ Dct k1 n L ∧ Dct k2 n R ∧ Prt n L ∧ Prt n R ∧ n ≤ 40 ∧ e < n ∧
  ∀ l r H', H l = none → Same H H' → H' l = some (.lst (natI r)) → Rnd n L R e r → Q (.ref l) H'
/-- the rounds of the ends ahead of i, and which ends they have -/
structure RIn (n : Nat) (L R : Nat → Nat) (i : Nat) (rs : List (List Nat)) (met : Nat → Prop) : Prop where
  rn : Rnds n L R rs
  mt : ∀ x, met x ↔ ∃ r ∈ rs, x ∈ r
  upto : ∀ x, x < i → met x
  len : rs.length ≤ i
theorem RIn.start {n : Nat} {L R : Nat → Nat} : RIn n L R 0 [] (fun _ => False) := ⟨⟨(fun r h => nomatch h), (fun f _ r h => nomatch h), .nil, (fun r h => nomatch h)⟩, fun x => by simp, fun x h => by omega, Nat.le_refl _⟩
theorem RIn.skip {n : Nat} {L R : Nat → Nat} {i : Nat} {rs : List (List Nat)} {met : Nat → Prop} (h : RIn n L R i rs met) (hm : met i) : RIn n L R (i + 1) rs met :=
  ⟨h.rn, h.mt, fun x hx => by
    by_cases e : x = i
    · rw [e]; exact hm
    · exact h.upto x (by omega), by have := h.len; omega⟩
theorem RIn.add {n : Nat} {L R : Nat → Nat} {i : Nat} {rs : List (List Nat)} {met : Nat → Prop} {r : List Nat} (h : RIn n L R i rs met) (PL : Prt n L) (PR : Prt n R) (hm : ¬ met i) (X : Rnd n L R i r) : RIn n L R (i + 1) (rs ++ [r]) (fun x => met x ∨ x ∈ r) := by
  have ap : ∀ s ∈ rs, ∀ x ∈ s, x ∉ r := fun s hs x hx hr => by
    have open_ : ∀ y, y < n → (y ∈ s ↔ L y ∈ s) ∧ (y ∈ s ↔ R y ∈ s) := fun y hy => by
      refine ⟨⟨fun z => (h.rn.inn s hs y z).2.1, fun z => ?_⟩, ⟨fun z => (h.rn.inn s hs y z).2.2, fun z => ?_⟩⟩
      · have := (h.rn.inn s hs _ z).2.1; rwa [PL.inv y hy] at this
      · have := (h.rn.inn s hs _ z).2.2; rwa [PR.inv y hy] at this
    have q := X.one (fun y => if y ∈ s then 1 else 0) (fun y hy => by
      obtain ⟨a, b⟩ := open_ y hy
      constructor
      · by_cases c : y ∈ s
        · simp [c, a.mp c]
        · have : L y ∉ s := fun z => c (a.mpr z)
          simp [c, this]
      · by_cases c : y ∈ s
        · simp [c, b.mp c]
        · have : R y ∉ s := fun z => c (b.mpr z)
          simp [c, this]) x hr
    have : i ∈ s := by
      by_cases c : i ∈ s
      · exact c
      · simp [hx, c] at q
    exact hm ((h.mt i).mpr ⟨s, hs, this⟩)
  refine ⟨⟨fun s hs => ?_, fun f hf s hs x hx y hy => ?_, ?_, fun s hs => ?_⟩, fun x => ?_, fun x hx => ?_, by rw [List.length_append]; have := h.len; simp; omega⟩
  · rcases List.mem_append.mp hs with hs | hs
    · exact h.rn.inn s hs
    · rw [List.mem_singleton] at hs; subst hs; exact X.inn
  · rcases List.mem_append.mp hs with hs | hs
    · exact h.rn.one f hf s hs x hx y hy
    · rw [List.mem_singleton] at hs; subst hs; rw [X.one f hf x hx, X.one f hf y hy]
  · rw [List.pairwise_append]
    refine ⟨h.rn.apart, List.pairwise_singleton _ _, fun s hs t ht => ?_⟩
    rw [List.mem_singleton] at ht; subst ht
    exact ap s hs
  · rcases List.mem_append.mp hs with hs | hs
    · exact h.rn.ne s hs
    · rw [List.mem_singleton] at hs; subst hs
      intro e; have := X.head; rw [e] at this; cases this
  · constructor
    · rintro (z | z)
      · obtain ⟨s, hs, hx⟩ := (h.mt x).mp z
        exact ⟨s, List.mem_append_left _ hs, hx⟩
      · exact ⟨r, by simp, z⟩
    · rintro ⟨s, hs, hx⟩
      rcases List.mem_append.mp hs with hs | hs
      · exact .inl ((h.mt x).mpr ⟨s, hs, hx⟩)
      · rw [List.mem_singleton] at hs; subst hs; exact .inr hx
  · by_cases e : x = i
    · rw [e]; exact .inr X.head
    · exact .inl (h.upto x (by omega))
/-- two words of the same number of ends -/
structure TwoW (bs cs : List Bool) : Prop where
  bal : Bal bs
  balR : Bal cs
  len : bs.length ≤ 40
  eq : cs.length = bs.length
def spRoundsX (C : Addr) : Sp := fun vs H Q E => ∃ x y d e, vs = [x, y] ∧ Dat H x d ∧ TxtOk d ∧ Dat H y e ∧ TxtOk e ∧
  ((∃ bs cs, d = wdD bs ∧ e = wdD cs ∧ TwoW bs cs ∧ ∀ l ws rs H', H l = none → Same H H' → H' l = some (.lst ws) → ws.length = rs.length → RIn bs.length (mtF bs) (mtF cs) bs.length rs (fun x => ∃ r ∈ rs, x ∈ r) → Q (.ref l) H') ∨ (twoD d e = false ∧ E (.ref C) none H))
def spClosX (C : Addr) : Sp := fun vs H Q E => ∃ x y d e, vs = [x, y] ∧ Dat H x d ∧ TxtOk d ∧ Dat H y e ∧ TxtOk e ∧
  ((∃ bs cs ms, d = wdD bs ∧ e = wdD cs ∧ TwoW bs cs ∧ Mates cs cs.length ms ∧ ∀ l H', H l = none → Same H H' → H' l = some (.lst ((closC (lab0 bs.length (mtF bs)) ms).1.map V.bl)) → Q (.ref l) H') ∨ (twoD d e = false ∧ E (.ref C) none H))
def spWordE : Sp := fun vs H Q _ => ∃ (c : Int) (m : Nat), vs = [.int c, .int ((2 * m : Nat) : Int)] ∧ m ≤ 20 ∧ ∀ bs H', Bal bs → bs.length = 2 * m → Same H H' → Q (.str (wd bs)) H'
/-- the dict of some bows, each by both its ends -/
structure BwD (kvs : KVs) (bw : List (Nat × Nat)) : Prop where
  has : ∀ p ∈ bw, valV kvs (.inl (p.1 : Int)) = some (.int (p.2 : Nat)) ∧ valV kvs (.inl (p.2 : Int)) = some (.int (p.1 : Nat))
  only : ∀ (x : Nat) v, valV kvs (.inl (x : Int)) = some v → ∃ p ∈ bw, (x = p.1 ∧ v = .int (p.2 : Nat)) ∨ (x = p.2 ∧ v = .int (p.1 : Nat))
  len : kvs.length ≤ 2 * bw.length
def spJoined : Sp := fun vs H Q _ => ∃ (d1 d2 : Addr) (k1 k2 : KVs) (n : Nat) (L : Nat → Nat) (bw : List (Nat × Nat)) (g : List Int) (st gl : Nat), vs = [.ref d1, .ref d2, .int st, .int gl] ∧ H d1 = some (.dK k1) ∧ H d2 = some (.dK k2) ∧ Dct k1 n L ∧ BwD k2 bw ∧ Prt n L ∧ Lab n L bw g ∧ n ≤ 40 ∧ st < n ∧ gl < n ∧
  ∀ H', Same H H' → Q (.bl (decide (gv g st = gv g gl))) H'
def spRefW : Sp := fun vs H Q _ => ∃ x y d e, vs = [x, y] ∧ Dat H x d ∧ TxtOk d ∧ Dat H y e ∧ TxtOk e ∧ twoD d e = false ∧ ∀ H', Same H H' → Q (.bl true) H'
end Rm

set_option Elab.async false
set_option linter.all false
set_option maxRecDepth 100000
set_option maxHeartbeats 4000000
/-! Texts: slices, a sign within a text. -/
namespace L2
open PySem PySem.Spec PyProof.Rows
def rSlS : V → Option Int → Option Int → Hp → VK → Prop := fun x lo hi H Q => ∃ z, x = .str z ∧ z.length ≤ sizeLine ∧ Q (.str (Txt.slice z lo hi)) H
section
variable {X : Cx}
theorem sl_str : SlR X rSlS := by
  intro pins s σ H x v vl vu lo hi sl Q I rx hs pl pu h
  obtain ⟨z, rfl, hz, q⟩ := h
  obtain ⟨t, rfl⟩ := rx
  have fin : ∀ t' k, EP X pins σ Q (.str (Txt.slice z lo hi) t') { s with toks := k } := fun t' k => ⟨.str _, H, I.tok k, ⟨t', rfl⟩, q⟩
  refine ⟨"str", _, F.slot_str_getitem.lookup, typeIs_str _ _ _, ?_⟩
  cases pl with
  | none =>
    cases pu with
    | none => exact wpAny_getItem_str_slice (l := none) (u := none) (st := none) hs rfl (post_val_or_str ⟨Nat.le_trans (Txt.slice_le z _ _) hz, fin⟩)
    | int j u => exact wpAny_getItem_str_slice (l := none) (u := some (j, u)) (st := none) hs rfl (post_val_or_str ⟨Nat.le_trans (Txt.slice_le z _ _) hz, fin⟩)
  | int i w =>
    cases pu with
    | none => exact wpAny_getItem_str_slice (l := some (i, w)) (u := none) (st := none) hs rfl (post_val_or_str ⟨Nat.le_trans (Txt.slice_le z _ _) hz, fin⟩)
    | int j u => exact wpAny_getItem_str_slice (l := some (i, w)) (u := some (j, u)) (st := none) hs rfl (post_val_or_str ⟨Nat.le_trans (Txt.slice_le z _ _) hz, fin⟩)
theorem w_slS {z : Str} {lo hi : Option Int} {H : Hp} {Q : VK} : rSlS (.str z) lo hi H Q = (z.length ≤ sizeLine ∧ Q (.str (Txt.slice z lo hi)) H) :=
  propext ⟨fun ⟨_, e, h⟩ => by cases e; exact h, fun h => ⟨z, rfl, h⟩⟩
end
end L2
namespace Rm
open PySem L2
/-- a text of plain signs of at most so many -/
structure Plain (z : Str) (n : Nat) : Prop where
  as : z.cps.all (· < 128) = true
  le : z.length ≤ n
theorem Plain.slice {z : Str} {n : Nat} (h : Plain z n) (lo hi : Option Int) : Plain (Txt.slice z lo hi) n := by
  refine ⟨?_, Nat.le_trans (Txt.slice_le z lo hi) h.le⟩
  unfold Txt.slice
  split
  · exact h.as
  · rw [Array.all_eq_true]
    intro i hi
    have h1 := List.getElem_mem (l := (Builtin.Str.strSliceIndices lo _ 1 z.length).filterMap (z.cps[·]?)) (n := i) (by simpa using hi)
    obtain ⟨j, _, hj⟩ := List.mem_filterMap.mp h1
    have h2 := Array.all_eq_true.mp h.as
    obtain ⟨hj1, hj2⟩ := Array.getElem?_eq_some_iff.mp hj
    have := h2 j hj1
    rw [hj2] at this
    simpa using this
theorem Plain.app {z y : Str} {n m : Nat} (h : Plain z n) (g : Plain y m) : Plain (z ++ y) (n + m) := by
  refine ⟨?_, ?_⟩
  · show (z.cps ++ y.cps).all (· < 128) = true
    rw [Array.all_append, h.as, g.as]; rfl
  · show (z.cps ++ y.cps).size ≤ _
    rw [Array.size_append]
    exact Nat.add_le_add h.le g.le
theorem Plain.mono {z : Str} {n m : Nat} (h : Plain z n) (e : n ≤ m) : Plain z m := ⟨h.as, Nat.le_trans h.le e⟩
theorem Plain.txt {z : Str} {n : Nat} (h : Plain z n) (e : n ≤ 1000) : TxtOk (.str z) := ⟨h.as, Nat.le_trans h.le e⟩
def spIsWordL (K : PySem.W.Frag) : Sp := fun vs H Q _ => ∃ x d, vs = [x] ∧ Dat H x d ∧ TxtOk d ∧ Q (.bl (isWordD d)) H
def spWrongText : Sp := fun vs H Q _ => ∃ bs c, vs = [.str (wd bs), .int c] ∧ bs.length ≤ 40 ∧ ∀ x d H', Same H H' → Dat H' x d → TxtOk d → Q x H'
def spWrongBows : Sp := fun vs H Q _ => ∃ l ps c, vs = [.ref l, .int c] ∧ BowsAt H l ps ∧ ps.length ≤ 20 ∧ ∀ x d H', Same H H' → Dat H' x d → Q x H'
def spTextOf : Sp := fun vs H Q _ => ∃ x d, vs = [x] ∧ Dat H x d ∧ ∀ H', Same H H' → (match wordsD d with | some ps => Q (.str (wd (wordB ps))) H' | none => Q .non H')
end Rm
namespace Rm
open PySem L2
theorem Plain.sz {z : Str} {n : Nat} (h : Plain z n) (e : n ≤ 1000) : z.length ≤ sizeLine := Nat.le_of_lt (small1000 (Nat.le_trans h.le e))
theorem Plain.sum {z y : Str} {n m : Nat} (h : Plain z n) (g : Plain y m) (e : n + m ≤ 1000) : z.length + y.length ≤ sizeLine := Nat.le_of_lt (small1000 (Nat.le_trans (Nat.add_le_add h.le g.le) e))
end Rm
namespace Rm
open PySem L2
/-- a heap but for one address -/
def wo (H : Hp) (m : Addr) : Hp := fun b => if b = m then none else H b
theorem wo_same (H : Hp) (m : Addr) : Same (wo H m) H := fun b o e => by
  unfold wo at e
  by_cases h : b = m
  · rw [if_pos h] at e; cases e
  · rw [if_neg h] at e; exact e
theorem wo_self (H : Hp) (m : Addr) (o : HO) : wo (upd H m o) m = wo H m := by
  funext b
  unfold wo
  by_cases h : b = m
  · rw [if_pos h, if_pos h]
  · rw [if_neg h, if_neg h, upd_ne h]
theorem wo_new {H : Hp} {m t : Addr} {o : HO} (h : H t = none) : Same (wo H m) (wo (upd H t o) m) := fun b u e => by
  have e' := wo_same H m b u e
  unfold wo at e ⊢
  by_cases hb : b = m
  · rw [if_pos hb] at e; cases e
  · rw [if_neg hb, upd_ne (ne_of_none e' h)]; exact e'
theorem wo_at {H : Hp} {m t : Addr} {u : HO} (h : t ≠ m) (e : H t = some u) : wo H m t = some u := by unfold wo; rw [if_neg h]; exact e
theorem datL_set {H : Hp} : ∀ {xs : List V} {ds : List PyData} {i : Nat} {v : V} {d : PyData}, DatL H xs ds → Dat H v d → DatL H (xs.set i v) (ds.set i d)
  | [], _, _, _, _, h, _ => by cases h; exact .nil
  | x :: xs, _, 0, v, d, h, hv => by cases h with | cons a b => exact .cons hv b
  | x :: xs, _, i + 1, v, d, h, hv => by cases h with | cons a b => exact .cons a (datL_set b hv)
theorem datL_erase {H : Hp} : ∀ {xs : List V} {ds : List PyData} {i : Nat}, DatL H xs ds → DatL H (xs.eraseIdx i) (ds.eraseIdx i)
  | [], _, _, h => by cases h; exact .nil
  | x :: xs, _, 0, h => by cases h with | cons a b => exact b
  | x :: xs, _, i + 1, h => by cases h with | cons a b => exact .cons a (datL_erase b)
theorem datL_snoc {H : Hp} : ∀ {xs : List V} {ds : List PyData} {v : V} {d : PyData}, DatL H xs ds → Dat H v d → DatL H (xs ++ [v]) (ds ++ [d])
  | [], _, _, _, h, hv => by cases h; exact .cons hv .nil
  | x :: xs, _, v, d, h, hv => by cases h with | cons a b => exact .cons a (datL_snoc b hv)
/-- the list at m, told by data that don't reach it -/
structure Kept (H : Hp) (m : Addr) (H' : Hp) (xs : List V) : Prop where
  sm : Same H H'
  at_ : H' m = some (.lst xs)
  dat : ∃ ds, DatL (wo H' m) xs ds
theorem Kept.new {H H' : Hp} {m t : Addr} {xs : List V} {o : HO} (k : Kept H m H' xs) (nt : H' t = none) : Kept H m (upd H' t o) xs :=
  ⟨k.sm.new (k.sm.free nt), by rw [upd_ne (ne_of_none k.at_ nt)]; exact k.at_, k.dat.imp fun ds h => h.same (wo_new nt)⟩
theorem Kept.put {H H' : Hp} {m : Addr} {xs : List V} {i : Nat} {v : V} {d : PyData} (k : Kept H m H' xs) (fm : H m = none) (hv : Dat (wo H' m) v d) : Kept H m (upd H' m (.lst (xs.set i v))) (xs.set i v) :=
  ⟨k.sm.new fm, upd_same, let ⟨ds, h⟩ := k.dat; ⟨ds.set i d, by rw [wo_self]; exact datL_set h hv⟩⟩
theorem Kept.drop {H H' : Hp} {m : Addr} {xs : List V} {i : Nat} (k : Kept H m H' xs) (fm : H m = none) : Kept H m (upd H' m (.lst (xs.eraseIdx i))) (xs.eraseIdx i) :=
  ⟨k.sm.new fm, upd_same, let ⟨ds, h⟩ := k.dat; ⟨ds.eraseIdx i, by rw [wo_self]; exact datL_erase h⟩⟩
theorem Kept.snoc {H H' : Hp} {m : Addr} {xs : List V} {v : V} {d : PyData} (k : Kept H m H' xs) (fm : H m = none) (hv : Dat (wo H' m) v d) : Kept H m (upd H' m (.lst (xs ++ [v]))) (xs ++ [v]) :=
  ⟨k.sm.new fm, upd_same, let ⟨ds, h⟩ := k.dat; ⟨ds ++ [d], by rw [wo_self]; exact datL_snoc h hv⟩⟩
theorem Kept.told {H H' : Hp} {m : Addr} {xs : List V} (k : Kept H m H' xs) : ∃ d, Dat H' (.ref m) d := let ⟨ds, h⟩ := k.dat; ⟨.list ds, .lst k.at_ (h.same (wo_same _ _))⟩
theorem Kept.old {H H' : Hp} {m a : Addr} {xs : List V} {p : Bw} (k : Kept H m H' xs) (fm : H m = none) (t : tupAt H a p) : tupAt (wo H' m) a p := wo_at (ne_of_none t fm) (k.sm _ _ t)
end Rm
namespace Rm
open PySem L2
theorem fresh {H : Hp} {p : Addr} (o : HO) (h : H p = none) : Same H (upd H p o) ∧ upd H p o p = some o := ⟨(Same.refl H).new h, upd_same⟩
end Rm

set_option Elab.async false
set_option linter.all false
set_option maxRecDepth 100000
set_option maxHeartbeats 4000000
/-! Displays of plain data, read whole. -/
namespace Rm
open PySem L2
/-- a part of the heap, in which new objects show -/
structure View where
  φ : Hp → Hp
  ok : Hp → Prop
  new : ∀ {H t o}, ok H → H t = none → ok (upd H t o) ∧ Same (φ H) (φ (upd H t o)) ∧ φ (upd H t o) t = some o
def View.all : View := ⟨id, fun _ => True, fun _ h => ⟨trivial, (Same.refl _).new h, upd_same⟩⟩
def View.but (m : Addr) : View := ⟨fun H => wo H m, fun H => ∃ o, H m = some o, fun {H t o} ⟨u, hu⟩ h => ⟨⟨u, by rw [upd_ne (ne_of_none hu h)]; exact hu⟩, wo_new h, wo_at (ne_of_none hu h).symm upd_same⟩⟩
structure DE (w : View) (σ : St) (H0 : Hp) (te : TE) (d : PyData) : Prop where
  run : ∀ (H : Hp) (Q : VK), w.ok H → Same H0 H → Same (w.φ H0) (w.φ H) → (∀ x H', w.ok H' → Same H H' → Same (w.φ H) (w.φ H') → Dat (w.φ H') x d → Q x H') → te σ H Q
structure DA (w : View) (σ : St) (H0 : Hp) (ta : TA) (ds : List PyData) : Prop where
  run : ∀ (H : Hp) (Q : List V → Hp → Prop), w.ok H → Same H0 H → Same (w.φ H0) (w.φ H) → (∀ xs H', w.ok H' → Same H H' → Same (w.φ H) (w.φ H') → DatL (w.φ H') xs ds → Q xs H') → ta σ H Q
section
variable {w : View} {σ : St} {H0 : Hp}
theorem DE.int (n : Int) : DE w σ H0 (tC (.int n)) (.int n) := ⟨fun H Q o _ _ q => q _ H o (Same.refl _) (Same.refl _) (.int n)⟩
theorem DE.bl (b : Bool) : DE w σ H0 (tC (.bl b)) (.bool b) := ⟨fun H Q o _ _ q => q _ H o (Same.refl _) (Same.refl _) (.bl b)⟩
theorem DE.str (z : Str) : DE w σ H0 (tC (.str z)) (.str z) := ⟨fun H Q o _ _ q => q _ H o (Same.refl _) (Same.refl _) (.str z)⟩
theorem DE.non : DE w σ H0 (tC .non) .none := ⟨fun H Q o _ _ q => q _ H o (Same.refl _) (Same.refl _) .non⟩
theorem DE.neg (n : Int) : DE w σ H0 (tUn (rU fun i => V.int (-i)) (tC (.int n))) (.int (-n)) := ⟨fun H Q o _ _ q => ⟨n, rfl, q _ H o (Same.refl _) (Same.refl _) (.int (-n))⟩⟩
/-- an int, reckoned out of a tuple's item -/
theorem DE.val {te : TE} {n : Int} (h : ∀ H Q, Same H0 H → Q (.int n) H → te σ H Q) : DE w σ H0 te (.int n) := ⟨fun H Q o s _ q => h H Q s (q _ H o (Same.refl _) (Same.refl _) (.int n))⟩
theorem DA.nil : DA w σ H0 tNil [] := ⟨fun H Q o _ _ q => q _ H o (Same.refl _) (Same.refl _) .nil⟩
theorem DA.cons {te : TE} {ta : TA} {d : PyData} {ds : List PyData} (h : DE w σ H0 te d) (t : DA w σ H0 ta ds) : DA w σ H0 (tCons te ta) (d :: ds) := ⟨fun H Q o s s' q =>
  h.run H _ o s s' fun x H1 o1 u1 v1 d1 => t.run H1 _ o1 (s.trans u1) (s'.trans v1) fun xs H2 o2 u2 v2 d2 => q _ H2 o2 (u1.trans u2) (v1.trans v2) (.cons (d1.same v2) d2)⟩
theorem DA.len {ta : TA} {ds : List PyData} (h : DA w σ H0 ta ds) : True := trivial
theorem DE.tup {ta : TA} {ds : List PyData} (h : DA w σ H0 ta ds) (hl : ds.length ≤ 1000) : DE w σ H0 (tTup ta) (.tuple ds) := ⟨fun H Q o s s' q =>
  h.run H _ o s s' fun xs H1 o1 u1 v1 d1 => ⟨Nat.le_of_lt (small1000 (by rw [d1.len]; exact hl)), fun p np => by
    obtain ⟨a, b, c⟩ := w.new (o := .tup xs) o1 np
    exact q _ _ a (u1.new (u1.free np)) (v1.trans b) (.tup c (d1.same b))⟩⟩
theorem DE.lst {ta : TA} {ds : List PyData} (h : DA w σ H0 ta ds) (hl : ds.length ≤ 1000) : DE w σ H0 (tLst ta) (.list ds) := ⟨fun H Q o s s' q =>
  h.run H _ o s s' fun xs H1 o1 u1 v1 d1 => ⟨Nat.le_of_lt (small1000 (by rw [d1.len]; exact hl)), fun p np => by
    obtain ⟨a, b, c⟩ := w.new (o := .lst xs) o1 np
    exact q _ _ a (u1.new (u1.free np)) (v1.trans b) (.lst c (d1.same b))⟩⟩
end
/-- [..][i] of a display -/
theorem datL_at {H : Hp} {xs : List V} {ds : List PyData} {i : Int} (h : DatL H xs ds) (h0 : 0 ≤ i) (h1 : i < ds.length) : ∃ v d, atI xs i = some v ∧ d ∈ ds ∧ Dat H v d := by
  have hi : i.toNat < xs.length := by rw [h.len]; omega
  obtain ⟨d, hd, hv⟩ := h.get (List.getElem?_eq_getElem hi)
  refine ⟨_, d, ?_, List.mem_of_getElem? hd, hv⟩
  have := atI_nat (xs := xs) (j := i.toNat) (List.getElem?_eq_getElem hi)
  rwa [Int.toNat_of_nonneg h0] at this
end Rm
namespace Rm
open PySem L2
theorem asg_of {te : TE} {g : TG} {D : Ends} {σ : St} {H : Hp} (h : te σ H fun x H1 => g x σ H1 fun σ2 H2 => D.nx σ2 H2) : tAsg te g D σ H := h
theorem lst_of {w : View} {σ : St} {H : Hp} {ta : TA} {Q : VK} {ds : List PyData} (de : DA w σ H ta ds) (hl : ds.length ≤ 1000) (ok : w.ok H) (k : ∀ p xs H', w.ok H' → Same H H' → Same (w.φ H) (w.φ H') → w.φ H' p = some (.lst xs) → DatL (w.φ H') xs ds → Q (.ref p) H') : tLst ta σ H Q :=
  (DE.lst de hl).run H Q ok (Same.refl _) (Same.refl _) fun x H' o s s' hd => by
    cases hd with
    | lst g hL => exact k _ _ H' o s s' g hL
theorem op_of {r : R2} {ta tb : TE} {σ : St} {H : Hp} {Q : VK} (h : ta σ H fun x H1 => tb σ H1 fun y H2 => r x y H2 Q) : tOp r ta tb σ H Q := h
end Rm

set_option Elab.async false
set_option linter.all false
set_option maxRecDepth 100000
set_option maxHeartbeats 4000000
/-! Displays of things that hang on tuples, one item of them. -/
namespace Rm
open PySem L2 PyProof.Rows
section
variable {σ : L2.St} {H0 : Hp} {K : PySem.W.Frag}
abbrev D1 (σ : L2.St) (H0 : Hp) (te : TE) (d : PyData) : Prop := DE View.all σ H0 te d
abbrev D2 (σ : L2.St) (H0 : Hp) (ta : TA) (ds : List PyData) : Prop := DA View.all σ H0 ta ds
theorem D1.v {i : Nat} {v : V} {d : PyData} (h : σ[i]? = some (some v)) (hd : Dat H0 v d) : D1 σ H0 (tVar i) d := ⟨fun H Q o s _ q => ⟨v, h, q _ H o (Same.refl _) (Same.refl _) (hd.same s)⟩⟩
theorem D1.ix {i : Nat} {j : Int} {a : Addr} {xs : List V} {x : V} {d : PyData} (h : σ[i]? = some (some (.ref a))) (ha : H0 a = some (.tup xs)) (hx : atI xs j = some x) (hd : Dat H0 x d) : D1 σ H0 (tOp (rIxT K) (tVar i) (tC (.int j))) d :=
  ⟨fun H Q o s _ q => ⟨_, h, a, xs, j, x, rfl, rfl, SqT.of (s _ _ ha), hx, q _ H o (Same.refl _) (Same.refl _) (hd.same s)⟩⟩
theorem DatL.app {H : Hp} {xs ys : List V} {ds es : List PyData} : DatL H xs ds → DatL H ys es → DatL H (xs ++ ys) (ds ++ es)
  | .nil, h => h
  | .cons a b, h => .cons a (DatL.app b h)
theorem D1.list {i : Nat} {a : Addr} {xs : List V} {ds : List PyData} (h : σ[i]? = some (some (.ref a))) (ha : H0 a = some (.tup xs)) (hd : DatL H0 xs ds) :
    D1 σ H0 (tCB (fun xs H Q => ∃ p ys, xs = [V.ref p] ∧ (SqL K H p ys ∨ SqT K H p ys) ∧ ∀ (l : Addr), H l = none → Q (V.ref l) (upd H l (.lst ys))) (tCons (tVar i) tNil)) (.list ds) :=
  ⟨fun H Q o s _ q => ⟨_, h, a, xs, rfl, .inr (SqT.of (s _ _ ha)), fun l nl => q _ _ trivial ((Same.refl H).new nl) ((Same.refl H).new nl) (.lst upd_same ((hd.same s).same ((Same.refl H).new nl)))⟩⟩
end
end Rm

set_option Elab.async false
set_option linter.all false
set_option maxRecDepth 100000
set_option maxHeartbeats 4000000
/-! For k22's law: texts grown, lists of truths, the odd things. -/
namespace L2
open PySem PySem.Spec PyProof.Rows
/-- a text so many times -/
def repS (z : Str) (n : Nat) : Str := ⟨(List.replicate n z.cps).foldl (· ++ ·) #[]⟩
def rRepS : R2 := fun x y H Q => ∃ (z : Str) (n : Int), x = .str z ∧ y = .int n ∧ 2 ≤ n ∧ n ≤ 1000 ∧ 1 ≤ z.length ∧ z.length ≤ 1000 ∧ z.length * n.toNat ≤ 1000 ∧ (repS z n.toNat).length ≤ 1000 ∧ Q (.str (repS z n.toNat)) H
end L2
namespace Rm
open PySem L2 PyProof.Rows
theorem BwD.add {cs : List Bool} {kvs : KVs} {bw : List (Nat × Nat)} {a b : Nat} (h : BwD kvs bw) (hp : ∀ p ∈ bw, Mate cs p.1 p.2) (hm : Mate cs a b) : BwD (putK (putK kvs (.inl (a : Int)) (.int (b : Nat))) (.inl (b : Int)) (.int (a : Nat))) (bw ++ [(a, b)]) := by
  have val : ∀ x y, Pr cs x y → (x = a ∨ x = b ∨ valV kvs (.inl (x : Int)) = some (.int (y : Nat))) → valV (putK (putK kvs (.inl (a : Int) : Key) (.int (b : Nat))) (.inl (b : Int) : Key) (.int (a : Nat))) (.inl (x : Int)) = some (.int (y : Nat)) := fun x y hxy hx => by
    rw [valV_put, valV_put]
    by_cases c1 : x = b
    · subst c1
      have e : a = y := (Pr.symm (.inl hm)).uniq hxy
      rw [if_pos rfl, e]
    · rw [if_neg (fun z => c1 (by cases z; rfl))]
      by_cases c2 : x = a
      · subst c2
        have e : b = y := Pr.uniq (.inl hm) hxy
        rw [if_pos rfl, e]
      · rw [if_neg (fun z => c2 (by cases z; rfl))]
        rcases hx with h | h | h
        · exact absurd h c2
        · exact absurd h c1
        · exact h
  refine ⟨fun p hpp => ?_, fun x v hv => ?_, ?_⟩
  · rcases List.mem_append.mp hpp with z | z
    · exact ⟨val _ _ (.inl (hp p z)) (.inr (.inr (h.has p z).1)), val _ _ (.inr (hp p z)) (.inr (.inr (h.has p z).2))⟩
    · have e : p = (a, b) := by simpa using z
      subst e
      exact ⟨val _ _ (.inl hm) (.inl rfl), val _ _ (.inr hm) (.inr (.inl rfl))⟩
  · rw [valV_put, valV_put] at hv
    by_cases c1 : x = b
    · subst c1
      rw [if_pos rfl] at hv
      exact ⟨(a, x), by simp, .inr ⟨rfl, (Option.some.inj hv).symm⟩⟩
    · rw [if_neg (fun z => c1 (by cases z; rfl))] at hv
      by_cases c2 : x = a
      · subst c2
        rw [if_pos rfl] at hv
        exact ⟨(x, b), by simp, .inl ⟨rfl, (Option.some.inj hv).symm⟩⟩
      · rw [if_neg (fun z => c2 (by cases z; rfl))] at hv
        obtain ⟨p, hp, e⟩ := h.only x v hv
        exact ⟨p, List.mem_append_left _ hp, e⟩
  · have h1 := length_putK kvs (.inl (a : Int) : Key) (.int (b : Nat))
    have h2 := length_putK (putK kvs (.inl (a : Int) : Key) (.int (b : Nat))) (.inl (b : Int) : Key) (.int (a : Nat))
    have := h.len
    simp; omega
/-! ### the odd things -/
def OddW (d : PyData) (cs : List Bool) : Prop := TxtOk d ∧ twoD d (wdD cs) = false ∧ twoD (wdD cs) d = false
theorem odd_len {d : PyData} {cs : List Bool} (t : TxtOk d) (h : lenD d ≠ cs.length) : OddW d cs := by
  have e : lenD (wdD cs) = cs.length := wd_length cs
  refine ⟨t, ?_, ?_⟩
  · unfold twoD; rw [e, decide_eq_false h]; simp
  · unfold twoD; rw [e, decide_eq_false (fun z => h z.symm)]; simp
theorem wd_oc (bs : List Bool) : wd bs ++ Str.ofString "()" = wd (bs ++ [true, false]) := by
  have e : Str.ofString "()" = ⟨#[40, 41]⟩ := by decide +kernel
  rw [e]
  show (⟨(bs.map cpB).toArray ++ #[40, 41]⟩ : Str) = ⟨((bs ++ [true, false]).map cpB).toArray⟩
  congr 1
  simp [cpB]
theorem odd_oc {bs cs : List Bool} (h : bs.length ≤ 40) (e : cs.length = bs.length) : OddW (.str (wd bs ++ Str.ofString "()")) cs := by
  rw [wd_oc]
  refine odd_len ⟨wd_ascii _, by rw [wd_length]; simp; omega⟩ ?_
  show (wd (bs ++ [true, false])).length ≠ _
  rw [wd_length]; simp; omega
theorem disp_any {K : PySem.W.Frag} {σ : L2.St} {H : Hp} {ta : TA} {ti : TE} {Q : VK} {ds : List PyData} (de : D2 σ H ta ds) (hl : ds.length ≤ 1000) (hi : ∀ H' (Q' : VK), Same H H' → (∀ j : Int, 0 ≤ j → j < ds.length → Q' (.int j) H') → ti σ H' Q')
    (q : ∀ v d H', Same H H' → d ∈ ds → Dat H' v d → Q v H') : tOp (rIxL K) (tLst ta) ti σ H Q := by
  refine op_of (lst_of de hl trivial fun p xs H' _ s _ g hL => hi _ _ s fun j h0 h1 => ?_)
  obtain ⟨v, d, hv, hm, hd⟩ := datL_at hL h0 h1
  exact ⟨p, xs, j, v, rfl, rfl, SqL.of g, hv, q v d H' s hm hd⟩
/-- a text reckoned -/
theorem D1.txt {σ : L2.St} {H0 : Hp} {te : TE} {z : Str} (h : ∀ H (Q : VK), Same H0 H → Q (.str z) H → te σ H Q) : D1 σ H0 te (.str z) := ⟨fun H Q o s _ q => h H Q s (q _ H o (Same.refl _) (Same.refl _) (.str z))⟩
end Rm

set_option Elab.async false
set_option linter.all false
set_option maxRecDepth 100000
set_option maxHeartbeats 4000000
/-! A comprehension over a list while an exception is handled. -/
namespace L2
open PySem PySem.Spec PyProof.Rows
theorem next_list_endH {prog : Program} {w : World} {A : Around} {E : Value → Shared → Prop} {s : Shared} {it l hx : Addr} {i : Nat} {items : Array Value} {Q : Option Value → Shared → Prop} (hh : A.handled = some (.ref hx)) (hc : Ct0 hx s.heap)
    (hit : s.heap.IsListIter it l i) (hl : s.heap.IsList l items) (hx0 : items[i]? = none) (hne : hx ≠ it) (hQ : ∀ h', Heap.ExtBut it s.heap h' → Q none { s with heap := h' }) : wpAny (model prog w) A (pyNext (.ref it)) Q E s := by
  obtain ⟨oi, hoi, hci, hdi⟩ := id hit
  obtain ⟨ol, hol, _, nl, hdl⟩ := hl
  unfold pyNext
  refine wpAny_bind (wpAny_attempt (wpAny_callSpecial?_slot (name := Str.ofString "__next__") hit.typeIs slot_listiter_next (wpAny_call_entry slot_listiter_next hit.typeIs entry_listiter_next ?_ (args_listiter_next _))))
  show wpAny _ _ (field (.ref it) 0 >>= _) _ _ s; refine wpAny_bind (wpAny_field hoi hdi (x := .ref l) rfl ?_)
  show wpAny _ _ (if (Value.ref l == Value.none) = true then _ else _) _ _ s; rw [if_neg (show ¬ ((Value.ref l == Value.none) = true) from Bool.false_ne_true)]
  show wpAny _ _ (field (.ref it) 1 >>= _) _ _ s; refine wpAny_bind (wpAny_field hoi hdi (x := .int i 0) rfl ?_)
  show wpAny _ _ (seqItems? (.ref l) >>= _) _ _ s; refine wpAny_bind (wpAny_seqItems hol hdl ?_)
  simp only [Int.toNat_natCast, hx0]; refine wpAny_bind (wpAny_rule (wpAny_bind (wpAny_setField hoi hdi (by simp) ?_)))
  generalize hg : s.heap.update it _ = g
  have sb : Heap.SameBut it s.heap g := by rw [← hg]; exact Heap.SameBut.update ..
  show wpAny (model prog w) A.in1 (Bind.bind (newExc (Value.type "StopIteration") []) raiseNew) _ _ _
  refine wpAny_bind ?_
  show wpAny (model prog w) A.in1 (Bind.bind (newTuple []) _) _ _ _
  refine wpAny_bind (wpAny_newObj_type (wpAny_bind (wpAny_of_eq (Eq.refl (firstArgMember (Value.type "StopIteration") [])) (wpAny_newObj_type ?_))))
  dsimp only
  generalize hh1 : (g.push _).push _ = h1
  unfold raiseNew
  refine wpAny_bind (wpAny_handled ?_)
  rw [show A.in1.handled = some (.ref hx) from hh]
  dsimp only
  obtain ⟨o, vs, e1, ⟨_, e2⟩, e3⟩ := hc
  have e1g : g.get? hx = some o := (sb.2 hx hne).trans e1
  have lt := Heap.lt_size e1g
  have sz : (g.push { cls := Value.type "tuple", data := Data.seq #[] }).objs.size = g.objs.size + 1 := Heap.size_push _ _
  rw [sz]
  have nx : hx ≠ g.objs.size + 1 := Nat.ne_of_lt (Nat.lt_succ_of_lt lt)
  have k1 : ∀ b u, g.get? b = some u → h1.get? b = some u := fun b u q => by
    rw [← hh1]
    exact Heap.get?_push_of_some _ (Heap.get?_push_of_some _ q)
  have new1 : ∃ ob ws, h1.get? (g.objs.size + 1) = some ob ∧ ob.data = .fields ws ∧ 2 < ws.size ∧ ob.cls = .type "StopIteration" := by
    rw [← hh1, ← sz]
    exact ⟨_, _, Heap.get?_push_size _ rfl, rfl, by rw [Array.size_append]; exact Nat.lt_of_lt_of_le (show 2 < 6 by decide) (Nat.le_add_right _ _), rfl⟩
  obtain ⟨ob, ws, n1, n2, n3, n4⟩ := new1
  rw [if_pos (by simp [nx])]
  refine wpAny_bind (wpAny_holding (runValue_entry unchain_entry ?_))
  show wpAny _ _ (Bind.bind (field (Value.ref hx) 2) _) _ _ _
  refine wpAny_bind (wpAny_field (k1 _ _ e1g) e2 e3 ?_)
  rw [if_pos (show (Value.none == Value.none) = true from rfl)]
  refine wpAny_pure ⟨_, rfl, ?_⟩
  show wpAny _ _ (Bind.bind (setField (Value.ref (g.objs.size + 1)) 2 (Value.ref hx)) _) _ _ _
  refine wpAny_bind (wpAny_setField n1 n2 n3 (wpAny_throw ?_))
  have up := Heap.get?_update_self (Obj.mapFields fun z => z.setIfInBounds 2 (Value.ref hx)) n1 (by obtain ⟨c, d, da, sl⟩ := ob; cases n2; rfl)
  refine wpAny_bind (wpAny_isInstance (T := "StopIteration") ⟨_, up, by obtain ⟨c, d, da, sl⟩ := ob; cases n2; exact n4⟩ isSubtype_stop (wpAny_pure (hQ _ fun b o hb q => ?_)))
  have qg : g.get? b = some o := (sb.2 b hb).trans q
  have ne : b ≠ g.objs.size + 1 := Nat.ne_of_lt (Nat.lt_succ_of_lt (Heap.lt_size qg))
  exact Heap.get?_update_of_ne _ (Ne.symm ne) (k1 b o qg)
/-- as Turn, while the exception at hx is handled -/
structure TurnH (P : Program) (w : World) (K : PySem.W.Frag) (hx : Addr) (tg : Expr) (J : It) (fp : List Addr) (it : Addr) (tn : Nat → Heap → Prop) : Prop where
  mem : it ∈ fp
  obj : ∀ i h, tn i h → ∀ b ∈ fp, ∃ o, h.get? b = some o ∧ ∀ v, o.data ≠ .cell v
  keep : ∀ i h h', tn i h → (∀ b ∈ fp, ∀ o, h.get? b = some o → h'.get? b = some o) → tn i h'
  item : ∀ (X : Cx), X.prog = P → X.w = w → X.K = K → X.A.handled = some (.ref hx) → ∀ (i : Nat) (pins : List (Addr × Obj)) (s : Shared) (σ : St) (H : Hp) (E : Value → Shared → Prop), Inv X pins σ H s → (∀ b ∈ fp, FpOk X pins H b) → tn i s.heap → J.go i H →
    wpAny (model P w) X.A (pyNext (.ref it)) (fun r s1 => ∃ u, r = some u ∧ wpAny (model P w) X.A (letOwnedTupleGo tg (.ref it) u) (fun _ s2 => ∃ x H', Inv X pins σ H' s2 ∧ RelV x u ∧ J.yld i H x H' ∧ tn (i + 1) s2.heap ∧ ∀ b ∈ fp, H' b = none) E s1) E s
  done : ∀ (X : Cx), X.prog = P → X.w = w → X.K = K → X.A.handled = some (.ref hx) → ∀ (i : Nat) (pins : List (Addr × Obj)) (s : Shared) (σ : St) (H : Hp) (E : Value → Shared → Prop), Inv X pins σ H s → (∀ b ∈ fp, FpOk X pins H b) → tn i s.heap → J.stop i H →
    wpAny (model P w) X.A (pyNext (.ref it)) (fun r s1 => r = none ∧ Inv X pins σ H s1) E s
  self : ∀ (A : Around) (i : Nat) (s : Shared) (Q : Value → Shared → Prop) (E : Value → Shared → Prop), tn i s.heap → Q (.ref it) s → wpAny (model P w) A (pyIter (.ref it)) Q E s
def ItlH (K : PySem.W.Frag) (a hx : Addr) : It :=
  ⟨fun i H => ∃ xs x, SqL K H a xs ∧ xs[i]? = some x, fun i H x H' => H' = H ∧ ∀ xs, SqL K H a xs → xs[i]? = some x, fun i H => (∃ xs, SqL K H a xs ∧ xs.length ≤ i) ∧ ∃ C, H hx = some (excO C hx)⟩
theorem turn_listH {P : Program} {w : World} {K : PySem.W.Frag} {tg : Expr} (a it hx : Addr) : TurnH P w K hx tg (ItlH K a hx) [it] it (fun i h => h.IsListIter it a i) where
  mem := (turn_list (P := P) (w := w) (K := K) (tg := tg) a it).mem
  obj := (turn_list (P := P) (w := w) (K := K) (tg := tg) a it).obj
  keep := (turn_list (P := P) (w := w) (K := K) (tg := tg) a it).keep
  item := by
    intro X hP hw hK hc i pins s σ H E I hf st hg
    subst hP hw hK
    obtain ⟨xs, x, hq, hx⟩ := hg
    obtain ⟨its, rv, p, hz⟩ := I.list hq
    obtain ⟨u, hu, ru⟩ := rv.get hx
    obtain ⟨f0, f1, f2, f3, f4, f5⟩ := hf it (by simp)
    refine wpAny_pyNext_list_item st p.isList (x := u) (by simpa using hu) fun h' st' sb => ?_
    have I1 : Inv X pins σ H { s with heap := h' } := I.turned (t' := s.toks) (fun b o hb e => (sb.2 b hb).trans e) f0 f1 f3 f4 f5
    obtain ⟨o, e, c, d⟩ := id st'
    exact ⟨u, rfl, go_of (s := { s with heap := h' }) e c d (by decide) ⟨x, H, I1, ru, ⟨rfl, fun ys hy => by rw [I.list_inj hy hq]; exact hx⟩, st', fun b hb => (hf b hb).1⟩⟩
  done := by
    intro X hP hw hK hc i pins s σ H E I hf st hg
    subst hP hw hK
    obtain ⟨⟨xs, hq, hx0⟩, C, hC⟩ := hg
    obtain ⟨its, rv, p, hz⟩ := I.list hq
    obtain ⟨f0, f1, f2, f3, f4, f5⟩ := hf it (by simp)
    have hl := rv.length
    have ex := I.hok hx _ hC
    exact next_list_endH hc ex.1.2 st p.isList (by simp; omega) (fun z => by subst z; rw [f0] at hC; cases hC) fun h' eb => ⟨rfl, I.turned (t' := s.toks) (fun b o hb e => eb b o hb e) f0 f1 f3 f4 f5⟩
  self := (turn_list (P := P) (w := w) (K := K) (tg := tg) a it).self
section
variable {X : Cx} {pins : List (Addr × Obj)} {σ : St} {H : Hp} {s : Shared}
theorem comp_runH {hx : Addr} {own ns : List Str} {caps : List Nat} {elt tg iter : Expr} {ifs : List Expr} {scope : Scope} {pos : Pos} {it : Addr} {fp : List Addr} {tn : Nat → Heap → Prop} {J : It} {g : TG} {tf : TT} {te : TE} {Q : VK} {E : Value → Shared → Prop} {RR : Value → Addr → Result → Shared → Prop}
    (hc : X.A.handled = some (.ref hx)) (S : CScope scope ns) (cp : Caps X scope ns caps)
    (hg : ∀ C s H fp pn, PG (cxC X (own ++ ns) scope C s H fp pn) tg g) (ht : ∀ C s H fp pn, PF (cxC X (own ++ ns) scope C s H fp pn) ifs tf) (he : ∀ C s H fp pn, PE (cxC X (own ++ ns) scope C s H fp pn) elt te)
    (I : Inv X pins σ H s) (T : TurnH X.prog X.w X.K hx tg J fp it tn) (st : tn 0 s.heap) (hf : ∀ b ∈ fp, FpOk X pins H b) (hJ : CompJ J g tf te Q (initC own.length caps σ) H)
    (fin : ∀ D C m s' H' ys, D ≠ C → s'.heap.Ns C m → FpOk X pins (upd H' D (.lst ys)) C → Inv X pins σ (upd H' D (.lst ys)) s' → Q (.ref D) (upd H' D (.lst ys)) → RR (.ref D) C (.ok .next) s') :
    wpAny (model X.prog X.w) X.A (newList []) (fun acc s₃ => wpAny (model X.prog X.w) X.A (newFunctionEnv scope X.env.globals (clOf X.env scope.names []) [] X.env.qual none .none (some X.env)) (fun cenv s₄ =>
      codeAny (model X.prog X.w) X.A (.compStart (.ListComp elt [⟨tg, iter, ifs, 0⟩] scope pos) 0 (.ref it) acc { cenv with scope := relabel scope X.env }) (RR acc cenv.locals) s₄) E s₃) E s := by
  refine wpAny_newObj_type (wpAny_newFunctionEnv S.nocell (by intro y hy; simp at hy) (fun h₁ hns₁ hsb₁ => ?_) S.kind)
  dsimp only at hns₁ hsb₁ ⊢
  generalize hH2 : s.heap.push { cls := .type "list", dict := none, data := .seq ([] : List Value).toArray } = H2 at hns₁ hsb₁ ⊢
  have hC : H2.objs.size = s.heap.objs.size + 1 := by rw [← hH2, Heap.size_push]
  have hDC : s.heap.objs.size ≠ H2.objs.size := by rw [hC]; exact Nat.ne_of_lt (Nat.lt_succ_self _)
  have hCle : s.heap.objs.size ≤ H2.objs.size := by rw [hC]; exact Nat.le_succ _
  have old : ∀ b o, s.heap.get? b = some o → h₁.get? b = some o := fun b o e => hsb₁.extBut b o (by rw [hC]; exact Nat.ne_of_lt (Nat.lt_succ_of_lt (Heap.lt_size e))) (Heap.get?_push_of_some _ (hH2 ▸ Heap.get?_push_of_some _ e))
  have hacc : h₁.PlainList s.heap.objs.size #[] := ⟨_, hsb₁.extBut _ _ hDC (Heap.get?_push_of_some _ (hH2 ▸ Heap.get?_push_size _ rfl))⟩
  have hfl : ∀ b ∈ fp, b < s.heap.objs.size := fun b hb => by obtain ⟨o, e, _⟩ := T.obj _ _ st b hb; exact Heap.lt_size e
  generalize hD : s.heap.objs.size = D at hDC hacc ⊢
  generalize hCe : H2.objs.size = C at hns₁ hsb₁ hDC hCle hC ⊢
  have hDle : s.heap.objs.size ≤ D := by rw [hD]; exact Nat.le_refl _
  have hCle' : s.heap.objs.size ≤ C := by rw [hD]; rw [hD] at hCle; exact hCle
  have I₁ : Inv (cxC X (own ++ ns) scope C s H fp (X.pn ++ pins)) [] (initC own.length caps σ) H { s with heap := h₁, toks := s.toks + ([] : List (Str × Value)).length } :=
    comp_start I S cp hf hfl hCle' rfl rfl old hns₁
  have st₁ : tn 0 h₁ := T.keep _ _ _ st fun b _ o e => old b o e
  generalize hY : cxC X (own ++ ns) scope C s H fp (X.pn ++ pins) = Y at I₁
  have hgY : PG Y tg g := hY ▸ hg C s H fp (X.pn ++ pins)
  have htY : PF Y ifs tf := hY ▸ ht C s H fp (X.pn ++ pins)
  have heY : PE Y elt te := hY ▸ he C s H fp (X.pn ++ pins)
  have yP : Y.prog = X.prog := by rw [← hY]; rfl
  have yW : Y.w = X.w := by rw [← hY]; rfl
  have yK : Y.K = X.K := by rw [← hY]; rfl
  have yA : Y.A = X.A := by rw [← hY]; rfl
  have yC : Y.A.handled = some (.ref hx) := by rw [← hY]; exact hc
  have yE : Y.env = compEnvC scope (clOf X.env scope.names []) C X.env := by rw [← hY]; rfl
  have yX : Y.xe = fun _ _ => False := by rw [← hY]; rfl
  have yF : Y.fs = frs X.stack := by rw [← hY]; rfl
  have yQ : Y.pn = X.pn ++ pins := by rw [← hY]; rfl
  have yI : Y.ex = fp := by rw [← hY]; rfl
  have yS : Y.s₀ = s := by rw [← hY]; rfl
  have yH : Y.H₀ = H := by rw [← hY]; rfl
  have cells : ∀ x c, Y.env.cells.lookup x = some c → X.env.cells.lookup x = some c := fun x c e => by
    rw [yE] at e
    rcases clOf_lookup (fun y hy hfr => I.ok.has y.1 (cp.mem (S.frees y hy hfr))) (show (clOf X.env scope.names []).lookup x = some c from e) with z | z
    · simp at z
    · exact z
  have nst : ∀ b, b ≠ X.env.locals → b ∉ X.fs → b ∉ Y.fs := fun b h1 h2 z => by
    rw [yF] at z
    exact (List.mem_cons.mp (I.stkSub b z)).elim h1 h2
  have fpY : ∀ {H' : Hp}, (∀ b ∈ fp, H' b = none) → ∀ b ∈ fp, FpOk Y [] H' b := fun {H'} hn b hb => by
    obtain ⟨f0, f1, f2, f3, f4, f5⟩ := hf b hb
    refine ⟨hn b hb, ?_, nst b f1 f2, .inl (by rw [yI]; exact hb), fun x c e => f4 x c (cells x c e), fun p hp => f5 p (by simpa [yQ] using hp)⟩
    rw [yE]
    exact Nat.ne_of_lt (Nat.lt_of_lt_of_le (hfl b hb) hCle')
  have fpD : ∀ {H' : Hp}, H' D = none → FpOk Y [] H' D := fun {H'} hn => by
    obtain ⟨f0, f1, f2, f3, f4, f5⟩ := I.fpOk (H' := H') hDle hn
    refine ⟨hn, by rw [yE]; exact hDC, nst D f1 f2, .inr (by rw [yS]; exact hDle), fun x c e => f4 x c (cells x c e), fun p hp => f5 p (by simpa [yQ] using hp)⟩
  have hDf : D ∉ fp := fun z => Nat.lt_irrefl _ (Nat.lt_of_lt_of_le (hfl D z) hDle)
  have objD : ∀ {h : Heap} {us : List Value}, h.PlainList D us.toArray → ∃ o, h.get? D = some o ∧ ∀ v, o.data ≠ .cell v := fun {h us} ⟨n, e⟩ => ⟨_, e, fun v z => by cases z⟩
  -- the pins of the list that grows
  have noErr : ∀ {α : Type} {t : Sem α} {Qt : α → Shared → Prop} {sx : Shared} {E' : Value → Shared → Prop}, wpAny (model Y.prog Y.w) Y.A t Qt Y.xe sx → wpAny (model X.prog X.w) X.A t Qt E' sx := fun {α t Qt sx E'} h => by
    rw [yP, yW, yA, yX] at h
    exact wpAny_mono h (fun _ _ q => q) fun _ _ f => f.elim
  obtain ⟨W, ⟨m0, w0⟩, turn⟩ := hJ
  have TY : TurnH Y.prog Y.w Y.K hx tg J fp it tn := by rw [yP, yW, yK]; exact T
  have loop : ∀ s₃ : Shared, s₃ = { s with heap := h₁, toks := s.toks + ([] : List (Str × Value)).length } →
      codeAny (model X.prog X.w) X.A (.compLoop (.ListComp elt [⟨tg, iter, ifs, 0⟩] scope pos) 0 (.ref it) (.ref D) (compEnvC scope (clOf X.env scope.names []) C X.env)) (RR (.ref D) C) s₃ := by
    rintro s₃ rfl
    refine comp_turn_one (fun n s' => ∃ i ys us σ' H', Inv Y [] σ' H' s' ∧ tn i s'.heap ∧ (∀ b ∈ fp, H' b = none) ∧ H' D = none ∧ s'.heap.PlainList D us.toArray ∧ Vals ys us ∧ W i n ys σ' H') ?_ m0
      ⟨0, [], [], _, H, I₁, st₁, fun b hb => (hf b hb).1, I.hok.fresh hDle, hacc, .nil, w0⟩
    rintro n s3 ⟨i, ys, us, σ3, H3, I3, st3, fr3, hD3, pl3, v3, w3⟩
    have fD3 : ∀ b ∈ [D], FpOk Y [] H3 b := fun b hb => by
      have e : b = D := by simpa using hb
      subst e
      exact fpD hD3
    have I3' : Inv Y ([] ++ pinsAt [D] s3.heap) σ3 H3 s3 := I3.pinned fD3 fun b hb => by
      have e : b = D := by simpa using hb
      subst e
      exact objD pl3
    rw [List.nil_append] at I3'
    have fpY' : ∀ {H' : Hp}, (∀ b ∈ fp, H' b = none) → ∀ b ∈ fp, FpOk Y (pinsAt [D] s3.heap) H' b := fun {H'} hn b hb => by
      obtain ⟨f0, f1, f2, f3, f4, f5⟩ := fpY hn b hb
      refine ⟨f0, f1, f2, f3, f4, fun p hp => ?_⟩
      rcases List.mem_append.mp hp with z | z
      · exact f5 p (by simpa using z)
      · have e : p.1 = D := by simpa using (of_pinsAt z).1
        exact fun q => hDf (by rw [← e, q]; exact hb)
    obtain ⟨oD, eD, cD⟩ := objD pl3
    have keepD : ∀ {σ' : St} {H' : Hp} {s' : Shared} {pl : List (Addr × Obj)}, Inv Y (pinsAt [D] s3.heap ++ pl) σ' H' s' → s'.heap.PlainList D us.toArray ∧ H' D = none := fun {σ' H' s' pl} I' => by
      have := I'.pin (D, oD) (List.mem_append_right _ (List.mem_append_left _ (mem_pinsAt (by simp) eD)))
      refine ⟨?_, this.2.1⟩
      obtain ⟨k, e⟩ := pl3
      rw [e] at eD
      cases eD
      exact ⟨k, this.1⟩
    rcases turn i n ys σ3 H3 w3 with ⟨stop, hlen, qn⟩ | ⟨go, hlen, step⟩
    · refine noErr (thn (TY.done Y rfl rfl rfl yC i _ s3 σ3 H3 Y.xe I3' (fpY' fr3) st3 stop) fun r s4 ⟨hr, I4⟩ => ?_)
      subst hr
      obtain ⟨pl4, hD4⟩ := keepD (pl := []) (by rw [List.append_nil]; exact I4)
      have hun : Un (frs X.stack) fp H H3 s.heap s4.heap := by have := I4.base; rw [yF, yI, yS, yH] at this; exact this
      have hok : HOk X.prog X.w H3 s4.heap := by have := I4.hok; rw [yP, yW] at this; exact this
      obtain ⟨m4, hn4, _⟩ := I4.loc
      rw [yE] at hn4
      have hC4 : H3 C = none := by have := I4.free; rw [yE] at this; exact this
      have ne : ∀ b u, H3 b = some u → b ≠ D := fun b u e z => by rw [z, hD4] at e; cases e
      refine fin D C m4 s4 H3 ys hDC hn4 (I.fpOk hCle' (by rw [upd_ne (Ne.symm hDC)]; exact hC4)) (I.call' (ch := fp) ?_ ?_ ?_ I4.bare ?_) (qn D hD4)
      · have := I4.os; rw [yS] at this; exact this
      · exact ⟨hun.keep, hun.slot, fun b o e n hx => by rw [upd_ne (fun z => by rw [z] at e; exact absurd (Heap.lt_size e) (Nat.not_lt.mpr hDle))]; exact hun.free b o e n hx, hun.there,
          fun b xs e => by have := hun.tups b xs e; rw [upd_ne (ne _ _ this)]; exact this, fun b o u e => by have := hun.frzs b o u e; rw [upd_ne (ne _ _ this)]; exact this,
          fun b ps e => by obtain ⟨more, q⟩ := hun.tbls b ps e; exact ⟨more, by rw [upd_ne (ne _ _ q)]; exact q⟩⟩
      · intro b u e
        by_cases hb : b = D
        · subst hb
          rw [upd_same] at e
          cases e
          obtain ⟨k, e4⟩ := pl4
          exact ⟨hlen, us, k, v3, e4⟩
        · rw [upd_ne hb] at e
          exact (hok b u e).stay (fun c v _ q => q) (fun c q => by rw [upd_ne (ne _ _ q)]; exact q) fun c xs q => by rw [upd_ne (ne _ _ q)]; exact q
      · intro b hb
        obtain ⟨f0, f1, f2, f3, f4, f5⟩ := hf b hb
        exact ⟨f3, f1, f4, f5⟩
    · refine noErr (thn (TY.item Y rfl rfl rfl yC i _ s3 σ3 H3 Y.xe I3' (fpY' fr3) st3 go) fun r s4 ⟨u, hr, h4⟩ => ?_)
      subst hr
      refine noErr (thn h4 fun _ s5 ⟨x, H5, I5, r5, y5, st5, fr5⟩ => ?_)
      have I5' := I5.pinned (fpY' fr5) (T.obj _ _ st5)
      rw [← yE]
      refine noErr (thn (hgY _ s5 σ3 H5 x u _ I5' r5 (step x H5 y5)) fun _ s6 ⟨σ6, H6, I6, q6⟩ => ?_)
      refine noErr (thn (htY _ s6 σ6 H6 _ I6 q6) fun ok s7 ⟨H7, I7, q7⟩ => ?_)
      have fpK : ∀ {σ' : St} {H' : Hp} {s' : Shared}, Inv Y (pinsAt [D] s3.heap ++ pinsAt fp s5.heap) σ' H' s' → tn (i + 1) s'.heap ∧ ∀ b ∈ fp, H' b = none := fun {σ' H' s'} I' =>
        ⟨T.keep _ _ _ st5 fun b hb o e => (I'.pin (b, o) (List.mem_append_right _ (List.mem_append_right _ (mem_pinsAt hb e)))).1, fun b hb => by
          obtain ⟨o, e, _⟩ := T.obj _ _ st5 b hb
          exact (I'.pin (b, o) (List.mem_append_right _ (List.mem_append_right _ (mem_pinsAt hb e)))).2.1⟩
      cases ok with
      | false =>
        rw [if_neg Bool.false_ne_true] at q7 ⊢
        obtain ⟨m', hm, w7⟩ := q7
        obtain ⟨pl7, hD7⟩ := keepD I7
        obtain ⟨st7, fr7⟩ := fpK I7
        exact ⟨m', hm, i + 1, ys, us, σ6, H7, I7.pins_of (fun p hp => nomatch hp), st7, fr7, hD7, pl7, v3, w7⟩
      | true =>
        rw [if_pos rfl] at q7 ⊢
        refine noErr (thn (heY _ s7 σ6 H7 _ I7 q7) fun y s8 ⟨yv, H8, I8, r8, m', hm, w8⟩ => ?_)
        obtain ⟨pl8, hD8⟩ := keepD I8
        obtain ⟨st8, fr8⟩ := fpK I8
        have hul : us.length = ys.length := v3.length.symm
        refine wpAny_list_append_plain (hsz := by rw [List.size_toArray, hul]; exact Nat.le_of_lt hlen) pl8 fun h9 pl9 sb9 => ?_
        obtain ⟨d0, d1, d2, d3, d4, d5⟩ := fpD hD8
        refine ⟨m', hm, i + 1, ys ++ [yv], us ++ [y], σ6, H8, ?_, ?_, fr8, hD8, by simpa using pl9, v3.append (.cons r8 .nil), w8⟩
        · exact (I8.pins_of (pins' := []) fun p hp => nomatch hp).turned (t' := s8.toks) (fun b o hb e => (sb9.2 b hb).trans e) hD8 d1 d3 d4 d5
        · exact T.keep _ _ _ st8 fun b hb o e => (sb9.2 b (fun z => hDf (z ▸ hb))).trans e
  exact codeAny_compStart_list (loop _ rfl) (T.self _ 0 _ _ _ st₁ (loop _ rfl))
def tCompH (hx : Addr) (K : PySem.W.Frag) (k : Nat) (caps : List Nat) (tl : TE) (g : TG) (tf : TT) (te : TE) : TE := fun σ H Q => tl σ H fun x H1 => ∃ a, x = .ref a ∧ (∃ xs, SqL K H1 a xs) ∧ CompJ (ItlH K a hx) g tf te Q (initC k caps σ) H1
theorem w_compH {hx : Addr} {K : PySem.W.Frag} {k : Nat} {caps : List Nat} {tl : TE} {g : TG} {tf : TT} {te : TE} {σ : St} {H : Hp} {Q : VK} : tCompH hx K k caps tl g tf te σ H Q = tl σ H fun x H1 => ∃ a, x = .ref a ∧ (∃ xs, SqL K H1 a xs) ∧ CompJ (ItlH K a hx) g tf te Q (initC k caps σ) H1 := rfl
theorem qpe_compH {hx : Addr} {own ns : List Str} {caps : List Nat} {elt tg iter : Expr} {ifs : List Expr} {scope : Scope} {pos : Pos} {tl : TE} {g : TG} {tf : TT} {te : TE} (hc : X.A.handled = some (.ref hx)) (S : CScope scope ns) (cp : Caps X scope ns caps) (hi : QE X iter tl)
    (hg : ∀ C s H fp pn, QG (cxC X (own ++ ns) scope C s H fp pn) tg g) (ht : ∀ C s H fp pn, QF (cxC X (own ++ ns) scope C s H fp pn) ifs tf) (he : ∀ C s H fp pn, QE (cxC X (own ++ ns) scope C s H fp pn) elt te)
    (hs : ∀ x, foldedSetIterable iter X.env x = pure x := by intro _; rfl) : QE X (.ListComp elt [⟨tg, iter, ifs, 0⟩] scope pos) (tCompH hx X.K own.length caps tl g tf te) := ⟨by
  intro pins s σ H Q I h
  rw [eval_ListComp]
  refine wpAny_comprehension_free (use := none) rfl hs (cp.cl I S) S.kind S.names (thn (hi.h pins s σ H _ I h) fun v s1 ⟨x, H1, I1, r1, a, e, ⟨xs, hq⟩, hJ⟩ => ?_)
  subst e
  cases r1
  obtain ⟨its, rv, p, hz⟩ := I1.list hq
  refine wpAny_pyIter_list p.isList ?_
  have I2 : Inv X pins σ H1 { s1 with heap := s1.heap.push { cls := .type "list_iterator", data := .fields #[.ref a, .int 0 0] } } := I1.kept (t' := s1.toks) fun b o e => Heap.get?_push_of_some _ e
  have f2 : ∀ b ∈ [s1.heap.objs.size], FpOk X pins H1 b := fun b hb => by
    have e : b = s1.heap.objs.size := by simpa using hb
    subst e
    exact I1.fpOk (Nat.le_refl _) (I1.hok.fresh (Nat.le_refl _))
  refine comp_runH hc S cp (fun C s H fp pn => (hg C s H fp pn).h) (fun C s H fp pn => (ht C s H fp pn).h) (fun C s H fp pn => (he C s H fp pn).h) I2 (turn_listH a s1.heap.objs.size hx) ⟨_, Heap.get?_push_size _ rfl, rfl, rfl⟩ f2 hJ (RR := fun acc C => compPost (model X.prog X.w) X.A X.xe none (EP X pins σ Q) acc C) fun D C m s' H' ys hDC hn fC I' q => ?_
  refine ⟨m, hn, fun h' hs' => ⟨.ref D, _, ?_, rfl, q⟩⟩
  obtain ⟨f0, f1, f2, f3, f4, f5⟩ := fC
  exact I'.turned (t' := s'.toks) (fun b o hb e => (hs'.2 b hb).trans e) f0 f1 f3 f4 f5⟩
end
/-- the items that are True, no change of the heap -/
theorem comp_trueH {K : PySem.W.Frag} {a hx : Addr} {H : Hp} {Q : VK} {ts : List Bool} {C : Addr} (ha : SqL K H a (ts.map V.bl)) (hC : H hx = some (excO C hx)) (hsz : ts.length ≤ 1000) (q : ∀ p, H p = none → Q (.ref p) (upd H p (.lst ((ts.filter (· = true)).map V.bl)))) :
    CompJ (ItlH K a hx) (gName 0) (tB (tVar 0)) (tVar 0) Q [none] H := by
  have eL : (ts.map V.bl).length = ts.length := List.length_map ..
  refine comp_by ts.length (Nat.le_of_lt (small1000 hsz)) (fun i ys σ H' => H' = H ∧ ys = ((ts.take i).filter (· = true)).map V.bl ∧ ∃ x, σ = [x]) ⟨rfl, by simp, _, rfl⟩ ?_ ?_ ?_ ?_ ?_
  · rintro i ys σ H' ⟨rfl, rfl, _⟩
    rw [List.length_map]
    exact Nat.le_trans (List.length_filter_le _ _) (by rw [List.length_take]; omega)
  · rintro i ys σ H' hi ⟨rfl, _, _⟩
    exact ⟨_, (ts.map V.bl)[i]'(by rw [eL]; exact hi), ha, List.getElem?_eq_getElem _⟩
  · rintro ys σ H' ⟨rfl, _, _⟩
    exact ⟨⟨_, ha, by rw [eL]; exact Nat.le_refl _⟩, C, hC⟩
  · rintro i ys σ H' x H2 N hi ⟨rfl, rfl, x0, rfl⟩ ⟨rfl, hy⟩ hN
    obtain ⟨b, hb, rfl⟩ := got_map (hy _ ha)
    have et : ts.take (i + 1) = ts.take i ++ [b] := by rw [List.take_add_one, hb]; rfl
    show ∃ v, [some (V.bl b)][0]? = some (some v) ∧ _
    refine ⟨_, rfl, b, rfl, ?_⟩
    cases b with
    | true =>
      rw [if_pos rfl]
      exact ⟨_, rfl, hN _ _ _ ⟨rfl, by rw [et, List.filter_append]; simp, _, rfl⟩⟩
    | false =>
      rw [if_neg (fun z => nomatch z)]
      exact hN _ _ _ ⟨rfl, by rw [et, List.filter_append]; simp, _, rfl⟩
  · rintro ys σ H' p ⟨rfl, rfl, _⟩ hp
    rw [List.take_length]
    exact q p hp
end L2

set_option Elab.async false
set_option linter.all false
set_option maxRecDepth 100000
set_option maxHeartbeats 4000000
/-! The rounds of two words, one by one (k21). -/
namespace Rm
open PySem L2 PyProof.Rows
/-- the round of an end has i steps -/
structure Per (L R : Nat → Nat) (e i : Nat) : Prop where
  pos : 0 < i
  inj : Inj L R e i
  back : itF L R e i = e
theorem Per.uniq {L R : Nat → Nat} {e i j : Nat} (h : Per L R e i) (k : Per L R e j) : i = j := by
  have a : ∀ {i j}, Per L R e i → Per L R e j → ¬ i < j := fun {i j} h k hlt => by
    have := k.inj i 0 hlt k.pos h.back
    have := h.pos
    omega
  have := a h k
  have := a k h
  omega
theorem per_ex {n : Nat} {L R : Nat → Nat} {e : Nat} (PL : Prt n L) (PR : Prt n R) (h : e < n) : ∃ i, Per L R e i := by
  have go : ∀ f i, Inj L R e i → n - i < f → ∃ i, Per L R e i := by
    intro f
    induction f with
    | zero => intro i _ hf; omega
    | succ f ih =>
      intro i J hf
      by_cases hc : i = 0 ∨ itF L R e i ≠ e
      · have J2 := J.next PL PR h hc
        have := J2.le PL PR h
        exact ih (i + 1) J2 (by omega)
      · have h1 : i ≠ 0 := fun z => hc (.inl z)
        have h2 : itF L R e i = e := Classical.not_not.mp fun z => hc (.inr z)
        exact ⟨i, by omega, J, h2⟩
  exact go _ 0 (fun j k hj => by omega) (Nat.lt_succ_self _)
open Classical in
noncomputable def perF (L R : Nat → Nat) (e : Nat) : Nat := if h : ∃ i, Per L R e i then h.choose else 0
theorem perF_of {L R : Nat → Nat} {e i : Nat} (h : Per L R e i) : perF L R e = i := by
  unfold perF
  have hx : ∃ i, Per L R e i := ⟨i, h⟩
  rw [dif_pos hx]
  exact hx.choose_spec.uniq h
noncomputable def rdF (L R : Nat → Nat) (e : Nat) : List Nat := rdL L R e (perF L R e)
theorem Rnd.is {n : Nat} {L R : Nat → Nat} {e : Nat} {r : List Nat} (X : Rnd n L R e r) : r = rdF L R e := by
  obtain ⟨i, hr, h0, J, hc⟩ := X.per
  rw [hr, rdF, perF_of ⟨h0, J, hc⟩]
open Classical in
/-- the rounds of the ends ahead of i -/
noncomputable def rsF (L R : Nat → Nat) : Nat → List (List Nat)
  | 0 => []
  | i + 1 => if ∃ r ∈ rsF L R i, i ∈ r then rsF L R i else rsF L R i ++ [rdF L R i]
theorem rsF_skip {L R : Nat → Nat} {i : Nat} (h : ∃ r ∈ rsF L R i, i ∈ r) : rsF L R (i + 1) = rsF L R i := by rw [rsF, if_pos h]
theorem rsF_add {L R : Nat → Nat} {i : Nat} (h : ¬ ∃ r ∈ rsF L R i, i ∈ r) : rsF L R (i + 1) = rsF L R i ++ [rdF L R i] := by rw [rsF, if_neg h]
def NoFix (n : Nat) (L : Nat → Nat) : Prop := ∀ x, x < n → L x ≠ x
theorem mtF_ne {bs : List Bool} (b : Bal bs) : NoFix bs.length (mtF bs) := fun x hx e => by
  rcases mtF_pr b hx with h | h
  · have := h.lt; omega
  · have := h.lt; omega
/-- on the way of a round no end is come to by the other side first -/
theorem it_notL {n : Nat} {L R : Nat → Nat} {e : Nat} (PL : Prt n L) (PR : Prt n R) (NL : NoFix n L) (NR : NoFix n R) (h : e < n) : ∀ (d i j : Nat), i - j ≤ d → j ≤ i → itF L R e i ≠ L (itF L R e j) := by
  have lt := fun k => it_lt (R := R) PL PR h k
  intro d
  induction d using Nat.strongRecOn with
  | ind d ih =>
    intro i j hd hji q
    by_cases z : i = j
    · subst z; exact NL _ (lt i) q.symm
    · obtain ⟨i', rfl⟩ : ∃ i', i = i' + 1 := ⟨i - 1, by omega⟩
      have q' : R (L (itF L R e i')) = L (itF L R e j) := q
      have q2 := congrArg R q'
      rw [PR.inv _ (PL.lt _ (lt i'))] at q2
      by_cases z2 : i' = j
      · subst z2
        rw [q'] at q2
        exact NR _ (PL.lt _ (lt i')) (by rw [q'])
      · have q3 : L (itF L R e i') = itF L R e (j + 1) := q2
        have q4 := congrArg L q3
        rw [PL.inv _ (lt i')] at q4
        exact ih (i' - (j + 1)) (by omega) i' (j + 1) (Nat.le_refl _) (by omega) q4
/-- behind i steps the next end is met already just where it is the first one -/
theorem it_in {n : Nat} {L R : Nat → Nat} {e i : Nat} (PL : Prt n L) (PR : Prt n R) (NL : NoFix n L) (NR : NoFix n R) (h : e < n) (J : Inj L R e i) : itF L R e i ∈ rdL L R e i ↔ (0 < i ∧ itF L R e i = e) := by
  constructor
  · intro hm
    obtain ⟨j, hj, q | q⟩ := rd_mem.mp hm
    · refine ⟨by omega, ?_⟩
      by_cases z : itF L R e i = e
      · exact z
      · have := (J.next PL PR h (.inr z)) i j (by omega) (by omega) q
        omega
    · exact absurd q (it_notL PL PR NL NR h _ i j (Nat.le_refl _) (by omega))
  · rintro ⟨h0, hc⟩
    exact rd_mem.mpr ⟨0, h0, .inl hc⟩
/-- an end of no round yet leads to no such end -/
theorem it_out {n : Nat} {L R : Nat → Nat} {e : Nat} {rs : List (List Nat)} (PL : Prt n L) (PR : Prt n R) (X : Rnds n L R rs) (h : e < n) (hm : ¬ ∃ r ∈ rs, e ∈ r) : ∀ i, (¬ ∃ r ∈ rs, itF L R e i ∈ r) ∧ ¬ ∃ r ∈ rs, L (itF L R e i) ∈ r := by
  have lt := fun k => it_lt (R := R) PL PR h k
  have stepL : ∀ x, x < n → (¬ ∃ r ∈ rs, x ∈ r) → ¬ ∃ r ∈ rs, L x ∈ r := fun x hx hn ⟨r, hr, hy⟩ => hn ⟨r, hr, by have := (X.inn r hr _ hy).2.1; rwa [PL.inv x hx] at this⟩
  have stepR : ∀ x, x < n → (¬ ∃ r ∈ rs, x ∈ r) → ¬ ∃ r ∈ rs, R x ∈ r := fun x hx hn ⟨r, hr, hy⟩ => hn ⟨r, hr, by have := (X.inn r hr _ hy).2.2; rwa [PR.inv x hx] at this⟩
  intro i
  induction i with
  | zero => exact ⟨hm, stepL _ h hm⟩
  | succ i ih =>
    have a : ¬ ∃ r ∈ rs, itF L R e (i + 1) ∈ r := stepR _ (PL.lt _ (lt i)) ih.2
    exact ⟨a, stepL _ (lt (i + 1)) a⟩
/-! ### lists of lists in the heap -/
def RefL (H : Hp) (P : Addr → Prop) (ws : List V) (rs : List (List Nat)) : Prop := Paired (fun v r => ∃ a, v = .ref a ∧ H a = some (.lst (natI r)) ∧ P a) ws rs
theorem RefL.imp {H H' : Hp} {P P' : Addr → Prop} {ws : List V} {rs : List (List Nat)} (h : RefL H P ws rs) (f : ∀ a o, P a → H a = some o → H' a = some o ∧ P' a) : RefL H' P' ws rs := paired_imp (fun v r ⟨a, e, ha, p⟩ => ⟨a, e, (f a _ p ha).1, (f a _ p ha).2⟩) h
theorem RefL.len {H : Hp} {P : Addr → Prop} {ws : List V} {rs : List (List Nat)} (h : RefL H P ws rs) : ws.length = rs.length := paired_len h
def rsD (rs : List (List Nat)) : List PyData := rs.map fun r => .list (r.map fun x : Nat => .int x)
theorem natI_rep {K : PySem.W.Frag} {H : Hp} : ∀ r : List Nat, RepL K H (natI r) (r.map fun x : Nat => PyData.int x)
  | [] => .nil
  | x :: r => .cons (.int x) (natI_rep r)
theorem nats_map (r : List Nat) : (r.map fun x : Nat => PyData.int (x : Int)) = (r.map fun x : Nat => (x : Int)).map PyData.int := by rw [List.map_map]; rfl
theorem rs_rep {K : PySem.W.Frag} {H : Hp} {P : Addr → Prop} : ∀ {ws : List V} {rs : List (List Nat)}, RefL H P ws rs → RepL K H ws (rsD rs)
  | _, _, .nil => .nil
  | _, _, .cons ⟨a, e, ha, _⟩ t => by subst e; exact .cons (.lst (SqL.of ha) (natI_rep _)) (rs_rep t)
theorem rs_lay : ∀ rs : List (List Nat), PyData.canLayAll0 (rsD rs) = true
  | [] => rfl
  | r :: rs => by
    show (PyData.canLayAll0 (r.map fun x : Nat => PyData.int (x : Int)) && PyData.canLayAll0 (rsD rs)) = true
    rw [rs_lay rs, nats_map, ints_layAll]; rfl
theorem rs_depth : ∀ rs : List (List Nat), PyData.depthAll (rsD rs) ≤ 1
  | [] => Nat.zero_le _
  | r :: rs => by
    show max (PyData.depthAll (r.map fun x : Nat => PyData.int (x : Int)) + 1) (PyData.depthAll (rsD rs)) ≤ 1
    rw [nats_map, ints_depth]
    exact Nat.max_le.mpr ⟨Nat.le_refl _, rs_depth rs⟩
theorem rs_eqv : ∀ rs : List (List Nat), PyData.eqvAll (rsD rs) (rsD rs) = true
  | [] => rfl
  | r :: rs => by
    show (PyData.eqvAll (r.map fun x : Nat => PyData.int (x : Int)) (r.map fun x : Nat => PyData.int (x : Int)) && PyData.eqvAll (rsD rs) (rsD rs)) = true
    rw [rs_eqv rs, nats_map, ints_eqv]; simp
theorem neL_rs {K : PySem.W.Frag} {H : Hp} {a b : Addr} {P P' : Addr → Prop} {ws ws' : List V} {rs : List (List Nat)} {Q : VK} (ha : H a = some (.lst ws)) (hb : H b = some (.lst ws')) (ra : RefL H P ws rs) (rb : RefL H P' ws' rs) (q : Q (.bl false) H) : rEqD K true (.ref a) (.ref b) H Q := by
  refine ⟨.list (rsD rs), .list (rsD rs), .lst (SqL.of ha) (rs_rep ra), .lst (SqL.of hb) (rs_rep rb), rs_lay rs, rs_lay rs, ?_, ?_⟩
  · refine Nat.le_trans (Nat.min_le_left _ _) ?_
    show PyData.depthAll (rsD rs) + 1 ≤ 60
    have := rs_depth rs; omega
  · show Q (.bl (if true then !PyData.eqvAll (rsD rs) (rsD rs) else _)) H
    rw [rs_eqv]; exact q
def spRoundsY (C : Addr) : Sp := fun vs H Q E => ∃ x y d e, vs = [x, y] ∧ Dat H x d ∧ TxtOk d ∧ Dat H y e ∧ TxtOk e ∧
  ((∃ bs cs, d = wdD bs ∧ e = wdD cs ∧ TwoW bs cs ∧ ∀ l ws H', H l = none → Same H H' → H' l = some (.lst ws) → RefL H' (fun a => H a = none ∧ a ≠ l) ws (rsF (mtF bs) (mtF cs) bs.length) → (rsF (mtF bs) (mtF cs) bs.length).length ≤ 40 → (∀ r ∈ rsF (mtF bs) (mtF cs) bs.length, r.length ≤ 80) → Q (.ref l) H') ∨ (twoD d e = false ∧ E (.ref C) none H))
def spRoundsL : Sp := fun vs H Q _ => ∃ bs cs, vs = [.str (wd bs), .str (wd cs)] ∧ TwoW bs cs ∧ ∀ l ws H', H l = none → Same H H' → H' l = some (.lst ws) → RefL H' (fun a => H a = none) ws (rsF (mtF bs) (mtF cs) bs.length) → Q (.ref l) H'
def spNoW : Sp := fun vs H Q _ => ∃ bs c, vs = [.str (wd bs), .int c] ∧ Bal bs ∧ bs.length ≤ 40 ∧ ∀ v d H', Same H H' → Dat H' v d → (∀ cs, cs.length = bs.length → OddW d cs) → Q v H'
def spAlone (K : PySem.W.Frag) (ds : List Addr) (a : Addr) : Sp := fun vs H Q _ => ∃ (C : Addr) (due : Nat), vs = [.ref a] ∧ H a = some (excO C a) ∧ Jst K C ds due ∧ due < 10 ∧ ∀ H', Same H H' → Q (.bl true) H'
theorem neL_nil {K : PySem.W.Frag} {H : Hp} {a b : Addr} {r : List Nat} {Q : VK} (ha : H a = some (.lst (natI r))) (hb : H b = some (.lst [])) (q : Q (.bl (!r.isEmpty)) H) : rEqD K true (.ref a) (.ref b) H Q := by
  refine ⟨.list (r.map fun x : Nat => .int x), .list [], .lst (SqL.of ha) (natI_rep r), .lst (SqL.of hb) .nil, by rw [nats_map]; exact ints_layAll _, rfl, ?_, ?_⟩
  · refine Nat.le_trans (Nat.min_le_right _ _) ?_
    decide
  · show Q (.bl (!PyData.eqvAll (r.map fun x : Nat => PyData.int (x : Int)) [])) H
    cases r with
    | nil => exact q
    | cons x r => exact q
theorem app_len (a b : Str) : (a ++ b).length = a.length + b.length := by
  show (a.cps ++ b.cps).size = a.cps.size + b.cps.size
  exact Array.size_append
theorem app_asc {a b : Str} (ha : a.cps.all (· < 128) = true) (hb : b.cps.all (· < 128) = true) : (a ++ b).cps.all (· < 128) = true := by
  show (a.cps ++ b.cps).all (· < 128) = true
  rw [Array.all_append, ha, hb]; rfl
theorem odd_app {bs cs : List Bool} {z : Str} (hl : bs.length ≤ 40) (e : cs.length = bs.length) (hz : z.length = 1) (za : z.cps.all (· < 128) = true) : OddW (.str (wd bs ++ z)) cs ∧ OddW (.str (z ++ wd bs)) cs := by
  have l1 : (wd bs ++ z).length = bs.length + 1 := by rw [app_len, wd_length, hz]
  have l2 : (z ++ wd bs).length = bs.length + 1 := by rw [app_len, wd_length, hz]; omega
  exact ⟨odd_len ⟨app_asc (wd_ascii bs) za, by omega⟩ (by show (wd bs ++ z).length ≠ _; omega), odd_len ⟨app_asc za (wd_ascii bs), by omega⟩ (by show (z ++ wd bs).length ≠ _; omega)⟩
end Rm

set_option Elab.async false
set_option linter.all false
set_option maxRecDepth 100000
set_option maxHeartbeats 4000000
/-! Ends taken out of words (math of k25, k26). -/
namespace Rm
open PySem L2 PyProof.Rows
/-- how many ends ahead of k stay -/
def rk (G : Nat → Bool) : Nat → Nat
  | 0 => 0
  | k + 1 => if G k then rk G k else rk G k + 1
/-- the first k ends without those that go -/
def cutT (G : Nat → Bool) (bs : List Bool) : Nat → List Bool
  | 0 => []
  | k + 1 => if G k then cutT G bs k else cutT G bs k ++ (bs[k]?).toList
def cutB (G : Nat → Bool) (bs : List Bool) : List Bool := cutT G bs bs.length
/-- the depth by the staying ends alone -/
def dK (G : Nat → Bool) (bs : List Bool) : Nat → Int
  | 0 => 0
  | k + 1 => if G k then dK G bs k else dK G bs k + ((bs[k]?).toList.map dl).sum
theorem rk_go {G : Nat → Bool} {k : Nat} (h : G k = true) : rk G (k + 1) = rk G k := by rw [rk, if_pos h]
theorem rk_st {G : Nat → Bool} {k : Nat} (h : G k = false) : rk G (k + 1) = rk G k + 1 := by rw [rk, if_neg (by rw [h]; decide)]
theorem cutT_go {G : Nat → Bool} {bs : List Bool} {k : Nat} (h : G k = true) : cutT G bs (k + 1) = cutT G bs k := by rw [cutT, if_pos h]
theorem cutT_st {G : Nat → Bool} {bs : List Bool} {k : Nat} {b : Bool} (h : G k = false) (hb : bs[k]? = some b) : cutT G bs (k + 1) = cutT G bs k ++ [b] := by rw [cutT, if_neg (by rw [h]; decide), hb]; rfl
theorem dK_go {G : Nat → Bool} {bs : List Bool} {k : Nat} (h : G k = true) : dK G bs (k + 1) = dK G bs k := by rw [dK, if_pos h]
theorem dK_st {G : Nat → Bool} {bs : List Bool} {k : Nat} {b : Bool} (h : G k = false) (hb : bs[k]? = some b) : dK G bs (k + 1) = dK G bs k + dl b := by rw [dK, if_neg (by rw [h]; decide), hb]; simp
theorem rk_le (G : Nat → Bool) : ∀ k, rk G k ≤ k
  | 0 => Nat.le_refl _
  | k + 1 => by
    have := rk_le G k
    cases h : G k with
    | true => rw [rk_go h]; omega
    | false => rw [rk_st h]; omega
theorem rk_mono (G : Nat → Bool) {i : Nat} : ∀ {k : Nat}, i ≤ k → rk G i ≤ rk G k
  | 0, h => by have : i = 0 := by omega
               subst this; exact Nat.le_refl _
  | k + 1, h => by
    by_cases e : i = k + 1
    · subst e; exact Nat.le_refl _
    · have := rk_mono G (i := i) (k := k) (by omega)
      cases h : G k with
      | true => rw [rk_go h]; exact this
      | false => rw [rk_st h]; omega
theorem rk_lt {G : Nat → Bool} {i k : Nat} (h : i < k) (g : G i = false) : rk G i < rk G k := by
  have := rk_mono G (i := i + 1) (k := k) h
  rw [rk_st g] at this; omega
theorem rk_inj {G : Nat → Bool} {i k : Nat} (gi : G i = false) (gk : G k = false) (h : rk G i = rk G k) : i = k := by
  rcases Nat.lt_trichotomy i k with q | q | q
  · have := rk_lt q gi; omega
  · exact q
  · have := rk_lt q gk; omega
/-- each place behind the cut is one of a staying end -/
theorem rk_onto {G : Nat → Bool} {j : Nat} : ∀ {k : Nat}, j < rk G k → ∃ i, i < k ∧ G i = false ∧ rk G i = j
  | 0, h => by simp [rk] at h
  | k + 1, h => by
    cases g : G k with
    | true =>
      rw [rk_go g] at h
      obtain ⟨i, a, b⟩ := rk_onto h
      exact ⟨i, by omega, b⟩
    | false =>
      rw [rk_st g] at h
      by_cases e : j = rk G k
      · exact ⟨k, by omega, g, e.symm⟩
      · obtain ⟨i, a, b⟩ := rk_onto (G := G) (j := j) (k := k) (by omega)
        exact ⟨i, by omega, b⟩
theorem cutT_len {G : Nat → Bool} {bs : List Bool} : ∀ {k : Nat}, k ≤ bs.length → (cutT G bs k).length = rk G k
  | 0, _ => rfl
  | k + 1, h => by
    have ih := cutT_len (G := G) (bs := bs) (k := k) (by omega)
    cases g : G k with
    | true => rw [rk_go g, cutT_go g]; exact ih
    | false => rw [rk_st g, cutT_st g (List.getElem?_eq_getElem (by omega)), List.length_append, ih]; rfl
theorem cutB_len {G : Nat → Bool} {bs : List Bool} : (cutB G bs).length = rk G bs.length := cutT_len (Nat.le_refl _)
theorem cutT_pre {G : Nat → Bool} {bs : List Bool} {i : Nat} : ∀ {k : Nat}, i ≤ k → ∃ t, cutT G bs k = cutT G bs i ++ t
  | 0, h => by have : i = 0 := by omega
               subst this; exact ⟨[], by simp⟩
  | k + 1, h => by
    by_cases e : i = k + 1
    · subst e; exact ⟨[], by simp⟩
    · obtain ⟨t, q⟩ := cutT_pre (G := G) (bs := bs) (i := i) (k := k) (by omega)
      rw [cutT]
      split
      · exact ⟨t, q⟩
      · exact ⟨t ++ (bs[k]?).toList, by rw [q, List.append_assoc]⟩
theorem dK_is {G : Nat → Bool} {bs : List Bool} : ∀ k, dK G bs k = ((cutT G bs k).map dl).sum
  | 0 => rfl
  | k + 1 => by
    rw [dK, cutT, dK_is k]
    split
    · rfl
    · rw [List.map_append, List.sum_append]
theorem cut_D {G : Nat → Bool} {bs : List Bool} {k : Nat} (h : k ≤ bs.length) : D (cutB G bs) (rk G k) = dK G bs k := by
  obtain ⟨t, q⟩ := cutT_pre (G := G) (bs := bs) h
  have l := cutT_len (G := G) h
  unfold D cutB
  rw [q, ← l, List.take_left, dK_is]
theorem cut_at {G : Nat → Bool} {bs : List Bool} {k : Nat} {b : Bool} (g : G k = false) (hb : bs[k]? = some b) : (cutB G bs)[rk G k]? = some b := by
  have hk := (List.getElem?_eq_some_iff.mp hb).1
  obtain ⟨t, q⟩ := cutT_pre (G := G) (bs := bs) (i := k + 1) hk
  rw [cutT_st g hb] at q
  have l := cutT_len (G := G) (bs := bs) (k := k) (by omega)
  unfold cutB
  rw [q, ← l, List.append_assoc, List.getElem?_append_right (Nat.le_refl _), Nat.sub_self]; rfl
/-- what goes goes by whole bows -/
def ClosedM (G : Nat → Bool) (bs : List Bool) : Prop := ∀ x y, Mate bs x y → G x = G y
/-- between two places as deep as one another, none shallower between, the staying ends are as well -/
theorem seg_cut {G : Nat → Bool} {bs : List Bool} (B : Bal bs) (C : ClosedM G bs) : ∀ (n a b : Nat), b - a ≤ n → a ≤ b → b ≤ bs.length → D bs b = D bs a → (∀ i, a ≤ i → i ≤ b → D bs a ≤ D bs i) → dK G bs b = dK G bs a ∧ ∀ i, a ≤ i → i ≤ b → dK G bs a ≤ dK G bs i := by
  intro n
  induction n with
  | zero =>
    intro a b h1 h2 _ _ _
    have : a = b := by omega
    subst this
    exact ⟨rfl, fun i x y => by have : i = a := by omega
                                subst this; exact Int.le_refl _⟩
  | succ n ih =>
    intro a b h1 h2 hl he hg
    by_cases e : a = b
    · subst e
      exact ⟨rfl, fun i x y => by have : i = a := by omega
                                  subst this; exact Int.le_refl _⟩
    have ha : a < bs.length := by omega
    have hb := List.getElem?_eq_getElem ha
    have op : bs[a]? = some true := by
      cases q : bs[a] with
      | true => rw [hb, q]
      | false =>
        rw [q] at hb
        have s := D_succ hb
        have := hg (a + 1) (by omega) (by omega)
        rw [s] at this
        simp only [dl, Bool.false_eq_true, if_false] at this
        omega
    obtain ⟨m, M⟩ := mate_ex B op
    have mb : m < b := by
      rcases Nat.lt_or_ge m b with q | q
      · exact q
      · have := M.gt b (by omega) q
        omega
    have am := M.lt
    have s1 := D_succ op
    have s2 := D_succ M.cl
    simp only [dl, if_true] at s1
    simp only [dl, Bool.false_eq_true, if_false] at s2
    have me := M.eq
    obtain ⟨i1, i2⟩ := ih (a + 1) m (by omega) am (by omega) (by omega) (fun i x y => by have := M.gt i (by omega) y; omega)
    obtain ⟨j1, j2⟩ := ih (m + 1) b (by omega) (by omega) hl (by omega) (fun i x y => by rw [me]; exact hg i (by omega) y)
    have gm := C a m M
    have d1 : dK G bs (m + 1) = dK G bs a ∧ dK G bs a ≤ dK G bs (a + 1) := by
      cases g : G a with
      | true =>
        rw [g] at gm
        rw [dK_go gm.symm, i1, dK_go g]; exact ⟨rfl, Int.le_refl _⟩
      | false =>
        rw [g] at gm
        rw [dK_st gm.symm M.cl, i1, dK_st g op]
        simp only [dl, if_true, Bool.false_eq_true, if_false]
        exact ⟨by omega, by omega⟩
    refine ⟨by rw [j1, d1.1], fun i x y => ?_⟩
    by_cases c1 : i = a
    · subst c1; exact Int.le_refl _
    · by_cases c2 : i ≤ m
      · have := i2 i (by omega) c2; have := d1.2; omega
      · have := j2 i (by omega) y; have := d1.1; omega
theorem cut_bal {G : Nat → Bool} {bs : List Bool} (B : Bal bs) (C : ClosedM G bs) : Bal (cutB G bs) := by
  obtain ⟨h1, h2⟩ := seg_cut B C bs.length 0 bs.length (by omega) (Nat.zero_le _) (Nat.le_refl _) (by rw [B.z, D_zero]) (fun i _ h => by rw [D_zero]; exact B.nn i h)
  refine ⟨fun j hj => ?_, ?_⟩
  · rw [cutB_len] at hj
    by_cases e : j = rk G bs.length
    · rw [e, cut_D (Nat.le_refl _), h1]; exact Int.le_refl _
    · obtain ⟨i, a, b, c⟩ := rk_onto (G := G) (k := bs.length) (j := j) (by omega)
      rw [← c, cut_D (by omega)]
      exact h2 i (Nat.zero_le _) (by omega)
  · rw [cutB_len, cut_D (Nat.le_refl _), h1]; rfl
theorem cut_mate {G : Nat → Bool} {bs : List Bool} (B : Bal bs) (C : ClosedM G bs) {x y : Nat} (M : Mate bs x y) (g : G x = false) : Mate (cutB G bs) (rk G x) (rk G y) := by
  have gy : G y = false := by rw [← C x y M]; exact g
  have lt := M.lt
  have ml := M.ml
  have s1 := D_succ M.op
  have s2 := D_succ M.cl
  simp only [dl, if_true] at s1
  simp only [dl, Bool.false_eq_true, if_false] at s2
  have me := M.eq
  obtain ⟨i1, i2⟩ := seg_cut B C bs.length (x + 1) y (by omega) lt (by omega) (by omega) (fun i a b => by have := M.gt i (by omega) b; omega)
  have e1 := dK_st g M.op
  have e2 := dK_st gy M.cl
  simp only [dl, if_true] at e1
  simp only [dl, Bool.false_eq_true, if_false] at e2
  refine ⟨rk_lt lt g, by rw [cutB_len]; exact rk_lt ml gy, cut_at g M.op, cut_at gy M.cl, ?_, fun j hj hy => ?_⟩
  · rw [← rk_st gy, cut_D (k := y + 1) ml, cut_D (by omega)]; omega
  · rw [cut_D (by omega)]
    by_cases e : j = rk G y
    · rw [e, cut_D (by omega)]; have := i2 y lt (Nat.le_refl _); omega
    · obtain ⟨i, a, b, c⟩ := rk_onto (G := G) (k := y) (j := j) (by omega)
      have hxi : x < i := by
        rcases Nat.lt_or_ge x i with q | q
        · exact q
        · have := rk_mono G q; omega
      rw [← c, cut_D (by omega)]
      have := i2 i (by omega) (by omega)
      omega
def ClosedF (n : Nat) (G : Nat → Bool) (L : Nat → Nat) : Prop := ∀ x, x < n → G (L x) = G x
theorem closedM_of {G : Nat → Bool} {bs : List Bool} (C : ClosedF bs.length G (mtF bs)) : ClosedM G bs := fun x y M => by
  have := C x (by have := M.lt; have := M.ml; omega)
  rw [mtF_of (.inl M)] at this
  exact this.symm
theorem cut_mtF {G : Nat → Bool} {bs : List Bool} (B : Bal bs) (C : ClosedF bs.length G (mtF bs)) {x : Nat} (h : x < bs.length) (g : G x = false) : mtF (cutB G bs) (rk G x) = rk G (mtF bs x) := by
  have CM := closedM_of C
  rcases mtF_pr B h with p | p
  · exact mtF_of (.inl (cut_mate B CM p g))
  · exact mtF_of (.inr (cut_mate B CM p (by rw [C x h]; exact g)))
/-! ### rounds behind a cut -/
structure CutF (n : Nat) (G : Nat → Bool) (L R L' R' : Nat → Nat) : Prop where
  pl : Prt n L
  pr : Prt n R
  cl : ClosedF n G L
  cr : ClosedF n G R
  el : ∀ x, x < n → G x = false → L' (rk G x) = rk G (L x)
  er : ∀ x, x < n → G x = false → R' (rk G x) = rk G (R x)
theorem CutF.it {n : Nat} {G : Nat → Bool} {L R L' R' : Nat → Nat} (X : CutF n G L R L' R') {e : Nat} (h : e < n) (g : G e = false) : ∀ i, G (itF L R e i) = false ∧ itF L' R' (rk G e) i = rk G (itF L R e i)
  | 0 => ⟨g, rfl⟩
  | i + 1 => by
    obtain ⟨a, b⟩ := X.it h g i
    have lt := it_lt (R := R) X.pl X.pr h i
    have gl : G (L (itF L R e i)) = false := by rw [X.cl _ lt]; exact a
    have ll := X.pl.lt _ lt
    refine ⟨?_, ?_⟩
    · show G (R (L (itF L R e i))) = false
      rw [X.cr _ ll]; exact gl
    · show R' (L' (itF L' R' (rk G e) i)) = rk G (R (L (itF L R e i)))
      rw [b, X.el _ lt a, X.er _ ll gl]
theorem CutF.rd {n : Nat} {G : Nat → Bool} {L R L' R' : Nat → Nat} (X : CutF n G L R L' R') {e : Nat} (h : e < n) (g : G e = false) : ∀ i, rdL L' R' (rk G e) i = (rdL L R e i).map (rk G)
  | 0 => rfl
  | i + 1 => by
    obtain ⟨a, b⟩ := X.it h g i
    have lt := it_lt (R := R) X.pl X.pr h i
    rw [rdL, rdL, X.rd h g i, b, X.el _ lt a, List.map_append, List.map_append]; rfl
theorem CutF.per {n : Nat} {G : Nat → Bool} {L R L' R' : Nat → Nat} (X : CutF n G L R L' R') {e i : Nat} (h : e < n) (g : G e = false) (p : Per L R e i) : Per L' R' (rk G e) i := by
  refine ⟨p.pos, fun j k hj hk q => ?_, ?_⟩
  · obtain ⟨a, b⟩ := X.it h g j
    obtain ⟨c, d⟩ := X.it h g k
    rw [b, d] at q
    exact p.inj j k hj hk (rk_inj a c q)
  · rw [(X.it h g i).2, p.back]
theorem CutF.rdX {n : Nat} {G : Nat → Bool} {L R L' R' : Nat → Nat} (X : CutF n G L R L' R') {e : Nat} (h : e < n) (g : G e = false) : rdF L' R' (rk G e) = (rdF L R e).map (rk G) := by
  obtain ⟨i, p⟩ := per_ex (R := R) X.pl X.pr h
  unfold rdF
  rw [perF_of p, perF_of (X.per h g p), X.rd h g]
theorem mem_rdF {n : Nat} {L R : Nat → Nat} (PL : Prt n L) (PR : Prt n R) {e : Nat} (h : e < n) : e ∈ rdF L R e := by
  obtain ⟨i, p⟩ := per_ex (R := R) PL PR h
  unfold rdF
  rw [perF_of p]
  exact rd_mem.mpr ⟨0, p.pos, .inl rfl⟩
/-- rounds of which one goes whole -/
theorem CutF.rs {n : Nat} {G : Nat → Bool} {L R L' R' : Nat → Nat} (X : CutF n G L R L' R') (K : List Nat → Bool) (hK : ∀ r ∈ rsF L R n, ∀ x ∈ r, K r = !G x) (sub : ∀ k, k ≤ n → ∀ r ∈ rsF L R k, r ∈ rsF L R n) : ∀ k, k ≤ n → rsF L' R' (rk G k) = ((rsF L R k).filter K).map (·.map (rk G))
  | 0, _ => by simp [rsF, rk]
  | k + 1, h => by
    have ih := X.rs K hK sub k (by omega)
    have hk : k < n := by omega
    have inn := sub k (by omega)
    have me := mem_rdF (R := R) X.pl X.pr hk
    cases g : G k with
    | true =>
      rw [rk_go g, ih]
      by_cases c : ∃ r ∈ rsF L R k, k ∈ r
      · rw [rsF_skip c]
      · have s := sub (k + 1) h
        rw [rsF_add c] at s ⊢
        have kf : K (rdF L R k) = false := by rw [hK _ (s _ (by simp)) k me, g]; rfl
        rw [List.filter_append, List.filter_cons_of_neg (by rw [kf]; decide), List.filter_nil, List.append_nil]
    | false =>
      rw [rk_st g]
      have iff : (∃ r ∈ rsF L' R' (rk G k), rk G k ∈ r) ↔ ∃ r ∈ rsF L R k, k ∈ r := by
        rw [ih]
        constructor
        · rintro ⟨r', hr, hm⟩
          obtain ⟨r, hr2, rfl⟩ := List.mem_map.mp hr
          obtain ⟨x, hx, q⟩ := List.mem_map.mp hm
          obtain ⟨h1, h2⟩ := List.mem_filter.mp hr2
          have gx : G x = false := by have := hK r (inn r h1) x hx; rw [h2] at this; cases q : G x with
            | true => rw [q] at this; cases this
            | false => rfl
          exact ⟨r, h1, by rw [← rk_inj gx g q]; exact hx⟩
        · rintro ⟨r, hr, hm⟩
          exact ⟨_, List.mem_map.mpr ⟨r, List.mem_filter.mpr ⟨hr, by rw [hK r (inn r hr) k hm, g]; rfl⟩, rfl⟩, List.mem_map.mpr ⟨k, hm, rfl⟩⟩
      by_cases c : ∃ r ∈ rsF L R k, k ∈ r
      · rw [rsF_skip (iff.mpr c), rsF_skip c, ih]
      · have s := sub (k + 1) h
        rw [rsF_add c] at s
        have kt : K (rdF L R k) = true := by rw [hK _ (s _ (by simp)) k me, g]; rfl
        rw [rsF_add (fun z => c (iff.mp z)), rsF_add c, ih, List.filter_append, List.map_append, List.filter_cons_of_pos kt, List.filter_nil, X.rdX hk g]; rfl
theorem rs_sub {L R : Nat → Nat} {n : Nat} : ∀ k, k ≤ n → ∀ r ∈ rsF L R k, r ∈ rsF L R n := by
  intro k h
  obtain ⟨d, rfl⟩ : ∃ d, n = k + d := ⟨n - k, by omega⟩
  induction d with
  | zero => exact fun r hr => hr
  | succ d ih =>
    intro r hr
    have := ih (by omega) r hr
    show r ∈ rsF L R (k + d + 1)
    by_cases c : ∃ r ∈ rsF L R (k + d), (k + d) ∈ r
    · rw [rsF_skip c]; exact this
    · rw [rsF_add c]; exact List.mem_append_left _ this
end Rm

set_option Elab.async false
set_option linter.all false
set_option maxRecDepth 100000
set_option maxHeartbeats 4000000
/-! try: return (text, f(..)) with two except clauses; f raises (k25, k26). -/
namespace L2
open PySem PySem.Spec PyProof.Rows
/-- try: return (text, f(..)) except C1: .. except C2: ..; f tells nothing -/
def tTry2 (sp : Sp) (K : PySem.W.Frag) (c1 c2 : Value) (t : TA) (ts us : Addr → TS) : TS := fun D σ H => t σ H fun vs H1 => sp vs H1 (fun _ _ => False) fun cls dO H2 =>
  ∃ C, cls = Value.ref C ∧ ((PySem.W.exmOne K (.ref C) c1 = some true ∧ ∀ a, H2 a = none → ts a D σ (upd H2 a (excD dO C a))) ∨ (PySem.W.exmOne K (.ref C) c1 = some false ∧ PySem.W.exmOne K (.ref C) c2 = some true ∧ ∀ a, H2 a = none → us a D σ (upd H2 a (excD dO C a))))
theorem w_try2 {sp : Sp} {K : PySem.W.Frag} {c1 c2 : Value} {t : TA} {ts us : Addr → TS} {D : Ends} {σ : St} {H : Hp} : tTry2 sp K c1 c2 t ts us D σ H = t σ H fun vs H1 => sp vs H1 (fun _ _ => False) fun cls dO H2 =>
  ∃ C, cls = Value.ref C ∧ ((PySem.W.exmOne K (.ref C) c1 = some true ∧ ∀ a, H2 a = none → ts a D σ (upd H2 a (excD dO C a))) ∨ (PySem.W.exmOne K (.ref C) c1 = some false ∧ PySem.W.exmOne K (.ref C) c2 = some true ∧ ∀ a, H2 a = none → us a D σ (upd H2 a (excD dO C a)))) := rfl
theorem qps_try2 {X : Cx} {k : Nat} {st : Stmt} {ps : List Str} {sp : Sp} {x cx cy : Str} {c1 c2 : Value} {e : Expr} {es : List Expr} {b₀ b₁ : Stmt} {suite suite' : List Stmt} {t : TA} {ts us : Addr → TS} {z : Str} {zj} {zp tp rp : Pos} {xx} {p cpos np np' hpos hpos' pos : Pos}
    (Df : DefX X.prog X.w X.K X.mg X.base k x st ps sp) (hst : X.stack = X.env :: X.outer) (hfr : X.env.frame = some X.env.locals) (hr : Room k X.A) (hg : Gl X x)
    (ha : QA X.nox (e :: es) t) (hgc : Gl X cx) (hmc : X.mg cx = some c1) (hs : ∀ a, QSs (X.exc a) (b₀ :: suite) (ts a)) (hgy : Gl X cy) (hmy : X.mg cy = some c2) (hu : ∀ a, QSs (X.exc a) (b₁ :: suite') (us a))
    (hdb : (x == ("__debug__" : Str)) = false := by decide) (hdc : (cx == ("__debug__" : Str)) = false := by decide) (hdy : (cy == ("__debug__" : Str)) = false := by decide) (he : starEach (e :: es) X.env = (false, eval e X.env) :: starEach es X.env := by rfl) (hpl : (backTo cpos (starEach es X.env)).any (·.1) = false := by rfl) :
    QS X (.Try [.Return (some (.Tuple [.Constant (.str z) zj zp, .Call (.Name x p) (e :: es) [] cpos] xx tp)) rp] [.ExceptHandler (some (.Name cx np)) none (b₀ :: suite) hpos, .ExceptHandler (some (.Name cy np')) none (b₁ :: suite') hpos'] [] [] pos) (tTry2 sp X.K c1 c2 t ts us) := ⟨by
  obtain ⟨f, fd, Fu, hm, hb, F⟩ := Df.ex
  have hk := Fu.kp
  intro pins s σ H D I h
  generalize hE : (fun (cls : Value) (dO : Option Addr) (H2 : Hp) => ∃ C, cls = Value.ref C ∧ ((PySem.W.exmOne X.K (.ref C) c1 = some true ∧ ∀ a, H2 a = none → ts a D σ (upd H2 a (excD dO C a))) ∨ (PySem.W.exmOne X.K (.ref C) c1 = some false ∧ PySem.W.exmOne X.K (.ref C) c2 = some true ∧ ∀ a, H2 a = none → us a D σ (upd H2 a (excD dO C a))))) = E1
  have h' : t σ H fun vs H1 => sp vs H1 (fun _ _ => False) E1 := by rw [← hE]; exact h
  have run : ∀ s, Inv X pins σ H s → wpAny (model X.prog X.w) X.A (eval (.Call (.Name x p) (e :: es) [] cpos) X.env) (EP X pins σ fun _ _ => False) (fun ev s' => ∃ H1 s1, Inv X pins σ H1 s1 ∧ CXx X.prog X.w X.stack H1 s1 E1 ev s') s := by
    intro s I
    refine wpAny_Call_Name_kw (ld_glob I hg hm ?_ hdb)
    refine PySem.W.callWith_K (h₀ := X.base) I.ok.mod.kin hk (wpAny_mono (ha.h cpos pins s σ H _ (I.wish _) h') (fun us s1 ⟨vs, H1, I1, r, q⟩ => ⟨I1.kIn, ?_⟩) fun _ _ z => False.elim z) he hpl
    have I1 := I1.unwish
    have r2 : Vals (vs ++ []) (us ++ []) := r.append .nil
    have q2 : sp (vs ++ []) H1 (fun _ _ => False) E1 := by rw [List.append_nil]; exact q
    have hlen : (us ++ []).length = ps.length := by rw [← r2.length]; exact F.len _ _ _ _ q2
    refine wpAny_call (codeAny_mono (F.run X.A X.stack s1 H1 ⟨us, []⟩ (us ++ []) (vs ++ []) _ E1 hr I1.env0 (hb s1 us I1.kIn hlen) r2 q2) fun r s' hq => ?_)
    cases r with
    | error ev => exact ⟨H1, s1, I1, hq⟩
    | ok fl =>
      cases fl with
      | ret u => exact I1.after hq
      | next => exact False.elim hq
      | brk => exact False.elim hq
      | cont => exact False.elim hq
  refine wpAny_Try_except (wpAny_execs_cons (wpAny_Return_some (wpAny_Tuple_spliced ?_)))
  show wpAny _ _ (spliced ((false, eval (.Constant (.str z) zj zp) X.env) :: (false, eval (.Call (.Name x p) (e :: es) [] cpos) X.env) :: _)) _ _ s
  refine Calls.spliced_cons (Calls.Constant_str (Calls.spliced_cons (wpAny_mono (run _ (I.tok _)) (fun v s1 ⟨_, H1, I1, _, q⟩ => False.elim q) fun ev s' ⟨H1, s1, I1, hx⟩ => ?_)))
  obtain ⟨a, C, t0, H2, B, dO, rfl, os, bare, un, hok, fl, cov, ct, hE1⟩ := hx
  rw [← hE] at hE1
  obtain ⟨C', eC, hx⟩ := hE1
  cases eC
  have Hn : H2 a = none := by
    cases z : H2 a with
    | none => rfl
    | some u =>
      obtain ⟨o, e'⟩ := cov.trk a u z
      rw [fl.2.1] at e'; cases e'
  have fl' := fl
  rw [hst] at fl'
  refine wpAny_pres (Pres.note (e := a)) ct ?_
  refine wpAny_looks_onW (base := B) (env := X.env) (outer := X.outer) (by rw [I.ok.frames, hst]) hfr fl' fun h2 held up2 ct2 => ?_
  refine wpAny_pres (Pres.flight (e := a)) ct2 ?_
  refine wpAny_landsW held fun h3 fl3 up3 ct3 => ?_
  have fl3' := fl3
  rw [← hst] at fl3'
  have I3 : Inv X pins σ (upd H2 a (excD dO C a)) { s' with heap := h3 } := I1.land (E := E1) os bare un hok fl cov fl3' (UpToSlots.trans up2 up3) ct3
  obtain ⟨oe, e1, e2⟩ := Heap.FlyingW.there fl3
  refine wpAny_handleBy_cons (codeAny_handlers_test (ld_glob (X := X.exc a) (I3.exc a) hgc hmc ?_ hdc)) (fun z => nomatch z)
  rcases hx with ⟨hx, q⟩ | ⟨hx, hy, q⟩
  · refine PySem.W.exm_one (K := X.K) (h := h3) (cls := .ref C) I3.kIn (fun A Q E s k hq => wpAny_typeOf_ref (k _ _ e1) (by rw [e2]; exact hq)) hx _ _ _ _ (fun b o e => e) ?_
    refine codeAny_handlers_suite (wpAny_pres (Pres.flight (e := a)) ct3 (lands_againW fl3 fun h4 fl4 up4 ct4 => ?_))
    have fl4' := fl4
    rw [← hst] at fl4'
    have I4 : Inv X pins σ (upd H2 a (excD dO C a)) { s' with heap := h4 } := I1.land (E := E1) os bare un hok fl cov fl4' (UpToSlots.trans (UpToSlots.trans up2 up3) up4) ct4
    refine wpAny_mono ((hs a).h pins _ _ _ _ (I4.exc a) (q a Hn)) (fun fw s6 h6 => ?_) (fun _ _ z => False.elim z)
    cases fw with
    | next => obtain ⟨σ6, H6, I6, q6⟩ := h6; exact ⟨_, _, I6.unexc I.ok, q6⟩
    | brk => obtain ⟨σ6, H6, I6, q6⟩ := h6; exact ⟨_, _, I6.unexc I.ok, q6⟩
    | cont => obtain ⟨σ6, H6, I6, q6⟩ := h6; exact ⟨_, _, I6.unexc I.ok, q6⟩
    | ret u => obtain ⟨v6, σ6, H6, I6, r6, q6⟩ := h6; exact ⟨v6, _, _, I6.unexc I.ok, r6, q6⟩
  · refine PySem.W.exm_one (K := X.K) (h := h3) (cls := .ref C) I3.kIn (fun A Q E s k hq => wpAny_typeOf_ref (k _ _ e1) (by rw [e2]; exact hq)) hx _ _ _ _ (fun b o e => e) ?_
    refine wpAny_handleBy_cons (codeAny_handlers_test (ld_glob (X := X.exc a) (I3.exc a) hgy hmy ?_ hdy)) (fun z => nomatch z)
    refine PySem.W.exm_one (K := X.K) (h := h3) (cls := .ref C) I3.kIn (fun A Q E s k hq => wpAny_typeOf_ref (k _ _ e1) (by rw [e2]; exact hq)) hy _ _ _ _ (fun b o e => e) ?_
    refine codeAny_handlers_suite (wpAny_pres (Pres.flight (e := a)) ct3 (lands_againW fl3 fun h4 fl4 up4 ct4 => ?_))
    have fl4' := fl4
    rw [← hst] at fl4'
    have I4 : Inv X pins σ (upd H2 a (excD dO C a)) { s' with heap := h4 } := I1.land (E := E1) os bare un hok fl cov fl4' (UpToSlots.trans (UpToSlots.trans up2 up3) up4) ct4
    refine wpAny_mono ((hu a).h pins _ _ _ _ (I4.exc a) (q a Hn)) (fun fw s6 h6 => ?_) (fun _ _ z => False.elim z)
    cases fw with
    | next => obtain ⟨σ6, H6, I6, q6⟩ := h6; exact ⟨_, _, I6.unexc I.ok, q6⟩
    | brk => obtain ⟨σ6, H6, I6, q6⟩ := h6; exact ⟨_, _, I6.unexc I.ok, q6⟩
    | cont => obtain ⟨σ6, H6, I6, q6⟩ := h6; exact ⟨_, _, I6.unexc I.ok, q6⟩
    | ret u => obtain ⟨v6, σ6, H6, I6, r6, q6⟩ := h6; exact ⟨v6, _, _, I6.unexc I.ok, r6, q6⟩⟩
end L2

set_option Elab.async false
set_option linter.all false
set_option maxRecDepth 100000
set_option maxHeartbeats 4000000
/-! list.index over whole numbers (k25). -/
namespace L2
open PySem PySem.Spec PyProof.Rows
def rIndex : V → List V → Hp → VK → Prop := fun x vs H Q => ∃ (l : Addr) (ks : List Int) (z : Int) (j : Nat), x = .ref l ∧ vs = [.int z] ∧ H l = some (.lst (ks.map V.int)) ∧ ks.length ≤ 1000 ∧ ks[j]? = some z ∧ (∀ m, m < j → ks[m]? ≠ some z) ∧ Q (.int j) H
theorem w_compE {k : Nat} {caps : List Nat} {ta : TA} {g : TG} {tf : TT} {te : TE} {σ : St} {H : Hp} {Q : VK} : tComp k caps (iEnum ta) g tf te σ H Q = ta σ H fun vs H1 => ∃ z, vs = [.str z] ∧ z.cps.all (· < 128) = true ∧ CompJ (Ite z) g tf te Q (initC k caps σ) H1 := rfl
/-- a comprehension over enumerate(text) -/
theorem comp_enum {x : Str} {g : TG} {tf : TT} {te : TE} {σ : St} {H : Hp} {Q : VK} (Pv : Nat → List V → St → Hp → Prop) (h0 : Pv 0 [] σ H) (hl : ∀ i ys σ H, Pv i ys σ H → ys.length ≤ i) (hsz : x.cps.size ≤ sizeLine)
    (hs : ∀ i c ys σ H p (N : List V → St → Hp → Prop), x.cps[i]? = some c → Pv i ys σ H → H p = none → (∀ ys σ H, Pv (i + 1) ys σ H → N ys σ H) → g (.ref p) σ (upd H p (.tup [.int i, .str ⟨#[c]⟩])) fun σ2 H2 => tf σ2 H2 fun b H3 => if b = true then te σ2 H3 fun y H4 => N (ys ++ [y]) σ2 H4 else N ys σ2 H3)
    (hd : ∀ ys σ H p, Pv x.cps.size ys σ H → H p = none → Q (.ref p) (upd H p (.lst ys))) : CompJ (Ite x) g tf te Q σ H := by
  refine comp_by x.cps.size hsz Pv h0 hl (fun i ys σ H hi p => hi) (fun ys σ H p => rfl) ?_ hd
  rintro i ys σ H v H' N hi pv ⟨p, c, hn, hc, rfl, rfl⟩ hN
  exact hs i c ys σ H p N hc pv hn hN
theorem w_index {l : Addr} {z : Int} {H : Hp} {Q : VK} : rIndex (.ref l) [.int z] H Q = ∃ (ks : List Int) (j : Nat), H l = some (.lst (ks.map V.int)) ∧ ks.length ≤ 1000 ∧ ks[j]? = some z ∧ (∀ m, m < j → ks[m]? ≠ some z) ∧ Q (.int j) H :=
  propext ⟨fun ⟨_, ks, _, j, e, e', h⟩ => by cases e; cases e'; exact ⟨ks, j, h⟩, fun ⟨ks, j, h⟩ => ⟨l, ks, z, j, rfl, rfl, h⟩⟩
end L2

set_option Elab.async false
set_option linter.all false
set_option maxRecDepth 100000
set_option maxHeartbeats 4000000
/-! Specs of cutting (k25). -/
namespace Rm
open PySem L2 PyProof.Rows
def belD (d : PyData) (n : Nat) : Bool := wholeD d && (decide (0 ≤ intOf d) && decide (intOf d < n))
def spBelow : Sp := fun vs H Q _ => ∃ v d n, vs = [v, .int ((n : Nat) : Int)] ∧ Dat H v d ∧ Q (.bl (belD d n)) H
/-- the ends of a round -/
def inR (r : List Nat) (x : Nat) : Bool := decide (x ∈ r)
def spWithout : Sp := fun vs H Q _ => ∃ (bs : List Bool) (l : Addr) (r : List Nat), vs = [.str (wd bs), .ref l] ∧ bs.length ≤ 40 ∧ H l = some (.lst (natI r)) ∧ r.length ≤ 80 ∧ ∀ H', Same H H' → Q (.str (wd (cutB (inR r) bs))) H'
def cutO (r : List Nat) (bs cs : List Bool) : HO := .tup [.str (wd (cutB (inR r) bs)), .str (wd (cutB (inR r) cs))]
noncomputable def rsW (bs cs : List Bool) : List (List Nat) := rsF (mtF bs) (mtF cs) bs.length
def spCut (W B : Addr) : Sp := fun vs H Q E => ∃ x y n d e k, vs = [x, y, n] ∧ Dat H x d ∧ TxtOk d ∧ Dat H y e ∧ TxtOk e ∧ Dat H n k ∧
  ((∃ bs cs, d = wdD bs ∧ e = wdD cs ∧ TwoW bs cs ∧ ((∃ (i : Nat) (r : List Nat), k = .int i ∧ (rsW bs cs)[i]? = some r ∧ ∀ p H', H p = none → Same H H' → H' p = some (cutO r bs cs) → Q (.ref p) H') ∨ (belD k (rsW bs cs).length = false ∧ ∀ H', Same H H' → E (.ref B) none H'))) ∨ (twoD d e = false ∧ E (.ref W) none H))
/-- refused: as no words (true) or as no round -/
def CutRef (d e k : PyData) : Bool → Prop
  | true => twoD d e = false
  | false => ∃ bs cs, d = wdD bs ∧ e = wdD cs ∧ TwoW bs cs ∧ belD k (rsW bs cs).length = false
def sayS : Bool → Str
  | true => "word"
  | false => "bow"
def spSaidC : Sp := fun vs H Q _ => ∃ x y n d e k b, vs = [x, y, n] ∧ Dat H x d ∧ TxtOk d ∧ Dat H y e ∧ TxtOk e ∧ Dat H n k ∧ CutRef d e k b ∧ ∀ p H', H p = none → Same H H' → H' p = some (.tup [.str (sayS b), .non]) → Q (.ref p) H'
def spAnyC : Sp := fun vs H Q _ => ∃ x y n d e k b, vs = [x, y, n] ∧ Dat H x d ∧ TxtOk d ∧ Dat H y e ∧ TxtOk e ∧ Dat H n k ∧ CutRef d e k b ∧ ∀ H', Same H H' → Q (.bl true) H'
theorem sgn_is (b : Bool) : sgn b = ⟨#[cpB b]⟩ := by
  have := sgn_cps b
  cases h : sgn b
  rw [h] at this
  exact congrArg Str.mk this
theorem join_ok {bs : List Bool} (hl : bs.length ≤ 40) : JoinOk (Str.ofString "") (bs.map sgn) = true := by
  unfold JoinOk
  have e : Builtin.Str.tooLong ((bs.map sgn).toArray.foldl (fun a t => a + t.length + (Str.ofString "").length) 0) = false := by
    have h0 : ∀ (bs : List Bool) (a : Nat), (bs.map sgn).foldl (fun a t => a + t.length + (Str.ofString "").length) a = a + bs.length := by
      intro bs
      induction bs with
      | nil => intro a; rfl
      | cons b bs ih =>
        intro a
        rw [List.map_cons, List.foldl_cons, ih]
        have : (sgn b).length = 1 := by show (sgn b).cps.size = 1; rw [sgn_cps]; rfl
        have h2 : (Str.ofString "").length = 0 := by rw [str_nil]; rfl
        rw [this, h2, List.length_cons]; omega
    rw [List.foldl_toArray', h0]
    unfold Builtin.Str.tooLong
    exact decide_eq_false (by have := small1000 (n := 0 + bs.length) (by omega); omega)
    simp
  rw [e]; rfl
theorem in_nats {K : PySem.W.Frag} {H : Hp} {b : Addr} {i : Nat} {r : List Nat} {Q : VK} (hb : H b = some (.lst (natI r))) (q : Q (.bl (!inR r i)) H) : rInD K true (.int (i : Nat)) (.ref b) H Q := by
  have e : natI r = (r.map fun x : Nat => (x : Int)).map V.int := by rw [List.map_map]; rfl
  rw [e] at hb
  refine in_ints (.inl (SqL.of hb)) ?_
  have e2 : decide (((i : Nat) : Int) ∈ r.map fun x : Nat => (x : Int)) = inR r i := by
    unfold inR
    exact decide_eq_decide.mpr ⟨fun h => by obtain ⟨x, hx, e⟩ := List.mem_map.mp h; have : x = i := by omega
                                            subst this; exact hx, fun h => List.mem_map.mpr ⟨i, h, rfl⟩⟩
  rw [e2, if_pos rfl]; exact q
theorem cutS_go {r : List Nat} {bs : List Bool} {i : Nat} (h : inR r i = true) : ((cutT (inR r) bs (i + 1)).map sgn).map V.str = ((cutT (inR r) bs i).map sgn).map V.str := by rw [cutT_go h]
theorem cutS_st {r : List Nat} {bs : List Bool} {i : Nat} {b : Bool} (h : inR r i = false) (hb : bs[i]? = some b) : ((cutT (inR r) bs (i + 1)).map sgn).map V.str = ((cutT (inR r) bs i).map sgn).map V.str ++ [.str ⟨#[cpB b]⟩] := by rw [cutT_st h hb, List.map_append, List.map_append, ← sgn_is]; rfl
theorem cutT_le {G : Nat → Bool} {bs : List Bool} {i : Nat} (h : i ≤ bs.length) : (cutT G bs i).length ≤ i := by rw [cutT_len h]; exact rk_le G i
theorem rsF_rin {n : Nat} {L R : Nat → Nat} (PL : Prt n L) (PR : Prt n R) (n40 : n ≤ 40) : ∀ k, k ≤ n → RIn n L R k (rsF L R k) (fun x => ∃ r ∈ rsF L R k, x ∈ r) ∧ ∀ r ∈ rsF L R k, r.length ≤ 80
  | 0, _ => by
    have h := RIn.start (n := n) (L := L) (R := R)
    refine ⟨⟨h.rn, fun x => Iff.rfl, fun x h => by omega, h.len⟩, fun r hr => by cases hr⟩
  | k + 1, h => by
    obtain ⟨I, h80⟩ := rsF_rin PL PR n40 k (by omega)
    by_cases c : ∃ r ∈ rsF L R k, k ∈ r
    · rw [rsF_skip c]
      exact ⟨I.skip c, h80⟩
    · obtain ⟨i, p⟩ := per_ex (R := R) PL PR (show k < n by omega)
      have X := rnd_of PL PR (show k < n by omega) p.inj n40 p.pos p.back
      rw [X.is] at X
      have A := I.add PL PR c X
      rw [rsF_add c]
      refine ⟨⟨A.rn, fun x => Iff.rfl, fun x hx => (A.mt x).mp (A.upto x hx), A.len⟩, fun r hr => ?_⟩
      rcases List.mem_append.mp hr with hr | hr
      · exact h80 r hr
      · rw [List.mem_singleton] at hr; subst hr; exact X.len
theorem apart_of {rs : List (List Nat)} (h : rs.Pairwise fun r s => ∀ x ∈ r, x ∉ s) {r s : List Nat} (hr : r ∈ rs) (hs : s ∈ rs) (ne : s ≠ r) : ∀ x ∈ s, x ∉ r := by
  obtain ⟨i, hi, ei⟩ := List.getElem_of_mem hr
  obtain ⟨j, hj, ej⟩ := List.getElem_of_mem hs
  have P := List.pairwise_iff_getElem.mp h
  intro x hx hr
  rcases Nat.lt_trichotomy i j with q | q | q
  · have := P i j hi hj q x (by rw [ei]; exact hr); rw [ej] at this; exact this hx
  · subst q; exact ne (ej.symm.trans ei)
  · have := P j i hj hi q x (by rw [ej]; exact hx); rw [ei] at this; exact this hr
structure CutW (bs cs : List Bool) (r : List Nat) : Prop where
  two : TwoW (cutB (inR r) bs) (cutB (inR r) cs)
  rs : rsW (cutB (inR r) bs) (cutB (inR r) cs) = ((rsW bs cs).filter fun s => decide (s ≠ r)).map (·.map (rk (inR r)))
  keep : ∀ s ∈ rsW bs cs, s ≠ r → ∀ x ∈ s, x < bs.length ∧ inR r x = false
theorem cut_words {bs cs : List Bool} {r : List Nat} (T : TwoW bs cs) (hr : r ∈ rsW bs cs) : CutW bs cs r := by
  have PL := mtF_prt T.bal
  have PR := mtF_prt T.balR
  rw [T.eq] at PR
  obtain ⟨I, _⟩ := rsF_rin PL PR T.len bs.length (Nat.le_refl _)
  have inn := I.rn.inn r hr
  have cl : ∀ {f : Nat → Nat}, Prt bs.length f → (∀ x ∈ r, f x ∈ r) → ClosedF bs.length (inR r) f := fun {f} P h x hx => by
    unfold inR
    exact decide_eq_decide.mpr ⟨fun z => by have := h _ z; rwa [P.inv x hx] at this, fun z => h x z⟩
  have CL := cl PL fun x hx => (inn x hx).2.1
  have CR := cl PR fun x hx => (inn x hx).2.2
  have CR' : ClosedF cs.length (inR r) (mtF cs) := by rw [T.eq]; exact CR
  have ap : ∀ s ∈ rsW bs cs, s ≠ r → ∀ x ∈ s, x ∉ r := fun s hs ne => apart_of I.rn.apart hr hs ne
  have X : CutF bs.length (inR r) (mtF bs) (mtF cs) (mtF (cutB (inR r) bs)) (mtF (cutB (inR r) cs)) := ⟨PL, PR, CL, CR, fun x hx g => cut_mtF T.bal CL hx g, fun x hx g => cut_mtF T.balR CR' (by rw [T.eq]; exact hx) g⟩
  have l1 : (cutB (inR r) bs).length = rk (inR r) bs.length := cutB_len
  have l2 : (cutB (inR r) cs).length = rk (inR r) bs.length := by rw [cutB_len, T.eq]
  refine ⟨⟨cut_bal T.bal (closedM_of CL), cut_bal T.balR (closedM_of CR'), by rw [l1]; exact Nat.le_trans (rk_le _ _) T.len, by rw [l1, l2]⟩, ?_, fun s hs ne x hx => ⟨(I.rn.inn s hs x hx).1, decide_eq_false (ap s hs ne x hx)⟩⟩
  unfold rsW
  rw [l1]
  refine X.rs (fun s => decide (s ≠ r)) (fun s hs x hx => ?_) (fun k hk => rs_sub k hk) bs.length (Nat.le_refl _)
  by_cases e : s = r
  · subst e
    show decide (s ≠ s) = !decide (x ∈ s)
    rw [decide_eq_true hx]; simp
  · show decide (s ≠ r) = !decide (x ∈ r)
    rw [decide_eq_true e, decide_eq_false (ap s hs e x hx)]; rfl
/-- the ends that stay -/
def keepT (G : Nat → Bool) : Nat → List Nat
  | 0 => []
  | k + 1 => if G k then keepT G k else keepT G k ++ [k]
/-! ### comparing -/
theorem ne_same {K : PySem.W.Frag} {H : Hp} {x y : V} {d : PyData} {Q : VK} (hx : Rep K H x d) (hy : Rep K H y d) (c : d.canLay0 = true) (dp : d.depth ≤ 60) (e : PyData.eqv d d = true) (q : Q (.bl false) H) : rEqD K true x y H Q :=
  ⟨d, d, hx, hy, c, c, Nat.le_trans (Nat.min_le_left _ _) dp, by rw [if_pos rfl, e]; exact q⟩
theorem ne_texts {K : PySem.W.Frag} {H : Hp} {a c : Addr} {y z : Str} {Q : VK} (ly : PyData.canLay0 (.str y) = true) (lz : PyData.canLay0 (.str z) = true) (ha : H a = some (.tup [.str y, .str z])) (hc : H c = some (.tup [.str y, .str z])) (q : Q (.bl false) H) : rEqD K true (.ref a) (.ref c) H Q :=
  ne_same (d := .tuple [.str y, .str z]) (.tup (SqT.of ha) (.cons (.str _) (.cons (.str _) .nil))) (.tup (SqT.of hc) (.cons (.str _) (.cons (.str _) .nil))) (by show (PyData.canLay0 (.str y) && (PyData.canLay0 (.str z) && true)) = true; rw [ly, lz]; rfl) (Nat.le_of_ble_eq_true rfl) (by show (PyData.eqv (.str y) (.str y) && (PyData.eqv (.str z) (.str z) && true)) = true; simp [PyData.eqv]) q
theorem wd_lay (bs : List Bool) : PyData.canLay0 (.str (wd bs)) = true := by
  have a := wd_ascii bs
  show PyData.strOk (wd bs) = true
  unfold PyData.strOk
  rw [Array.all_eq_true] at a ⊢
  intro i hi
  have := of_decide_eq_true (a i hi)
  exact decide_eq_true (by omega)
theorem bel_len (n : Nat) : belD (.int (n : Nat)) n = false := by
  show (true && (decide ((0 : Int) ≤ (n : Int)) && decide ((n : Int) < (n : Int)))) = false
  rw [decide_eq_false (Int.lt_irrefl _)]; simp
theorem bel_big {n : Nat} (h : n ≤ 40) : belD (.int (10 ^ Int.toNat 30)) n = false := by
  show (true && (decide ((0 : Int) ≤ 10 ^ 30) && decide ((10 : Int) ^ 30 < (n : Int)))) = false
  rw [decide_eq_false (by omega : ¬ (10 : Int) ^ 30 < (n : Int))]; simp
/-- two things that are no two words -/
def OddP (d : PyData) : Prop := ∃ d1 d2, d = .tuple [d1, d2] ∧ TxtOk d1 ∧ TxtOk d2 ∧ twoD d1 d2 = false
theorem tup2_of {H : Hp} {v : V} {d1 d2 : PyData} (h : Dat H v (.tuple [d1, d2])) : ∃ t x y, v = .ref t ∧ H t = some (.tup [x, y]) ∧ Dat H x d1 ∧ Dat H y d2 := by
  cases h with
  | tup g l =>
    cases l with
    | cons a r =>
      cases r with
      | cons b e =>
        cases e
        exact ⟨_, _, _, rfl, g, a, b⟩
theorem ref_snoc {H : Hp} {P : Addr → Prop} {a : Addr} {r : List Nat} : ∀ {ws : List V} {rs : List (List Nat)}, RefL H P ws rs → H a = some (.lst (natI r)) → P a → RefL H P (ws ++ [.ref a]) (rs ++ [r])
  | _, _, .nil, ha, p => .cons ⟨a, rfl, ha, p⟩ .nil
  | _, _, .cons h t, ha, p => .cons h (ref_snoc t ha p)
end Rm

set_option Elab.async false
set_option linter.all false
set_option maxRecDepth 100000
set_option maxHeartbeats 4000000
/-! Words laid into words (math of k26). -/
namespace Rm
open PySem L2 PyProof.Rows
def insW (p : Nat) (b2 bs : List Bool) : List Bool := bs.take p ++ (b2 ++ bs.drop p)
theorem ins_len {p : Nat} {b2 bs : List Bool} (h : p ≤ bs.length) : (insW p b2 bs).length = bs.length + b2.length := by
  unfold insW
  rw [List.length_append, List.length_append, List.length_take, List.length_drop]; omega
theorem D_right (xs ys : List Bool) (j : Nat) : D (xs ++ ys) (xs.length + j) = D xs xs.length + D ys j := by
  unfold D
  rw [List.take_length_add_append, List.map_append, List.sum_append, List.take_length]
theorem take_D {bs : List Bool} {p k : Nat} (h : k ≤ p) : D (bs.take p) k = D bs k := by
  unfold D
  rw [List.take_take, Nat.min_eq_left h]
theorem drop_D (bs : List Bool) {p : Nat} (h : p ≤ bs.length) (j : Nat) : D bs (p + j) = D bs p + D (bs.drop p) j := by
  have e := D_right (bs.take p) (bs.drop p) j
  have l : (bs.take p).length = p := by rw [List.length_take]; omega
  rw [List.take_append_drop, l, take_D (Nat.le_refl _)] at e
  exact e
section
variable {p : Nat} {b2 bs : List Bool}
theorem ins_D1 (h : p ≤ bs.length) {k : Nat} (hk : k ≤ p) : D (insW p b2 bs) k = D bs k := by
  unfold insW
  rw [D_append (by rw [List.length_take]; omega), take_D hk]
theorem ins_D2 (h : p ≤ bs.length) {j : Nat} (hj : j ≤ b2.length) : D (insW p b2 bs) (p + j) = D bs p + D b2 j := by
  have e := D_right (bs.take p) (b2 ++ bs.drop p) j
  have l : (bs.take p).length = p := by rw [List.length_take]; omega
  rw [l, take_D (Nat.le_refl _), D_append hj] at e
  exact e
theorem ins_D3 (h : p ≤ bs.length) (B : Bal b2) {k : Nat} (hk : p ≤ k) : D (insW p b2 bs) (k + b2.length) = D bs k := by
  have e := D_right (bs.take p) (b2 ++ bs.drop p) (b2.length + (k - p))
  have l : (bs.take p).length = p := by rw [List.length_take]; omega
  rw [l, take_D (Nat.le_refl _), D_right, B.z] at e
  have d := drop_D bs h (k - p)
  have e1 : p + (b2.length + (k - p)) = k + b2.length := by omega
  have e2 : p + (k - p) = k := by omega
  rw [e1] at e
  rw [e2] at d
  show D (bs.take p ++ (b2 ++ bs.drop p)) (k + b2.length) = _
  rw [e, d]; omega
theorem ins_bal (h : p ≤ bs.length) (B : Bal bs) (B2 : Bal b2) : Bal (insW p b2 bs) := by
  refine ⟨fun i hi => ?_, ?_⟩
  · rw [ins_len h] at hi
    by_cases c1 : i ≤ p
    · rw [ins_D1 h c1]; exact B.nn i (by omega)
    · by_cases c2 : i ≤ p + b2.length
      · obtain ⟨j, rfl⟩ : ∃ j, i = p + j := ⟨i - p, by omega⟩
        rw [ins_D2 h (by omega)]
        have := B.nn p h; have := B2.nn j (by omega); omega
      · obtain ⟨k, rfl⟩ : ∃ k, i = k + b2.length := ⟨i - b2.length, by omega⟩
        rw [ins_D3 h B2 (by omega)]; exact B.nn k (by omega)
  · rw [ins_len h, ins_D3 h B2 h]; exact B.z
def sh (p n2 x : Nat) : Nat := if x < p then x else x + n2
theorem sh_lo {p n2 x : Nat} (h : x < p) : sh p n2 x = x := if_pos h
theorem sh_hi {p n2 x : Nat} (h : p ≤ x) : sh p n2 x = x + n2 := if_neg (by omega)
theorem sh_inj {p n2 x y : Nat} (h : sh p n2 x = sh p n2 y) : x = y := by
  unfold sh at h
  split at h <;> split at h <;> omega
theorem ins_at (h : p ≤ bs.length) (x : Nat) : (insW p b2 bs)[sh p b2.length x]? = bs[x]? := by
  have l : (bs.take p).length = p := by rw [List.length_take]; omega
  unfold insW
  by_cases c : x < p
  · rw [sh_lo c, List.getElem?_append_left (by omega), List.getElem?_take, if_pos c]
  · rw [sh_hi (by omega), List.getElem?_append_right (by omega), l, List.getElem?_append_right (by omega), List.getElem?_drop]
    congr 1; omega
theorem ins_in (h : p ≤ bs.length) {j : Nat} (hj : j < b2.length) : (insW p b2 bs)[p + j]? = b2[j]? := by
  have l : (bs.take p).length = p := by rw [List.length_take]; omega
  unfold insW
  rw [List.getElem?_append_right (by omega), l, List.getElem?_append_left (by omega)]
  congr 1; omega
theorem ins_Ds (h : p ≤ bs.length) (B2 : Bal b2) (x : Nat) : D (insW p b2 bs) (sh p b2.length x) = D bs x ∧ D (insW p b2 bs) (sh p b2.length x + 1) = D bs (x + 1) := by
  by_cases c : x < p
  · rw [sh_lo c, ins_D1 h (by omega), ins_D1 h (by omega)]; exact ⟨rfl, rfl⟩
  · rw [sh_hi (by omega), ins_D3 h B2 (by omega)]
    have e : x + b2.length + 1 = x + 1 + b2.length := by omega
    rw [e, ins_D3 h B2 (by omega)]; exact ⟨rfl, rfl⟩
theorem ins_mateO (h : p ≤ bs.length) (B2 : Bal b2) {x y : Nat} (M : Mate bs x y) : Mate (insW p b2 bs) (sh p b2.length x) (sh p b2.length y) := by
  have lt := M.lt
  have ml := M.ml
  refine ⟨by unfold sh; split <;> split <;> omega, by rw [ins_len h]; unfold sh; split <;> omega, by rw [ins_at h]; exact M.op, by rw [ins_at h]; exact M.cl, by rw [(ins_Ds h B2 y).2, (ins_Ds h B2 x).1]; exact M.eq, fun i h1 h2 => ?_⟩
  rw [(ins_Ds h B2 x).1]
  by_cases c1 : i ≤ p
  · rw [ins_D1 h c1]
    exact M.gt i (by unfold sh at h1; split at h1 <;> omega) (by unfold sh at h2; split at h2 <;> omega)
  · by_cases c2 : i ≤ p + b2.length
    · obtain ⟨j, rfl⟩ : ∃ j, i = p + j := ⟨i - p, by omega⟩
      rw [ins_D2 h (by omega)]
      have := B2.nn j (by omega)
      have := M.gt p (by unfold sh at h1; split at h1 <;> omega) (by unfold sh at h2; split at h2 <;> omega)
      omega
    · obtain ⟨k, rfl⟩ : ∃ k, i = k + b2.length := ⟨i - b2.length, by omega⟩
      rw [ins_D3 h B2 (by omega)]
      exact M.gt k (by unfold sh at h1; split at h1 <;> omega) (by unfold sh at h2; split at h2 <;> omega)
theorem ins_mateI (h : p ≤ bs.length) {x y : Nat} (M : Mate b2 x y) : Mate (insW p b2 bs) (p + x) (p + y) := by
  have lt := M.lt
  have ml := M.ml
  refine ⟨by omega, by rw [ins_len h]; omega, by rw [ins_in h (by omega)]; exact M.op, by rw [ins_in h ml]; exact M.cl, ?_, fun i h1 h2 => ?_⟩
  · rw [Nat.add_assoc, ins_D2 h (by omega), ins_D2 h (by omega), M.eq]
  · obtain ⟨j, rfl⟩ : ∃ j, i = p + j := ⟨i - p, by omega⟩
    rw [ins_D2 h (by omega), ins_D2 h (by omega)]
    have := M.gt j (by omega) (by omega)
    omega
theorem ins_mtO (h : p ≤ bs.length) (B : Bal bs) (B2 : Bal b2) {x : Nat} (hx : x < bs.length) : mtF (insW p b2 bs) (sh p b2.length x) = sh p b2.length (mtF bs x) := by
  rcases mtF_pr B hx with q | q
  · exact mtF_of (.inl (ins_mateO h B2 q))
  · exact mtF_of (.inr (ins_mateO h B2 q))
theorem ins_mtI (h : p ≤ bs.length) (B2 : Bal b2) {x : Nat} (hx : x < b2.length) : mtF (insW p b2 bs) (p + x) = p + mtF b2 x := by
  rcases mtF_pr B2 hx with q | q
  · exact mtF_of (.inl (ins_mateI h q))
  · exact mtF_of (.inr (ins_mateI h q))
end
/-! ### rounds carried over -/
structure EmbF (n : Nat) (f L R L' R' : Nat → Nat) : Prop where
  pl : Prt n L
  pr : Prt n R
  inj : ∀ x y, f x = f y → x = y
  el : ∀ x, x < n → L' (f x) = f (L x)
  er : ∀ x, x < n → R' (f x) = f (R x)
section
variable {n : Nat} {f L R L' R' : Nat → Nat}
theorem EmbF.it (X : EmbF n f L R L' R') {e : Nat} (h : e < n) : ∀ i, itF L' R' (f e) i = f (itF L R e i)
  | 0 => rfl
  | i + 1 => by
    have lt := it_lt (R := R) X.pl X.pr h i
    show R' (L' (itF L' R' (f e) i)) = f (R (L (itF L R e i)))
    rw [X.it h i, X.el _ lt, X.er _ (X.pl.lt _ lt)]
theorem EmbF.rd (X : EmbF n f L R L' R') {e : Nat} (h : e < n) : ∀ i, rdL L' R' (f e) i = (rdL L R e i).map f
  | 0 => rfl
  | i + 1 => by
    have lt := it_lt (R := R) X.pl X.pr h i
    rw [rdL, rdL, X.rd h i, X.it h i, X.el _ lt, List.map_append, List.map_append]; rfl
theorem EmbF.rdX (X : EmbF n f L R L' R') {e : Nat} (h : e < n) : rdF L' R' (f e) = (rdF L R e).map f := by
  obtain ⟨i, p⟩ := per_ex (R := R) X.pl X.pr h
  have q : Per L' R' (f e) i := ⟨p.pos, fun j k hj hk z => by rw [X.it h j, X.it h k] at z; exact p.inj j k hj hk (X.inj _ _ z), by rw [X.it h i, p.back]⟩
  unfold rdF
  rw [perF_of p, perF_of q, X.rd h]
end
/-- an end is met in a list of rounds carried over just where it was -/
theorem met_map {f : Nat → Nat} (inj : ∀ x y, f x = f y → x = y) {rs : List (List Nat)} {x : Nat} : (∃ r ∈ rs.map (·.map f), f x ∈ r) ↔ ∃ r ∈ rs, x ∈ r := by
  constructor
  · rintro ⟨r', hr, hm⟩
    obtain ⟨r, hr2, rfl⟩ := List.mem_map.mp hr
    obtain ⟨y, hy, e⟩ := List.mem_map.mp hm
    rw [inj _ _ e] at hy
    exact ⟨r, hr2, hy⟩
  · rintro ⟨r, hr, hm⟩
    exact ⟨_, List.mem_map.mpr ⟨r, hr, rfl⟩, List.mem_map.mpr ⟨x, hm, rfl⟩⟩
theorem met_none {f : Nat → Nat} {rs : List (List Nat)} {x : Nat} (h : ∀ y, (∃ r ∈ rs, y ∈ r) → f y ≠ x) : ¬ ∃ r ∈ rs.map (·.map f), x ∈ r := by
  rintro ⟨r', hr, hm⟩
  obtain ⟨r, hr2, rfl⟩ := List.mem_map.mp hr
  obtain ⟨y, hy, e⟩ := List.mem_map.mp hm
  exact h y ⟨r, hr2, hy⟩ e
theorem met_app {rs ss : List (List Nat)} {x : Nat} : (∃ r ∈ rs ++ ss, x ∈ r) ↔ (∃ r ∈ rs, x ∈ r) ∨ ∃ r ∈ ss, x ∈ r := by
  constructor
  · rintro ⟨r, hr, hx⟩
    rcases List.mem_append.mp hr with h | h
    · exact .inl ⟨r, h, hx⟩
    · exact .inr ⟨r, h, hx⟩
  · rintro (⟨r, hr, hx⟩ | ⟨r, hr, hx⟩)
    · exact ⟨r, List.mem_append_left _ hr, hx⟩
    · exact ⟨r, List.mem_append_right _ hr, hx⟩
theorem met_perm {rs ss : List (List Nat)} (h : rs.Perm ss) {x : Nat} : (∃ r ∈ rs, x ∈ r) ↔ ∃ r ∈ ss, x ∈ r := ⟨fun ⟨r, hr, hx⟩ => ⟨r, h.mem_iff.mp hr, hx⟩, fun ⟨r, hr, hx⟩ => ⟨r, h.mem_iff.mpr hr, hx⟩⟩
theorem met_lt {n : Nat} {L R : Nat → Nat} (PL : Prt n L) (PR : Prt n R) (n40 : n ≤ 40) {k x : Nat} (hk : k ≤ n) (h : ∃ r ∈ rsF L R k, x ∈ r) : x < n := by
  obtain ⟨r, hr, hx⟩ := h
  exact ((rsF_rin PL PR n40 k hk).1.rn.inn r hr x hx).1
/-- the rounds of words laid into words -/
theorem lay_rs {n n2 p : Nat} {L R L2 R2 L' R' : Nat → Nat} (n40 : n ≤ 40) (m40 : n2 ≤ 40) (hp : p ≤ n) (O : EmbF n (sh p n2) L R L' R') (I : EmbF n2 (p + ·) L2 R2 L' R') : (rsF L' R' (n + n2)).Perm ((rsF L R n).map (·.map (sh p n2)) ++ (rsF L2 R2 n2).map (·.map (p + ·))) := by
  have lo := fun {k x : Nat} (hk : k ≤ n) (h : ∃ r ∈ rsF L R k, x ∈ r) => met_lt O.pl O.pr n40 hk h
  have li := fun {k x : Nat} (hk : k ≤ n2) (h : ∃ r ∈ rsF L2 R2 k, x ∈ r) => met_lt I.pl I.pr m40 hk h
  have ph1 : ∀ k, k ≤ p → rsF L' R' k = (rsF L R k).map (·.map (sh p n2)) := by
    intro k
    induction k with
    | zero => intro _; rfl
    | succ k ih =>
      intro hk
      have ih := ih (by omega)
      have es : sh p n2 k = k := sh_lo (by omega)
      have iff : (∃ r ∈ rsF L' R' k, k ∈ r) ↔ ∃ r ∈ rsF L R k, k ∈ r := by
        rw [ih]
        have := met_map (f := sh p n2) (fun x y => sh_inj) (rs := rsF L R k) (x := k)
        rw [es] at this
        exact this
      by_cases c : ∃ r ∈ rsF L R k, k ∈ r
      · rw [rsF_skip (iff.mpr c), rsF_skip c, ih]
      · rw [rsF_add (fun z => c (iff.mp z)), rsF_add c, ih, List.map_append]
        have := O.rdX (e := k) (by omega)
        rw [es] at this
        rw [this]; rfl
  have ph2 : ∀ j, j ≤ n2 → rsF L' R' (p + j) = (rsF L R p).map (·.map (sh p n2)) ++ (rsF L2 R2 j).map (·.map (p + ·)) := by
    intro j
    induction j with
    | zero => intro _; rw [Nat.add_zero, ph1 p (Nat.le_refl _)]; simp [rsF]
    | succ j ih =>
      intro hj
      have ih := ih (by omega)
      have no : ¬ ∃ r ∈ (rsF L R p).map (·.map (sh p n2)), p + j ∈ r := met_none fun y _ e => by
        unfold sh at e
        split at e <;> omega
      have iff : (∃ r ∈ rsF L' R' (p + j), p + j ∈ r) ↔ ∃ r ∈ rsF L2 R2 j, j ∈ r := by
        rw [ih, met_app]
        have := met_map (f := (p + ·)) (fun x y (h : p + x = p + y) => by omega) (rs := rsF L2 R2 j) (x := j)
        exact ⟨fun h => h.elim (fun z => absurd z no) this.mp, fun h => .inr (this.mpr h)⟩
      show rsF L' R' (p + j + 1) = _
      by_cases c : ∃ r ∈ rsF L2 R2 j, j ∈ r
      · rw [rsF_skip (iff.mpr c), rsF_skip c, ih]
      · rw [rsF_add (fun z => c (iff.mp z)), rsF_add c, ih, List.map_append, List.append_assoc]
        have := I.rdX (e := j) (by omega)
        rw [this]; rfl
  have ph3 : ∀ d, p + d ≤ n → (rsF L' R' (p + d + n2)).Perm ((rsF L R (p + d)).map (·.map (sh p n2)) ++ (rsF L2 R2 n2).map (·.map (p + ·))) := by
    intro d
    induction d with
    | zero =>
      intro _
      have := ph2 n2 (Nat.le_refl _)
      rw [Nat.add_zero, this]
    | succ d ih =>
      intro hd
      have ih := ih (by omega)
      have es : sh p n2 (p + d) = p + d + n2 := sh_hi (by omega)
      have no : ¬ ∃ r ∈ (rsF L2 R2 n2).map (·.map (p + ·)), p + d + n2 ∈ r := met_none fun y hy e => by
        have := li (Nat.le_refl _) hy
        have e' : p + y = p + d + n2 := e
        omega
      have iff : (∃ r ∈ rsF L' R' (p + d + n2), p + d + n2 ∈ r) ↔ ∃ r ∈ rsF L R (p + d), p + d ∈ r := by
        rw [met_perm ih, met_app]
        have := met_map (f := sh p n2) (fun x y => sh_inj) (rs := rsF L R (p + d)) (x := p + d)
        rw [es] at this
        exact ⟨fun h => h.elim this.mp (fun z => absurd z no), fun h => .inl (this.mpr h)⟩
      have e1 : p + (d + 1) + n2 = p + d + n2 + 1 := by omega
      have e2 : p + (d + 1) = p + d + 1 := by omega
      rw [e1, e2]
      by_cases c : ∃ r ∈ rsF L R (p + d), p + d ∈ r
      · rw [rsF_skip (iff.mpr c), rsF_skip c]; exact ih
      · rw [rsF_add (fun z => c (iff.mp z)), rsF_add c, List.map_append]
        have := O.rdX (e := p + d) (by omega)
        rw [es] at this
        rw [this]
        refine (ih.append_right _).trans ?_
        rw [List.append_assoc, List.append_assoc]
        refine List.Perm.append_left _ ?_
        exact List.perm_append_comm
  have := ph3 (n - p) (by omega)
  have e : p + (n - p) = n := by omega
  rw [e] at this
  exact this
theorem lay_words {p : Nat} {bs cs b2 c2 : List Bool} (T : TwoW bs cs) (T2 : TwoW b2 c2) (hp : p ≤ bs.length) (h40 : bs.length + b2.length ≤ 40) :
    TwoW (insW p b2 bs) (insW p c2 cs) ∧ (rsW (insW p b2 bs) (insW p c2 cs)).Perm ((rsW bs cs).map (·.map (sh p b2.length)) ++ (rsW b2 c2).map (·.map (p + ·))) := by
  have hc : p ≤ cs.length := by rw [T.eq]; exact hp
  have PL := mtF_prt T.bal
  have PR := mtF_prt T.balR
  have PL2 := mtF_prt T2.bal
  have PR2 := mtF_prt T2.balR
  rw [T.eq] at PR
  rw [T2.eq] at PR2
  refine ⟨⟨ins_bal hp T.bal T2.bal, ins_bal hc T.balR T2.balR, by rw [ins_len hp]; exact h40, by rw [ins_len hp, ins_len hc, T.eq, T2.eq]⟩, ?_⟩
  unfold rsW
  rw [ins_len hp]
  refine lay_rs T.len T2.len hp ⟨PL, PR, fun x y => sh_inj, fun x hx => ins_mtO hp T.bal T2.bal hx, fun x hx => ?_⟩ ⟨PL2, PR2, fun x y (h : p + x = p + y) => by omega, fun x hx => ins_mtI hp T2.bal hx, fun x hx => ?_⟩
  · have := ins_mtO (p := p) hc T.balR T2.balR (x := x) (by rw [T.eq]; exact hx)
    rw [T2.eq] at this; exact this
  · exact ins_mtI hc T2.balR (by rw [T2.eq]; exact hx)
end Rm

set_option Elab.async false
set_option linter.all false
set_option maxRecDepth 100000
set_option maxHeartbeats 4000000
/-! Lists of whole numbers compared by <, sorted (k26). -/
namespace L2
open PySem PySem.Spec PyProof.Rows
open AutoSeq1 (wpAny_loadPart')
open MeetsSeq MeetsSeq2 MeetsSeq3
open PySem.W (Looks kas_mapM kas_first_eq)
def lexZ : List Int → List Int → Bool
  | [], [] => false
  | [], _ :: _ => true
  | _ :: _, [] => false
  | x :: xs, y :: ys => if x = y then lexZ xs ys else decide (x < y)
theorem lex_nil (ys : List Int) : lexZ [] ys = decide (0 < ys.length) := by cases ys <;> simp [lexZ]
theorem lex_nilR (xs : List Int) : lexZ xs [] = false := by cases xs <;> rfl
theorem ints_at {vs : List Value} {ns : List Int} (h : IntsAre vs ns) {i : Nat} {n : Int} (e : ns[i]? = some n) : ∃ t, vs[i]? = some (.int n t) := by
  have hi := (List.getElem?_eq_some_iff.mp e).1
  have hl := ints_len h
  obtain ⟨t, ht⟩ := ints_getD h i (by omega)
  refine ⟨t, ?_⟩
  have e1 : ns.getD i 0 = n := by simp [List.getD, e]
  rw [e1] at ht
  rw [List.getElem?_eq_getElem (by omega)]
  simp [List.getD, show i < vs.length by omega] at ht
  rw [ht]
theorem lt_loop (l b : Addr) (items items2 : Array Value) (n n2 : Nat) (xs ys : List Int) (hx : IntsAre items.toList xs) (hy : IntsAre items2.toList ys) : ∀ k i : Nat, xs.length - i = k → i ≤ xs.length → i ≤ ys.length →
    Meets (Builtin.«list.__eq__.loop» ⟨[.ref l, .ref b, rawInt i, rawInt 0], []⟩)
      (fun A R s => s.heap.get? l = some { cls := .type "list", dict := none, data := .seq items n, slots := #[] } ∧ s.heap.get? b = some { cls := .type "list", dict := none, data := .seq items2 n2, slots := #[] } ∧
        R (.ok (.ret (.bool (lexZ (xs.drop i) (ys.drop i))))) s) := by
  have lx : items.size = xs.length := ints_len hx
  have ly : items2.size = ys.length := ints_len hy
  have stop : ∀ i : Nat, i ≤ xs.length → i ≤ ys.length → (i = xs.length ∨ i = ys.length) → lexZ (xs.drop i) (ys.drop i) = decide (xs.length < ys.length) := fun i h1 h2 h => by
    rcases h with h | h
    · rw [List.drop_of_length_le (by omega), lex_nil, List.length_drop]
      exact decide_eq_decide.mpr (by omega)
    · rw [List.drop_of_length_le (l := ys) (by omega), lex_nilR, decide_eq_false (by omega)]
  intro k
  induction k with
  | zero =>
    intro i hk h1 h2 prog w A R s h
    obtain ⟨hp, g, d, tk, os⟩ := s
    obtain ⟨hl, hb, h⟩ := h
    wp_walk using wpAny_loadPart' hl, wpAny_loadPart' hb
    have hi1 : items[((i : Nat) : Int).toNat]? = none := by simp; omega
    rw [hi1]
    rw [stop i h1 h2 (.inl (by omega))] at h
    wp_walk using wpAny_loadPart' hl, wpAny_loadPart' hb
    show R (.ok (.ret (.bool (decide (items.size < items2.size))))) _
    rw [lx, ly]; exact h
  | succ k ih =>
    intro i hk h1 h2 prog w A R s h
    obtain ⟨hp, g, d, tk, os⟩ := s
    obtain ⟨hl, hb, h⟩ := h
    wp_walk using wpAny_loadPart' hl, wpAny_loadPart' hb
    have hi1 : i < xs.length := by omega
    obtain ⟨t, ht⟩ := ints_at hx (List.getElem?_eq_getElem hi1)
    have et : items[((i : Nat) : Int).toNat]? = some (Value.int xs[i] t) := by rw [Array.getElem?_toList] at ht; exact ht
    rw [et]
    by_cases c : i = ys.length
    · have hi2 : items2[((i : Nat) : Int).toNat]? = none := by simp; omega
      rw [hi2]
      rw [stop i h1 h2 (.inr c)] at h
      wp_walk using wpAny_loadPart' hl, wpAny_loadPart' hb
      show R (.ok (.ret (.bool (decide (items.size < items2.size))))) _
      rw [lx, ly]; exact h
    · have hi2 : i < ys.length := by omega
      obtain ⟨u, hu⟩ := ints_at hy (List.getElem?_eq_getElem hi2)
      have eu : items2[((i : Nat) : Int).toNat]? = some (Value.int ys[i] u) := by rw [Array.getElem?_toList] at hu; exact hu
      rw [eu]
      rw [List.drop_eq_getElem_cons hi1, List.drop_eq_getElem_cons hi2, lexZ] at h
      refine wpAny_bind (EqGives.int _ _ _ _ prog w _ _ _ _ ?_)
      have hc : ((i : Int) + 1) = ((i + 1 : Nat) : Int) := by push_cast; rfl
      by_cases e : xs[i] = ys[i]
      · rw [if_pos e] at h
        have eb : (xs[i] == ys[i]) = true := by rw [e]; exact beq_self_eq_true _
        rw [eb]
        wp_walk
        rw [hc]
        exact ⟨plainId_quiet plain_eq_loop _, codeAny_builtin entry_eq_loop (by
          rw [Around.under_plainId plain_eq_loop _]
          exact ih (i + 1) (by omega) (by omega) (by omega) prog w A R _ ⟨hl, hb, h⟩)⟩
      · rw [if_neg e] at h
        have eb : (xs[i] == ys[i]) = false := beq_false_of_ne e
        rw [eb]
        wp_walk using wpAny_loadPart' hl, wpAny_loadPart' hb
        rw [et, eu]
        refine wpAny_bind (show wpAny (model prog w) A.in1 (compareOp .Lt (.int xs[i] t) (.int ys[i] u)) _ _ _ from PyProof.Rows.lt_int ?_)
        wp_walk
        exact h
theorem list_lt (l b : Addr) (items items2 : Array Value) (n n2 : Nat) (xs ys : List Int) (hx : IntsAre items.toList xs) (hy : IntsAre items2.toList ys) :
    Meets (Builtin.«list.__lt__» ⟨[.ref l, .ref b], []⟩)
      (fun A R s => s.heap.get? l = some { cls := .type "list", dict := none, data := .seq items n, slots := #[] } ∧ s.heap.get? b = some { cls := .type "list", dict := none, data := .seq items2 n2, slots := #[] } ∧
        R (.ok (.ret (.bool (lexZ xs ys)))) s) := by
  intro prog w A R s h
  obtain ⟨hp, g, d, tk, os⟩ := s
  obtain ⟨hl, hb, h⟩ := h
  have f3 := AutoSeq1.sub_list_list
  wp_walk using wpAny_loadPart' hl, wpAny_loadPart' hb
  exact ⟨plainId_quiet plain_eq_loop _, codeAny_builtin entry_eq_loop (by
    rw [Around.under_plainId plain_eq_loop _]
    exact lt_loop l b items items2 n n2 xs ys hx hy _ 0 rfl (Nat.zero_le _) (Nat.zero_le _) prog w A R _ ⟨hl, hb, h⟩)⟩
/-- a list of whole numbers, as the program's heap has it -/
def LstI (h : Heap) (a : Addr) (xs : List Int) : Prop := ∃ items n, h.get? a = some { cls := .type "list", dict := none, data := .seq items n, slots := #[] } ∧ IntsAre items.toList xs
theorem LstI.kept {h h' : Heap} {a : Addr} {xs : List Int} (x : LstI h a xs) (k : ∀ b o, h.get? b = some o → h'.get? b = some o) : LstI h' a xs := by
  obtain ⟨items, n, e, i⟩ := x
  exact ⟨items, n, k _ _ e, i⟩
section
variable {prog : Program} {w : World} {A : Around} {E : Value → Shared → Prop} {s : Shared}
theorem oneLt_list {a b : Addr} {xs ys : List Int} {Q : Bool → Shared → Prop} (hu : A.units < cLine) (ha : LstI s.heap a xs) (hb : LstI s.heap b ys) (h : Q (lexZ xs ys) s) : wpAny (model prog w) A (oneLt' true (.ref a) (.ref b)) Q E s := by
  obtain ⟨items, n, ea, ia⟩ := ha
  obtain ⟨items2, n2, eb, ib⟩ := hb
  rw [oneLt'_eq]
  simp only [if_true]
  refine wpAny_bind (wpAny_cRoomFor hu ?_)
  refine wpAny_bind (wpAny_callSpecialIfBound?_slot (T := "list") ⟨_, ea, rfl⟩ F.slot_list_lt (call_meets F.slot_list_lt ⟨_, ea, rfl⟩ F.entry_list_lt (F.args_list_lt_2 _ _) (list_lt a b items items2 n n2 xs ys ia ib) ⟨ea, eb, ?_⟩))
  exact wpAny_truthy_bool h
theorem kind_list {as : List Addr} {Q : SortKind → Shared → Prop} (hne : 0 < as.length) (hl : ∀ a ∈ as, ∃ o, s.heap.get? a = some o ∧ o.cls = .type "list") (h : Q oneType' s) : wpAny (model prog w) A (keyKind' (as.map Value.ref).toArray) Q E s := by
  obtain ⟨a₁, ar, rfl⟩ : ∃ a₁ ar, as = a₁ :: ar := by
    match as, hne with
    | a₁ :: ar, _ => exact ⟨a₁, ar, rfl⟩
  have look : ∀ v ∈ (a₁ :: ar).map Value.ref, Looks (model prog w) s.heap (typeOf v) (Value.type "list") := fun v hv => by
    obtain ⟨a, ha, rfl⟩ := List.mem_map.mp hv
    obtain ⟨o, ho, hc⟩ := hl a ha
    rw [← hc]
    exact (Looks.ld ho).andThen .now
  rw [keyKind'_eq, List.mapM_toArray, map_eq_pure_bind]
  refine wpAny_bind (wpAny_bind (kas_mapM (r := none) _ (fun v hv Q' hq => ?_) (wpAny_pure ?_)))
  · rw [kas_first_eq]
    refine wpAny_bind ((look v hv).here ?_)
    rw [if_pos (by first | decide | simp)]
    exact wpAny_pure hq
  · have hall : ¬ ((List.map (fun _ => (none : Option Value)) ((a₁ :: ar).map Value.ref)).toArray.all fun x => x.isSome) = true := by simp
    rw [if_neg hall]
    have h0 : ¬ (((List.map (fun _ => (none : Option Value)) ((a₁ :: ar).map Value.ref)).toArray[0]?).bind id).isSome = true := by simp
    simp only [h0, if_false, Bool.false_eq_true]
    rw [oneTypeOnly'_eq, List.mapM_toArray, map_eq_pure_bind]
    refine wpAny_bind (wpAny_bind (wpAny_bind (kas_mapM (r := Value.type "list") _ (fun v hv Q' hq => (look v hv).here hq) (wpAny_pure ?_))))
    have hall2 : ((List.map (fun _ => Value.type "list") ((a₁ :: ar).map Value.ref)).toArray.all fun x => x == Value.type "list") = true := by simp
    have h1 : (List.map (fun _ => Value.type "list") ((a₁ :: ar).map Value.ref)).toArray[0]? = some (Value.type "list") := by simp
    rw [h1]
    simp only [hall2, if_true]
    exact wpAny_pure (wpAny_pure h)
end
end L2
namespace Rm
open PySem PySem.W PyProof.Rows L2
theorem lex_self : ∀ xs : List Int, lexZ xs xs = false
  | [] => rfl
  | x :: xs => by rw [lexZ, if_pos rfl]; exact lex_self xs
def hd0 (r : List Nat) : Nat := r.headD 0
def zI (r : List Nat) : List Int := r.map fun x : Nat => (x : Int)
/-- lists that are told apart by their first items -/
def HeadsApart (rs : List (List Nat)) : Prop := (∀ r ∈ rs, r ≠ []) ∧ ∀ r ∈ rs, ∀ s ∈ rs, hd0 r = hd0 s → r = s
theorem lex_heads {rs : List (List Nat)} (h : HeadsApart rs) {r s : List Nat} (hr : r ∈ rs) (hs : s ∈ rs) : lexZ (zI r) (zI s) = decide ((hd0 r : Int) < (hd0 s : Int)) := by
  by_cases e : hd0 r = hd0 s
  · have := h.2 r hr s hs e
    subst this
    rw [lex_self, decide_eq_false (by omega)]
  · cases r with
    | nil => exact absurd rfl (h.1 _ hr)
    | cons x r =>
      cases s with
      | nil => exact absurd rfl (h.1 _ hs)
      | cons y s =>
        show lexZ ((x : Int) :: _) ((y : Int) :: _) = _
        rw [lexZ, if_neg (fun z => e (by show x = y; omega))]; rfl
def lstAt (H : Hp) (a : Addr) (r : List Nat) : Prop := H a = some (.lst (natI r))
theorem lstI_of {X : Cx} {pins : List (Addr × Obj)} {σ : L2.St} {H : Hp} {s : Shared} (I : Inv X pins σ H s) {a : Addr} {r : List Nat} (h : lstAt H a r) : LstI s.heap a (zI r) := by
  obtain ⟨z, its, n, rv, hl, e⟩ := I.lstM h
  refine ⟨its.toArray, n, e, ?_⟩
  have e2 : natI r = (zI r).map V.int := by unfold zI; rw [List.map_map]; rfl
  rw [e2] at rv
  exact intsAre_of rv
def rSortL (K : PySem.W.Frag) : List V → Hp → VK → Prop := fun xs H Q => ∃ (l : Addr) (as : List Addr) (rs : List (List Nat)), xs = [.ref l] ∧ SqL K H l (as.map V.ref) ∧ Paired (lstAt H) as rs ∧ rs.length < 64 ∧ HeadsApart rs ∧
  ∀ l' as' rs', H l' = none → Paired (lstAt H) as' rs' → rs'.Perm rs → (rs'.Pairwise fun r s => (hd0 r : Int) ≤ (hd0 s : Int)) → Q (.ref l') (upd H l' (.lst (as'.map V.ref)))
theorem call_sorted_lists {X : Cx} (hu : X.A.units + 64 < cLine) : CallR X (.builtin "sorted") (rSortL X.K) := by
  intro pins s σ H xs us Q I rr h
  obtain ⟨l, as, rs, rfl, hq, hP, h64, hb, q⟩ := h
  obtain ⟨u, rfl, rx⟩ := vals1 rr
  cases rx
  obtain ⟨its, rv, pl, hz⟩ := I.list hq
  have e := vals_refs rv
  subst e
  have hlen : as.length = rs.length := Paired.length hP
  have lst : Paired (fun a r => LstI s.heap a (zI r)) as rs := paired_imp (fun a p z => lstI_of I z) hP
  have at_ : ∀ i, i < as.length → ∃ a r, (as.map Value.ref).getD i Value.none = .ref a ∧ rs.getD i [] = r ∧ LstI s.heap a (zI r) ∧ r ∈ rs := fun i hi => by
    have hx : as[i]? = some as[i] := List.getElem?_eq_getElem hi
    obtain ⟨r, hp, ht⟩ := L2.paired_get lst hx
    exact ⟨as[i], r, by simp [List.getD, hi], by simp [List.getD, hp], ht, List.mem_of_getElem? hp⟩
  refine sorted_rank (r := fun i => (hd0 (rs.getD i []) : Int)) oneType' pl.isList (by rw [List.length_map]; omega) (fun h2 h' Q' k q' => ?_) (fun i j hi hj h' C k q' => ?_) fun p hp ha => ?_
  · refine kind_list (by rw [List.length_map] at h2; omega) (fun a ha => ?_) q'
    obtain ⟨i, hi, rfl⟩ := List.getElem_of_mem ha
    obtain ⟨r, _, items, n, e, _⟩ := L2.paired_get lst (List.getElem?_eq_getElem hi)
    exact ⟨_, k _ _ e, rfl⟩
  · rw [List.length_map] at hi hj
    obtain ⟨a, r1, e1, e2, t1, b1⟩ := at_ i hi
    obtain ⟨c, r2, e3, e4, t2, b2⟩ := at_ j hj
    rw [e1, e3, keyLt'_oneType]
    refine oneLt_list ?_ (t1.kept k) (t2.kept k) ?_
    · show X.A.units + 1 + 1 < cLine
      omega
    · rw [lex_heads hb b1 b2, ← e2, ← e4]
      exact q'
  · rw [List.length_map] at hp ha
    obtain ⟨c, hc⟩ := sortedAll_at s.heap (as.map Value.ref) (outOf (as.map Value.ref) p)
    have hin : ∀ i ∈ p.toList, i < as.length := fun i hi => by
      have h1 : p.toList.Perm (List.range as.length) := by simpa using Array.perm_iff_toList_perm.mp hp
      simpa using h1.mem_iff.mp hi
    have eo : outOf (as.map Value.ref) p = List.toArray ((pick 0 as p).map Value.ref) := by
      unfold outOf pick
      rw [List.map_map]
      congr 1
      refine List.map_congr_left fun i hi => ?_
      have := hin i hi
      simp [List.getD, this]
    have hps : (pick 0 as p).length ≤ sizeLine := by
      have := (pick_perm 0 as hp).length_eq
      rw [this]
      exact Nat.le_of_lt (small1000 (by omega))
    rw [eo] at hc
    have hp' : p.Perm (List.toArray (List.range rs.length)) := by rw [← hlen]; exact hp
    refine ⟨.ref (s.heap.objs.size + 1), upd H (s.heap.objs.size + 1) (.lst ((pick 0 as p).map V.ref)), I.laid (t' := s.toks) (fun b o e => sortedAll_old e) (Nat.le_succ _) ?_, rfl, ?_⟩
    · exact (show ObjOk X.prog X.w _ _ _ (.lst _) from ⟨by rw [List.length_map]; exact hps, (pick 0 as p).map Value.ref, c, refs_vals _, by rw [eo]; exact hc⟩)
    · have hasc := pick_asc (n := as.length) (by have := hp.size_eq; simpa using this) ha [] rs (fun r => (hd0 r : Int)) fun i => rfl
      exact q _ _ (pick [] rs p) (I.hok.fresh (Nat.le_succ _)) (pick_paired 0 [] hP hin) (pick_perm [] rs hp') hasc
end Rm

set_option Elab.async false
set_option linter.all false
set_option maxRecDepth 100000
set_option maxHeartbeats 4000000
/-! Specs of laying in (k26). -/
namespace Rm
open PySem L2 PyProof.Rows
theorem wd_app (a b : List Bool) : wd a ++ wd b = wd (a ++ b) := by
  show Str.mk ((a.map cpB).toArray ++ (b.map cpB).toArray) = Str.mk ((a ++ b).map cpB).toArray
  rw [List.map_append]; simp
def spPut : Sp := fun vs H Q _ => ∃ (bs b2 : List Bool) (p : Nat), vs = [.str (wd bs), .int (p : Nat), .str (wd b2)] ∧ p ≤ bs.length ∧ bs.length ≤ 40 ∧ b2.length ≤ 40 ∧ Q (.str (wd (insW p b2 bs))) H
def layO (p : Nat) (bs cs b2 c2 : List Bool) : HO := .tup [.str (wd (insW p b2 bs)), .str (wd (insW p c2 cs))]
def LayRef (d e k d2 e2 : PyData) : Bool → Prop
  | true => twoD d e = false ∨ twoD d2 e2 = false ∨ ∃ bs cs b2 c2, d = wdD bs ∧ e = wdD cs ∧ TwoW bs cs ∧ d2 = wdD b2 ∧ e2 = wdD c2 ∧ TwoW b2 c2 ∧ 40 < bs.length + b2.length
  | false => ∃ bs cs b2 c2, d = wdD bs ∧ e = wdD cs ∧ TwoW bs cs ∧ d2 = wdD b2 ∧ e2 = wdD c2 ∧ TwoW b2 c2 ∧ bs.length + b2.length ≤ 40 ∧ belD k (bs.length + 1) = false
def spLaid (W B : Addr) : Sp := fun vs H Q E => ∃ x y n u v d e k d2 e2, vs = [x, y, n, u, v] ∧ Dat H x d ∧ TxtOk d ∧ Dat H y e ∧ TxtOk e ∧ Dat H n k ∧ Dat H u d2 ∧ TxtOk d2 ∧ Dat H v e2 ∧ TxtOk e2 ∧
  ((∃ bs cs b2 c2 p, d = wdD bs ∧ e = wdD cs ∧ TwoW bs cs ∧ d2 = wdD b2 ∧ e2 = wdD c2 ∧ TwoW b2 c2 ∧ bs.length + b2.length ≤ 40 ∧ k = .int (p : Nat) ∧ p ≤ bs.length ∧ ∀ t H', H t = none → Same H H' → H' t = some (layO p bs cs b2 c2) → Q (.ref t) H') ∨ (∃ b, LayRef d e k d2 e2 b ∧ E (.ref (if b then W else B)) none H))
def spSaidL : Sp := fun vs H Q _ => ∃ a x y n c u v d e k d2 e2 b, vs = [.ref a, n, .ref c] ∧ H a = some (.tup [x, y]) ∧ H c = some (.tup [u, v]) ∧ Dat H x d ∧ TxtOk d ∧ Dat H y e ∧ TxtOk e ∧ Dat H n k ∧ Dat H u d2 ∧ TxtOk d2 ∧ Dat H v e2 ∧ TxtOk e2 ∧ LayRef d e k d2 e2 b ∧ ∀ p H', H p = none → Same H H' → H' p = some (.tup [.str (sayS b), .non]) → Q (.ref p) H'
def spAnyL : Sp := fun vs H Q _ => ∃ a x y n c u v d e k d2 e2 b, vs = [.ref a, n, .ref c] ∧ H a = some (.tup [x, y]) ∧ H c = some (.tup [u, v]) ∧ Dat H x d ∧ TxtOk d ∧ Dat H y e ∧ TxtOk e ∧ Dat H n k ∧ Dat H u d2 ∧ TxtOk d2 ∧ Dat H v e2 ∧ TxtOk e2 ∧ LayRef d e k d2 e2 b ∧ ∀ H', Same H H' → Q (.bl true) H'
def spRefL : Sp := fun vs H Q _ => ∃ a x y n c u v d e k d2 e2 b, vs = [.ref a, n, .ref c, .str (sayS b)] ∧ H a = some (.tup [x, y]) ∧ H c = some (.tup [u, v]) ∧ Dat H x d ∧ TxtOk d ∧ Dat H y e ∧ TxtOk e ∧ Dat H n k ∧ Dat H u d2 ∧ TxtOk d2 ∧ Dat H v e2 ∧ TxtOk e2 ∧ LayRef d e k d2 e2 b ∧ ∀ H', Same H H' → Q (.bl true) H'
def spMoved : Sp := fun vs H Q _ => ∃ (l : Addr) (r : List Nat) (p m : Nat), vs = [.ref l, .int (p : Nat), .int (m : Nat)] ∧ H l = some (.lst (natI r)) ∧ r.length ≤ 80 ∧ m ≤ 100 ∧ ∀ l', H l' = none → Q (.ref l') (upd H l' (.lst (natI (r.map (sh p m)))))
theorem eq_say {K : PySem.W.Frag} {H : Hp} {a c : Addr} {b : Bool} {Q : VK} (ha : H a = some (.tup [.str (sayS b), .non])) (hc : H c = some (.tup [.str (sayS b), .non])) (q : Q (.bl true) H) : rEqD K false (.ref a) (.ref c) H Q :=
  ⟨.tuple [.str (sayS b), .none], .tuple [.str (sayS b), .none], .tup (SqT.of ha) (.cons (.str _) (.cons .non .nil)), .tup (SqT.of hc) (.cons (.str _) (.cons .non .nil)), by cases b <;> decide +kernel, by cases b <;> decide +kernel, by cases b <;> decide +kernel, by
    have e : PyData.eqv (.tuple [.str (sayS b), .none]) (.tuple [.str (sayS b), .none]) = true := by cases b <;> decide +kernel
    rw [if_neg (by decide), e]; exact q⟩
theorem ix_to {n p : Nat} (h : p ≤ n) : Builtin.Str.strSliceIndices none (some (p : Int)) 1 n = List.range p := by
  unfold Builtin.Str.strSliceIndices sliceRange
  simp only [show (1 : Int) > 0 by decide, if_true]
  have e : max 0 (min (if (p : Int) < 0 then (p : Int) + n else p) (n : Int)) = p := by rw [if_neg (by omega)]; omega
  rw [e]
  have e2 : (if (0 : Int) < p then ((p : Int) - 0 + 1 - 1) / 1 else 0).toNat = p := by split <;> omega
  rw [e2]
  have e3 : (fun k : Nat => (0 + 1 * (k : Int)).toNat) = id := by funext k; show (0 + 1 * (k : Int)).toNat = k; omega
  rw [e3, List.map_id]
theorem ix_from {n p : Nat} (h : p ≤ n) : Builtin.Str.strSliceIndices (some (p : Int)) none 1 n = (List.range (n - p)).map (p + ·) := by
  unfold Builtin.Str.strSliceIndices sliceRange
  simp only [show (1 : Int) > 0 by decide, if_true]
  have e : max 0 (min (if (p : Int) < 0 then (p : Int) + n else p) (n : Int)) = p := by rw [if_neg (by omega)]; omega
  rw [e]
  have e2 : (if (p : Int) < n then ((n : Int) - p + 1 - 1) / 1 else 0).toNat = n - p := by split <;> omega
  rw [e2]
  refine List.map_congr_left fun k _ => ?_
  show ((p : Int) + 1 * (k : Int)).toNat = p + k
  omega
theorem fm_take {α : Type} (l : List α) : ∀ p, p ≤ l.length → (List.range p).filterMap (fun i => l[i]?) = l.take p
  | 0, _ => rfl
  | p + 1, h => by
    rw [List.range_succ, List.filterMap_append, fm_take l p (by omega), List.take_add_one]
    have : l[p]? = some l[p] := List.getElem?_eq_getElem (by omega)
    simp [this]
theorem fm_drop {α : Type} (l : List α) (p : Nat) (h : p ≤ l.length) : ((List.range (l.length - p)).map (p + ·)).filterMap (fun i => l[i]?) = l.drop p := by
  rw [List.filterMap_map]
  have e : ((fun i => l[i]?) ∘ fun x => p + x) = fun j => (l.drop p)[j]? := by funext j; show l[p + j]? = _; rw [List.getElem?_drop]
  rw [e, fm_take _ _ (by rw [List.length_drop]; omega), List.take_of_length_le (by rw [List.length_drop]; omega)]
theorem wd_cpF (bs : List Bool) : (fun i : Nat => (wd bs).cps[i]?) = fun i => (bs.map cpB)[i]? := by funext i; simp [wd]
theorem sl_to {bs : List Bool} {p : Nat} (h : p ≤ bs.length) : Txt.slice (wd bs) none (some (p : Int)) = wd (bs.take p) := by
  unfold Txt.slice
  rw [wd_length, ix_to h]
  split
  · rename_i c
    have : p = bs.length := by simpa using c
    rw [this, List.take_length]
  · rw [wd_cpF, fm_take _ _ (by rw [List.length_map]; exact h)]
    unfold wd
    rw [List.map_take]
theorem sl_from {bs : List Bool} {p : Nat} (h : p ≤ bs.length) : Txt.slice (wd bs) (some (p : Int)) none = wd (bs.drop p) := by
  unfold Txt.slice
  rw [wd_length, ix_from h]
  split
  · rename_i c
    have : bs.length - p = bs.length := by simpa using c
    have hz : p = 0 ∨ bs.length = 0 := by omega
    rcases hz with rfl | hz
    · rfl
    · have := List.length_eq_zero_iff.mp hz
      subst this; simp
  · rw [wd_cpF]
    have := fm_drop (bs.map cpB) p (by rw [List.length_map]; exact h)
    rw [List.length_map] at this
    rw [this]
    unfold wd
    rw [List.map_drop]
/-- a comprehension over rounds that tells a new list for each -/
theorem comp_rounds {K : PySem.W.Frag} {H : Hp} {ev : Addr} {we : List V} {rs : List (List Nat)} {te : TE} {Q : VK} {rest : L2.St} (f : Nat → Nat) {P : Addr → Prop} (he : H ev = some (.lst we)) (re : RefL H P we rs) (h40 : rs.length ≤ 80)
    (body : ∀ H' a s (Q' : VK), Same H H' → H' a = some (.lst (natI s)) → s ∈ rs → (∀ p, H' p = none → Q' (.ref p) (upd H' p (.lst (natI (s.map f))))) → te (some (.ref a) :: rest) H' Q')
    (fin : ∀ ys H' p, Same H H' → RefL H' (fun _ => True) ys (rs.map (·.map f)) → H' p = none → Q (.ref p) (upd H' p (.lst ys))) : CompJ (Itl K ev) (gName 0) tNoIf te Q (none :: rest) H := by
  have hl := re.len
  refine comp_list (xs := we) (fun i ys σ H' => Same H H' ∧ RefL H' (fun _ => True) ys ((rs.take i).map (·.map f)) ∧ ys.length ≤ i ∧ ∃ x, σ = x :: rest) ⟨Same.refl _, .nil, Nat.le_refl _, _, rfl⟩ (fun i ys σ H' h => ⟨SqL.of (h.1 _ _ he), h.2.2.1⟩) (Nat.le_of_lt (small1000 (by omega))) ?_ ?_
  · rintro i x ys σ H' N hx ⟨sm, ry, hyl, x0, rfl⟩ hN
    obtain ⟨s, hs, a, rfl, ha, _⟩ := L2.paired_get re hx
    have tk : rs.take (i + 1) = rs.take i ++ [s] := by rw [List.take_add_one, hs]; rfl
    rw [tk] at hN
    show te (some (.ref a) :: rest) H' _
    refine body H' a s _ sm (sm _ _ ha) (List.mem_of_getElem? hs) fun p np => hN _ _ _ ⟨sm.new (sm.free np), ?_, by rw [List.length_append]; simp; omega, _, rfl⟩
    rw [List.map_append]
    refine ref_snoc (ry.imp fun a o _ ha => ⟨?_, trivial⟩) upd_same trivial
    rw [upd_ne (ne_of_none ha np)]; exact ha
  · rintro ys σ H' p ⟨sm, ry, _, x, rfl⟩ np
    rw [hl, List.take_length] at ry
    exact fin ys H' p sm ry np
theorem heads_of {n : Nat} {L R : Nat → Nat} {rs : List (List Nat)} (X : Rnds n L R rs) : HeadsApart rs := by
  refine ⟨X.ne, fun r hr s hs e => ?_⟩
  by_cases c : s = r
  · exact c.symm
  · have ap := apart_of X.apart hr hs c
    have nr := X.ne r hr
    have ns := X.ne s hs
    cases r with
    | nil => exact absurd rfl nr
    | cons x r =>
      cases s with
      | nil => exact absurd rfl ns
      | cons y s =>
        have e' : x = y := e
        exact absurd (by rw [e']; simp) (ap y (by simp))
theorem HeadsApart.perm {rs ss : List (List Nat)} (h : HeadsApart rs) (p : rs.Perm ss) : HeadsApart ss := ⟨fun r hr => h.1 r (p.mem_iff.mpr hr), fun r hr s hs => h.2 r (p.mem_iff.mpr hr) s (p.mem_iff.mpr hs)⟩
theorem sort_uniq : ∀ {xs ys : List (List Nat)}, xs.Perm ys → HeadsApart xs → (xs.Pairwise fun r s => (hd0 r : Int) ≤ (hd0 s : Int)) → (ys.Pairwise fun r s => (hd0 r : Int) ≤ (hd0 s : Int)) → xs = ys
  | [], ys, p, _, _, _ => by have := p.length_eq; exact (List.length_eq_zero_iff.mp this.symm).symm
  | x :: xs, [], p, _, _, _ => by have := p.length_eq; simp at this
  | x :: xs, y :: ys, p, h, px, py => by
    have my : y ∈ x :: xs := p.mem_iff.mpr (by simp)
    have mx : x ∈ y :: ys := p.mem_iff.mp (by simp)
    have e : x = y := by
      refine h.2 x (by simp) y my ?_
      have a : (hd0 x : Int) ≤ (hd0 y : Int) := by
        rcases List.mem_cons.mp my with q | q
        · rw [q]; exact Int.le_refl _
        · exact (List.pairwise_cons.mp px).1 y q
      have b : (hd0 y : Int) ≤ (hd0 x : Int) := by
        rcases List.mem_cons.mp mx with q | q
        · rw [q]; exact Int.le_refl _
        · exact (List.pairwise_cons.mp py).1 x q
      omega
    subst e
    rw [sort_uniq ((List.perm_cons x).mp p) ⟨fun r hr => h.1 r (by simp [hr]), fun r hr s hs => h.2 r (by simp [hr]) s (by simp [hs])⟩ (List.pairwise_cons.mp px).2 (List.pairwise_cons.mp py).2]
theorem ref_as {H : Hp} {P : Addr → Prop} : ∀ {ws : List V} {rs : List (List Nat)}, RefL H P ws rs → ∃ as : List Addr, ws = as.map V.ref ∧ Paired (lstAt H) as rs
  | _, _, .nil => ⟨[], rfl, .nil⟩
  | _, _, .cons ⟨a, e, ha, _⟩ t => by
    obtain ⟨as, h1, h2⟩ := ref_as t
    exact ⟨a :: as, by rw [e, h1]; rfl, .cons ha h2⟩
theorem as_ref {H : Hp} : ∀ {as : List Addr} {rs : List (List Nat)}, Paired (lstAt H) as rs → RefL H (fun _ => True) (as.map V.ref) rs
  | _, _, .nil => .nil
  | _, _, .cons ha t => .cons ⟨_, rfl, ha, trivial⟩ (as_ref t)
theorem RefL.app {H : Hp} {P : Addr → Prop} : ∀ {ws ws' : List V} {rs rs' : List (List Nat)}, RefL H P ws rs → RefL H P ws' rs' → RefL H P (ws ++ ws') (rs ++ rs')
  | _, _, _, _, .nil, h => h
  | _, _, _, _, .cons a t, h => .cons a (RefL.app t h)
theorem cutT_lo {G : Nat → Bool} {xs ys : List Bool} : ∀ {k : Nat}, k ≤ xs.length → cutT G (xs ++ ys) k = cutT G xs k
  | 0, _ => rfl
  | k + 1, h => by
    rw [cutT, cutT, cutT_lo (by omega), List.getElem?_append_left (by omega)]
theorem cutT_app (G : Nat → Bool) (xs ys : List Bool) : ∀ k, cutT G (xs ++ ys) (xs.length + k) = cutB G xs ++ cutT (fun i => G (xs.length + i)) ys k
  | 0 => by rw [Nat.add_zero, cutT_lo (Nat.le_refl _)]; simp [cutT, cutB]
  | k + 1 => by
    show cutT G (xs ++ ys) (xs.length + k + 1) = _
    rw [cutT, cutT, cutT_app G xs ys k, List.getElem?_append_right (by omega)]
    have e : xs.length + k - xs.length = k := by omega
    rw [e]
    split
    · rfl
    · rw [List.append_assoc]
theorem cutB_app (G : Nat → Bool) (xs ys : List Bool) : cutB G (xs ++ ys) = cutB G xs ++ cutB (fun i => G (xs.length + i)) ys := by
  have := cutT_app G xs ys ys.length
  unfold cutB at this ⊢
  rw [List.length_append]; exact this
theorem cutT_all {G : Nat → Bool} {xs : List Bool} : ∀ {k : Nat}, k ≤ xs.length → (∀ i, i < k → G i = false) → cutT G xs k = xs.take k
  | 0, _, _ => rfl
  | k + 1, h, g => by
    have hk : xs[k]? = some xs[k] := List.getElem?_eq_getElem (by omega)
    rw [cutT_st (g k (by omega)) hk, cutT_all (by omega) (fun i hi => g i (by omega)), List.take_add_one, hk]; rfl
theorem cutB_all {G : Nat → Bool} {xs : List Bool} (g : ∀ i, i < xs.length → G i = false) : cutB G xs = xs := by
  unfold cutB
  rw [cutT_all (Nat.le_refl _) g, List.take_length]
theorem cutT_congr {G G' : Nat → Bool} {xs : List Bool} : ∀ {k : Nat}, (∀ i, i < k → G i = G' i) → cutT G xs k = cutT G' xs k
  | 0, _ => rfl
  | k + 1, h => by rw [cutT, cutT, h k (by omega), cutT_congr fun i hi => h i (by omega)]
/-- a round of the words laid in, cut out -/
theorem cut_ins {p : Nat} {b2 bs : List Bool} {r : List Nat} (hp : p ≤ bs.length) (hr : ∀ x ∈ r, x < b2.length) : cutB (inR (r.map (p + ·))) (insW p b2 bs) = insW p (cutB (inR r) b2) bs := by
  have l : (bs.take p).length = p := by rw [List.length_take]; omega
  have lo : ∀ i, i < p → inR (r.map (p + ·)) i = false := fun i hi => decide_eq_false fun z => by
    obtain ⟨x, _, e⟩ := List.mem_map.mp z
    have : p + x = i := e
    omega
  have hi : ∀ i, inR (r.map (p + ·)) (p + (b2.length + i)) = false := fun i => decide_eq_false fun z => by
    obtain ⟨x, hx, e⟩ := List.mem_map.mp z
    have e' : p + x = p + (b2.length + i) := e
    have := hr x hx
    omega
  unfold insW
  rw [cutB_app, l, cutB_all (by rw [l]; exact lo), cutB_app, cutB_all (xs := bs.drop p) (fun i _ => hi i)]
  congr 2
  unfold cutB
  refine cutT_congr fun i _ => ?_
  unfold inR
  exact decide_eq_decide.mpr ⟨fun z => by obtain ⟨x, hx, e⟩ := List.mem_map.mp z; have e' : p + x = p + i := e; have : x = i := by omega
                                          subst this; exact hx, fun z => List.mem_map.mpr ⟨i, z, rfl⟩⟩
theorem cut_less {b2 : List Bool} {r : List Nat} (hr : ∀ x ∈ r, x < b2.length) (ne : r ≠ []) : (cutB (inR r) b2).length < b2.length := by
  rw [cutB_len]
  cases r with
  | nil => exact absurd rfl ne
  | cons x r =>
    have hx := hr x (by simp)
    have g : inR (x :: r) x = true := decide_eq_true (by simp)
    have step : ∀ k, x < k → rk (inR (x :: r)) k < k := by
      intro k
      induction k with
      | zero => intro h; omega
      | succ k ih =>
        intro h
        have := rk_le (inR (x :: r)) k
        by_cases c : x = k
        · subst c; rw [rk_go g]; omega
        · have := ih (by omega)
          cases g2 : inR (x :: r) k with
          | true => rw [rk_go g2]; omega
          | false => rw [rk_st g2]; omega
    exact step _ hx
theorem hd_map {f : Nat → Nat} {r : List Nat} (ne : r ≠ []) : hd0 (r.map f) = f (hd0 r) := by
  cases r with
  | nil => exact absurd rfl ne
  | cons x r => rfl
theorem hd_mem {r : List Nat} (ne : r ≠ []) : hd0 r ∈ r := by
  cases r with
  | nil => exact absurd rfl ne
  | cons x r => simp [hd0]
/-- the rounds of the words laid in, by their first ends -/
theorem inner_round {p : Nat} {bs cs b2 c2 : List Bool} (T : TwoW bs cs) (T2 : TwoW b2 c2) (hp : p ≤ bs.length) (h40 : bs.length + b2.length ≤ 40) {r : List Nat} (hr : r ∈ rsW (insW p b2 bs) (insW p c2 cs)) (h1 : p ≤ hd0 r) (h2 : hd0 r < p + b2.length) : ∃ r2 ∈ rsW b2 c2, r = r2.map (p + ·) := by
  have L := lay_words T T2 hp h40
  have X := (rsF_rin (mtF_prt T.bal) (show Prt bs.length (mtF cs) by have := mtF_prt T.balR; rw [T.eq] at this; exact this) T.len bs.length (Nat.le_refl _)).1.rn
  rcases List.mem_append.mp (L.2.mem_iff.mp hr) with h | h
  · obtain ⟨s, hs, rfl⟩ := List.mem_map.mp h
    rw [hd_map (X.ne s hs)] at h1 h2
    unfold sh at h1 h2
    split at h1 <;> split at h2 <;> omega
  · obtain ⟨s, hs, rfl⟩ := List.mem_map.mp h
    exact ⟨s, hs, rfl⟩
theorem inner_ex {p : Nat} {bs cs b2 c2 : List Bool} (T : TwoW bs cs) (T2 : TwoW b2 c2) (hp : p ≤ bs.length) (h40 : bs.length + b2.length ≤ 40) (h0 : 0 < b2.length) : ∃ r ∈ rsW (insW p b2 bs) (insW p c2 cs), p ≤ hd0 r ∧ hd0 r < p + b2.length := by
  have L := lay_words T T2 hp h40
  have I := (rsF_rin (mtF_prt T2.bal) (show Prt b2.length (mtF c2) by have := mtF_prt T2.balR; rw [T2.eq] at this; exact this) T2.len b2.length (Nat.le_refl _)).1
  obtain ⟨r, hr, _⟩ := I.upto 0 h0
  refine ⟨r.map (p + ·), L.2.mem_iff.mpr (List.mem_append_right _ (List.mem_map.mpr ⟨r, hr, rfl⟩)), ?_⟩
  rw [hd_map (I.rn.ne r hr)]
  have := (I.rn.inn r hr _ (hd_mem (I.rn.ne r hr))).1
  exact ⟨by show p ≤ p + hd0 r; omega, by show p + hd0 r < p + b2.length; omega⟩
def selG (rs : List (List Nat)) (p q i : Nat) : Bool := decide (p ≤ hd0 (rs.getD i [])) && decide (hd0 (rs.getD i []) < q)
end Rm

set_option Elab.async false
set_option linter.all false
set_option maxRecDepth 100000
set_option maxHeartbeats 4000000
namespace Rm
open PySem L2 PyProof.Rows
def top (i : Nat) : Stmt := PySem.Challenge.pw_ringmaze_k26_laid_in.main.body.getD i (.Pass ⟨0, 0, 0, 0⟩)
abbrev s_is_whole : Stmt := top 13
theorem sc_is_whole : FnScope ["thing"] ["thing"] (defScope s_is_whole) := ⟨rfl, rfl, rfl, by decide +kernel, rfl, by decide +kernel, by decide +kernel⟩
-- slots: 0 thing
abbrev s_is_word : Stmt := top 17
theorem sc_is_word : FnScope ["thing", "waiting", "sign"] ["thing"] (defScope s_is_word) := ⟨rfl, rfl, rfl, by decide +kernel, rfl, by decide +kernel, by decide +kernel⟩
-- slots: 0 thing, 1 waiting, 2 sign
abbrev s_pairs : Stmt := top 18
theorem sc_pairs : FnScope ["word", "waiting", "bows", "end", "sign"] ["word"] (defScope s_pairs) := ⟨rfl, rfl, rfl, by decide +kernel, rfl, by decide +kernel, by decide +kernel⟩
-- slots: 0 word, 1 waiting, 2 bows, 3 end, 4 sign
abbrev s_vet_words : Stmt := top 20
theorem sc_vet_words : FnScope ["left", "right"] ["left", "right"] (defScope s_vet_words) := ⟨rfl, rfl, rfl, by decide +kernel, rfl, by decide +kernel, by decide +kernel⟩
-- slots: 0 left, 1 right
abbrev s_partners : Stmt := top 21
theorem sc_partners : FnScope ["word", "told", "a", "b"] ["word"] (defScope s_partners) := ⟨rfl, rfl, rfl, by decide +kernel, rfl, by decide +kernel, by decide +kernel⟩
-- slots: 0 word, 1 told, 2 a, 3 b
abbrev s_round_from : Stmt := top 22
theorem sc_round_from : FnScope ["end", "lefts", "rights", "told", "here", "across"] ["end", "lefts", "rights"] (defScope s_round_from) := ⟨rfl, rfl, rfl, by decide +kernel, rfl, by decide +kernel, by decide +kernel⟩
-- slots: 0 end, 1 lefts, 2 rights, 3 told, 4 here, 5 across
abbrev s_rounds : Stmt := top 23
theorem sc_rounds : FnScope ["left", "right", "lefts", "rights", "told", "met", "end", "ends", "one"] ["left", "right"] (defScope s_rounds) := ⟨rfl, rfl, rfl, by decide +kernel, rfl, by decide +kernel, by decide +kernel⟩
-- slots: 0 left, 1 right, 2 lefts, 3 rights, 4 told, 5 met, 6 end, 7 ends, 8 one
abbrev s_is_below : Stmt := top 14
theorem sc_is_below : FnScope ["thing", "bound"] ["thing", "bound"] (defScope s_is_below) := ⟨rfl, rfl, rfl, by decide +kernel, rfl, by decide +kernel, by decide +kernel⟩
-- slots: 0 thing, 1 bound
abbrev s_without : Stmt := top 25
theorem sc_without : FnScope ["word", "ends"] ["word", "ends"] (defScope s_without) := ⟨rfl, rfl, rfl, by decide +kernel, rfl, by decide +kernel, by decide +kernel⟩
-- slots: 0 word, 1 ends
abbrev s_cut_out : Stmt := top 26
theorem sc_cut_out : FnScope ["left", "right", "number", "told", "ends"] ["left", "right", "number"] (defScope s_cut_out) := ⟨rfl, rfl, rfl, by decide +kernel, rfl, by decide +kernel, by decide +kernel⟩
-- slots: 0 left, 1 right, 2 number, 3 told, 4 ends
abbrev s_put_in : Stmt := top 27
theorem sc_put_in : FnScope ["word", "place", "other"] ["word", "place", "other"] (defScope s_put_in) := ⟨rfl, rfl, rfl, by decide +kernel, rfl, by decide +kernel, by decide +kernel⟩
-- slots: 0 word, 1 place, 2 other
abbrev s_laid_in : Stmt := top 28
theorem sc_laid_in : FnScope ["left", "right", "place", "other_left", "other_right"] ["left", "right", "place", "other_left", "other_right"] (defScope s_laid_in) := ⟨rfl, rfl, rfl, by decide +kernel, rfl, by decide +kernel, by decide +kernel⟩
-- slots: 0 left, 1 right, 2 place, 3 other_left, 4 other_right
abbrev s_alone : Stmt := top 30
theorem sc_alone : FnScope ["_law_e", "_law_kinds"] ["_law_e"] (defScope s_alone) := ⟨rfl, rfl, rfl, by decide +kernel, rfl, by decide +kernel, by decide +kernel⟩
-- slots: 0 e, 1 kinds
abbrev s_cell_at : Stmt := top 31
theorem sc_cell_at : FnScope ["_law_script", "_law_k"] ["_law_script", "_law_k"] (defScope s_cell_at) := ⟨rfl, rfl, rfl, by decide +kernel, rfl, by decide +kernel, by decide +kernel⟩
-- slots: 0 script, 1 k
abbrev s_digits : Stmt := top 32
theorem sc_digits : FnScope ["_law_cell", "_law_many", "_law_rest", "_law_k", "_law_found"] ["_law_cell", "_law_many"] (defScope s_digits) := ⟨rfl, rfl, rfl, by decide +kernel, rfl, by decide +kernel, by decide +kernel⟩
-- slots: 0 cell, 1 many, 2 rest, 3 k, 4 found
abbrev s_word : Stmt := top 33
theorem sc_word : FnScope ["_law_cell", "_law_ends", "_law_digits_here", "_law_word_here", "_law_deep", "_law_k"] ["_law_cell", "_law_ends"] (defScope s_word) := ⟨rfl, rfl, rfl, by decide +kernel, rfl, by decide +kernel, by decide +kernel⟩
-- slots: 0 cell, 1 ends, 2 digits_here, 3 word_here, 4 deep, 5 k
abbrev s_across : Stmt := top 34
theorem sc_across : FnScope ["_law_word_here", "_law_found", "_law_waiting", "_law_k"] ["_law_word_here"] (defScope s_across) := ⟨rfl, rfl, rfl, by decide +kernel, rfl, by decide +kernel, by decide +kernel⟩
-- slots: 0 word_here, 1 found, 2 waiting, 3 k
abbrev s_rounds_l : Stmt := top 35
theorem sc_rounds_l : FnScope ["_law_left", "_law_right", "_law_by_left", "_law_by_right", "_law_gone", "_law_found", "_law_end", "_law_one", "_law_here"] ["_law_left", "_law_right"] (defScope s_rounds_l) := ⟨rfl, rfl, rfl, by decide +kernel, rfl, by decide +kernel, by decide +kernel⟩
-- slots: 0 left, 1 right, 2 by_left, 3 by_right, 4 gone, 5 found, 6 end, 7 one, 8 here
abbrev s_said : Stmt := top 36
theorem sc_said : FnScope ["_law_one", "_law_place", "_law_other"] ["_law_one", "_law_place", "_law_other"] (defScope s_said) := ⟨rfl, rfl, rfl, by decide +kernel, rfl, by decide +kernel, by decide +kernel⟩
-- slots: 0 one, 1 place, 2 other
abbrev s_by_any : Stmt := top 37
theorem sc_by_any : FnScope ["_law_one", "_law_place", "_law_other", "_law_e"] ["_law_one", "_law_place", "_law_other"] (defScope s_by_any) := ⟨rfl, rfl, rfl, by decide +kernel, rfl, by decide +kernel, by decide +kernel⟩
-- slots: 0 one, 1 place, 2 other, 3 e
abbrev s_moved : Stmt := top 38
theorem sc_moved : FnScope ["_law_ends", "_law_place", "_law_more"] ["_law_ends", "_law_place", "_law_more"] (defScope s_moved) := ⟨rfl, rfl, rfl, by decide +kernel, rfl, by decide +kernel, by decide +kernel⟩
-- slots: 0 ends, 1 place, 2 more
abbrev s_refused : Stmt := top 39
theorem sc_refused : FnScope ["_law_one", "_law_place", "_law_other", "_law_word_here"] ["_law_one", "_law_place", "_law_other", "_law_word_here"] (defScope s_refused) := ⟨rfl, rfl, rfl, by decide +kernel, rfl, by decide +kernel, by decide +kernel⟩
-- slots: 0 one, 1 place, 2 other, 3 word_here
abbrev s_law : Stmt := top 40
theorem sc_law : FnScope ["_law_script", "_law_ends", "_law_more", "_law_one", "_law_other", "_law_cell", "_law_odd", "_law_pair", "_law_place", "_law_found", "_law_due", "_law_every", "_law_behind", "_law_inner"] ["_law_script"] (defScope s_law) := ⟨rfl, rfl, rfl, by decide +kernel, rfl, by decide +kernel, by decide +kernel⟩
-- slots: 0 script, 1 ends, 2 more, 3 one, 4 other, 5 cell, 6 odd, 7 pair, 8 place, 9 found, 10 due, 11 every, 12 behind, 13 inner
structure Blt (mg : Str → Option Value) : Prop where
  len : mg "len" = none
  range : mg "range" = none
  int : mg "int" = none
  list : mg "list" = none
  tuple : mg "tuple" = none
  isinstance : mg "isinstance" = none
  str : mg "str" = none
  bool : mg "bool" = none
  sorted : mg "sorted" = none
  all : mg "all" = none
  enumerate : mg "enumerate" = none
  max : mg "max" = none
  min : mg "min" = none
  ValueError : mg "ValueError" = none
  MOST_SIGNS : ∃ t, mg "MOST_SIGNS" = some (.int 40 t)
local macro_rules | `(tactic| walk_at "wp") => `(tactic| (try dsimp (maxSteps := 3000000) only [L2.w_varS, L2.w_c, L2.w_op, L2.w_un, L2.w_aug, L2.w_K, L2.w_test, L2.w_tB, L2.w_and, L2.w_or, L2.w_not, L2.w_andV, L2.w_orV, L2.w_notV, L2.w_if, L2.w_seq, L2.w_next, L2.w_brk, L2.w_cont, L2.w_drop, L2.w_ret, L2.w_retN, L2.w_ifS, L2.w_asg, L2.w_gName, L2.w_set0, L2.w_setS, L2.w_nil, L2.w_cons, L2.w_cb, L2.w_tup, L2.w_lst, L2.w_call, L2.w_bm, L2.w_bm0, L2.w_chain, L2.w_chain3, L2.w_for1, L2.w_for2, L2.w_forL, L2.w_forT, L2.w_gTup, L2.w_forS, L2.w_forE, L2.w_compL, L2.w_compT, L2.w_comp1, L2.w_comp2, L2.w_noif, L2.w_init0, L2.w_initS, L2.w_initN, L2.w_get0, L2.w_getS, L2.w_gSub, L2.w_raise, L2.w_try, L2.w_try0, L2.w_sl, L2.w_part, L2.w_nopart, L2.w_dget, L2.w_dput, L2.w_dnewK, L2.w_din, L2.w_dnotin]); (try simp (maxSteps := 3000000) only [L2.w_var0, L2.w_varS, L2.w_c, L2.w_op, L2.w_un, L2.w_I0, L2.w_I, L2.w_U, L2.w_eqI, L2.w_neI, L2.w_eqS, L2.w_neS, L2.w_eqB, L2.w_neB, L2.w_exB, L2.w_exI, L2.w_exB2, L2.w_addS, L2.w_aug, L2.w_ip, if_true, if_false, Bool.false_eq_true, L2.w_K, L2.w_exR, L2.w_exR2, L2.w_ex1I, L2.w_ex1S, L2.w_ex1R, L2.w_ex2R, L2.w_ex2I, L2.w_int1, L2.w_ixS, L2.w_ixL, L2.w_ixT, L2.w_app, L2.w_pop, L2.w_test, L2.w_tB, L2.w_and, L2.w_or, L2.w_not, L2.w_andV, L2.w_orV, L2.w_notV, L2.w_if, L2.w_seq, L2.w_next, L2.w_brk, L2.w_cont, L2.w_drop, L2.w_ret, L2.w_retN, L2.w_ifS, L2.w_asg, L2.w_gName, L2.w_set0, L2.w_setS, L2.w_nil, L2.w_cons, L2.w_cb, L2.w_tup, L2.w_lst, L2.w_call, L2.w_bm, L2.w_bm0, L2.w_chain, L2.w_chain3, L2.w_for1, L2.w_for2, L2.w_forL, L2.w_forT, L2.w_gTup, L2.w_gNil, L2.w_gCons, List.append_nil, decide_eq_true_eq, Bool.not_eq_true', decide_eq_false_iff_not, L2.w_forS, L2.w_forE, L2.w_compL, L2.w_compT, L2.w_comp1, L2.w_comp2, L2.w_compH, L2.w_noif, L2.w_exS, L2.w_init0, L2.w_initS, L2.w_initN, L2.w_get0, L2.w_getS, L2.w_gSub, L2.w_raise, L2.w_try, L2.w_try0, L2.w_sl, L2.w_part, L2.w_nopart, L2.w_slS, L2.w_dget, L2.w_dget2, L2.w_dput, L2.w_dnewK, L2.w_din, L2.w_dnotin, L2.w_try2, L2.w_index, L2.w_compE]))
section
variable {P : Program} {w : World} {K : PySem.W.Frag} {mg : Str → Option Value} {base : Heap}
theorem ok_is_whole (B : Blt mg) (E : Fn K mg "is_whole" s_is_whole ["thing"]) : Def P w K mg base 1 "is_whole" s_is_whole ["thing"] (spWhole K) := E.mk' fun f fd F => by
  refine F.okS sc_is_whole (fun vs H Q E h => ?_) (fun cdv A outer s H vs Q E hr h => ?_)
  · obtain ⟨x, t, b, c, rfl, _⟩ := h
    rfl
  · obtain ⟨x, t, b, c, rfl, ty, e1, e2, q⟩ := h
    refine ⟨[some x], _, rfl, (L2.QSs.h (qpss_one (qps_ret (qpe_and (qpe_callB call_isi (by rfl) B.isinstance PyProof.Rows.boot_isinstance (qpa_Name (qpv 0) (qpa_Name (qpe_bltn (v := .ty "int") (by rfl) B.int PyProof.Rows.boot_int rfl) qpa_nil))) (qpe_one (qpe_not (qpe_callB call_isi (by rfl) B.isinstance PyProof.Rows.boot_isinstance (qpa_Name (qpv 0) (qpa_Name (qpe_bltn (v := .ty "bool") (by rfl) B.bool PyProof.Rows.boot_bool rfl) qpa_nil))))))))), ?_⟩
    walk_at "wp"
    refine ⟨_, _, _, b, rfl, ty, e1, ?_⟩
    walk_at "wp"
    cases b with
    | false => exact iteF q
    | true => exact iteT ⟨_, _, _, c, rfl, ty, e2, _, rfl, q⟩
theorem ok_is_word (B : Blt mg) (E : Fn K mg "is_word" s_is_word ["thing"]) : Def P w K mg base 1 "is_word" s_is_word ["thing"] (spIsWord K) := E.mk' fun f fd F => by
  refine F.okS sc_is_word (fun vs H Q E h => ?_) (fun cdv A outer s H vs Q E hr h => ?_)
  · obtain ⟨x, rfl, _⟩ := h
    rfl
  · obtain ⟨x, rfl, h⟩ := h
    refine ⟨[some x, none, none], _, rfl, (L2.QSs.h (qpss_cons (qps_if (QW.pt (qpw_or (qpt_not (qpt_val (qpe_callB call_isi (by rfl) B.isinstance PyProof.Rows.boot_isinstance (qpa_Name (qpv 0) (qpa_Name (qpe_bltn (v := .ty "str") (by rfl) B.str PyProof.Rows.boot_str rfl) qpa_nil))))) (qpw_or1 (qpt_cmpR op_gt (qpe_callB call_len_str (by rfl) B.len PySem.boot_len (qpa_Name (qpv 0) qpa_nil)) (qpe_globI (by rfl) B.MOST_SIGNS) (nomark _)))))
      (qpss_one (qps_ret qpe_bl))
      qpss_nil)
      (qpss_cons (qps_set (i := 1) sc_is_word.nd rfl (Or.inl rfl) qpe_int)
      (qpss_cons (qps_for PassesOwn.never rfl (qpi_str (qpv 0)) (qpg_name (i := 2) sc_is_word.nd rfl (Or.inl rfl))
      (qpss_cons (qps_if (qpt_cmpR op_eq (qpv 2) qpe_str (nomark _))
        (qpss_one (qps_aug (i := 1) sc_is_word.nd rfl (Or.inl rfl) qpe_int ip_add))
        (qpss_one (qps_if (qpt_cmpR op_eq (qpv 2) qpe_str (nomark _))
          (qpss_one (qps_aug (i := 1) sc_is_word.nd rfl (Or.inl rfl) qpe_int ip_sub))
          (qpss_one (qps_ret qpe_bl)))))
        (qpss_one (qps_if (qpt_cmpR op_lt (qpv 1) qpe_int (nomark _))
        (qpss_one (qps_ret qpe_bl))
        qpss_nil))))
      (qpss_one (qps_ret (qpe_cmpR op_eq (qpv 1) qpe_int (nomark _)))))))), ?_⟩
    walk_at "wp"
    rcases h with ⟨z, rfl, ha, hz, q⟩ | ⟨t, ty, e, q⟩
    rotate_left
    · exact ⟨x, "str", t, false, rfl, ty, e, by simpa using q⟩
    refine ⟨_, _, _, true, rfl, .str z, rfl, ?_⟩
    walk_at "wp"
    refine ⟨Nat.le_of_lt (small1000 hz), ite2 (fun h1 => ?_) (fun h1 => ?_)⟩
    · have e : isW z = false := by unfold isW; rw [decide_eq_false (by omega)]; rfl
      rw [e] at q
      exact q
    have e40 : isW z = scan z.cps.toList 0 := by unfold isW; rw [decide_eq_true (by omega)]; rfl
    rw [e40] at q
    refine ⟨ha, for_str (x := z) (fun i σ H2 => ∃ (wt : Int) (x2 : Option V), σ = [some (.str z), some (.int wt), x2] ∧ H2 = H ∧ 0 ≤ wt ∧ scan (z.cps.toList.drop i) wt = scan z.cps.toList 0) ⟨0, none, rfl, rfl, by decide, rfl⟩ ?_ ?_⟩
    · rintro i c σ H2 hc ⟨wt, x2, rfl, rfl, h0, hs⟩
      have hc' : z.cps.toList[i]? = some c := by simpa using hc
      obtain ⟨hi, _⟩ := List.getElem?_eq_some_iff.mp hc'
      have hd : z.cps.toList.drop i = c :: z.cps.toList.drop (i + 1) := by
        rw [List.drop_eq_getElem_cons hi]
        congr 1
      rw [hd] at hs
      walk_at "wp"
      simp only [code_open, code_close]
      refine ite2 (fun h1 => ?_) (fun h1 => ite2 (fun h2 => ?_) (fun h2 => ?_))
      · rw [scan, if_pos h1] at hs
        exact ite2 (fun h3 => absurd h3 (by omega)) (fun h3 => ⟨_, _, rfl, by trivial, by omega, hs⟩)
      · rw [scan, if_neg h1, if_pos h2] at hs
        refine ite2 (fun h3 => ?_) (fun h3 => ?_)
        · rw [if_pos h3] at hs
          rw [← hs] at q
          exact q
        · rw [if_neg h3] at hs
          exact ⟨_, _, rfl, by trivial, by omega, hs⟩
      · rw [scan, if_neg h1, if_neg h2] at hs
        rw [← hs] at q
        exact q
    · rintro σ H2 ⟨wt, x2, rfl, rfl, h0, hs⟩
      walk_at "wp"
      rw [List.drop_of_length_le (by simp)] at hs
      rw [← hs] at q
      exact q
theorem ok_pairs {c_NoWord : Addr} (O_NoWord : OwnCls "NoWord" c_NoWord [.type "ValueError", .type "Exception", .type "BaseException", .type "object"] "ValueError.__new__" mg base) (B : Blt mg) (E : Fn K mg "pairs" s_pairs ["word"]) (D_is_word : Def P w K mg base 1 "is_word" s_is_word ["thing"] (spIsWord K)) : DefX P w K mg base 2 "pairs" s_pairs ["word"] (spPairsX c_NoWord) := E.mkX fun f fd F => by
  refine F.okX sc_pairs (fun vs H Q E h => ?_) (fun cdv A outer s H vs Q E hr h => ?_)
  · obtain ⟨x, rfl, _⟩ := h
    rfl
  · obtain ⟨x, rfl, h⟩ := h
    refine ⟨[some x, none, none, none, none], _, rfl, (L2.QSs.h (qpss_cons (qps_if (qpt_nox (qpt_not (qpt_val (qpe_callD D_is_word (hr.mono (by decide)) (by rfl) (qpa_Name (qpv 0) qpa_nil)))))
      (qpss_one (qps_raise rais_def O_NoWord PySem.F.excBase_ValueError rfl (by rfl) (qpa_Constant qpe_str qpa_nil)))
      qpss_nil)
      (qpss_cons (qps_nox (qps_set (i := 1) sc_pairs.nd rfl (Or.inl rfl) (qpe_lst qpa_nil)))
      (qpss_cons (qps_nox (qps_set (i := 2) sc_pairs.nd rfl (Or.inl rfl) (qpe_lst qpa_nil)))
      (qpss_cons (qps_nox (qps_for PassesOwn.never rfl (qpi_enum (by rfl) B.enumerate (qpa_Name (qpv 0) qpa_nil)) (qpg_tup (n := 2) rfl (qpgs_cons (qpg_name (i := 3) sc_pairs.nd rfl (Or.inl rfl)) (qpgs_cons (qpg_name (i := 4) sc_pairs.nd rfl (Or.inl rfl)) qpgs_nil)))
      (qpss_one (qps_if (qpt_cmpR op_eq (qpv 4) qpe_str (nomark _))
        (qpss_one (qps_expr (qpe_bm PySem.F.plainAttrs_list PySem.F.slot_list_append PySem.F.type_list_append mt_append (qpv 1) (qpa_Name (qpv 3) qpa_nil))))
        (qpss_one (qps_expr (qpe_bm PySem.F.plainAttrs_list PySem.F.slot_list_append PySem.F.type_list_append mt_append (qpv 2) (qpa_Tuple (qpe_tup (qpa_Call (qpe_bm0 PySem.F.plainAttrs_list PySem.F.slot_list_pop PySem.F.type_list_pop mt_pop (qpv 1)) (qpa_Name (qpv 3) qpa_nil))) qpa_nil))))))))
      (qpss_one (qps_nox (qps_ret (qpe_callB call_sorted_bows (by rfl) B.sorted PyProof.Rows.boot_sorted (qpa_Name (qpv 2) qpa_nil)))))))))), ?_⟩
    rcases h with ⟨bs, ms, rfl, bal, hl, M, q⟩ | ⟨d, hd, ht, hw, qx⟩
    rotate_left
    · walk_at "wp"
      refine isWord_of hd ht ?_
      rw [hw]
      walk_at "wp"
      exact ⟨(by show 1 ≤ sizeLine; decide), qx⟩
    walk_at "wp"
    refine ⟨_, rfl, .inl ⟨_, rfl, wd_ascii bs, by rw [wd_length]; omega, ?_⟩⟩
    rw [isW_wd bal hl]
    walk_at "wp"
    refine ⟨Nat.zero_le _, fun wl hwl => ⟨Nat.zero_le _, fun bl hbl => ⟨wd_ascii bs, ?_⟩⟩⟩
    have s1 : Same H (upd H wl (.lst [])) := (Same.refl _).new hwl
    have nbl : H bl = none := s1.free hbl
    have nwb : wl ≠ bl := fun e => by subst e; rw [upd_same] at hbl; cases hbl
    refine for_enum (x := wd bs) (fun i σ H2 => ∃ (ws : List Nat) (bw : List (Nat × Nat)) (x3 x4 : Option V), σ = [some (.str (wd bs)), some (.ref wl), some (.ref bl), x3, x4] ∧ Same H H2 ∧ H2 wl = some (.lst (natV ws)) ∧ BowsAt H2 bl (msZ bw) ∧ Stk bs i ws bw)
      ⟨[], [], none, none, rfl, s1.new nbl, by rw [upd_ne nwb, upd_same]; rfl, ⟨[], upd_same, .nil⟩, Stk.start bs⟩ ?_ ?_
    · rintro i c σ H2 p hc ⟨ws, bw, x3, x4, rfl, sm, hw, bo, S⟩ np
      obtain ⟨b, hb, rfl⟩ := wd_cps hc
      have hi := (List.getElem?_eq_some_iff.mp hb).1
      have hlen := S.len
      have nwp : wl ≠ p := ne_of_none hw np
      have nHp : H p = none := sm.free np
      have hw2 : ∀ o, (upd H2 p o) wl = some (.lst (natV ws)) := fun o => by rw [upd_ne nwp]; exact hw
      have sp := (Same.refl H2).new (o := .tup [.int i, .str ⟨#[cpB b]⟩]) np
      have bo2 := bo.same sp
      walk_at "wp"
      refine ⟨_, SqT.of upd_same, rfl, ?_⟩
      walk_at "wp"
      simp only [sign_open]
      refine ite2 (fun h1 => ?_) (fun h1 => ?_)
      · subst h1
        refine ⟨w_tyL (hw2 _), _, hw2 _, by rw [natV_len]; exact small1000 (by omega), ws ++ [i], bw, _, _, rfl, (sm.new nHp).new hwl, ?_, bows_upd bo2 (hw2 _) nwb.symm, S.opens hb⟩
        rw [upd_same, natV_snoc]
      · have hbf : b = false := by cases b; rfl; exact absurd rfl h1
        subst hbf
        obtain ⟨ws', k, rfl⟩ := S.has bal hb
        obtain ⟨as, b1, b2⟩ := bo2
        have hal : as.length = (msZ bw).length := Paired.length b2
        rw [msZ, List.length_map] at hal
        have hlen' := S.len
        simp only [List.length_append, List.length_singleton] at hlen'
        refine ⟨w_tyL b1, w_tyL (hw2 _), _, .int k, hw2 _, natV_last ws' k, (by show 2 ≤ sizeLine; decide), fun t nt => ?_⟩
        rw [natV_drop] at nt ⊢
        have bo3 := bows_upd (l := wl) (ys := natV ws') (show BowsAt _ bl (msZ bw) from ⟨as, b1, b2⟩) (hw2 _) nwb.symm
        obtain ⟨as3, c1, c2⟩ := id bo3
        have hal3 : as3.length = (msZ bw).length := Paired.length c2
        rw [msZ, List.length_map] at hal3
        have ntb : bl ≠ t := ne_of_none c1 nt
        have ntw : wl ≠ t := fun e => by subst e; rw [upd_same] at nt; cases nt
        have nHt : H t = none := by
          have z := ((sm.new (o := .tup [.int i, .str ⟨#[cpB false]⟩]) nHp).new (o := .lst (natV ws')) hwl).free nt
          exact z
        refine ⟨as3.map V.ref, by rw [upd_ne ntb]; exact c1, by rw [List.length_map]; exact small1000 (by omega), ws', bw ++ [(k, i)], _, _, rfl, (((sm.new nHp).new hwl).new nHt).new nbl, by rw [upd_ne nwb, upd_ne ntw, upd_same], ?_, S.closes hb⟩
        rw [msZ, List.map_append]
        exact bows_snoc c1 c2 nt
    · rintro σ H2 ⟨ws, bw, x3, x4, rfl, sm, hw, bo, S⟩
      rw [wd_size] at S
      walk_at "wp"
      obtain ⟨as, b1, b2⟩ := id bo
      have hlen := S.len
      have hbm : ∀ p ∈ msZ bw, 0 ≤ p.2 ∧ p.2 < 1000 := fun p hp => by
        obtain ⟨x, hx, rfl⟩ := List.mem_map.mp hp
        have := (S.mate x hx).2
        exact ⟨by simp, by simp only; omega⟩
      refine ⟨bl, as, msZ bw, rfl, SqL.of b1, b2, by rw [msZ, List.length_map]; omega, hbm, fun l' as' ps' nl' hP' hperm hsort => ?_⟩
      obtain ⟨ot, rfl, ho⟩ := msZ_perm hperm
      have e : ot = ms := S.sorted bal M ho (hsort.of_map _ fun a b z => by
        unfold leB at z
        simp only at z
        omega)
      subst e
      exact q l' _ (sm.free nl') (sm.new (sm.free nl')) (bows_copy (l := l') hP' nl')
theorem ok_vet_words {c_NoWord : Addr} (O_NoWord : OwnCls "NoWord" c_NoWord [.type "ValueError", .type "Exception", .type "BaseException", .type "object"] "ValueError.__new__" mg base) (B : Blt mg) (E : Fn K mg "vet_words" s_vet_words ["left", "right"]) (D_is_word : Def P w K mg base 1 "is_word" s_is_word ["thing"] (spIsWord K)) : DefX P w K mg base 2 "vet_words" s_vet_words ["left", "right"] (spVetW c_NoWord) := E.mkX fun f fd F => by
  refine F.okX sc_vet_words (fun vs H Q E h => ?_) (fun cdv A outer s H vs Q E hr h => ?_)
  · obtain ⟨x, y, d, e, rfl, _⟩ := h
    rfl
  · obtain ⟨x, y, d, e, rfl, hd, td, he, te, h⟩ := h
    refine ⟨[some x, some y], _, rfl, (L2.QSs.h (qpss_cons (qps_if (qpt_nox (QW.pt (qpw_or (qpt_not (qpt_val (qpe_callD D_is_word (hr.mono (by decide)) (by rfl) (qpa_Name (qpv 0) qpa_nil)))) (qpw_or1 (qpt_not (qpt_val (qpe_callD D_is_word (hr.mono (by decide)) (by rfl) (qpa_Name (qpv 1) qpa_nil))))))))
      (qpss_one (qps_raise rais_def O_NoWord PySem.F.excBase_ValueError rfl (by rfl) (qpa_Constant qpe_str qpa_nil)))
      qpss_nil)
      (qpss_cons (qps_if (qpt_nox (qpt_cmpR op_ne (qpe_callB call_len_str (by rfl) B.len PySem.boot_len (qpa_Name (qpv 0) qpa_nil)) (qpe_callB call_len_str (by rfl) B.len PySem.boot_len (qpa_Name (qpv 1) qpa_nil)) (nomark _)))
      (qpss_one (qps_raise rais_def O_NoWord PySem.F.excBase_ValueError rfl (by rfl) (qpa_Constant qpe_str qpa_nil)))
      qpss_nil)
      (qpss_one (qps_nox (qps_ret qpe_bl)))))), ?_⟩
    walk_at "wp"
    refine isWord_of hd td ?_
    walk_at "wp"
    cases h1 : isWordD d with
    | false =>
      have e1 : twoD d e = false := by unfold twoD; rw [h1]; rfl
      rcases h with ⟨z, _⟩ | ⟨_, q⟩
      · rw [e1] at z; cases z
      · exact ifY rfl ⟨(by show 1 ≤ sizeLine; decide), q⟩
    | true =>
    refine ifN (fun z => nomatch z) (isWord_of he te ?_)
    walk_at "wp"
    cases h2 : isWordD e with
    | false =>
      have e1 : twoD d e = false := by unfold twoD; rw [h1, h2]; rfl
      rcases h with ⟨z, _⟩ | ⟨_, q⟩
      · rw [e1] at z; cases z
      · exact ifY rfl ⟨(by show 1 ≤ sizeLine; decide), q⟩
    | true =>
    refine ifN (fun z => nomatch z) ?_
    obtain ⟨z1, rfl⟩ : ∃ z, d = .str z := by cases d <;> first | exact ⟨_, rfl⟩ | exact nomatch h1
    obtain ⟨z2, rfl⟩ : ∃ z, e = .str z := by cases e <;> first | exact ⟨_, rfl⟩ | exact nomatch h2
    cases hd
    cases he
    have l1 : z1.length ≤ sizeLine := Nat.le_of_lt (small1000 td.2)
    have l2 : z2.length ≤ sizeLine := Nat.le_of_lt (small1000 te.2)
    have et : twoD (.str z1) (.str z2) = decide (z1.length = z2.length) := by unfold twoD; rw [h1, h2]; rfl
    rw [et] at h
    walk_at "wp"
    refine ⟨l1, l2, ite2 (fun hn => ?_) (fun hn => ?_)⟩
    · rcases h with ⟨z, _⟩ | ⟨_, q⟩
      · exact absurd (of_decide_eq_true z) (by omega)
      · exact ⟨(by show 1 ≤ sizeLine; decide), q⟩
    · rcases h with ⟨_, q⟩ | ⟨z, _⟩
      · exact q
      · exact absurd (of_decide_eq_false z) (by omega)
theorem ok_partners {c_NoWord : Addr} (E : Fn K mg "partners" s_partners ["word"]) (D_pairs : DefX P w K mg base 2 "pairs" s_pairs ["word"] (spPairsX c_NoWord)) : Def P w K mg base 3 "partners" s_partners ["word"] spPartners := E.mk' fun f fd F => by
  refine F.okS sc_partners (fun vs H Q E h => ?_) (fun cdv A outer s H vs Q E hr h => ?_)
  · obtain ⟨bs, rfl, _⟩ := h
    rfl
  · obtain ⟨bs, rfl, bal, hl, q⟩ := h
    refine ⟨[some (.str (wd bs)), none, none, none], _, rfl, (L2.QSs.h (qpss_cons (qps_set (i := 1) sc_partners.nd rfl (Or.inl rfl) qpe_dnewK)
      (qpss_cons (qps_for PassesOwn.never rfl (qpi_list (qpe_callX D_pairs (hr.mono (by decide)) (by rfl) (qpa_Name (qpv 0) qpa_nil))) (qpg_tup (n := 2) rfl (qpgs_cons (qpg_name (i := 2) sc_partners.nd rfl (Or.inl rfl)) (qpgs_cons (qpg_name (i := 3) sc_partners.nd rfl (Or.inl rfl)) qpgs_nil)))
      (qpss_cons (qps_dput (hu_1 hr) (qpv 1) (qpv 2) (qpv 3) rfl)
        (qpss_one (qps_dput (hu_1 hr) (qpv 1) (qpv 3) (qpv 2) rfl))))
      (qpss_one (qps_ret (qpv 1)))))), ?_⟩
    obtain ⟨ms, M⟩ := mates_ex bal bs.length (Nat.le_refl _)
    have hml := M.count bal
    walk_at "wp"
    intro d nd
    have s0 := (Same.refl H).new (o := .dK []) nd
    refine ⟨_, rfl, .inl ⟨bs, ms, rfl, bal, hl, M, fun l H1 nl s1 bo => ?_⟩⟩
    have ndl : d ≠ l := fun e => by subst e; rw [upd_same] at nl; cases nl
    obtain ⟨as, b1, bl, bg⟩ := bo.get
    refine ⟨l, rfl, ⟨_, SqL.of b1⟩, ?_⟩
    refine for_list (xs := as.map V.ref) (fun i σ H2 => ∃ (kvs : KVs) (x2 x3 : Option V), σ = [some (.str (wd bs)), some (.ref d), x2, x3] ∧ Same H H2 ∧ H2 d = some (.dK kvs) ∧ (∀ b o, H1 b = some o → b ≠ d → H2 b = some o) ∧ kvs.length ≤ 2 * i ∧ ∀ p ∈ ms.take i, valV kvs (.inl (p.1 : Int)) = some (.int (p.2 : Nat)) ∧ valV kvs (.inl (p.2 : Int)) = some (.int (p.1 : Nat)))
      ⟨[], _, _, rfl, s0.trans s1, s1 _ _ upd_same, fun b o h _ => h, Nat.zero_le _, fun p hp => by simp at hp⟩ (fun i σ H2 _ ⟨_, _, _, _, _, _, kp, _⟩ => SqL.of (kp _ _ b1 ndl.symm)) ?_ ?_
    · rintro i x σ H2 hx ⟨kvs, x2, x3, rfl, sm, hd, kp, hk, hv⟩
      obtain ⟨t, p, rfl, hp, ht⟩ := bg i x hx
      obtain ⟨⟨a, b⟩, hm, rfl⟩ : ∃ q : Nat × Nat, ms[i]? = some q ∧ p = ((q.1 : Int), (q.2 : Int)) := by
        unfold msZ at hp
        rw [List.getElem?_map] at hp
        cases e : ms[i]? with
        | none => rw [e] at hp; cases hp
        | some q => rw [e] at hp; exact ⟨q, rfl, (Option.some.inj hp).symm⟩
      have hi : i < ms.length := (List.getElem?_eq_some_iff.mp hm).1
      have ntd : t ≠ d := fun z => by
        subst z
        have := s1 _ _ (L2.upd_same (H := H) (a := t) (o := .dK []))
        rw [ht] at this; cases this
      have l1 : kvs.length < sizeLine := small1000 (by omega)
      have hS2 := length_putK kvs (.inl (a : Int) : Key) (.int (b : Nat))
      have hS3 := length_putK (putK kvs (.inl (a : Int) : Key) (.int (b : Nat))) (.inl (b : Int) : Key) (.int (a : Nat))
      have l2 : (putK kvs (.inl (a : Int) : Key) (.int (b : Nat))).length < sizeLine := small1000 (by omega)
      have ht2 := kp _ _ ht ntd
      refine ⟨t, _, rfl, SqT.of ht2, rfl, ?_⟩
      walk_at "wp"
      refine ⟨_, DPut.k (k := .inl (a : Int)) hd l1, _, DPut.k (k := .inl (b : Int)) upd_same l2, _, _, _, rfl, (sm.new nd).new nd, upd_same, fun c o h hc => by rw [upd_ne hc, upd_ne hc]; exact kp c o h hc, by omega, fun p hp => ?_⟩
      have hab := (M.mate _ (List.mem_of_getElem? hm)).1
      have val : ∀ x y, Pr bs x y → (x = a ∨ x = b ∨ valV kvs (.inl (x : Int)) = some (.int (y : Nat))) → valV (putK (putK kvs (.inl (a : Int) : Key) (.int (b : Nat))) (.inl (b : Int) : Key) (.int (a : Nat))) (.inl (x : Int)) = some (.int (y : Nat)) := fun x y hxy hx => by
        rw [valV_put, valV_put]
        by_cases c1 : x = b
        · subst c1
          have e : a = y := (Pr.symm (.inl hab)).uniq hxy
          rw [if_pos rfl, e]
        · rw [if_neg (fun z => c1 (by cases z; rfl))]
          by_cases c2 : x = a
          · subst c2
            have e : b = y := Pr.uniq (.inl hab) hxy
            rw [if_pos rfl, e]
          · rw [if_neg (fun z => c2 (by cases z; rfl))]
            rcases hx with h | h | h
            · exact absurd h c2
            · exact absurd h c1
            · exact h
      rw [List.take_add_one, hm] at hp
      rcases List.mem_append.mp hp with hp | hp
      · have hmp := (M.mate _ (List.mem_of_mem_take hp)).1
        exact ⟨val _ _ (.inl hmp) (.inr (.inr (hv p hp).1)), val _ _ (.inr hmp) (.inr (.inr (hv p hp).2))⟩
      · have e : p = (a, b) := by simpa using hp
        subst e
        exact ⟨val _ _ (.inl hab) (.inl rfl), val _ _ (.inr hab) (.inr (.inl rfl))⟩
    · rintro σ H2 ⟨kvs, x2, x3, rfl, sm, hd, kp, hk, hv⟩
      rw [List.length_map, bl, msZ, List.length_map, List.take_length] at hv
      walk_at "wp"
      refine q d kvs H2 nd sm hd fun x hx => ?_
      rcases mtF_pr bal hx with hm | hm
      · obtain ⟨m, hmm⟩ := M.all x hx hm.op
        have e := (M.mate _ hmm).1.uniq hm
        have := (hv _ hmm).1
        rw [e] at this; exact this
      · have h1 := Nat.lt_trans hm.lt hm.ml
        obtain ⟨m, hmm⟩ := M.all _ h1 hm.op
        have e : m = x := (M.mate _ hmm).1.uniq hm
        have := (hv _ hmm).2
        rw [e] at this; exact this
theorem ok_round_from (E : Fn K mg "round_from" s_round_from ["end", "lefts", "rights"]) : Def P w K mg base 1 "round_from" s_round_from ["end", "lefts", "rights"] spRound := E.mk' fun f fd F => by
  refine F.okS sc_round_from (fun vs H Q E h => ?_) (fun cdv A outer s H vs Q E hr h => ?_)
  · obtain ⟨e, d1, d2, k1, k2, n, L, R, rfl, _⟩ := h
    rfl
  · obtain ⟨e, d1, d2, k1, k2, n, L, R, rfl, hd1, hd2, hL, hR, PL, PR, n40, he, q⟩ := h
    refine ⟨[some (.int e), some (.ref d1), some (.ref d2), none, none, none], _, rfl, (L2.QSs.h (qpss_cons (qps_set (i := 3) sc_round_from.nd rfl (Or.inl rfl) (qpe_lst qpa_nil))
      (qpss_cons (qps_set (i := 4) sc_round_from.nd rfl (Or.inl rfl) (qpv 0))
      (qpss_cons (qps_while PassesOwn.never (QW.pt (qpw_or (qpt_not (qpt_truth (qpv 3) (fun _ => rfl))) (qpw_or1 (qpt_cmpR op_ne (qpv 4) (qpv 0) (nomark _)))))
      (qpss_cons (qps_set (i := 5) sc_round_from.nd rfl (Or.inl rfl) (qpe_dget (hu_1 hr) (qpv 1) (qpv 4) (fun _ _ => rfl)))
        (qpss_cons (qps_expr (qpe_bm PySem.F.plainAttrs_list PySem.F.slot_list_append PySem.F.type_list_append mt_append (qpv 3) (qpa_Name (qpv 4) qpa_nil)))
        (qpss_cons (qps_expr (qpe_bm PySem.F.plainAttrs_list PySem.F.slot_list_append PySem.F.type_list_append mt_append (qpv 3) (qpa_Name (qpv 5) qpa_nil)))
        (qpss_one (qps_set (i := 4) sc_round_from.nd rfl (Or.inl rfl) (qpe_dget (hu_1 hr) (qpv 2) (qpv 5) (fun _ _ => rfl))))))))
      (qpss_one (qps_ret (qpv 3))))))), ?_⟩
    walk_at "wp"
    refine ⟨Nat.zero_le _, fun l nl => ?_⟩
    have nl1 : l ≠ d1 := (ne_of_none hd1 nl).symm
    have nl2 : l ≠ d2 := (ne_of_none hd2 nl).symm
    refine ⟨fun m σ H2 => ∃ (i : Nat) (x5 : Option V), σ = [some (.int e), some (.ref d1), some (.ref d2), some (.ref l), some (.int (itF L R e i : Nat)), x5] ∧ Same H H2 ∧ H2 l = some (.lst (natI (rdL L R e i))) ∧ Inj L R e i ∧ m = n - i, ⟨_, 0, _, rfl, (Same.refl H).new nl, upd_same, fun j k hj => by omega, rfl⟩, ?_⟩
    rintro m σ H2 ⟨i, x5, rfl, sm, hl, J, rfl⟩
    walk_at "wp"
    have hle := J.le PL PR he
    have lt := it_lt (R := R) PL PR he i
    have hrl : (rdL L R e i).length = 2 * i := rd_len i
    refine ⟨!(natI (rdL L R e i)).isEmpty, .inl ⟨_, SqL.of hl, rfl⟩, ite2 (fun h0 => ?_) (fun h0 => ite2 (fun hne => ?_) (fun hne => ?_))⟩
    rotate_left 2
    · have hi : 0 < i := by
        cases i with
        | zero => exact absurd rfl h0
        | succ i => omega
      have hc : itF L R e i = e := by omega
      exact q l _ H2 nl sm hl (rnd_of PL PR he J n40 hi hc)
    case' refine_1 => have hc : i = 0 ∨ itF L R e i ≠ e := .inl (by
      cases i with
      | zero => rfl
      | succ i => rw [rdL] at h0; simp [natI] at h0)
    case' refine_2 => have hc : i = 0 ∨ itF L R e i ≠ e := .inr (by omega)
    all_goals
      have J2 := J.next PL PR he hc
      have hle2 := J2.le PL PR he
      have g1 := DGet.k (k := .inl ((itF L R e i : Nat) : Int)) (sm _ _ hd1)
      rw [hL _ lt] at g1
      have g2 : ∀ o, DGet (upd (upd H2 l (.lst (natI (rdL L R e i) ++ [V.int (itF L R e i : Nat)]))) l o) d2 (.int (L (itF L R e i) : Nat)) (some (.int (R (L (itF L R e i)) : Nat))) := fun o => by
        have := DGet.k (k := .inl ((L (itF L R e i) : Nat) : Int)) (show (upd (upd H2 l (.lst (natI (rdL L R e i) ++ [V.int (itF L R e i : Nat)]))) l o) d2 = some (.dK k2) by rw [upd_ne nl2.symm, upd_ne nl2.symm]; exact sm _ _ hd2)
        rw [hR _ (PL.lt _ lt)] at this
        exact this
      refine ⟨_, fun _ _ z => z, _, g1, w_tyL hl, _, hl, small1000 (by simp [natI]; omega), w_tyL upd_same, _, upd_same, small1000 (by simp [natI]; omega), _, g2 _, n - (i + 1), by omega, i + 1, _, rfl, (sm.new nl).new nl, ?_, J2, rfl⟩
      rw [upd_same, rdL]
      simp [natI]
theorem ok_rounds {c_NoWord : Addr} (B : Blt mg) (E : Fn K mg "rounds" s_rounds ["left", "right"]) (D_vet_words : DefX P w K mg base 2 "vet_words" s_vet_words ["left", "right"] (spVetW c_NoWord)) (D_partners : Def P w K mg base 3 "partners" s_partners ["word"] spPartners) (D_round_from : Def P w K mg base 1 "round_from" s_round_from ["end", "lefts", "rights"] spRound) : DefX P w K mg base 4 "rounds" s_rounds ["left", "right"] (spRoundsY c_NoWord) := E.mkX fun f fd F => by
  refine F.okX sc_rounds (fun vs H Q E h => ?_) (fun cdv A outer s H vs Q E hr h => ?_)
  · obtain ⟨x, y, d, e, rfl, _⟩ := h
    rfl
  · obtain ⟨x, y, d, e, rfl, hd, td, he, te, h⟩ := h
    refine ⟨[some x, some y, none, none, none, none, none, none, none], _, rfl, (L2.QSs.h (qpss_cons (qps_expr (qpe_callXP D_vet_words (hr.mono (by decide)) (by rfl) (qpa_Name (qpv 0) (qpa_Name (qpv 1) qpa_nil))))
      (qpss_cons (qps_nox (qps_set (i := 2) sc_rounds.nd rfl (Or.inl rfl) (qpe_callD D_partners (hr.mono (by decide)) (by rfl) (qpa_Name (qpv 0) qpa_nil))))
      (qpss_cons (qps_nox (qps_set (i := 3) sc_rounds.nd rfl (Or.inl rfl) (qpe_callD D_partners (hr.mono (by decide)) (by rfl) (qpa_Name (qpv 1) qpa_nil))))
      (qpss_cons (qps_nox (qps_set (i := 4) sc_rounds.nd rfl (Or.inl rfl) (qpe_lst qpa_nil)))
      (qpss_cons (qps_nox (qps_set (i := 5) sc_rounds.nd rfl (Or.inl rfl) qpe_dnewK))
      (qpss_cons (qps_nox (qps_for PassesOwn.never rfl (qpi_range1 (by rfl) B.range (qpa_Call (qpe_callB call_len_str (by rfl) B.len PySem.boot_len (qpa_Name (qpv 0) qpa_nil)) qpa_nil)) (qpg_name (i := 6) sc_rounds.nd rfl (Or.inl rfl))
      (qpss_one (qps_if (qpt_dnotin (hu_1 hr) (qpv 6) (qpv 5))
        (qpss_cons (qps_set (i := 7) sc_rounds.nd rfl (Or.inl rfl) (qpe_callD D_round_from (hr.mono (by decide)) (by rfl) (qpa_Name (qpv 6) (qpa_Name (qpv 2) (qpa_Name (qpv 3) qpa_nil)))))
          (qpss_cons (qps_expr (qpe_bm PySem.F.plainAttrs_list PySem.F.slot_list_append PySem.F.type_list_append mt_append (qpv 4) (qpa_Name (qpv 7) qpa_nil)))
          (qpss_one (qps_for PassesOwn.never rfl (qpi_list (qpv 7)) (qpg_name (i := 8) sc_rounds.nd rfl (Or.inl rfl))
          (qpss_one (qps_dput (hu_1 hr) (qpv 5) (qpv 8) qpe_bl rfl))))))
        qpss_nil))))
      (qpss_one (qps_nox (qps_ret (qpv 4))))))))))), ?_⟩
    walk_at "wp"
    refine ⟨x, y, d, e, rfl, hd, td, he, te, ?_⟩
    rcases h with ⟨bs, cs, rfl, rfl, T, q⟩ | h
    rotate_left
    · exact .inr h
    refine .inl ⟨two_wd T.bal T.balR T.len T.eq, ?_⟩
    cases hd
    cases he
    have hz : (wd bs).length ≤ sizeLine := by rw [wd_length]; exact Nat.le_of_lt (small1000 (by have := T.len; omega))
    have hlen := T.len
    walk_at "wp"
    refine ⟨bs, rfl, T.bal, T.len, fun d1 k1 H1 n1 s1 h1 dc1 => ?_⟩
    refine ⟨cs, rfl, T.balR, by rw [T.eq]; exact T.len, fun d2 k2 H2 n2 s2 h2 dc2 => ?_⟩
    walk_at "wp"
    refine ⟨Nat.zero_le _, fun l nl m nm => ?_⟩
    have nlm : l ≠ m := fun z => by subst z; rw [upd_same] at nm; cases nm
    have PL := mtF_prt T.bal
    have PR := mtF_prt T.balR
    rw [T.eq] at dc2 PR
    have sHb : Same H H2 := s1.trans s2
    have nlb : H2 l = none := nl
    have nmb : H2 m = none := by rw [upd_ne nlm.symm] at nm; exact nm
    have sz : ∀ k : Nat, k ≤ 4000 → k < sizeLine := fun k hk => Nat.lt_of_le_of_lt hk (by decide)
    have en : ((wd bs).length : Int).toNat = bs.length := by rw [wd_length]; omega
    have hd1 := s2 _ _ h1
    refine ⟨hz, by omega, by rw [wd_length]; omega, ?_⟩
    rw [en]
    refine for_range (n := bs.length) (fun i σ H' => ∃ (ws : List V) (kvs : KVs) (x6 x7 x8 : Option V), σ = [some (.str (wd bs)), some (.str (wd cs)), some (.ref d1), some (.ref d2), some (.ref l), some (.ref m), x6, x7, x8] ∧ Same H2 H' ∧ H' l = some (.lst ws) ∧ H' m = some (.dK kvs) ∧ RefL H' (fun a => H2 a = none ∧ a ≠ l ∧ a ≠ m) ws (rsF (mtF bs) (mtF cs) i) ∧ kvs.length ≤ 80 * i ∧ RIn bs.length (mtF bs) (mtF cs) i (rsF (mtF bs) (mtF cs) i) (fun x => (valV kvs (.inl (x : Int))).isSome = true) ∧ ∀ r ∈ rsF (mtF bs) (mtF cs) i, r.length ≤ 80)
      ⟨[], [], _, _, _, rfl, ((Same.refl H2).new nlb).new nmb, by rw [upd_ne nlm, upd_same], upd_same, .nil, Nat.zero_le _, ?_, fun r hr => by cases hr⟩ ?_ ?_
    · have := RIn.start (n := bs.length) (L := mtF bs) (R := mtF cs)
      refine ⟨this.rn, fun x => Iff.intro (fun h => nomatch h) (fun h => ?_), fun x h => by omega, this.len⟩
      obtain ⟨r, hr, _⟩ := h
      cases hr
    · rintro i σ H' hi ⟨ws, kvs, x6, x7, x8, rfl, sm, hl, hm, rf, hk, RI, h80⟩
      have hrl := RI.len
      have hwl := rf.len
      walk_at "wp"
      rw [Int.zero_add]
      refine ⟨_, DGet.k (k := .inl (i : Int)) hm, ?_⟩
      walk_at "wp"
      by_cases hmi : (valV kvs (.inl (i : Int))).isSome = true
      · rw [hmi]
        have sk := rsF_skip ((RI.mt i).mp hmi)
        rw [sk]
        exact ifN (fun z => nomatch z) ⟨ws, kvs, _, _, _, rfl, sm, hl, hm, rf, by omega, RI.skip hmi, h80⟩
      · have hmf : (valV kvs (.inl (i : Int))).isSome = false := by cases e : (valV kvs (.inl (i : Int))).isSome <;> first | rfl | exact absurd e hmi
        rw [hmf]
        refine ifY rfl ⟨i, d1, d2, k1, k2, bs.length, mtF bs, mtF cs, rfl, sm _ _ hd1, sm _ _ h2, dc1, dc2, PL, PR, hlen, hi, fun r rl H3 nr s3 hr3 X => ?_⟩
        walk_at "wp"
        have nrl : r ≠ l := ne_of_none hl nr |>.symm
        have nrm : r ≠ m := ne_of_none hm nr |>.symm
        have RI2 := RI.add PL PR hmi X
        have ad := rsF_add (L := mtF bs) (R := mtF cs) (i := i) (fun z => hmi ((RI.mt i).mpr z))
        have eX := X.is
        rw [ad]
        have rf3 : RefL (upd H3 l (.lst (ws ++ [.ref r]))) (fun a => H2 a = none ∧ a ≠ l ∧ a ≠ m) (ws ++ [.ref r]) (rsF (mtF bs) (mtF cs) i ++ [rl]) := paired_snoc (rf.imp fun a o ⟨p1, p2, p3⟩ ha => ⟨by rw [upd_ne p2]; exact s3 _ _ ha, p1, p2, p3⟩) ⟨r, rfl, by rw [upd_ne nrl]; exact hr3, sm.free nr, nrl, nrm⟩
        refine ⟨w_tyL (s3 _ _ hl), _, s3 _ _ hl, sz _ (by omega), ⟨_, SqL.of (show upd H3 l (.lst (ws ++ [.ref r])) r = some (.lst (natI rl)) by rw [upd_ne nrl]; exact hr3)⟩, ?_⟩
        have hXl := X.len
        refine for_list (xs := natI rl) (fun j σ H4 => ∃ (kv4 : KVs) (x8 : Option V), σ = [some (.str (wd bs)), some (.str (wd cs)), some (.ref d1), some (.ref d2), some (.ref l), some (.ref m), some (.int i), some (.ref r), x8] ∧ Same H2 H4 ∧ H4 l = some (.lst (ws ++ [.ref r])) ∧ H4 r = some (.lst (natI rl)) ∧ RefL H4 (fun a => H2 a = none ∧ a ≠ l ∧ a ≠ m) (ws ++ [.ref r]) (rsF (mtF bs) (mtF cs) i ++ [rl]) ∧ H4 m = some (.dK kv4) ∧ kv4.length ≤ kvs.length + j ∧ ∀ x : Nat, ((valV kv4 (.inl (x : Int))).isSome = true ↔ ((valV kvs (.inl (x : Int))).isSome = true ∨ x ∈ rl.take j)))
          ⟨kvs, _, rfl, (sm.trans s3).new nlb, upd_same, by rw [upd_ne nrl]; exact hr3, rf3, by rw [upd_ne nlm.symm]; exact s3 _ _ hm, by omega, fun x => by simp⟩ (fun j σ H4 _ ⟨_, _, _, _, _, h, _⟩ => SqL.of h) ?_ ?_
        · rintro j x σ H4 hx ⟨kv4, x8, rfl, s4, hl4, hr4, rf4, hm4, hk4, hv4⟩
          unfold natI at hx
          obtain ⟨y, hy, rfl⟩ := got_map hx
          have hj : j < rl.length := (List.getElem?_eq_some_iff.mp hy).1
          have hS := length_putK kv4 (.inl (y : Int) : Key) (.bl true)
          walk_at "wp"
          refine ⟨_, DPut.k (k := .inl (y : Int)) hm4 (sz _ (by omega)), _, _, rfl, s4.new nmb, by rw [upd_ne nlm]; exact hl4, by rw [upd_ne nrm]; exact hr4, rf4.imp (fun a o ⟨p1, p2, p3⟩ ha => ⟨by rw [upd_ne p3]; exact ha, p1, p2, p3⟩), upd_same, by omega, fun x => ?_⟩
          rw [valV_put, List.take_add_one, hy, List.mem_append]
          by_cases c : x = y
          · subst c
            rw [if_pos rfl]
            simp
          · rw [if_neg (fun z => c (by cases z; rfl)), hv4 x]
            simp [c]
        · rintro σ H4 ⟨kv4, x8, rfl, s4, hl4, hr4, rf4, hm4, hk4, hv4⟩
          have enl : (natI rl).length = rl.length := by simp [natI]
          rw [enl] at hk4 hv4
          rw [List.take_length] at hv4
          rw [← eX]
          refine ⟨_, kv4, _, _, _, rfl, s4, hl4, hm4, rf4, by omega, ⟨RI2.rn, fun x => ?_, fun x hx => ?_, RI2.len⟩, fun q hq => ?_⟩
          · rw [hv4 x]; exact RI2.mt x
          · rw [hv4 x]; exact RI2.upto x hx
          · rcases List.mem_append.mp hq with z | z
            · exact h80 q z
            · rw [List.mem_singleton] at z; subst z; exact hXl
    · rintro σ H' ⟨ws, kvs, x6, x7, x8, rfl, sm, hl, hm, rf, hk, RI, h80⟩
      walk_at "wp"
      exact q l ws H' (sHb.free nlb) (sHb.trans sm) hl (rf.imp fun a o ⟨p1, p2, p3⟩ ha => ⟨ha, sHb.free p1, p2⟩) (Nat.le_trans RI.len hlen) h80
theorem ok_is_below (E : Fn K mg "is_below" s_is_below ["thing", "bound"]) (D_is_whole : Def P w K mg base 1 "is_whole" s_is_whole ["thing"] (spWhole K)) : Def P w K mg base 2 "is_below" s_is_below ["thing", "bound"] spBelow := E.mk' fun f fd F => by
  refine F.okS sc_is_below (fun vs H Q E h => ?_) (fun cdv A outer s H vs Q E hr h => ?_)
  · obtain ⟨v, d, n, rfl, _⟩ := h
    rfl
  · obtain ⟨v, d, n, rfl, hd, q⟩ := h
    refine ⟨[some v, some (.int n)], _, rfl, (L2.QSs.h (qpss_one (qps_ret (qpe_and (qpe_callD D_is_whole (hr.mono (by decide)) (by rfl) (qpa_Name (qpv 0) qpa_nil)) (qpe_one (qpe_chain op_le op_lt qpe_int (qpv 0) (qpv 1))))))), ?_⟩
    walk_at "wp"
    refine whole_of hd ?_
    unfold belD at q
    walk_at "wp"
    cases hw : wholeD d with
    | false =>
      rw [hw] at q
      exact iteF q
    | true =>
      rw [hw] at q
      have ed := wholeD_int hw
      generalize intOf d = z at ed q
      subst ed
      cases hd
      refine iteT ?_
      walk_at "wp"
      by_cases h0 : 0 ≤ z
      · rw [if_pos h0]
        rw [decide_eq_true h0] at q
        exact q
      · rw [if_neg h0]
        rw [decide_eq_false h0] at q
        exact q
theorem ok_without (B : Blt mg) (E : Fn K mg "without" s_without ["word", "ends"]) : Def P w K mg base 1 "without" s_without ["word", "ends"] spWithout := E.mk' fun f fd F => by
  refine F.okS sc_without (fun vs H Q E h => ?_) (fun cdv A outer s H vs Q E hr h => ?_)
  · obtain ⟨bs, l, r, rfl, _⟩ := h
    rfl
  · obtain ⟨bs, l, r, rfl, hl, hg, h80, q⟩ := h
    refine ⟨[some (.str (wd bs)), some (.ref l)], _, rfl, (L2.QSs.h (qpss_one (qps_ret (qpe_bm PySem.F.plainAttrs_str PySem.F.slot_str_join PySem.F.type_str_join mt_join qpe_str (qpa_ListComp (qpe_comp (own := ["end", "sign"]) (ns := ["ends"]) (caps := [1]) rfl ⟨rfl, by decide +kernel, by decide +kernel, by decide +kernel⟩ (.cons rfl rfl (.inl rfl) .nil) (qpi_enum (by rfl) B.enumerate (qpa_Name (qpv 0) qpa_nil)) (fun C s H fp pn => (qpg_tup' (K := K) (n := 2) rfl rfl (qpgs_cons (qpg_name (i := 0) (show List.Nodup ((["end", "sign"] : List Str) ++ (["ends"] : List Str)) by decide +kernel) rfl (Or.inl rfl)) (qpgs_cons (qpg_name (i := 1) (show List.Nodup ((["end", "sign"] : List Str) ++ (["ends"] : List Str)) by decide +kernel) rfl (Or.inl rfl)) qpgs_nil)))) (fun C s H fp pn => (qpf_one (qpt_cmpR (op_notInD' (K := K) rfl (hu_64 hr)) (qpv 0) (qpv 2) (by with_unfolding_all rfl)))) (fun C s H fp pn => (qpv 1))) qpa_nil))))), ?_⟩
    walk_at "wp"
    refine ⟨rfl, wd_ascii bs, comp_enum (fun i ys σ H' => i ≤ bs.length ∧ ys = ((cutT (inR r) bs i).map sgn).map V.str ∧ Same H H' ∧ ∃ x0 x1, σ = [x0, x1, some (.ref l)]) ⟨Nat.zero_le _, rfl, Same.refl _, _, _, rfl⟩ (fun i ys σ H' h => by rw [h.2.1, List.length_map, List.length_map]; exact cutT_le h.1) (by show (wd bs).length ≤ sizeLine; rw [wd_length]; exact Nat.le_of_lt (small1000 (by omega))) ?_ ?_⟩
    · rintro i c ys σ H' p N hc ⟨hi, rfl, sm, x0, x1, rfl⟩ np hN
      have hi' : i < bs.length := by have := (Array.getElem?_eq_some_iff.mp hc).1; have e : (wd bs).cps.size = bs.length := wd_length bs; omega
      obtain ⟨b, hb⟩ : ∃ b, bs[i]? = some b := ⟨bs[i], List.getElem?_eq_getElem hi'⟩
      have ec : c = cpB b := by have := wd_at hb; rw [← Array.getElem?_toList] at hc; exact Option.some.inj (hc.symm.trans this)
      subst ec
      have s2 := sm.new (o := .tup [.int i, .str ⟨#[cpB b]⟩]) (sm.free np)
      walk_at "wp"
      refine ⟨_, SqT.of upd_same, rfl, ?_⟩
      walk_at "wp"
      refine in_nats (s2 _ _ hg) ?_
      walk_at "wp"
      cases hr : inR r i with
      | true => exact ifN (fun z => nomatch z) (hN _ _ _ ⟨hi', (cutS_go hr).symm, s2, _, _, rfl⟩)
      | false => exact ifY rfl (hN _ _ _ ⟨hi', (cutS_st hr hb).symm, s2, _, _, rfl⟩)
    · rintro ys σ H' p ⟨hi, rfl, sm, x0, x1, rfl⟩ np
      have e : (wd bs).cps.size = bs.length := wd_length bs
      rw [e]
      have s2 := sm.new (o := .lst (((cutT (inR r) bs bs.length).map sgn).map V.str)) (sm.free np)
      refine ⟨_, p, _, rfl, rfl, SqL.of upd_same, join_ok (Nat.le_trans (cutT_le (Nat.le_refl _)) hl), ?_⟩
      rw [join_sgn]
      exact q _ s2
theorem ok_cut_out {c_NoWord c_NoBow : Addr} (O_NoBow : OwnCls "NoBow" c_NoBow [.type "ValueError", .type "Exception", .type "BaseException", .type "object"] "ValueError.__new__" mg base) (B : Blt mg) (E : Fn K mg "cut_out" s_cut_out ["left", "right", "number"]) (D_rounds : DefX P w K mg base 4 "rounds" s_rounds ["left", "right"] (spRoundsY c_NoWord)) (D_is_below : Def P w K mg base 2 "is_below" s_is_below ["thing", "bound"] spBelow) (D_without : Def P w K mg base 1 "without" s_without ["word", "ends"] spWithout) : DefX P w K mg base 5 "cut_out" s_cut_out ["left", "right", "number"] (spCut c_NoWord c_NoBow) := E.mkX fun f fd F => by
  refine F.okX sc_cut_out (fun vs H Q E h => ?_) (fun cdv A outer s H vs Q E hr h => ?_)
  · obtain ⟨x, y, n, d, e, k, rfl, _⟩ := h
    rfl
  · obtain ⟨x, y, n, d, e, k, rfl, hd, td, he, te, hk, h⟩ := h
    refine ⟨[some x, some y, some n, none, none], _, rfl, (L2.QSs.h (qpss_cons (qps_set (i := 3) sc_cut_out.nd rfl (Or.inl rfl) (qpe_callXP D_rounds (hr.mono (by decide)) (by rfl) (qpa_Name (qpv 0) (qpa_Name (qpv 1) qpa_nil))))
      (qpss_cons (qps_if (qpt_nox (qpt_not (qpt_val (qpe_callD D_is_below (hr.mono (by decide)) (by rfl) (qpa_Name (qpv 2) (qpa_Call (qpe_callB call_len_seq (by rfl) B.len PySem.boot_len (qpa_Name (qpv 3) qpa_nil)) qpa_nil))))))
      (qpss_one (qps_raise rais_def O_NoBow PySem.F.excBase_ValueError rfl (by rfl) (qpa_Constant qpe_str qpa_nil)))
      qpss_nil)
      (qpss_cons (qps_nox (qps_set (i := 4) sc_cut_out.nd rfl (Or.inl rfl) (qpe_ix ix_list (qpv 3) (qpv 2) (fun _ _ => rfl))))
      (qpss_one (qps_nox (qps_ret (qpe_tup (qpa_Call (qpe_callD D_without (hr.mono (by decide)) (by rfl) (qpa_Name (qpv 0) (qpa_Name (qpv 4) qpa_nil))) (qpa_Call (qpe_callD D_without (hr.mono (by decide)) (by rfl) (qpa_Name (qpv 1) (qpa_Name (qpv 4) qpa_nil))) qpa_nil)))))))))), ?_⟩
    walk_at "wp"
    rcases h with ⟨bs, cs, rfl, rfl, T, h⟩ | ⟨h2, q⟩
    · refine ⟨x, y, _, _, rfl, hd, td, he, te, .inl ⟨bs, cs, rfl, rfl, T, fun fl wf H5 nf s5 hf rf h40 h80 => ?_⟩⟩
      have wl : wf.length = (rsW bs cs).length := rf.len
      refine ⟨fl, wf, rfl, .inl (SqL.of hf), n, k, wf.length, rfl, hk.same s5, _, rfl, ?_⟩
      rw [wl]
      rcases h with ⟨i, r, rfl, hi, q⟩ | ⟨hb, q⟩
      · have il : i < (rsW bs cs).length := (List.getElem?_eq_some_iff.mp hi).1
        have eb : belD (.int i) (rsW bs cs).length = true := by
          show (true && (decide ((0 : Int) ≤ (i : Int)) && decide ((i : Int) < ((rsW bs cs).length : Nat)))) = true
          rw [decide_eq_true (by omega), decide_eq_true (by omega)]; rfl
        rw [eb, if_neg (fun z => nomatch z)]
        cases hk
        cases hd
        cases he
        have hv : wf[i]? = some (wf[i]'(by omega)) := List.getElem?_eq_getElem _
        obtain ⟨r', hr', a, ea, ha, _, _⟩ := L2.paired_get rf hv
        have er : r' = r := Option.some.inj (hr'.symm.trans hi)
        subst er
        have hm := h80 r' (List.mem_of_getElem? hi)
        rw [ea] at hv
        refine ⟨fl, wf, (i : Int), .ref a, rfl, rfl, SqL.of hf, atI_nat hv, bs, a, r', rfl, T.len, ha, hm, fun H6 s6 => ⟨cs, a, r', rfl, by have := T.len; have := T.eq; omega, s6 _ _ ha, hm, fun H7 s7 => ⟨(by show 2 ≤ sizeLine; decide), fun p np => ?_⟩⟩⟩
        have s57 := s5.trans (s6.trans s7)
        exact q p _ (s57.free np) (s57.new (s57.free np)) upd_same
      · rw [hb, if_pos rfl]
        exact ⟨(by show 1 ≤ sizeLine; decide), q _ s5⟩
    · exact ⟨x, y, d, e, rfl, hd, td, he, te, .inr ⟨h2, q⟩⟩
theorem ok_put_in (E : Fn K mg "put_in" s_put_in ["word", "place", "other"]) : Def P w K mg base 1 "put_in" s_put_in ["word", "place", "other"] spPut := E.mk' fun f fd F => by
  refine F.okS sc_put_in (fun vs H Q E h => ?_) (fun cdv A outer s H vs Q E hr h => ?_)
  · obtain ⟨bs, b2, p, rfl, _⟩ := h
    rfl
  · obtain ⟨bs, b2, p, rfl, hp, h1, h2, q⟩ := h
    refine ⟨[some (.str (wd bs)), some (.int (p : Nat)), some (.str (wd b2))], _, rfl, (L2.QSs.h (qpss_one (qps_ret (qpe_op op_add_str (qpe_op op_add_str (qpe_slice sl_str (qpv 0) qpo_none (qpo_some (qpv 1))) (qpv 2)) (qpe_slice sl_str (qpv 0) (qpo_some (qpv 1)) qpo_none))))), ?_⟩
    walk_at "wp"
    rw [sl_to hp, sl_from hp, wd_app, wd_app]
    have l1 := wd_length bs
    have l2 := wd_length b2
    have l3 := wd_length (bs.take p)
    have l4 := wd_length (bs.take p ++ b2)
    have l5 := wd_length (bs.drop p)
    rw [List.length_take] at l3
    rw [List.length_append, List.length_take] at l4
    rw [List.length_drop] at l5
    refine ⟨Nat.le_of_lt (small1000 (by omega)), Nat.le_of_lt (small1000 (by omega)), Nat.le_of_lt (small1000 (by omega)), Nat.le_of_lt (small1000 (by omega)), ?_⟩
    rw [List.append_assoc]
    exact q
theorem ok_laid_in {c_NoWord c_NoBow : Addr} (O_NoWord : OwnCls "NoWord" c_NoWord [.type "ValueError", .type "Exception", .type "BaseException", .type "object"] "ValueError.__new__" mg base) (O_NoBow : OwnCls "NoBow" c_NoBow [.type "ValueError", .type "Exception", .type "BaseException", .type "object"] "ValueError.__new__" mg base) (B : Blt mg) (E : Fn K mg "laid_in" s_laid_in ["left", "right", "place", "other_left", "other_right"])
    (D_vet_words : DefX P w K mg base 2 "vet_words" s_vet_words ["left", "right"] (spVetW c_NoWord)) (D_is_below : Def P w K mg base 2 "is_below" s_is_below ["thing", "bound"] spBelow) (D_put_in : Def P w K mg base 1 "put_in" s_put_in ["word", "place", "other"] spPut) : DefX P w K mg base 3 "laid_in" s_laid_in ["left", "right", "place", "other_left", "other_right"] (spLaid c_NoWord c_NoBow) := E.mkX fun f fd F => by
  refine F.okX sc_laid_in (fun vs H Q E h => ?_) (fun cdv A outer s H vs Q E hr h => ?_)
  · obtain ⟨x, y, n, u, v, d, e, k, d2, e2, rfl, _⟩ := h
    rfl
  · obtain ⟨x, y, n, u, v, d, e, k, d2, e2, rfl, hd, td, he, te, hk, hu, tu, hv, tv, h⟩ := h
    refine ⟨[some x, some y, some n, some u, some v], _, rfl, (L2.QSs.h (qpss_cons (qps_expr (qpe_callXP D_vet_words (hr.mono (by decide)) (by rfl) (qpa_Name (qpv 0) (qpa_Name (qpv 1) qpa_nil))))
      (qpss_cons (qps_expr (qpe_callXP D_vet_words (hr.mono (by decide)) (by rfl) (qpa_Name (qpv 3) (qpa_Name (qpv 4) qpa_nil))))
      (qpss_cons (qps_if (qpt_nox (qpt_cmpR op_gt (qpe_op op_add (qpe_callB call_len_str (by rfl) B.len PySem.boot_len (qpa_Name (qpv 0) qpa_nil)) (qpe_callB call_len_str (by rfl) B.len PySem.boot_len (qpa_Name (qpv 3) qpa_nil))) (qpe_globI (by rfl) B.MOST_SIGNS) (nomark _)))
      (qpss_one (qps_raise rais_def O_NoWord PySem.F.excBase_ValueError rfl (by rfl) (qpa_Constant qpe_str qpa_nil)))
      qpss_nil)
      (qpss_cons (qps_if (qpt_nox (qpt_not (qpt_val (qpe_callD D_is_below (hr.mono (by decide)) (by rfl) (qpa_Name (qpv 2) (qpa_BinOp (qpe_op op_add (qpe_callB call_len_str (by rfl) B.len PySem.boot_len (qpa_Name (qpv 0) qpa_nil)) qpe_int) qpa_nil))))))
      (qpss_one (qps_raise rais_def O_NoBow PySem.F.excBase_ValueError rfl (by rfl) (qpa_Constant qpe_str qpa_nil)))
      qpss_nil)
      (qpss_one (qps_nox (qps_ret (qpe_tup (qpa_Call (qpe_callD D_put_in (hr.mono (by decide)) (by rfl) (qpa_Name (qpv 0) (qpa_Name (qpv 2) (qpa_Name (qpv 3) qpa_nil)))) (qpa_Call (qpe_callD D_put_in (hr.mono (by decide)) (by rfl) (qpa_Name (qpv 1) (qpa_Name (qpv 2) (qpa_Name (qpv 4) qpa_nil)))) qpa_nil))))))))))), ?_⟩
    walk_at "wp"
    have words : ∀ {bs cs b2 c2 : List Bool}, d = wdD bs → e = wdD cs → TwoW bs cs → d2 = wdD b2 → e2 = wdD c2 → TwoW b2 c2 → x = .str (wd bs) ∧ y = .str (wd cs) ∧ u = .str (wd b2) ∧ v = .str (wd c2) ∧ twoD d e = true ∧ twoD d2 e2 = true := fun {bs cs b2 c2} e1 e2 T e3 e4 T2 => by
      subst e1 e2 e3 e4
      cases hd
      cases he
      cases hu
      cases hv
      exact ⟨rfl, rfl, rfl, rfl, two_wd T.bal T.balR T.len T.eq, two_wd T2.bal T2.balR T2.len T2.eq⟩
    have lw : ∀ es : List Bool, es.length ≤ 40 → (wd es).length ≤ sizeLine := fun es h => by rw [wd_length]; exact Nat.le_of_lt (small1000 (by omega))
    rcases h with ⟨bs, cs, b2, c2, p, w1, w2, T, w3, w4, T2, h40, rfl, hp, q⟩ | ⟨b, hb, q⟩
    · obtain ⟨rfl, rfl, rfl, rfl, t1, t2⟩ := words w1 w2 T w3 w4 T2
      refine ⟨_, _, d, e, rfl, hd, td, he, te, .inl ⟨t1, _, _, d2, e2, rfl, hu, tu, hv, tv, .inl ⟨t2, _, rfl, lw _ T.len, _, rfl, lw _ T2.len, ite2 (fun z => absurd z (by rw [wd_length, wd_length]; omega)) fun _ => ⟨_, rfl, lw _ T.len, n, .int p, bs.length + 1, by rw [wd_length]; rfl, hk, _, rfl, ?_⟩⟩⟩⟩
      have eb : belD (.int (p : Nat)) (bs.length + 1) = true := by
        show (true && (decide ((0 : Int) ≤ (p : Int)) && decide ((p : Int) < ((bs.length + 1 : Nat) : Int)))) = true
        rw [decide_eq_true (by omega), decide_eq_true (by omega)]; rfl
      rw [eb, if_neg (fun z => nomatch z)]
      cases hk
      have := T.eq; have := T.len; have := T2.eq; have := T2.len
      refine ⟨bs, b2, p, rfl, hp, T.len, T2.len, cs, c2, p, rfl, by omega, by omega, by omega, (by show 2 ≤ sizeLine; decide), fun t nt => ?_⟩
      exact q t _ nt ((Same.refl H).new nt) upd_same
    · cases b with
      | true =>
        rcases hb with h1 | h2 | ⟨bs, cs, b2, c2, w1, w2, T, w3, w4, T2, h40⟩
        · exact ⟨x, y, d, e, rfl, hd, td, he, te, .inr ⟨h1, q⟩⟩
        · cases h1 : twoD d e with
          | false => exact ⟨x, y, d, e, rfl, hd, td, he, te, .inr ⟨h1, q⟩⟩
          | true => exact ⟨x, y, d, e, rfl, hd, td, he, te, .inl ⟨h1, u, v, d2, e2, rfl, hu, tu, hv, tv, .inr ⟨h2, q⟩⟩⟩
        · obtain ⟨rfl, rfl, rfl, rfl, t1, t2⟩ := words w1 w2 T w3 w4 T2
          exact ⟨_, _, d, e, rfl, hd, td, he, te, .inl ⟨t1, _, _, d2, e2, rfl, hu, tu, hv, tv, .inl ⟨t2, _, rfl, lw _ T.len, _, rfl, lw _ T2.len, ite2 (fun _ => ⟨(by show 1 ≤ sizeLine; decide), q⟩) fun z => absurd (show (40 : Int) < ((wd bs).length : Int) + ((wd b2).length : Int) by rw [wd_length, wd_length]; omega) z⟩⟩⟩
      | false =>
        obtain ⟨bs, cs, b2, c2, w1, w2, T, w3, w4, T2, h40, hb⟩ := hb
        obtain ⟨rfl, rfl, rfl, rfl, t1, t2⟩ := words w1 w2 T w3 w4 T2
        refine ⟨_, _, d, e, rfl, hd, td, he, te, .inl ⟨t1, _, _, d2, e2, rfl, hu, tu, hv, tv, .inl ⟨t2, _, rfl, lw _ T.len, _, rfl, lw _ T2.len, ite2 (fun z => absurd z (by rw [wd_length, wd_length]; omega)) fun _ => ⟨_, rfl, lw _ T.len, n, k, bs.length + 1, by rw [wd_length]; rfl, hk, _, rfl, ?_⟩⟩⟩⟩
        rw [hb, if_pos rfl]
        exact ⟨(by show 1 ≤ sizeLine; decide), q⟩
theorem ok_alone {c_NoMaze c_Crossed c_NoWord c_NoDrawing c_NoBow c_NoRound c_NoCode c_NoNumber c_NoName c_NoRow : Addr} (B : Blt mg) (C_NoMaze : mg "NoMaze" = some (.ref c_NoMaze)) (C_Crossed : mg "Crossed" = some (.ref c_Crossed)) (C_NoWord : mg "NoWord" = some (.ref c_NoWord)) (C_NoDrawing : mg "NoDrawing" = some (.ref c_NoDrawing)) (C_NoBow : mg "NoBow" = some (.ref c_NoBow))
    (C_NoRound : mg "NoRound" = some (.ref c_NoRound)) (C_NoCode : mg "NoCode" = some (.ref c_NoCode)) (C_NoNumber : mg "NoNumber" = some (.ref c_NoNumber)) (C_NoName : mg "NoName" = some (.ref c_NoName)) (C_NoRow : mg "NoRow" = some (.ref c_NoRow))
    (E : Fn K mg "_law_alone" s_alone ["_law_e"]) : DefH P w K mg base 1 "_law_alone" s_alone ["_law_e"] (spAlone K [c_NoMaze, c_Crossed, c_NoWord, c_NoDrawing, c_NoBow, c_NoRound, c_NoCode, c_NoNumber, c_NoName, c_NoRow]) := E.mkH fun f fd F a => by
  refine F.okH sc_alone (fun vs H Q E h => ?_) (fun cdv A outer s H vs Q E hr h => ?_)
  · obtain ⟨C, due, rfl, _⟩ := h
    rfl
  · obtain ⟨C, due, rfl, hx, J, hdue, q⟩ := h
    refine ⟨[some (.ref a), none], _, rfl, (L2.QSs.h (qpss_cons (qps_set (i := 1) sc_alone.nd rfl (Or.inl rfl) (qpe_lst (qpa_Call (qpe_callB (call_isiE' (K := K) rfl) (by rfl) B.isinstance PyProof.Rows.boot_isinstance (qpa_Name (qpv 0) (qpa_Name (qpe_globC (by rfl) C_NoMaze) qpa_nil))) (qpa_Call (qpe_callB (call_isiE' (K := K) rfl) (by rfl) B.isinstance PyProof.Rows.boot_isinstance (qpa_Name (qpv 0) (qpa_Name (qpe_globC (by rfl) C_Crossed) qpa_nil))) (qpa_Call (qpe_callB (call_isiE' (K := K) rfl) (by rfl) B.isinstance PyProof.Rows.boot_isinstance (qpa_Name (qpv 0) (qpa_Name (qpe_globC (by rfl) C_NoWord) qpa_nil))) (qpa_Call (qpe_callB (call_isiE' (K := K) rfl) (by rfl) B.isinstance PyProof.Rows.boot_isinstance (qpa_Name (qpv 0) (qpa_Name (qpe_globC (by rfl) C_NoDrawing) qpa_nil))) qpa_nil))))))
      (qpss_cons (qps_set (i := 1) sc_alone.nd rfl (Or.inl rfl) (qpe_op op_cat (qpv 1) (qpe_lst (qpa_Call (qpe_callB (call_isiE' (K := K) rfl) (by rfl) B.isinstance PyProof.Rows.boot_isinstance (qpa_Name (qpv 0) (qpa_Name (qpe_globC (by rfl) C_NoBow) qpa_nil))) (qpa_Call (qpe_callB (call_isiE' (K := K) rfl) (by rfl) B.isinstance PyProof.Rows.boot_isinstance (qpa_Name (qpv 0) (qpa_Name (qpe_globC (by rfl) C_NoRound) qpa_nil))) (qpa_Call (qpe_callB (call_isiE' (K := K) rfl) (by rfl) B.isinstance PyProof.Rows.boot_isinstance (qpa_Name (qpv 0) (qpa_Name (qpe_globC (by rfl) C_NoCode) qpa_nil))) (qpa_Call (qpe_callB (call_isiE' (K := K) rfl) (by rfl) B.isinstance PyProof.Rows.boot_isinstance (qpa_Name (qpv 0) (qpa_Name (qpe_globC (by rfl) C_NoNumber) qpa_nil))) qpa_nil)))))))
      (qpss_cons (qps_set (i := 1) sc_alone.nd rfl (Or.inl rfl) (qpe_op op_cat (qpv 1) (qpe_lst (qpa_Call (qpe_callB (call_isiE' (K := K) rfl) (by rfl) B.isinstance PyProof.Rows.boot_isinstance (qpa_Name (qpv 0) (qpa_Name (qpe_globC (by rfl) C_NoName) qpa_nil))) (qpa_Call (qpe_callB (call_isiE' (K := K) rfl) (by rfl) B.isinstance PyProof.Rows.boot_isinstance (qpa_Name (qpv 0) (qpa_Name (qpe_globC (by rfl) C_NoRow) qpa_nil))) (qpa_UnaryOp (qpe_not (qpe_callB (call_isiE' (K := K) rfl) (by rfl) B.isinstance PyProof.Rows.boot_isinstance (qpa_Name (qpv 0) (qpa_Name (qpe_bltn (v := .ty "ValueError") (by rfl) B.ValueError L2.boot_ValueError rfl) qpa_nil)))) qpa_nil))))))
      (qpss_one (qps_ret (qpe_and (qpe_cmpR op_eq (qpe_callB (call_len_seq' (K := K) rfl) (by rfl) B.len PySem.boot_len (qpa_ListComp (qpe_compH (hx := a) (own := ["_law_kind"]) (ns := []) (caps := []) hr.hd ⟨rfl, by decide +kernel, by decide +kernel, by decide +kernel⟩ .nil (qpv 1) (fun C s H fp pn => (qpg_name (i := 0) (show List.Nodup ((["_law_kind"] : List Str) ++ ([] : List Str)) by decide +kernel) rfl (Or.inl rfl))) (fun C s H fp pn => (qpf_one (qpt_val (qpv 0)))) (fun C s H fp pn => (qpv 0))) qpa_nil)) qpe_int (nomark _)) (qpe_one (qpe_not (qpe_ix (ix_list' (K := K) rfl) (qpv 1) qpe_int (fun _ _ => rfl))))))))))), ?_⟩
    walk_at "wp"
    refine isiE hx J.ek (J.kit 0 _ rfl) (isiE hx J.ek (J.kit 1 _ rfl) (isiE hx J.ek (J.kit 2 _ rfl) (isiE hx J.ek (J.kit 3 _ rfl) ⟨(by show 4 ≤ sizeLine; decide), fun p1 n1 => ?_⟩)))
    have s1 := (Same.refl H).new (o := .lst [.bl (decide (0 = due)), .bl (decide (1 = due)), .bl (decide (2 = due)), .bl (decide (3 = due))]) n1
    have hx1 := s1 _ _ hx
    refine isiE hx1 J.ek (J.kit 4 _ rfl) (isiE hx1 J.ek (J.kit 5 _ rfl) (isiE hx1 J.ek (J.kit 6 _ rfl) (isiE hx1 J.ek (J.kit 7 _ rfl) ⟨(by show 4 ≤ sizeLine; decide), fun p2 n2 => ?_⟩)))
    have n12 : p1 ≠ p2 := fun e => by subst e; rw [upd_same] at n2; cases n2
    have s2 := s1.new (o := .lst [.bl (decide (4 = due)), .bl (decide (5 = due)), .bl (decide (6 = due)), .bl (decide (7 = due))]) (s1.free n2)
    refine ⟨p1, p2, _, _, rfl, rfl, by rw [upd_ne n12, upd_same], upd_same, (by show 8 ≤ sizeLine; decide), fun p3 n3 => ?_⟩
    have s3 := s2.new (o := .lst ([.bl (decide (0 = due)), .bl (decide (1 = due)), .bl (decide (2 = due)), .bl (decide (3 = due))] ++ [.bl (decide (4 = due)), .bl (decide (5 = due)), .bl (decide (6 = due)), .bl (decide (7 = due))])) (s2.free n3)
    have hx3 := s3 _ _ hx
    refine isiE hx3 J.ek (J.kit 8 _ rfl) (isiE hx3 J.ek (J.kit 9 _ rfl) (isiT hx3 J.ek J.val ?_))
    walk_at "wp"
    refine ⟨(by show 3 ≤ sizeLine; decide), fun p4 n4 => ?_⟩
    have n34 : p3 ≠ p4 := fun e => by subst e; rw [upd_same] at n4; cases n4
    have s4 := s3.new (o := .lst [.bl (decide (8 = due)), .bl (decide (9 = due)), .bl !true]) (s3.free n4)
    refine ⟨p3, p4, _, _, rfl, rfl, by rw [upd_ne n34, upd_same], upd_same, (by show 11 ≤ sizeLine; decide), fun p5 n5 => ?_⟩
    have e11 : [V.bl (decide (0 = due)), .bl (decide (1 = due)), .bl (decide (2 = due)), .bl (decide (3 = due))] ++ [.bl (decide (4 = due)), .bl (decide (5 = due)), .bl (decide (6 = due)), .bl (decide (7 = due))] ++ [.bl (decide (8 = due)), .bl (decide (9 = due)), .bl !true] = ((List.range 10).map (fun j => decide (j = due)) ++ [false]).map V.bl := rfl
    rw [e11]
    have s5 := s4.new (o := .lst (((List.range 10).map (fun j => decide (j = due)) ++ [false]).map V.bl)) (s4.free n5)
    have h5 := s5 _ _ hx
    have g5 : upd (upd (upd (upd (upd H p1 (.lst [.bl (decide (0 = due)), .bl (decide (1 = due)), .bl (decide (2 = due)), .bl (decide (3 = due))])) p2 (.lst [.bl (decide (4 = due)), .bl (decide (5 = due)), .bl (decide (6 = due)), .bl (decide (7 = due))])) p3 (.lst ([.bl (decide (0 = due)), .bl (decide (1 = due)), .bl (decide (2 = due)), .bl (decide (3 = due))] ++ [.bl (decide (4 = due)), .bl (decide (5 = due)), .bl (decide (6 = due)), .bl (decide (7 = due))]))) p4 (.lst [.bl (decide (8 = due)), .bl (decide (9 = due)), .bl !true])) p5 (.lst (((List.range 10).map (fun j => decide (j = due)) ++ [false]).map V.bl)) p5 = _ := upd_same
    generalize upd (upd (upd (upd (upd H p1 (.lst [.bl (decide (0 = due)), .bl (decide (1 = due)), .bl (decide (2 = due)), .bl (decide (3 = due))])) p2 (.lst [.bl (decide (4 = due)), .bl (decide (5 = due)), .bl (decide (6 = due)), .bl (decide (7 = due))])) p3 (.lst ([.bl (decide (0 = due)), .bl (decide (1 = due)), .bl (decide (2 = due)), .bl (decide (3 = due))] ++ [.bl (decide (4 = due)), .bl (decide (5 = due)), .bl (decide (6 = due)), .bl (decide (7 = due))]))) p4 (.lst [.bl (decide (8 = due)), .bl (decide (9 = due)), .bl !true])) p5 (.lst (((List.range 10).map (fun j => decide (j = due)) ++ [false]).map V.bl)) = H5 at s5 h5 g5 ⊢
    refine ⟨p5, rfl, ⟨_, SqL.of g5⟩, comp_trueH (SqL.of g5) h5 (by simp) fun p6 n6 => ?_⟩
    have s6 := (Same.refl H5).new (o := .lst ((((List.range 10).map (fun j => decide (j = due)) ++ [false]).filter (· = true)).map V.bl)) n6
    refine ⟨p6, _, rfl, .inl (SqL.of upd_same), ifY ?_ ⟨p5, _, 10, .bl false, rfl, rfl, SqL.of (s6 _ _ g5), ?_, _, rfl, q _ (s5.trans s6)⟩⟩
    · have hd : due = 0 ∨ due = 1 ∨ due = 2 ∨ due = 3 ∨ due = 4 ∨ due = 5 ∨ due = 6 ∨ due = 7 ∨ due = 8 ∨ due = 9 := by omega
      rcases hd with rfl | rfl | rfl | rfl | rfl | rfl | rfl | rfl | rfl | rfl <;> rfl
    · exact atI_nat (j := 10) (by simp)
theorem ok_cell_at (B : Blt mg) (E : Fn K mg "_law_cell_at" s_cell_at ["_law_script", "_law_k"]) : Def P w K mg base 1 "_law_cell_at" s_cell_at ["_law_script", "_law_k"] (spCellA K) := E.mk' fun f fd F => by
  refine F.okS sc_cell_at (fun vs H Q E h => ?_) (fun cdv A outer s H vs Q E hr h => ?_)
  · obtain ⟨a, ns, k, rfl, _⟩ := h
    rfl
  · obtain ⟨a, ns, k, rfl, hS, q⟩ := h
    refine ⟨[some (.ref a), some (.int k)], _, rfl, (L2.QSs.h (qpss_cons (qps_if (qpt_cmpR op_lt (qpv 1) (qpe_callB call_len_seq (by rfl) B.len PySem.boot_len (qpa_Name (qpv 0) qpa_nil)) (nomark _))
      (qpss_one (qps_ret (qpe_ix ix_list (qpv 0) (qpv 1) (fun _ _ => rfl))))
      qpss_nil)
      (qpss_one (qps_ret (qpe_op op_add (qpe_op op_mul qpe_int (qpv 1)) qpe_int))))), ?_⟩
    walk_at "wp"
    refine ⟨_, .inl hS, ?_⟩
    rw [List.length_map]
    refine ite2 (fun h => ?_) (fun h => ?_)
    · have hk : k < ns.length := by omega
      refine ⟨_, .int (ns.getD k 0), hS, atI_nat ?_, q _⟩
      simp [List.getElem?_map, hk]
    · exact ⟨.inl ⟨by decide, by decide⟩, q _⟩
theorem ok_digits (B : Blt mg) (E : Fn K mg "_law_digits" s_digits ["_law_cell", "_law_many"]) : Def P w K mg base 1 "_law_digits" s_digits ["_law_cell", "_law_many"] spDigs := E.mk' fun f fd F => by
  refine F.okS sc_digits (fun vs H Q E h => ?_) (fun cdv A outer s H vs Q E hr h => ?_)
  · obtain ⟨c, n, rfl, _⟩ := h
    rfl
  · obtain ⟨c, n, rfl, n60, q⟩ := h
    refine ⟨[some (.int c), some (.int n), none, none, none], _, rfl, (L2.QSs.h (qpss_cons (qps_set (i := 2) sc_digits.nd rfl (Or.inl rfl) (qpe_op op_fdiv (qpv 0) qpe_int))
      (qpss_cut (qps_if (QW.pt (qpw_or (qpt_cmpR op_eq (qpe_op op_mod (qpv 0) qpe_int) qpe_int (nomark _)) (qpw_or1 (qpt_cmpR op_lt (qpv 0) (qpe_op op_pow qpe_int qpe_int) (nomark _)))))
      (qpss_cons (qps_set (i := 2) sc_digits.nd rfl (Or.inl rfl) qpe_int)
        (qpss_one (qps_for PassesOwn.never rfl (qpi_range1 (by rfl) B.range (qpa_Constant qpe_int qpa_nil)) (qpg_name (i := 3) sc_digits.nd rfl (Or.inl rfl))
        (qpss_one (qps_set (i := 2) sc_digits.nd rfl (Or.inl rfl) (qpe_op op_add (qpe_op op_mul (qpv 2) qpe_int) (qpe_op op_mod (qpe_op op_mul (qpe_op op_mod (qpe_op op_mul (qpe_op op_add (qpv 0) (qpe_op op_mul (qpv 3) (qpv 3))) qpe_int) qpe_int) qpe_int) qpe_int)))))))
      qpss_nil)
      (qpss_cons (qps_set (i := 4) sc_digits.nd rfl (Or.inl rfl) (qpe_lst qpa_nil))
      (qpss_cons (qps_for PassesOwn.never rfl (qpi_range1 (by rfl) B.range (qpa_Name (qpv 1) qpa_nil)) (qpg_name (i := 3) sc_digits.nd rfl (Or.inl rfl))
      (qpss_cons (qps_expr (qpe_bm PySem.F.plainAttrs_list PySem.F.slot_list_append PySem.F.type_list_append mt_append (qpv 4) (qpa_BinOp (qpe_op op_mod (qpv 2) qpe_int) qpa_nil)))
        (qpss_one (qps_set (i := 2) sc_digits.nd rfl (Or.inl rfl) (qpe_op op_fdiv (qpv 2) qpe_int)))))
      (qpss_one (qps_ret (qpv 4)))))))), ?_⟩
    walk_at "wp"
    refine ⟨⟨by decide, by decide⟩, ?_⟩
    refine cut_intro (fun σ H' => ∃ (rest : Int) (x3 : Option V), σ = [some (.int c), some (.int n), some (.int rest), x3, none] ∧ H' = H) ?_ ?_
    · walk_at "wp"
      refine ⟨by decide, ite2 (fun _ => ⟨by decide, by decide, ?_⟩) fun _ => ⟨⟨by decide, by decide, by decide⟩, ite2 (fun _ => ⟨by decide, by decide, ?_⟩) fun _ => ⟨_, _, rfl, trivial⟩⟩⟩
      all_goals
        refine for_range (n := Int.toNat 9) (fun i σ H2 => ∃ (rest : Int) (x3 : Option V), σ = [some (.int c), some (.int n), some (.int rest), x3, none] ∧ H2 = H) ⟨_, _, rfl, rfl⟩ ?_ ?_
        · rintro i σ H2 hi ⟨rest, x3, rfl, rfl⟩
          have hi' : i < 9 := hi
          walk_at "wp"
          refine ⟨.inr ⟨by decide, by decide⟩, .inl ⟨by omega, by omega⟩, .inr ⟨by decide, by decide⟩, by decide, .inr ⟨by decide, by decide⟩, by decide, ?_⟩
          exact ⟨_, _, rfl, by first | rfl | trivial⟩
        · rintro σ H2 h
          exact h
    · rintro σ H' ⟨rest, x3, rfl, rfl⟩
      walk_at "wp"
      refine ⟨Nat.zero_le _, fun l nl => ⟨by omega, by omega, ?_⟩⟩
      refine for_range (n := n) (fun i σ H2 => ∃ (rest : Int) (ds : List Int) (x3 : Option V), σ = [some (.int c), some (.int n), some (.int rest), x3, some (.ref l)] ∧ Same H' H2 ∧ H2 l = some (.lst (ds.map V.int)) ∧ ds.length = i)
        ⟨_, [], _, rfl, (Same.refl H').new nl, upd_same, rfl⟩ ?_ ?_
      · rintro i σ H2 hi ⟨rest, ds, x3, rfl, sm, hl, hlen⟩
        walk_at "wp"
        exact ⟨w_tyL hl, by decide, _, hl, by rw [List.length_map]; exact small1000 (by omega), ⟨by decide, by decide⟩, _, ds ++ [_], _, rfl, sm.new nl, by rw [upd_same, List.map_append]; rfl, by simp [hlen]⟩
      · rintro σ H2 ⟨rest, ds, x3, rfl, sm, hl, hlen⟩
        walk_at "wp"
        exact q l ds H2 nl sm hl hlen
theorem ok_word (B : Blt mg) (E : Fn K mg "_law_word" s_word ["_law_cell", "_law_ends"]) (D_digits : Def P w K mg base 1 "_law_digits" s_digits ["_law_cell", "_law_many"] spDigs) : Def P w K mg base 2 "_law_word" s_word ["_law_cell", "_law_ends"] spWordE := E.mk' fun f fd F => by
  refine F.okS sc_word (fun vs H Q E h => ?_) (fun cdv A outer s H vs Q E hr h => ?_)
  · obtain ⟨c, m, rfl, _⟩ := h
    rfl
  · obtain ⟨c, m, rfl, m20, q⟩ := h
    refine ⟨[some (.int c), some (.int ((2 * m : Nat) : Int)), none, none, none, none], _, rfl, (L2.QSs.h (qpss_cons (qps_set (i := 2) sc_word.nd rfl (Or.inl rfl) (qpe_callD D_digits (hr.mono (by decide)) (by rfl) (qpa_Name (qpv 0) (qpa_Name (qpv 1) qpa_nil))))
      (qpss_cons (qps_set (i := 3) sc_word.nd rfl (Or.inl rfl) qpe_str)
      (qpss_cons (qps_set (i := 4) sc_word.nd rfl (Or.inl rfl) qpe_int)
      (qpss_cons (qps_for PassesOwn.never rfl (qpi_range1 (by rfl) B.range (qpa_Name (qpv 1) qpa_nil)) (qpg_name (i := 5) sc_word.nd rfl (Or.inl rfl))
      (qpss_one (qps_if (QW.pt (qpw_or (qpt_cmpR op_eq (qpv 4) qpe_int (nomark _)) (qpw_or1 (QW.pt (qpw_and (qpt_cmpR op_lt (qpv 4) (qpe_op op_sub (qpv 1) (qpv 5)) (nomark _)) (qpw_and1 (qpt_cmpR op_eq (qpe_op op_mod (qpe_ix ix_list (qpv 2) (qpv 5) (fun _ _ => rfl)) qpe_int) qpe_int (nomark _))))))))
        (qpss_cons (qps_set (i := 3) sc_word.nd rfl (Or.inl rfl) (qpe_op op_add_str (qpv 3) qpe_str))
          (qpss_one (qps_set (i := 4) sc_word.nd rfl (Or.inl rfl) (qpe_op op_add (qpv 4) qpe_int))))
        (qpss_cons (qps_set (i := 3) sc_word.nd rfl (Or.inl rfl) (qpe_op op_add_str (qpv 3) qpe_str))
          (qpss_one (qps_set (i := 4) sc_word.nd rfl (Or.inl rfl) (qpe_op op_sub (qpv 4) qpe_int)))))))
      (qpss_one (qps_ret (qpv 3)))))))), ?_⟩
    walk_at "wp"
    refine ⟨c, 2 * m, rfl, by omega, fun dl ds H1 nd s1 hdl hdn => ?_⟩
    walk_at "wp"
    refine ⟨by omega, by omega, ?_⟩
    refine for_range (n := 2 * m) (fun i σ H2 => ∃ (deep : Int) (bs : List Bool) (x5 : Option V), σ = [some (.int c), some (.int ((2 * m : Nat) : Int)), some (.ref dl), some (.str (wd bs)), some (.int deep), x5] ∧ H2 = H1 ∧ Grow bs deep ((2 * m : Nat) - i : Int) ∧ bs.length = i)
      ⟨0, [], none, by rw [wd_nil], rfl, by have := Grow.start m (by omega); simpa using this, rfl⟩ ?_ ?_
    · rintro i σ H2 hi ⟨deep, bs, x5, rfl, rfl, g, hl⟩
      have hz : ∀ x : Str, x.length = 1 → (wd bs).length + x.length ≤ sizeLine := fun x hx => by rw [wd_length, hx]; exact Nat.le_of_lt (small1000 (by omega))
      have er : ((2 * m : Nat) : Int) - ((i + 1 : Nat) : Int) = ((2 * m : Nat) : Int) - i - 1 := by omega
      have ro : (0 : Int) < ((2 * m : Nat) : Int) - i := by omega
      have op : (deep = 0 ∨ deep < ((2 * m : Nat) : Int) - i) → Grow (bs ++ [true]) (deep + 1) (((2 * m : Nat) : Int) - ((i + 1 : Nat) : Int)) := fun hd => by rw [er]; exact g.opens ro hd
      have cl : deep ≠ 0 → Grow (bs ++ [false]) (deep - 1) (((2 * m : Nat) : Int) - ((i + 1 : Nat) : Int)) := fun hd => by rw [er]; exact g.closes hd
      have ln : ∀ b : Bool, (bs ++ [b]).length = i + 1 := fun b => by rw [List.length_append, hl]; rfl
      have hx : ds[i]? = some ds[i] := List.getElem?_eq_getElem (by omega)
      generalize ds[i] = dg at hx
      walk_at "wp"
      have e0 : (0 : Int) + i = i := Int.zero_add _
      rw [e0]
      refine ite2 (fun h => ⟨hz _ len_open, _, bs ++ [true], _, by rw [wd_open], trivial, op (.inl h), ln _⟩) (fun h => ite2 (fun h2 => ⟨_, .int dg, SqL.of hdl, atI_nat (by rw [List.getElem?_map, hx]; rfl), ?_⟩) (fun _ => ⟨hz _ len_close, _, bs ++ [false], _, by rw [wd_close], trivial, cl h, ln _⟩))
      walk_at "wp"
      exact ⟨by decide, ite2 (fun _ => ⟨hz _ len_open, _, bs ++ [true], _, by rw [wd_open], trivial, op (.inr h2), ln _⟩) (fun _ => ⟨hz _ len_close, _, bs ++ [false], _, by rw [wd_close], trivial, cl h, ln _⟩)⟩
    · rintro σ H2 ⟨deep, bs, x5, rfl, rfl, g, hl⟩
      walk_at "wp"
      exact q bs H2 (g.bal (by omega)) hl s1
theorem ok_across (B : Blt mg) (E : Fn K mg "_law_across" s_across ["_law_word_here"]) : Def P w K mg base 1 "_law_across" s_across ["_law_word_here"] spPartners := E.mk' fun f fd F => by
  refine F.okS sc_across (fun vs H Q E h => ?_) (fun cdv A outer s H vs Q E hr h => ?_)
  · obtain ⟨bs, rfl, _⟩ := h
    rfl
  · obtain ⟨bs, rfl, bal, hl, q⟩ := h
    refine ⟨[some (.str (wd bs)), none, none, none], _, rfl, (L2.QSs.h (qpss_cons (qps_set (i := 1) sc_across.nd rfl (Or.inl rfl) qpe_dnewK)
      (qpss_cons (qps_set (i := 2) sc_across.nd rfl (Or.inl rfl) (qpe_lst qpa_nil))
      (qpss_cons (qps_for PassesOwn.never rfl (qpi_range1 (by rfl) B.range (qpa_Call (qpe_callB call_len_str (by rfl) B.len PySem.boot_len (qpa_Name (qpv 0) qpa_nil)) qpa_nil)) (qpg_name (i := 3) sc_across.nd rfl (Or.inl rfl))
      (qpss_one (qps_if (qpt_cmpR op_eq (qpe_ix ix_str (qpv 0) (qpv 3) (fun _ _ => rfl)) qpe_str (nomark _))
        (qpss_one (qps_expr (qpe_bm PySem.F.plainAttrs_list PySem.F.slot_list_append PySem.F.type_list_append mt_append (qpv 2) (qpa_Name (qpv 3) qpa_nil))))
        (qpss_cons (qps_dput (hu_1 hr) (qpv 1) (qpv 3) (qpe_bm0 PySem.F.plainAttrs_list PySem.F.slot_list_pop PySem.F.type_list_pop mt_pop (qpv 2)) rfl)
          (qpss_one (qps_dput (hu_1 hr) (qpv 1) (qpe_dget (hu_1 hr) (qpv 1) (qpv 3) (fun _ _ => rfl)) (qpv 3) rfl))))))
      (qpss_one (qps_ret (qpv 1))))))), ?_⟩
    have hz : (wd bs).length ≤ sizeLine := by rw [wd_length]; exact Nat.le_of_lt (small1000 (by omega))
    walk_at "wp"
    intro d nd
    refine ⟨Nat.zero_le _, fun wl nw => ⟨hz, by omega, by rw [wd_length]; omega, ?_⟩⟩
    have nwd : wl ≠ d := fun e => by subst e; rw [upd_same] at nw; cases nw
    have s0 := (Same.refl H).new (o := .dK []) nd
    have nw0 : H wl = none := s0.free nw
    refine for_range (n := ((wd bs).length : Int).toNat) (fun i σ H2 => ∃ (ws : List Nat) (bw : List (Nat × Nat)) (kvs : KVs) (x3 : Option V), σ = [some (.str (wd bs)), some (.ref d), some (.ref wl), x3] ∧ Same H H2 ∧ H2 wl = some (.lst (natV ws)) ∧ H2 d = some (.dK kvs) ∧ Stk bs i ws bw ∧ kvs.length ≤ 2 * bw.length ∧ ∀ p ∈ bw, valV kvs (.inl (p.1 : Int)) = some (.int (p.2 : Nat)) ∧ valV kvs (.inl (p.2 : Int)) = some (.int (p.1 : Nat)))
      ⟨[], [], [], none, rfl, s0.new nw0, upd_same, by rw [upd_ne nwd.symm, upd_same], Stk.start bs, Nat.zero_le _, (fun p h => nomatch h)⟩ ?_ ?_
    · rintro i σ H2 hi ⟨ws, bw, kvs, x3, rfl, sm, hw, hd, S, hk, hv⟩
      have hi' : i < bs.length := by rw [wd_length] at hi; omega
      obtain ⟨b, hb⟩ : ∃ b, bs[i]? = some b := ⟨bs[i], List.getElem?_eq_getElem hi'⟩
      walk_at "wp"
      refine ⟨hz, cpB b, by rw [Int.zero_add]; exact atI_nat (wd_at hb), ?_⟩
      simp only [sign_open]
      rw [Int.zero_add]
      have hSl := S.len
      have hwl := S.il
      refine ite2 (fun hb1 => ?_) (fun hb1 => ?_)
      · subst hb1
        refine ⟨w_tyL hw, _, hw, small1000 (by simp [natV]; omega), ws ++ [i], bw, kvs, _, rfl, sm.new nw0, by rw [upd_same]; simp [natV], by rw [upd_ne nwd.symm]; exact hd, S.opens hb, hk, hv⟩
      · have hb2 : b = false := by cases b; rfl; exact absurd rfl hb1
        subst hb2
        obtain ⟨ws', p, rfl⟩ := S.has bal hb
        have S2 := S.closes hb
        have hpi := (S2.mate (p, i) (by simp)).1
        have ed : (natV (ws' ++ [p])).dropLast = natV ws' := by simp [natV]
        have el : (natV (ws' ++ [p]))[(natV (ws' ++ [p])).length - 1]? = some (.int (p : Nat)) := by simp [natV]
        refine ⟨w_tyL hw, _, .int (p : Nat), hw, el, ?_⟩
        rw [ed]
        have hS2 := length_putK kvs (.inl (i : Int) : Key) (.int (p : Nat))
        have hS3 := length_putK (putK kvs (.inl (i : Int) : Key) (.int (p : Nat))) (.inl (p : Int) : Key) (.int (i : Nat))
        have l1 : kvs.length < sizeLine := small1000 (by omega)
        have l2 : (putK kvs (.inl (i : Int) : Key) (.int (p : Nat))).length < sizeLine := small1000 (by omega)
        have hd2 : upd H2 wl (.lst (natV ws')) d = some (.dK kvs) := by rw [upd_ne nwd.symm]; exact hd
        have gi : DGet (upd (upd H2 wl (.lst (natV ws'))) d (.dK (putK kvs (.inl (i : Int) : Key) (.int (p : Nat))))) d (.int (i : Nat)) (some (.int (p : Nat))) := by
          have := DGet.k (k := .inl (i : Int)) (L2.upd_same (H := upd H2 wl (.lst (natV ws'))) (a := d) (o := .dK (putK kvs (.inl (i : Int) : Key) (.int (p : Nat)))))
          rw [valV_put, if_pos rfl] at this
          exact this
        refine ⟨_, DPut.k (k := .inl (i : Int)) hd2 l1, _, gi, _, DPut.k (k := .inl (p : Int)) upd_same l2, ws', bw ++ [(p, i)], _, _, rfl, ((sm.new nw0).new nd).new nd, by rw [upd_ne nwd, upd_ne nwd, upd_same], upd_same, S2, by simp; omega, fun q hq => ?_⟩
        have val : ∀ x y, Pr bs x y → (x = i ∨ x = p ∨ valV kvs (.inl (x : Int)) = some (.int (y : Nat))) → valV (putK (putK kvs (.inl (i : Int) : Key) (.int (p : Nat))) (.inl (p : Int) : Key) (.int (i : Nat))) (.inl (x : Int)) = some (.int (y : Nat)) := fun x y hxy hx => by
          rw [valV_put, valV_put]
          by_cases c1 : x = p
          · subst c1
            have e : i = y := Pr.uniq (.inl hpi) hxy
            rw [if_pos rfl, e]
          · rw [if_neg (fun z => c1 (by cases z; rfl))]
            by_cases c2 : x = i
            · subst c2
              have e : p = y := (Pr.symm (.inl hpi)).uniq hxy
              rw [if_pos rfl, e]
            · rw [if_neg (fun z => c2 (by cases z; rfl))]
              rcases hx with h | h | h
              · exact absurd h c2
              · exact absurd h c1
              · exact h
        rcases List.mem_append.mp hq with hq | hq
        · have hmp := (S.mate q hq).1
          exact ⟨val _ _ (.inl hmp) (.inr (.inr (hv q hq).1)), val _ _ (.inr hmp) (.inr (.inr (hv q hq).2))⟩
        · have e : q = (p, i) := by simpa using hq
          subst e
          exact ⟨val _ _ (.inl hpi) (.inr (.inl rfl)), val _ _ (.inr hpi) (.inl rfl)⟩
    · rintro σ H2 ⟨ws, bw, kvs, x3, rfl, sm, hw, hd, S, hk, hv⟩
      have en : ((wd bs).length : Int).toNat = bs.length := by rw [wd_length]; omega
      rw [en] at S
      walk_at "wp"
      obtain ⟨ms, M⟩ := mates_ex bal bs.length (Nat.le_refl _)
      refine q d kvs H2 nd sm hd fun x hx => ?_
      rcases mtF_pr bal hx with hm | hm
      · obtain ⟨m, hmm⟩ := M.all x hx hm.op
        have e := (M.mate _ hmm).1.uniq hm
        have := (hv _ ((S.mem bal M _).mpr hmm)).1
        rw [e] at this; exact this
      · have h1 := Nat.lt_trans hm.lt hm.ml
        obtain ⟨m, hmm⟩ := M.all _ h1 hm.op
        have e : m = x := (M.mate _ hmm).1.uniq hm
        have := (hv _ ((S.mem bal M _).mpr hmm)).2
        rw [e] at this; exact this
theorem ok_rounds_l (B : Blt mg) (E : Fn K mg "_law_rounds" s_rounds_l ["_law_left", "_law_right"]) (D_across : Def P w K mg base 1 "_law_across" s_across ["_law_word_here"] spPartners) : Def P w K mg base 2 "_law_rounds" s_rounds_l ["_law_left", "_law_right"] spRoundsL := E.mk' fun f fd F => by
  refine F.okS sc_rounds_l (fun vs H Q E h => ?_) (fun cdv A outer s H vs Q E hr h => ?_)
  · obtain ⟨bs, cs, rfl, _⟩ := h
    rfl
  · obtain ⟨bs, cs, rfl, T, q⟩ := h
    refine ⟨[some (.str (wd bs)), some (.str (wd cs)), none, none, none, none, none, none, none], _, rfl, (L2.QSs.h (qpss_cons (qps_set (i := 2) sc_rounds_l.nd rfl (Or.inl rfl) (qpe_callD D_across (hr.mono (by decide)) (by rfl) (qpa_Name (qpv 0) qpa_nil)))
      (qpss_cons (qps_set (i := 3) sc_rounds_l.nd rfl (Or.inl rfl) (qpe_callD D_across (hr.mono (by decide)) (by rfl) (qpa_Name (qpv 1) qpa_nil)))
      (qpss_cons (qps_set (i := 4) sc_rounds_l.nd rfl (Or.inl rfl) qpe_dnewK)
      (qpss_cons (qps_set (i := 5) sc_rounds_l.nd rfl (Or.inl rfl) (qpe_lst qpa_nil))
      (qpss_cons (qps_for PassesOwn.never rfl (qpi_range1 (by rfl) B.range (qpa_Call (qpe_callB call_len_str (by rfl) B.len PySem.boot_len (qpa_Name (qpv 0) qpa_nil)) qpa_nil)) (qpg_name (i := 6) sc_rounds_l.nd rfl (Or.inl rfl))
      (qpss_cons (qps_set (i := 7) sc_rounds_l.nd rfl (Or.inl rfl) (qpe_lst qpa_nil))
        (qpss_cons (qps_set (i := 8) sc_rounds_l.nd rfl (Or.inl rfl) (qpv 6))
        (qpss_cons (qps_while PassesOwn.never (qpt_dnotin (hu_1 hr) (qpv 8) (qpv 4))
        (qpss_cons (qps_dput (hu_1 hr) (qpv 4) (qpv 8) qpe_bl rfl)
          (qpss_cons (qps_dput (hu_1 hr) (qpv 4) (qpe_dget (hu_1 hr) (qpv 2) (qpv 8) (fun _ _ => rfl)) qpe_bl rfl)
          (qpss_cons (qps_set (i := 7) sc_rounds_l.nd rfl (Or.inl rfl) (qpe_op op_cat (qpv 7) (qpe_lst (qpa_Name (qpv 8) (qpa_Subscript (qpe_dget (hu_1 hr) (qpv 2) (qpv 8) (fun _ _ => rfl)) qpa_nil)))))
          (qpss_one (qps_set (i := 8) sc_rounds_l.nd rfl (Or.inl rfl) (qpe_dget (hu_1 hr) (qpv 3) (qpe_dget (hu_1 hr) (qpv 2) (qpv 8) (fun _ _ => rfl)) (fun _ _ => rfl))))))))
        (qpss_one (qps_if (qpt_cmpR (op_neD (hu_64 hr)) (qpv 7) (qpe_lst qpa_nil) (nomark _))
        (qpss_one (qps_expr (qpe_bm PySem.F.plainAttrs_list PySem.F.slot_list_append PySem.F.type_list_append mt_append (qpv 5) (qpa_Name (qpv 7) qpa_nil))))
        qpss_nil))))))
      (qpss_one (qps_ret (qpv 5))))))))), ?_⟩
    have hz : (wd bs).length ≤ sizeLine := by rw [wd_length]; exact Nat.le_of_lt (small1000 (by have := T.len; omega))
    have hlen := T.len
    walk_at "wp"
    refine ⟨bs, rfl, T.bal, T.len, fun d1 k1 H1 n1 s1 h1 dc1 => ⟨cs, rfl, T.balR, by rw [T.eq]; exact T.len, fun d2 k2 H2 n2 s2 h2 dc2 => ?_⟩⟩
    walk_at "wp"
    intro g ng
    refine ⟨Nat.zero_le _, fun fl nfl => ?_⟩
    have ngf : g ≠ fl := fun z => by subst z; rw [upd_same] at nfl; cases nfl
    have nfl2 : H2 fl = none := by rw [upd_ne ngf.symm] at nfl; exact nfl
    have PL := mtF_prt T.bal
    have PR := mtF_prt T.balR
    have NL := mtF_ne T.bal
    have NR := mtF_ne T.balR
    rw [T.eq] at dc2 PR NR
    have sHb : Same H H2 := s1.trans s2
    have sz : ∀ k : Nat, k ≤ 9000 → k < sizeLine := fun k hk => Nat.lt_of_le_of_lt hk (by decide)
    have en : ((wd bs).length : Int).toNat = bs.length := by rw [wd_length]; omega
    have hd1 := s2 _ _ h1
    refine ⟨hz, by omega, by rw [wd_length]; omega, ?_⟩
    rw [en]
    refine for_range (n := bs.length) (fun i σ H' => ∃ (ws : List V) (kvs : KVs) (x6 x7 x8 : Option V), σ = [some (.str (wd bs)), some (.str (wd cs)), some (.ref d1), some (.ref d2), some (.ref g), some (.ref fl), x6, x7, x8] ∧ Same H2 H' ∧ H' fl = some (.lst ws) ∧ H' g = some (.dK kvs) ∧ RefL H' (fun a => H2 a = none ∧ a ≠ fl ∧ a ≠ g) ws (rsF (mtF bs) (mtF cs) i) ∧ kvs.length ≤ 82 * i ∧ RIn bs.length (mtF bs) (mtF cs) i (rsF (mtF bs) (mtF cs) i) (fun x => (valV kvs (.inl (x : Int))).isSome = true))
      ⟨[], [], _, _, _, rfl, ((Same.refl H2).new ng).new nfl2, upd_same, by rw [upd_ne ngf, upd_same], .nil, Nat.zero_le _, ?_⟩ ?_ ?_
    · have := RIn.start (n := bs.length) (L := mtF bs) (R := mtF cs)
      refine ⟨this.rn, fun x => Iff.intro (fun h => nomatch h) (fun h => ?_), fun x h => by omega, this.len⟩
      obtain ⟨r, hr, _⟩ := h
      cases hr
    · rintro i σ H' hi ⟨ws, kvs, x6, x7, x8, rfl, sm, hfl, hg, rf, hk, RI⟩
      have hrl := RI.len
      have hwl := rf.len
      have met : ∀ x : Nat, (valV kvs (.inl (x : Int))).isSome = true ↔ ∃ r ∈ rsF (mtF bs) (mtF cs) i, x ∈ r := RI.mt
      walk_at "wp"
      rw [Int.zero_add]
      refine ⟨Nat.zero_le _, fun o0 no0 => ?_⟩
      have nf0 : fl ≠ o0 := ne_of_none hfl no0
      have ng0 : g ≠ o0 := ne_of_none hg no0
      refine ⟨fun m σ H3 => ∃ (j : Nat) (o : Addr) (kv : KVs), σ = [some (.str (wd bs)), some (.str (wd cs)), some (.ref d1), some (.ref d2), some (.ref g), some (.ref fl), some (.int i), some (.ref o), some (.int (itF (mtF bs) (mtF cs) i j : Nat))] ∧ Same H2 H3 ∧ H3 fl = some (.lst ws) ∧ H3 g = some (.dK kv) ∧ H3 o = some (.lst (natI (rdL (mtF bs) (mtF cs) i j))) ∧ (H2 o = none ∧ o ≠ fl ∧ o ≠ g) ∧ RefL H3 (fun a => H2 a = none ∧ a ≠ fl ∧ a ≠ g) ws (rsF (mtF bs) (mtF cs) i) ∧ kv.length ≤ kvs.length + 2 * j ∧ (∀ x : Nat, (valV kv (.inl (x : Int))).isSome = true ↔ ((valV kvs (.inl (x : Int))).isSome = true ∨ x ∈ rdL (mtF bs) (mtF cs) i j)) ∧ Inj (mtF bs) (mtF cs) i j ∧ (j = 0 ∨ ¬ (valV kvs (.inl (i : Int))).isSome = true) ∧ m = 41 - j,
        ⟨_, 0, o0, kvs, rfl, sm.new (sm.free no0), by rw [upd_ne nf0]; exact hfl, by rw [upd_ne ng0]; exact hg, upd_same, ⟨sm.free no0, nf0.symm, ng0.symm⟩, rf.imp (fun a o ⟨p1, p2, p3⟩ ha => ⟨by rw [upd_ne (ne_of_none ha no0)]; exact ha, p1, p2, p3⟩), by omega, fun x => by simp [rdL], fun j k hj => by omega, .inl rfl, rfl⟩, ?_⟩
      rintro m σ H3 ⟨j, o, kv, rfl, s3, hfl3, hg3, ho3, ⟨no2, nof, nog⟩, rf3, hkv, hv, J, hj0, rfl⟩
      have hle := J.le PL PR hi
      have lt := it_lt (R := mtF cs) PL PR hi j
      have hout : (¬ (valV kvs (.inl (i : Int))).isSome = true) → ∀ k, ¬ (valV kvs (.inl (itF (mtF bs) (mtF cs) i k : Int))).isSome = true := fun hm k z => (it_out PL PR RI.rn hi (fun z => hm ((met i).mpr z)) k).1 ((met _).mp z)
      walk_at "wp"
      refine ⟨_, DGet.k (k := .inl ((itF (mtF bs) (mtF cs) i j : Nat) : Int)) hg3, ?_⟩
      walk_at "wp"
      by_cases hin : (valV kv (.inl ((itF (mtF bs) (mtF cs) i j : Nat) : Int))).isSome = true
      · rw [hin]
        refine ifN (fun z => nomatch z) ⟨Nat.zero_le _, fun e ne => neL_nil (by rw [upd_ne (ne_of_none ho3 ne)]; exact ho3) upd_same ?_⟩
        have s4 := (Same.refl H3).new (o := .lst []) ne
        generalize upd H3 e (.lst []) = H4 at s4 ⊢
        walk_at "wp"
        have rf4 := rf3.imp (H' := H4) (P' := fun a => H2 a = none ∧ a ≠ fl ∧ a ≠ g) fun a o p ha => ⟨s4 _ _ ha, p⟩
        by_cases hmi : (valV kvs (.inl (i : Int))).isSome = true
        · have j0 : j = 0 := hj0.elim id fun z => absurd hmi z
          subst j0
          have sk := rsF_skip ((met i).mp hmi)
          rw [sk]
          refine ifN (fun z => nomatch z) ⟨ws, kv, _, _, _, rfl, s3.trans s4, s4 _ _ hfl3, s4 _ _ hg3, rf4, by omega, ?_⟩
          have RI2 := RI.skip hmi
          exact ⟨RI2.rn, fun x => by rw [hv x]; simp [rdL]; exact RI2.mt x, fun x hx => (hv x).mpr (.inl (RI2.upto x hx)), RI2.len⟩
        · have hin2 : itF (mtF bs) (mtF cs) i j ∈ rdL (mtF bs) (mtF cs) i j := ((hv _).mp hin).elim (fun z => absurd z (hout hmi j)) id
          obtain ⟨jp, hc⟩ := (it_in PL PR NL NR hi J).mp hin2
          have X := rnd_of PL PR hi J hlen jp hc
          have ad := rsF_add (L := mtF bs) (R := mtF cs) (i := i) (fun z => hmi ((met i).mpr z))
          have RI2 := RI.add PL PR hmi X
          rw [ad, ← X.is]
          have hne : (rdL (mtF bs) (mtF cs) i j).isEmpty = false := by
            obtain ⟨j', rfl⟩ : ∃ j', j = j' + 1 := ⟨j - 1, by omega⟩
            rw [rdL]; simp
          refine ifY hne ⟨w_tyL (s4 _ _ hfl3), _, s4 _ _ hfl3, sz _ (by omega), _, kv, _, _, _, rfl, (s3.trans s4).new nfl2, upd_same, by rw [upd_ne ngf]; exact s4 _ _ hg3, ?_, by omega, ⟨RI2.rn, fun x => by rw [hv x]; exact RI2.mt x, fun x hx => (hv x).mpr (RI2.upto x hx), RI2.len⟩⟩
          exact paired_snoc (rf4.imp fun a o ⟨p1, p2, p3⟩ ha => ⟨by rw [upd_ne p2]; exact ha, p1, p2, p3⟩) ⟨o, rfl, by rw [upd_ne nof]; exact s4 _ _ ho3, no2, nof, nog⟩
      · have hif : (valV kv (.inl ((itF (mtF bs) (mtF cs) i j : Nat) : Int))).isSome = false := by cases e : (valV kv (.inl ((itF (mtF bs) (mtF cs) i j : Nat) : Int))).isSome <;> first | rfl | exact absurd e hin
        rw [hif]
        have hmi : ¬ (valV kvs (.inl (i : Int))).isSome = true := hj0.elim (fun z => by subst z; exact fun w => hin ((hv _).mpr (.inl w))) id
        have hc : j = 0 ∨ itF (mtF bs) (mtF cs) i j ≠ i := by
          by_cases z : j = 0
          · exact .inl z
          · exact .inr fun w => hin ((hv _).mpr (.inr ((it_in PL PR NL NR hi J).mpr ⟨by omega, w⟩)))
        have J2 := J.next PL PR hi hc
        have hle2 := J2.le PL PR hi
        have k1l := length_putK kv (.inl ((itF (mtF bs) (mtF cs) i j : Nat) : Int) : Key) (.bl true)
        have k2l := length_putK (putK kv (.inl ((itF (mtF bs) (mtF cs) i j : Nat) : Int) : Key) (.bl true)) (.inl ((mtF bs (itF (mtF bs) (mtF cs) i j) : Nat) : Int) : Key) (.bl true)
        have nd1 : d1 ≠ g := fun z => by subst z; rw [hd1] at ng; cases ng
        have nd2 : d2 ≠ g := fun z => by subst z; rw [h2] at ng; cases ng
        have gL : ∀ Hx : Hp, Hx d1 = some (.dK k1) → DGet Hx d1 (.int (itF (mtF bs) (mtF cs) i j : Nat)) (some (.int (mtF bs (itF (mtF bs) (mtF cs) i j) : Nat))) := fun Hx hx => by
          have := DGet.k (k := .inl ((itF (mtF bs) (mtF cs) i j : Nat) : Int)) hx
          rw [dc1 _ lt] at this; exact this
        have gR : ∀ Hx : Hp, Hx d2 = some (.dK k2) → DGet Hx d2 (.int (mtF bs (itF (mtF bs) (mtF cs) i j) : Nat)) (some (.int (itF (mtF bs) (mtF cs) i (j + 1) : Nat))) := fun Hx hx => by
          have := DGet.k (k := .inl ((mtF bs (itF (mtF bs) (mtF cs) i j) : Nat) : Int)) hx
          rw [dc2 _ (PL.lt _ lt)] at this; exact this
        generalize hx0 : itF (mtF bs) (mtF cs) i j = x at *
        have hd1a : upd H3 g (.dK (putK kv (.inl (x : Int) : Key) (.bl true))) d1 = some (.dK k1) := by rw [upd_ne nd1]; exact s3 _ _ hd1
        refine ifY rfl ⟨_, fun _ _ z => z, _, DPut.k (k := .inl (x : Int)) hg3 (sz _ (by omega)), _, gL _ hd1a, _, DPut.k (k := .inl ((mtF bs x : Nat) : Int)) upd_same (sz _ (by omega)), _, gL _ (by rw [upd_ne nd1]; exact hd1a), (by show 2 ≤ sizeLine; decide), fun p np => ?_⟩
        have sB : Same H2 (upd (upd H3 g (.dK (putK kv (.inl (x : Int) : Key) (.bl true)))) g (.dK (putK (putK kv (.inl (x : Int) : Key) (.bl true)) (.inl ((mtF bs x : Nat) : Int) : Key) (.bl true)))) := (s3.new ng).new ng
        have kpB : ∀ b o, b ≠ g → H3 b = some o → (upd (upd H3 g (.dK (putK kv (.inl (x : Int) : Key) (.bl true)))) g (.dK (putK (putK kv (.inl (x : Int) : Key) (.bl true)) (.inl ((mtF bs x : Nat) : Int) : Key) (.bl true)))) b = some o := fun b o hb h => by rw [upd_ne hb, upd_ne hb]; exact h
        have gB : (upd (upd H3 g (.dK (putK kv (.inl (x : Int) : Key) (.bl true)))) g (.dK (putK (putK kv (.inl (x : Int) : Key) (.bl true)) (.inl ((mtF bs x : Nat) : Int) : Key) (.bl true)))) g = some (.dK (putK (putK kv (.inl (x : Int) : Key) (.bl true)) (.inl ((mtF bs x : Nat) : Int) : Key) (.bl true))) := upd_same
        generalize upd (upd H3 g (.dK (putK kv (.inl (x : Int) : Key) (.bl true)))) g (.dK (putK (putK kv (.inl (x : Int) : Key) (.bl true)) (.inl ((mtF bs x : Nat) : Int) : Key) (.bl true))) = HB at sB kpB gB np ⊢
        have sC := (Same.refl HB).new (o := .lst [V.int (x : Nat), V.int (mtF bs x : Nat)]) np
        have gC : upd HB p (.lst [V.int (x : Nat), V.int (mtF bs x : Nat)]) p = some (.lst [V.int (x : Nat), V.int (mtF bs x : Nat)]) := upd_same
        generalize upd HB p (.lst [V.int (x : Nat), V.int (mtF bs x : Nat)]) = HC at sC gC ⊢
        have hrl2 : (natI (rdL (mtF bs) (mtF cs) i j)).length = 2 * j := by unfold natI; rw [List.length_map, rd_len]
        refine ⟨o, p, _, _, rfl, rfl, sC _ _ (kpB _ _ nog ho3), gC, Nat.le_of_lt (sz _ (by rw [hrl2]; simp; omega)), fun p2 np2 => ?_⟩
        have sD := (Same.refl HC).new (o := .lst (natI (rdL (mtF bs) (mtF cs) i j) ++ [V.int (x : Nat), V.int (mtF bs x : Nat)])) np2
        have gD : upd HC p2 (.lst (natI (rdL (mtF bs) (mtF cs) i j) ++ [V.int (x : Nat), V.int (mtF bs x : Nat)])) p2 = some (.lst (natI (rdL (mtF bs) (mtF cs) i j) ++ [V.int (x : Nat), V.int (mtF bs x : Nat)])) := upd_same
        generalize upd HC p2 (.lst (natI (rdL (mtF bs) (mtF cs) i j) ++ [V.int (x : Nat), V.int (mtF bs x : Nat)])) = HD at sD gD ⊢
        have sCD := sC.trans sD
        have kpD : ∀ b o, b ≠ g → H3 b = some o → HD b = some o := fun b o hb h => sCD _ _ (kpB b o hb h)
        have np2g : p2 ≠ g := (ne_of_none (sC _ _ gB) np2).symm
        have np2f : p2 ≠ fl := (ne_of_none (sC _ _ (kpB _ _ ngf.symm hfl3)) np2).symm
        have er : natI (rdL (mtF bs) (mtF cs) i j) ++ [V.int (x : Nat), V.int (mtF bs x : Nat)] = natI (rdL (mtF bs) (mtF cs) i (j + 1)) := by
          rw [rdL, hx0]; simp [natI]
        rw [er] at gD
        refine ⟨_, gL _ (kpD _ _ nd1 (s3 _ _ hd1)), _, gR _ (kpD _ _ nd2 (s3 _ _ h2)), 41 - (j + 1), by omega, j + 1, p2, _, rfl, sB.trans sCD, kpD _ _ ngf.symm hfl3, sCD _ _ gB, gD, ⟨sB.free (sC.free np2), np2f, np2g⟩, rf3.imp (fun a o ⟨q1, q2, q3⟩ ha => ⟨kpD _ _ q3 ha, q1, q2, q3⟩), by omega, fun z => ?_, J2, .inr hmi, rfl⟩
        rw [valV_put, valV_put, rdL, hx0, List.mem_append, List.mem_append, List.mem_singleton, List.mem_singleton]
        by_cases c1 : z = mtF bs x
        · subst c1; rw [if_pos rfl]; simp
        · rw [if_neg (fun w => c1 (by cases w; rfl))]
          by_cases c2 : z = x
          · subst c2; rw [if_pos rfl]; simp
          · rw [if_neg (fun w => c2 (by cases w; rfl)), hv z]
            simp [c1, c2]
    · rintro σ H' ⟨ws, kvs, x6, x7, x8, rfl, sm, hfl, hg, rf, hk, RI⟩
      walk_at "wp"
      exact q fl ws H' (sHb.free nfl2) (sHb.trans sm) hfl (rf.imp fun a o ⟨p1, p2, p3⟩ ha => ⟨ha, sHb.free p1⟩)
theorem ok_said {c_NoWord c_NoBow : Addr} (C_NoWord : mg "NoWord" = some (.ref c_NoWord)) (C_NoBow : mg "NoBow" = some (.ref c_NoBow)) (XS : PySem.W.exmOne K (.ref c_NoWord) (.ref c_NoWord) = some true) (XN2 : PySem.W.exmOne K (.ref c_NoBow) (.ref c_NoWord) = some false) (XS2 : PySem.W.exmOne K (.ref c_NoBow) (.ref c_NoBow) = some true) (E : Fn K mg "_law_said" s_said ["_law_one", "_law_place", "_law_other"])
    (D_laid_in : DefX P w K mg base 3 "laid_in" s_laid_in ["left", "right", "place", "other_left", "other_right"] (spLaid c_NoWord c_NoBow)) : Def P w K mg base 4 "_law_said" s_said ["_law_one", "_law_place", "_law_other"] spSaidL := E.mk' fun f fd F => by
  refine F.okS sc_said (fun vs H Q E h => ?_) (fun cdv A outer s H vs Q E hr h => ?_)
  · obtain ⟨a, x, y, n, c, u, v, d, e, k, d2, e2, b, rfl, _⟩ := h
    rfl
  · obtain ⟨a, x, y, n, c, u, v, d, e, k, d2, e2, b, rfl, ha, hc, hd, td, he, te, hk, hu, tu, hv, tv, hb, q⟩ := h
    refine ⟨[some (.ref a), some n, some (.ref c)], _, rfl, (L2.QSs.h (qpss_one (qps_try2 D_laid_in rfl rfl (hr.mono (by decide)) (by rfl) (qpa_Subscript (qpe_ix ix_tup (qpv 0) qpe_int (fun _ _ => rfl)) (qpa_Subscript (qpe_ix ix_tup (qpv 0) qpe_int (fun _ _ => rfl)) (qpa_Name (qpv 1) (qpa_Subscript (qpe_ix ix_tup (qpv 2) qpe_int (fun _ _ => rfl)) (qpa_Subscript (qpe_ix ix_tup (qpv 2) qpe_int (fun _ _ => rfl)) qpa_nil))))) (by rfl) C_NoWord (fun a => (qpss_one (qps_ret (qpe_tup (qpa_Constant qpe_str (qpa_Constant qpe_non qpa_nil)))))) (by rfl) C_NoBow (fun a => (qpss_one (qps_ret (qpe_tup (qpa_Constant qpe_str (qpa_Constant qpe_non qpa_nil))))))))), ?_⟩
    walk_at "wp"
    refine ⟨_, x, SqT.of ha, rfl, _, y, SqT.of ha, rfl, _, u, SqT.of hc, rfl, _, v, SqT.of hc, rfl, x, y, n, u, v, d, e, k, d2, e2, rfl, hd, td, he, te, hk, hu, tu, hv, tv, .inr ⟨b, hb, ?_⟩⟩
    cases b with
    | true =>
      refine ⟨c_NoWord, rfl, .inl ⟨XS, fun a na => ?_⟩⟩
      walk_at "wp"
      refine ⟨(by show 2 ≤ sizeLine; decide), fun p np => ?_⟩
      have s1 := (Same.refl H).new (o := excO c_NoWord a) na
      exact q p _ (s1.free np) (s1.new (s1.free np)) upd_same
    | false =>
      refine ⟨c_NoBow, rfl, .inr ⟨XN2, XS2, fun a na => ?_⟩⟩
      walk_at "wp"
      refine ⟨(by show 2 ≤ sizeLine; decide), fun p np => ?_⟩
      have s1 := (Same.refl H).new (o := excO c_NoBow a) na
      exact q p _ (s1.free np) (s1.new (s1.free np)) upd_same
theorem ok_by_any {c_NoWord c_NoBow c_RingError : Addr} {ds : List Addr} (C_RingError : mg "RingError" = some (.ref c_RingError)) (XM : PySem.W.exmOne K (.ref c_NoWord) (.ref c_RingError) = some true) (XM2 : PySem.W.exmOne K (.ref c_NoBow) (.ref c_RingError) = some true) (J : Jst K c_NoWord ds 2) (J2 : Jst K c_NoBow ds 4) (E : Fn K mg "_law_by_any" s_by_any ["_law_one", "_law_place", "_law_other"])
    (D_laid_in : DefX P w K mg base 3 "laid_in" s_laid_in ["left", "right", "place", "other_left", "other_right"] (spLaid c_NoWord c_NoBow)) (D_alone : DefH P w K mg base 1 "_law_alone" s_alone ["_law_e"] (spAlone K ds)) : Def P w K mg base 4 "_law_by_any" s_by_any ["_law_one", "_law_place", "_law_other"] spAnyL := E.mk' fun f fd F => by
  refine F.okS sc_by_any (fun vs H Q E h => ?_) (fun cdv A outer s H vs Q E hr h => ?_)
  · obtain ⟨a, x, y, n, c, u, v, d, e, k, d2, e2, b, rfl, _⟩ := h
    rfl
  · obtain ⟨a, x, y, n, c, u, v, d, e, k, d2, e2, b, rfl, ha, hc, hd, td, he, te, hk, hu, tu, hv, tv, hb, q⟩ := h
    refine ⟨[some (.ref a), some n, some (.ref c), none], _, rfl, (L2.QSs.h (qpss_cons (qps_tryD D_laid_in rfl rfl (hr.mono (by decide)) (by rfl) (qpa_Subscript (qpe_ix ix_tup (qpv 0) qpe_int (fun _ _ => rfl)) (qpa_Subscript (qpe_ix ix_tup (qpv 0) qpe_int (fun _ _ => rfl)) (qpa_Name (qpv 1) (qpa_Subscript (qpe_ix ix_tup (qpv 2) qpe_int (fun _ _ => rfl)) (qpa_Subscript (qpe_ix ix_tup (qpv 2) qpe_int (fun _ _ => rfl)) qpa_nil))))) (by rfl) C_RingError sc_by_any.nd (i := 3) rfl rfl (fun a => (qpss_one (qps_ret (qpe_callHD (a := a) D_alone (RoomH.of (hr.mono (by decide))) (by rfl) (qpa_Name (qpv 3) qpa_nil))))))
      (qpss_one (qps_ret qpe_bl)))), ?_⟩
    walk_at "wp"
    refine ⟨_, x, SqT.of ha, rfl, _, y, SqT.of ha, rfl, _, u, SqT.of hc, rfl, _, v, SqT.of hc, rfl, x, y, n, u, v, d, e, k, d2, e2, rfl, hd, td, he, te, hk, hu, tu, hv, tv, .inr ⟨b, hb, ?_⟩⟩
    cases b with
    | true =>
      refine ⟨c_NoWord, rfl, XM, fun a na => ?_⟩
      exact ⟨c_NoWord, 2, rfl, upd_same, J, by decide, fun H' s2 => q _ (((Same.refl _).new na).trans s2)⟩
    | false =>
      refine ⟨c_NoBow, rfl, XM2, fun a na => ?_⟩
      exact ⟨c_NoBow, 4, rfl, upd_same, J2, by decide, fun H' s2 => q _ (((Same.refl _).new na).trans s2)⟩
theorem ok_moved (B : Blt mg) (E : Fn K mg "_law_moved" s_moved ["_law_ends", "_law_place", "_law_more"]) : Def P w K mg base 1 "_law_moved" s_moved ["_law_ends", "_law_place", "_law_more"] spMoved := E.mk' fun f fd F => by
  refine F.okS sc_moved (fun vs H Q E h => ?_) (fun cdv A outer s H vs Q E hr h => ?_)
  · obtain ⟨l, r, p, m, rfl, _⟩ := h
    rfl
  · obtain ⟨l, r, p, m, rfl, hl, h80, hm, q⟩ := h
    refine ⟨[some (.ref l), some (.int (p : Nat)), some (.int (m : Nat))], _, rfl, (L2.QSs.h (qpss_one (qps_ret (qpe_comp (own := ["_law_end"]) (ns := ["_law_more", "_law_place"]) (caps := [2, 1]) rfl ⟨rfl, by decide +kernel, by decide +kernel, by decide +kernel⟩ (.cons rfl rfl (.inl rfl) (.cons rfl rfl (.inl rfl) .nil)) (qpi_list (qpv 0)) (fun C s H fp pn => (qpg_name (i := 0) (show List.Nodup ((["_law_end"] : List Str) ++ (["_law_more", "_law_place"] : List Str)) by decide +kernel) rfl (Or.inl rfl))) (fun C s H fp pn => qpf_nil) (fun C s H fp pn => (qpe_op op_add (qpv 0) (qpe_op op_mul (qpv 1) (qpe_callTy call_int1 (by rfl) B.int PyProof.Rows.boot_int (qpa_Compare (qpe_cmpR op_ge (qpv 0) (qpv 2) (nomark _)) qpa_nil))))))))), ?_⟩
    walk_at "wp"
    refine ⟨⟨_, SqL.of hl⟩, comp_mapL (SqL.of hl) (Nat.le_of_lt (small1000 (by simp only [natI, List.length_map]; omega))) (natI (r.map (sh p m))) (by simp [natI]) (fun j x y Q' hx hy hq => ?_) fun l' nl => q l' nl⟩
    simp only [natI, List.getElem?_map, Option.map_eq_some_iff] at hx hy
    obtain ⟨z, hz, rfl⟩ := hx
    obtain ⟨z', ⟨z2, hz2, rfl⟩, rfl⟩ := hy
    have : z2 = z := Option.some.inj (hz2.symm.trans hz)
    subst this
    walk_at "wp"
    refine ⟨.inr ⟨by split <;> decide, by split <;> decide⟩, ?_⟩
    have e : ((z2 : Int) + (m : Int) * if (p : Int) ≤ (z2 : Int) then 1 else 0) = ((sh p m z2 : Nat) : Int) := by unfold sh; split <;> split <;> omega
    rw [e]
    exact hq
theorem ok_refused (E : Fn K mg "_law_refused" s_refused ["_law_one", "_law_place", "_law_other", "_law_word_here"]) (D_said : Def P w K mg base 4 "_law_said" s_said ["_law_one", "_law_place", "_law_other"] spSaidL) (D_by_any : Def P w K mg base 4 "_law_by_any" s_by_any ["_law_one", "_law_place", "_law_other"] spAnyL) : Def P w K mg base 5 "_law_refused" s_refused ["_law_one", "_law_place", "_law_other", "_law_word_here"] spRefL := E.mk' fun f fd F => by
  refine F.okS sc_refused (fun vs H Q E h => ?_) (fun cdv A outer s H vs Q E hr h => ?_)
  · obtain ⟨a, x, y, n, c, u, v, d, e, k, d2, e2, b, rfl, _⟩ := h
    rfl
  · obtain ⟨a, x, y, n, c, u, v, d, e, k, d2, e2, b, rfl, ha, hc, hd, td, he, te, hk, hu, tu, hv, tv, hb, q⟩ := h
    refine ⟨[some (.ref a), some n, some (.ref c), some (.str (sayS b))], _, rfl, (L2.QSs.h (qpss_one (qps_ret (qpe_and (qpe_cmpR (op_eqD (hu_64 hr)) (qpe_callD D_said (hr.mono (by decide)) (by rfl) (qpa_Name (qpv 0) (qpa_Name (qpv 1) (qpa_Name (qpv 2) qpa_nil)))) (qpe_tup (qpa_Name (qpv 3) (qpa_Constant qpe_non qpa_nil))) (nomark _)) (qpe_one (qpe_callD D_by_any (hr.mono (by decide)) (by rfl) (qpa_Name (qpv 0) (qpa_Name (qpv 1) (qpa_Name (qpv 2) qpa_nil))))))))), ?_⟩
    walk_at "wp"
    refine ⟨a, x, y, n, c, u, v, d, e, k, d2, e2, b, rfl, ha, hc, hd, td, he, te, hk, hu, tu, hv, tv, hb, fun p1 H1 n1 s1 h1 => ⟨(by show 2 ≤ sizeLine; decide), fun p2 n2 => eq_say (b := b) (by rw [upd_ne (ne_of_none h1 n2)]; exact h1) upd_same ?_⟩⟩
    walk_at "wp"
    have s2 := s1.new (o := .tup [.str (sayS b), .non]) (s1.free n2)
    exact ⟨a, x, y, n, c, u, v, d, e, k, d2, e2, b, rfl, s2 _ _ ha, s2 _ _ hc, hd.same s2, td, he.same s2, te, hk.same s2, hu.same s2, tu, hv.same s2, tv, hb, fun H' s3 => q _ (s2.trans s3)⟩
theorem ok_law {c_NoWord c_NoBow : Addr} (B : Blt mg) (E : Fn K mg "law" s_law ["_law_script"]) (D_cell_at : Def P w K mg base 1 "_law_cell_at" s_cell_at ["_law_script", "_law_k"] (spCellA K)) (D_word : Def P w K mg base 2 "_law_word" s_word ["_law_cell", "_law_ends"] spWordE) (D_rounds_l : Def P w K mg base 2 "_law_rounds" s_rounds_l ["_law_left", "_law_right"] spRoundsL)
    (D_rounds : DefX P w K mg base 4 "rounds" s_rounds ["left", "right"] (spRoundsY c_NoWord)) (D_cut_out : DefX P w K mg base 5 "cut_out" s_cut_out ["left", "right", "number"] (spCut c_NoWord c_NoBow)) (D_laid_in : DefX P w K mg base 3 "laid_in" s_laid_in ["left", "right", "place", "other_left", "other_right"] (spLaid c_NoWord c_NoBow)) (D_refused : Def P w K mg base 5 "_law_refused" s_refused ["_law_one", "_law_place", "_law_other", "_law_word_here"] spRefL) (D_moved : Def P w K mg base 1 "_law_moved" s_moved ["_law_ends", "_law_place", "_law_more"] spMoved) : Def P w K mg base 6 "law" s_law ["_law_script"] (spLaw K) := E.mk' fun f fd F => by
  refine F.okS sc_law (fun vs H Q E h => ?_) (fun cdv A outer s H vs Q E hr h => ?_)
  · obtain ⟨a, ns, rfl, _⟩ := h
    rfl
  · obtain ⟨a, cl, rfl, hS, hlen, kQ⟩ := h
    refine ⟨[some (.ref a), none, none, none, none, none, none, none, none, none, none, none, none, none], _, rfl, (L2.QSs.h (qpss_cons (qps_set (i := 1) sc_law.nd rfl (Or.inl rfl) (qpe_op op_mul qpe_int (qpe_op op_mod (qpe_callD D_cell_at (hr.mono (by decide)) (by rfl) (qpa_Name (qpv 0) (qpa_Constant qpe_int qpa_nil))) qpe_int)))
      (qpss_cons (qps_set (i := 2) sc_law.nd rfl (Or.inr rfl) (qpe_op op_mul qpe_int (qpe_op op_mod (qpe_op op_fdiv (qpe_callD D_cell_at (hr.mono (by decide)) (by rfl) (qpa_Name (qpv 0) (qpa_Constant qpe_int qpa_nil))) qpe_int) qpe_int)))
      (qpss_cons (qps_set (i := 3) sc_law.nd rfl (Or.inr rfl) (qpe_tup (qpa_Call (qpe_callD D_word (hr.mono (by decide)) (by rfl) (qpa_Call (qpe_callD D_cell_at (hr.mono (by decide)) (by rfl) (qpa_Name (qpv 0) (qpa_Constant qpe_int qpa_nil))) (qpa_Name (qpv 1) qpa_nil))) (qpa_Call (qpe_callD D_word (hr.mono (by decide)) (by rfl) (qpa_Call (qpe_callD D_cell_at (hr.mono (by decide)) (by rfl) (qpa_Name (qpv 0) (qpa_Constant qpe_int qpa_nil))) (qpa_Name (qpv 1) qpa_nil))) qpa_nil))))
      (qpss_cons (qps_set (i := 4) sc_law.nd rfl (Or.inr rfl) (qpe_tup (qpa_Call (qpe_callD D_word (hr.mono (by decide)) (by rfl) (qpa_Call (qpe_callD D_cell_at (hr.mono (by decide)) (by rfl) (qpa_Name (qpv 0) (qpa_Constant qpe_int qpa_nil))) (qpa_Name (qpv 2) qpa_nil))) (qpa_Call (qpe_callD D_word (hr.mono (by decide)) (by rfl) (qpa_Call (qpe_callD D_cell_at (hr.mono (by decide)) (by rfl) (qpa_Name (qpv 0) (qpa_Constant qpe_int qpa_nil))) (qpa_Name (qpv 2) qpa_nil))) qpa_nil))))
      (qpss_cons (qps_set (i := 5) sc_law.nd rfl (Or.inl rfl) (qpe_callD D_cell_at (hr.mono (by decide)) (by rfl) (qpa_Name (qpv 0) (qpa_Constant qpe_int qpa_nil))))
      (qpss_cut (qps_set (i := 6) sc_law.nd rfl (Or.inl rfl) (qpe_ix ix_list (qpe_lst (qpa_Constant qpe_non (qpa_UnaryOp (qpe_un un_neg qpe_int) (qpa_BinOp (qpe_op op_add (qpv 1) qpe_int) (qpa_Constant qpe_bl (qpa_Constant qpe_str (qpa_List (qpe_lst (qpa_Constant qpe_int qpa_nil)) (qpa_BinOp (qpe_op op_pow qpe_int qpe_int) qpa_nil)))))))) (qpe_op op_mod (qpv 5) qpe_int) (fun _ _ => rfl)))
      (qpss_cut (qps_for PassesOwn.never rfl (qpi_list (qpe_lst (qpa_Tuple (qpe_tup (qpa_BinOp (qpe_op op_add_str (qpe_ix ix_tup (qpv 4) qpe_int (fun _ _ => rfl)) qpe_str) (qpa_Subscript (qpe_ix ix_tup (qpv 4) qpe_int (fun _ _ => rfl)) qpa_nil))) (qpa_Tuple (qpe_tup (qpa_Subscript (qpe_ix ix_tup (qpv 4) qpe_int (fun _ _ => rfl)) (qpa_BinOp (qpe_op op_add_str qpe_str (qpe_ix ix_tup (qpv 4) qpe_int (fun _ _ => rfl))) qpa_nil))) (qpa_Tuple (qpe_tup (qpa_Constant qpe_non (qpa_Constant qpe_str qpa_nil))) (qpa_Tuple (qpe_tup (qpa_Constant qpe_str (qpa_Constant qpe_int qpa_nil))) qpa_nil)))))) (qpg_name (i := 7) sc_law.nd rfl (Or.inl rfl))
      (qpss_one (qps_if (QW.pt (qpw_or (qpt_not (qpt_val (qpe_callD D_refused (hr.mono (by decide)) (by rfl) (qpa_Name (qpv 3) (qpa_Name (qpv 6) (qpa_Name (qpv 7) (qpa_Constant qpe_str qpa_nil))))))) (qpw_or1 (qpt_not (qpt_val (qpe_callD D_refused (hr.mono (by decide)) (by rfl) (qpa_Name (qpv 7) (qpa_Name (qpv 6) (qpa_Name (qpv 4) (qpa_Constant qpe_str qpa_nil))))))))))
        (qpss_one (qps_ret qpe_bl))
        qpss_nil)))
      (qpss_cons (qps_if (qpt_cmpR op_gt (qpe_op op_add (qpv 1) (qpv 2)) qpe_int (nomark _))
      (qpss_one (qps_ret (qpe_and (qpe_callD D_refused (hr.mono (by decide)) (by rfl) (qpa_Name (qpv 3) (qpa_Name (qpv 6) (qpa_Name (qpv 4) (qpa_Constant qpe_str qpa_nil))))) (qpe_one (qpe_callD D_refused (hr.mono (by decide)) (by rfl) (qpa_Name (qpv 3) (qpa_Constant qpe_int (qpa_Name (qpv 4) (qpa_Constant qpe_str qpa_nil)))))))))
      qpss_nil)
      (qpss_cut (qps_if (qpt_not (qpt_val (qpe_callD D_refused (hr.mono (by decide)) (by rfl) (qpa_Name (qpv 3) (qpa_Name (qpv 6) (qpa_Name (qpv 4) (qpa_Constant qpe_str qpa_nil)))))))
      (qpss_one (qps_ret qpe_bl))
      qpss_nil)
      (qpss_cons (qps_set (i := 8) sc_law.nd rfl (Or.inr rfl) (qpe_op op_mod (qpe_op op_fdiv (qpv 5) qpe_int) (qpe_op op_add (qpv 1) qpe_int)))
      (qpss_cons (qps_set (i := 9) sc_law.nd rfl (Or.inl rfl) (qpe_callX D_laid_in (hr.mono (by decide)) (by rfl) (qpa_Subscript (qpe_ix ix_tup (qpv 3) qpe_int (fun _ _ => rfl)) (qpa_Subscript (qpe_ix ix_tup (qpv 3) qpe_int (fun _ _ => rfl)) (qpa_Name (qpv 8) (qpa_Subscript (qpe_ix ix_tup (qpv 4) qpe_int (fun _ _ => rfl)) (qpa_Subscript (qpe_ix ix_tup (qpv 4) qpe_int (fun _ _ => rfl)) qpa_nil)))))))
      (qpss_cons (qps_set (i := 10) sc_law.nd rfl (Or.inl rfl) (qpe_callTy call_tuple_of (by rfl) B.tuple PyProof.Rows.boot_tuple (qpa_ListComp (qpe_comp (own := ["_law_k"]) (ns := ["_law_other", "_law_one", "_law_place"]) (caps := [4, 3, 8]) rfl ⟨rfl, by decide +kernel, by decide +kernel, by decide +kernel⟩ (.cons rfl rfl (.inl rfl) (.cons rfl rfl (.inl rfl) (.cons rfl rfl (.inl rfl) .nil))) (qpi_range1 (by rfl) B.range (qpa_Constant qpe_int qpa_nil)) (fun C s H fp pn => (qpg_name (i := 0) (show List.Nodup ((["_law_k"] : List Str) ++ (["_law_other", "_law_one", "_law_place"] : List Str)) by decide +kernel) rfl (Or.inl rfl))) (fun C s H fp pn => qpf_nil) (fun C s H fp pn => (qpe_op op_add_str (qpe_op op_add_str (qpe_slice sl_str (qpe_ix (ix_tup' (K := K) rfl) (qpv 2) (qpv 0) (fun _ _ => rfl)) qpo_none (qpo_some (qpv 3))) (qpe_ix (ix_tup' (K := K) rfl) (qpv 1) (qpv 0) (fun _ _ => rfl))) (qpe_slice sl_str (qpe_ix (ix_tup' (K := K) rfl) (qpv 2) (qpv 0) (fun _ _ => rfl)) (qpo_some (qpv 3)) qpo_none)))) qpa_nil)))
      (qpss_cut (qps_if (QW.pt (qpw_or (qpt_not (qpt_val (qpe_callB call_isi (by rfl) B.isinstance PyProof.Rows.boot_isinstance (qpa_Name (qpv 9) (qpa_Name (qpe_bltn (v := .ty "tuple") (by rfl) B.tuple PyProof.Rows.boot_tuple rfl) qpa_nil))))) (qpw_or1 (qpt_cmpR (op_neD (hu_64 hr)) (qpv 9) (qpv 10) (nomark _)))))
      (qpss_one (qps_ret qpe_bl))
      qpss_nil)
      (qpss_cons (qps_set (i := 11) sc_law.nd rfl (Or.inr rfl) (qpe_comp (own := ["_law_some"]) (ns := ["_law_place"]) (caps := [8]) rfl ⟨rfl, by decide +kernel, by decide +kernel, by decide +kernel⟩ (.cons rfl rfl (.inl rfl) .nil) (qpi_list (qpe_callD D_rounds_l (hr.mono (by decide)) (by rfl) (qpa_Subscript (qpe_ix ix_tup (qpv 4) qpe_int (fun _ _ => rfl)) (qpa_Subscript (qpe_ix ix_tup (qpv 4) qpe_int (fun _ _ => rfl)) qpa_nil)))) (fun C s H fp pn => (qpg_name (i := 0) (show List.Nodup ((["_law_some"] : List Str) ++ (["_law_place"] : List Str)) by decide +kernel) rfl (Or.inl rfl))) (fun C s H fp pn => qpf_nil) (fun C s H fp pn => (qpe_comp (own := ["_law_end"]) (ns := ["_law_place"]) (caps := [1]) rfl ⟨rfl, by decide +kernel, by decide +kernel, by decide +kernel⟩ (.cons rfl rfl (.inl rfl) .nil) (qpi_list' (K := K) rfl (qpv 0)) (fun C s H fp pn => (qpg_name (i := 0) (show List.Nodup ((["_law_end"] : List Str) ++ (["_law_place"] : List Str)) by decide +kernel) rfl (Or.inl rfl))) (fun C s H fp pn => qpf_nil) (fun C s H fp pn => (qpe_op op_add (qpv 0) (qpv 1)))))))
      (qpss_cons (qps_set (i := 11) sc_law.nd rfl (Or.inr rfl) (qpe_op op_cat (qpv 11) (qpe_comp (own := ["_law_some"]) (ns := ["_law_place", "_law_more"]) (caps := [8, 2]) rfl ⟨rfl, by decide +kernel, by decide +kernel, by decide +kernel⟩ (.cons rfl rfl (.inl rfl) (.cons rfl rfl (.inl rfl) .nil)) (qpi_list (qpe_callD D_rounds_l (hr.mono (by decide)) (by rfl) (qpa_Subscript (qpe_ix ix_tup (qpv 3) qpe_int (fun _ _ => rfl)) (qpa_Subscript (qpe_ix ix_tup (qpv 3) qpe_int (fun _ _ => rfl)) qpa_nil)))) (fun C s H fp pn => (qpg_name (i := 0) (show List.Nodup ((["_law_some"] : List Str) ++ (["_law_place", "_law_more"] : List Str)) by decide +kernel) rfl (Or.inl rfl))) (fun C s H fp pn => qpf_nil) (fun C s H fp pn => (qpe_callD D_moved (hr.mono (by decide)) (by rfl) (qpa_Name (qpv 0) (qpa_Name (qpv 1) (qpa_Name (qpv 2) qpa_nil))))))))
      (qpss_cut (qps_if (qpt_cmpR (op_neD (hu_64 hr)) (qpe_callB (call_sorted_lists (hu_64 hr)) (by rfl) B.sorted PyProof.Rows.boot_sorted (qpa_Call (qpe_callX D_rounds (hr.mono (by decide)) (by rfl) (qpa_Subscript (qpe_ix ix_tup (qpv 9) qpe_int (fun _ _ => rfl)) (qpa_Subscript (qpe_ix ix_tup (qpv 9) qpe_int (fun _ _ => rfl)) qpa_nil))) qpa_nil)) (qpe_callB (call_sorted_lists (hu_64 hr)) (by rfl) B.sorted PyProof.Rows.boot_sorted (qpa_Name (qpv 11) qpa_nil)) (nomark _))
      (qpss_one (qps_ret qpe_bl))
      qpss_nil)
      (qpss_cut (qps_while PassesOwn.never (qpt_cmpR op_gt (qpe_callB call_len_str (by rfl) B.len PySem.boot_len (qpa_Subscript (qpe_ix ix_tup (qpv 9) qpe_int (fun _ _ => rfl)) qpa_nil)) (qpv 1) (nomark _))
      (qpss_cons (qps_set (i := 12) sc_law.nd rfl (Or.inr rfl) (qpe_op op_sub (qpe_op op_add (qpv 8) (qpe_callB call_len_str (by rfl) B.len PySem.boot_len (qpa_Subscript (qpe_ix ix_tup (qpv 9) qpe_int (fun _ _ => rfl)) qpa_nil))) (qpv 1)))
        (qpss_cons (qps_set (i := 11) sc_law.nd rfl (Or.inr rfl) (qpe_callX D_rounds (hr.mono (by decide)) (by rfl) (qpa_Subscript (qpe_ix ix_tup (qpv 9) qpe_int (fun _ _ => rfl)) (qpa_Subscript (qpe_ix ix_tup (qpv 9) qpe_int (fun _ _ => rfl)) qpa_nil))))
        (qpss_cons (qps_setC (i := 13) sc_law.nd rfl (Or.inl rfl) (own := ["_law_k"]) (ns := ["_law_place", "_law_behind", "_law_every"]) (caps := [8, 12, 11]) rfl ⟨rfl, by decide +kernel, by decide +kernel, by decide +kernel⟩ (.cons rfl rfl (.inl rfl) (.cons rfl rfl (.inl rfl) (.cons rfl rfl (.inl rfl) .nil))) (qpi_range1 (by rfl) B.range (qpa_Call (qpe_callB call_len_seq (by rfl) B.len PySem.boot_len (qpa_Name (qpv 11) qpa_nil)) qpa_nil)) (fun C s H fp pn => (qpg_name (i := 0) (show List.Nodup ((["_law_k"] : List Str) ++ (["_law_place", "_law_behind", "_law_every"] : List Str)) by decide +kernel) rfl (Or.inl rfl))) (fun C s H fp pn => (qpf_one (qpt_chain op_le op_lt (qpv 1) (qpe_ix (ix_list' (K := K) rfl) (qpe_ix (ix_list' (K := K) rfl) (qpv 3) (qpv 0) (fun _ _ => rfl)) qpe_int (fun _ _ => rfl)) (qpv 2)))) (fun C s H fp pn => (qpv 0)))
        (qpss_one (qps_set (i := 9) sc_law.nd rfl (Or.inl rfl) (qpe_callX D_cut_out (hr.mono (by decide)) (by rfl) (qpa_Subscript (qpe_ix ix_tup (qpv 9) qpe_int (fun _ _ => rfl)) (qpa_Subscript (qpe_ix ix_tup (qpv 9) qpe_int (fun _ _ => rfl)) (qpa_Subscript (qpe_ix ix_list (qpv 13) qpe_int (fun _ _ => rfl)) qpa_nil))))))))))
      (qpss_one (qps_ret (qpe_cmpR (op_eqD (hu_64 hr)) (qpv 9) (qpv 3) (nomark _)))))))))))))))))))))), ?_⟩
    walk_at "wp"
    refine ⟨a, cl, 0, rfl, hS, fun c0 => ?_⟩
    walk_at "wp"
    obtain ⟨m, hm, em⟩ : ∃ m : Nat, m ≤ 11 ∧ (2 : Int) * (c0 % 12) = ((2 * m : Nat) : Int) := ⟨(c0 % 12).toNat, by omega, by omega⟩
    rw [em]
    refine ⟨by decide, .inl ⟨by decide, by decide⟩, a, cl, 0, rfl, hS, fun c0' => ?_⟩
    walk_at "wp"
    obtain ⟨m2, hm2, em2⟩ : ∃ m : Nat, m ≤ 11 ∧ (2 : Int) * (c0' / 12 % 12) = ((2 * m : Nat) : Int) := ⟨(c0' / 12 % 12).toNat, by omega, by omega⟩
    rw [em2]
    refine ⟨⟨by decide, by decide⟩, by decide, .inl ⟨by decide, by decide⟩, a, cl, 1, rfl, hS, fun c1 => ⟨c1, m, rfl, by omega, fun bs H1 bal hbl s1 => ⟨a, cl, 2, rfl, s1.seq hS, fun c2 => ⟨c2, m, rfl, by omega, fun cs H2 balR hcl s2 => ⟨(by show 2 ≤ sizeLine; decide), fun po npo => ?_⟩⟩⟩⟩⟩
    have T : TwoW bs cs := ⟨bal, balR, by omega, by omega⟩
    have s02 := s1.trans s2
    have s3 := s02.new (o := .tup [.str (wd bs), .str (wd cs)]) (s02.free npo)
    have hpo : upd H2 po (.tup [.str (wd bs), .str (wd cs)]) po = some (.tup [.str (wd bs), .str (wd cs)]) := upd_same
    generalize upd H2 po (.tup [.str (wd bs), .str (wd cs)]) = H3 at s3 hpo ⊢
    refine ⟨a, cl, 3, rfl, s3.seq hS, fun c3 => ⟨c3, m2, rfl, by omega, fun b2 H4 bal2 hbl2 s4 => ⟨a, cl, 4, rfl, (s3.trans s4).seq hS, fun c4 => ⟨c4, m2, rfl, by omega, fun d2 H5 balR2 hcl2 s5 => ⟨(by show 2 ≤ sizeLine; decide), fun pt npt => ?_⟩⟩⟩⟩⟩
    have T2 : TwoW b2 d2 := ⟨bal2, balR2, by omega, by omega⟩
    have s35 := s4.trans s5
    have s36 := s35.new (o := .tup [.str (wd b2), .str (wd d2)]) (s35.free npt)
    have hpt : upd H5 pt (.tup [.str (wd b2), .str (wd d2)]) pt = some (.tup [.str (wd b2), .str (wd d2)]) := upd_same
    have hpo6 := s36 _ _ hpo
    generalize upd H5 pt (.tup [.str (wd b2), .str (wd d2)]) = H6 at s36 hpt hpo6 ⊢
    have s06 := s3.trans s36
    refine ⟨a, cl, 5, rfl, s06.seq hS, fun c => ?_⟩
    have tb := wd_txt T.len
    have tc : TxtOk (wdD cs) := wd_txt (by omega)
    have tb2 := wd_txt T2.len
    have td2 : TxtOk (wdD d2) := wd_txt (by omega)
    refine cut_intro (fun σ H' => ∃ (vo : V) (k : PyData), σ = [some (.ref a), some (.int ((2 * m : Nat) : Int)), some (.int ((2 * m2 : Nat) : Int)), some (.ref po), some (.ref pt), some (.int c), some vo, none, none, none, none, none, none, none] ∧ Same H6 H' ∧ Dat H' vo k ∧ belD k (bs.length + 1) = false) ?_ ?_
    · refine asg_of (disp_any (ds := [.none, .int (-1), .int ((bs.length + 1 : Nat) : Int), .bool true, .str (Str.ofString "0"), .list [.int 0], .int (10 ^ Int.toNat 30)]) ?_ (by show 7 ≤ 1000; decide) (fun H' Q' s' h => ?_) fun v d H' s' hd hv => ?_)
      · refine .cons .non (.cons (.neg 1) (.cons (.val fun H Q s h => ?_) (.cons (.bl true) (.cons (.str _) (.cons (.lst (.cons (.int 0) .nil) (by decide)) (.cons (.val fun H Q s h => ?_) .nil))))))
        · walk_at "wp"
          have e : ((2 * m : Nat) : Int) + 1 = ((bs.length + 1 : Nat) : Int) := by omega
          rw [e]; exact h
        · walk_at "wp"
          exact ⟨⟨by decide, by decide, by decide⟩, h⟩
      · walk_at "wp"
        exact ⟨by decide, h _ (Int.emod_nonneg _ (by decide)) (Int.emod_lt_of_pos _ (by decide))⟩
      · walk_at "wp"
        refine ⟨v, d, rfl, s', hv, ?_⟩
        simp only [List.mem_cons, List.not_mem_nil, or_false] at hd
        rcases hd with rfl | rfl | rfl | rfl | rfl | rfl | rfl
        · rfl
        · rfl
        · exact bel_len _
        · rfl
        · rfl
        · rfl
        · exact bel_big (by omega)
    · rintro σ H7 ⟨vo, k, rfl, s7, hk, bk⟩
      have hpo7 := s7 _ _ hpo6
      have hpt7 := s7 _ _ hpt
      refine cut_intro (fun σ H' => ∃ x7 : Option V, σ = [some (.ref a), some (.int ((2 * m : Nat) : Int)), some (.int ((2 * m2 : Nat) : Int)), some (.ref po), some (.ref pt), some (.int c), some vo, x7, none, none, none, none, none, none] ∧ Same H7 H') ?_ ?_
      · rw [L2.w_forL]
        have sz1 : ∀ (z : Str) (es : List Bool), z.length ≤ 10 → es.length ≤ 40 → (wd es).length + z.length ≤ sizeLine ∧ z.length + (wd es).length ≤ sizeLine := fun z es hz he => by
          have := wd_length es
          exact ⟨Nat.le_of_lt (small1000 (by omega)), Nat.le_of_lt (small1000 (by omega))⟩
        refine lst_of (w := View.all) (ds := [.tuple [.str (wd b2 ++ Str.ofString "()"), wdD d2], .tuple [wdD b2, .str (Str.ofString ")" ++ wd d2)], .tuple [.none, .str (Str.ofString "")], .tuple [.str (Str.ofString "()"), .int 7]]) ?_ (by show 4 ≤ 1000; decide) trivial fun p xs H8 _ s8 _ g hL => ?_
        · refine .cons (.tup (.cons (D1.txt fun H Q s h => ?_) (.cons (D1.ix rfl hpt7 rfl (.str _)) .nil)) (by show 2 ≤ 1000; decide)) (.cons (.tup (.cons (D1.ix rfl hpt7 rfl (.str _)) (.cons (D1.txt fun H Q s h => ?_) .nil)) (by show 2 ≤ 1000; decide)) (.cons (.tup (.cons .non (.cons (.str _) .nil)) (by show 2 ≤ 1000; decide)) (.cons (.tup (.cons (.str _) (.cons (.int 7) .nil)) (by show 2 ≤ 1000; decide)) .nil)))
          · walk_at "wp"
            exact ⟨_, .str (wd b2), SqT.of (s _ _ hpt7), rfl, wd b2, _, rfl, rfl, (sz1 (Str.ofString "()") b2 (by decide +kernel) T2.len).1, h⟩
          · walk_at "wp"
            exact ⟨_, .str (wd d2), SqT.of (s _ _ hpt7), rfl, _, wd d2, rfl, rfl, (sz1 (Str.ofString ")") d2 (by decide +kernel) (by omega)).2, h⟩
        · have odd : ∀ d ∈ [PyData.tuple [.str (wd b2 ++ Str.ofString "()"), wdD d2], .tuple [wdD b2, .str (Str.ofString ")" ++ wd d2)], .tuple [.none, .str (Str.ofString "")], .tuple [.str (Str.ofString "()"), .int 7]], OddP d := by
            intro d hd
            simp only [List.mem_cons, List.not_mem_nil, or_false] at hd
            rcases hd with rfl | rfl | rfl | rfl
            · have o : OddW (.str (wd b2 ++ Str.ofString "()")) d2 := odd_oc T2.len T2.eq
              exact ⟨_, _, rfl, o.1, td2, o.2.1⟩
            · have o : OddW (.str (Str.ofString ")" ++ wd d2)) b2 := (odd_app (by omega) (by omega) (by decide +kernel) (by decide +kernel)).2
              exact ⟨_, _, rfl, tb2, o.1, o.2.2⟩
            · exact ⟨_, _, rfl, trivial, ⟨by decide +kernel, by decide +kernel⟩, rfl⟩
            · exact ⟨_, _, rfl, ⟨by decide +kernel, by decide +kernel⟩, trivial, by decide +kernel⟩
          refine ⟨p, rfl, ⟨_, SqL.of g⟩, for_list (xs := xs) (fun i σ H' => ∃ x7 : Option V, σ = [some (.ref a), some (.int ((2 * m : Nat) : Int)), some (.int ((2 * m2 : Nat) : Int)), some (.ref po), some (.ref pt), some (.int c), some vo, x7, none, none, none, none, none, none] ∧ Same H8 H') ⟨_, rfl, Same.refl _⟩ (fun i σ H _ ⟨_, _, h⟩ => SqL.of (h _ _ g)) ?_ ?_⟩
          · rintro i x σ H9 hx ⟨x7, rfl, s9⟩
            obtain ⟨d, hd, hv⟩ := hL.get hx
            obtain ⟨e1, e2, rfl, t1, t2, hf⟩ := odd d (List.mem_of_getElem? hd)
            obtain ⟨t, v1, v2, rfl, ht, hv1, hv2⟩ := tup2_of (hv.same s9)
            have s79 := s8.trans s9
            have hk9 := hk.same s79
            walk_at "wp"
            refine ⟨po, _, _, vo, t, v1, v2, wdD bs, wdD cs, k, e1, e2, true, rfl, s79 _ _ hpo7, ht, .str _, tb, .str _, tc, hk9, hv1, t1, hv2, t2, .inr (.inl hf), fun H10 s10 => ?_⟩
            walk_at "wp"
            refine ⟨t, v1, v2, vo, pt, _, _, e1, e2, k, wdD b2, wdD d2, true, rfl, s10 _ _ ht, (s79.trans s10) _ _ hpt7, hv1.same s10, t1, hv2.same s10, t2, hk9.same s10, .str _, tb2, .str _, td2, .inl hf, fun H11 s11 => ?_⟩
            walk_at "wp"
            exact ⟨_, rfl, s9.trans (s10.trans s11)⟩
          · rintro σ H9 ⟨x7, rfl, s9⟩
            exact ⟨x7, rfl, s8.trans s9⟩
      · rintro σ H8 ⟨x7, rfl, s8⟩
        have hpo8 := s8 _ _ hpo7
        have hpt8 := s8 _ _ hpt7
        have hk8 := hk.same s8
        walk_at "wp"
        refine ite2 (fun hbig => ?_) (fun hle => ?_)
        · have lr : ∀ k, LayRef (wdD bs) (wdD cs) k (wdD b2) (wdD d2) true := fun k => .inr (.inr ⟨bs, cs, b2, d2, rfl, rfl, T, rfl, rfl, T2, by omega⟩)
          refine ⟨po, _, _, vo, pt, _, _, wdD bs, wdD cs, k, wdD b2, wdD d2, true, rfl, hpo8, hpt8, .str _, tb, .str _, tc, hk8, .str _, tb2, .str _, td2, lr k, fun H9 s9 => ?_⟩
          walk_at "wp"
          exact ⟨po, _, _, .int 0, pt, _, _, wdD bs, wdD cs, .int 0, wdD b2, wdD d2, true, rfl, s9 _ _ hpo8, s9 _ _ hpt8, .str _, tb, .str _, tc, .int 0, .str _, tb2, .str _, td2, lr _, fun H10 _ => kQ _⟩
        · have h40 : bs.length + b2.length ≤ 40 := by omega
          refine cut_intro (fun σ H' => σ = [some (.ref a), some (.int ((2 * m : Nat) : Int)), some (.int ((2 * m2 : Nat) : Int)), some (.ref po), some (.ref pt), some (.int c), some vo, x7, none, none, none, none, none, none] ∧ Same H8 H') ?_ ?_
          · walk_at "wp"
            refine ⟨po, _, _, vo, pt, _, _, wdD bs, wdD cs, k, wdD b2, wdD d2, false, rfl, hpo8, hpt8, .str _, tb, .str _, tc, hk8, .str _, tb2, .str _, td2, ⟨bs, cs, b2, d2, rfl, rfl, T, rfl, rfl, T2, h40, bk⟩, fun H9 s9 => ?_⟩
            walk_at "wp"
            exact ⟨by first | rfl | trivial, s9⟩
          · rintro σ H9 ⟨rfl, s9⟩
            have hpo9 := s9 _ _ hpo8
            have hpt9 := s9 _ _ hpt8
            walk_at "wp"
            have q0 : 0 ≤ c / 7 % (((2 * m : Nat) : Int) + 1) := Int.emod_nonneg _ (by omega)
            have q1 : c / 7 % (((2 * m : Nat) : Int) + 1) < ((2 * m : Nat) : Int) + 1 := Int.emod_lt_of_pos _ (by omega)
            obtain ⟨p, hp⟩ : ∃ p : Nat, c / 7 % (((2 * m : Nat) : Int) + 1) = p := ⟨(c / 7 % (((2 * m : Nat) : Int) + 1)).toNat, by omega⟩
            rw [hp]
            have pl : p ≤ bs.length := by omega
            refine ⟨⟨by decide, by decide⟩, by omega, _, _, SqT.of hpo9, rfl, _, _, SqT.of hpo9, rfl, _, _, SqT.of hpt9, rfl, _, _, SqT.of hpt9, rfl, _, _, _, _, _, wdD bs, wdD cs, .int p, wdD b2, wdD d2, rfl, .str _, tb, .str _, tc, .int _, .str _, tb2, .str _, td2, .inl ⟨bs, cs, b2, d2, p, rfl, rfl, T, rfl, rfl, T2, h40, rfl, pl, fun fo H10 nfo s10 hfo => ?_⟩⟩
            walk_at "wp"
            have s9x := s10
            have hpo10 := s10 _ _ hpo9
            have hpt10 := s10 _ _ hpt9
            have pc : p ≤ cs.length := by omega
            have lw : ∀ es : List Bool, es.length ≤ 80 → (wd es).length ≤ sizeLine := fun es h => by rw [wd_length]; exact Nat.le_of_lt (small1000 (by omega))
            have put : ∀ (es fs : List Bool), es.length ≤ 40 → fs.length ≤ 40 → p ≤ es.length → (wd (es.take p)).length + (wd fs).length ≤ sizeLine ∧ (wd (es.take p) ++ wd fs).length + (wd (es.drop p)).length ≤ sizeLine ∧ wd (es.take p) ++ wd fs ++ wd (es.drop p) = wd (insW p fs es) := fun es fs h1 h2 h3 => by
              have l1 := wd_length (es.take p)
              have l2 := wd_length fs
              have l3 := wd_length (es.drop p)
              rw [List.length_take] at l1
              rw [List.length_drop] at l3
              have l4 := wd_length (es.take p ++ fs)
              rw [List.length_append, List.length_take] at l4
              refine ⟨Nat.le_of_lt (small1000 (by omega)), by rw [wd_app]; exact Nat.le_of_lt (small1000 (by omega)), ?_⟩
              rw [wd_app, wd_app, List.append_assoc]; rfl
            refine ⟨by decide, by decide, comp_mapR (by decide) [.str (wd (insW p b2 bs)), .str (wd (insW p d2 cs))] rfl (fun j y Q' hj hy hq => ?_) fun pl2 npl2 => ?_⟩
            · have hj' : j = 0 ∨ j = 1 := by have : j < 2 := hj; omega
              rcases hj' with rfl | rfl
              · have ey : y = .str (wd (insW p b2 bs)) := by simp at hy; exact hy.symm
                subst ey
                obtain ⟨a1, a2, a3⟩ := put bs b2 T.len T2.len pl
                walk_at "wp"
                refine ⟨_, .str (wd bs), SqT.of hpo10, rfl, wd bs, rfl, lw bs (by omega), ?_⟩
                rw [sl_to pl]
                refine ⟨_, .str (wd b2), SqT.of hpt10, rfl, _, _, rfl, rfl, a1, _, .str (wd bs), SqT.of hpo10, rfl, wd bs, rfl, lw bs (by omega), ?_⟩
                rw [sl_from pl]
                exact ⟨_, _, rfl, rfl, a2, by rw [a3]; exact hq⟩
              · have ey : y = .str (wd (insW p d2 cs)) := by simp at hy; exact hy.symm
                subst ey
                obtain ⟨a1, a2, a3⟩ := put cs d2 (by omega) (by omega) pc
                walk_at "wp"
                refine ⟨_, .str (wd cs), SqT.of hpo10, rfl, wd cs, rfl, lw cs (by omega), ?_⟩
                rw [sl_to pc]
                refine ⟨_, .str (wd d2), SqT.of hpt10, rfl, _, _, rfl, rfl, a1, _, .str (wd cs), SqT.of hpo10, rfl, wd cs, rfl, lw cs (by omega), ?_⟩
                rw [sl_from pc]
                exact ⟨_, _, rfl, rfl, a2, by rw [a3]; exact hq⟩
            · refine ⟨pl2, _, rfl, .inl ⟨SqL.of upd_same, fun du ndu => ?_⟩⟩
              have s11 := (Same.refl H10).new (o := .lst [.str (wd (insW p b2 bs)), .str (wd (insW p d2 cs))]) npl2
              have s12 := s11.new (o := .tup [.str (wd (insW p b2 bs)), .str (wd (insW p d2 cs))]) (s11.free ndu)
              have hdu : upd (upd H10 pl2 (.lst [.str (wd (insW p b2 bs)), .str (wd (insW p d2 cs))])) du (.tup [.str (wd (insW p b2 bs)), .str (wd (insW p d2 cs))]) du = some (.tup [.str (wd (insW p b2 bs)), .str (wd (insW p d2 cs))]) := upd_same
              generalize upd (upd H10 pl2 (.lst [.str (wd (insW p b2 bs)), .str (wd (insW p d2 cs))])) du (.tup [.str (wd (insW p b2 bs)), .str (wd (insW p d2 cs))]) = H12 at s12 hdu ⊢
              have hfo12 := s12 _ _ hfo
              refine cut_intro (fun σ H' => σ = [some (.ref a), some (.int ((2 * m : Nat) : Int)), some (.int ((2 * m2 : Nat) : Int)), some (.ref po), some (.ref pt), some (.int c), some vo, x7, some (.int p), some (.ref fo), some (.ref du), none, none, none] ∧ Same H12 H') ?_ ?_
              · walk_at "wp"
                refine ⟨_, _, _, true, rfl, .tup hfo12, rfl, ?_⟩
                walk_at "wp"
                refine ifN (fun z => nomatch z) (ne_texts (wd_lay _) (wd_lay _) hfo12 hdu ?_)
                walk_at "wp"
                exact ⟨by first | rfl | trivial, Same.refl _⟩
              · rintro σ H13 ⟨rfl, s13⟩
                have L := lay_words T T2 pl h40
                have hpo13 := (s12.trans s13) _ _ hpo10
                have hpt13 := (s12.trans s13) _ _ hpt10
                have hfo13 := s13 _ _ hfo12
                have rinO := rsF_rin (mtF_prt bal) (show Prt bs.length (mtF cs) by have := mtF_prt balR; rw [T.eq] at this; exact this) T.len bs.length (Nat.le_refl _)
                have rinI := rsF_rin (mtF_prt bal2) (show Prt b2.length (mtF d2) by have := mtF_prt balR2; rw [T2.eq] at this; exact this) T2.len b2.length (Nat.le_refl _)
                have lenO := Nat.le_trans rinO.1.len T.len
                have lenI := Nat.le_trans rinI.1.len T2.len
                walk_at "wp"
                refine ⟨_, .str (wd b2), SqT.of hpt13, rfl, _, .str (wd d2), SqT.of hpt13, rfl, b2, d2, rfl, T2, fun e1 w1 H14 n14 s14 h14 r14 => ⟨e1, rfl, ⟨_, SqL.of h14⟩, comp_rounds (p + ·) h14 r14 (by omega) (fun H' z r Q' sm hz hr hq => ?_) fun ys1 H15 p1 s15 r15 np1 => ?_⟩⟩
                · have hr80 := rinI.2 r hr
                  walk_at "wp"
                  refine ⟨⟨_, SqL.of hz⟩, comp_mapL (SqL.of hz) (Nat.le_of_lt (small1000 (by simp only [natI, List.length_map]; omega))) (natI (r.map (p + ·))) (by simp [natI]) (fun j x y Q'' hx hy hq2 => ?_) hq⟩
                  simp only [natI, List.getElem?_map, Option.map_eq_some_iff] at hx hy
                  obtain ⟨z1, hz1, rfl⟩ := hx
                  obtain ⟨z', ⟨z2, hz2, rfl⟩, rfl⟩ := hy
                  have : z2 = z1 := Option.some.inj (hz2.symm.trans hz1)
                  subst this
                  walk_at "wp"
                  have e : (z2 : Int) + (p : Int) = ((p + z2 : Nat) : Int) := by omega
                  rw [e]; exact hq2
                · have s16 := s15.new (o := .lst ys1) (s15.free np1)
                  have s13x := s14.trans s16
                  have hp1 : upd H15 p1 (.lst ys1) p1 = some (.lst ys1) := upd_same
                  have r16 : RefL (upd H15 p1 (.lst ys1)) (fun _ => True) ys1 ((rsW b2 d2).map (·.map (p + ·))) := r15.imp fun a o _ ha => ⟨by rw [upd_ne (ne_of_none ha np1)]; exact ha, trivial⟩
                  generalize upd H15 p1 (.lst ys1) = H16 at s16 s13x hp1 r16 ⊢
                  have hpo16 := s13x _ _ hpo13
                  refine ⟨_, .str (wd bs), SqT.of hpo16, rfl, _, .str (wd cs), SqT.of hpo16, rfl, bs, cs, rfl, T, fun e2 w2 H17 n17 s17 h17 r17 => ⟨e2, rfl, ⟨_, SqL.of h17⟩, comp_rounds (sh p (2 * m2)) h17 r17 (by omega) (fun H' z r Q' sm hz hr hq => ?_) fun ys2 H18 p2 s18 r18 np2 => ?_⟩⟩
                  · have hr80 := rinO.2 r hr
                    walk_at "wp"
                    exact ⟨z, r, p, 2 * m2, rfl, hz, hr80, by omega, hq⟩
                  · have s19 := s18.new (o := .lst ys2) (s18.free np2)
                    have s16x := s17.trans s19
                    have hp2 : upd H18 p2 (.lst ys2) p2 = some (.lst ys2) := upd_same
                    have r19 : RefL (upd H18 p2 (.lst ys2)) (fun _ => True) ys2 ((rsW bs cs).map (·.map (sh p (2 * m2)))) := r18.imp fun a o _ ha => ⟨by rw [upd_ne (ne_of_none ha np2)]; exact ha, trivial⟩
                    generalize upd H18 p2 (.lst ys2) = H19 at s19 s16x hp2 r19 ⊢
                    have hp1' := s16x _ _ hp1
                    have r16' : RefL H19 (fun _ => True) ys1 ((rsW b2 d2).map (·.map (p + ·))) := r16.imp fun a o _ ha => ⟨s16x _ _ ha, trivial⟩
                    have rA := r16'.app r19
                    have lA := rA.len
                    rw [List.length_append, List.length_append, List.length_map, List.length_map] at lA
                    refine ⟨p1, p2, _, _, rfl, rfl, hp1', hp2, Nat.le_of_lt (small1000 (by have : (rsW bs cs).length ≤ 40 := lenO; have : (rsW b2 d2).length ≤ 40 := lenI; omega)), fun ea nea => ?_⟩
                    have s20 := (Same.refl H19).new (o := .lst (ys1 ++ ys2)) nea
                    have hea : upd H19 ea (.lst (ys1 ++ ys2)) ea = some (.lst (ys1 ++ ys2)) := upd_same
                    have r20 := rA.imp (H' := upd H19 ea (.lst (ys1 ++ ys2))) (P' := fun _ => True) fun a o _ ha => ⟨s20 _ _ ha, trivial⟩
                    have s13z := s13x.trans (s16x.trans s20)
                    generalize upd H19 ea (.lst (ys1 ++ ys2)) = H20 at s20 hea r20 s13z ⊢
                    have hfo20 := s13z _ _ hfo13
                    have hpo20 := s13z _ _ hpo13
                    refine cut_intro (fun σ H' => σ = [some (.ref a), some (.int ((2 * m : Nat) : Int)), some (.int ((2 * m2 : Nat) : Int)), some (.ref po), some (.ref pt), some (.int c), some vo, x7, some (.int p), some (.ref fo), some (.ref du), some (.ref ea), none, none] ∧ Same H20 H') ?_ ?_
                    · have eb : b2.length = 2 * m2 := hbl2
                      have PP : (rsW (insW p b2 bs) (insW p d2 cs)).Perm ((rsW b2 d2).map (·.map (p + ·)) ++ (rsW bs cs).map (·.map (sh p (2 * m2)))) := by
                        have := L.2
                        rw [eb] at this
                        exact this.trans List.perm_append_comm
                      have rinC := rsF_rin (mtF_prt L.1.bal) (show Prt (insW p b2 bs).length (mtF (insW p d2 cs)) by have := mtF_prt L.1.balR; rw [L.1.eq] at this; exact this) L.1.len (insW p b2 bs).length (Nat.le_refl _)
                      have HA : HeadsApart (rsW (insW p b2 bs) (insW p d2 cs)) := heads_of rinC.1.rn
                      have cl40 : (rsW (insW p b2 bs) (insW p d2 cs)).length ≤ 40 := Nat.le_trans rinC.1.len L.1.len
                      walk_at "wp"
                      refine ⟨_, .str (wd (insW p b2 bs)), SqT.of hfo20, rfl, _, .str (wd (insW p d2 cs)), SqT.of hfo20, rfl, _, _, wdD (insW p b2 bs), wdD (insW p d2 cs), rfl, .str _, wd_txt L.1.len, .str _, wd_txt (by have := L.1.len; have := L.1.eq; omega), .inl ⟨_, _, rfl, rfl, L.1, fun l1 w1' H22 n22 s22 h22 r22 c40 c80 => ?_⟩⟩
                      obtain ⟨as1, rfl, P1⟩ := ref_as r22
                      refine ⟨l1, as1, rsW (insW p b2 bs) (insW p d2 cs), rfl, SqL.of h22, P1, by omega, HA, fun l1' as1' rs1' n1' P1' pm1 so1 => ?_⟩
                      have s23 := (Same.refl H22).new (o := .lst (as1'.map V.ref)) n1'
                      have h23 : upd H22 l1' (.lst (as1'.map V.ref)) l1' = some (.lst (as1'.map V.ref)) := upd_same
                      have R1 := (as_ref P1').imp (H' := upd H22 l1' (.lst (as1'.map V.ref))) (P' := fun _ => True) fun a o _ ha => ⟨s23 _ _ ha, trivial⟩
                      generalize upd H22 l1' (.lst (as1'.map V.ref)) = H23 at s23 h23 R1 ⊢
                      have s2023 := s22.trans s23
                      obtain ⟨as2, e2', P2⟩ := ref_as (r20.imp (H' := H23) (P' := fun _ => True) fun a o _ ha => ⟨s2023 _ _ ha, trivial⟩)
                      have hea23 := s2023 _ _ hea
                      rw [e2'] at hea23
                      refine ⟨ea, as2, _, rfl, SqL.of hea23, P2, by have := PP.length_eq; omega, HA.perm PP, fun l2' as2' rs2' n2' P2' pm2 so2 => ?_⟩
                      have er : rs1' = rs2' := sort_uniq (pm1.trans (PP.trans pm2.symm)) (HA.perm pm1.symm) so1 so2
                      subst er
                      have s24 := (Same.refl H23).new (o := .lst (as2'.map V.ref)) n2'
                      refine neL_rs (s24 _ _ h23) upd_same (R1.imp (P' := fun _ => True) fun a o _ ha => ⟨s24 _ _ ha, trivial⟩) ((as_ref P2').imp (P' := fun _ => True) fun a o _ ha => ⟨s24 _ _ ha, trivial⟩) ?_
                      walk_at "wp"
                      exact ⟨by first | rfl | trivial, s2023.trans s24⟩
                    · rintro σ H21 ⟨rfl, s21⟩
                      have hfo21 := s21 _ _ hfo20
                      have hpo21 := s21 _ _ hpo20
                      refine cut_intro (fun σ H' => ∃ (fo' : Addr) (x11 x12 x13 : Option V), σ = [some (.ref a), some (.int ((2 * m : Nat) : Int)), some (.int ((2 * m2 : Nat) : Int)), some (.ref po), some (.ref pt), some (.int c), some vo, x7, some (.int p), some (.ref fo'), some (.ref du), x11, x12, x13] ∧ Same H21 H' ∧ H' fo' = some (.tup [.str (wd bs), .str (wd cs)])) ?_ ?_
                      · refine ⟨fun mm σ H' => ∃ (b3 d3 : List Bool) (fo' : Addr) (x11 x12 x13 : Option V), TwoW b3 d3 ∧ bs.length + b3.length ≤ 40 ∧ σ = [some (.ref a), some (.int ((2 * m : Nat) : Int)), some (.int ((2 * m2 : Nat) : Int)), some (.ref po), some (.ref pt), some (.int c), some vo, x7, some (.int p), some (.ref fo'), some (.ref du), x11, x12, x13] ∧ Same H21 H' ∧ H' fo' = some (layO p bs cs b3 d3) ∧ mm = b3.length, ⟨_, b2, d2, fo, _, _, _, T2, h40, rfl, Same.refl _, hfo21, rfl⟩, ?_⟩
                        rintro mm σ H22 ⟨b3, d3, fo', x11, x12, x13, T3, h43, rfl, s22, hf, rfl⟩
                        have L3 := lay_words T T3 pl h43
                        have l3 : (wd (insW p b3 bs)).length = bs.length + b3.length := by rw [wd_length, ins_len pl]
                        have z3 : (wd (insW p b3 bs)).length ≤ sizeLine := by rw [l3]; exact Nat.le_of_lt (small1000 (by omega))
                        walk_at "wp"
                        refine ⟨_, .str (wd (insW p b3 bs)), SqT.of hf, rfl, _, rfl, z3, ite2 (fun hgt => ?_) (fun hle2 => ?_)⟩
                        · refine ⟨fun σ' H' => ∃ m', m' < b3.length ∧ ∃ (b3 d3 : List Bool) (fo' : Addr) (x11 x12 x13 : Option V), TwoW b3 d3 ∧ bs.length + b3.length ≤ 40 ∧ σ' = [some (.ref a), some (.int ((2 * m : Nat) : Int)), some (.int ((2 * m2 : Nat) : Int)), some (.ref po), some (.ref pt), some (.int c), some vo, x7, some (.int p), some (.ref fo'), some (.ref du), x11, x12, x13] ∧ Same H21 H' ∧ H' fo' = some (layO p bs cs b3 d3) ∧ m' = b3.length, fun σ' H' h => h, ?_⟩
                          have h30 : 0 < b3.length := by omega
                          have rin3 := rsF_rin (mtF_prt L3.1.bal) (show Prt (insW p b3 bs).length (mtF (insW p d3 cs)) by have := mtF_prt L3.1.balR; rw [L3.1.eq] at this; exact this) L3.1.len (insW p b3 bs).length (Nat.le_refl _)
                          have rin4 := rsF_rin (mtF_prt T3.bal) (show Prt b3.length (mtF d3) by have := mtF_prt T3.balR; rw [T3.eq] at this; exact this) T3.len b3.length (Nat.le_refl _)
                          have tL : TxtOk (wdD (insW p b3 bs)) := wd_txt L3.1.len
                          have tR : TxtOk (wdD (insW p d3 cs)) := wd_txt (by have := L3.1.len; have := L3.1.eq; omega)
                          refine ⟨_, .str (wd (insW p b3 bs)), SqT.of hf, rfl, _, rfl, z3, _, .str (wd (insW p b3 bs)), SqT.of hf, rfl, _, .str (wd (insW p d3 cs)), SqT.of hf, rfl, _, _, wdD (insW p b3 bs), wdD (insW p d3 cs), rfl, .str _, tL, .str _, tR, .inl ⟨_, _, rfl, rfl, L3.1, fun ev we H24 n24 s24 h24 r24 c40 c80 => ?_⟩⟩
                          have wl : we.length = (rsW (insW p b3 bs) (insW p d3 cs)).length := r24.len
                          have w40 : we.length ≤ 40 := by rw [wl]; exact c40
                          have eq3 : (p : Int) + ((wd (insW p b3 bs)).length : Int) - ((2 * m : Nat) : Int) = ((p + b3.length : Nat) : Int) := by rw [l3]; omega
                          rw [eq3]
                          refine ⟨ev, we, rfl, .inl (SqL.of h24), by omega, by omega, ?_⟩
                          have en : ((we.length : Nat) : Int).toNat = we.length := by omega
                          rw [en]
                          refine comp_range (fun k ys σ H' => H' = H24 ∧ ys = natI ((List.range k).filter (selG (rsW (insW p b3 bs) (insW p d3 cs)) p (p + b3.length))) ∧ ∃ x0, σ = [x0, some (.int p), some (.int ((p + b3.length : Nat) : Int)), some (.ref ev)]) ⟨rfl, rfl, _, rfl⟩ (fun k ys σ H' h => by rw [h.2.1]; simp only [natI, List.length_map]; exact Nat.le_trans (List.length_filter_le _ _) (by simp)) (Nat.le_of_lt (small1000 (by omega))) ?_ ?_
                          · rintro k' ys σ H' N hk' ⟨eH, rfl, x0, rfl⟩ hN
                            rw [eH]
                            have hv : we[k']? = some we[k'] := List.getElem?_eq_getElem hk'
                            obtain ⟨r, hr, ra, era, hra, _⟩ := L2.paired_get r24 hv
                            rw [era] at hv
                            have er : (rsW (insW p b3 bs) (insW p d3 cs)).getD k' [] = r := by simp [List.getD, show (rsW (insW p b3 bs) (insW p d3 cs))[k']? = some r from hr]
                            have nr : r ≠ [] := rin3.1.rn.ne r (List.mem_of_getElem? hr)
                            have h0r : atI (natI r) 0 = some (.int (hd0 r : Nat)) := by
                              cases r with
                              | nil => exact absurd rfl nr
                              | cons x r => exact atI_nat (xs := natI (x :: r)) (j := 0) rfl
                            have gk : selG (rsW (insW p b3 bs) (insW p d3 cs)) p (p + b3.length) k' = (decide (p ≤ hd0 r) && decide (hd0 r < p + b3.length)) := by unfold selG; rw [er]
                            have no : selG (rsW (insW p b3 bs) (insW p d3 cs)) p (p + b3.length) k' = false → N (natI ((List.range k').filter (selG (rsW (insW p b3 bs) (insW p d3 cs)) p (p + b3.length)))) [some (.int (k' : Nat)), some (.int p), some (.int ((p + b3.length : Nat) : Int)), some (.ref ev)] H24 := fun g => hN _ _ _ ⟨rfl, by rw [List.range_succ, List.filter_append, List.filter_cons_of_neg (by rw [g]; decide), List.filter_nil, List.append_nil], _, rfl⟩
                            walk_at "wp"
                            rw [Int.zero_add]
                            refine ⟨_, .ref ra, SqL.of h24, atI_nat hv, ra, natI r, 0, .int (hd0 r : Nat), rfl, rfl, SqL.of hra, h0r, _, _, rfl, rfl, _, rfl, ite2 (fun c1 => ⟨_, _, rfl, rfl, _, rfl, ite2 (fun c2 => ?_) (fun c2 => ?_)⟩) (fun c1 => ?_)⟩
                            · have c1' : p ≤ hd0 r := by have := of_decide_eq_true c1; omega
                              have c2' : hd0 r < p + b3.length := by have := of_decide_eq_true c2; omega
                              have g : selG (rsW (insW p b3 bs) (insW p d3 cs)) p (p + b3.length) k' = true := by rw [gk, decide_eq_true c1', decide_eq_true c2']; rfl
                              exact hN _ _ _ ⟨rfl, by rw [List.range_succ, List.filter_append, List.filter_cons_of_pos g, List.filter_nil]; simp [natI], _, rfl⟩
                            · refine no ?_
                              have c2' : decide (hd0 r < p + b3.length) = false := decide_eq_false (fun z => c2 (decide_eq_true (by omega)))
                              rw [gk, c2', Bool.and_false]
                            · refine no ?_
                              have c1' : decide (p ≤ hd0 r) = false := decide_eq_false (fun z => c1 (decide_eq_true (by omega)))
                              rw [gk, c1', Bool.false_and]
                          · rintro ys σ H' p1 ⟨eH, rfl, x0, rfl⟩ np1
                            rw [eH] at np1 ⊢
                            obtain ⟨r0, hr0, g1, g2⟩ := inner_ex T T3 pl h43 h30
                            obtain ⟨i0, hi0, ei0⟩ := List.getElem_of_mem hr0
                            have gi0 : selG (rsW (insW p b3 bs) (insW p d3 cs)) p (p + b3.length) i0 = true := by
                              unfold selG
                              have : (rsW (insW p b3 bs) (insW p d3 cs)).getD i0 [] = r0 := by simp [List.getD, hi0, ei0]
                              rw [this, decide_eq_true g1, decide_eq_true g2]; rfl
                            have mi0 : i0 ∈ (List.range we.length).filter (selG (rsW (insW p b3 bs) (insW p d3 cs)) p (p + b3.length)) := List.mem_filter.mpr ⟨List.mem_range.mpr (by omega), gi0⟩
                            cases hfil : (List.range we.length).filter (selG (rsW (insW p b3 bs) (insW p d3 cs)) p (p + b3.length)) with
                            | nil => rw [hfil] at mi0; cases mi0
                            | cons k0 rest =>
                              obtain ⟨mk1, mk2⟩ := List.mem_filter.mp (show k0 ∈ (List.range we.length).filter (selG (rsW (insW p b3 bs) (insW p d3 cs)) p (p + b3.length)) by rw [hfil]; simp)
                              have k0l : k0 < (rsW (insW p b3 bs) (insW p d3 cs)).length := by have := List.mem_range.mp mk1; omega
                              obtain ⟨r, hr⟩ : ∃ r, (rsW (insW p b3 bs) (insW p d3 cs))[k0]? = some r := ⟨_, List.getElem?_eq_getElem k0l⟩
                              have er : (rsW (insW p b3 bs) (insW p d3 cs)).getD k0 [] = r := by simp [List.getD, hr]
                              unfold selG at mk2
                              rw [er, Bool.and_eq_true, decide_eq_true_eq, decide_eq_true_eq] at mk2
                              obtain ⟨r2, hr2, rfl⟩ := inner_round T T3 pl h43 (List.mem_of_getElem? hr) mk2.1 mk2.2
                              have W := cut_words T3 hr2
                              have in2 : ∀ x ∈ r2, x < b3.length := fun x hx => (rin4.1.rn.inn r2 hr2 x hx).1
                              have in2' : ∀ x ∈ r2, x < d3.length := by rw [T3.eq]; exact in2
                              have less := cut_less in2 (rin4.1.rn.ne r2 hr2)
                              have s25 := s24.new (o := .lst (natI (k0 :: rest))) (s24.free np1)
                              refine ⟨_, .str (wd (insW p b3 bs)), SqT.of (s25 _ _ hf), rfl, _, .str (wd (insW p d3 cs)), SqT.of (s25 _ _ hf), rfl, p1, natI (k0 :: rest), 0, .int (k0 : Nat), rfl, rfl, SqL.of upd_same, atI_nat (xs := natI (k0 :: rest)) (j := 0) rfl, _, _, _, wdD (insW p b3 bs), wdD (insW p d3 cs), .int k0, rfl, .str _, tL, .str _, tR, .int _, .inl ⟨_, _, rfl, rfl, L3.1, .inl ⟨k0, _, rfl, hr, fun fo4 H26 n26 s26 h26 => ?_⟩⟩⟩
                              unfold cutO at h26
                              rw [cut_ins pl in2, cut_ins pc in2'] at h26
                              exact ⟨_, less, cutB (inR r2) b3, cutB (inR r2) d3, fo4, _, _, _, W.two, by omega, rfl, s22.trans (s25.trans s26), h26, rfl⟩
                        · have e3 : b3 = [] := List.length_eq_zero_iff.mp (by omega)
                          have f3 : d3 = [] := List.length_eq_zero_iff.mp (by have := T3.eq; rw [e3] at this; simpa using this)
                          subst e3 f3
                          refine ⟨fo', x11, x12, x13, rfl, s22, ?_⟩
                          have e4 : ∀ es : List Bool, insW p [] es = es := fun es => by unfold insW; rw [List.nil_append, List.take_append_drop]
                          unfold layO at hf
                          rw [e4, e4] at hf
                          exact hf
                      · rintro σ H23 ⟨fo', x11, x12, x13, rfl, s23, hf⟩
                        walk_at "wp"
                        have hpo23 := s23 _ _ hpo21
                        refine ⟨.tuple [.str (wd bs), .str (wd cs)], .tuple [.str (wd bs), .str (wd cs)], .tup (SqT.of hf) (.cons (.str _) (.cons (.str _) .nil)), .tup (SqT.of hpo23) (.cons (.str _) (.cons (.str _) .nil)), ?_, ?_, Nat.le_of_ble_eq_true rfl, ?_⟩
                        · show (PyData.canLay0 (.str (wd bs)) && (PyData.canLay0 (.str (wd cs)) && true)) = true
                          rw [wd_lay, wd_lay]; rfl
                        · show (PyData.canLay0 (.str (wd bs)) && (PyData.canLay0 (.str (wd cs)) && true)) = true
                          rw [wd_lay, wd_lay]; rfl
                        · have e : PyData.eqv (.tuple [.str (wd bs), .str (wd cs)]) (.tuple [.str (wd bs), .str (wd cs)]) = true := by
                            show (PyData.eqv (.str (wd bs)) (.str (wd bs)) && (PyData.eqv (.str (wd cs)) (.str (wd cs)) && true)) = true
                            simp [PyData.eqv]
                          rw [if_neg (by decide), e]
                          exact kQ _
end
theorem fn_mk {K : PySem.W.Frag} {h : Heap} {mg : Str → Option Value} (X : K.In h) (G : h.Ns mainGlobals mg) {x : Str} {st : Stmt} {ps : List Str} {f : Addr} {oc : Value} {od an : Option Addr} {osl : Array (Option Value)} {kV doc pm cdv ct : Value}
    (a : PySem.W.nsIn K mainGlobals x = some (some (.ref f))) (l : K.lookup f = some ⟨oc, od, .func (PySem.W.fnOf x x (defArgs st) (defBody st) (defScope st) .none kV doc pm an cdv ct), osl⟩) (c : PySem.W.codeIn K cdv x = true) (k : PySem.W.keepIn K (.ref f) = true)
    (hb : ∀ (kV doc pm : Value) (an : Option Addr) (cdv ct : Value) (us : List Value), us.length = ps.length → bindArgs (PySem.W.fnOf x x (defArgs st) (defBody st) (defScope st) .none kV doc pm an cdv ct) ⟨us, []⟩ = pure (ps.zip us)) : Fn K mg x st ps :=
  have F := fun_mk (st := st) l c k
  ⟨f, _, F, PySem.W.mg_of X G a, F.binds hb⟩
theorem all_mk {l : PySem.W.OpenLaw} {w : World} {K : PySem.W.Frag} {h : Heap} {mg : Str → Option Value} {fa : Addr} (X : K.In h) (G : h.Ns mainGlobals mg) (hfa : mg "law" = some (.ref fa))
    {f_is_whole : Addr} {od_is_whole an_is_whole : Option Addr} {sl_is_whole : Array (Option Value)} {oc_is_whole kV_is_whole dc_is_whole pm_is_whole cd_is_whole ct_is_whole : Value}
    (a_is_whole : PySem.W.nsIn K mainGlobals "is_whole" = some (some (.ref f_is_whole))) (l_is_whole : K.lookup f_is_whole = some ⟨oc_is_whole, od_is_whole, .func (PySem.W.fnOf "is_whole" "is_whole" (defArgs s_is_whole) (defBody s_is_whole) (defScope s_is_whole) .none kV_is_whole dc_is_whole pm_is_whole an_is_whole cd_is_whole ct_is_whole), sl_is_whole⟩) (c_is_whole : PySem.W.codeIn K cd_is_whole "is_whole" = true) (k_is_whole : PySem.W.keepIn K (.ref f_is_whole) = true)
    {f_is_word : Addr} {od_is_word an_is_word : Option Addr} {sl_is_word : Array (Option Value)} {oc_is_word kV_is_word dc_is_word pm_is_word cd_is_word ct_is_word : Value}
    (a_is_word : PySem.W.nsIn K mainGlobals "is_word" = some (some (.ref f_is_word))) (l_is_word : K.lookup f_is_word = some ⟨oc_is_word, od_is_word, .func (PySem.W.fnOf "is_word" "is_word" (defArgs s_is_word) (defBody s_is_word) (defScope s_is_word) .none kV_is_word dc_is_word pm_is_word an_is_word cd_is_word ct_is_word), sl_is_word⟩) (c_is_word : PySem.W.codeIn K cd_is_word "is_word" = true) (k_is_word : PySem.W.keepIn K (.ref f_is_word) = true)
    {f_pairs : Addr} {od_pairs an_pairs : Option Addr} {sl_pairs : Array (Option Value)} {oc_pairs kV_pairs dc_pairs pm_pairs cd_pairs ct_pairs : Value}
    (a_pairs : PySem.W.nsIn K mainGlobals "pairs" = some (some (.ref f_pairs))) (l_pairs : K.lookup f_pairs = some ⟨oc_pairs, od_pairs, .func (PySem.W.fnOf "pairs" "pairs" (defArgs s_pairs) (defBody s_pairs) (defScope s_pairs) .none kV_pairs dc_pairs pm_pairs an_pairs cd_pairs ct_pairs), sl_pairs⟩) (c_pairs : PySem.W.codeIn K cd_pairs "pairs" = true) (k_pairs : PySem.W.keepIn K (.ref f_pairs) = true)
    {f_vet_words : Addr} {od_vet_words an_vet_words : Option Addr} {sl_vet_words : Array (Option Value)} {oc_vet_words kV_vet_words dc_vet_words pm_vet_words cd_vet_words ct_vet_words : Value}
    (a_vet_words : PySem.W.nsIn K mainGlobals "vet_words" = some (some (.ref f_vet_words))) (l_vet_words : K.lookup f_vet_words = some ⟨oc_vet_words, od_vet_words, .func (PySem.W.fnOf "vet_words" "vet_words" (defArgs s_vet_words) (defBody s_vet_words) (defScope s_vet_words) .none kV_vet_words dc_vet_words pm_vet_words an_vet_words cd_vet_words ct_vet_words), sl_vet_words⟩) (c_vet_words : PySem.W.codeIn K cd_vet_words "vet_words" = true) (k_vet_words : PySem.W.keepIn K (.ref f_vet_words) = true)
    {f_partners : Addr} {od_partners an_partners : Option Addr} {sl_partners : Array (Option Value)} {oc_partners kV_partners dc_partners pm_partners cd_partners ct_partners : Value}
    (a_partners : PySem.W.nsIn K mainGlobals "partners" = some (some (.ref f_partners))) (l_partners : K.lookup f_partners = some ⟨oc_partners, od_partners, .func (PySem.W.fnOf "partners" "partners" (defArgs s_partners) (defBody s_partners) (defScope s_partners) .none kV_partners dc_partners pm_partners an_partners cd_partners ct_partners), sl_partners⟩) (c_partners : PySem.W.codeIn K cd_partners "partners" = true) (k_partners : PySem.W.keepIn K (.ref f_partners) = true)
    {f_round_from : Addr} {od_round_from an_round_from : Option Addr} {sl_round_from : Array (Option Value)} {oc_round_from kV_round_from dc_round_from pm_round_from cd_round_from ct_round_from : Value}
    (a_round_from : PySem.W.nsIn K mainGlobals "round_from" = some (some (.ref f_round_from))) (l_round_from : K.lookup f_round_from = some ⟨oc_round_from, od_round_from, .func (PySem.W.fnOf "round_from" "round_from" (defArgs s_round_from) (defBody s_round_from) (defScope s_round_from) .none kV_round_from dc_round_from pm_round_from an_round_from cd_round_from ct_round_from), sl_round_from⟩) (c_round_from : PySem.W.codeIn K cd_round_from "round_from" = true) (k_round_from : PySem.W.keepIn K (.ref f_round_from) = true)
    {f_rounds : Addr} {od_rounds an_rounds : Option Addr} {sl_rounds : Array (Option Value)} {oc_rounds kV_rounds dc_rounds pm_rounds cd_rounds ct_rounds : Value}
    (a_rounds : PySem.W.nsIn K mainGlobals "rounds" = some (some (.ref f_rounds))) (l_rounds : K.lookup f_rounds = some ⟨oc_rounds, od_rounds, .func (PySem.W.fnOf "rounds" "rounds" (defArgs s_rounds) (defBody s_rounds) (defScope s_rounds) .none kV_rounds dc_rounds pm_rounds an_rounds cd_rounds ct_rounds), sl_rounds⟩) (c_rounds : PySem.W.codeIn K cd_rounds "rounds" = true) (k_rounds : PySem.W.keepIn K (.ref f_rounds) = true)
    {f_is_below : Addr} {od_is_below an_is_below : Option Addr} {sl_is_below : Array (Option Value)} {oc_is_below kV_is_below dc_is_below pm_is_below cd_is_below ct_is_below : Value}
    (a_is_below : PySem.W.nsIn K mainGlobals "is_below" = some (some (.ref f_is_below))) (l_is_below : K.lookup f_is_below = some ⟨oc_is_below, od_is_below, .func (PySem.W.fnOf "is_below" "is_below" (defArgs s_is_below) (defBody s_is_below) (defScope s_is_below) .none kV_is_below dc_is_below pm_is_below an_is_below cd_is_below ct_is_below), sl_is_below⟩) (c_is_below : PySem.W.codeIn K cd_is_below "is_below" = true) (k_is_below : PySem.W.keepIn K (.ref f_is_below) = true)
    {f_without : Addr} {od_without an_without : Option Addr} {sl_without : Array (Option Value)} {oc_without kV_without dc_without pm_without cd_without ct_without : Value}
    (a_without : PySem.W.nsIn K mainGlobals "without" = some (some (.ref f_without))) (l_without : K.lookup f_without = some ⟨oc_without, od_without, .func (PySem.W.fnOf "without" "without" (defArgs s_without) (defBody s_without) (defScope s_without) .none kV_without dc_without pm_without an_without cd_without ct_without), sl_without⟩) (c_without : PySem.W.codeIn K cd_without "without" = true) (k_without : PySem.W.keepIn K (.ref f_without) = true)
    {f_cut_out : Addr} {od_cut_out an_cut_out : Option Addr} {sl_cut_out : Array (Option Value)} {oc_cut_out kV_cut_out dc_cut_out pm_cut_out cd_cut_out ct_cut_out : Value}
    (a_cut_out : PySem.W.nsIn K mainGlobals "cut_out" = some (some (.ref f_cut_out))) (l_cut_out : K.lookup f_cut_out = some ⟨oc_cut_out, od_cut_out, .func (PySem.W.fnOf "cut_out" "cut_out" (defArgs s_cut_out) (defBody s_cut_out) (defScope s_cut_out) .none kV_cut_out dc_cut_out pm_cut_out an_cut_out cd_cut_out ct_cut_out), sl_cut_out⟩) (c_cut_out : PySem.W.codeIn K cd_cut_out "cut_out" = true) (k_cut_out : PySem.W.keepIn K (.ref f_cut_out) = true)
    {f_put_in : Addr} {od_put_in an_put_in : Option Addr} {sl_put_in : Array (Option Value)} {oc_put_in kV_put_in dc_put_in pm_put_in cd_put_in ct_put_in : Value}
    (a_put_in : PySem.W.nsIn K mainGlobals "put_in" = some (some (.ref f_put_in))) (l_put_in : K.lookup f_put_in = some ⟨oc_put_in, od_put_in, .func (PySem.W.fnOf "put_in" "put_in" (defArgs s_put_in) (defBody s_put_in) (defScope s_put_in) .none kV_put_in dc_put_in pm_put_in an_put_in cd_put_in ct_put_in), sl_put_in⟩) (c_put_in : PySem.W.codeIn K cd_put_in "put_in" = true) (k_put_in : PySem.W.keepIn K (.ref f_put_in) = true)
    {f_laid_in : Addr} {od_laid_in an_laid_in : Option Addr} {sl_laid_in : Array (Option Value)} {oc_laid_in kV_laid_in dc_laid_in pm_laid_in cd_laid_in ct_laid_in : Value}
    (a_laid_in : PySem.W.nsIn K mainGlobals "laid_in" = some (some (.ref f_laid_in))) (l_laid_in : K.lookup f_laid_in = some ⟨oc_laid_in, od_laid_in, .func (PySem.W.fnOf "laid_in" "laid_in" (defArgs s_laid_in) (defBody s_laid_in) (defScope s_laid_in) .none kV_laid_in dc_laid_in pm_laid_in an_laid_in cd_laid_in ct_laid_in), sl_laid_in⟩) (c_laid_in : PySem.W.codeIn K cd_laid_in "laid_in" = true) (k_laid_in : PySem.W.keepIn K (.ref f_laid_in) = true)
    {f_alone : Addr} {od_alone an_alone : Option Addr} {sl_alone : Array (Option Value)} {oc_alone kV_alone dc_alone pm_alone cd_alone ct_alone : Value}
    (a_alone : PySem.W.nsIn K mainGlobals "_law_alone" = some (some (.ref f_alone))) (l_alone : K.lookup f_alone = some ⟨oc_alone, od_alone, .func (PySem.W.fnOf "_law_alone" "_law_alone" (defArgs s_alone) (defBody s_alone) (defScope s_alone) .none kV_alone dc_alone pm_alone an_alone cd_alone ct_alone), sl_alone⟩) (c_alone : PySem.W.codeIn K cd_alone "_law_alone" = true) (k_alone : PySem.W.keepIn K (.ref f_alone) = true)
    {f_cell_at : Addr} {od_cell_at an_cell_at : Option Addr} {sl_cell_at : Array (Option Value)} {oc_cell_at kV_cell_at dc_cell_at pm_cell_at cd_cell_at ct_cell_at : Value}
    (a_cell_at : PySem.W.nsIn K mainGlobals "_law_cell_at" = some (some (.ref f_cell_at))) (l_cell_at : K.lookup f_cell_at = some ⟨oc_cell_at, od_cell_at, .func (PySem.W.fnOf "_law_cell_at" "_law_cell_at" (defArgs s_cell_at) (defBody s_cell_at) (defScope s_cell_at) .none kV_cell_at dc_cell_at pm_cell_at an_cell_at cd_cell_at ct_cell_at), sl_cell_at⟩) (c_cell_at : PySem.W.codeIn K cd_cell_at "_law_cell_at" = true) (k_cell_at : PySem.W.keepIn K (.ref f_cell_at) = true)
    {f_digits : Addr} {od_digits an_digits : Option Addr} {sl_digits : Array (Option Value)} {oc_digits kV_digits dc_digits pm_digits cd_digits ct_digits : Value}
    (a_digits : PySem.W.nsIn K mainGlobals "_law_digits" = some (some (.ref f_digits))) (l_digits : K.lookup f_digits = some ⟨oc_digits, od_digits, .func (PySem.W.fnOf "_law_digits" "_law_digits" (defArgs s_digits) (defBody s_digits) (defScope s_digits) .none kV_digits dc_digits pm_digits an_digits cd_digits ct_digits), sl_digits⟩) (c_digits : PySem.W.codeIn K cd_digits "_law_digits" = true) (k_digits : PySem.W.keepIn K (.ref f_digits) = true)
    {f_word : Addr} {od_word an_word : Option Addr} {sl_word : Array (Option Value)} {oc_word kV_word dc_word pm_word cd_word ct_word : Value}
    (a_word : PySem.W.nsIn K mainGlobals "_law_word" = some (some (.ref f_word))) (l_word : K.lookup f_word = some ⟨oc_word, od_word, .func (PySem.W.fnOf "_law_word" "_law_word" (defArgs s_word) (defBody s_word) (defScope s_word) .none kV_word dc_word pm_word an_word cd_word ct_word), sl_word⟩) (c_word : PySem.W.codeIn K cd_word "_law_word" = true) (k_word : PySem.W.keepIn K (.ref f_word) = true)
    {f_across : Addr} {od_across an_across : Option Addr} {sl_across : Array (Option Value)} {oc_across kV_across dc_across pm_across cd_across ct_across : Value}
    (a_across : PySem.W.nsIn K mainGlobals "_law_across" = some (some (.ref f_across))) (l_across : K.lookup f_across = some ⟨oc_across, od_across, .func (PySem.W.fnOf "_law_across" "_law_across" (defArgs s_across) (defBody s_across) (defScope s_across) .none kV_across dc_across pm_across an_across cd_across ct_across), sl_across⟩) (c_across : PySem.W.codeIn K cd_across "_law_across" = true) (k_across : PySem.W.keepIn K (.ref f_across) = true)
    {f_rounds_l : Addr} {od_rounds_l an_rounds_l : Option Addr} {sl_rounds_l : Array (Option Value)} {oc_rounds_l kV_rounds_l dc_rounds_l pm_rounds_l cd_rounds_l ct_rounds_l : Value}
    (a_rounds_l : PySem.W.nsIn K mainGlobals "_law_rounds" = some (some (.ref f_rounds_l))) (l_rounds_l : K.lookup f_rounds_l = some ⟨oc_rounds_l, od_rounds_l, .func (PySem.W.fnOf "_law_rounds" "_law_rounds" (defArgs s_rounds_l) (defBody s_rounds_l) (defScope s_rounds_l) .none kV_rounds_l dc_rounds_l pm_rounds_l an_rounds_l cd_rounds_l ct_rounds_l), sl_rounds_l⟩) (c_rounds_l : PySem.W.codeIn K cd_rounds_l "_law_rounds" = true) (k_rounds_l : PySem.W.keepIn K (.ref f_rounds_l) = true)
    {f_said : Addr} {od_said an_said : Option Addr} {sl_said : Array (Option Value)} {oc_said kV_said dc_said pm_said cd_said ct_said : Value}
    (a_said : PySem.W.nsIn K mainGlobals "_law_said" = some (some (.ref f_said))) (l_said : K.lookup f_said = some ⟨oc_said, od_said, .func (PySem.W.fnOf "_law_said" "_law_said" (defArgs s_said) (defBody s_said) (defScope s_said) .none kV_said dc_said pm_said an_said cd_said ct_said), sl_said⟩) (c_said : PySem.W.codeIn K cd_said "_law_said" = true) (k_said : PySem.W.keepIn K (.ref f_said) = true)
    {f_by_any : Addr} {od_by_any an_by_any : Option Addr} {sl_by_any : Array (Option Value)} {oc_by_any kV_by_any dc_by_any pm_by_any cd_by_any ct_by_any : Value}
    (a_by_any : PySem.W.nsIn K mainGlobals "_law_by_any" = some (some (.ref f_by_any))) (l_by_any : K.lookup f_by_any = some ⟨oc_by_any, od_by_any, .func (PySem.W.fnOf "_law_by_any" "_law_by_any" (defArgs s_by_any) (defBody s_by_any) (defScope s_by_any) .none kV_by_any dc_by_any pm_by_any an_by_any cd_by_any ct_by_any), sl_by_any⟩) (c_by_any : PySem.W.codeIn K cd_by_any "_law_by_any" = true) (k_by_any : PySem.W.keepIn K (.ref f_by_any) = true)
    {f_moved : Addr} {od_moved an_moved : Option Addr} {sl_moved : Array (Option Value)} {oc_moved kV_moved dc_moved pm_moved cd_moved ct_moved : Value}
    (a_moved : PySem.W.nsIn K mainGlobals "_law_moved" = some (some (.ref f_moved))) (l_moved : K.lookup f_moved = some ⟨oc_moved, od_moved, .func (PySem.W.fnOf "_law_moved" "_law_moved" (defArgs s_moved) (defBody s_moved) (defScope s_moved) .none kV_moved dc_moved pm_moved an_moved cd_moved ct_moved), sl_moved⟩) (c_moved : PySem.W.codeIn K cd_moved "_law_moved" = true) (k_moved : PySem.W.keepIn K (.ref f_moved) = true)
    {f_refused : Addr} {od_refused an_refused : Option Addr} {sl_refused : Array (Option Value)} {oc_refused kV_refused dc_refused pm_refused cd_refused ct_refused : Value}
    (a_refused : PySem.W.nsIn K mainGlobals "_law_refused" = some (some (.ref f_refused))) (l_refused : K.lookup f_refused = some ⟨oc_refused, od_refused, .func (PySem.W.fnOf "_law_refused" "_law_refused" (defArgs s_refused) (defBody s_refused) (defScope s_refused) .none kV_refused dc_refused pm_refused an_refused cd_refused ct_refused), sl_refused⟩) (c_refused : PySem.W.codeIn K cd_refused "_law_refused" = true) (k_refused : PySem.W.keepIn K (.ref f_refused) = true)
    {f_law : Addr} {od_law an_law : Option Addr} {sl_law : Array (Option Value)} {oc_law kV_law dc_law pm_law cd_law ct_law : Value}
    (a_law : PySem.W.nsIn K mainGlobals "law" = some (some (.ref f_law))) (l_law : K.lookup f_law = some ⟨oc_law, od_law, .func (PySem.W.fnOf "law" "law" (defArgs s_law) (defBody s_law) (defScope s_law) .none kV_law dc_law pm_law an_law cd_law ct_law), sl_law⟩) (c_law : PySem.W.codeIn K cd_law "law" = true) (k_law : PySem.W.keepIn K (.ref f_law) = true)
    {t_MOST_SIGNS : Tok} (y_MOST_SIGNS : PySem.W.nsIn K mainGlobals "MOST_SIGNS" = some (some (.int 40 t_MOST_SIGNS)))
    {c_RingError : Addr} (y_RingError : PySem.W.nsIn K mainGlobals "RingError" = some (some (.ref c_RingError)))
    {c_NoMaze : Addr} (y_NoMaze : PySem.W.nsIn K mainGlobals "NoMaze" = some (some (.ref c_NoMaze)))
    {c_Crossed : Addr} (y_Crossed : PySem.W.nsIn K mainGlobals "Crossed" = some (some (.ref c_Crossed)))
    {c_NoWord : Addr} (y_NoWord : PySem.W.nsIn K mainGlobals "NoWord" = some (some (.ref c_NoWord)))
    {c_NoDrawing : Addr} (y_NoDrawing : PySem.W.nsIn K mainGlobals "NoDrawing" = some (some (.ref c_NoDrawing)))
    {c_NoBow : Addr} (y_NoBow : PySem.W.nsIn K mainGlobals "NoBow" = some (some (.ref c_NoBow)))
    {c_NoRound : Addr} (y_NoRound : PySem.W.nsIn K mainGlobals "NoRound" = some (some (.ref c_NoRound)))
    {c_NoCode : Addr} (y_NoCode : PySem.W.nsIn K mainGlobals "NoCode" = some (some (.ref c_NoCode)))
    {c_NoNumber : Addr} (y_NoNumber : PySem.W.nsIn K mainGlobals "NoNumber" = some (some (.ref c_NoNumber)))
    {c_NoName : Addr} (y_NoName : PySem.W.nsIn K mainGlobals "NoName" = some (some (.ref c_NoName)))
    {c_NoRow : Addr} (y_NoRow : PySem.W.nsIn K mainGlobals "NoRow" = some (some (.ref c_NoRow)))
    {NC NR : Addr} {nm_x q_x : Str} {bs_x : List Value} {hd_x : Bool} {sn_x : List Str} {sub_x : List Value} {ab_x : Bool} {col_x : Option Bool} {dd_x dR_x dN_x dM_x : Option Addr} {k0_x k1_x k2_x k3_x k5_x : Option Value} {cdR_x : ClassData} {slR_x slN_x slM_x : Array (Option Value)} {cN_x cM_x : Value} {es1_x es2_x : Array DictEntry} {ep1_x ep2_x : Nat}
    (x_lkC : K.lookup c_NoWord = some (excClassObj nm_x q_x c_NoWord NC bs_x (.ref c_RingError :: [.type "ValueError", .type "Exception", .type "BaseException", .type "object"]) hd_x sn_x sub_x ab_x col_x dd_x k0_x k1_x k2_x k3_x k5_x "ValueError.__new__")) (x_lkR : K.lookup c_RingError = some ⟨.type "type", dR_x, .cls cdR_x, slR_x⟩)
    (x_lkN : K.lookup NC = some ⟨cN_x, dN_x, .dict es1_x ep1_x, slN_x⟩) (x_nC : L2.strKeys es1_x = true) (x_iC : PySem.W.nsIn K NC "__init__" = some none) (x_eR : cdR_x.ns = NR) (x_lkM : K.lookup NR = some ⟨cM_x, dM_x, .dict es2_x ep2_x, slM_x⟩) (x_nR : L2.strKeys es2_x = true)
    (x_r1 : PySem.W.nsIn K NR "__init__" = some none)
    (x_r2 : PySem.W.nsIn K NR "__getattribute__" = some none)
    (x_r3 : PySem.W.nsIn K NR "__getattr__" = some none)
    (x_r4 : PySem.W.nsIn K NR "args" = some none)
    (x_ga : PySem.W.findIn K (.ref c_NoWord) "__getattribute__" = some (some (.builtin "BaseException.__getattribute__"))) (x_gt : PySem.W.findIn K (.ref c_NoWord) "__getattr__" = some none) (x_gc : PySem.W.findIn K (.ref c_NoWord) "__class__" = some (some (.builtin "object.__class__")))
    (x_sp : PySem.W.specialIn K (.builtin "object.__class__") "__get__" = some (some (.builtin "getset_descriptor.__get__"))) (x_tk : PySem.W.takesIn K (.builtin "object.__class__") = some true) (x_mr : PySem.W.mroIn K c_NoWord (.type "object") = some true)
    (x_rb : PySem.W.mroIn K c_RingError (.type "BaseException") = some true) (x_cr : PySem.W.mroIn K c_NoWord (.ref c_RingError) = some true) (x_vt : PySem.W.mroIn K c_NoWord (.type "ValueError") = some true) (x_cs : PySem.W.mroIn K c_NoWord (.ref c_NoWord) = some true) (x_cb : PySem.W.mroIn K c_NoWord (.type "BaseException") = some true)
    {d_NoMaze : Option Addr} {cd_NoMaze : ClassData} {sl_NoMaze : Array (Option Value)} (x_lk_NoMaze : K.lookup c_NoMaze = some ⟨.type "type", d_NoMaze, .cls cd_NoMaze, sl_NoMaze⟩) (x_mr_NoMaze : PySem.W.mroIn K c_NoWord (.ref c_NoMaze) = some false) (x_ne_NoMaze : (Value.ref c_NoWord == Value.ref c_NoMaze) = false)
    {d_Crossed : Option Addr} {cd_Crossed : ClassData} {sl_Crossed : Array (Option Value)} (x_lk_Crossed : K.lookup c_Crossed = some ⟨.type "type", d_Crossed, .cls cd_Crossed, sl_Crossed⟩) (x_mr_Crossed : PySem.W.mroIn K c_NoWord (.ref c_Crossed) = some false) (x_ne_Crossed : (Value.ref c_NoWord == Value.ref c_Crossed) = false)
    {d_NoDrawing : Option Addr} {cd_NoDrawing : ClassData} {sl_NoDrawing : Array (Option Value)} (x_lk_NoDrawing : K.lookup c_NoDrawing = some ⟨.type "type", d_NoDrawing, .cls cd_NoDrawing, sl_NoDrawing⟩) (x_mr_NoDrawing : PySem.W.mroIn K c_NoWord (.ref c_NoDrawing) = some false) (x_ne_NoDrawing : (Value.ref c_NoWord == Value.ref c_NoDrawing) = false)
    {d_NoBow : Option Addr} {cd_NoBow : ClassData} {sl_NoBow : Array (Option Value)} (x_lk_NoBow : K.lookup c_NoBow = some ⟨.type "type", d_NoBow, .cls cd_NoBow, sl_NoBow⟩) (x_mr_NoBow : PySem.W.mroIn K c_NoWord (.ref c_NoBow) = some false) (x_ne_NoBow : (Value.ref c_NoWord == Value.ref c_NoBow) = false)
    {d_NoRound : Option Addr} {cd_NoRound : ClassData} {sl_NoRound : Array (Option Value)} (x_lk_NoRound : K.lookup c_NoRound = some ⟨.type "type", d_NoRound, .cls cd_NoRound, sl_NoRound⟩) (x_mr_NoRound : PySem.W.mroIn K c_NoWord (.ref c_NoRound) = some false) (x_ne_NoRound : (Value.ref c_NoWord == Value.ref c_NoRound) = false)
    {d_NoCode : Option Addr} {cd_NoCode : ClassData} {sl_NoCode : Array (Option Value)} (x_lk_NoCode : K.lookup c_NoCode = some ⟨.type "type", d_NoCode, .cls cd_NoCode, sl_NoCode⟩) (x_mr_NoCode : PySem.W.mroIn K c_NoWord (.ref c_NoCode) = some false) (x_ne_NoCode : (Value.ref c_NoWord == Value.ref c_NoCode) = false)
    {d_NoNumber : Option Addr} {cd_NoNumber : ClassData} {sl_NoNumber : Array (Option Value)} (x_lk_NoNumber : K.lookup c_NoNumber = some ⟨.type "type", d_NoNumber, .cls cd_NoNumber, sl_NoNumber⟩) (x_mr_NoNumber : PySem.W.mroIn K c_NoWord (.ref c_NoNumber) = some false) (x_ne_NoNumber : (Value.ref c_NoWord == Value.ref c_NoNumber) = false)
    {d_NoName : Option Addr} {cd_NoName : ClassData} {sl_NoName : Array (Option Value)} (x_lk_NoName : K.lookup c_NoName = some ⟨.type "type", d_NoName, .cls cd_NoName, sl_NoName⟩) (x_mr_NoName : PySem.W.mroIn K c_NoWord (.ref c_NoName) = some false) (x_ne_NoName : (Value.ref c_NoWord == Value.ref c_NoName) = false)
    {d_NoRow : Option Addr} {cd_NoRow : ClassData} {sl_NoRow : Array (Option Value)} (x_lk_NoRow : K.lookup c_NoRow = some ⟨.type "type", d_NoRow, .cls cd_NoRow, sl_NoRow⟩) (x_mr_NoRow : PySem.W.mroIn K c_NoWord (.ref c_NoRow) = some false) (x_ne_NoRow : (Value.ref c_NoWord == Value.ref c_NoRow) = false)
    {N2C : Addr} {nm_x2 q_x2 : Str} {bs_x2 : List Value} {hd_x2 : Bool} {sn_x2 : List Str} {sub_x2 : List Value} {ab_x2 : Bool} {col_x2 : Option Bool} {dd_x2 dN_x2 : Option Addr} {k0_x2 k1_x2 k2_x2 k3_x2 k5_x2 : Option Value} {slN_x2 : Array (Option Value)} {cN_x2 : Value} {es1_x2 : Array DictEntry} {ep1_x2 : Nat}
    (x2_lkC : K.lookup c_NoBow = some (excClassObj nm_x2 q_x2 c_NoBow N2C bs_x2 (.ref c_RingError :: [.type "ValueError", .type "Exception", .type "BaseException", .type "object"]) hd_x2 sn_x2 sub_x2 ab_x2 col_x2 dd_x2 k0_x2 k1_x2 k2_x2 k3_x2 k5_x2 "ValueError.__new__"))
    (x2_lkN : K.lookup N2C = some ⟨cN_x2, dN_x2, .dict es1_x2 ep1_x2, slN_x2⟩) (x2_nC : L2.strKeys es1_x2 = true) (x2_iC : PySem.W.nsIn K N2C "__init__" = some none)
    (x2_ga : PySem.W.findIn K (.ref c_NoBow) "__getattribute__" = some (some (.builtin "BaseException.__getattribute__"))) (x2_gt : PySem.W.findIn K (.ref c_NoBow) "__getattr__" = some none) (x2_gc : PySem.W.findIn K (.ref c_NoBow) "__class__" = some (some (.builtin "object.__class__")))
    (x2_mr : PySem.W.mroIn K c_NoBow (.type "object") = some true) (x2_cr : PySem.W.mroIn K c_NoBow (.ref c_RingError) = some true) (x2_vt : PySem.W.mroIn K c_NoBow (.type "ValueError") = some true) (x2_cs : PySem.W.mroIn K c_NoBow (.ref c_NoBow) = some true) (x2_cb : PySem.W.mroIn K c_NoBow (.type "BaseException") = some true)
    (x2_mr_NoMaze : PySem.W.mroIn K c_NoBow (.ref c_NoMaze) = some false) (x2_ne_NoMaze : (Value.ref c_NoBow == Value.ref c_NoMaze) = false)
    (x2_mr_Crossed : PySem.W.mroIn K c_NoBow (.ref c_Crossed) = some false) (x2_ne_Crossed : (Value.ref c_NoBow == Value.ref c_Crossed) = false)
    (x2_mr_NoWord : PySem.W.mroIn K c_NoBow (.ref c_NoWord) = some false) (x2_ne_NoWord : (Value.ref c_NoBow == Value.ref c_NoWord) = false)
    (x2_mr_NoDrawing : PySem.W.mroIn K c_NoBow (.ref c_NoDrawing) = some false) (x2_ne_NoDrawing : (Value.ref c_NoBow == Value.ref c_NoDrawing) = false)
    (x2_mr_NoRound : PySem.W.mroIn K c_NoBow (.ref c_NoRound) = some false) (x2_ne_NoRound : (Value.ref c_NoBow == Value.ref c_NoRound) = false)
    (x2_mr_NoCode : PySem.W.mroIn K c_NoBow (.ref c_NoCode) = some false) (x2_ne_NoCode : (Value.ref c_NoBow == Value.ref c_NoCode) = false)
    (x2_mr_NoNumber : PySem.W.mroIn K c_NoBow (.ref c_NoNumber) = some false) (x2_ne_NoNumber : (Value.ref c_NoBow == Value.ref c_NoNumber) = false)
    (x2_mr_NoName : PySem.W.mroIn K c_NoBow (.ref c_NoName) = some false) (x2_ne_NoName : (Value.ref c_NoBow == Value.ref c_NoName) = false)
    (x2_mr_NoRow : PySem.W.mroIn K c_NoBow (.ref c_NoRow) = some false) (x2_ne_NoRow : (Value.ref c_NoBow == Value.ref c_NoRow) = false)
    (z_len : PySem.W.nsIn K mainGlobals "len" = some none) (z_range : PySem.W.nsIn K mainGlobals "range" = some none) (z_int : PySem.W.nsIn K mainGlobals "int" = some none) (z_list : PySem.W.nsIn K mainGlobals "list" = some none) (z_tuple : PySem.W.nsIn K mainGlobals "tuple" = some none) (z_isinstance : PySem.W.nsIn K mainGlobals "isinstance" = some none) (z_str : PySem.W.nsIn K mainGlobals "str" = some none) (z_bool : PySem.W.nsIn K mainGlobals "bool" = some none) (z_sorted : PySem.W.nsIn K mainGlobals "sorted" = some none) (z_all : PySem.W.nsIn K mainGlobals "all" = some none) (z_enumerate : PySem.W.nsIn K mainGlobals "enumerate" = some none) (z_max : PySem.W.nsIn K mainGlobals "max" = some none) (z_min : PySem.W.nsIn K mainGlobals "min" = some none) (z_ValueError : PySem.W.nsIn K mainGlobals "ValueError" = some none) :
    ∃ fd : FuncData, (∀ (s : Shared) (v : Value), BindsTo s fd ⟨[v], []⟩ [("_law_script", v)]) ∧ ∀ base : Heap, K.In base → base.Ns mainGlobals mg → FnOk l.prog w K mg base CX0 6 fa fd ["_law_script"] (spLaw K) := by
  have B : Blt mg := ⟨PySem.W.mg_none_of X G z_len, PySem.W.mg_none_of X G z_range, PySem.W.mg_none_of X G z_int, PySem.W.mg_none_of X G z_list, PySem.W.mg_none_of X G z_tuple, PySem.W.mg_none_of X G z_isinstance, PySem.W.mg_none_of X G z_str, PySem.W.mg_none_of X G z_bool, PySem.W.mg_none_of X G z_sorted, PySem.W.mg_none_of X G z_all, PySem.W.mg_none_of X G z_enumerate, PySem.W.mg_none_of X G z_max, PySem.W.mg_none_of X G z_min, PySem.W.mg_none_of X G z_ValueError, ⟨_, PySem.W.mg_of X G y_MOST_SIGNS⟩⟩
  have C_RingError : mg "RingError" = some (.ref c_RingError) := PySem.W.mg_of X G y_RingError
  have C_NoMaze : mg "NoMaze" = some (.ref c_NoMaze) := PySem.W.mg_of X G y_NoMaze
  have C_Crossed : mg "Crossed" = some (.ref c_Crossed) := PySem.W.mg_of X G y_Crossed
  have C_NoWord : mg "NoWord" = some (.ref c_NoWord) := PySem.W.mg_of X G y_NoWord
  have C_NoDrawing : mg "NoDrawing" = some (.ref c_NoDrawing) := PySem.W.mg_of X G y_NoDrawing
  have C_NoBow : mg "NoBow" = some (.ref c_NoBow) := PySem.W.mg_of X G y_NoBow
  have C_NoRound : mg "NoRound" = some (.ref c_NoRound) := PySem.W.mg_of X G y_NoRound
  have C_NoCode : mg "NoCode" = some (.ref c_NoCode) := PySem.W.mg_of X G y_NoCode
  have C_NoNumber : mg "NoNumber" = some (.ref c_NoNumber) := PySem.W.mg_of X G y_NoNumber
  have C_NoName : mg "NoName" = some (.ref c_NoName) := PySem.W.mg_of X G y_NoName
  have C_NoRow : mg "NoRow" = some (.ref c_NoRow) := PySem.W.mg_of X G y_NoRow
  have XF : L2.ExcK K c_NoWord ∧ ∀ base : Heap, K.In base → base.Ns mainGlobals mg → OwnCls "NoWord" c_NoWord [.type "ValueError", .type "Exception", .type "BaseException", .type "object"] "ValueError.__new__" mg base := ⟨(L2.exc_facts X G y_NoWord x_lkC x_lkR (L2.nsOk_of x_lkN x_nC) x_iC x_eR (L2.nsOk_of x_lkM x_nR) x_r1 x_r2 x_r3 x_r4 F.attrBase_ValueError x_ga x_gt x_gc x_sp x_tk x_mr).2, fun base KB GB => (L2.exc_facts KB GB y_NoWord x_lkC x_lkR (L2.nsOk_of x_lkN x_nC) x_iC x_eR (L2.nsOk_of x_lkM x_nR) x_r1 x_r2 x_r3 x_r4 F.attrBase_ValueError x_ga x_gt x_gc x_sp x_tk x_mr).1⟩
  have XM : PySem.W.exmOne K (.ref c_NoWord) (.ref c_RingError) = some true := L2.exm_own x_lkR x_cr x_rb
  have XS : PySem.W.exmOne K (.ref c_NoWord) (.ref c_NoWord) = some true := L2.exm_own x_lkC x_cs x_cb
  have XJ : L2.Jst K c_NoWord [c_NoMaze, c_Crossed, c_NoWord, c_NoDrawing, c_NoBow, c_NoRound, c_NoCode, c_NoNumber, c_NoName, c_NoRow] 2 := ⟨XF.1, fun j d h => match j, h with | 0, h => by cases h; exact L2.kit_other x_ne_NoMaze x_lk_NoMaze x_mr_NoMaze | 1, h => by cases h; exact L2.kit_other x_ne_Crossed x_lk_Crossed x_mr_Crossed | 2, h => by cases h; exact L2.kit_self | 3, h => by cases h; exact L2.kit_other x_ne_NoDrawing x_lk_NoDrawing x_mr_NoDrawing | 4, h => by cases h; exact L2.kit_other x_ne_NoBow x_lk_NoBow x_mr_NoBow | 5, h => by cases h; exact L2.kit_other x_ne_NoRound x_lk_NoRound x_mr_NoRound | 6, h => by cases h; exact L2.kit_other x_ne_NoCode x_lk_NoCode x_mr_NoCode | 7, h => by cases h; exact L2.kit_other x_ne_NoNumber x_lk_NoNumber x_mr_NoNumber | 8, h => by cases h; exact L2.kit_other x_ne_NoName x_lk_NoName x_mr_NoName | 9, h => by cases h; exact L2.kit_other x_ne_NoRow x_lk_NoRow x_mr_NoRow | j + 10, h => by simp at h, L2.kit_type (by decide) x_vt⟩
  have XF2 : L2.ExcK K c_NoBow ∧ ∀ base : Heap, K.In base → base.Ns mainGlobals mg → OwnCls "NoBow" c_NoBow [.type "ValueError", .type "Exception", .type "BaseException", .type "object"] "ValueError.__new__" mg base := ⟨(L2.exc_facts X G y_NoBow x2_lkC x_lkR (L2.nsOk_of x2_lkN x2_nC) x2_iC x_eR (L2.nsOk_of x_lkM x_nR) x_r1 x_r2 x_r3 x_r4 F.attrBase_ValueError x2_ga x2_gt x2_gc x_sp x_tk x2_mr).2, fun base KB GB => (L2.exc_facts KB GB y_NoBow x2_lkC x_lkR (L2.nsOk_of x2_lkN x2_nC) x2_iC x_eR (L2.nsOk_of x_lkM x_nR) x_r1 x_r2 x_r3 x_r4 F.attrBase_ValueError x2_ga x2_gt x2_gc x_sp x_tk x2_mr).1⟩
  have XM2 : PySem.W.exmOne K (.ref c_NoBow) (.ref c_RingError) = some true := L2.exm_own x_lkR x2_cr x_rb
  have XS2 : PySem.W.exmOne K (.ref c_NoBow) (.ref c_NoBow) = some true := L2.exm_own x2_lkC x2_cs x2_cb
  have XN2 : PySem.W.exmOne K (.ref c_NoBow) (.ref c_NoWord) = some false := L2.exm_own x_lkC x2_mr_NoWord x_cb
  have XJ2 : L2.Jst K c_NoBow [c_NoMaze, c_Crossed, c_NoWord, c_NoDrawing, c_NoBow, c_NoRound, c_NoCode, c_NoNumber, c_NoName, c_NoRow] 4 := ⟨XF2.1, fun j d h => match j, h with | 0, h => by cases h; exact L2.kit_other x2_ne_NoMaze x_lk_NoMaze x2_mr_NoMaze | 1, h => by cases h; exact L2.kit_other x2_ne_Crossed x_lk_Crossed x2_mr_Crossed | 2, h => by cases h; exact L2.kit_other x2_ne_NoWord x_lkC x2_mr_NoWord | 3, h => by cases h; exact L2.kit_other x2_ne_NoDrawing x_lk_NoDrawing x2_mr_NoDrawing | 4, h => by cases h; exact L2.kit_self | 5, h => by cases h; exact L2.kit_other x2_ne_NoRound x_lk_NoRound x2_mr_NoRound | 6, h => by cases h; exact L2.kit_other x2_ne_NoCode x_lk_NoCode x2_mr_NoCode | 7, h => by cases h; exact L2.kit_other x2_ne_NoNumber x_lk_NoNumber x2_mr_NoNumber | 8, h => by cases h; exact L2.kit_other x2_ne_NoName x_lk_NoName x2_mr_NoName | 9, h => by cases h; exact L2.kit_other x2_ne_NoRow x_lk_NoRow x2_mr_NoRow | j + 10, h => by simp at h, L2.kit_type (by decide) x2_vt⟩
  have E_is_whole : Fn K mg "is_whole" s_is_whole ["thing"] := fn_mk X G a_is_whole l_is_whole c_is_whole k_is_whole fun _ _ _ _ _ _ => L2.us1 fun _ => rfl
  have E_is_word : Fn K mg "is_word" s_is_word ["thing"] := fn_mk X G a_is_word l_is_word c_is_word k_is_word fun _ _ _ _ _ _ => L2.us1 fun _ => rfl
  have E_pairs : Fn K mg "pairs" s_pairs ["word"] := fn_mk X G a_pairs l_pairs c_pairs k_pairs fun _ _ _ _ _ _ => L2.us1 fun _ => rfl
  have E_vet_words : Fn K mg "vet_words" s_vet_words ["left", "right"] := fn_mk X G a_vet_words l_vet_words c_vet_words k_vet_words fun _ _ _ _ _ _ => L2.us2 fun _ _ => rfl
  have E_partners : Fn K mg "partners" s_partners ["word"] := fn_mk X G a_partners l_partners c_partners k_partners fun _ _ _ _ _ _ => L2.us1 fun _ => rfl
  have E_round_from : Fn K mg "round_from" s_round_from ["end", "lefts", "rights"] := fn_mk X G a_round_from l_round_from c_round_from k_round_from fun _ _ _ _ _ _ => L2.us3 fun _ _ _ => rfl
  have E_rounds : Fn K mg "rounds" s_rounds ["left", "right"] := fn_mk X G a_rounds l_rounds c_rounds k_rounds fun _ _ _ _ _ _ => L2.us2 fun _ _ => rfl
  have E_is_below : Fn K mg "is_below" s_is_below ["thing", "bound"] := fn_mk X G a_is_below l_is_below c_is_below k_is_below fun _ _ _ _ _ _ => L2.us2 fun _ _ => rfl
  have E_without : Fn K mg "without" s_without ["word", "ends"] := fn_mk X G a_without l_without c_without k_without fun _ _ _ _ _ _ => L2.us2 fun _ _ => rfl
  have E_cut_out : Fn K mg "cut_out" s_cut_out ["left", "right", "number"] := fn_mk X G a_cut_out l_cut_out c_cut_out k_cut_out fun _ _ _ _ _ _ => L2.us3 fun _ _ _ => rfl
  have E_put_in : Fn K mg "put_in" s_put_in ["word", "place", "other"] := fn_mk X G a_put_in l_put_in c_put_in k_put_in fun _ _ _ _ _ _ => L2.us3 fun _ _ _ => rfl
  have E_laid_in : Fn K mg "laid_in" s_laid_in ["left", "right", "place", "other_left", "other_right"] := fn_mk X G a_laid_in l_laid_in c_laid_in k_laid_in fun _ _ _ _ _ _ => L2.us5 fun _ _ _ _ _ => rfl
  have E_alone : Fn K mg "_law_alone" s_alone ["_law_e"] := fn_mk X G a_alone l_alone c_alone k_alone fun _ _ _ _ _ _ => L2.us1 fun _ => rfl
  have E_cell_at : Fn K mg "_law_cell_at" s_cell_at ["_law_script", "_law_k"] := fn_mk X G a_cell_at l_cell_at c_cell_at k_cell_at fun _ _ _ _ _ _ => L2.us2 fun _ _ => rfl
  have E_digits : Fn K mg "_law_digits" s_digits ["_law_cell", "_law_many"] := fn_mk X G a_digits l_digits c_digits k_digits fun _ _ _ _ _ _ => L2.us2 fun _ _ => rfl
  have E_word : Fn K mg "_law_word" s_word ["_law_cell", "_law_ends"] := fn_mk X G a_word l_word c_word k_word fun _ _ _ _ _ _ => L2.us2 fun _ _ => rfl
  have E_across : Fn K mg "_law_across" s_across ["_law_word_here"] := fn_mk X G a_across l_across c_across k_across fun _ _ _ _ _ _ => L2.us1 fun _ => rfl
  have E_rounds_l : Fn K mg "_law_rounds" s_rounds_l ["_law_left", "_law_right"] := fn_mk X G a_rounds_l l_rounds_l c_rounds_l k_rounds_l fun _ _ _ _ _ _ => L2.us2 fun _ _ => rfl
  have E_said : Fn K mg "_law_said" s_said ["_law_one", "_law_place", "_law_other"] := fn_mk X G a_said l_said c_said k_said fun _ _ _ _ _ _ => L2.us3 fun _ _ _ => rfl
  have E_by_any : Fn K mg "_law_by_any" s_by_any ["_law_one", "_law_place", "_law_other"] := fn_mk X G a_by_any l_by_any c_by_any k_by_any fun _ _ _ _ _ _ => L2.us3 fun _ _ _ => rfl
  have E_moved : Fn K mg "_law_moved" s_moved ["_law_ends", "_law_place", "_law_more"] := fn_mk X G a_moved l_moved c_moved k_moved fun _ _ _ _ _ _ => L2.us3 fun _ _ _ => rfl
  have E_refused : Fn K mg "_law_refused" s_refused ["_law_one", "_law_place", "_law_other", "_law_word_here"] := fn_mk X G a_refused l_refused c_refused k_refused fun _ _ _ _ _ _ => L2.us4 fun _ _ _ _ => rfl
  have E_law : Fn K mg "law" s_law ["_law_script"] := fn_mk X G a_law l_law c_law k_law fun _ _ _ _ _ _ => L2.us1 fun _ => rfl
  have key : ∀ base : Heap, K.In base → base.Ns mainGlobals mg → Def l.prog w K mg base 6 "law" s_law ["_law_script"] (spLaw K) := fun base KB GB => by
    have O_NoWord := XF.2 base KB GB
    have O_NoBow := XF2.2 base KB GB
    have D_is_whole := ok_is_whole (P := l.prog) (w := w) (base := base) B E_is_whole
    have D_is_word := ok_is_word (P := l.prog) (w := w) (base := base) B E_is_word
    have D_pairs := ok_pairs O_NoWord B E_pairs D_is_word
    have D_vet_words := ok_vet_words O_NoWord B E_vet_words D_is_word
    have D_partners := ok_partners E_partners D_pairs
    have D_round_from := ok_round_from (P := l.prog) (w := w) (base := base) E_round_from
    have D_rounds := ok_rounds B E_rounds D_vet_words D_partners D_round_from
    have D_is_below := ok_is_below E_is_below D_is_whole
    have D_without := ok_without (P := l.prog) (w := w) (base := base) B E_without
    have D_cut_out := ok_cut_out O_NoBow B E_cut_out D_rounds D_is_below D_without
    have D_put_in := ok_put_in (P := l.prog) (w := w) (base := base) E_put_in
    have D_laid_in := ok_laid_in O_NoWord O_NoBow B E_laid_in D_vet_words D_is_below D_put_in
    have D_alone := ok_alone (P := l.prog) (w := w) (base := base) B C_NoMaze C_Crossed C_NoWord C_NoDrawing C_NoBow C_NoRound C_NoCode C_NoNumber C_NoName C_NoRow E_alone
    have D_cell_at := ok_cell_at (P := l.prog) (w := w) (base := base) B E_cell_at
    have D_digits := ok_digits (P := l.prog) (w := w) (base := base) B E_digits
    have D_word := ok_word B E_word D_digits
    have D_across := ok_across (P := l.prog) (w := w) (base := base) B E_across
    have D_rounds_l := ok_rounds_l B E_rounds_l D_across
    have D_said := ok_said C_NoWord C_NoBow XS XN2 XS2 E_said D_laid_in
    have D_by_any := ok_by_any C_RingError XM XM2 XJ XJ2 E_by_any D_laid_in D_alone
    have D_moved := ok_moved (P := l.prog) (w := w) (base := base) B E_moved
    have D_refused := ok_refused E_refused D_said D_by_any
    exact ok_law B E_law D_cell_at D_word D_rounds_l D_rounds D_cut_out D_laid_in D_refused D_moved
  have e := hfa.symm.trans (PySem.W.mg_of X G a_law)
  cases e
  refine ⟨PySem.W.fnOf "law" "law" (defArgs s_law) (defBody s_law) (defScope s_law) .none kV_law dc_law pm_law an_law cd_law ct_law, fun s v => .of_eq rfl, fun base KB GB => ?_⟩
  obtain ⟨f, fd, F, m, b, ok⟩ := (key base KB GB).ex
  rw [PySem.W.mg_of X G a_law] at m
  cases m
  obtain ⟨_, _, _, _, _, _, _, _, _, rfl, lk, _⟩ := F.ex
  rw [l_law] at lk
  cases lk
  exact ok
theorem walk {l : PySem.W.OpenLaw} {q : Program} {loose : List Str} {XP : (Str → Option Value) → Heap → Prop} {YP : World → Heap → Prop} {d : DefRec} {K : Params → PySem.W.Frag} (hn : l.most = some 63) (hdf : d.params.defaults = [])
    (hY : ∀ (w : World) (h : Heap), YP w h → (K w.params).In h)
    (F : ∀ (w : World) (mg : Str → Option Value) (fa : Addr) (h : Heap), (K w.params).In h → h.Ns mainGlobals mg → mg d.name = some (.ref fa) →
      ∃ fd : FuncData, (∀ (s : Shared) (u : Value), BindsTo s fd ⟨[u], []⟩ [("_law_script", u)]) ∧ ∀ base : Heap, (K w.params).In base → base.Ns mainGlobals mg → FnOk l.prog w (K w.params) mg base CX0 6 fa fd ["_law_script"] (spLaw (K w.params))) :
    PySem.W.WalkO q loose XP YP l.row.toRowW d [] (fun f vs => PySem.call f vs) :=
  L2.walk_of (n := 63) (k := 6) (x := "_law_script") (CX := fun _ => CX0) (sp := fun w => spLaw (K w.params)) hn (by decide) hdf ⟨rfl, by decide, by decide⟩ hY F (fun _ _ a ns hl _ hS => ⟨a, ns, rfl, hS, hl, fun _ => rfl⟩) fun _ _ _ _ _ z => z
end Rm
open PySem PySem.W PyProof.Rows
set_option maxRecDepth 100000 in
set_option maxHeartbeats 0 in
theorem PySem.Challenge.cw_ringmaze_k26_laid_in_holds : PySem.Challenge.rw_ringmaze_k26_laid_in.Holds := by
  w_on; o_law; k_head; (case hw => w_witness2)
  k_fill
  refine Rm.walk (l := PySem.Challenge.rw_ringmaze_k26_laid_in) rfl rfl (fun w h Y => PySem.W.kIn_of Y) ?F
  case F =>
    intro w mg fa h KX G hmg
    refine' Rm.all_mk KX G hmg ?a_is_whole ?l_is_whole ?c_is_whole ?k_is_whole ?a_is_word ?l_is_word ?c_is_word ?k_is_word ?a_pairs ?l_pairs ?c_pairs ?k_pairs ?a_vet_words ?l_vet_words ?c_vet_words ?k_vet_words ?a_partners ?l_partners ?c_partners ?k_partners ?a_round_from ?l_round_from ?c_round_from ?k_round_from ?a_rounds ?l_rounds ?c_rounds ?k_rounds ?a_is_below ?l_is_below ?c_is_below ?k_is_below ?a_without ?l_without ?c_without ?k_without ?a_cut_out ?l_cut_out ?c_cut_out ?k_cut_out ?a_put_in ?l_put_in ?c_put_in ?k_put_in ?a_laid_in ?l_laid_in ?c_laid_in ?k_laid_in ?a_alone ?l_alone ?c_alone ?k_alone ?a_cell_at ?l_cell_at ?c_cell_at ?k_cell_at ?a_digits ?l_digits ?c_digits ?k_digits ?a_word ?l_word ?c_word ?k_word ?a_across ?l_across ?c_across ?k_across ?a_rounds_l ?l_rounds_l ?c_rounds_l ?k_rounds_l ?a_said ?l_said ?c_said ?k_said ?a_by_any ?l_by_any ?c_by_any ?k_by_any ?a_moved ?l_moved ?c_moved ?k_moved ?a_refused ?l_refused ?c_refused ?k_refused ?a_law ?l_law ?c_law ?k_law ?y_MOST_SIGNS ?y_RingError ?y_NoMaze ?y_Crossed ?y_NoWord ?y_NoDrawing ?y_NoBow ?y_NoRound ?y_NoCode ?y_NoNumber ?y_NoName ?y_NoRow ?x_lkC ?x_lkR ?x_lkN ?x_nC ?x_iC ?x_eR ?x_lkM ?x_nR ?x_r1 ?x_r2 ?x_r3 ?x_r4 ?x_ga ?x_gt ?x_gc ?x_sp ?x_tk ?x_mr ?x_rb ?x_cr ?x_vt ?x_cs ?x_cb ?x_lk_NoMaze ?x_mr_NoMaze ?x_ne_NoMaze ?x_lk_Crossed ?x_mr_Crossed ?x_ne_Crossed ?x_lk_NoDrawing ?x_mr_NoDrawing ?x_ne_NoDrawing ?x_lk_NoBow ?x_mr_NoBow ?x_ne_NoBow ?x_lk_NoRound ?x_mr_NoRound ?x_ne_NoRound ?x_lk_NoCode ?x_mr_NoCode ?x_ne_NoCode ?x_lk_NoNumber ?x_mr_NoNumber ?x_ne_NoNumber ?x_lk_NoName ?x_mr_NoName ?x_ne_NoName ?x_lk_NoRow ?x_mr_NoRow ?x_ne_NoRow ?x2_lkC ?x2_lkN ?x2_nC ?x2_iC ?x2_ga ?x2_gt ?x2_gc ?x2_mr ?x2_cr ?x2_vt ?x2_cs ?x2_cb ?x2_mr_NoMaze ?x2_ne_NoMaze ?x2_mr_Crossed ?x2_ne_Crossed ?x2_mr_NoWord ?x2_ne_NoWord ?x2_mr_NoDrawing ?x2_ne_NoDrawing ?x2_mr_NoRound ?x2_ne_NoRound ?x2_mr_NoCode ?x2_ne_NoCode ?x2_mr_NoNumber ?x2_ne_NoNumber ?x2_mr_NoName ?x2_ne_NoName ?x2_mr_NoRow ?x2_ne_NoRow ?z_len ?z_range ?z_int ?z_list ?z_tuple ?z_isinstance ?z_str ?z_bool ?z_sorted ?z_all ?z_enumerate ?z_max ?z_min ?z_ValueError
    (case a_is_whole => k_is)
    (case l_is_whole => k_is)
    (case c_is_whole => k_is)
    (case k_is_whole => k_is)
    (case a_is_word => k_is)
    (case l_is_word => k_is)
    (case c_is_word => k_is)
    (case k_is_word => k_is)
    (case a_pairs => k_is)
    (case l_pairs => k_is)
    (case c_pairs => k_is)
    (case k_pairs => k_is)
    (case a_vet_words => k_is)
    (case l_vet_words => k_is)
    (case c_vet_words => k_is)
    (case k_vet_words => k_is)
    (case a_partners => k_is)
    (case l_partners => k_is)
    (case c_partners => k_is)
    (case k_partners => k_is)
    (case a_round_from => k_is)
    (case l_round_from => k_is)
    (case c_round_from => k_is)
    (case k_round_from => k_is)
    (case a_rounds => k_is)
    (case l_rounds => k_is)
    (case c_rounds => k_is)
    (case k_rounds => k_is)
    (case a_is_below => k_is)
    (case l_is_below => k_is)
    (case c_is_below => k_is)
    (case k_is_below => k_is)
    (case a_without => k_is)
    (case l_without => k_is)
    (case c_without => k_is)
    (case k_without => k_is)
    (case a_cut_out => k_is)
    (case l_cut_out => k_is)
    (case c_cut_out => k_is)
    (case k_cut_out => k_is)
    (case a_put_in => k_is)
    (case l_put_in => k_is)
    (case c_put_in => k_is)
    (case k_put_in => k_is)
    (case a_laid_in => k_is)
    (case l_laid_in => k_is)
    (case c_laid_in => k_is)
    (case k_laid_in => k_is)
    (case a_alone => k_is)
    (case l_alone => k_is)
    (case c_alone => k_is)
    (case k_alone => k_is)
    (case a_cell_at => k_is)
    (case l_cell_at => k_is)
    (case c_cell_at => k_is)
    (case k_cell_at => k_is)
    (case a_digits => k_is)
    (case l_digits => k_is)
    (case c_digits => k_is)
    (case k_digits => k_is)
    (case a_word => k_is)
    (case l_word => k_is)
    (case c_word => k_is)
    (case k_word => k_is)
    (case a_across => k_is)
    (case l_across => k_is)
    (case c_across => k_is)
    (case k_across => k_is)
    (case a_rounds_l => k_is)
    (case l_rounds_l => k_is)
    (case c_rounds_l => k_is)
    (case k_rounds_l => k_is)
    (case a_said => k_is)
    (case l_said => k_is)
    (case c_said => k_is)
    (case k_said => k_is)
    (case a_by_any => k_is)
    (case l_by_any => k_is)
    (case c_by_any => k_is)
    (case k_by_any => k_is)
    (case a_moved => k_is)
    (case l_moved => k_is)
    (case c_moved => k_is)
    (case k_moved => k_is)
    (case a_refused => k_is)
    (case l_refused => k_is)
    (case c_refused => k_is)
    (case k_refused => k_is)
    (case a_law => k_is)
    (case l_law => k_is)
    (case c_law => k_is)
    (case k_law => k_is)
    (case y_MOST_SIGNS => k_is)
    (case y_RingError => k_is)
    (case y_NoMaze => k_is)
    (case y_Crossed => k_is)
    (case y_NoWord => k_is)
    (case y_NoDrawing => k_is)
    (case y_NoBow => k_is)
    (case y_NoRound => k_is)
    (case y_NoCode => k_is)
    (case y_NoNumber => k_is)
    (case y_NoName => k_is)
    (case y_NoRow => k_is)
    (case x_lkC => k_is)
    (case x_lkR => k_is)
    (case x_lkN => k_is)
    (case x_nC => first | rfl | k_is)
    (case x_iC => k_is)
    (case x_eR => first | rfl | k_is)
    (case x_lkM => k_is)
    (case x_nR => first | rfl | k_is)
    (case x_r1 => k_is)
    (case x_r2 => k_is)
    (case x_r3 => k_is)
    (case x_r4 => k_is)
    (case x_ga => k_is)
    (case x_gt => k_is)
    (case x_gc => k_is)
    (case x_sp => k_is)
    (case x_tk => k_is)
    (case x_mr => k_is)
    (case x_rb => k_is)
    (case x_cr => k_is)
    (case x_vt => k_is)
    (case x_cs => k_is)
    (case x_cb => k_is)
    (case x_lk_NoMaze => k_is)
    (case x_mr_NoMaze => k_is)
    (case x_ne_NoMaze => first | rfl | k_is)
    (case x_lk_Crossed => k_is)
    (case x_mr_Crossed => k_is)
    (case x_ne_Crossed => first | rfl | k_is)
    (case x_lk_NoDrawing => k_is)
    (case x_mr_NoDrawing => k_is)
    (case x_ne_NoDrawing => first | rfl | k_is)
    (case x_lk_NoBow => k_is)
    (case x_mr_NoBow => k_is)
    (case x_ne_NoBow => first | rfl | k_is)
    (case x_lk_NoRound => k_is)
    (case x_mr_NoRound => k_is)
    (case x_ne_NoRound => first | rfl | k_is)
    (case x_lk_NoCode => k_is)
    (case x_mr_NoCode => k_is)
    (case x_ne_NoCode => first | rfl | k_is)
    (case x_lk_NoNumber => k_is)
    (case x_mr_NoNumber => k_is)
    (case x_ne_NoNumber => first | rfl | k_is)
    (case x_lk_NoName => k_is)
    (case x_mr_NoName => k_is)
    (case x_ne_NoName => first | rfl | k_is)
    (case x_lk_NoRow => k_is)
    (case x_mr_NoRow => k_is)
    (case x_ne_NoRow => first | rfl | k_is)
    (case x2_lkC => k_is)
    (case x2_lkN => k_is)
    (case x2_nC => first | rfl | k_is)
    (case x2_iC => k_is)
    (case x2_ga => k_is)
    (case x2_gt => k_is)
    (case x2_gc => k_is)
    (case x2_mr => k_is)
    (case x2_cr => k_is)
    (case x2_vt => k_is)
    (case x2_cs => k_is)
    (case x2_cb => k_is)
    (case x2_mr_NoMaze => k_is)
    (case x2_ne_NoMaze => first | rfl | k_is)
    (case x2_mr_Crossed => k_is)
    (case x2_ne_Crossed => first | rfl | k_is)
    (case x2_mr_NoWord => k_is)
    (case x2_ne_NoWord => first | rfl | k_is)
    (case x2_mr_NoDrawing => k_is)
    (case x2_ne_NoDrawing => first | rfl | k_is)
    (case x2_mr_NoRound => k_is)
    (case x2_ne_NoRound => first | rfl | k_is)
    (case x2_mr_NoCode => k_is)
    (case x2_ne_NoCode => first | rfl | k_is)
    (case x2_mr_NoNumber => k_is)
    (case x2_ne_NoNumber => first | rfl | k_is)
    (case x2_mr_NoName => k_is)
    (case x2_ne_NoName => first | rfl | k_is)
    (case x2_mr_NoRow => k_is)
    (case x2_ne_NoRow => first | rfl | k_is)
    (case z_len => k_is)
    (case z_range => k_is)
    (case z_int => k_is)
    (case z_list => k_is)
    (case z_tuple => k_is)
    (case z_isinstance => k_is)
    (case z_str => k_is)
    (case z_bool => k_is)
    (case z_sorted => k_is)
    (case z_all => k_is)
    (case z_enumerate => k_is)
    (case z_max => k_is)
    (case z_min => k_is)
    (case z_ValueError => k_is)
#print axioms PySem.Challenge.cw_ringmaze_k26_laid_in_holds
