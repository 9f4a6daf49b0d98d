import PyProof.Rows.All
import Wide.All
import OpenK.AllK
import Wide.FinOn
import Lean
import PyProof.EqAt
import PyProof.EqKinds
import PyProof.TupleCall
import KE.LcSums
import PyProof.StrLawsJoin
import KE.KSortTup
import KE.KSortKey
import PyProof.WalkInts
import PyProof.MinMaxWalk
import KE.KRevIter
import KE.KSortedM
import PyProof.ReprLen
import PyProof.P3Eq
import PySem.Challenge.RW_ringmaze_k32_no_codes
set_option Elab.async false
set_option linter.all false
set_option maxRecDepth 100000
set_option maxHeartbeats 4000000
/-! States by numbers of pieces: each piece's number stands twice, that of the mouth's piece, 0, once; no two pieces cross, none goes round the mouth's end. -/
def PySem.W.Fast.tw15648742145047114723 : Nat := 0
def PySem.W.Fast.tw15241051786869383304 : Nat := 0
def PySem.W.Fast.tw6496075194006102257 : Nat := 0
def PySem.W.Fast.tw236768233006726093 : Nat := 0
def PySem.W.Fast.tw835762571672392391 : Nat := 0
def PySem.W.Fast.tw10997980479020531943 : Nat := 0
def PySem.W.Fast.tw15696703054958423346 : Nat := 0
def PySem.W.Fast.tw18092003041296623416 : Nat := 0
def PySem.W.Fast.tw12839768155798470624 : Nat := 0
def PySem.W.Fast.tw18201068940826561062 : Nat := 0
def PySem.W.Fast.tw7015421629918021980 : Nat := 0
def PySem.W.Fast.tw7146539063245894685 : Nat := 0
def PySem.W.Fast.tw6132075699114295745 : Nat := 0
def PySem.W.Fast.tw720148752278214365 : Nat := 0
def PySem.W.Fast.tw10134529916461155846 : Nat := 0
def PySem.W.Fast.tw3058913026942446801 : Nat := 0
def PySem.W.Fast.tw13535411962692613016 : Nat := 0
def PySem.W.Fast.tw4467709565832763791 : Nat := 0
def PySem.W.Fast.tw17089833729756697635 : Nat := 0
def PySem.W.Fast.tw266706465226021286 : Nat := 0
def PySem.W.Fast.tw15682794205967016194 : Nat := 0
def PySem.W.Fast.tw13359805538006899532 : Nat := 0
def PySem.W.Fast.tw14698594554584625515 : Nat := 0
def PySem.W.Fast.tw247132842025131097 : Nat := 0
def PySem.W.Fast.tw7306551284875717490 : Nat := 0
def PySem.W.Fast.tw5704626062903509154 : Nat := 0
def PySem.W.Fast.tw12004582446297186492 : Nat := 0
def PySem.W.Fast.tw8932053144094896383 : Nat := 0
def PySem.W.Fast.tw14600976240125570162 : Nat := 0
def PySem.W.Fast.tw15732942495471868319 : Nat := 0
def PySem.W.Fast.tw17208855237533654466 : Nat := 0
def PySem.W.Fast.tw1862254739947883884 : Nat := 0
def PySem.W.Fast.tw15586158575730908559 : Nat := 0
def PySem.W.Fast.tw16694212629205091505 : Nat := 0
def PySem.W.Fast.tw3298285822555661292 : Nat := 0
def PySem.W.Fast.tw17648739987190718061 : Nat := 0
def PySem.W.Fast.tw16457152216566351924 : Nat := 0
def PySem.W.Fast.tw13971736301840797181 : Nat := 0
def PySem.W.Fast.tw7749181834280617995 : Nat := 0
def PySem.W.Fast.tw9249671432622509692 : Nat := 0
namespace Rm
structure EW (R : List Int) : Prop where
  nn : ∀ x ∈ R, 0 ≤ x
  z1 : R.count 0 = 1
  two : ∀ x ∈ R, 0 < x → R.count x = 2
  nc : ∀ u v, [u, v, u, v].Sublist R → u = v
  top : ∀ u, ¬ [u, 0, u].Sublist R
section
variable {U W : List Int} {x y : Int}
theorem sub_a {s1 s2 : List Int} {a : Int} (h1 : s1.Sublist U) (h2 : s2.Sublist W) (ha : a = x ∨ a = y) : (s1 ++ a :: s2).Sublist (U ++ x :: y :: W) := by
  refine h1.append ?_
  rcases ha with rfl | rfl
  · exact (h2.cons y).cons_cons a
  · exact (h2.cons_cons a).cons x
theorem sub_0 {s : List Int} (h : s.Sublist (U ++ W)) : s.Sublist (U ++ x :: y :: W) :=
  h.trans ((List.Sublist.refl U).append (((List.Sublist.refl W).cons y).cons x))
theorem split4 {a b c d : Int} (h : [a, b, c, d].Sublist (U ++ W)) :
    [a, b, c, d].Sublist W ∨ ([a].Sublist U ∧ [b, c, d].Sublist W) ∨ ([a, b].Sublist U ∧ [c, d].Sublist W) ∨ ([a, b, c].Sublist U ∧ [d].Sublist W) ∨ [a, b, c, d].Sublist U := by
  obtain ⟨s1, s2, e, h1, h2⟩ := List.sublist_append_iff.mp h
  match s1, e with
  | [], e => simp at e; subst e; exact .inl h2
  | [_], e => simp at e; obtain ⟨rfl, rfl⟩ := e; exact .inr (.inl ⟨h1, h2⟩)
  | [_, _], e => simp at e; obtain ⟨rfl, rfl, rfl⟩ := e; exact .inr (.inr (.inl ⟨h1, h2⟩))
  | [_, _, _], e => simp at e; obtain ⟨rfl, rfl, rfl, rfl⟩ := e; exact .inr (.inr (.inr (.inl ⟨h1, h2⟩)))
  | _ :: _ :: _ :: _ :: r, e => simp at e; obtain ⟨rfl, rfl, rfl, rfl, rfl, rfl⟩ := e; exact .inr (.inr (.inr (.inr h1)))
theorem split3 {a b c : Int} (h : [a, b, c].Sublist (U ++ W)) :
    [a, b, c].Sublist W ∨ ([a].Sublist U ∧ [b, c].Sublist W) ∨ ([a, b].Sublist U ∧ [c].Sublist W) ∨ [a, b, c].Sublist U := by
  obtain ⟨s1, s2, e, h1, h2⟩ := List.sublist_append_iff.mp h
  match s1, e with
  | [], e => simp at e; subst e; exact .inl h2
  | [_], e => simp at e; obtain ⟨rfl, rfl⟩ := e; exact .inr (.inl ⟨h1, h2⟩)
  | [_, _], e => simp at e; obtain ⟨rfl, rfl, rfl⟩ := e; exact .inr (.inr (.inl ⟨h1, h2⟩))
  | _ :: _ :: _ :: r, e => simp at e; obtain ⟨rfl, rfl, rfl, rfl, rfl⟩ := e; exact .inr (.inr (.inr h1))
theorem tl_ {a : Int} {s l : List Int} (h : (a :: s).Sublist l) : s.Sublist l := (List.sublist_cons_self a s).trans h
theorem ini3 {a b c d : Int} {l : List Int} (h : [a, b, c, d].Sublist l) : [a, b, c].Sublist l := List.Sublist.trans (by simp : [a, b, c].Sublist [a, b, c, d]) h
theorem ini2 {a b c : Int} {l : List Int} (h : [a, b, c].Sublist l) : [a, b].Sublist l := List.Sublist.trans (by simp) h
theorem ini1 {a b : Int} {l : List Int} (h : [a, b].Sublist l) : [a].Sublist l := List.Sublist.trans (by simp) h
theorem EW.k1 (E : EW (U ++ x :: y :: W)) {a c v : Int} (ha : a = x ∨ a = y) (hc : c = x ∨ c = y) (h : [a, v, c, v].Sublist (U ++ W)) : v = a ∨ v = c := by
  rcases split4 h with h | ⟨h1, h2⟩ | ⟨h1, h2⟩ | ⟨h1, h2⟩ | h
  · exact .inr (E.nc _ _ (sub_a (List.nil_sublist U) (tl_ h) hc)).symm
  · exact .inr (E.nc _ _ (sub_a (List.nil_sublist U) h2 hc)).symm
  · exact .inl (E.nc _ _ (sub_a h1 (tl_ h2) ha)).symm
  · exact .inl (E.nc _ _ (sub_a (ini2 h1) h2 ha)).symm
  · exact .inr (E.nc _ _ (sub_a (tl_ h) (List.nil_sublist W) hc))
theorem EW.k2 (E : EW (U ++ x :: y :: W)) {a c u : Int} (ha : a = x ∨ a = y) (hc : c = x ∨ c = y) (h : [u, a, u, c].Sublist (U ++ W)) : u = a ∨ u = c := by
  rcases split4 h with h | ⟨h1, h2⟩ | ⟨h1, h2⟩ | ⟨h1, h2⟩ | h
  · exact .inl (E.nc _ _ (sub_a (List.nil_sublist U) (ini3 h) ha)).symm
  · exact .inr (E.nc _ _ (sub_a h1 (tl_ h2) hc))
  · exact .inr (E.nc _ _ (sub_a (ini1 h1) h2 hc))
  · exact .inl (E.nc _ _ (sub_a h1 (List.nil_sublist W) ha))
  · exact .inl (E.nc _ _ (sub_a (ini3 h) (List.nil_sublist W) ha))
theorem EW.k3 (E : EW (U ++ x :: y :: W)) {a c : Int} (ha : a = x ∨ a = y) (hc : c = x ∨ c = y) (h : [a, 0, c].Sublist (U ++ W)) : False := by
  rcases split3 h with h | ⟨h1, h2⟩ | ⟨h1, h2⟩ | h
  · exact E.top _ (sub_a (List.nil_sublist U) (tl_ h) hc)
  · exact E.top _ (sub_a (List.nil_sublist U) h2 hc)
  · exact E.top _ (sub_a h1 (List.nil_sublist W) ha)
  · exact E.top _ (sub_a (ini2 h) (List.nil_sublist W) ha)
theorem EW.k4 (E : EW (U ++ x :: y :: W)) {u v : Int} (h0 : x = 0 ∨ y = 0) (hv : v = x ∨ v = y) (h : [u, v, u].Sublist (U ++ W)) : u = v := by
  have hz : (0 : Int) = x ∨ (0 : Int) = y := h0.imp Eq.symm Eq.symm
  rcases split3 h with h | ⟨h1, h2⟩ | ⟨h1, h2⟩ | h
  · exact (E.nc _ _ (sub_a (List.nil_sublist U) h hv)).symm
  · exact (E.top _ (sub_a h1 (tl_ h2) hz)).elim
  · exact (E.top _ (sub_a (ini1 h1) h2 hz)).elim
  · exact E.nc _ _ (sub_a h (List.nil_sublist W) hv)
end
def rn (lo hi v : Int) : Int := if v = hi then lo else v
theorem count_rn {lo hi v : Int} (hne : lo ≠ hi) : ∀ l : List Int, (l.map (rn lo hi)).count v = if v = hi then 0 else if v = lo then l.count lo + l.count hi else l.count v
  | [] => by simp
  | a :: l => by
    have ih := count_rn (v := v) hne l
    simp only [List.map_cons, List.count_cons, ih, rn, beq_iff_eq]
    by_cases h1 : v = hi
    · subst h1
      by_cases h2 : a = v
      · simp [h2, hne]
      · simp [h2]
    · by_cases h3 : v = lo
      · subst h3
        by_cases h2 : a = hi
        · subst h2; simp [h1, Ne.symm h1]; omega
        · simp [h1, h2]; omega
      · by_cases h2 : a = hi
        · subst h2; simp [h1, h3, Ne.symm h3, Ne.symm h1]
        · simp [h1, h2, h3]
theorem cnt_in {U W : List Int} {x y v : Int} : (U ++ x :: y :: W).count v = (U ++ W).count v + (if x = v then 1 else 0) + (if y = v then 1 else 0) := by
  simp only [List.count_append, List.count_cons, beq_iff_eq]; omega
theorem rn_cases {lo hi a : Int} : (a = hi ∧ rn lo hi a = lo) ∨ (a ≠ hi ∧ rn lo hi a = a) := by
  by_cases h : a = hi
  · exact .inl ⟨h, by simp [rn, h]⟩
  · exact .inr ⟨h, by simp [rn, h]⟩
theorem pre4 {f : Int → Int} {l : List Int} {u v p q : Int} (h : [u, v, p, q].Sublist (l.map f)) : ∃ a b c d, [a, b, c, d].Sublist l ∧ u = f a ∧ v = f b ∧ p = f c ∧ q = f d := by
  obtain ⟨l', hl, e⟩ := List.sublist_map_iff.mp h
  have hn : l'.length = 4 := by have := congrArg List.length e; simp at this; omega
  obtain ⟨a, r, rfl⟩ := List.exists_cons_of_length_eq_add_one hn
  obtain ⟨b, r, rfl⟩ := List.exists_cons_of_length_eq_add_one (l := r) (n := 2) (by simpa using hn)
  obtain ⟨c, r, rfl⟩ := List.exists_cons_of_length_eq_add_one (l := r) (n := 1) (by simpa using hn)
  obtain ⟨d, r, rfl⟩ := List.exists_cons_of_length_eq_add_one (l := r) (n := 0) (by simpa using hn)
  have : r = [] := List.eq_nil_of_length_eq_zero (by simpa using hn)
  subst this
  simp only [List.map_cons, List.map_nil, List.cons.injEq, and_true] at e
  exact ⟨a, b, c, d, hl, e⟩
theorem pre3 {f : Int → Int} {l : List Int} {u v p : Int} (h : [u, v, p].Sublist (l.map f)) : ∃ a b c, [a, b, c].Sublist l ∧ u = f a ∧ v = f b ∧ p = f c := by
  obtain ⟨l', hl, e⟩ := List.sublist_map_iff.mp h
  have hn : l'.length = 3 := by have := congrArg List.length e; simp at this; omega
  obtain ⟨a, r, rfl⟩ := List.exists_cons_of_length_eq_add_one hn
  obtain ⟨b, r, rfl⟩ := List.exists_cons_of_length_eq_add_one (l := r) (n := 1) (by simpa using hn)
  obtain ⟨c, r, rfl⟩ := List.exists_cons_of_length_eq_add_one (l := r) (n := 0) (by simpa using hn)
  have : r = [] := List.eq_nil_of_length_eq_zero (by simpa using hn)
  subst this
  simp only [List.map_cons, List.map_nil, List.cons.injEq, and_true] at e
  exact ⟨a, b, c, hl, e⟩
theorem EW.join {U W : List Int} {x y lo hi : Int} (E : EW (U ++ x :: y :: W)) (hlh : lo < hi) (hp : (lo = x ∧ hi = y) ∨ (lo = y ∧ hi = x)) : EW ((U ++ W).map (rn lo hi)) := by
  have hne : lo ≠ hi := by omega
  have hlo : lo = x ∨ lo = y := hp.elim (fun h => .inl h.1) (fun h => .inr h.1)
  have hhi : hi = x ∨ hi = y := hp.elim (fun h => .inr h.2) (fun h => .inl h.2)
  have mlo : lo ∈ U ++ x :: y :: W := by rcases hlo with rfl | rfl <;> simp
  have mhi : hi ∈ U ++ x :: y :: W := by rcases hhi with rfl | rfl <;> simp
  have n0 := E.nn _ mlo
  have chi : (U ++ W).count hi = 1 := by
    have := E.two hi mhi (by omega)
    rw [cnt_in] at this
    rcases hp with ⟨rfl, rfl⟩ | ⟨rfl, rfl⟩
    · rw [if_neg hne, if_pos rfl] at this; omega
    · rw [if_pos rfl, if_neg hne] at this; omega
  have clo : (U ++ W).count lo = if lo = 0 then 0 else 1 := by
    have e : (U ++ x :: y :: W).count lo = (U ++ W).count lo + 1 := by
      rw [cnt_in]
      rcases hp with ⟨rfl, rfl⟩ | ⟨rfl, rfl⟩
      · rw [if_pos rfl, if_neg (Ne.symm hne)]
      · rw [if_pos rfl, if_neg (Ne.symm hne)]
    by_cases h : lo = 0
    · rw [if_pos h]; have := E.z1; rw [← h, e] at this; omega
    · rw [if_neg h]; have := E.two lo mlo (by omega); omega
  have oth : ∀ v, v ≠ lo → v ≠ hi → (U ++ W).count v = (U ++ x :: y :: W).count v := fun v h1 h2 => by
    rw [cnt_in]
    rcases hp with ⟨rfl, rfl⟩ | ⟨rfl, rfl⟩
    · rw [if_neg (Ne.symm h1), if_neg (Ne.symm h2)]; rfl
    · rw [if_neg (Ne.symm h2), if_neg (Ne.symm h1)]; rfl
  have mem0 : ∀ v, v ∈ (U ++ W).map (rn lo hi) → v ≠ hi ∧ (v = lo ∨ v ∈ U ++ W) := fun v hv => by
    obtain ⟨a, ha, rfl⟩ := List.mem_map.mp hv
    rcases rn_cases (lo := lo) (hi := hi) (a := a) with ⟨h1, h2⟩ | ⟨h1, h2⟩
    · rw [h2]; exact ⟨hne, .inl rfl⟩
    · rw [h2]; exact ⟨h1, .inr ha⟩
  have inR : ∀ v, v ∈ U ++ W → v ∈ U ++ x :: y :: W := fun v hv => by
    rcases List.mem_append.mp hv with h | h
    · exact List.mem_append_left _ h
    · exact List.mem_append_right _ (List.mem_cons_of_mem _ (List.mem_cons_of_mem _ h))
  have pick : ∀ a c u, rn lo hi a = u → rn lo hi c = u → a = c ∨ (u = lo ∧ (a = x ∨ a = y) ∧ (c = x ∨ c = y)) := fun a c u h1 h2 => by
    rcases rn_cases (lo := lo) (hi := hi) (a := a) with ⟨h3, h4⟩ | ⟨h3, h4⟩ <;> rcases rn_cases (lo := lo) (hi := hi) (a := c) with ⟨h5, h6⟩ | ⟨h5, h6⟩
    · exact .inl (h3.trans h5.symm)
    · have e1 : u = lo := by rw [← h1, h4]
      have e2 : c = lo := by rw [← h6, h2, e1]
      exact .inr ⟨e1, h3 ▸ hhi, e2 ▸ hlo⟩
    · have e1 : u = lo := by rw [← h2, h6]
      have e2 : a = lo := by rw [← h4, h1, e1]
      exact .inr ⟨e1, e2 ▸ hlo, h5 ▸ hhi⟩
    · exact .inl (by rw [← h4, ← h6, h1, h2])
  have xy : ∀ a : Int, a = x ∨ a = y → rn lo hi a = lo := fun a h => by
    have : a = lo ∨ a = hi := by
      rcases hp with ⟨rfl, rfl⟩ | ⟨rfl, rfl⟩
      · exact h
      · exact h.symm
    rcases this with rfl | rfl
    · simp [rn, hne]
    · simp [rn]
  refine ⟨fun v hv => ?_, ?_, fun v hv h0 => ?_, fun u v h => ?_, fun u h => ?_⟩
  · rcases (mem0 v hv).2 with rfl | h
    · exact n0
    · exact E.nn v (inR v h)
  · rw [count_rn hne, if_neg (by omega)]
    by_cases h : (0 : Int) = lo
    · rw [if_pos h, clo, if_pos h.symm, chi]
    · rw [if_neg h, oth 0 h (by omega), E.z1]
  · obtain ⟨h1, h2⟩ := mem0 v hv
    rw [count_rn hne, if_neg h1]
    by_cases h : v = lo
    · rw [if_pos h, clo, if_neg (by omega), chi]
    · rw [if_neg h, oth v h h1]
      exact E.two v (inR v (h2.resolve_left h)) h0
  · obtain ⟨a, b, c, d, hl, e1, e2, e3, e4⟩ := pre4 h
    · skip
      rcases pick a c u e1.symm e3.symm with rfl | ⟨hu, ha, hc⟩
      · rcases pick b d v e2.symm e4.symm with rfl | ⟨hv, hb, hd⟩
        · have := E.nc _ _ (sub_0 hl); subst this; rw [e1, e2]
        · rcases E.k2 hb hd hl with z | z
          · rw [e1, z, hv]; exact xy b hb
          · rw [e1, z, hv]; exact xy d hd
      · rcases pick b d v e2.symm e4.symm with rfl | ⟨hv, hb, hd⟩
        · rcases E.k1 ha hc hl with z | z
          · rw [e2, z, hu]; exact (xy a ha).symm
          · rw [e2, z, hu]; exact (xy c hc).symm
        · rw [hu, hv]
  · obtain ⟨a, b, c, hl, e1, e2, e3⟩ := pre3 h
    · skip
      by_cases hl0 : lo = 0
      · have h0n : (0 : Int) ∉ U ++ W := by rw [← List.count_eq_zero, ← hl0, clo, if_pos hl0]
        have hb : b ∈ U ++ W := hl.subset (by simp)
        have ha : a ∈ U ++ W := hl.subset (by simp)
        have bh : b = hi := by
          rcases rn_cases (lo := lo) (hi := hi) (a := b) with ⟨h3, h4⟩ | ⟨h3, h4⟩
          · exact h3
          · rw [h4] at e2; exact (h0n (e2 ▸ hb)).elim
        have hz : x = 0 ∨ y = 0 := hlo.elim (fun z => .inl (z ▸ hl0)) (fun z => .inr (z ▸ hl0))
        rcases pick a c u e1.symm e3.symm with rfl | ⟨hu, ha', hc'⟩
        · have eab : a = b := E.k4 hz (bh ▸ hhi) hl
          have := hl.count_le hi
          rw [chi, eab, bh] at this
          simp at this
        · have : a = hi := by
            have : a = lo ∨ a = hi := by
              rcases hp with ⟨rfl, rfl⟩ | ⟨rfl, rfl⟩
              · exact ha'
              · exact ha'.symm
            rcases this with z | z
            · exact (h0n (by rw [← hl0, ← z]; exact ha)).elim
            · exact z
          have cc := hl.count_le hi
          rw [chi, this, bh] at cc
          simp at cc
      · have b0 : b = 0 := by
          rcases rn_cases (lo := lo) (hi := hi) (a := b) with ⟨h3, h4⟩ | ⟨h3, h4⟩
          · rw [h4] at e2; exact (hl0 e2.symm).elim
          · rw [h4] at e2; exact e2.symm
        subst b0
        rcases pick a c u e1.symm e3.symm with rfl | ⟨hu, ha', hc'⟩
        · exact E.top _ (sub_0 hl)
        · exact E.k3 ha' hc' hl
theorem zvz {U W : List Int} {z v : Int} (hU : z ∉ U) (hW : z ∉ W) (hv : v ≠ z) : ¬ [z, v, z].Sublist (U ++ z :: z :: W) := fun h => by
  have hw : ∀ {r : List Int}, ¬ (v :: z :: r).Sublist W := fun h => hW (h.subset (by simp))
  rcases split3 h with h | ⟨h1, h2⟩ | ⟨h1, h2⟩ | h
  · have h' : [v, z].Sublist (z :: W) := (List.cons_sublist_cons.mp h)
    cases h' with
    | cons _ h'' => exact hw h''
    | cons_cons _ _ => exact hv rfl
  · exact hU (h1.subset (by simp))
  · exact hU (h1.subset (by simp))
  · exact hU (h.subset (by simp))
theorem fl_ne {l : List Int} {z : Int} (h : z ∉ l) : l.filter (fun a => !decide (a = z)) = l :=
  List.filter_eq_self.mpr fun a ha => by simp only [Bool.not_eq_true', decide_eq_false_iff_not]; exact fun e => h (e ▸ ha)
theorem EW.ins {U W : List Int} {z : Int} (E : EW (U ++ W)) (hz : 0 < z) (hU : z ∉ U) (hW : z ∉ W) : EW (U ++ z :: z :: W) := by
  have c0 : (U ++ W).count z = 0 := List.count_eq_zero.mpr fun h => (List.mem_append.mp h).elim hU hW
  have inn : ∀ v, v ∈ U ++ z :: z :: W → v = z ∨ v ∈ U ++ W := fun v h => by
    simp only [List.mem_append, List.mem_cons] at h ⊢; rcases h with h | h | h | h <;> simp [h]
  have fl : ∀ s : List Int, z ∉ s → s.Sublist (U ++ z :: z :: W) → s.Sublist (U ++ W) := fun s hs h => by
    have h2 := h.filter (fun a => !decide (a = z))
    have e1 := fl_ne hs
    have e2 : (U ++ z :: z :: W).filter (fun a => !decide (a = z)) = U ++ W := by
      rw [List.filter_append, List.filter_cons, List.filter_cons]
      simp only [decide_true, Bool.not_true, Bool.false_eq_true, if_false]
      rw [fl_ne hU, fl_ne hW]
    rw [e1, e2] at h2; exact h2
  refine ⟨fun v hv => ?_, ?_, fun v hv h0 => ?_, fun u v h => ?_, fun u h => ?_⟩
  · rcases inn v hv with rfl | h
    · omega
    · exact E.nn v h
  · rw [cnt_in, if_neg (by omega), E.z1]
  · rcases inn v hv with rfl | h
    · rw [cnt_in, c0, if_pos rfl]
    · by_cases hvz : z = v
      · subst hvz; rw [cnt_in, c0, if_pos rfl]
      · rw [cnt_in, if_neg hvz]; exact E.two v h h0
  · by_cases huv : u = v
    · exact huv
    by_cases hu : u = z
    · subst hu; exact (zvz hU hW (Ne.symm huv) (ini3 h)).elim
    by_cases hv : v = z
    · subst hv; exact (zvz hU hW huv (tl_ h)).elim
    exact E.nc _ _ (fl _ (by simp [Ne.symm hu, Ne.symm hv]) h)
  · by_cases hu : u = z
    · subst hu; exact zvz hU hW (by omega) h
    exact E.top _ (fl _ (by simp [Ne.symm hu]; omega) h)
/-! ### the signs -/
def sgz (pre : List Int) (x : Int) : Nat := if 0 < x then (if x ∈ pre then 41 else 40) else 42
def sgp : List Int → List Int → List Nat
  | _, [] => []
  | pre, x :: r => sgz pre x :: sgp (pre ++ [x]) r
theorem sgp_append : ∀ (A pre B : List Int), sgp pre (A ++ B) = sgp pre A ++ sgp (pre ++ A) B
  | [], pre, B => by simp [sgp]
  | x :: A, pre, B => by simp [sgp, sgp_append A]
theorem sgp_len : ∀ (A pre : List Int), (sgp pre A).length = A.length
  | [], _ => rfl
  | x :: A, pre => by simp [sgp, sgp_len A]
theorem sgp_mid {A pre B : List Int} {x : Int} : sgp pre (A ++ x :: B) = sgp pre A ++ sgz (pre ++ A) x :: sgp (pre ++ A ++ [x]) B := by rw [sgp_append]; rfl
theorem sgz_in (pre : List Int) (x : Int) : sgz pre x = 40 ∨ sgz pre x = 41 ∨ sgz pre x = 42 := by unfold sgz; split <;> (try split) <;> simp
theorem sgp_in : ∀ (A pre : List Int), ∀ c ∈ sgp pre A, c = 40 ∨ c = 41 ∨ c = 42
  | [], _, c, h => by simp [sgp] at h
  | x :: A, pre, c, h => by
    rcases List.mem_cons.mp h with rfl | h
    · exact sgz_in pre x
    · exact sgp_in A _ c h
theorem sgz_1 {pre : List Int} {x : Int} (h0 : 0 < x) (h : x ∉ pre) : sgz pre x = 40 := by simp [sgz, h0, h]
theorem sgz_2 {pre : List Int} {x : Int} (h0 : 0 < x) (h : x ∈ pre) : sgz pre x = 41 := by simp [sgz, h0, h]
theorem sgz_0 {pre : List Int} : sgz pre 0 = 42 := by simp [sgz]
theorem sgp_same {x y : Int} : ∀ (V pre pre' : List Int), (∀ v ∈ V, v ≠ x ∧ v ≠ y) → (∀ v, v ≠ x → v ≠ y → (v ∈ pre ↔ v ∈ pre')) → sgp pre V = sgp pre' V
  | [], _, _, _, _ => rfl
  | v :: V, pre, pre', hV, hp => by
    have h1 := hV v (by simp)
    have e : sgz pre v = sgz pre' v := by simp only [sgz, hp v h1.1 h1.2]
    simp only [sgp, e]
    rw [sgp_same V (pre ++ [v]) (pre' ++ [v]) (fun w hw => hV w (List.mem_cons_of_mem _ hw)) fun w a b => by simp [hp w a b]]
theorem sgp_take (V pre : List Int) (j : Nat) : (sgp pre V).take j = sgp pre (V.take j) := by
  by_cases h : j ≤ V.length
  · have e : sgp pre V = sgp pre (V.take j) ++ sgp (pre ++ V.take j) (V.drop j) := by rw [← sgp_append, List.take_append_drop]
    rw [e, List.take_append_of_le_length (by rw [sgp_len, List.length_take]; omega), List.take_of_length_le (by rw [sgp_len, List.length_take]; omega)]
  · rw [List.take_of_length_le (by rw [sgp_len]; omega), List.take_of_length_le (by omega)]
def vl (c : Nat) : Int := if c = 40 then 1 else if c = 41 then -1 else 0
def ps (cs : List Nat) : Int := (cs.map vl).sum
theorem ps_nil : ps [] = 0 := rfl
theorem ps_cons (c : Nat) (cs : List Nat) : ps (c :: cs) = vl c + ps cs := by simp [ps]
theorem ps_append (a b : List Nat) : ps (a ++ b) = ps a + ps b := by simp [ps]
structure Cl (V : List Nat) : Prop where
  z : ps V = 0
  nn : ∀ j, 0 ≤ ps (V.take j)
theorem open_go {pre : List Int} : ∀ (V D o : List Int), o.Nodup → (∀ v, v ∈ o ↔ D.count v = 1) → (∀ v ∈ D ++ V, 0 < v ∧ v ∉ pre ∧ (D ++ V).count v ≤ 2) →
    ∃ o' : List Int, o'.Nodup ∧ (o'.length : Int) = o.length + ps (sgp (pre ++ D) V) ∧ ∀ v, v ∈ o' ↔ (D ++ V).count v = 1
  | [], D, o, nd, ho, h => ⟨o, nd, by simp [sgp, ps_nil], by simpa using ho⟩
  | v :: V, D, o, nd, ho, h => by
    have e : D ++ v :: V = (D ++ [v]) ++ V := by simp
    obtain ⟨h0, hp, h2⟩ := h v (by simp)
    have hc : (D ++ v :: V).count v = D.count v + 1 + V.count v := by simp [List.count_append, List.count_cons]; omega
    have hw : ∀ w, (D ++ [v]).count w = D.count w + if v = w then 1 else 0 := fun w => by simp [List.count_append, List.count_cons]
    rw [e] at h ⊢
    by_cases hv : v ∈ D
    · have c1 : D.count v = 1 := by have := List.count_pos_iff.mpr hv; omega
      have vo := (ho v).mpr c1
      obtain ⟨o', n', l', m'⟩ := open_go (pre := pre) V (D ++ [v]) (o.erase v) (nd.erase v) (fun w => by
        rw [nd.mem_erase_iff, ho w, hw w]
        by_cases e : v = w
        · subst e; simp [c1]
        · simp [e, Ne.symm e]) h
      refine ⟨o', n', ?_, m'⟩
      have hl := List.length_erase_of_mem vo
      have hpos := List.length_pos_of_mem vo
      rw [l', sgp, ps_cons, sgz_2 h0 (List.mem_append_right _ hv), hl, List.append_assoc]
      have : vl 41 = -1 := by decide
      omega
    · have c0 : D.count v = 0 := List.count_eq_zero.mpr hv
      obtain ⟨o', n', l', m'⟩ := open_go (pre := pre) V (D ++ [v]) (v :: o) (List.nodup_cons.mpr ⟨fun z => (by rw [ho v, c0] at z; cases z), nd⟩) (fun w => by
        rw [List.mem_cons, ho w, hw w]
        by_cases e : v = w
        · subst e; simp [c0]
        · simp [e, Ne.symm e]) h
      refine ⟨o', n', ?_, m'⟩
      rw [l', sgp, ps_cons, sgz_1 h0 (fun z => (List.mem_append.mp z).elim hp hv), List.length_cons, List.append_assoc]
      have : vl 40 = 1 := by decide
      omega
theorem cl_of {pre V : List Int} (h : ∀ v ∈ V, 0 < v ∧ v ∉ pre ∧ V.count v = 2) : Cl (sgp pre V) := by
  refine ⟨?_, fun j => ?_⟩
  · obtain ⟨o, _, l, m⟩ := open_go (pre := pre) V [] [] .nil (by simp) (fun v hv => ⟨(h v (by simpa using hv)).1, (h v (by simpa using hv)).2.1, by have := (h v (by simpa using hv)).2.2; simp only [List.nil_append]; omega⟩)
    have : o = [] := by
      rcases o with _ | ⟨v, o⟩
      · rfl
      · have c := (m v).mp (by simp)
        simp only [List.nil_append] at c
        have hv : v ∈ V := List.count_pos_iff.mp (by omega)
        have := (h v hv).2.2
        omega
    subst this
    simpa using l.symm
  · rw [sgp_take]
    obtain ⟨o, _, l, m⟩ := open_go (pre := pre) (V.take j) [] [] .nil (by simp) (fun v hv => by
      have hv' : v ∈ V := List.mem_of_mem_take (by simpa using hv)
      have := (h v hv').2.2
      have c := (List.take_sublist j V).count_le v
      exact ⟨(h v hv').1, (h v hv').2.1, by simp only [List.nil_append]; omega⟩)
    simp at l
    omega
theorem cnt_seg {A V B : List Int} {x v : Int} : (A ++ x :: (V ++ x :: B)).count v = A.count v + V.count v + B.count v + (if x = v then 2 else 0) := by
  simp only [List.count_append, List.count_cons, beq_iff_eq]; split <;> omega
theorem EW.seg {A V B : List Int} {x : Int} (E : EW (A ++ x :: (V ++ x :: B))) (hx : 0 < x) : Cl (sgp (A ++ [x]) V) ∧ x ∉ A ∧ x ∉ V ∧ x ∉ B := by
  have c := E.two x (by simp) hx
  rw [cnt_seg, if_pos rfl] at c
  have nA : x ∉ A := List.count_eq_zero.mp (by omega)
  have nV : x ∉ V := List.count_eq_zero.mp (by omega)
  have nB : x ∉ B := List.count_eq_zero.mp (by omega)
  refine ⟨cl_of fun v hv => ?_, nA, nV, nB⟩
  have vx : x ≠ v := fun e => nV (e ▸ hv)
  have hs : [v].Sublist V := List.singleton_sublist.mpr hv
  have v0 : v ≠ 0 := fun e => by
    subst e
    exact E.top x ((List.nil_sublist A).append ((hs.append (((List.nil_sublist B).cons_cons x) : [x].Sublist (x :: B))).cons_cons x))
  have hA : v ∉ A := fun h => vx.symm (E.nc v x ((List.singleton_sublist.mpr h).append ((hs.append ((List.nil_sublist B).cons_cons x)).cons_cons x)))
  have hB : v ∉ B := fun h => vx (E.nc x v ((List.nil_sublist A).append ((hs.append ((List.singleton_sublist.mpr h).cons_cons x)).cons_cons x)))
  have hn := E.nn v (by simp [hv])
  have c2 := E.two v (by simp [hv]) (by omega)
  rw [cnt_seg, if_neg vx, List.count_eq_zero.mpr hA, List.count_eq_zero.mpr hB] at c2
  exact ⟨by omega, by simp [hA, Ne.symm vx], by omega⟩
inductive Far (cs : List Nat) : Nat → Nat → Prop
  | star {P S : List Nat} {p : Nat} (h : cs = P ++ 42 :: S) (hp : p = P.length) : Far cs p p
  | right {P V S : List Nat} {p q : Nat} (h : cs = P ++ 40 :: (V ++ 41 :: S)) (c : Cl V) (hp : p = P.length) (hq : q = P.length + V.length + 1) : Far cs p q
  | left {P V S : List Nat} {p q : Nat} (h : cs = P ++ 40 :: (V ++ 41 :: S)) (c : Cl V) (hp : p = P.length + V.length + 1) (hq : q = P.length) : Far cs p q
theorem set_mid {P S : List Nat} {c d k : Nat} (h : k = P.length) : (P ++ c :: S).set k d = P ++ d :: S := by
  subst h; rw [List.set_append_right _ _ (Nat.le_refl _)]; simp
theorem td_mid {P Q : List Nat} {a b k : Nat} (h : k = P.length) : (P ++ a :: b :: Q).take k ++ (P ++ a :: b :: Q).drop (k + 2) = P ++ Q ∧ (P ++ a :: b :: Q).length = P.length + Q.length + 2 := by
  subst h
  refine ⟨?_, by simp; omega⟩
  rw [List.take_left, List.drop_append]
  simp
/-- both ends set anew, the two inner ones taken out -/
def jn (cs : List Nat) (p a b m0 m1 : Nat) : List Nat := ((cs.set a m0).set b m1).take p ++ ((cs.set a m0).set b m1).drop (p + 2)
theorem jn_mid {A V C F : List Nat} {a x y b p i j m0 m1 : Nat} (hi : i = A.length) (hj : j = A.length + V.length + C.length + 3) (hp : p = A.length + V.length + 1) :
    jn (A ++ a :: (V ++ x :: y :: (C ++ b :: F))) p i j m0 m1 = A ++ m0 :: (V ++ (C ++ m1 :: F)) := by
  unfold jn
  rw [set_mid hi, show A ++ m0 :: (V ++ x :: y :: (C ++ b :: F)) = (A ++ m0 :: (V ++ x :: y :: C)) ++ b :: F by simp, set_mid (by simp; omega),
    show (A ++ m0 :: (V ++ x :: y :: C)) ++ m1 :: F = (A ++ m0 :: V) ++ x :: y :: (C ++ m1 :: F) by simp, (td_mid (by simp; omega)).1]
  simp
theorem jn_right {P C D F : List Nat} {x y b d p i j m0 m1 : Nat} (hi : i = P.length + C.length + 2) (hj : j = P.length + C.length + D.length + 3) (hp : p = P.length) :
    jn (P ++ x :: y :: (C ++ b :: (D ++ d :: F))) p i j m0 m1 = P ++ (C ++ m0 :: (D ++ m1 :: F)) := by
  unfold jn
  rw [show P ++ x :: y :: (C ++ b :: (D ++ d :: F)) = (P ++ x :: y :: C) ++ b :: (D ++ d :: F) by simp, set_mid (by simp; omega),
    show (P ++ x :: y :: C) ++ m0 :: (D ++ d :: F) = (P ++ x :: y :: (C ++ m0 :: D)) ++ d :: F by simp, set_mid (by simp; omega),
    show (P ++ x :: y :: (C ++ m0 :: D)) ++ m1 :: F = P ++ x :: y :: (C ++ m0 :: (D ++ m1 :: F)) by simp, (td_mid hp).1]
theorem jn_left {A B C S : List Nat} {a b x y p i j m0 m1 : Nat} (hi : i = A.length) (hj : j = A.length + B.length + 1) (hp : p = A.length + B.length + C.length + 2) :
    jn (A ++ a :: (B ++ b :: (C ++ x :: y :: S))) p i j m0 m1 = A ++ m0 :: (B ++ m1 :: (C ++ S)) := by
  unfold jn
  rw [set_mid hi, show A ++ m0 :: (B ++ b :: (C ++ x :: y :: S)) = (A ++ m0 :: B) ++ b :: (C ++ x :: y :: S) by simp, set_mid (by simp; omega),
    show (A ++ m0 :: B) ++ m1 :: (C ++ x :: y :: S) = (A ++ m0 :: (B ++ m1 :: C)) ++ x :: y :: S by simp, (td_mid (by simp; omega)).1]
  simp
theorem jn_sr {P C F : List Nat} {x y b p i j m0 m1 : Nat} (hi : i = P.length) (hj : j = P.length + C.length + 2) (hp : p = P.length) :
    jn (P ++ x :: y :: (C ++ b :: F)) p i j m0 m1 = P ++ (C ++ m1 :: F) := by
  unfold jn
  rw [set_mid hi, show P ++ m0 :: y :: (C ++ b :: F) = (P ++ m0 :: y :: C) ++ b :: F by simp, set_mid (by simp; omega),
    show (P ++ m0 :: y :: C) ++ m1 :: F = P ++ m0 :: y :: (C ++ m1 :: F) by simp, (td_mid hp).1]
theorem jn_sl {A V S : List Nat} {a x y p i j m0 m1 : Nat} (hi : i = A.length) (hj : j = A.length + V.length + 2) (hp : p = A.length + V.length + 1) :
    jn (A ++ a :: (V ++ x :: y :: S)) p i j m0 m1 = A ++ m0 :: (V ++ S) := by
  unfold jn
  rw [set_mid hi, show A ++ m0 :: (V ++ x :: y :: S) = (A ++ m0 :: (V ++ [x])) ++ y :: S by simp, set_mid (by simp; omega),
    show (A ++ m0 :: (V ++ [x])) ++ m1 :: S = (A ++ m0 :: V) ++ x :: m1 :: S by simp, (td_mid (by simp; omega)).1]
  simp
theorem map_rn {lo hi : Int} : ∀ {l : List Int}, hi ∉ l → l.map (rn lo hi) = l
  | [], _ => rfl
  | a :: l, h => by
    simp only [List.mem_cons, not_or] at h
    rw [List.map_cons, map_rn h.2]
    simp [rn, Ne.symm h.1]
theorem rn_lo {lo hi : Int} : rn lo hi lo = lo := by unfold rn; split <;> rfl
theorem rn_hi {lo hi : Int} : rn lo hi hi = lo := by simp [rn]
/-- what d makes of the signs -/
structure JoinD (cs : List Nat) (p : Nat) (st : Prop) (out : List Nat) : Prop where
  ex : ∃ q0 q1, Far cs p q0 ∧ Far cs (p + 1) q1 ∧ q0 ≠ p + 1 ∧ q0 ≠ q1 ∧ q0 < cs.length ∧ q1 < cs.length ∧
    ((st ∧ jn cs p (min q0 q1) (max q0 q1) 42 42 = out) ∨ (¬ st ∧ jn cs p (min q0 q1) (max q0 q1) 40 41 = out))
theorem EW.two_in {R : List Int} (E : EW R) {A B : List Int} {x : Int} (e : R = A ++ x :: B) (hx : 0 < x) : (∃ C D, A = C ++ x :: D) ∨ (∃ C D, B = C ++ x :: D) := by
  have c := E.two x (by rw [e]; simp) hx
  rw [e] at c
  simp only [List.count_append, List.count_cons, beq_self_eq_true, if_true] at c
  by_cases h : x ∈ A
  · exact .inl (List.append_of_mem h)
  · have := List.count_eq_zero.mpr h
    exact .inr (List.append_of_mem (List.count_pos_iff.mp (by omega)))
section
variable {lo hi x y : Int}
theorem off {l : List Int} (h1 : x ∉ l) (h2 : y ∉ l) : ∀ v ∈ l, v ≠ x ∧ v ≠ y := fun v hv => ⟨fun e => h1 (e ▸ hv), fun e => h2 (e ▸ hv)⟩
end
theorem EW.d {U W : List Int} {x y lo hi : Int} (E : EW (U ++ x :: y :: W)) (hlh : lo < hi) (hp : (lo = x ∧ hi = y) ∨ (lo = y ∧ hi = x)) :
    JoinD (sgp [] (U ++ x :: y :: W)) U.length (x = 0 ∨ y = 0) (sgp [] ((U ++ W).map (rn lo hi))) := by
  have hxy : x ≠ y := by omega
  have x0 := E.nn x (by simp)
  have y0 := E.nn y (by simp)
  have rx : rn lo hi x = lo := by rcases hp with ⟨rfl, rfl⟩ | ⟨rfl, rfl⟩; exact rn_lo; exact rn_hi
  have ry : rn lo hi y = lo := by rcases hp with ⟨rfl, rfl⟩ | ⟨rfl, rfl⟩; exact rn_hi; exact rn_lo
  have hh : hi = x ∨ hi = y := hp.elim (fun h => .inr h.2) (fun h => .inl h.2)
  have hl : lo = x ∨ lo = y := hp.elim (fun h => .inl h.1) (fun h => .inr h.1)
  have mp : ∀ l : List Int, x ∉ l → y ∉ l → l.map (rn lo hi) = l := fun l h1 h2 => map_rn (by rcases hh with rfl | rfl <;> assumption)
  have ll : ∀ l : List Int, x ∉ l → y ∉ l → lo ∉ l := fun l h1 h2 => by rcases hl with rfl | rfl <;> assumption
  by_cases hx : x = 0
  · -- the mouth's piece on the left
    subst hx
    have hy : 0 < y := by omega
    have el : lo = 0 := by omega
    rcases E.two_in (A := U ++ [0]) (B := W) (x := y) (by simp) hy with ⟨C, D, e⟩ | ⟨C, D, e⟩
    · exfalso
      have : y ∈ U := by
        have : y ∈ U ++ [0] := by rw [e]; simp
        simpa [Ne.symm hxy] using this
      exact E.top y ((List.singleton_sublist.mpr this).append (((List.nil_sublist W).cons_cons y).cons_cons 0))
    · subst e
      obtain ⟨cl, n1, n2, n3⟩ := EW.seg (A := U ++ [0]) (V := C) (B := D) (x := y) (by simpa using E) hy
      have c0 := E.z1
      simp only [List.count_append, List.count_cons, beq_self_eq_true, if_true] at c0
      have z1 : (0 : Int) ∉ U := List.count_eq_zero.mp (by omega)
      have z2 : (0 : Int) ∉ C := List.count_eq_zero.mp (by omega)
      have z3 : (0 : Int) ∉ D := List.count_eq_zero.mp (by omega)
      have n1' : y ∉ U := fun h => n1 (by simp [h])
      have ec : sgp [] (U ++ 0 :: y :: (C ++ y :: D)) = sgp [] U ++ 42 :: 40 :: (sgp (U ++ [0] ++ [y]) C ++ 41 :: sgp (U ++ [0] ++ [y] ++ C ++ [y]) D) := by
        rw [sgp_mid, sgp, sgp_mid]
        simp only [List.nil_append]
        rw [sgz_0, sgz_1 hy n1, sgz_2 hy (by simp)]
      have eo : sgp [] ((U ++ (C ++ y :: D)).map (rn lo hi)) = sgp [] U ++ (sgp (U ++ [0] ++ [y]) C ++ 42 :: sgp (U ++ [0] ++ [y] ++ C ++ [y]) D) := by
        rw [List.map_append, List.map_append, List.map_cons, ry, mp U z1 n1', mp C z2 n2, mp D z3 n3, sgp_append, sgp_mid, el, sgz_0]
        rw [sgp_same (x := 0) (y := y) C _ (U ++ [0] ++ [y]) (off z2 n2) (fun v a b => by simp [a, b]), sgp_same (x := 0) (y := y) D _ (U ++ [0] ++ [y] ++ C ++ [y]) (off z3 n3) (fun v a b => by simp [a, b])]
      rw [ec, eo]
      have lU := sgp_len U []
      have lC := sgp_len C (U ++ [0] ++ [y])
      clear ec eo E c0
      generalize sgp [] U = u at *
      generalize sgp (U ++ [0] ++ [y]) C = c at *
      generalize sgp (U ++ [0] ++ [y] ++ C ++ [y]) D = d at *
      refine ⟨U.length, U.length + C.length + 2, .star rfl (by omega), .right (P := u ++ [42]) (V := c) (S := d) (by simp) cl (by simp; omega) (by simp; omega), by omega, by omega, by simp; omega, by simp; omega, .inl ⟨.inl rfl, ?_⟩⟩
      rw [Nat.min_eq_left (by omega), Nat.max_eq_right (by omega)]
      exact jn_sr (by omega) (by omega) (by omega)
  · have hx' : 0 < x := by omega
    by_cases hy : y = 0
    · subst hy
      have el : lo = 0 := by omega
      rcases E.two_in (A := U) (B := 0 :: W) (x := x) rfl hx' with ⟨A, V, e⟩ | ⟨C, D, e⟩
      · subst e
        have E' : EW (A ++ x :: (V ++ x :: (0 :: W))) := by simpa using E
        obtain ⟨cl, n1, n2, n3⟩ := E'.seg hx'
        have c0 := E.z1
        simp only [List.count_append, List.count_cons, beq_self_eq_true, if_true] at c0
        have z1 : (0 : Int) ∉ A := List.count_eq_zero.mp (by omega)
        have z2 : (0 : Int) ∉ V := List.count_eq_zero.mp (by omega)
        have z3 : (0 : Int) ∉ W := List.count_eq_zero.mp (by omega)
        have n3' : x ∉ W := fun h => n3 (by simp [h])
        have ec : sgp [] (A ++ x :: V ++ x :: 0 :: W) = sgp [] A ++ 40 :: (sgp (A ++ [x]) V ++ 41 :: 42 :: sgp (A ++ [x] ++ V ++ [x] ++ [0]) W) := by
          rw [show A ++ x :: V ++ x :: 0 :: W = A ++ x :: (V ++ x :: 0 :: W) by simp, sgp_mid, sgp_mid, sgp]
          simp only [List.nil_append]
          rw [sgz_0, sgz_1 hx' n1, sgz_2 hx' (by simp)]
        have eo : sgp [] ((A ++ x :: V ++ W).map (rn lo hi)) = sgp [] A ++ 42 :: (sgp (A ++ [x]) V ++ sgp (A ++ [x] ++ V ++ [x] ++ [0]) W) := by
          rw [show A ++ x :: V ++ W = A ++ x :: (V ++ W) by simp, List.map_append, List.map_cons, List.map_append, rx, mp A n1 z1, mp V n2 z2, mp W n3' z3, sgp_mid, sgp_append, el, sgz_0]
          simp only [List.nil_append]
          rw [sgp_same (x := x) (y := 0) V _ (A ++ [x]) (off n2 z2) (fun v a b => by simp [a, b]), sgp_same (x := x) (y := 0) W _ (A ++ [x] ++ V ++ [x] ++ [0]) (off n3' z3) (fun v a b => by simp [a, b])]
        rw [ec, eo]
        have lA := sgp_len A []
        have lV := sgp_len V (A ++ [x])
        clear ec eo E E' c0
        have lU : (A ++ x :: V).length = A.length + V.length + 1 := by simp; omega
        rw [lU]
        generalize sgp [] A = a at *
        generalize sgp (A ++ [x]) V = v at *
        generalize sgp (A ++ [x] ++ V ++ [x] ++ [0]) W = w at *
        refine ⟨A.length, A.length + V.length + 2, .left rfl cl (by omega) (by omega), .star (P := a ++ 40 :: (v ++ [41])) (S := w) (by simp) (by simp; omega), by omega, by omega, by simp; omega, by simp; omega, .inl ⟨.inr rfl, ?_⟩⟩
        rw [Nat.min_eq_left (by omega), Nat.max_eq_right (by omega)]
        exact jn_sl (by omega) (by omega) (by omega)
      · exfalso
        have : x ∈ W := by
          have : x ∈ (0 : Int) :: W := by rw [e]; simp
          simpa [hxy] using this
        exact E.top x ((List.nil_sublist U).append (((List.singleton_sublist.mpr this).cons_cons 0).cons_cons x))
    · have hy' : 0 < y := by omega
      have hst : ¬ (x = 0 ∨ y = 0) := by omega
      have hl0 : 0 < lo := by rcases hl with rfl | rfl <;> assumption
      rcases E.two_in (A := U) (B := y :: W) (x := x) rfl hx' with ⟨A, V, e⟩ | ⟨C, D, e⟩
      · subst e
        have E' : EW (A ++ x :: (V ++ x :: (y :: W))) := by simpa using E
        obtain ⟨cl, n1, n2, n3⟩ := E'.seg hx'
        have n3' : x ∉ W := fun h => n3 (by simp [h])
        rcases E.two_in (A := A ++ x :: V ++ [x]) (B := W) (x := y) (by simp) hy' with ⟨C, D, e⟩ | ⟨C, F, e⟩
        · -- )) : y begins ahead of x
          have yA : y ∈ A := by
            have : y ∈ A ++ x :: V ++ [x] := by rw [e]; simp
            simp only [List.mem_append, List.mem_cons, List.mem_singleton, List.not_mem_nil, or_false] at this
            rcases this with (h | h | h) | h
            · exact h
            · exact absurd h.symm hxy
            · exact absurd (E'.nc x y ((List.nil_sublist A).append ((((List.singleton_sublist.mpr h).append (((List.nil_sublist W).cons_cons y).cons_cons x))).cons_cons x))) hxy
            · exact absurd h.symm hxy
          obtain ⟨A, B, rfl⟩ := List.append_of_mem yA
          have E2 : EW (A ++ y :: ((B ++ x :: (V ++ [x])) ++ y :: W)) := by simpa using E
          obtain ⟨cl2, m1, m2, m3⟩ := E2.seg hy'
          have xA : x ∉ A := fun h => n1 (by simp [h])
          have xB : x ∉ B := fun h => n1 (by simp [h])
          have yB : y ∉ B := fun h => m2 (by simp [h])
          have yV : y ∉ V := fun h => m2 (by simp [h])
          have ec : sgp [] (A ++ y :: B ++ x :: V ++ x :: y :: W) = sgp [] A ++ 40 :: (sgp (A ++ [y]) B ++ 40 :: (sgp (A ++ y :: B ++ [x]) V ++ 41 :: 41 :: sgp (A ++ [y] ++ B ++ [x] ++ V ++ [x] ++ [y]) W)) := by
            rw [show A ++ y :: B ++ x :: V ++ x :: y :: W = A ++ y :: (B ++ x :: (V ++ x :: y :: W)) by simp, sgp_mid, sgp_mid, sgp_mid, sgp]
            simp only [List.nil_append]
            rw [sgz_1 hy' m1, sgz_1 hx' (by simp [xA, xB, hxy]), sgz_2 hx' (by simp), sgz_2 hy' (by simp)]
            simp
          have cl2' : sgp (A ++ [y]) (B ++ x :: (V ++ [x])) = sgp (A ++ [y]) B ++ 40 :: (sgp (A ++ y :: B ++ [x]) V ++ [41]) := by
            rw [sgp_mid, sgp_append, sgp, sgp]
            rw [sgz_1 hx' (by simp [xA, xB, hxy]), sgz_2 hx' (by simp)]
            simp
          rw [cl2'] at cl2
          have eo : sgp [] ((A ++ y :: B ++ x :: V ++ W).map (rn lo hi)) = sgp [] A ++ 40 :: (sgp (A ++ [y]) B ++ 41 :: (sgp (A ++ y :: B ++ [x]) V ++ sgp (A ++ [y] ++ B ++ [x] ++ V ++ [x] ++ [y]) W)) := by
            rw [show A ++ y :: B ++ x :: V ++ W = A ++ y :: (B ++ x :: (V ++ W)) by simp, List.map_append, List.map_cons, List.map_append, List.map_cons, List.map_append, rx, ry, mp A xA m1, mp B xB yB, mp V n2 yV, mp W n3' m3, sgp_mid, sgp_mid, sgp_append]
            simp only [List.nil_append]
            rw [sgz_1 hl0 (ll A xA m1), sgz_2 hl0 (by simp)]
            rw [sgp_same (x := x) (y := y) B _ (A ++ [y]) (off xB yB) (fun v a b => by rcases hl with rfl | rfl <;> simp [a, b]), sgp_same (x := x) (y := y) V _ (A ++ y :: B ++ [x]) (off n2 yV) (fun v a b => by rcases hl with rfl | rfl <;> simp [a, b]), sgp_same (x := x) (y := y) W _ (A ++ [y] ++ B ++ [x] ++ V ++ [x] ++ [y]) (off n3' m3) (fun v a b => by rcases hl with rfl | rfl <;> simp [a, b])]
          rw [ec, eo]
          have lA := sgp_len A []
          have lB := sgp_len B (A ++ [y])
          have lV := sgp_len V (A ++ y :: B ++ [x])
          clear ec eo E E' E2 cl2' e
          have lU : (A ++ y :: B ++ x :: V).length = A.length + B.length + V.length + 2 := by simp; omega
          rw [lU]
          generalize sgp [] A = a at *
          generalize sgp (A ++ [y]) B = b at *
          generalize sgp (A ++ y :: B ++ [x]) V = v at *
          generalize sgp (A ++ [y] ++ B ++ [x] ++ V ++ [x] ++ [y]) W = w at *
          refine ⟨A.length + B.length + 1, A.length, .left (P := a ++ 40 :: b) (V := v) (S := 41 :: w) (by simp) cl (by simp; omega) (by simp; omega), .left (P := a) (V := b ++ 40 :: (v ++ [41])) (S := w) (by simp) cl2 (by simp; omega) (by omega), by omega, by omega, by simp; omega, by simp; omega, .inr ⟨hst, ?_⟩⟩
          rw [Nat.min_eq_right (by omega), Nat.max_eq_left (by omega)]
          exact jn_left (by omega) (by omega) (by omega)
        · -- )(
          subst e
          have E2 : EW ((A ++ x :: V ++ [x]) ++ y :: (C ++ y :: F)) := by simpa using E
          obtain ⟨cl2, m1, m2, m3⟩ := E2.seg hy'
          have yA : y ∉ A := fun h => m1 (by simp [h])
          have yV : y ∉ V := fun h => m1 (by simp [h])
          have xC : x ∉ C := fun h => n3' (by simp [h])
          have xF : x ∉ F := fun h => n3' (by simp [h])
          have ec : sgp [] (A ++ x :: V ++ x :: y :: (C ++ y :: F)) = sgp [] A ++ 40 :: (sgp (A ++ [x]) V ++ 41 :: 40 :: (sgp (A ++ x :: V ++ [x] ++ [y]) C ++ 41 :: sgp (A ++ [x] ++ V ++ [x] ++ [y] ++ C ++ [y]) F)) := by
            rw [show A ++ x :: V ++ x :: y :: (C ++ y :: F) = A ++ x :: (V ++ x :: y :: (C ++ y :: F)) by simp, sgp_mid, sgp_mid, sgp, sgp_mid]
            simp only [List.nil_append]
            rw [sgz_1 hx' n1, sgz_2 hx' (by simp), sgz_1 hy' (by simp [yA, yV, Ne.symm hxy]), sgz_2 hy' (by simp)]
            simp
          have eo : sgp [] ((A ++ x :: V ++ (C ++ y :: F)).map (rn lo hi)) = sgp [] A ++ 40 :: (sgp (A ++ [x]) V ++ (sgp (A ++ x :: V ++ [x] ++ [y]) C ++ 41 :: sgp (A ++ [x] ++ V ++ [x] ++ [y] ++ C ++ [y]) F)) := by
            rw [show A ++ x :: V ++ (C ++ y :: F) = A ++ x :: (V ++ (C ++ y :: F)) by simp, List.map_append, List.map_cons, List.map_append, List.map_append, List.map_cons, rx, ry, mp A n1 yA, mp V n2 yV, mp C xC m2, mp F xF m3, sgp_mid, sgp_append, sgp_mid]
            simp only [List.nil_append]
            rw [sgz_1 hl0 (ll A n1 yA), sgz_2 hl0 (by simp)]
            rw [sgp_same (x := x) (y := y) V _ (A ++ [x]) (off n2 yV) (fun v a b => by rcases hl with rfl | rfl <;> simp [a, b]), sgp_same (x := x) (y := y) C _ (A ++ x :: V ++ [x] ++ [y]) (off xC m2) (fun v a b => by rcases hl with rfl | rfl <;> simp [a, b]), sgp_same (x := x) (y := y) F _ (A ++ [x] ++ V ++ [x] ++ [y] ++ C ++ [y]) (off xF m3) (fun v a b => by rcases hl with rfl | rfl <;> simp [a, b])]
          rw [ec, eo]
          have lA := sgp_len A []
          have lV := sgp_len V (A ++ [x])
          have lC := sgp_len C (A ++ x :: V ++ [x] ++ [y])
          clear ec eo E E' E2
          have lU : (A ++ x :: V).length = A.length + V.length + 1 := by simp; omega
          rw [lU]
          generalize sgp [] A = a at *
          generalize sgp (A ++ [x]) V = v at *
          generalize sgp (A ++ x :: V ++ [x] ++ [y]) C = c at *
          generalize sgp (A ++ [x] ++ V ++ [x] ++ [y] ++ C ++ [y]) F = f at *
          refine ⟨A.length, A.length + V.length + C.length + 3, .left (P := a) (V := v) rfl cl (by omega) (by omega), .right (P := a ++ 40 :: (v ++ [41])) (V := c) (S := f) (by simp) cl2 (by simp; omega) (by simp; omega), by omega, by omega, by simp; omega, by simp; omega, .inr ⟨hst, ?_⟩⟩
          rw [Nat.min_eq_left (by omega), Nat.max_eq_right (by omega)]
          exact jn_mid (by omega) (by omega) (by omega)
      · -- ((
        have xW : x ∈ W := by
          have : x ∈ y :: W := by rw [e]; simp
          simpa [hxy] using this
        rcases E.two_in (A := U ++ [x]) (B := W) (x := y) (by simp) hy' with ⟨C', D', e'⟩ | ⟨C', D', e'⟩
        · exfalso
          have yU : y ∈ U := by
            have : y ∈ U ++ [x] := by rw [e']; simp
            simpa [Ne.symm hxy] using this
          exact hxy (E.nc y x ((List.singleton_sublist.mpr yU).append ((((List.singleton_sublist.mpr xW).cons_cons y)).cons_cons x))).symm
        · subst e'
          have E1 : EW ((U ++ [x]) ++ y :: (C' ++ y :: D')) := by simpa using E
          obtain ⟨cl2, m1, m2, m3⟩ := E1.seg hy'
          have yU : y ∉ U := fun h => m1 (by simp [h])
          have xD : x ∈ D' := by
            simp only [List.mem_append, List.mem_cons] at xW
            rcases xW with h | h | h
            · exact absurd (E.nc x y ((List.nil_sublist U).append (((List.nil_sublist [y]).append ((List.singleton_sublist.mpr h).append ((List.nil_sublist D').cons_cons y)) |> fun z => ((List.singleton_sublist.mpr h).append ((List.nil_sublist D').cons_cons y)).cons_cons y).cons_cons x))) hxy
            · exact absurd h hxy
            · exact h
          obtain ⟨D, F, rfl⟩ := List.append_of_mem xD
          have E2 : EW (U ++ x :: ((y :: (C' ++ y :: D)) ++ x :: F)) := by simpa using E
          obtain ⟨cl, n1, n2, n3⟩ := E2.seg hx'
          have xC : x ∉ C' := fun h => n2 (by simp [h])
          have xD' : x ∉ D := fun h => n2 (by simp [h])
          have yD : y ∉ D := fun h => m3 (by simp [h])
          have yF : y ∉ F := fun h => m3 (by simp [h])
          have ec : sgp [] (U ++ x :: y :: (C' ++ y :: (D ++ x :: F))) = sgp [] U ++ 40 :: 40 :: (sgp (U ++ [x] ++ [y]) C' ++ 41 :: (sgp (U ++ [x] ++ [y] ++ C' ++ [y]) D ++ 41 :: sgp (U ++ [x] ++ [y] ++ C' ++ [y] ++ D ++ [x]) F)) := by
            rw [sgp_mid, sgp, sgp_mid, sgp_mid]
            simp only [List.nil_append]
            rw [sgz_1 hx' n1, sgz_1 hy' m1, sgz_2 hy' (by simp), sgz_2 hx' (by simp)]
          have cl' : sgp (U ++ [x]) (y :: (C' ++ y :: D)) = 40 :: (sgp (U ++ [x] ++ [y]) C' ++ 41 :: sgp (U ++ [x] ++ [y] ++ C' ++ [y]) D) := by
            rw [sgp, sgp_mid]
            rw [sgz_1 hy' m1, sgz_2 hy' (by simp)]
          rw [cl'] at cl
          have eo : sgp [] ((U ++ (C' ++ y :: (D ++ x :: F))).map (rn lo hi)) = sgp [] U ++ (sgp (U ++ [x] ++ [y]) C' ++ 40 :: (sgp (U ++ [x] ++ [y] ++ C' ++ [y]) D ++ 41 :: sgp (U ++ [x] ++ [y] ++ C' ++ [y] ++ D ++ [x]) F)) := by
            rw [List.map_append, List.map_append, List.map_cons, List.map_append, List.map_cons, rx, ry, mp U n1 yU, mp C' xC m2, mp D xD' yD, mp F n3 yF, sgp_append, sgp_mid, sgp_mid]
            simp only [List.nil_append]
            rw [sgz_1 hl0 (fun h => (List.mem_append.mp h).elim (ll U n1 yU) (ll C' xC m2)), sgz_2 hl0 (by simp)]
            rw [sgp_same (x := x) (y := y) C' _ (U ++ [x] ++ [y]) (off xC m2) (fun v a b => by rcases hl with rfl | rfl <;> simp [a, b]), sgp_same (x := x) (y := y) D _ (U ++ [x] ++ [y] ++ C' ++ [y]) (off xD' yD) (fun v a b => by rcases hl with rfl | rfl <;> simp [a, b]), sgp_same (x := x) (y := y) F _ (U ++ [x] ++ [y] ++ C' ++ [y] ++ D ++ [x]) (off n3 yF) (fun v a b => by rcases hl with rfl | rfl <;> simp [a, b])]
          rw [ec, eo]
          have lU := sgp_len U []
          have lC := sgp_len C' (U ++ [x] ++ [y])
          have lD := sgp_len D (U ++ [x] ++ [y] ++ C' ++ [y])
          clear ec eo E E1 E2 e cl'
          generalize sgp [] U = u at *
          generalize sgp (U ++ [x] ++ [y]) C' = c at *
          generalize sgp (U ++ [x] ++ [y] ++ C' ++ [y]) D = d at *
          generalize sgp (U ++ [x] ++ [y] ++ C' ++ [y] ++ D ++ [x]) F = f at *
          refine ⟨U.length + C'.length + D.length + 3, U.length + C'.length + 2, .right (P := u) (V := 40 :: (c ++ 41 :: d)) (S := f) (by simp) cl (by omega) (by simp; omega), .right (P := u ++ [40]) (V := c) (S := d ++ 41 :: f) (by simp) cl2 (by simp; omega) (by simp; omega), by omega, by omega, by simp; omega, by simp; omega, .inr ⟨hst, ?_⟩⟩
          rw [Nat.min_eq_right (by omega), Nat.max_eq_left (by omega)]
          exact jn_right (by omega) (by omega) (by omega)
theorem EW.same {U W : List Int} {x : Int} (E : EW (U ++ x :: x :: W)) : Far (sgp [] (U ++ x :: x :: W)) U.length (U.length + 1) := by
  have x0 := E.nn x (by simp)
  have hx : 0 < x := by
    rcases Int.lt_or_eq_of_le x0 with h | h
    · exact h
    · subst h
      have := E.z1
      simp only [List.count_append, List.count_cons, beq_self_eq_true, if_true] at this
      omega
  obtain ⟨_, n1, _, _⟩ := EW.seg (A := U) (V := []) (B := W) (x := x) E hx
  refine .right (P := sgp [] U) (V := []) (S := sgp (U ++ [x] ++ [x]) W) ?_ ⟨rfl, fun j => by simp [ps_nil]⟩ (sgp_len U []).symm (by simp [sgp_len])
  rw [sgp_mid, sgp]
  simp only [List.nil_append]
  rw [sgz_1 hx n1, sgz_2 hx (by simp)]
/-! ### states as texts -/
def stx (L R : List Int) : List Nat := sgp [] L ++ 124 :: sgp L R.reverse
def mx : List Int → Int
  | [] => 0
  | x :: l => max x (mx l)
theorem mx_ge : ∀ {l : List Int} {x : Int}, x ∈ l → x ≤ mx l
  | a :: l, x, h => by
    simp only [mx]
    rcases List.mem_cons.mp h with rfl | h
    · omega
    · have := mx_ge h; omega
theorem mx_le : ∀ {l : List Int} {m : Int}, 0 ≤ m → (∀ x ∈ l, x ≤ m) → mx l ≤ m
  | [], m, h0, _ => h0
  | a :: l, m, h0, h => by
    have h1 := h a (by simp)
    have h2 := mx_le h0 (fun x hx => h x (List.mem_cons_of_mem _ hx))
    simp only [mx]; omega
theorem mx_nn : ∀ (l : List Int), 0 ≤ mx l
  | [] => Int.le_refl 0
  | a :: l => by have := mx_nn l; simp only [mx]; omega
theorem mx_eq {l : List Int} {m : Int} (h : m ∈ l) (h0 : 0 ≤ m) (hm : ∀ x ∈ l, x ≤ m) : m = mx l := by
  have h1 := mx_ge h
  have h2 := mx_le h0 hm
  omega
/-- the law's next ends -/
def goF (L R : List Int) (c : Nat) : Option (List Int × List Int) :=
  if c = 97 then some (L ++ [1 + mx (L ++ R)], R ++ [1 + mx (L ++ R)])
  else if c = 98 then (match R.getLast? with | some v => some (L ++ [v], R.dropLast) | none => none)
  else if c = 99 then (match L.getLast? with | some v => some (L.dropLast, R ++ [v]) | none => none)
  else match L.getLast?, R.getLast? with
    | some x, some y => if x = y then none else some (L.dropLast.map (rn (min x y) (max x y)), R.dropLast.map (rn (min x y) (max x y)))
    | _, _ => none
def EE (L R : List Int) : Prop := EW (L ++ R.reverse)
theorem last_of {l : List Int} (h : l ≠ []) : ∃ P x, l = P ++ [x] := ⟨l.dropLast, l.getLast h, (List.dropLast_concat_getLast h).symm⟩
theorem goF_b {L Q : List Int} {v : Int} : goF L (Q ++ [v]) 98 = some (L ++ [v], Q) := by simp [goF]
theorem goF_b0 {L : List Int} : goF L [] 98 = none := by simp [goF]
theorem goF_c {P R : List Int} {v : Int} : goF (P ++ [v]) R 99 = some (P, R ++ [v]) := by simp [goF]
theorem goF_c0 {R : List Int} : goF [] R 99 = none := by simp [goF]
theorem goF_d {P Q : List Int} {x y : Int} : goF (P ++ [x]) (Q ++ [y]) 100 = if x = y then none else some (P.map (rn (min x y) (max x y)), Q.map (rn (min x y) (max x y))) := by simp [goF]
theorem goF_d0 {R : List Int} : goF [] R 100 = none := by simp [goF]
theorem goF_d1 {L : List Int} : goF L [] 100 = none := by
  unfold goF
  simp only [List.getLast?_nil]
  cases L.getLast? <;> simp
theorem freshE {L R : List Int} (E : EE L R) : 0 < 1 + mx (L ++ R) ∧ 1 + mx (L ++ R) ∉ L ∧ 1 + mx (L ++ R) ∉ R.reverse := by
  have := mx_nn (L ++ R)
  refine ⟨by omega, fun h => ?_, fun h => ?_⟩
  · have := mx_ge (l := L ++ R) (List.mem_append_left _ h); omega
  · have := mx_ge (l := L ++ R) (List.mem_append_right _ (List.mem_reverse.mp h)); omega
theorem stx_a {L R : List Int} (E : EE L R) : sgp [] L ++ [40, 124, 41] ++ sgp L R.reverse = stx (L ++ [1 + mx (L ++ R)]) (R ++ [1 + mx (L ++ R)]) := by
  obtain ⟨h0, h1, h2⟩ := freshE E
  generalize 1 + mx (L ++ R) = z at *
  unfold stx
  rw [sgp_append, sgp, sgp, List.nil_append, sgz_1 h0 h1, List.reverse_append, List.reverse_singleton, List.singleton_append, sgp, sgz_2 h0 (by simp)]
  simp
  exact sgp_same (x := z) (y := z) R.reverse L _ (off h2 h2) fun v a b => by simp [a]
theorem EE.a {L R : List Int} (E : EE L R) : EE (L ++ [1 + mx (L ++ R)]) (R ++ [1 + mx (L ++ R)]) := by
  obtain ⟨h0, h1, h2⟩ := freshE E
  unfold EE
  have := EW.ins E h0 h1 h2
  simpa using this
theorem EE.b {L Q : List Int} {v : Int} (E : EE L (Q ++ [v])) : EE (L ++ [v]) Q := by unfold EE at *; simpa using E
theorem EE.c {P R : List Int} {v : Int} (E : EE (P ++ [v]) R) : EE P (R ++ [v]) := by unfold EE at *; simpa using E
theorem EE.d {P Q : List Int} {x y : Int} (E : EE (P ++ [x]) (Q ++ [y])) (h : x ≠ y) : EE (P.map (rn (min x y) (max x y))) (Q.map (rn (min x y) (max x y))) := by
  unfold EE at *
  have := EW.join (U := P) (W := Q.reverse) (x := x) (y := y) (lo := min x y) (hi := max x y) (by simpa using E) (by omega) (by omega)
  simpa using this
theorem EE.go {L R L' R' : List Int} {c : Nat} (E : EE L R) (hc : c = 97 ∨ c = 98 ∨ c = 99 ∨ c = 100) (h : goF L R c = some (L', R')) : EE L' R' := by
  rcases hc with rfl | rfl | rfl | rfl
  · simp only [goF, if_true, Option.some.injEq, Prod.mk.injEq] at h
    obtain ⟨rfl, rfl⟩ := h
    exact E.a
  · by_cases hR : R = []
    · subst hR; rw [goF_b0] at h; cases h
    · obtain ⟨Q, v, rfl⟩ := last_of hR
      rw [goF_b] at h; cases h; exact E.b
  · by_cases hL : L = []
    · subst hL; rw [goF_c0] at h; cases h
    · obtain ⟨P, v, rfl⟩ := last_of hL
      rw [goF_c] at h; cases h; exact E.c
  · by_cases hL : L = []
    · subst hL; rw [goF_d0] at h; cases h
    · by_cases hR : R = []
      · subst hR; rw [goF_d1] at h; cases h
      · obtain ⟨P, x, rfl⟩ := last_of hL
        obtain ⟨Q, y, rfl⟩ := last_of hR
        rw [goF_d] at h
        by_cases e : x = y
        · rw [if_pos e] at h; cases h
        · rw [if_neg e] at h; cases h; exact E.d e
theorem EE.one : EE [0] [] := by
  refine ⟨by simp, by decide, by simp, fun u v h => ?_, fun u h => ?_⟩
  · have := h.length_le; simp at this
  · have := h.length_le; simp at this
theorem EE.two : EE [] [0] := EE.one
theorem stx_b {L Q : List Int} {v : Int} : sgp [] L ++ [sgz L v] ++ 124 :: sgp (L ++ [v]) Q.reverse = stx (L ++ [v]) Q := by
  unfold stx
  rw [sgp_append]; rfl
theorem sgp_Rb {L Q : List Int} {v : Int} : sgp L (Q ++ [v]).reverse = sgz L v :: sgp (L ++ [v]) Q.reverse := by simp [sgp]
theorem sgp_Lc {P : List Int} {v : Int} : sgp [] (P ++ [v]) = sgp [] P ++ [sgz P v] := by rw [sgp_append]; rfl
theorem stx_c {P R : List Int} {v : Int} : sgp [] P ++ 124 :: (sgz P v :: sgp (P ++ [v]) R.reverse) = stx P (R ++ [v]) := by
  unfold stx
  rw [sgp_Rb]
/-- what d makes of the signs, in two halves -/
theorem stx_d {P Q : List Int} {x y : Int} (E : EE (P ++ [x]) (Q ++ [y])) (h : x ≠ y) : ∃ q0 q1, Far (sgp [] (P ++ x :: y :: Q.reverse)) P.length q0 ∧ Far (sgp [] (P ++ x :: y :: Q.reverse)) (P.length + 1) q1 ∧ q0 ≠ P.length + 1 ∧ q0 ≠ q1 ∧
    q0 < (sgp [] (P ++ x :: y :: Q.reverse)).length ∧ q1 < (sgp [] (P ++ x :: y :: Q.reverse)).length ∧ ∃ m0 m1, ((x = 0 ∨ y = 0) ∧ m0 = 42 ∧ m1 = 42 ∨ ¬ (x = 0 ∨ y = 0) ∧ m0 = 40 ∧ m1 = 41) ∧
    (((sgp [] (P ++ x :: y :: Q.reverse)).set (min q0 q1) m0).set (max q0 q1) m1).take P.length ++ 124 :: (((sgp [] (P ++ x :: y :: Q.reverse)).set (min q0 q1) m0).set (max q0 q1) m1).drop (P.length + 2) = stx (P.map (rn (min x y) (max x y))) (Q.map (rn (min x y) (max x y))) := by
  have E' : EW (P ++ x :: y :: Q.reverse) := by unfold EE at E; simpa using E
  obtain ⟨q0, q1, f0, f1, n1, n2, l0, l1, r⟩ := (E'.d (lo := min x y) (hi := max x y) (by omega) (by omega)).ex
  have hl : (sgp [] (P ++ x :: y :: Q.reverse)).length = P.length + Q.length + 2 := by rw [sgp_len]; simp; omega
  have fin : ∀ m0 m1, jn (sgp [] (P ++ x :: y :: Q.reverse)) P.length (min q0 q1) (max q0 q1) m0 m1 = sgp [] ((P ++ Q.reverse).map (rn (min x y) (max x y))) →
      (((sgp [] (P ++ x :: y :: Q.reverse)).set (min q0 q1) m0).set (max q0 q1) m1).take P.length ++ 124 :: (((sgp [] (P ++ x :: y :: Q.reverse)).set (min q0 q1) m0).set (max q0 q1) m1).drop (P.length + 2) = stx (P.map (rn (min x y) (max x y))) (Q.map (rn (min x y) (max x y))) := fun m0 m1 hj => by
    unfold jn at hj
    unfold stx
    rw [List.map_append, sgp_append (P.map (rn (min x y) (max x y))) [], List.nil_append, List.map_reverse] at hj
    obtain ⟨e1, e2⟩ := List.append_inj hj (by rw [sgp_len, List.length_map, List.length_take, List.length_set, List.length_set, hl]; omega)
    rw [e1, e2]
  refine ⟨q0, q1, f0, f1, n1, n2, l0, l1, ?_⟩
  rcases r with ⟨h1, h2⟩ | ⟨h1, h2⟩
  · exact ⟨42, 42, .inl ⟨h1, rfl, rfl⟩, fin _ _ h2⟩
  · exact ⟨40, 41, .inr ⟨h1, rfl, rfl⟩, fin _ _ h2⟩
theorem far_same {P Q : List Int} {x : Int} (E : EE (P ++ [x]) (Q ++ [x])) : Far (sgp [] (P ++ x :: x :: Q.reverse)) P.length (P.length + 1) := by
  have E' : EW (P ++ x :: x :: Q.reverse) := by unfold EE at E; simpa using E
  exact E'.same
theorem sgp_all {P Q : List Int} {x y : Int} : sgp [] (P ++ [x]) ++ sgp (P ++ [x]) (Q ++ [y]).reverse = sgp [] (P ++ x :: y :: Q.reverse) := by
  rw [show P ++ x :: y :: Q.reverse = (P ++ [x]) ++ (Q ++ [y]).reverse by simp, sgp_append (P ++ [x]) []]; rfl
/-- the walk to the other end, step by step -/
theorem Far.walk {cs : List Nat} {p q : Nat} (h : Far cs p q) : (cs[p]? = some 42 ∧ q = p) ∨ ∃ (st : Int) (n : Nat) (d : Nat → Int), ((st = 1 ∧ cs[p]? = some 40) ∨ (st = -1 ∧ cs[p]? = some 41)) ∧ d 0 = st ∧ (∀ j, j < n → d j ≠ 0) ∧ d n = 0 ∧ (p : Int) + st * n = q ∧
    ∀ j, j < n → ∃ i c : Nat, (p : Int) + st * j + st = i ∧ cs[i]? = some c ∧ d (j + 1) = d j + vl c := by
  cases h with
  | @star P S _ h hp => exact .inl ⟨by rw [h, hp]; simp, rfl⟩
  | @right P V S _ _ h c hp hq =>
    refine .inr ⟨1, V.length + 1, fun j => 1 + ps ((V ++ [41]).take j), .inl ⟨rfl, by rw [h, hp]; simp⟩, by simp [ps_nil], fun j hj => ?_, ?_, by omega, fun j hj => ?_⟩
    · have := c.nn j
      simp only
      rw [List.take_append_of_le_length (by omega)]
      omega
    · have := c.z
      simp only
      rw [List.take_of_length_le (by simp), ps_append, ps_cons, ps_nil, this]
      decide
    · have hl : j < (V ++ [41]).length := by simp; omega
      refine ⟨p + j + 1, (V ++ [41])[j], by omega, ?_, ?_⟩
      · rw [h, hp, show P.length + j + 1 = P.length + (j + 1) by omega, List.getElem?_append_right (by omega)]
        rw [show P.length + (j + 1) - P.length = j + 1 by omega, List.getElem?_cons_succ, show V ++ 41 :: S = (V ++ [41]) ++ S by simp, List.getElem?_append_left hl, List.getElem?_eq_getElem hl]
      · simp only
        rw [List.take_add_one, List.getElem?_eq_getElem hl, ps_append]
        simp [ps_cons, ps_nil]
        omega
  | @left P V S _ _ h c hp hq =>
    have hd : ∀ k, k ≤ V.length → ps (V.drop k) = - ps (V.take k) := fun k hk => by
      have := ps_append (V.take k) (V.drop k)
      rw [List.take_append_drop, c.z] at this
      omega
    refine .inr ⟨-1, V.length + 1, fun j => -1 + ps ((40 :: V).drop (V.length + 1 - j)), .inr ⟨rfl, ?_⟩, ?_, fun j hj => ?_, ?_, by omega, fun j hj => ?_⟩
    · rw [h, hp, show P.length + V.length + 1 = P.length + (V.length + 1) by omega, List.getElem?_append_right (by omega)]
      rw [show P.length + (V.length + 1) - P.length = V.length + 1 by omega, List.getElem?_cons_succ, List.getElem?_append_right (Nat.le_refl _)]
      simp
    · simp only
      rw [List.drop_of_length_le (by simp)]; simp [ps_nil]
    · have hk : V.length + 1 - j = (V.length - j) + 1 := by omega
      simp only
      rw [hk, List.drop_succ_cons, hd _ (by omega)]
      have := c.nn (V.length - j)
      omega
    · simp only
      rw [Nat.sub_self, List.drop_zero, ps_cons, c.z]
      decide
    · have hl : V.length - j < (40 :: V).length := by simp; omega
      refine ⟨P.length + (V.length - j), (40 :: V)[V.length - j], by omega, ?_, ?_⟩
      · rw [h, List.getElem?_append_right (by omega)]
        rw [show P.length + (V.length - j) - P.length = V.length - j by omega, show 40 :: (V ++ 41 :: S) = (40 :: V) ++ 41 :: S by simp, List.getElem?_append_left hl, List.getElem?_eq_getElem hl]
      · simp only
        have e1 : V.length + 1 - (j + 1) = V.length - j := by omega
        have e2 : V.length + 1 - j = (V.length - j) + 1 := by omega
        rw [e1, e2, List.drop_eq_getElem_cons hl, ps_cons]
        omega
theorem stx_l : stx [0] [] = [42, 124] := by decide
theorem stx_r : stx [] [0] = [124, 42] := by decide
theorem far_same2 {P Q : List Int} {x : Int} (E : EE (P ++ [x]) (Q ++ [x])) : Far (sgp [] (P ++ x :: x :: Q.reverse)) (P.length + 1) P.length := by
  have E' : EW (P ++ x :: x :: Q.reverse) := by unfold EE at E; simpa using E
  have x0 := E'.nn x (by simp)
  have hx : 0 < x := by
    rcases Int.lt_or_eq_of_le x0 with h | h
    · exact h
    · subst h
      have := E'.z1
      simp only [List.count_append, List.count_cons, beq_self_eq_true, if_true] at this
      omega
  obtain ⟨_, n1, _, _⟩ := EW.seg (A := P) (V := []) (B := Q.reverse) (x := x) E' hx
  refine .left (P := sgp [] P) (V := []) (S := sgp (P ++ [x] ++ [x]) Q.reverse) ?_ ⟨rfl, fun j => by simp [ps_nil]⟩ (by simp [sgp_len]) (sgp_len P []).symm
  rw [sgp_mid, sgp]
  simp only [List.nil_append]
  rw [sgz_1 hx n1, sgz_2 hx (by simp)]
theorem sg_at {P Q : List Int} {x y : Int} : (sgp [] (P ++ x :: y :: Q))[P.length]? = some (sgz P x) ∧ (sgp [] (P ++ x :: y :: Q))[P.length + 1]? = some (sgz (P ++ [x]) y) := by
  rw [sgp_mid, sgp]
  simp only [List.nil_append]
  have h := sgp_len P []
  constructor
  · rw [List.getElem?_append_right (by omega), h]; simp
  · rw [List.getElem?_append_right (by omega), h]; simp
theorem sgz_zero {pre : List Int} {x : Int} (h : 0 ≤ x) : sgz pre x = 42 ↔ x = 0 := by
  unfold sgz
  by_cases h0 : 0 < x
  · rw [if_pos h0]; split <;> (constructor <;> intro z <;> omega)
  · rw [if_neg h0]; exact ⟨fun _ => by omega, fun _ => rfl⟩
end Rm

set_option Elab.async false
set_option linter.all false
set_option maxRecDepth 100000
set_option maxHeartbeats 4000000
/-! Completions of a state, by the law's ends; they hang on the text alone. -/
namespace Rm
def stO : Option (List Int × List Int) → Option (List Nat)
  | none => none
  | some (L, R) => some (stx L R)
/-! ### how many ways end it -/
def cmpF : Nat → List Int → List Int → Nat
  | 0, L, R => if L.length + R.length = 1 then 1 else 0
  | n + 1, L, R => (match goF L R 97 with | none => 0 | some (a, b) => cmpF n a b) + (match goF L R 98 with | none => 0 | some (a, b) => cmpF n a b) + (match goF L R 99 with | none => 0 | some (a, b) => cmpF n a b) + (match goF L R 100 with | none => 0 | some (a, b) => cmpF n a b)
def cmpO (n : Nat) : Option (List Int × List Int) → Nat
  | none => 0
  | some (L, R) => cmpF n L R
end Rm

-- CHANGE: your row's module here, as the last of these rows
set_option Elab.async false
set_option linter.all false
set_option maxRecDepth 100000
/-! THE HAND LAYER, for ints, bools, texts, own classes, LISTS and tuples (index, slices, in, append, pop ..), calls, loops. Paste it whole ahead of your own text; what your proof does not reach may be deleted. -/
namespace L2
open PySem PySem.Spec PyProof.Rows

/-- a key: an int or a str -/
abbrev Key := Sum Int Str
def keyIs : Key → Value → Bool
  | .inl k, v => Value.isInt k v
  | .inr x, v => Value.isStrOf x v
def keyH (w : World) : Key → Int
  | .inl k => hashInt k
  | .inr x => hashStr w x
theorem keyIs_shape : ∀ {k : Key} {v : Value}, keyIs k v = true → (∃ i t, k = Sum.inl i ∧ v = Value.int i t) ∨ (∃ x t, k = Sum.inr x ∧ v = Value.str x t)
  | .inl i, v, h => by
    obtain ⟨t, e⟩ := Value.isInt_shape (k := i) (v := v) h
    exact .inl ⟨i, t, rfl, e⟩
  | .inr x, v, h => by
    obtain ⟨t, e⟩ := Value.isStrOf_shape (x := x) (v := v) h
    exact .inr ⟨x, t, rfl, e⟩
theorem keyIs_int (i : Int) (t : Tok) : keyIs (.inl i) (.int i t) = true := by simp [keyIs, Value.isInt]
theorem keyIs_str (x : Str) (t : Tok) : keyIs (.inr x) (.str x t) = true := by simp [keyIs, Value.isStrOf]
theorem key_ll (a b : Int) : decide ((Sum.inl a : Key) = Sum.inl b) = (a == b) := by
  by_cases e : a = b
  · subst e; simp
  · have h : ¬ (Sum.inl a : Key) = Sum.inl b := fun q => e (Sum.inl.inj q)
    rw [decide_eq_false h]
    exact (beq_eq_false_iff_ne.mpr e).symm
theorem key_rr (a b : Str) : decide ((Sum.inr a : Key) = Sum.inr b) = decide (a = b) := by
  by_cases e : a = b
  · subst e; simp
  · have h : ¬ (Sum.inr a : Key) = Sum.inr b := fun q => e (Sum.inr.inj q)
    rw [decide_eq_false h, decide_eq_false e]
theorem key_lr (a : Int) (b : Str) : decide ((Sum.inl a : Key) = Sum.inr b) = false := decide_eq_false (fun q => nomatch q)
theorem key_rl (a : Str) (b : Int) : decide ((Sum.inr a : Key) = Sum.inl b) = false := decide_eq_false (fun q => nomatch q)

def mixKind (prog : Program) (w : World) : PySem.KeyKind prog w Key where
  is := keyIs
  hash := keyH w
  inj := fun v a b ha hb => by
    rcases keyIs_shape ha with ⟨i, t, rfl, rfl⟩ | ⟨x, t, rfl, rfl⟩
    · rcases keyIs_shape hb with ⟨j, u, rfl, e⟩ | ⟨y, u, rfl, e⟩
      · injection e with e1 _; rw [e1]
      · exact nomatch e
    · rcases keyIs_shape hb with ⟨j, u, rfl, e⟩ | ⟨y, u, rfl, e⟩
      · exact nomatch e
      · injection e with e1 _; rw [e1]
  byValue := fun k v h => by
    rcases keyIs_shape h with ⟨i, t, rfl, rfl⟩ | ⟨x, t, rfl, rfl⟩ <;> rfl
  pyHash := fun hv h => by
    rcases keyIs_shape hv with ⟨i, t, rfl, rfl⟩ | ⟨x, t, rfl, rfl⟩
    · exact wpAny_pyHash_int h
    · exact wpAny_pyHash_str h
  eqBool := fun hu hv h => by
    rcases keyIs_shape hu with ⟨i, t, rfl, rfl⟩ | ⟨x, t, rfl, rfl⟩
    · rcases keyIs_shape hv with ⟨j, u, rfl, rfl⟩ | ⟨y, u, rfl, rfl⟩
      · rw [key_ll] at h; exact wpAny_eqBool_int h
      · rw [key_lr] at h; exact SeqAt.EqAt.int_str i t y u _ _ _ _ h
    · rcases keyIs_shape hv with ⟨j, u, rfl, rfl⟩ | ⟨y, u, rfl, rfl⟩
      · rw [key_rl] at h; exact SeqAt.EqAt.str_int x t j u _ _ _ _ h
      · rw [key_rr] at h; exact wpAny_eqBool_str h
  «strs» := fun k x t v h => by
    rcases keyIs_shape h with ⟨i, u, rfl, e⟩ | ⟨y, u, rfl, e⟩
    · exact nomatch e
    · injection e with e1 _
      subst e1
      cases v <;> rfl

theorem mixKind_int (prog : Program) (w : World) (i : Int) (t : Tok) : (mixKind prog w).is (.inl i) (.int i t) = true := keyIs_int i t
theorem mixKind_str (prog : Program) (w : World) (x : Str) (t : Tok) : (mixKind prog w).is (.inr x) (.str x t) = true := keyIs_str x t
end L2

namespace L2
open PySem PySem.Spec PyProof.Rows

/-- a value, without the heap -/
inductive V where
  | non | bl (b : Bool) | int (i : Int) | str (x : Str) | byt (b : Array UInt8) | flt (b : UInt64) | ref (a : Addr) | ty (n : String)
  deriving DecidableEq

def RelV : V → Value → Prop
  | .non, u => u = Value.none
  | .bl b, u => u = Value.bool b
  | .int i, u => ∃ t, u = Value.int i t
  | .str x, u => ∃ t, u = Value.str x t
  | .byt b, u => ∃ t, u = Value.bytes b t
  | .flt b, u => ∃ t, u = Value.float b t
  | .ref a, u => u = Value.ref a
  | .ty n, u => u = Value.type n

abbrev Vals : List V → List Value → Prop := Paired RelV
theorem Vals.length {xs : List V} {us : List Value} (r : Vals xs us) : xs.length = us.length := Paired.length r
theorem Vals.get : ∀ {xs : List V} {us : List Value} {i : Nat} {x : V}, Vals xs us → xs[i]? = some x → ∃ u, us[i]? = some u ∧ RelV x u
  | _, _, _, _, .nil, e => by simp at e
  | _, _, 0, _, .cons r _, e => by simp at e; subst e; exact ⟨_, rfl, r⟩
  | _, _, i + 1, x, .cons _ t, e => by
    obtain ⟨u, h1, h2⟩ := Vals.get (i := i) (x := x) t (by simpa using e)
    exact ⟨u, by simpa using h1, h2⟩
theorem Vals.set {x : V} {u : Value} (r : RelV x u) : ∀ {xs : List V} {us : List Value} (i : Nat), Vals xs us → Vals (xs.set i x) (us.set i u)
  | _, _, _, .nil => .nil
  | _, _, 0, .cons _ t => .cons r t
  | _, _, i + 1, .cons q t => .cons q (Vals.set r i t)
theorem Vals.append : ∀ {xs ys : List V} {us ws : List Value}, Vals xs us → Vals ys ws → Vals (xs ++ ys) (us ++ ws)
  | _, _, _, _, .nil, s => s
  | _, _, _, _, .cons r t, s => .cons r (Vals.append t s)
theorem Vals.take : ∀ {xs : List V} {us : List Value} (n : Nat), Vals xs us → Vals (xs.take n) (us.take n)
  | _, _, 0, _ => .nil
  | _, _, _ + 1, .nil => .nil
  | _, _, n + 1, .cons r t => .cons r (Vals.take n t)
theorem Vals.drop : ∀ {xs : List V} {us : List Value} (n : Nat), Vals xs us → Vals (xs.drop n) (us.drop n)
  | _, _, 0, r => r
  | _, _, _ + 1, .nil => .nil
  | _, _, n + 1, .cons _ t => Vals.drop n t
def RelO : Option V → Option Value → Prop
  | some v, some u => RelV v u
  | none, none => True
  | _, _ => False
def KV {κ : Type} : List (κ × V) → List (κ × Value) → Prop := Paired fun (p : κ × V) (q : κ × Value) => p.1 = q.1 ∧ RelV p.2 q.2

/-- a key of a dict (00_mix): an int or a text -/
def kV : Key → V
  | .inl i => .int i
  | .inr x => .str x

/-- what stands at a tracked address -/
inductive HO where
  /-- a list -/
  | lst (xs : List V)
  /-- a tuple (never changes) -/
  | tup (xs : List V)
  /-- a dict whose keys are ints and texts; one whose keys are tuples of ints and texts (the empty one is both) -/
  | dK (kvs : List (Key × V)) | dT (kvs : List (List Key × V))
  /-- a set of ints: its members, its size -/
  | set (S : Int → Bool) (n : Nat)
  /-- an instance of the class at C, its dict at dx, its attributes -/
  | ins (C dx : Addr) (fs : List (Str × V))
  /-- the dict of the instance at x -/
  | own (x : Addr)
  /-- the dict of an exception -/
  | xd (fs : List (Str × V))
  /-- a bound method, f of x -/
  | met (f x : Addr)
  /-- a range object lo, lo + 1, .. below hi -/
  | rng (lo hi : Int)
  /-- a thing that is known to the object (the script; a dict while a loop walks it): read, never written while it is so -/
  | frz (o : Obj) (u : HO)
  /-- a code object's table -/
  | tbl (ps : Array Value)
  /-- any other thing, by what is true of its one object (a def of one's own: SetO a S n := HO.ext fun h => ..) -/
  | ext (φ : Heap → Prop)

abbrev Hp := Addr → Option HO
def upd (H : Hp) (a : Addr) (o : HO) : Hp := fun b => if b = a then some o else H b
theorem upd_same {H : Hp} {a : Addr} {o : HO} : upd H a o a = some o := by unfold upd; rw [if_pos rfl]
theorem upd_ne {H : Hp} {a b : Addr} {o : HO} (h : b ≠ a) : upd H a o b = H b := by unfold upd; rw [if_neg h]
/-- two objects of different content stand apart -/
theorem ne_of {H : Hp} {a b : Addr} {o u : HO} (h : H a = some o) (h' : H b = some u) (d : o ≠ u) : a ≠ b := by
  intro e; subst e; rw [h] at h'; exact d (Option.some.inj h')
theorem ne_of_none {H : Hp} {a b : Addr} {o : HO} (h : H a = some o) (h' : H b = none) : a ≠ b := by
  intro e; subst e; rw [h] at h'; cases h'

section
variable (P : Program) (w : World)
def ObjOk (H : Hp) (h : Heap) (a : Addr) : HO → Prop
  | .lst xs => xs.length ≤ sizeLine ∧ ∃ (its : List Value) (n : Nat), Vals xs its ∧ h.get? a = some { cls := .type "list", data := .seq its.toArray n }
  | .tup xs => xs.length ≤ sizeLine ∧ ∃ its : List Value, Vals xs its ∧ IsTup h a its.toArray
  | .dK kvs => kvs.length ≤ sizeLine ∧ (a == sysModules) = false ∧ ∃ vs, KV kvs vs ∧ h.DictOf (mixKind P w) a vs
  | .dT kvs => kvs.length ≤ sizeLine ∧ (a == sysModules) = false ∧ ∃ xs : List (List Key × Addr × Value),
      Paired (fun (p : List Key × V) (q : List Key × Addr × Value) => p.1 = q.1 ∧ H q.2.1 = some (.tup (p.1.map kV)) ∧ RelV p.2 q.2.2) kvs xs ∧
      ∃ o es ep, h.get? a = some o ∧ o.ExactDict ∧ o.data = .dict es ep ∧ es.toList = xs.map (entryOfKey (tupleKind (mixKind P w))) ∧ (xs.map (·.1)).Nodup
  | .set S n => h.SetOf (intKind P w) a S n
  | .ins C dx fs => H dx = some (.own a) ∧ fs.length ≤ 1000 ∧ dx ≠ a ∧ h.get? a = some (PySem.W.instObj C dx) ∧
      ∃ mA, h.Ns1 dx mA ∧ (∀ f, RelO (fs.lookup f) (mA f)) ∧ PySem.Within mA (fs.map (·.1))
  | .own _ => ∃ o, h.get? a = some o
  | .xd fs => ∃ mA, h.Ns1 a mA ∧ ∀ f, RelO (fs.lookup f) (mA f)
  | .rng lo hi => ∃ t u v, h.get? a = some { cls := .type "range", data := .fields #[.int lo t, .int hi u, .int 1 v] }
  | .frz o u => h.get? a = some o ∧ ObjOk H h a u
  | .tbl ps => h.get? a = some { cls := .none, data := .fields ps }
  | .met f x => h.get? a = some (PySem.W.methodObj (.ref f) (.ref x))
  | .ext φ => φ h ∧ (∃ o, h.get? a = some o) ∧ ∀ h1 h2 : Heap, φ h1 → (∀ o, h1.get? a = some o → h2.get? a = some o) → φ h2
/-- the abstract heap is held -/
def HOk (H : Hp) (h : Heap) : Prop := ∀ a o, H a = some o → ObjOk P w H h a o
end

section
variable {P : Program} {w : World} {H H' : Hp} {h h' : Heap} {a : Addr} {o : HO}
theorem ObjOk.lt (x : ObjOk P w H h a o) : a < h.objs.size := by
  cases o with
  | lst xs => obtain ⟨_, _, _, _, e⟩ := x; exact Heap.lt_size e
  | tup xs => obtain ⟨_, _, _, p⟩ := x; exact p.lt
  | dK kvs => obtain ⟨_, _, _, _, o, _, _, e, _⟩ := x; exact Heap.lt_size e
  | dT kvs => obtain ⟨_, _, _, _, o, _, _, e, _⟩ := x; exact Heap.lt_size e
  | set S n => obtain ⟨o, _, _, _, e, _⟩ := x; exact Heap.lt_size e
  | ins C dx fs => obtain ⟨_, _, _, e, _⟩ := x; exact Heap.lt_size e
  | own y => obtain ⟨_, e⟩ := x; exact Heap.lt_size e
  | xd fs => obtain ⟨_, ⟨_, _, _, e, _⟩, _⟩ := x; exact Heap.lt_size e
  | rng lo hi => obtain ⟨_, _, _, e⟩ := x; exact Heap.lt_size e
  | frz ob u => obtain ⟨e, _⟩ := x; exact Heap.lt_size e
  | tbl ps => exact Heap.lt_size (show h.get? a = some _ from x)
  | met f y => exact Heap.lt_size (show h.get? a = some _ from x)
  | ext φ => obtain ⟨_, ⟨_, e⟩, _⟩ := x; exact Heap.lt_size e
theorem Paired.mapP {α β : Type} {F G : α → β → Prop} : ∀ {l₁ : List α} {l₂ : List β}, Paired F l₁ l₂ → (∀ a b, F a b → G a b) → Paired G l₁ l₂
  | _, _, .nil, _ => .nil
  | _, _, .cons r t, f => .cons (f _ _ r) (Paired.mapP t f)
/-- what an object's description leans on: its own object, its own dict, the tuples -/
theorem ObjOk.stay (x : ObjOk P w H h a o) (k : ∀ b u, (b = a ∨ H b = some (.own a)) → h.get? b = some u → h'.get? b = some u)
    (ho : ∀ b, H b = some (.own a) → H' b = some (.own a)) (ht : ∀ b xs, H b = some (.tup xs) → H' b = some (.tup xs)) : ObjOk P w H' h' a o := by
  induction o with
  | lst xs => obtain ⟨z, its, n, r, e⟩ := x; exact ⟨z, its, n, r, k _ _ (.inl rfl) e⟩
  | tup xs => obtain ⟨z, its, r, ob, e, c⟩ := x; exact ⟨z, its, r, ob, k _ _ (.inl rfl) e, c⟩
  | dK kvs => obtain ⟨z, y, vs, r, ob, es, ep, e, c⟩ := x; exact ⟨z, y, vs, r, ob, es, ep, k _ _ (.inl rfl) e, c⟩
  | dT kvs =>
    obtain ⟨z, y, xs, r, ob, es, ep, e, c⟩ := x
    exact ⟨z, y, xs, Paired.mapP r fun p q z => ⟨z.1, ht _ _ z.2.1, z.2.2⟩, ob, es, ep, k _ _ (.inl rfl) e, c⟩
  | set S n => obtain ⟨ob, es, ep, t, e, c⟩ := x; exact ⟨ob, es, ep, t, k _ _ (.inl rfl) e, c⟩
  | ins C dx fs =>
    obtain ⟨d, z, ne, e, mA, ⟨od, es, ep, e2, c⟩, r⟩ := x
    exact ⟨ho _ d, z, ne, k _ _ (.inl rfl) e, mA, ⟨od, es, ep, k _ _ (.inr d) e2, c⟩, r⟩
  | own y => obtain ⟨ob, e⟩ := x; exact ⟨ob, k _ _ (.inl rfl) e⟩
  | xd fs => obtain ⟨mA, ⟨od, es, ep, e, c⟩, r⟩ := x; exact ⟨mA, ⟨od, es, ep, k _ _ (.inl rfl) e, c⟩, r⟩
  | rng lo hi => obtain ⟨t, u, v, e⟩ := x; exact ⟨t, u, v, k _ _ (.inl rfl) e⟩
  | frz ob u ih => obtain ⟨e, q⟩ := x; exact ⟨k _ _ (.inl rfl) e, ih q⟩
  | tbl ps =>
    have e : h.get? a = some { cls := .none, data := .fields ps } := x
    show h'.get? a = some { cls := .none, data := .fields ps }
    exact k a _ (.inl rfl) e
  | met f y =>
    have e : h.get? a = some (PySem.W.methodObj (.ref f) (.ref y)) := x
    show h'.get? a = some (PySem.W.methodObj (.ref f) (.ref y))
    exact k a _ (.inl rfl) e
  | ext φ => obtain ⟨p, ⟨o, e⟩, st⟩ := x; exact ⟨st _ _ p fun o q => k _ _ (.inl rfl) q, ⟨o, k _ _ (.inl rfl) e⟩, st⟩
theorem HOk.lt (x : HOk P w H h) (e : H a = some o) : a < h.objs.size := (x a o e).lt
theorem HOk.fresh (x : HOk P w H h) (e : h.objs.size ≤ a) : H a = none := by
  cases q : H a with
  | none => rfl
  | some u => exact absurd (Nat.lt_of_lt_of_le (x.lt q) e) (Nat.lt_irrefl _)
/-- every object of the heap is kept -/
theorem HOk.kept (x : HOk P w H h) (k : ∀ b u, h.get? b = some u → h'.get? b = some u) : HOk P w H h' := fun a o e =>
  (x a o e).stay (fun b u _ q => k b u q) (fun _ q => q) fun _ _ q => q
/-- a new object is laid and tracked -/
theorem HOk.laid (x : HOk P w H h) (k : ∀ b u, h.get? b = some u → h'.get? b = some u) (hp : h.objs.size ≤ a) (new : ObjOk P w (upd H a o) h' a o) : HOk P w (upd H a o) h' := fun b u e => by
  have hn := x.fresh hp
  by_cases hb : b = a
  · subst hb; rw [upd_same] at e; cases e; exact new
  · rw [upd_ne hb] at e
    exact (x b u e).stay (fun c v _ q => k c v q) (fun c q => by rw [upd_ne (ne_of_none q hn)]; exact q) fun c xs q => by rw [upd_ne (ne_of_none q hn)]; exact q
end

/-- what may be read as u: it is u, or a known u -/
def Rd (H : Hp) (a : Addr) (u : HO) : Prop := H a = some u ∨ ∃ o, H a = some (.frz o u)
theorem Rd.ok {P : Program} {w : World} {H : Hp} {h : Heap} {a : Addr} {u : HO} (r : Rd H a u) (x : HOk P w H h) : ObjOk P w H h a u := by
  rcases r with r | ⟨o, r⟩
  · exact x a u r
  · obtain ⟨_, q⟩ := x a _ r
    exact q
/-- what may be written -/
def Mut : Option HO → Prop
  | some (.lst _) => True
  | some (.dK _) => True
  | some (.dT _) => True
  | some (.set _ _) => True
  | some (.ins _ _ _) => True
  | some (.ext _) => True
  | _ => False
section
variable {P : Program} {w : World} {H : Hp} {h h' : Heap} {x e : Addr} {o' : HO}
/-- the object at e is changed: x itself, or the dict of the instance x -/
theorem HOk.write (ok : HOk P w H h) (mu : Mut (H x)) (he : e = x ∨ H e = some (.own x)) (k : ∀ b u, b ≠ e → h.get? b = some u → h'.get? b = some u) (heo : ∃ u, h'.get? e = some u)
    (new : ObjOk P w (upd H x o') h' x o') : HOk P w (upd H x o') h' := fun b u q => by
  have nown : ∀ c y, H c = some (.own y) → c ≠ x := fun c y r z => by subst z; rw [r] at mu; exact mu
  have ntup : ∀ c xs, H c = some (.tup xs) → c ≠ x := fun c xs r z => by subst z; rw [r] at mu; exact mu
  by_cases hb : b = x
  · subst hb; rw [upd_same] at q; cases q; exact new
  · rw [upd_ne hb] at q
    by_cases hbe : b = e
    · have q' : H b = some (.own x) := by
        rcases he with z | z
        · exact absurd (hbe.trans z) hb
        · rw [hbe]; exact z
      rw [q] at q'; cases q'
      obtain ⟨v, hv⟩ := heo
      exact ⟨v, by rw [hbe]; exact hv⟩
    · refine (ok b u q).stay (fun c v hc r => k c v ?_ r) (fun c r => by rw [upd_ne (nown c b r)]; exact r) fun c xs r => by rw [upd_ne (ntup c xs r)]; exact r
      rcases hc with rfl | hc
      · exact hbe
      · rintro rfl
        rcases he with z | z
        · exact nown c b hc z
        · rw [hc] at z; cases z; exact hb rfl
end

/-! ### kept unless tracked; of the frames at fs (the callers') the slots may change (an exception that passes writes there); of the records at ex (iterators) nothing is said -/
structure Un (fs ex : List Addr) (H H' : Hp) (h h' : Heap) : Prop where
  keep : ∀ b o, h.get? b = some o → H b = none → b ∉ fs → b ∉ ex → h'.get? b = some o
  slot : ∀ b o, h.get? b = some o → H b = none → b ∈ fs → b ∉ ex → ∃ sl, h'.get? b = some { o with slots := sl }
  free : ∀ b o, h.get? b = some o → H b = none → b ∉ ex → H' b = none
  there : ∀ b o, h.get? b = some o → b ∉ ex → ∃ o', h'.get? b = some o'
  tups : ∀ b xs, H b = some (.tup xs) → H' b = some (.tup xs)
  frzs : ∀ b o u, H b = some (.frz o u) → H' b = some (.frz o u)
  tbls : ∀ b ps, H b = some (.tbl ps) → ∃ more, H' b = some (.tbl (ps ++ more))
section
variable {fs fs' ex ex' : List Addr} {H H1 H2 : Hp} {h h1 h2 h' : Heap} {a x e : Addr} {o : HO}
theorem Un.any (u : Un fs ex H H1 h h1) {b : Addr} {ob : Obj} (q : h.get? b = some ob) (n : H b = none) (hx : b ∉ ex) : ∃ sl, h1.get? b = some { ob with slots := sl } := by
  by_cases hb : b ∈ fs
  · exact u.slot b ob q n hb hx
  · exact ⟨ob.slots, u.keep b ob q n hb hx⟩
theorem Un.kept (k : ∀ b u, h.get? b = some u → h'.get? b = some u) : Un fs ex H H h h' :=
  ⟨fun b ob q _ _ _ => k b ob q, fun b ob q _ _ _ => ⟨ob.slots, k b ob q⟩, fun _ _ _ n _ => n, fun b ob q _ => ⟨ob, k b ob q⟩, fun _ _ q => q, fun _ _ _ q => q, fun _ ps q => ⟨#[], by rw [q]; simp⟩⟩
theorem Un.refl : Un fs ex H H h h := Un.kept fun _ _ q => q
theorem Un.laid (k : ∀ b u, h.get? b = some u → h'.get? b = some u) (hp : h.objs.size ≤ a) (hn : H a = none) : Un fs ex H (upd H a o) h h' where
  keep := fun b u q _ _ _ => k b u q
  slot := fun b u q _ _ _ => ⟨u.slots, k b u q⟩
  free := fun b u q n _ => by rw [upd_ne (Nat.ne_of_lt (Nat.lt_of_lt_of_le (Heap.lt_size q) hp))]; exact n
  there := fun b u q _ => ⟨u, k b u q⟩
  tups := fun b xs q => by rw [upd_ne (ne_of_none q hn)]; exact q
  frzs := fun b u xs q => by rw [upd_ne (ne_of_none q hn)]; exact q
  tbls := fun b ps q => ⟨#[], by rw [upd_ne (ne_of_none q hn), q]; simp⟩
theorem Un.write (mu : Mut (H x)) (he : e = x ∨ H e = some (.own x)) (k : ∀ b u, b ≠ e → h.get? b = some u → h'.get? b = some u) (heo : ∃ u, h'.get? e = some u) : Un fs ex H (upd H x o) h h' := by
  have hx : ∀ b, H b = none → b ≠ x := fun b n z => by subst z; rw [n] at mu; exact mu
  have hb : ∀ b, H b = none → b ≠ e := fun b n z => by
    subst z
    rcases he with r | r
    · exact hx b n r
    · rw [n] at r; cases r
  have hm : ∀ b u, H b = some u → ¬ Mut (some u) → b ≠ x := fun b u q nm z => by subst z; rw [q] at mu; exact nm mu
  refine ⟨fun b u q n _ _ => k b u (hb b n) q, fun b u q n _ _ => ⟨u.slots, k b u (hb b n) q⟩, fun b u q n _ => by rw [upd_ne (hx b n)]; exact n, fun b u q _ => ?_,
    fun b xs q => by rw [upd_ne (hm b _ q fun z => z)]; exact q, fun b u xs q => by rw [upd_ne (hm b _ q fun z => z)]; exact q, fun b ps q => ⟨#[], by rw [upd_ne (hm b _ q fun z => z), q]; simp⟩⟩
  by_cases hbe : b = e
  · subst hbe; exact heo
  · exact ⟨u, k b u hbe q⟩
end

/-! ### the heap without what is tracked -/
def trk (h : Heap) (H : Hp) : List Addr := (List.range h.objs.size).filter fun a => (H a).isSome
def hidT (h : Heap) (H : Hp) : Heap := PySem.W.hideAll h (trk h H)
theorem hidT_size (h : Heap) (H : Hp) : (hidT h H).objs.size = h.objs.size := PySem.W.hideAll_size _ _
theorem hidT_get {h : Heap} {H : Hp} {b : Addr} {o : Obj} (e : h.get? b = some o) (n : H b = none) : (hidT h H).get? b = some o :=
  PySem.W.hideAll_get _ e fun hm => by
    have q : (H b).isSome = true := (List.mem_filter.mp hm).2
    rw [n] at q; simp at q
theorem of_hidT {h : Heap} {H : Hp} {b : Addr} {o : Obj} (e : (hidT h H).get? b = some o) : h.get? b = some o ∧ H b = none := by
  have e' : h.get? b = some o := PySem.W.of_hideAll (trk h H) e
  refine ⟨e', ?_⟩
  cases q : H b with
  | none => rfl
  | some x =>
    have hm : b ∈ trk h H := List.mem_filter.mpr ⟨List.mem_range.mpr (Heap.lt_size e'), by simp [q]⟩
    have z : (hidT h H).get? b = none := PySem.W.hideAll_none (trk h H) hm
    rw [z] at e; cases e

/-! ### OpenK's ledger, filled with every new object but one -/
def allNews (g h : Heap) (L : Addr) : List (Addr × Obj) := (List.range h.objs.size).filterMap fun a => if a = L ∨ (g.get? a).isSome = true then none else (h.get? a).map fun o => (a, o)
def rest (g h : Heap) (L d : Addr) : List (Addr × Obj) := (allNews g h L).filter fun p => decide (p.1 ≠ d)
end L2

namespace L2
open PySem PySem.Spec PyProof.Rows

/-- the module's facts, over the base: the heap at the law's entry without what is tracked there -/
structure Mod (K : PySem.W.Frag) (mg : Str → Option Value) (base : Heap) : Prop where
  kin : K.In base
  glob : base.Ns mainGlobals mg
  blt : ∃ mb, base.Ns builtinsNs mb ∧ ∀ x : Str, x ≠ "__name__" → mb x = bootBuiltins x
  nolimit : base.NoLimit

/-- the context: a def's body (or a comprehension's block) running. base: fixed through the whole law; s₀, H₀: the entry; outer: the frames whose slots others may change (a def's callers); stack: all frames that run;
   ex: iterators that were made ahead of the entry and are walked here (a comprehension's); fn: the names whose cells were made at the entry (a def: all; a comprehension's block: its own); calm: not within an except suite; pn: pins that every state bears; xe: what is wanted of an exception that leaves the code -/
structure Cx where
  prog : Program
  w : World
  K : PySem.W.Frag
  mg : Str → Option Value
  base : Heap
  A : Around
  N : List Str
  s₀ : Shared
  H₀ : Hp
  env : Env
  outer : List Env
  stack : List Env
  ex : List Addr
  fn : Str → Bool
  calm : Bool
  pn : List (Addr × Obj)
  xe : Value → Shared → Prop
/-- the callers' frames -/
def frs (l : List Env) : List Addr := l.filterMap (·.frame)
abbrev Cx.fs (X : Cx) : List Addr := frs X.outer

def Vis (sc : Scope) (x : Str) : Prop := sc.names.lookup x = some .local ∨ sc.names.lookup x = some .cell ∨ sc.names.lookup x = some .free
def Loc (sc : Scope) (x : Str) : Prop := sc.names.lookup x = some .local ∨ sc.names.lookup x = some .cell
def Look (env : Env) (h : Heap) (m : Str → Option Value) (x : Str) (u : Value) : Prop :=
  (env.kindOf x = some .local ∧ m x = some u) ∨ ((env.kindOf x = some .cell ∨ env.kindOf x = some .free) ∧ ∃ c, env.cells.lookup x = some c ∧ h.IsCell c (some u))

structure Cx.Ok (X : Cx) : Prop where
  mod : Mod X.K X.mg X.base
  kind : X.env.scope.kind = .function
  glob : X.env.globals = mainGlobals
  blt : X.env.builtins = builtinsNs
  above : X.s₀.heap.objs.size ≤ X.env.locals
  inj : ∀ x y c, X.env.cells.lookup x = some c → X.env.cells.lookup y = some c → x = y
  has : ∀ x, (X.env.kindOf x = some .cell ∨ X.env.kindOf x = some .free) → ∃ c, X.env.cells.lookup x = some c
  cab : ∀ x c, X.fn x = true → X.env.cells.lookup x = some c → X.s₀.heap.objs.size ≤ c
  hd : X.calm = true → X.A.handled = none
  frames : X.A.frames = some X.stack
  stk : X.stack = X.outer ∨ (X.stack = X.env :: X.outer ∧ X.env.frame = some X.env.locals)
  exf : ∀ b ∈ X.ex, b ≠ X.env.locals ∧ ∀ x c, X.env.cells.lookup x = some c → c ≠ b
  bs : ∀ b o, X.base.get? b = some o → X.s₀.heap.get? b = some o ∧ X.H₀ b = none
  bsz : X.base.objs.size ≤ X.s₀.heap.objs.size
  noex : ∀ b o, X.base.get? b = some o → b ∉ X.ex
  exfs : ∀ b ∈ X.ex, b ∉ X.fs
  funs : X.s₀.heap.FunFrames X.base X.outer
  frf : ∀ b ∈ X.fs, X.H₀ b = none

structure Inv (X : Cx) (pins : List (Addr × Obj)) (σ : List (Option V)) (H : Hp) (s : Shared) : Prop where
  ok : X.Ok
  os : s.os = X.s₀.os
  bare : AllBare s.gens
  base : Un X.fs X.ex X.H₀ H X.s₀.heap s.heap
  loc : ∃ m, s.heap.Ns X.env.locals m ∧ ∀ (i : Nat) (x : Str) (v : V), X.N[i]? = some x → σ[i]? = some (some v) → Vis X.env.scope x → ∃ u, RelV v u ∧ Look X.env s.heap m x u
  cell : ∀ x c, X.env.cells.lookup x = some c → ∃ v, s.heap.IsCell c v
  free : H X.env.locals = none
  freeC : ∀ x c, X.env.cells.lookup x = some c → H c = none
  pin : ∀ p ∈ X.pn ++ pins, s.heap.get? p.1 = some p.2 ∧ H p.1 = none ∧ p.1 ≠ X.env.locals ∧ p.1 ∉ X.fs ∧ ∀ v, p.2.data ≠ .cell v
  hok : HOk X.prog X.w H s.heap
  len : σ.length = X.N.length

section
variable {X : Cx} {pins : List (Addr × Obj)} {σ : List (Option V)} {H H' : Hp} {s : Shared} {h' : Heap}

theorem Cx.Ok.nofr (ok : X.Ok) {b : Addr} {o : Obj} (e : X.base.get? b = some o) : b ∉ X.fs := fun hb => by
  have := (ok.funs.mem hb).1
  rw [e] at this; cases this
theorem Inv.bs (I : Inv X pins σ H s) : ∀ b o, X.base.get? b = some o → s.heap.get? b = some o ∧ H b = none := fun b o e =>
  ⟨I.base.keep b o (I.ok.bs b o e).1 (I.ok.bs b o e).2 (I.ok.nofr e) (I.ok.noex b o e), I.base.free b o (I.ok.bs b o e).1 (I.ok.bs b o e).2 (I.ok.noex b o e)⟩
theorem Inv.bk (I : Inv X pins σ H s) : ∀ b o, X.base.get? b = some o → s.heap.get? b = some o := fun b o e => (I.bs b o e).1
theorem Inv.mod (I : Inv X pins σ H s) : Mod X.K X.mg X.base := I.ok.mod
theorem Inv.kIn (I : Inv X pins σ H s) : X.K.In s.heap := I.ok.mod.kin.keeps I.bk
theorem Inv.lt (I : Inv X pins σ H s) : X.env.locals < s.heap.objs.size := let ⟨_, hn, _⟩ := I.loc; hn.lt
theorem Inv.sz (I : Inv X pins σ H s) : X.s₀.heap.objs.size ≤ s.heap.objs.size := Nat.le_trans I.ok.above (Nat.le_of_lt I.lt)
theorem Inv.nofs (I : Inv X pins σ H s) {a : Addr} (h : s.heap.objs.size ≤ a) : a ∉ X.fs := fun hb => by
  obtain ⟨_, o, ho, _⟩ := I.ok.funs.mem hb
  exact absurd (Nat.lt_of_lt_of_le (Heap.lt_size ho) (Nat.le_trans I.sz h)) (Nat.lt_irrefl _)
theorem Inv.cne (I : Inv X pins σ H s) : ∀ x c, X.env.cells.lookup x = some c → c ≠ X.env.locals := fun x c e z => by
  obtain ⟨v, o, ho, hd⟩ := I.cell x c e
  obtain ⟨m, ⟨o', es, ep, ho', hd', _⟩, _⟩ := I.loc
  rw [z, ho'] at ho; cases ho; rw [hd'] at hd; cases hd
theorem Inv.funs (I : Inv X pins σ H s) : s.heap.FunFrames X.base X.outer := by
  have all : ∀ (l : List Env), (∀ b ∈ frs l, b ∈ X.fs) → X.s₀.heap.FunFrames X.base l → s.heap.FunFrames X.base l := by
    intro l
    induction l with
    | nil => intro _ _; trivial
    | cons env r ih =>
      intro hs hl
      obtain ⟨hk, ⟨L, o, hf, hn, ho, hd⟩, hr⟩ := hl
      have hL : L ∈ X.fs := hs L (by unfold frs; rw [List.filterMap_cons, hf]; exact List.mem_cons_self)
      obtain ⟨sl, e⟩ := I.base.slot L o ho (I.ok.frf L hL) hL fun z => I.ok.exfs L z hL
      exact ⟨hk, ⟨L, _, hf, hn, e, hd⟩, ih (fun b hb => hs b (by unfold frs; rw [List.filterMap_cons, hf]; exact List.mem_cons_of_mem _ hb)) hr⟩
  exact all X.outer (fun _ hb => hb) I.ok.funs

/-- the frames that run, for a call -/
theorem Inv.stack (I : Inv X pins σ H s) : s.heap.FunFrames X.base X.stack := by
  rcases I.ok.stk with e | ⟨e, hf⟩
  · rw [e]; exact I.funs
  · rw [e]
    obtain ⟨m, hn, _⟩ := I.loc
    refine .cons (by rw [I.ok.kind]; decide) hf hn ?_ I.funs
    exact Heap.get?_none_of_le (Nat.le_trans I.ok.bsz I.ok.above)
theorem Inv.stkSub (I : Inv X pins σ H s) : ∀ b ∈ frs X.stack, b ∈ X.env.locals :: X.fs := fun b hb => by
  rcases I.ok.stk with e | ⟨e, hf⟩
  · rw [e] at hb; exact List.mem_cons_of_mem _ hb
  · rw [e] at hb
    unfold frs at hb
    rw [List.filterMap_cons, hf] at hb
    exact hb
theorem Inv.stkFree (I : Inv X pins σ H s) : ∀ b ∈ frs X.stack, H b = none := fun b hb => by
  rcases List.mem_cons.mp (I.stkSub b hb) with e | hb
  · rw [e]; exact I.free
  · obtain ⟨_, o, ho, _⟩ := I.ok.funs.mem hb
    exact I.base.free b o ho (I.ok.frf b hb) fun z => I.ok.exfs b z hb

/-- THE STEP: the untracked objects but the frame and the records at ch are kept (the callers' frames up to slots), the frame's map is kept, the new abstract heap is held -/
theorem Inv.step {g' : Array GenState} {t' : Nat} {d' : Drawn} {ch : List Addr} (I : Inv X pins σ H s)
    (hch : ∀ b ∈ ch, (b ∈ X.ex ∨ X.s₀.heap.objs.size ≤ b) ∧ b ≠ X.env.locals ∧ (∀ x c, X.env.cells.lookup x = some c → c ≠ b) ∧ ∀ p ∈ X.pn ++ pins, p.1 ≠ b)
    (keep : ∀ b o, b ≠ X.env.locals → b ∉ X.fs → b ∉ ch → s.heap.get? b = some o → H b = none → h'.get? b = some o)
    (slot : ∀ b o, b ≠ X.env.locals → b ∈ X.fs → b ∉ ch → s.heap.get? b = some o → H b = none → ∃ sl, h'.get? b = some { o with slots := sl }) (free : ∀ b o, b ∉ ch → s.heap.get? b = some o → H b = none → H' b = none)
    (there : ∀ b o, b ∉ ch → s.heap.get? b = some o → ∃ o', h'.get? b = some o')
    (tups : ∀ b xs, H b = some (.tup xs) → H' b = some (.tup xs)) (frzs : ∀ b o u, H b = some (.frz o u) → H' b = some (.frz o u)) (tbls : ∀ b ps, H b = some (.tbl ps) → ∃ more, H' b = some (.tbl (ps ++ more)))
    (ns : ∀ m, s.heap.Ns X.env.locals m → h'.Ns X.env.locals m) (hok : HOk X.prog X.w H' h') (hg : AllBare g') :
    Inv X pins σ H' { s with heap := h', gens := g', drawn := d', toks := t' } := by
  have neL : ∀ b o, X.s₀.heap.get? b = some o → b ≠ X.env.locals := fun b o e => Nat.ne_of_lt (Nat.lt_of_lt_of_le (Heap.lt_size e) I.ok.above)
  have neC : ∀ b o, X.s₀.heap.get? b = some o → b ∉ X.ex → b ∉ ch := fun b o e hx hb => by
    rcases (hch b hb).1 with z | z
    · exact hx z
    · exact absurd (Nat.lt_of_lt_of_le (Heap.lt_size e) z) (Nat.lt_irrefl _)
  have cellK : ∀ x c, X.env.cells.lookup x = some c → ∀ v, s.heap.IsCell c v → h'.IsCell c v := fun x c e v ⟨o, ho, hd⟩ => by
    have nch : c ∉ ch := fun z => (hch c z).2.2.1 x c e rfl
    by_cases hc : c ∈ X.fs
    · obtain ⟨sl, q⟩ := slot c o (I.cne x c e) hc nch ho (I.freeC x c e)
      exact ⟨_, q, hd⟩
    · exact ⟨o, keep c o (I.cne x c e) hc nch ho (I.freeC x c e), hd⟩
  refine ⟨I.ok, I.os, hg, ⟨fun b o e n hb hx => ?_, fun b o e n hb hx => ?_, fun b o e n hx => ?_, fun b o e hx => ?_, fun b xs e => tups b xs (I.base.tups b xs e), fun b o xs e => frzs b o xs (I.base.frzs b o xs e), fun b ps e => ?_⟩, ?_, fun x c e => ?_, ?_, fun x c e => ?_, fun p hp => ?_, hok, I.len⟩
  · exact keep b o (neL b o e) hb (neC b o e hx) (I.base.keep b o e n hb hx) (I.base.free b o e n hx)
  · obtain ⟨sl, e1⟩ := I.base.slot b o e n hb hx
    obtain ⟨sl', e2⟩ := slot b _ (neL b o e) hb (neC b o e hx) e1 (I.base.free b o e n hx)
    exact ⟨sl', e2⟩
  · obtain ⟨o', e1⟩ := I.base.there b o e hx
    exact free b o' (neC b o e hx) e1 (I.base.free b o e n hx)
  · obtain ⟨o', e1⟩ := I.base.there b o e hx
    exact there b o' (neC b o e hx) e1
  · obtain ⟨m1, e1⟩ := I.base.tbls b ps e
    obtain ⟨m2, e2⟩ := tbls b _ e1
    exact ⟨m1 ++ m2, by rw [e2, Array.append_assoc]⟩
  · obtain ⟨m, hn, hl⟩ := I.loc
    refine ⟨m, ns m hn, fun i x v e1 e2 e3 => ?_⟩
    obtain ⟨u, r, l⟩ := hl i x v e1 e2 e3
    refine ⟨u, r, ?_⟩
    rcases l with l | ⟨k, c, e, z⟩
    · exact .inl l
    · exact .inr ⟨k, c, e, cellK x c e _ z⟩
  · obtain ⟨v, z⟩ := I.cell x c e
    exact ⟨v, cellK x c e v z⟩
  · obtain ⟨m, ⟨o, _, _, ho, _⟩, _⟩ := I.loc
    exact free _ o (fun z => (hch _ z).2.1 rfl) ho I.free
  · obtain ⟨v, o, ho, hd⟩ := I.cell x c e
    exact free c o (fun z => (hch c z).2.2.1 x c e rfl) ho (I.freeC x c e)
  · obtain ⟨e, n, ne, nf, d⟩ := I.pin p hp
    have nch : p.1 ∉ ch := fun z => (hch p.1 z).2.2.2 p hp rfl
    exact ⟨keep p.1 p.2 ne nf nch e n, free p.1 p.2 nch e n, ne, nf, d⟩
/-- .. where the frame's own object is kept too -/
theorem Inv.un {t' : Nat} (I : Inv X pins σ H s) (u : Un X.fs [] H H' s.heap h') (hok : HOk X.prog X.w H' h') : Inv X pins σ H' { s with heap := h', toks := t' } := by
  obtain ⟨m, ⟨o, es, ep, ho, r⟩, _⟩ := id I.loc
  obtain ⟨sl, hL⟩ := u.any ho I.free (by simp)
  exact I.step (g' := s.gens) (d' := s.drawn) (ch := []) (fun _ z => nomatch z) (fun b o _ hb _ e n => u.keep b o e n hb (by simp)) (fun b o _ hb _ e n => u.slot b o e n hb (by simp)) (fun b o _ e n => u.free b o e n (by simp)) (fun b o _ e => u.there b o e (by simp)) u.tups u.frzs u.tbls (fun m' hm => by
    obtain ⟨o', es', ep', ho', r'⟩ := hm
    rw [ho] at ho'; cases ho'
    exact ⟨_, es', ep', hL, r'⟩) hok I.bare
/-- behind a call (or a comprehension's block): the slots of this frame may have changed too, the records at ch may have turned -/
theorem Inv.call {g' : Array GenState} {t' : Nat} {d' : Drawn} {ch : List Addr} (I : Inv X pins σ H s) (u : Un (frs X.stack) ch H H' s.heap h') (hok : HOk X.prog X.w H' h') (hg : AllBare g')
    (hch : ∀ b ∈ ch, (b ∈ X.ex ∨ X.s₀.heap.objs.size ≤ b) ∧ b ≠ X.env.locals ∧ (∀ x c, X.env.cells.lookup x = some c → c ≠ b) ∧ ∀ p ∈ X.pn ++ pins, p.1 ≠ b) :
    Inv X pins σ H' { s with heap := h', gens := g', drawn := d', toks := t' } := by
  obtain ⟨m, ⟨o, es, ep, ho, r⟩, _⟩ := id I.loc
  obtain ⟨sl, hL⟩ := u.any ho I.free fun z => (hch _ z).2.1 rfl
  exact I.step (ch := ch) hch (fun b o hL hb hc e n => u.keep b o e n (fun z => (List.mem_cons.mp (I.stkSub b z)).elim hL hb) hc) (fun b o _ _ hc e n => u.any e n hc) (fun b o hc e n => u.free b o e n hc) (fun b o hc e => u.there b o e hc) u.tups u.frzs u.tbls (fun m' hm => by
    obtain ⟨o', es', ep', ho', r'⟩ := hm
    rw [ho] at ho'; cases ho'
    exact ⟨_, es', ep', hL, r'⟩) hok hg
/-- an untracked record of ours (an iterator) has turned -/
theorem Inv.turned {t' : Nat} {it : Addr} (I : Inv X pins σ H s) (k : ∀ b o, b ≠ it → s.heap.get? b = some o → h'.get? b = some o) (hn : H it = none) (hL : it ≠ X.env.locals)
    (h1 : it ∈ X.ex ∨ X.s₀.heap.objs.size ≤ it) (h2 : ∀ x c, X.env.cells.lookup x = some c → c ≠ it) (h3 : ∀ p ∈ X.pn ++ pins, p.1 ≠ it) : Inv X pins σ H { s with heap := h', toks := t' } := by
  have nit : ∀ b u, H b = some u → b ≠ it := fun b u e z => by rw [z, hn] at e; cases e
  refine I.step (g' := s.gens) (d' := s.drawn) (ch := [it]) (fun b hb => ?_) (fun b o _ _ hc e _ => k b o (fun z => hc (by simp [z])) e) (fun b o _ _ hc e _ => ⟨o.slots, k b o (fun z => hc (by simp [z])) e⟩) (fun _ _ _ _ n => n)
    (fun b o hc e => ⟨o, k b o (fun z => hc (by simp [z])) e⟩) (fun _ _ e => e) (fun _ _ _ e => e) (fun b ps e => ⟨#[], by rw [e]; simp⟩) (fun m hm => ?_) (fun b u e => ?_) I.bare
  · have e : b = it := by simpa using hb
    subst e
    exact ⟨h1, hL, h2, h3⟩
  · obtain ⟨o, es, ep, ho, r⟩ := hm
    exact ⟨o, es, ep, k _ o (Ne.symm hL) ho, r⟩
  · refine (I.hok b u e).stay (fun c v hc q => k c v ?_ q) (fun _ q => q) fun _ _ q => q
    rcases hc with z | z
    · rw [z]; exact nit b u e
    · exact nit c _ z
theorem Inv.tok (I : Inv X pins σ H s) (t : Nat) : Inv X pins σ H { s with toks := t } := I.un (h' := s.heap) (t' := t) Un.refl I.hok
/-- all objects kept -/
theorem Inv.kept {t' : Nat} (I : Inv X pins σ H s) (k : ∀ b u, s.heap.get? b = some u → h'.get? b = some u) : Inv X pins σ H { s with heap := h', toks := t' } := I.un (Un.kept k) (I.hok.kept k)
/-- a new object laid and tracked -/
theorem Inv.laid {a : Addr} {o : HO} {t' : Nat} (I : Inv X pins σ H s) (k : ∀ b u, s.heap.get? b = some u → h'.get? b = some u) (hp : s.heap.objs.size ≤ a) (new : ObjOk X.prog X.w (upd H a o) h' a o) :
    Inv X pins σ (upd H a o) { s with heap := h', toks := t' } := I.un (Un.laid k hp (I.hok.fresh hp)) (I.hok.laid k hp new)
/-- an object written -/
theorem Inv.write {x e : Addr} {o : HO} {t' : Nat} (I : Inv X pins σ H s) (mu : Mut (H x)) (he : e = x ∨ H e = some (.own x)) (k : ∀ b u, b ≠ e → s.heap.get? b = some u → h'.get? b = some u) (heo : ∃ u, h'.get? e = some u)
    (new : ObjOk X.prog X.w (upd H x o) h' x o) : Inv X pins σ (upd H x o) { s with heap := h', toks := t' } := I.un (Un.write mu he k heo) (I.hok.write mu he k heo new)
theorem Inv.pins_of {pins' : List (Addr × Obj)} (I : Inv X pins σ H s) (h : ∀ p ∈ pins', s.heap.get? p.1 = some p.2 ∧ H p.1 = none ∧ p.1 ≠ X.env.locals ∧ p.1 ∉ X.fs ∧ ∀ v, p.2.data ≠ .cell v) : Inv X pins' σ H s :=
  ⟨I.ok, I.os, I.bare, I.base, I.loc, I.cell, I.free, I.freeC, fun p hp => (List.mem_append.mp hp).elim (fun z => I.pin p (List.mem_append_left _ z)) (h p), I.hok, I.len⟩

theorem nodup_ix {N : List Str} (hN : N.Nodup) {i j : Nat} {x : Str} (a : N[i]? = some x) (b : N[j]? = some x) : i = j := by
  obtain ⟨h1, e1⟩ := List.getElem?_eq_some_iff.mp a
  obtain ⟨h2, e2⟩ := List.getElem?_eq_some_iff.mp b
  exact (List.getElem_inj hN).mp (e1.trans e2.symm)

/-- a name is stored; what changed -/
theorem store_ok2 {M : Model} {A : Around} {E : Value → Shared → Prop} {i : Nat} {x : Str} {v : V} {u : Value} {Q : Unit → Shared → Prop} (I : Inv X pins σ H s) (hN : X.N.Nodup) (hi : X.N[i]? = some x) (hx : Loc X.env.scope x) (r : RelV v u)
    (h : ∀ s', Inv X pins (σ.set i (some v)) H s' → (∃ a, Heap.SameBut a s.heap s'.heap ∧ (a = X.env.locals ∨ X.env.cells.lookup x = some a)) → Q () s') (hf : X.fn x = true ∨ X.env.scope.names.lookup x = some .local := by first | exact .inl rfl | exact .inr rfl | assumption) : wpAny M A (storeName X.env x u) Q E s := by
  obtain ⟨m, hn, hl⟩ := id I.loc
  have hcls : (X.env.scope.kind == .class || (X.env.scope.kind == .module && X.env.locals != X.env.globals)) = false := by rw [I.ok.kind]; rfl
  have hiσ : i < σ.length := by rw [I.len]; exact (List.getElem?_eq_some_iff.mp hi).1
  have cne := I.cne
  have tracked : ∀ {a : Addr} {h' : Heap}, (∃ o, s.heap.get? a = some o ∧ H a = none) → Heap.SameBut a s.heap h' → HOk X.prog X.w H h' := fun {a h'} ha hs b ob e => by
    obtain ⟨_, _, hfree⟩ := ha
    refine (I.hok b ob e).stay (fun c w' hc q => (hs.2 c ?_).trans q) (fun _ q => q) fun _ _ q => q
    rintro rfl
    rcases hc with rfl | hc
    · rw [hfree] at e; cases e
    · rw [hfree] at hc; cases hc
  rcases hx with hk | hk
  · refine wpAny_storeName_local hk hn (fun h' hn' hs => ?_) hcls
    obtain ⟨oL, _, _, hoL, _⟩ := id hn
    refine h _ ⟨I.ok, I.os, I.bare, ⟨fun b o e n hb hx => ?_, fun b o e n hb hx => ?_, I.base.free, fun b o e hx => ?_, I.base.tups, I.base.frzs, I.base.tbls⟩, ⟨_, hn', fun j y v' e1 e2 e3 => ?_⟩, fun y c e => ?_, I.free, I.freeC, fun p hp => ?_, tracked ⟨oL, hoL, I.free⟩ hs, by simpa using I.len⟩ ⟨_, hs, .inl rfl⟩
    · exact (hs.2 b (Nat.ne_of_lt (Nat.lt_of_lt_of_le (Heap.lt_size e) I.ok.above))).trans (I.base.keep b o e n hb hx)
    · obtain ⟨sl, e1⟩ := I.base.slot b o e n hb hx
      exact ⟨sl, (hs.2 b (Nat.ne_of_lt (Nat.lt_of_lt_of_le (Heap.lt_size e) I.ok.above))).trans e1⟩
    · obtain ⟨o', e1⟩ := I.base.there b o e hx
      exact ⟨o', (hs.2 b (Nat.ne_of_lt (Nat.lt_of_lt_of_le (Heap.lt_size e) I.ok.above))).trans e1⟩
    · by_cases hj : j = i
      · subst hj
        rw [hi] at e1; cases e1
        rw [List.getElem?_set_self hiσ] at e2
        cases e2
        exact ⟨u, r, .inl ⟨hk, by simp⟩⟩
      · rw [List.getElem?_set_ne (Ne.symm hj)] at e2
        obtain ⟨u', r', q⟩ := hl j y v' e1 e2 e3
        refine ⟨u', r', ?_⟩
        rcases q with ⟨k, e⟩ | ⟨k, c, e, z⟩
        · refine .inl ⟨k, ?_⟩
          have : y ≠ x := fun e => hj (nodup_ix hN e1 (e ▸ hi))
          simp [this, e]
        · exact .inr ⟨k, c, e, z.sameBut hs (cne y c e)⟩
    · obtain ⟨w', z⟩ := I.cell y c e
      exact ⟨w', z.sameBut hs (cne y c e)⟩
    · obtain ⟨e, n, ne, nf, d⟩ := I.pin p hp
      exact ⟨(hs.2 p.1 ne).trans e, n, ne, nf, d⟩
  · have hfn : X.fn x = true := by
      rcases hf with z | z
      · exact z
      · rw [z] at hk; cases hk
    obtain ⟨c, hc⟩ := I.ok.has x (.inl hk)
    obtain ⟨w', z⟩ := I.cell x c hc
    refine wpAny_storeName_cell I.ok.kind hk hc z (fun h' hc' hs => ?_)
    obtain ⟨oc, hoc, hocd⟩ := id z
    refine h { s with heap := h' } ⟨I.ok, I.os, I.bare, ⟨fun b o e n hb hx => ?_, fun b o e n hb hx => ?_, I.base.free, fun b o e hx => ?_, I.base.tups, I.base.frzs, I.base.tbls⟩, ⟨m, hn.sameBut hs (Ne.symm (cne x c hc)), fun j y v' e1 e2 e3 => ?_⟩, fun y c' e => ?_, I.free, I.freeC, fun p hp => ?_, tracked ⟨oc, hoc, I.freeC x c hc⟩ hs, by simpa using I.len⟩ ⟨c, hs, .inr hc⟩
    · exact (hs.2 b (Nat.ne_of_lt (Nat.lt_of_lt_of_le (Heap.lt_size e) (I.ok.cab x c hfn hc)))).trans (I.base.keep b o e n hb hx)
    · obtain ⟨sl, e1⟩ := I.base.slot b o e n hb hx
      exact ⟨sl, (hs.2 b (Nat.ne_of_lt (Nat.lt_of_lt_of_le (Heap.lt_size e) (I.ok.cab x c hfn hc)))).trans e1⟩
    · obtain ⟨o', e1⟩ := I.base.there b o e hx
      exact ⟨o', (hs.2 b (Nat.ne_of_lt (Nat.lt_of_lt_of_le (Heap.lt_size e) (I.ok.cab x c hfn hc)))).trans e1⟩
    · by_cases hj : j = i
      · subst hj
        rw [hi] at e1; cases e1
        rw [List.getElem?_set_self hiσ] at e2
        cases e2
        exact ⟨u, r, .inr ⟨.inl hk, c, hc, hc'⟩⟩
      · rw [List.getElem?_set_ne (Ne.symm hj)] at e2
        obtain ⟨u', r', q⟩ := hl j y v' e1 e2 e3
        refine ⟨u', r', ?_⟩
        rcases q with q | ⟨k, c', e, z'⟩
        · exact .inl q
        · refine .inr ⟨k, c', e, z'.sameBut hs ?_⟩
          rintro rfl
          exact hj (nodup_ix hN e1 (I.ok.inj _ _ _ e hc ▸ hi))
    · by_cases hcc : c' = c
      · subst hcc; exact ⟨_, hc'⟩
      · obtain ⟨w2, z2⟩ := I.cell y c' e
        exact ⟨w2, z2.sameBut hs hcc⟩
    · obtain ⟨e, n, ne, nf, d⟩ := I.pin p hp
      refine ⟨(hs.2 p.1 ?_).trans e, n, ne, nf, d⟩
      intro q
      rw [q, hoc] at e
      have q' : oc = p.2 := Option.some.inj e
      exact d w' (by rw [← q']; exact hocd)
theorem store_ok {M : Model} {A : Around} {E : Value → Shared → Prop} {i : Nat} {x : Str} {v : V} {u : Value} {Q : Unit → Shared → Prop} (I : Inv X pins σ H s) (hN : X.N.Nodup) (hi : X.N[i]? = some x) (hx : Loc X.env.scope x) (r : RelV v u)
    (h : ∀ s', Inv X pins (σ.set i (some v)) H s' → Q () s') (hf : X.fn x = true ∨ X.env.scope.names.lookup x = some .local := by first | exact .inl rfl | exact .inr rfl | assumption) : wpAny M A (storeName X.env x u) Q E s :=
  store_ok2 I hN hi hx r (fun s' I' _ => h s' I') hf
/-- behind a call or a block, the state as it is -/
theorem Inv.call' {s' : Shared} {ch : List Addr} (I : Inv X pins σ H s) (ho : s'.os = s.os) (u : Un (frs X.stack) ch H H' s.heap s'.heap) (hok : HOk X.prog X.w H' s'.heap) (hg : AllBare s'.gens)
    (hch : ∀ b ∈ ch, (b ∈ X.ex ∨ X.s₀.heap.objs.size ≤ b) ∧ b ≠ X.env.locals ∧ (∀ x c, X.env.cells.lookup x = some c → c ≠ b) ∧ ∀ p ∈ X.pn ++ pins, p.1 ≠ b) : Inv X pins σ H' s' := by
  obtain ⟨h', g', d', t', o'⟩ := s'
  have e : o' = s.os := ho
  subst e
  exact I.call (g' := g') (t' := t') (d' := d') u hok hg hch
end

/-! ### the judgements -/
/-- an exception: its class, its own dict's address (where it has one), the abstract heap behind it -/
abbrev XK := Value → Option Addr → Hp → Prop
abbrev St := List (Option V)
abbrev VK := V → Hp → Prop
/-- an expression's reading; a test's; an argument list's -/
abbrev TE := St → Hp → VK → Prop
abbrev TT := St → Hp → (Bool → Hp → Prop) → Prop
abbrev TA := St → Hp → (List V → Hp → Prop) → Prop
/-- what is wanted behind a statement -/
structure Ends where
  nx : St → Hp → Prop
  rt : VK
  bk : St → Hp → Prop := fun _ _ => False
  ct : St → Hp → Prop := fun _ _ => False
abbrev TS := Ends → St → Hp → Prop

def EP (X : Cx) (pins : List (Addr × Obj)) (σ : St) (Q : VK) (u : Value) (s' : Shared) : Prop := ∃ v H', Inv X pins σ H' s' ∧ RelV v u ∧ Q v H'
def TP (X : Cx) (pins : List (Addr × Obj)) (σ : St) (Q : Bool → Hp → Prop) (b : Bool) (s' : Shared) : Prop := ∃ H', Inv X pins σ H' s' ∧ Q b H'
def AP (X : Cx) (pins : List (Addr × Obj)) (σ : St) (Q : List V → Hp → Prop) (us : List Value) (s' : Shared) : Prop := ∃ vs H', Inv X pins σ H' s' ∧ Vals vs us ∧ Q vs H'
def SP (X : Cx) (pins : List (Addr × Obj)) (D : Ends) (f : Flow) (s' : Shared) : Prop :=
  match f with
  | .next => ∃ σ' H', Inv X pins σ' H' s' ∧ D.nx σ' H'
  | .brk => ∃ σ' H', Inv X pins σ' H' s' ∧ D.bk σ' H'
  | .cont => ∃ σ' H', Inv X pins σ' H' s' ∧ D.ct σ' H'
  | .ret u => ∃ v σ' H', Inv X pins σ' H' s' ∧ RelV v u ∧ D.rt v H'

def PE (X : Cx) (e : Expr) (t : TE) : Prop :=
  ∀ (pins : List (Addr × Obj)) (s : Shared) (σ : St) (H : Hp) (Q : VK), Inv X pins σ H s → t σ H Q → wpAny (model X.prog X.w) X.A (eval e X.env) (EP X pins σ Q) X.xe s
def PT (X : Cx) (e : Expr) (t : TT) : Prop :=
  ∀ (pins : List (Addr × Obj)) (s : Shared) (σ : St) (H : Hp) (Q : Bool → Hp → Prop), Inv X pins σ H s → t σ H Q → wpAny (model X.prog X.w) X.A (isTrue e X.env (eval e X.env)) (TP X pins σ Q) X.xe s
/-- a test whatever its 'whole' is (and, or) -/
def PW (X : Cx) (e : Expr) (t : TT) : Prop :=
  ∀ (whole : Sem Value) (pins : List (Addr × Obj)) (s : Shared) (σ : St) (H : Hp) (Q : Bool → Hp → Prop), Inv X pins σ H s → t σ H Q → wpAny (model X.prog X.w) X.A (isTrue e X.env whole) (TP X pins σ Q) X.xe s
theorem PW.pt {X : Cx} {e : Expr} {t : TT} (h : PW X e t) : PT X e t := h _
/-- an argument list (no star), from the left -/
def PA (X : Cx) (es : List Expr) (t : TA) : Prop :=
  ∀ (pos : Pos) (pins : List (Addr × Obj)) (s : Shared) (σ : St) (H : Hp) (Q : List V → Hp → Prop), Inv X pins σ H s → t σ H Q → wpAny (model X.prog X.w) X.A (spliced (backTo pos (starEach es X.env))) (AP X pins σ Q) X.xe s
def PS (X : Cx) (st : Stmt) (t : TS) : Prop :=
  ∀ (pins : List (Addr × Obj)) (s : Shared) (σ : St) (H : Hp) (D : Ends), Inv X pins σ H s → t D σ H → wpAny (model X.prog X.w) X.A (exec st X.env) (SP X pins D) X.xe s
def PSs (X : Cx) (st : List Stmt) (t : TS) : Prop :=
  ∀ (pins : List (Addr × Obj)) (s : Shared) (σ : St) (H : Hp) (D : Ends), Inv X pins σ H s → t D σ H → wpAny (model X.prog X.w) X.A (execs st X.env) (SP X pins D) X.xe s
/-- weaken the end -/
theorem thn {α : Type} {t : Sem α} {Q Q' : α → Shared → Prop} {M : Model} {A : Around} {E : Value → Shared → Prop} {s : Shared} (h : wpAny M A t Q E s) (hQ : ∀ a s, Q a s → Q' a s) : wpAny M A t Q' E s := wpAny_mono h hQ fun _ _ x => x
end L2

namespace L2
open PySem PySem.Spec PyProof.Rows
section
variable {X : Cx}

/-! ### names and constants -/
def tVar (i : Nat) : TE := fun σ H Q => ∃ v, σ[i]? = some (some v) ∧ Q v H
def tC (v : V) : TE := fun _ H Q => Q v H
theorem pe_var {i : Nat} {x : Str} {pos : Pos} (hN : X.N[i]? = some x) (hv : Vis X.env.scope x) (hd : (x == ("__debug__" : Str)) = false := by decide) (hcd : (x == ("__classdict__" : Str)) = false := by decide) : PE X (.Name x pos) (tVar i) := by
  intro pins s σ H Q I h
  obtain ⟨v, e, h⟩ := h
  obtain ⟨m, hn, hl⟩ := I.loc
  obtain ⟨u, r, l⟩ := hl i x v hN e hv
  have fin : EP X pins σ Q u s := ⟨v, H, I, r, h⟩
  rcases l with ⟨hk, hm⟩ | ⟨hk, c, hc, hcell⟩
  · exact wpAny_Name (wpAny_loadName_local I.ok.kind hk hn hm fin) hd
  · rcases hk with hk | hk
    · exact wpAny_Name (wpAny_loadName_cell I.ok.kind hk hc hcell fin) hd
    · exact wpAny_Name (wpAny_loadName_free I.ok.kind hk hc hcell fin hcd) hd
theorem pe_int {i j pos} : PE X (.Constant (.int i) j pos) (tC (.int i)) := fun _ _ _ H _ I h => wpAny_Constant_int ⟨.int i, H, I.tok _, ⟨_, rfl⟩, h⟩
theorem pe_bl {b j pos} : PE X (.Constant (.bool b) j pos) (tC (.bl b)) := fun _ _ _ H _ I h => Constant_bool ⟨.bl b, H, I, rfl, h⟩
theorem pe_non {j pos} : PE X (.Constant .none j pos) (tC .non) := fun _ _ _ H _ I h => Constant_none ⟨.non, H, I, rfl, h⟩
theorem pe_str {x j pos} : PE X (.Constant (.str x) j pos) (tC (.str x)) := fun _ _ _ H _ I h => Calls.Constant_str ⟨.str x, H, I.tok _, ⟨_, rfl⟩, h⟩

/-- a global name of the def -/
def Gl (X : Cx) (x : Str) : Prop := X.env.kindOf x = some .globalImplicit
theorem ld_glob {E : Value → Shared → Prop} {pins : List (Addr × Obj)} {s : Shared} {σ : St} {H : Hp} {x : Str} {u : Value} {pos : Pos} {Q : Value → Shared → Prop} (I : Inv X pins σ H s) (hg : Gl X x) (hm : X.mg x = some u) (h : Q u s)
    (hd : (x == ("__debug__" : Str)) = false := by decide) : wpAny (model X.prog X.w) X.A (eval (.Name x pos) X.env) Q E s :=
  Calls.Name_function_global I.ok.kind hg (Calls.loadGlobal_global (by rw [I.ok.glob]; exact I.mod.glob.keeps I.bk) hm h) hd
theorem ld_blt {E : Value → Shared → Prop} {pins : List (Addr × Obj)} {s : Shared} {σ : St} {H : Hp} {x : Str} {u : Value} {pos : Pos} {Q : Value → Shared → Prop} (I : Inv X pins σ H s) (hg : Gl X x) (hm : X.mg x = none) (hv : bootBuiltins x = some u) (h : Q u s)
    (hn : x ≠ "__name__" := by decide) (hd : (x == ("__debug__" : Str)) = false := by decide) : wpAny (model X.prog X.w) X.A (eval (.Name x pos) X.env) Q E s := by
  obtain ⟨mb, h1, h2⟩ := I.mod.blt
  exact Calls.Name_function_global I.ok.kind hg (Calls.loadGlobal_builtin (by rw [I.ok.glob]; exact I.mod.glob.keeps I.bk) hm (by rw [I.ok.blt]; exact h1.keeps I.bk) ((h2 x hn).trans hv) h) hd
/-- a module's constant, a class, a function, as a value -/
theorem pe_glob {x : Str} {v : V} {u : Value} {pos : Pos} (hg : Gl X x) (hm : X.mg x = some u) (r : RelV v u) (hd : (x == ("__debug__" : Str)) = false := by decide) : PE X (.Name x pos) (tC v) :=
  fun _ _ _ H _ I h => ld_glob I hg hm ⟨v, H, I, r, h⟩ hd
theorem pe_bltn {x : Str} {v : V} {u : Value} {pos : Pos} (hg : Gl X x) (hm : X.mg x = none) (hv : bootBuiltins x = some u) (r : RelV v u) (hn : x ≠ "__name__" := by decide) (hd : (x == ("__debug__" : Str)) = false := by decide) : PE X (.Name x pos) (tC v) :=
  fun _ _ _ H _ I h => ld_blt I hg hm hv ⟨v, H, I, r, h⟩ hn hd

/-! ### arithmetic -/
/-- two ints -/
def t2I (ta tb : TE) (k : Int → Int → Hp → Prop) : St → Hp → Prop := fun σ H => ta σ H fun x H1 => tb σ H1 fun y H2 => ∃ i j, x = .int i ∧ y = .int j ∧ k i j H2
def tAdd (ta tb : TE) : TE := fun σ H Q => t2I ta tb (fun i j H2 => Q (.int (i + j)) H2) σ H
def tSub (ta tb : TE) : TE := fun σ H Q => t2I ta tb (fun i j H2 => Q (.int (i - j)) H2) σ H
/-- the left factor below 2^64 -/
def tMul (ta tb : TE) : TE := fun σ H Q => t2I ta tb (fun i j H2 => (-(2 ^ 64) < i ∧ i < 2 ^ 64) ∧ Q (.int (i * j)) H2) σ H
variable {a b : Expr} {ta tb : TE} {pos : Pos}
/-! ### comparisons -/
def PC (X : Cx) (op : CmpOp) (a b : Expr) (t : TE) : Prop :=
  ∀ (pins : List (Addr × Obj)) (s : Shared) (σ : St) (H : Hp) (Q : VK), Inv X pins σ H s → t σ H Q →
    wpAny (model X.prog X.w) X.A (eval a X.env) (fun v s₁ => wpAny (model X.prog X.w) X.A (eval b X.env) (fun u s₂ => wpAny (model X.prog X.w) X.A (compareOp op v u) (EP X pins σ Q) X.xe s₂) X.xe s₁) X.xe s
def tCmp (p : Int → Int → Bool) (ta tb : TE) : TE := fun σ H Q => t2I ta tb (fun i j H2 => Q (.bl (p i j)) H2) σ H
abbrev tLt : TE → TE → TE := tCmp fun i j => decide (i < j)
abbrev tLe : TE → TE → TE := tCmp fun i j => decide (i ≤ j)
abbrev tGt : TE → TE → TE := tCmp fun i j => decide (j < i)
abbrev tGe : TE → TE → TE := tCmp fun i j => decide (j ≤ i)
abbrev tEqI : TE → TE → TE := tCmp fun i j => decide (i = j)
abbrev tNeI : TE → TE → TE := tCmp fun i j => !decide (i = j)
/-- is None -/
def tIsN (ta : TE) : TE := fun σ H Q => ta σ H fun x H1 => Q (.bl (decide (x = .non))) H1
def tNotN (ta : TE) : TE := fun σ H Q => ta σ H fun x H1 => Q (.bl (!decide (x = .non))) H1
/-- a comparison as a value, as a test -/
def tB (t : TE) : TT := fun σ H Q => t σ H fun x H1 => ∃ c, x = .bl c ∧ Q c H1
/-- an expression whose value is a bool, as a test -/
theorem pt_val {e : Expr} {t : TE} (h : PE X e t) (he : ∀ whole, isTrue e X.env whole = (do let v ← whole; standAt e.pos; holding [v] (truthy v)) := by intro _; rfl) : PT X e (tB t) := by
  intro pins s σ H Q I hw
  refine isTrue_plain (thn (h pins s σ H _ I hw) fun v s1 ⟨x, H1, I1, r1, q1⟩ => ?_) (he _)
  obtain ⟨d, rfl, q⟩ := q1
  cases r1
  exact wpAny_truthy_bool ⟨H1, I1, q⟩

/-! ### and, or, not -/
variable {tA tB' : TT} {rest : List Expr}
def tAnd (t u : TT) : TT := fun σ H Q => t σ H fun c H1 => if c = true then u σ H1 Q else Q false H1
def tOr (t u : TT) : TT := fun σ H Q => t σ H fun c H1 => if c = true then Q true H1 else u σ H1 Q
def tNot (t : TT) : TT := fun σ H Q => t σ H fun c H1 => Q (!c) H1
theorem pw_and1 (ha : PT X a tA) : PW X (.BoolOp .And [a] pos) tA := by
  intro wh pins s σ H Q I h
  refine isTrue_and (thn (ha pins s σ H Q I h) fun c s1 e => ?_)
  cases c with
  | true => exact isTrue_and_nil e
  | false => exact e
theorem pw_or1 (ha : PT X a tA) : PW X (.BoolOp .Or [a] pos) tA := by
  intro wh pins s σ H Q I h
  refine isTrue_or (thn (ha pins s σ H Q I h) fun c s1 e => ?_)
  cases c with
  | false => exact isTrue_or_nil e
  | true => exact e
theorem pw_and (ha : PT X a tA) (hb : PW X (.BoolOp .And (b :: rest) pos) tB') : PW X (.BoolOp .And (a :: b :: rest) pos) (tAnd tA tB') := by
  intro wh pins s σ H Q I h
  refine isTrue_and (thn (ha pins s σ H _ I h) fun c s1 ⟨H1, I1, q1⟩ => ?_)
  cases c with
  | true => exact hb wh pins s1 σ H1 Q I1 q1
  | false => exact ⟨H1, I1, q1⟩
theorem pw_or (ha : PT X a tA) (hb : PW X (.BoolOp .Or (b :: rest) pos) tB') : PW X (.BoolOp .Or (a :: b :: rest) pos) (tOr tA tB') := by
  intro wh pins s σ H Q I h
  refine isTrue_or (thn (ha pins s σ H _ I h) fun c s1 ⟨H1, I1, q1⟩ => ?_)
  cases c with
  | true => exact ⟨H1, I1, q1⟩
  | false => exact hb wh pins s1 σ H1 Q I1 q1
theorem pt_not (ha : PT X a tA) : PT X (.UnaryOp .Not a pos) (tNot tA) := by
  intro pins s σ H Q I h
  exact isTrue_not (ha pins s σ H (fun c H1 => Q (!c) H1) I h)
/-- .. as values (bools) -/
def tAndV (ta tb : TE) : TE := fun σ H Q => ta σ H fun x H1 => ∃ c, x = .bl c ∧ if c = true then tb σ H1 Q else Q (.bl false) H1
def tOrV (ta tb : TE) : TE := fun σ H Q => ta σ H fun x H1 => ∃ c, x = .bl c ∧ if c = true then Q (.bl true) H1 else tb σ H1 Q
def tNotV (ta : TE) : TE := fun σ H Q => ta σ H fun x H1 => ∃ c, x = .bl c ∧ Q (.bl (!c)) H1
theorem pe_one {op} {t : TE} (h : PE X a t) : PE X (.BoolOp op [a] pos) t := fun pins s σ H Q I hw => BoolOp_one (h pins s σ H Q I hw)
theorem pe_and (ha : PE X a ta) (hb : PE X (.BoolOp .And (b :: rest) pos) tb) : PE X (.BoolOp .And (a :: b :: rest) pos) (tAndV ta tb) := by
  intro pins s σ H Q I h
  refine BoolOp_and (thn (ha pins s σ H _ I h) fun v s1 ⟨x, H1, I1, r1, q1⟩ => ?_)
  obtain ⟨c, rfl, q1⟩ := q1
  cases r1
  refine wpAny_truthy_bool ?_
  cases c with
  | true => exact hb pins s1 σ H1 Q I1 q1
  | false => exact ⟨.bl false, H1, I1, rfl, q1⟩
theorem pe_not (ha : PE X a ta) : PE X (.UnaryOp .Not a pos) (tNotV ta) := by
  intro pins s σ H Q I h
  refine UnaryOp_ (thn (ha pins s σ H _ I h) fun v s1 ⟨x, H1, I1, r1, q1⟩ => ?_)
  obtain ⟨c, rfl, q1⟩ := q1
  cases r1
  exact not_of (wpAny_truthy_bool ⟨.bl (!c), H1, I1, rfl, q1⟩)
/-- a if t else b -/
def tIf (t : TT) (ta tb : TE) : TE := fun σ H Q => t σ H fun c H1 => if c = true then ta σ H1 Q else tb σ H1 Q
theorem pe_ifExp {c : Expr} (hc : PT X c tA) (ha : PE X a ta) (hb : PE X b tb) : PE X (.IfExp c a b pos) (tIf tA ta tb) := by
  intro pins s σ H Q I h
  refine wpAny_IfExp (thn (hc pins s σ H _ I h) fun d s1 ⟨H1, I1, q1⟩ => ?_)
  cases d with
  | true => exact ha pins s1 σ H1 Q I1 q1
  | false => exact hb pins s1 σ H1 Q I1 q1
end
end L2

namespace L2
open PySem PySem.Spec PyProof.Rows

/-! ### a list, a tuple that is read: tracked, frozen, or an object of the module -/
def SqL (K : PySem.W.Frag) (H : Hp) (a : Addr) (xs : List V) : Prop :=
  Rd H a (.lst xs) ∨
    ∃ (o : Obj) (its : Array Value) (n : Nat), K.lookup a = some o ∧ o.cls = .type "list" ∧ o.dict = none ∧ o.data = .seq its n ∧ its.size ≤ sizeLine ∧ Vals xs its.toList
def SqT (K : PySem.W.Frag) (H : Hp) (a : Addr) (xs : List V) : Prop :=
  Rd H a (.tup xs) ∨
    ∃ (o : Obj) (its : Array Value) (n : Nat), K.lookup a = some o ∧ o.cls = .type "tuple" ∧ o.data = .seq its n ∧ its.size ≤ sizeLine ∧ Vals xs its.toList
def absV : Value → Option V
  | .none => some .non
  | .bool b => some (.bl b)
  | .int i _ => some (.int i)
  | .str x _ => some (.str x)
  | .bytes b _ => some (.byt b)
  | .float b _ => some (.flt b)
  | .ref a => some (.ref a)
  | .type n => some (.ty n)
  | _ => none
theorem RelV.abs {x : V} {u : Value} (r : RelV x u) : absV u = some x := by
  cases x with
  | non => cases r; rfl
  | bl _ => cases r; rfl
  | int _ => obtain ⟨t, rfl⟩ := r; rfl
  | str _ => obtain ⟨t, rfl⟩ := r; rfl
  | byt _ => obtain ⟨t, rfl⟩ := r; rfl
  | flt _ => obtain ⟨t, rfl⟩ := r; rfl
  | ref _ => cases r; rfl
  | ty _ => cases r; rfl
theorem RelV.inj {x y : V} {u : Value} (r : RelV x u) (q : RelV y u) : x = y := Option.some.inj (r.abs.symm.trans q.abs)
theorem Vals.inj : ∀ {xs ys : List V} {us : List Value}, Vals xs us → Vals ys us → xs = ys
  | _, _, _, .nil, .nil => rfl
  | _, _, _, .cons r t, .cons r' t' => by rw [r.inj r', Vals.inj t t']
section
variable {X : Cx} {pins : List (Addr × Obj)} {σ : St} {H : Hp} {s : Shared} {a : Addr} {xs ys : List V}
theorem SqL.of {K : PySem.W.Frag} (h : H a = some (.lst xs)) : SqL K H a xs := .inl (.inl h)
theorem SqT.of {K : PySem.W.Frag} (h : H a = some (.tup xs)) : SqT K H a xs := .inl (.inl h)
theorem Inv.list (I : Inv X pins σ H s) (h : SqL X.K H a xs) : ∃ its : List Value, Vals xs its ∧ PlainL s.heap a its.toArray ∧ xs.length ≤ sizeLine := by
  rcases h with h | ⟨o, its, n, hk, hc, hd, hs, hz, r⟩
  · obtain ⟨z, its, n, r, e⟩ := h.ok I.hok
    exact ⟨its, r, ⟨_, n, e, rfl, rfl, rfl⟩, z⟩
  · refine ⟨its.toList, r, ⟨o, n, I.kIn a o hk, hc, hd, by simpa using hs⟩, ?_⟩
    have e := r.length
    simp only [Array.length_toList] at e
    omega
theorem Inv.tuple (I : Inv X pins σ H s) (h : SqT X.K H a xs) : ∃ its : List Value, Vals xs its ∧ IsTup s.heap a its.toArray ∧ xs.length ≤ sizeLine := by
  rcases h with h | ⟨o, its, n, hk, hc, hs, hz, r⟩
  · obtain ⟨z, its, r, p⟩ := h.ok I.hok
    exact ⟨its, r, p, z⟩
  · refine ⟨its.toList, r, ⟨o, I.kIn a o hk, hc, n, by simpa using hs⟩, ?_⟩
    have e := r.length
    simp only [Array.length_toList] at e
    omega
theorem Inv.list_inj (I : Inv X pins σ H s) (h : SqL X.K H a xs) (h' : SqL X.K H a ys) : xs = ys := by
  obtain ⟨its, r, ⟨o, n, e, _, _, d⟩, _⟩ := I.list h
  obtain ⟨its', r', ⟨o', n', e', _, _, d'⟩, _⟩ := I.list h'
  rw [e] at e'; cases e'
  rw [d] at d'
  injection d' with d1 _
  have : its = its' := by simpa using congrArg Array.toList d1
  subst this
  exact r.inj r'
end

/-! ### another wish about exceptions -/
abbrev Cx.wish (X : Cx) (E : Value → Shared → Prop) : Cx := { X with xe := E }
/-- no exception leaves -/
abbrev Cx.nox (X : Cx) : Cx := X.wish fun _ _ => False
theorem Cx.Ok.wish {X : Cx} (ok : X.Ok) (E : Value → Shared → Prop) : (X.wish E).Ok :=
  ⟨ok.mod, ok.kind, ok.glob, ok.blt, ok.above, ok.inj, ok.has, ok.cab, ok.hd, ok.frames, ok.stk, ok.exf, ok.bs, ok.bsz, ok.noex, ok.exfs, ok.funs, ok.frf⟩
theorem Cx.Ok.unwish {X : Cx} {E : Value → Shared → Prop} (ok : (X.wish E).Ok) : X.Ok :=
  ⟨ok.mod, ok.kind, ok.glob, ok.blt, ok.above, ok.inj, ok.has, ok.cab, ok.hd, ok.frames, ok.stk, ok.exf, ok.bs, ok.bsz, ok.noex, ok.exfs, ok.funs, ok.frf⟩
section
variable {X : Cx} {pins : List (Addr × Obj)} {σ : St} {H : Hp} {s : Shared} {E : Value → Shared → Prop}
theorem Inv.wish (I : Inv X pins σ H s) (E : Value → Shared → Prop) : Inv (X.wish E) pins σ H s := ⟨I.ok.wish E, I.os, I.bare, I.base, I.loc, I.cell, I.free, I.freeC, I.pin, I.hok, I.len⟩
theorem Inv.unwish (I : Inv (X.wish E) pins σ H s) : Inv X pins σ H s := ⟨I.ok.unwish, I.os, I.bare, I.base, I.loc, I.cell, I.free, I.freeC, I.pin, I.hok, I.len⟩
theorem SP.unwish {D : Ends} {f : Flow} {s' : Shared} (h : SP (X.wish E) pins D f s') : SP X pins D f s' := by
  cases f with
  | next => obtain ⟨σ', H', I, q⟩ := h; exact ⟨σ', H', I.unwish, q⟩
  | brk => obtain ⟨σ', H', I, q⟩ := h; exact ⟨σ', H', I.unwish, q⟩
  | cont => obtain ⟨σ', H', I, q⟩ := h; exact ⟨σ', H', I.unwish, q⟩
  | ret u => obtain ⟨v, σ', H', I, r, q⟩ := h; exact ⟨v, σ', H', I.unwish, r, q⟩
theorem PT.nox {e : Expr} {t : TT} (h : PT X.nox e t) : PT X e t := fun pins s σ H Q I hw =>
  wpAny_mono (h pins s σ H Q (I.wish _) hw) (fun _ _ ⟨H', I', q⟩ => ⟨H', I'.unwish, q⟩) fun _ _ z => False.elim z
theorem PSs.nox {st : List Stmt} {t : TS} (h : PSs X.nox st t) : PSs X st t := fun pins s σ H D I hw =>
  wpAny_mono (h pins s σ H D (I.wish _) hw) (fun _ _ q => q.unwish) fun _ _ z => False.elim z
end

/-! ### blocks and small statements -/
section
variable {X : Cx} {st : Stmt} {rest : List Stmt} {t u : TS} {e : Expr} {te : TE} {pos : Pos}
def tNext : TS := fun D σ H => D.nx σ H
def tSeq (t u : TS) : TS := fun D σ H => t { D with nx := u D } σ H
theorem pss_nil : PSs X [] tNext := fun _ _ σ H _ I h => wpAny_execs_nil ⟨σ, H, I, h⟩
theorem pss_cons (h1 : PS X st t) (h2 : PSs X rest u) : PSs X (st :: rest) (tSeq t u) := by
  intro pins s σ H D I h
  refine wpAny_execs_cons (thn (h1 pins s σ H { D with nx := u D } I h) fun f s1 q => ?_)
  cases f with
  | next =>
    obtain ⟨σ', H', I', q⟩ := q
    exact h2 pins s1 σ' H' D I' q
  | ret v => exact q
  | brk => exact q
  | cont => exact q
theorem pss_one (h1 : PS X st t) : PSs X [st] t := by
  intro pins s σ H D I h
  refine wpAny_execs_cons (thn (h1 pins s σ H D I h) fun f s1 q => ?_)
  cases f with
  | next => exact wpAny_execs_nil q
  | ret v => exact q
  | brk => exact q
  | cont => exact q
def tBreak : TS := fun D σ H => D.bk σ H
def tCont : TS := fun D σ H => D.ct σ H
/-- in a def's body nothing is shown -/
theorem Inv.quiet {pins : List (Addr × Obj)} {σ : St} {H : Hp} {s : Shared} (I : Inv X pins σ H s) : interactive X.env = false := by simp [interactive, I.ok.kind]
/-- an expression whose value is dropped -/
def tDrop (te : TE) : TS := fun D σ H => te σ H fun _ H1 => D.nx σ H1
theorem ps_expr (he : PE X e te) (hs : swapsWith e none pos.line X.env = pure false := by rfl) : PS X (.Expr e pos) (tDrop te) := by
  intro pins s σ H D I h
  exact wpAny_Expr_any (thn (he pins s σ H _ I h) fun v s1 ⟨x, H1, I1, r1, q1⟩ => ⟨σ, H1, I1, q1⟩) I.quiet hs
def tRet (te : TE) : TS := fun D σ H => te σ H D.rt
theorem ps_ret (he : PE X e te) : PS X (.Return (some e) pos) (tRet te) := by
  intro pins s σ H D I h
  exact wpAny_Return_some (thn (he pins s σ H _ I h) fun v s1 ⟨x, H1, I1, r1, q1⟩ => ⟨x, σ, H1, I1, r1, q1⟩)
def tRetN : TS := fun D _ H => D.rt .non H
def tIfS (c : TT) (t u : TS) : TS := fun D σ H => c σ H fun b H1 => if b = true then t D σ H1 else u D σ H1
theorem ps_if {c : Expr} {a b : List Stmt} {tc : TT} (hc : PT X c tc) (ha : PSs X a t) (hb : PSs X b u) : PS X (.If c a b pos) (tIfS tc t u) := by
  intro pins s σ H D I h
  refine wpAny_If (thn (hc pins s σ H _ I h) fun d s1 ⟨H1, I1, q1⟩ => ?_)
  cases d with
  | true => exact ha pins s1 σ H1 D I1 q1
  | false => exact hb pins s1 σ H1 D I1 q1
/-- code that the proof never comes to -/
def tNever : TS := fun _ _ _ => False
end

/-! ### targets -/
abbrev TG := V → St → Hp → (St → Hp → Prop) → Prop
abbrev TGs := List V → St → Hp → (St → Hp → Prop) → Prop
def PG (X : Cx) (target : Expr) (t : TG) : Prop :=
  ∀ (pins : List (Addr × Obj)) (s : Shared) (σ : St) (H : Hp) (v : V) (u : Value) (Q : St → Hp → Prop), Inv X pins σ H s → RelV v u → t v σ H Q →
    wpAny (model X.prog X.w) X.A (assign target X.env u) (fun _ s' => ∃ σ' H', Inv X pins σ' H' s' ∧ Q σ' H') X.xe s
/-- several targets, one after another -/
def PGs (X : Cx) (ts : List Expr) (t : TGs) : Prop :=
  ∀ (pins : List (Addr × Obj)) (s : Shared) (σ : St) (H : Hp) (vs : List V) (us : List Value) (Q : St → Hp → Prop), Inv X pins σ H s → Vals vs us → t vs σ H Q →
    wpAny (model X.prog X.w) X.A (assignInOrder ((assignEach ts X.env).map (·.2)) us) (fun _ s' => ∃ σ' H', Inv X pins σ' H' s' ∧ Q σ' H') X.xe s
/-- o[i] = v, by values -/
abbrev TSet := V → V → V → Hp → (Hp → Prop) → Prop
def PSet (X : Cx) (t : TSet) : Prop :=
  ∀ (pins : List (Addr × Obj)) (s : Shared) (σ : St) (H : Hp) (o i v : V) (ov iv u : Value) (Q : Hp → Prop), Inv X pins σ H s → RelV o ov → RelV i iv → RelV v u → t o i v H Q →
    wpAny (model X.prog X.w) X.A (setItem ov iv u) (fun _ s' => ∃ H', Inv X pins σ H' s' ∧ Q H') X.xe s
/-- a op= b, by values -/
abbrev TIp := V → V → Hp → VK → Prop
def PIp (X : Cx) (op : Operator) (t : TIp) : Prop :=
  ∀ (pins : List (Addr × Obj)) (s : Shared) (σ : St) (H : Hp) (x y : V) (v u : Value) (Q : VK), Inv X pins σ H s → RelV x v → RelV y u → t x y H Q →
    wpAny (model X.prog X.w) X.A (inplaceOp op v u) (EP X pins σ Q) X.xe s
section
variable {X : Cx} {pos : Pos}
def gName (i : Nat) : TG := fun v σ H Q => Q (σ.set i (some v)) H
theorem pg_name {i : Nat} {x : Str} (hN : X.N.Nodup) (hi : X.N[i]? = some x) (hx : Loc X.env.scope x) (hf : X.fn x = true ∨ X.env.scope.names.lookup x = some .local := by first | exact .inl rfl | exact .inr rfl | assumption) : PG X (.Name x pos) (gName i) := by
  intro pins s σ H v u Q I r h
  exact wpAny_assign_Name (store_ok I hN hi hx r (fun s' I' => ⟨_, H, I', h⟩) hf)
def gNil : TGs := fun vs σ H Q => vs = [] ∧ Q σ H
def gCons (t : TG) (u : TGs) : TGs := fun vs σ H Q => ∃ v r, vs = v :: r ∧ t v σ H fun σ' H' => u r σ' H' Q
theorem pgs_nil : PGs X [] gNil := by
  intro pins s σ H vs us Q I r h
  obtain ⟨e, h⟩ := h
  subst e
  cases r
  exact assignInOrder_nil ⟨σ, H, I, h⟩
theorem pgs_cons {e : Expr} {es : List Expr} {t : TG} {u : TGs} (h1 : PG X e t) (h2 : PGs X es u)
    (hs : (assignEach (e :: es) X.env).map (·.2) = assign e X.env :: (assignEach es X.env).map (·.2) := by rfl) : PGs X (e :: es) (gCons t u) := by
  intro pins s σ H vs us Q I r h
  obtain ⟨v, vr, e1, h⟩ := h
  subst e1
  cases r with
  | cons r rr =>
    rw [hs]
    refine assignInOrder_cons (thn (h1 pins s σ H _ _ _ I r h) fun _ s1 ⟨σ1, H1, I1, q1⟩ => ?_)
    exact h2 pins s1 σ1 H1 _ _ Q I1 rr q1
/-- (a, b, ..) = a tuple of that length -/
def gTup (K : PySem.W.Frag) (n : Nat) (t : TGs) : TG := fun v σ H Q => ∃ a xs, v = .ref a ∧ SqT K H a xs ∧ xs.length = n ∧ t xs σ H Q
theorem pg_tup {es : List Expr} {k : Nat} {t : TGs} {n : Nat} (hc : X.calm = true) (h : PGs X es t)
    (hn : (assignEach es X.env).length = n := by rfl) (hst : (assignEach es X.env).findIdx? (·.1) = none := by rfl) : PG X (.Tuple es k pos) (gTup X.K n t) := by
  intro pins s σ H v u Q I r hw
  obtain ⟨a, xs, e1, hq, hl, hw⟩ := hw
  subst e1
  cases r
  obtain ⟨its, rv, ht, hz⟩ := I.tuple hq
  refine assign_Tuple_tuple (I.ok.hd hc) ht (by simp [hn, ← hl, rv.length]) hst fun h' hx => ?_
  have I1 : Inv X pins σ H { s with heap := h' } := I.kept (t' := s.toks) fun b o e => hx b o (Nat.ne_of_lt (Heap.lt_size e)) e
  exact h pins _ σ H xs _ Q I1 (by simpa using rv) hw
/-- o[i] = .. -/
def gSub (to ti : TE) (t : TSet) : TG := fun v σ H Q => to σ H fun o H1 => ti σ H1 fun i H2 => t o i v H2 fun H3 => Q σ H3
theorem pg_sub {o i : Expr} {to ti : TE} {t : TSet} (ho : PE X o to) (hi : PE X i ti) (hs : PSet X t)
    (ha : ∀ v, assign (.Subscript o i pos) X.env v = (do
      let ov ← holding [v] (eval o X.env)
      let iv ← holding [v, ov] (eval i X.env)
      standAt pos
      holding [v, ov, iv] (setItem ov iv v)
      release [v, ov, iv] []) := by intro _; rfl) : PG X (.Subscript o i pos) (gSub to ti t) := by
  intro pins s σ H v u Q I r h
  rw [ha]
  refine wpAny_bind (wpAny_holding (thn (ho pins s σ H _ I h) fun ov s1 ⟨x, H1, I1, r1, q1⟩ => ?_))
  refine wpAny_bind (wpAny_holding (thn (hi pins s1 σ H1 _ I1 q1) fun iv s2 ⟨y, H2, I2, r2, q2⟩ => ?_))
  refine wpAny_bind (wpAny_standAt (wpAny_bind (wpAny_holding (thn (hs pins s2 σ H2 x y v ov iv u _ I2 r1 r2 r q2) fun _ s3 ⟨H3, I3, q3⟩ => ?_))))
  exact wpAny_release ⟨σ, H3, I3, q3⟩
/-- target = value -/
def tAsg (te : TE) (g : TG) : TS := fun D σ H => te σ H fun x H1 => g x σ H1 D.nx
theorem ps_asg {tg e : Expr} {te : TE} {g : TG} (he : PE X e te) (hg : PG X tg g) (hs : swapsWithSole [tg] e pos.line X.env = pure false := by rfl) (hw : swappedStores [tg] e X.env = pure none := by rfl)
    (h1 : (assignEach [tg] X.env).map (·.2) = [assign tg X.env] := by rfl) : PS X (.Assign [tg] e pos) (tAsg te g) := by
  intro pins s σ H D I h
  refine wpAny_Assign_stores (thn (he pins s σ H _ I h) fun v s1 ⟨x, H1, I1, r1, q1⟩ => ?_) hs hw
  rw [h1]
  exact thn (hg pins s1 σ H1 x v _ I1 r1 q1) fun _ s2 q => q
/-- name = value -/
theorem ps_set {i : Nat} {x : Str} {e : Expr} {te : TE} {pos' : Pos} (hN : X.N.Nodup) (hi : X.N[i]? = some x) (hx : Loc X.env.scope x) (he : PE X e te) (hs : swapsWith e (some (.Name x pos')) pos.line X.env = pure false := by rfl) (hf : X.fn x = true ∨ X.env.scope.names.lookup x = some .local := by first | exact .inl rfl | exact .inr rfl | assumption) :
    PS X (.Assign [.Name x pos'] e pos) (tAsg te (gName i)) := by
  intro pins s σ H D I h
  refine wpAny_Assign_Name (thn (he pins s σ H _ I h) fun v s1 ⟨y, H1, I1, r1, q1⟩ => ?_) hs
  exact store_ok I1 hN hi hx r1 (fun s2 I2 => ⟨_, H1, I2, q1⟩) hf
/-- a, b = x, y with plain local names: stored from the right; the pair itself is not tracked (the opening rows as in PyProof/Rows/TupAssign.lean:23) -/
def tPar (i j : Nat) (ta : TA) : TS := fun D σ H => ta σ H fun vs H1 => ∃ v w, vs = [v, w] ∧ D.nx ((σ.set i (some v)).set j (some w)) H1
/-- name op= e -/
def tAug (i : Nat) (te : TE) (ti : TIp) : TS := fun D σ H => ∃ x, σ[i]? = some (some x) ∧ te σ H fun y H1 => ti x y H1 fun z H2 => D.nx (σ.set i (some z)) H2
theorem ps_aug {i : Nat} {x : Str} {e : Expr} {te : TE} {op : Operator} {ti : TIp} {pos' : Pos} (hN : X.N.Nodup) (hi : X.N[i]? = some x) (hx : Loc X.env.scope x) (he : PE X e te) (ho : PIp X op ti) (hf : X.fn x = true ∨ X.env.scope.names.lookup x = some .local := by first | exact .inl rfl | exact .inr rfl | assumption) :
    PS X (.AugAssign (.Name x pos') op e pos) (tAug i te ti) := by
  intro pins s σ H D I h
  obtain ⟨v, e1, h⟩ := h
  obtain ⟨m, hn, hl⟩ := I.loc
  have vis : Vis X.env.scope x := by rcases hx with k | k; exact .inl k; exact .inr (.inl k)
  obtain ⟨u, r, l⟩ := hl i x v hi e1 vis
  refine wpAny_AugAssign_Name ?_
  have go : wpAny (model X.prog X.w) X.A (eval e X.env) (fun w s₂ => wpAny (model X.prog X.w) X.A (inplaceOp op u w) (fun r s₃ => wpAny (model X.prog X.w) X.A (storeName X.env x r) (fun _ => SP X pins D .next) X.xe s₃) X.xe s₂) X.xe s := by
    refine thn (he pins s σ H _ I h) fun w s1 ⟨y, H1, I1, r1, q1⟩ => ?_
    refine thn (ho pins s1 σ H1 v y u w _ I1 r r1 q1) fun z s2 ⟨zv, H2, I2, r2, q2⟩ => ?_
    exact store_ok I2 hN hi hx r2 (fun s3 I3 => ⟨_, H2, I3, q2⟩) hf
  rcases l with ⟨hk, hm⟩ | ⟨hk, c, hc, hcell⟩
  · exact wpAny_loadName_local I.ok.kind hk hn hm go
  · rcases hk with hk | hk
    · exact wpAny_loadName_cell I.ok.kind hk hc hcell go
    · rcases hx with k | k
      · have : X.env.scope.names.lookup x = some .free := hk
        rw [k] at this; cases this
      · have : X.env.scope.names.lookup x = some .free := hk
        rw [k] at this; cases this
/-- o[i] op= e -/
def tAugS (to ti te : TE) (tget : V → V → Hp → VK → Prop) (tip : TIp) (tset : TSet) : TS := fun D σ H => to σ H fun o H1 => ti σ H1 fun i H2 => tget o i H2 fun x H3 => te σ H3 fun y H4 => tip x y H4 fun z H5 => tset o i z H5 fun H6 => D.nx σ H6
/-- o[i], by values -/
def PGet (X : Cx) (t : V → V → Hp → VK → Prop) : Prop :=
  ∀ (pins : List (Addr × Obj)) (s : Shared) (σ : St) (H : Hp) (o i : V) (ov iv : Value) (Q : VK), Inv X pins σ H s → RelV o ov → RelV i iv → t o i H Q →
    wpAny (model X.prog X.w) X.A (getItem ov iv) (EP X pins σ Q) X.xe s
/-- ints -/
def ipI (f : Int → Int → Int) : TIp := fun x y H Q => ∃ i j, x = .int i ∧ y = .int j ∧ Q (.int (f i j)) H
theorem ip_add : PIp X .Add (ipI fun i j => i + j) := by
  intro pins s σ H x y v u Q I r1 r2 h
  obtain ⟨i, j, e1, e2, q⟩ := h
  subst e1; subst e2
  obtain ⟨t, rfl⟩ := r1
  obtain ⟨t', rfl⟩ := r2
  exact iadd_int ⟨.int _, H, I.tok _, ⟨_, rfl⟩, q⟩
theorem ip_sub : PIp X .Sub (ipI fun i j => i - j) := by
  intro pins s σ H x y v u Q I r1 r2 h
  obtain ⟨i, j, e1, e2, q⟩ := h
  subst e1; subst e2
  obtain ⟨t, rfl⟩ := r1
  obtain ⟨t', rfl⟩ := r2
  exact isub_int ⟨.int _, H, I.tok _, ⟨_, rfl⟩, q⟩
end

/-! ### while -/
section
variable {X : Cx} {pos : Pos}
/-- the invariant W with its measure -/
def tWhile (c : TT) (tb : TS) : TS := fun D σ H => ∃ W : Nat → St → Hp → Prop, (∃ m, W m σ H) ∧ ∀ m σ H, W m σ H →
  c σ H fun b H1 => if b = true then ∃ N : St → Hp → Prop, (∀ σ' H', N σ' H' → ∃ m', m' < m ∧ W m' σ' H') ∧ tb { D with nx := N, ct := N, bk := D.nx } σ H1 else D.nx σ H1
theorem ps_while {c : Expr} {body : List Stmt} {tc : TT} {tb : TS} (hp : PassesOwn (model X.prog X.w) X.A X.env X.xe) (hc : PT X c tc) (hb : PSs X body tb) : PS X (.While c body [] pos) (tWhile tc tb) := by
  intro pins s σ H D I h
  obtain ⟨W, ⟨m0, w0⟩, turn⟩ := h
  refine wpAny_While (codeAny_whileLoop (fun n s' => ∃ σ' H', Inv X pins σ' H' s' ∧ W n σ' H') ?_ m0 ⟨σ, H, I, w0⟩)
  rintro n s1 ⟨σ1, H1, I1, w1⟩
  refine wpAny_passesOwn hp (thn (hc pins s1 σ1 H1 _ I1 (turn n σ1 H1 w1)) fun b s2 ⟨H2, I2, q2⟩ => ?_)
  cases b with
  | true =>
    obtain ⟨N, hN, q2⟩ := q2
    rw [if_pos rfl]
    refine wpAny_passesOwn hp (thn (hb pins s2 σ1 H2 _ I2 q2) fun f s3 q3 => ?_)
    cases f with
    | next =>
      obtain ⟨σ3, H3, I3, n3⟩ := q3
      obtain ⟨m', hm, w3⟩ := hN σ3 H3 n3
      exact ⟨m', hm, σ3, H3, I3, w3⟩
    | cont =>
      obtain ⟨σ3, H3, I3, n3⟩ := q3
      obtain ⟨m', hm, w3⟩ := hN σ3 H3 n3
      exact ⟨m', hm, σ3, H3, I3, w3⟩
    | brk => exact q3
    | ret v => exact q3
  | false =>
    rw [if_neg Bool.false_ne_true]
    exact wpAny_execs_nil ⟨σ1, H2, I2, q2⟩
end

/-! ### what a loop or a comprehension walks -/
/-- at turn i: it yields x (the heap may grow), or it stops -/
structure It where
  go : Nat → Hp → Prop
  yld : Nat → Hp → V → Hp → Prop
  stop : Nat → Hp → Prop
/-- the iterator's own objects may turn: they are not the frame's, not pinned, younger than the entry (or a comprehension's own) -/
def FpOk (X : Cx) (pins : List (Addr × Obj)) (H : Hp) (b : Addr) : Prop :=
  H b = none ∧ b ≠ X.env.locals ∧ b ∉ X.fs ∧ (b ∈ X.ex ∨ X.s₀.heap.objs.size ≤ b) ∧ (∀ x c, X.env.cells.lookup x = some c → c ≠ b) ∧ ∀ p ∈ X.pn ++ pins, p.1 ≠ b
theorem Inv.fpOk {X : Cx} {pins : List (Addr × Obj)} {σ : St} {H H' : Hp} {s : Shared} {b : Addr} (I : Inv X pins σ H s) (hb : s.heap.objs.size ≤ b) (hn : H' b = none) : FpOk X pins H' b := by
  refine ⟨hn, Nat.ne_of_gt (Nat.lt_of_lt_of_le I.lt hb), I.nofs hb, .inr (Nat.le_trans I.sz hb), fun x c e z => ?_, fun p hp z => ?_⟩
  · obtain ⟨v, q⟩ := I.cell x c e
    exact absurd (Nat.lt_of_lt_of_le q.lt (by rw [z]; exact hb)) (Nat.lt_irrefl _)
  · exact absurd (Nat.lt_of_lt_of_le (Heap.lt_size (I.pin p hp).1) (by rw [z]; exact hb)) (Nat.lt_irrefl _)
structure Turn (P : Program) (w : World) (K : PySem.W.Frag) (tg : Expr) (J : It) (fp : List Addr) (it : Addr) (tn : Nat → Heap → Prop) : Prop where
  mem : it ∈ fp
  obj : ∀ i h, tn i h → ∀ b ∈ fp, ∃ o, h.get? b = some o ∧ ∀ v, o.data ≠ .cell v
  keep : ∀ i h h', tn i h → (∀ b ∈ fp, ∀ o, h.get? b = some o → h'.get? b = some o) → tn i h'
  item : ∀ (X : Cx), X.prog = P → X.w = w → X.K = K → X.calm = true → ∀ (i : Nat) (pins : List (Addr × Obj)) (s : Shared) (σ : St) (H : Hp) (E : Value → Shared → Prop), Inv X pins σ H s → (∀ b ∈ fp, FpOk X pins H b) → tn i s.heap → J.go i H →
    wpAny (model P w) X.A (pyNext (.ref it)) (fun r s1 => ∃ u, r = some u ∧
      wpAny (model P w) X.A (letOwnedTupleGo tg (.ref it) u) (fun _ s2 => ∃ x H', Inv X pins σ H' s2 ∧ RelV x u ∧ J.yld i H x H' ∧ tn (i + 1) s2.heap ∧ ∀ b ∈ fp, H' b = none) E s1) E s
  done : ∀ (X : Cx), X.prog = P → X.w = w → X.K = K → X.calm = true → ∀ (i : Nat) (pins : List (Addr × Obj)) (s : Shared) (σ : St) (H : Hp) (E : Value → Shared → Prop), Inv X pins σ H s → (∀ b ∈ fp, FpOk X pins H b) → tn i s.heap → J.stop i H →
    wpAny (model P w) X.A (pyNext (.ref it)) (fun r s1 => r = none ∧ Inv X pins σ H s1) E s
  self : ∀ (A : Around) (i : Nat) (s : Shared) (Q : Value → Shared → Prop) (E : Value → Shared → Prop), tn i s.heap → Q (.ref it) s → wpAny (model P w) A (pyIter (.ref it)) Q E s
abbrev TI := St → Hp → (It → Hp → Prop) → Prop
/-- an iterator has come -/
def PIE (X : Cx) (pins : List (Addr × Obj)) (σ : St) (tg : Expr) (R : It → Hp → Prop) (itv : Value) (s2 : Shared) : Prop :=
  ∃ (it : Addr) (fp : List Addr) (tn : Nat → Heap → Prop) (J : It) (H' : Hp), itv = .ref it ∧ Inv X pins σ H' s2 ∧ Turn X.prog X.w X.K tg J fp it tn ∧ tn 0 s2.heap ∧ (∀ b ∈ fp, FpOk X pins H' b) ∧ R J H'
def PI (X : Cx) (tg iter : Expr) (wi : TI) : Prop :=
  ∀ (pins : List (Addr × Obj)) (s : Shared) (σ : St) (H : Hp) (R : It → Hp → Prop), Inv X pins σ H s → wi σ H R →
    wpAny (model X.prog X.w) X.A (eval iter X.env) (fun v s1 => wpAny (model X.prog X.w) X.A (pyIter v) (PIE X pins σ tg R) X.xe s1) X.xe s

/-- the step ahead of the store is nothing for an iterator that keeps no tuple -/
theorem go_of {M : Model} {A : Around} {E : Value → Shared → Prop} {s : Shared} {tg : Expr} {it : Addr} {u : Value} {o : Obj} {n : String} {vs : Array Value} {Q : Unit → Shared → Prop} (ho : s.heap.get? it = some o) (hc : o.cls = .type n) (hd : o.data = .fields vs)
    (hn : ["enumerate", "zip", "dict_itemiterator", "dict_reverseitemiterator", "odict_iterator", "itertools.zip_longest", "itertools.pairwise"].contains n = false) (hQ : Q () s) : wpAny M A (letOwnedTupleGo tg (.ref it) u) Q E s := by
  unfold letOwnedTupleGo
  cases tg <;> first
    | exact wpAny_pure hQ
    | (cases u <;> first
        | exact wpAny_pure hQ
        | (refine wpAny_bind (wpAny_load ho ?_)
           rw [hc, hd]
           show wpAny M A (if (["enumerate", "zip", "dict_itemiterator", "dict_reverseitemiterator", "odict_iterator", "itertools.zip_longest", "itertools.pairwise"].contains n && vs[0]? == some (rawInt _)) = true then _ else _) Q E s
           rw [if_neg (by intro h; rw [hn, Bool.false_and] at h; cases h)]
           exact wpAny_pure hQ))

/-- the list at a, as it stands at each turn (a loop may append to it) -/
def Itl (K : PySem.W.Frag) (a : Addr) : It :=
  ⟨fun i H => ∃ xs x, SqL K H a xs ∧ xs[i]? = some x, fun i H x H' => H' = H ∧ ∀ xs, SqL K H a xs → xs[i]? = some x, fun i H => ∃ xs, SqL K H a xs ∧ xs.length ≤ i⟩
def Itt (K : PySem.W.Frag) (a : Addr) : It :=
  ⟨fun i H => ∃ xs x, SqT K H a xs ∧ xs[i]? = some x, fun i H x H' => H' = H ∧ ∀ xs, SqT K H a xs → xs[i]? = some x, fun i H => ∃ xs, SqT K H a xs ∧ xs.length ≤ i⟩
/-- lo, lo + 1, .. (n of them) -/
def Itr (lo : Int) (n : Nat) : It := ⟨fun i _ => i < n, fun i H x H' => H' = H ∧ x = .int (lo + i), fun i _ => n ≤ i⟩
theorem turn_list {P : Program} {w : World} {K : PySem.W.Frag} {tg : Expr} (a it : Addr) : Turn P w K tg (Itl K a) [it] it (fun i h => h.IsListIter it a i) where
  mem := by simp
  obj := fun i h st b hb => by
    have e : b = it := by simpa using hb
    subst e
    obtain ⟨o, e, c, d⟩ := st
    exact ⟨o, e, fun v z => by rw [d] at z; cases z⟩
  keep := fun i h h' st k => st.at fun o e => k it (by simp) o e
  item := by
    intro X hP hw hK hc i pins s σ H E I hf st hg
    subst hP hw hK
    obtain ⟨xs, x, hq, hx⟩ := hg
    obtain ⟨its, rv, p, hz⟩ := I.list hq
    obtain ⟨u, hu, ru⟩ := rv.get hx
    obtain ⟨f0, f1, f2, f3, f4, f5⟩ := hf it (by simp)
    refine wpAny_pyNext_list_item st p.isList (x := u) (by simpa using hu) fun h' st' sb => ?_
    have I1 : Inv X pins σ H { s with heap := h' } := I.turned (t' := s.toks) (fun b o hb e => (sb.2 b hb).trans e) f0 f1 f3 f4 f5
    obtain ⟨o, e, c, d⟩ := id st'
    exact ⟨u, rfl, go_of (s := { s with heap := h' }) e c d (by decide) ⟨x, H, I1, ru, ⟨rfl, fun ys hy => by rw [I.list_inj hy hq]; exact hx⟩, st', fun b hb => (hf b hb).1⟩⟩
  done := by
    intro X hP hw hK hc i pins s σ H E I hf st hg
    subst hP hw hK
    obtain ⟨xs, hq, hx⟩ := hg
    obtain ⟨its, rv, p, hz⟩ := I.list hq
    obtain ⟨f0, f1, f2, f3, f4, f5⟩ := hf it (by simp)
    have hl := rv.length
    exact wpAny_pyNext_list_end (I.ok.hd hc) st p.isList (by simp; omega) fun h' eb => ⟨rfl, I.turned (t' := s.toks) (fun b o hb e => eb b o hb e) f0 f1 f3 f4 f5⟩
  self := fun _ _ _ _ _ st h => wpAny_pyIter_listiter st h
theorem turn_range {P : Program} {w : World} {K : PySem.W.Frag} {tg : Expr} (it : Addr) (lo : Int) (n : Nat) : Turn P w K tg (Itr lo n) [it] it (fun i h => IsRangeIter h it (lo + (i : Nat) * 1) ((n : Int) - (i : Nat)) 1) where
  mem := by simp
  obj := fun i h st b hb => by
    have e : b = it := by simpa using hb
    subst e
    exact ⟨_, st, fun v z => by
      have z' : Data.fields _ = Data.cell v := z
      cases z'⟩
  keep := fun i h h' st k => k it (by simp) _ st
  item := by
    intro X hP hw hK hc i pins s σ H E I hf st hg
    subst hP hw hK
    obtain ⟨f0, f1, f2, f3, f4, f5⟩ := hf it (by simp)
    have W := Walks.range (prog := X.prog) (w := X.w) (I.ok.hd hc) it lo 1 n
    refine W.item i s _ _ hg st fun v h' tk hv st' kk => ?_
    obtain ⟨t, rfl⟩ := hv
    have I1 : Inv X pins σ H { s with heap := h', toks := tk } := I.turned (fun b o hb e => kk b o (by simpa using hb) e) f0 f1 f3 f4 f5
    refine ⟨_, rfl, go_of (s := { s with heap := h', toks := tk }) (n := "range_iterator") st' rfl rfl (by decide) ⟨.int (lo + i), H, I1, ⟨t, ?_⟩, ⟨rfl, rfl⟩, st', fun b hb => (hf b hb).1⟩⟩
    rw [Int.mul_one]
  done := by
    intro X hP hw hK hc i pins s σ H E I hf st hg
    subst hP hw hK
    obtain ⟨f0, f1, f2, f3, f4, f5⟩ := hf it (by simp)
    exact wpAny_pyNext_range_end (I.ok.hd hc) st (by have : n ≤ i := hg; omega) fun h' eb => ⟨rfl, I.turned (t' := s.toks) (fun b o hb e => eb b o hb e) f0 f1 f3 f4 f5⟩
  self := fun _ _ _ _ _ st h => wpAny_pyIter_rangeiter st h
end L2

namespace L2
open PySem PySem.Spec PyProof.Rows
section
variable {X : Cx} {tg : Expr}
def iList (K : PySem.W.Frag) (tl : TE) : TI := fun σ H R => tl σ H fun x H1 => ∃ a, x = .ref a ∧ (∃ xs, SqL K H1 a xs) ∧ R (Itl K a) H1
def iTup (K : PySem.W.Frag) (tl : TE) : TI := fun σ H R => tl σ H fun x H1 => ∃ a, x = .ref a ∧ (∃ xs, SqT K H1 a xs) ∧ R (Itt K a) H1
theorem pi_list {l : Expr} {tl : TE} (hl : PE X l tl) : PI X tg l (iList X.K tl) := by
  intro pins s σ H R I h
  refine thn (hl pins s σ H _ I h) fun v s1 ⟨x, H1, I1, r1, q1⟩ => ?_
  obtain ⟨a, e, ⟨xs, hq⟩, q⟩ := q1
  subst e
  cases r1
  obtain ⟨its, rv, p, hz⟩ := I1.list hq
  refine wpAny_pyIter_list p.isList ?_
  refine ⟨s1.heap.objs.size, [s1.heap.objs.size], _, _, H1, rfl, I1.kept (t' := s1.toks) fun b o e => Heap.get?_push_of_some _ e, turn_list a _, ⟨_, Heap.get?_push_size _ rfl, rfl, rfl⟩, fun b hb => ?_, q⟩
  have e : b = s1.heap.objs.size := by simpa using hb
  subst e
  exact I1.fpOk (Nat.le_refl _) (I1.hok.fresh (Nat.le_refl _))
/-- a range object just made, walked -/
theorem range_it {pins : List (Addr × Obj)} {σ : St} {H : Hp} {s : Shared} {R : It → Hp → Prop} {E : Value → Shared → Prop} {lo hi : Int} {t u v : Tok} {tk : Nat} (I : Inv X pins σ H s) (h1 : -(2 ^ 62) ≤ lo) (h2 : lo < 2 ^ 62) (h3 : -(2 ^ 62) ≤ hi) (h4 : hi < 2 ^ 62)
    (q : R (Itr lo (hi - lo).toNat) H) : wpAny (model X.prog X.w) X.A (pyIter (.ref s.heap.objs.size)) (PIE X pins σ tg R) E { s with heap := s.heap.push { cls := .type "range", data := .fields #[.int lo t, .int hi u, .int 1 v] }, toks := tk } := by
  refine wpAny_pyIter_range (IsRange.new ..) (small_one h1 h2 h3 h4) ?_
  have I1 : Inv X pins σ H { s with heap := s.heap.push { cls := .type "range", data := .fields #[.int lo t, .int hi u, .int 1 v] }, toks := tk } := I.kept fun b o e => Heap.get?_push_of_some _ e
  refine ⟨(s.heap.push { cls := .type "range", data := .fields #[.int lo t, .int hi u, .int 1 v] }).objs.size, [(s.heap.push { cls := .type "range", data := .fields #[.int lo t, .int hi u, .int 1 v] }).objs.size], _, _, H, rfl,
    I1.kept (t' := tk) fun b o e => Heap.get?_push_of_some _ e, turn_range _ lo (hi - lo).toNat, ?_, fun b hb => ?_, q⟩
  · have e1 : lo + ((0 : Nat) : Int) * 1 = lo := by simp
    have e2 : (((hi - lo).toNat : Nat) : Int) - ((0 : Nat) : Int) = Builtin.Range.rangeSize lo hi 1 := by rw [rangeSize_one]; split <;> omega
    show IsRangeIter _ _ (lo + ((0 : Nat) : Int) * 1) ((((hi - lo).toNat : Nat) : Int) - ((0 : Nat) : Int)) 1
    rw [e1, e2]
    exact Heap.get?_push_size _ rfl
  · have e : b = (s.heap.push { cls := .type "range", data := .fields #[.int lo t, .int hi u, .int 1 v] }).objs.size := by simpa using hb
    subst e
    exact I1.fpOk (Nat.le_refl _) (I1.hok.fresh (Nat.le_refl _))
def iRng1 (ta : TA) : TI := fun σ H R => ta σ H fun vs H1 => ∃ j : Int, vs = [.int j] ∧ -(2 ^ 62) ≤ j ∧ j < 2 ^ 62 ∧ R (Itr 0 j.toNat) H1
def iRng2 (ta : TA) : TI := fun σ H R => ta σ H fun vs H1 => ∃ i j : Int, vs = [.int i, .int j] ∧ (-(2 ^ 62) ≤ i ∧ i < 2 ^ 62 ∧ -(2 ^ 62) ≤ j ∧ j < 2 ^ 62) ∧ R (Itr i (j - i).toNat) H1
theorem pi_range1 {a : Expr} {ta : TA} {p pos : Pos} (hg : Gl X "range") (hm : X.mg "range" = none) (ha : PA X [a] ta) (hs : starEach [a] X.env = [(false, eval a X.env)] := by rfl) : PI X tg (.Call (.Name "range" p) [a] [] pos) (iRng1 ta) := by
  intro pins s σ H R I h
  refine Call_ (ld_blt I hg hm boot_range (PyProof.Rows.callWith_type1 (thn (ha pos pins s σ H _ I h) fun us s1 ⟨vs, H1, I1, r1, q1⟩ => ?_) hs rfl))
  obtain ⟨j, e, q1, q2, q⟩ := q1
  subst e
  cases r1 with
  | cons r rr =>
    cases rr
    obtain ⟨t, rfl⟩ := r
    exact call_range_1 (range_it I1 (by omega) (by omega) q1 q2 (by simpa using q))
theorem pi_range2 {a b : Expr} {ta : TA} {p pos : Pos} (hg : Gl X "range") (hm : X.mg "range" = none) (ha : PA X [a, b] ta) (hs : starEach [a, b] X.env = [(false, eval a X.env), (false, eval b X.env)] := by rfl) (hs2 : starEach [b] X.env = [(false, eval b X.env)] := by rfl) :
    PI X tg (.Call (.Name "range" p) [a, b] [] pos) (iRng2 ta) := by
  intro pins s σ H R I h
  refine Call_ (ld_blt I hg hm boot_range (PyProof.Rows.callWith_type1 (thn (ha pos pins s σ H _ I h) fun us s1 ⟨vs, H1, I1, r1, q1⟩ => ?_) (by rw [hs, hs2]) (by rw [hs2]; rfl)))
  obtain ⟨i, j, e, ⟨q1, q2, q3, q4⟩, q⟩ := q1
  subst e
  cases r1 with
  | cons r rr =>
    cases rr with
    | cons r' rr =>
      cases rr
      obtain ⟨t, rfl⟩ := r
      obtain ⟨t', rfl⟩ := r'
      exact call_range_2 (range_it I1 q1 q2 q3 q4 q)

/-! ### for -/
/-- W: the invariant by the turn and a measure; N: what the body is to reach -/
def tFor (wi : TI) (g : TG) (tb : TS) : TS := fun D σ H => wi σ H fun J H1 => ∃ W : Nat → Nat → St → Hp → Prop, (∃ m, W 0 m σ H1) ∧ ∀ i m σ H, W i m σ H →
  (J.stop i H ∧ D.nx σ H) ∨ (J.go i H ∧ ∃ N : St → Hp → Prop, (∀ σ' H', N σ' H' → ∃ m', m' < m ∧ W (i + 1) m' σ' H') ∧ ∀ x H', J.yld i H x H' → g x σ H' fun σ2 H2 => tb { D with nx := N, ct := N, bk := D.nx } σ2 H2)
/-- the records at fp as they stand -/
def pinsAt (fp : List Addr) (h : Heap) : List (Addr × Obj) := fp.filterMap fun b => (h.get? b).map fun o => (b, o)
theorem mem_pinsAt {fp : List Addr} {h : Heap} {b : Addr} {o : Obj} (hb : b ∈ fp) (e : h.get? b = some o) : (b, o) ∈ pinsAt fp h := List.mem_filterMap.mpr ⟨b, hb, by rw [e]; rfl⟩
theorem of_pinsAt {fp : List Addr} {h : Heap} {p : Addr × Obj} (hp : p ∈ pinsAt fp h) : p.1 ∈ fp ∧ h.get? p.1 = some p.2 := by
  obtain ⟨b, hb, e⟩ := List.mem_filterMap.mp hp
  cases q : h.get? b with
  | none => rw [q] at e; cases e
  | some o =>
    rw [q] at e
    have e' : (b, o) = p := Option.some.inj e
    subst e'
    exact ⟨hb, q⟩
theorem Inv.pinned {pins : List (Addr × Obj)} {σ : St} {H : Hp} {s : Shared} {fp : List Addr} (I : Inv X pins σ H s) (hf : ∀ b ∈ fp, FpOk X pins H b) (ho : ∀ b ∈ fp, ∃ o, s.heap.get? b = some o ∧ ∀ v, o.data ≠ .cell v) : Inv X (pins ++ pinsAt fp s.heap) σ H s :=
  I.pins_of fun p hp => (List.mem_append.mp hp).elim (fun z => I.pin p (List.mem_append_right _ z)) fun z => by
    obtain ⟨hb, e⟩ := of_pinsAt z
    obtain ⟨f0, f1, f2, _⟩ := hf p.1 hb
    obtain ⟨o, e', d⟩ := ho p.1 hb
    rw [e] at e'; cases e'
    exact ⟨e, f0, f1, f2, d⟩
theorem Inv.unpinned {pins pl : List (Addr × Obj)} {σ : St} {H : Hp} {s : Shared} (I : Inv X (pins ++ pl) σ H s) : Inv X pins σ H s := I.pins_of fun p hp => I.pin p (List.mem_append_right _ (List.mem_append_left _ hp))
theorem ps_for {iter : Expr} {body : List Stmt} {wi : TI} {g : TG} {tb : TS} {pos : Pos} (hp : PassesOwn (model X.prog X.w) X.A X.env X.xe) (hc : X.calm = true) (hi : PI X tg iter wi) (hg : PG X tg g) (hb : PSs X body tb)
    (hs : ∀ x, foldedSetIterable iter X.env x = pure x := by intro _; rfl) : PS X (.For tg iter body [] pos) (tFor wi g tb) := by
  intro pins s σ H D I h
  refine wpAny_For (thn (hi pins s σ H _ I h) fun v s1 h1 => thn h1 fun itv s2 h2 => ?_) hs
  obtain ⟨it, fp, tn, J, H2, e, I2, T, st2, f2, W, ⟨m0, w0⟩, turn⟩ := h2
  subst e
  -- what stays true of the iterator's objects through the loop
  have stat : ∀ {H' : Hp}, (∀ b ∈ fp, H' b = none) → ∀ b ∈ fp, FpOk X pins H' b := fun hn b hb => ⟨hn b hb, (f2 b hb).2⟩
  refine codeAny_forLoop_any (fun n s' => ∃ i σ' H', Inv X pins σ' H' s' ∧ tn i s'.heap ∧ (∀ b ∈ fp, H' b = none) ∧ W i n σ' H') ?_ m0 ⟨0, σ, H2, I2, st2, fun b hb => (f2 b hb).1, w0⟩
  rintro n s3 ⟨i, σ3, H3, I3, st3, fr3, w3⟩
  rcases turn i n σ3 H3 w3 with ⟨stop, qn⟩ | ⟨go, N, hN, step⟩
  · refine wpAny_passesOwn hp (thn (T.done X rfl rfl rfl hc i pins s3 σ3 H3 X.xe I3 (stat fr3) st3 stop) fun r s4 ⟨hr, I4⟩ => ?_)
    subst hr
    exact wpAny_execs_nil ⟨σ3, H3, I4, qn⟩
  · refine wpAny_passesOwn hp (thn (T.item X rfl rfl rfl hc i pins s3 σ3 H3 X.xe I3 (stat fr3) st3 go) fun r s4 ⟨u, hr, h4⟩ => ?_)
    subst hr
    refine wpAny_passesOwn hp (thn h4 fun _ s5 ⟨x, H5, I5, r5, y5, st5, fr5⟩ => ?_)
    have I5' := I5.pinned (stat fr5) (T.obj _ _ st5)
    refine wpAny_passesOwn hp (thn (hg _ s5 σ3 H5 x u _ I5' r5 (step x H5 y5)) fun _ s6 ⟨σ6, H6, I6, q6⟩ => ?_)
    refine wpAny_passesOwn hp (thn (hb _ s6 σ6 H6 _ I6 q6) fun f s7 q7 => ?_)
    have again : ∀ {σ7 : St} {H7 : Hp}, Inv X (pins ++ pinsAt fp s5.heap) σ7 H7 s7 → N σ7 H7 → ∃ m, m < n ∧ ∃ i σ' H', Inv X pins σ' H' s7 ∧ tn i s7.heap ∧ (∀ b ∈ fp, H' b = none) ∧ W i m σ' H' := fun {σ7 H7} I7 n7 => by
      obtain ⟨m', hm, w7⟩ := hN σ7 H7 n7
      refine ⟨m', hm, i + 1, σ7, H7, I7.unpinned, T.keep _ _ _ st5 fun b hb o e => (I7.pin (b, o) (List.mem_append_right _ (List.mem_append_right _ (mem_pinsAt hb e)))).1, fun b hb => ?_, w7⟩
      obtain ⟨o, e, d⟩ := T.obj _ _ st5 b hb
      exact (I7.pin (b, o) (List.mem_append_right _ (List.mem_append_right _ (mem_pinsAt hb e)))).2.1
    cases f with
    | next => obtain ⟨σ7, H7, I7, n7⟩ := q7; exact again I7 n7
    | cont => obtain ⟨σ7, H7, I7, n7⟩ := q7; exact again I7 n7
    | brk => obtain ⟨σ7, H7, I7, q7⟩ := q7; exact ⟨σ7, H7, I7.unpinned, q7⟩
    | ret v => obtain ⟨x7, σ7, H7, I7, r7, q7⟩ := q7; exact ⟨x7, σ7, H7, I7.unpinned, r7, q7⟩
end

/-! ### the forms one uses -/
/-- over a list that the body leaves as it is -/
theorem for_list {K : PySem.W.Frag} {a : Addr} {xs : List V} {g : TG} {tb : TS} {D : Ends} {σ : St} {H : Hp} (Pv : Nat → St → Hp → Prop) (h0 : Pv 0 σ H) (hl : ∀ i σ H, i ≤ xs.length → Pv i σ H → SqL K H a xs)
    (hs : ∀ i x σ H, xs[i]? = some x → Pv i σ H → g x σ H fun σ2 H2 => tb { D with nx := Pv (i + 1), ct := Pv (i + 1), bk := D.nx } σ2 H2) (hd : ∀ σ H, Pv xs.length σ H → D.nx σ H) :
    ∃ W : Nat → Nat → St → Hp → Prop, (∃ m, W 0 m σ H) ∧ ∀ i m σ H, W i m σ H →
      ((Itl K a).stop i H ∧ D.nx σ H) ∨ ((Itl K a).go i H ∧ ∃ N : St → Hp → Prop, (∀ σ' H', N σ' H' → ∃ m', m' < m ∧ W (i + 1) m' σ' H') ∧ ∀ x H', (Itl K a).yld i H x H' → g x σ H' fun σ2 H2 => tb { D with nx := N, ct := N, bk := D.nx } σ2 H2) := by
  refine ⟨fun i m σ H => m = xs.length - i ∧ i ≤ xs.length ∧ Pv i σ H, ⟨xs.length, by simp, Nat.zero_le _, h0⟩, ?_⟩
  rintro i m σ H ⟨rfl, hi, p⟩
  have q := hl i σ H hi p
  by_cases hlt : i < xs.length
  · refine .inr ⟨⟨xs, xs[i], q, by simp [hlt]⟩, Pv (i + 1), fun σ' H' p' => ⟨xs.length - (i + 1), by omega, rfl, hlt, p'⟩, fun x H' y => ?_⟩
    obtain ⟨e, y⟩ := y
    subst e
    exact hs i x σ _ (y xs q) p
  · have e : i = xs.length := by omega
    subst e
    exact .inl ⟨⟨xs, q, Nat.le_refl _⟩, hd σ H p⟩
theorem for_range {lo : Int} {n : Nat} {g : TG} {tb : TS} {D : Ends} {σ : St} {H : Hp} (Pv : Nat → St → Hp → Prop) (h0 : Pv 0 σ H)
    (hs : ∀ i σ H, i < n → Pv i σ H → g (.int (lo + i)) σ H fun σ2 H2 => tb { D with nx := Pv (i + 1), ct := Pv (i + 1), bk := D.nx } σ2 H2) (hd : ∀ σ H, Pv n σ H → D.nx σ H) :
    ∃ W : Nat → Nat → St → Hp → Prop, (∃ m, W 0 m σ H) ∧ ∀ i m σ H, W i m σ H →
      ((Itr lo n).stop i H ∧ D.nx σ H) ∨ ((Itr lo n).go i H ∧ ∃ N : St → Hp → Prop, (∀ σ' H', N σ' H' → ∃ m', m' < m ∧ W (i + 1) m' σ' H') ∧ ∀ x H', (Itr lo n).yld i H x H' → g x σ H' fun σ2 H2 => tb { D with nx := N, ct := N, bk := D.nx } σ2 H2) := by
  refine ⟨fun i m σ H => m = n - i ∧ i ≤ n ∧ Pv i σ H, ⟨n, by simp, Nat.zero_le _, h0⟩, ?_⟩
  rintro i m σ H ⟨rfl, hi, p⟩
  by_cases hlt : i < n
  · refine .inr ⟨hlt, Pv (i + 1), fun σ' H' p' => ⟨n - (i + 1), by omega, rfl, hlt, p'⟩, fun x H' y => ?_⟩
    obtain ⟨e, y⟩ := y
    subst e y
    exact hs i σ _ hlt p
  · have e : i = n := by omega
    subst e
    exact .inl ⟨Nat.le_refl _, hd σ H p⟩
end L2

namespace L2
open PySem PySem.Spec PyProof.Rows

abbrev R2 := V → V → Hp → VK → Prop
/-- a two-place operation on values: f is binaryOp op, inplaceOp op or compareOp op -/
def OpR (X : Cx) (f : Value → Value → Sem Value) (r : R2) : Prop :=
  ∀ (pins : List (Addr × Obj)) (s : Shared) (σ : St) (H : Hp) (x y : V) (v u : Value) (Q : VK), Inv X pins σ H s → RelV x v → RelV y u → r x y H Q →
    wpAny (model X.prog X.w) X.A (f v u) (EP X pins σ Q) X.xe s
/-- a one-place operation -/
def UnR (X : Cx) (f : Value → Sem Value) (r : V → Hp → VK → Prop) : Prop :=
  ∀ (pins : List (Addr × Obj)) (s : Shared) (σ : St) (H : Hp) (x : V) (v : Value) (Q : VK), Inv X pins σ H s → RelV x v → r x H Q →
    wpAny (model X.prog X.w) X.A (f v) (EP X pins σ Q) X.xe s
/-- a call of a value that is known (a builtin, a type) with values -/
def CallR (X : Cx) (f : Value) (r : List V → Hp → VK → Prop) : Prop :=
  ∀ (pins : List (Addr × Obj)) (s : Shared) (σ : St) (H : Hp) (xs : List V) (us : List Value) (Q : VK), Inv X pins σ H s → Vals xs us → r xs H Q →
    wpAny (model X.prog X.w) X.A (call f us) (EP X pins σ Q) X.xe s
/-- a value's truth -/
def TruR (X : Cx) (r : V → Hp → (Bool → Hp → Prop) → Prop) : Prop :=
  ∀ (pins : List (Addr × Obj)) (s : Shared) (σ : St) (H : Hp) (x : V) (v : Value) (Q : Bool → Hp → Prop), Inv X pins σ H s → RelV x v → r x H Q →
    wpAny (model X.prog X.w) X.A (truthy v) (TP X pins σ Q) X.xe s

def tOp (r : R2) (ta tb : TE) : TE := fun σ H Q => ta σ H fun x H1 => tb σ H1 fun y H2 => r x y H2 Q
def tUn (r : V → Hp → VK → Prop) (ta : TE) : TE := fun σ H Q => ta σ H fun x H1 => r x H1 Q
/-- ints in, under C, and a value out -/
def rI (C : Int → Int → Prop) (g : Int → Int → V) : R2 := fun x y H Q => ∃ i j, x = .int i ∧ y = .int j ∧ C i j ∧ Q (g i j) H
def rI0 (g : Int → Int → V) : R2 := fun x y H Q => ∃ i j, x = .int i ∧ y = .int j ∧ Q (g i j) H
def rU (g : Int → V) : V → Hp → VK → Prop := fun x H Q => ∃ i, x = .int i ∧ Q (g i) H

section
variable {X : Cx} {a b c : Expr} {ta tb tc : TE} {pos : Pos}

theorem binT (ha : PE X a ta) (hb : PE X b tb) {pins : List (Addr × Obj)} {s : Shared} {σ : St} {H : Hp} {R : V → V → Hp → Prop} (I : Inv X pins σ H s)
    (h : ta σ H fun x H1 => tb σ H1 fun y H2 => R x y H2) {Q : Value → Shared → Prop} {f : Value → Value → Sem Value}
    (hf : ∀ v u s2 x y H2, Inv X pins σ H2 s2 → RelV x v → RelV y u → R x y H2 → wpAny (model X.prog X.w) X.A (f v u) Q X.xe s2) :
    wpAny (model X.prog X.w) X.A (eval a X.env) (fun v s₁ => wpAny (model X.prog X.w) X.A (eval b X.env) (fun u s₂ => wpAny (model X.prog X.w) X.A (f v u) Q X.xe s₂) X.xe s₁) X.xe s := by
  refine thn (ha pins s σ H _ I h) fun v s1 ⟨x, H1, I1, r1, q1⟩ => ?_
  refine thn (hb pins s1 σ H1 _ I1 q1) fun u s2 ⟨y, H2, I2, r2, q2⟩ => ?_
  exact hf v u s2 x y H2 I2 r1 r2 q2

theorem pe_op {op : Operator} {r : R2} (ho : OpR X (binaryOp op) r) (ha : PE X a ta) (hb : PE X b tb) : PE X (.BinOp a op b pos) (tOp r ta tb) := by
  intro pins s σ H Q I h
  exact wpAny_BinOp (binT ha hb I h fun v u s2 x y H2 I2 rx ry q => ho pins s2 σ H2 x y v u Q I2 rx ry q)
theorem pe_un {op : UnaryOp} {r : V → Hp → VK → Prop} (ho : UnR X (unaryOp op) r) (ha : PE X a ta) : PE X (.UnaryOp op a pos) (tUn r ta) := by
  intro pins s σ H Q I h
  exact UnaryOp_ (thn (ha pins s σ H _ I h) fun v s1 ⟨x, H1, I1, r1, q1⟩ => ho pins s1 σ H1 x v Q I1 r1 q1)
/-! ### ints -/
theorem opI {f : Value → Value → Sem Value} {C : Int → Int → Prop} {g : Int → Int → Int}
    (rule : ∀ (i j : Int) (t u : Tok) (s : Shared) (Q : Value → Shared → Prop) (E : Value → Shared → Prop), C i j → Q (.int (g i j) s.toks) { s with toks := s.toks + 1 } → wpAny (model X.prog X.w) X.A (f (.int i t) (.int j u)) Q E s) :
    OpR X f (rI C fun i j => .int (g i j)) := by
  intro pins s σ H x y v u Q I rx ry h
  obtain ⟨i, j, rfl, rfl, hc, q⟩ := h
  obtain ⟨t, rfl⟩ := rx
  obtain ⟨t', rfl⟩ := ry
  exact rule i j t t' s _ _ hc ⟨.int (g i j), H, I.tok _, ⟨_, rfl⟩, q⟩
theorem opI0 {f : Value → Value → Sem Value} {g : Int → Int → Int}
    (rule : ∀ (i j : Int) (t u : Tok) (s : Shared) (Q : Value → Shared → Prop) (E : Value → Shared → Prop), Q (.int (g i j) s.toks) { s with toks := s.toks + 1 } → wpAny (model X.prog X.w) X.A (f (.int i t) (.int j u)) Q E s) :
    OpR X f (rI0 fun i j => .int (g i j)) := by
  intro pins s σ H x y v u Q I rx ry h
  obtain ⟨i, j, rfl, rfl, q⟩ := h
  obtain ⟨t, rfl⟩ := rx
  obtain ⟨t', rfl⟩ := ry
  exact rule i j t t' s _ _ ⟨.int (g i j), H, I.tok _, ⟨_, rfl⟩, q⟩
theorem opB0 {f : Value → Value → Sem Value} {g : Int → Int → Bool}
    (rule : ∀ (i j : Int) (t u : Tok) (s : Shared) (Q : Value → Shared → Prop) (E : Value → Shared → Prop), Q (.bool (g i j)) s → wpAny (model X.prog X.w) X.A (f (.int i t) (.int j u)) Q E s) :
    OpR X f (rI0 fun i j => .bl (g i j)) := by
  intro pins s σ H x y v u Q I rx ry h
  obtain ⟨i, j, rfl, rfl, q⟩ := h
  obtain ⟨t, rfl⟩ := rx
  obtain ⟨t', rfl⟩ := ry
  exact rule i j t t' s _ _ ⟨.bl (g i j), H, I, rfl, q⟩

def CDiv (i j : Int) : Prop := 0 < j ∧ j < 1073741824
def CDivN (i j : Int) : Prop := j ≠ 0 ∧ j.natAbs < 1073741824
def CPow (i j : Int) : Prop := 0 ≤ j ∧ j ≤ 1000000 ∧ i.natAbs < 2 ^ 64
def CMul (i j : Int) : Prop := (-(2 ^ 64) < i ∧ i < 2 ^ 64) ∨ (-(2 ^ 64) < j ∧ j < 2 ^ 64)
theorem CMul.ok {i j : Int} (h : CMul i j) : IntMulOk i j := by
  rcases h with ⟨h1, h2⟩ | ⟨h1, h2⟩
  · exact .of_left (intBits_le_64 h1 h2)
  · exact .of_right (intBits_le_64 h1 h2)
theorem op_add : OpR X (binaryOp .Add) (rI0 fun i j => .int (i + j)) := opI0 fun _ _ _ _ _ _ _ q => add_int q
theorem op_sub : OpR X (binaryOp .Sub) (rI0 fun i j => .int (i - j)) := opI0 fun _ _ _ _ _ _ _ q => sub_int q
theorem op_mul : OpR X (binaryOp .Mult) (rI CMul fun i j => .int (i * j)) := opI fun _ _ _ _ _ _ _ hc q => mul_int q hc.ok
/-- // by a positive divisor -/
theorem op_fdiv : OpR X (binaryOp .FloorDiv) (rI CDiv fun i j => .int (i / j)) := opI fun i j _ _ _ _ _ hc q => by
  have h1 : (0 : Int) < j := hc.1
  have h2 : j < 1073741824 := hc.2
  exact floordiv_int (by omega) (by rw [Int.fdiv_eq_ediv_of_nonneg i (by omega)]; exact q) (.inl (PyProof.noPylong_small (by omega)))
/-- % by a positive divisor of any size -/
theorem op_mod : OpR X (binaryOp .Mod) (rI (fun _ j => 0 < j) fun i j => .int (i % j)) := opI fun i j _ _ _ _ _ hc q => by
  have h1 : (0 : Int) < j := hc
  exact mod_int' (by omega) (by rw [Int.fmod_eq_emod_of_nonneg i (by omega)]; exact q)
theorem op_pow : OpR X (binaryOp .Pow) (rI CPow fun i j => .int (i ^ j.toNat)) := opI fun _ _ _ _ _ _ _ hc q => pow_int_small hc.1 hc.2.1 hc.2.2 q
theorem unI {f : Value → Sem Value} {g : Int → Int}
    (rule : ∀ (i : Int) (t : Tok) (s : Shared) (Q : Value → Shared → Prop) (E : Value → Shared → Prop), Q (.int (g i) s.toks) { s with toks := s.toks + 1 } → wpAny (model X.prog X.w) X.A (f (.int i t)) Q E s) :
    UnR X f (rU fun i => .int (g i)) := by
  intro pins s σ H x v Q I rx h
  obtain ⟨i, rfl, q⟩ := h
  obtain ⟨t, rfl⟩ := rx
  exact rule i t s _ _ ⟨.int (g i), H, I.tok _, ⟨_, rfl⟩, q⟩
theorem un_neg : UnR X (unaryOp .USub) (rU fun i => .int (-i)) := unI fun _ _ _ _ _ q => neg_int q
/-! ### bools among ints: n += (a < b) -/
end

/-! ### comparisons -/
/-- the scalars that == tells apart as data does -/
def scal : V → V → Bool
  | .non, .non => true | .non, .int _ => true | .int _, .non => true | .non, .bl _ => true | .bl _, .non => true | .non, .str _ => true | .str _, .non => true
  | .int _, .int _ => true | .bl _, .bl _ => true | .str _, .str _ => true | .byt _, .byt _ => true
  | .int _, .str _ => true | .str _, .int _ => true | .bl _, .str _ => true | .str _, .bl _ => true
  | _, _ => false
def rEq : R2 := fun x y H Q => scal x y = true ∧ Q (.bl (decide (x = y))) H
def rNe : R2 := fun x y H Q => scal x y = true ∧ Q (.bl (!decide (x = y))) H

theorem dec_int {i j : Int} : decide (V.int i = V.int j) = (i == j) := by
  rw [Bool.eq_iff_iff]
  simp
theorem dec_bl {i j : Bool} : decide (V.bl i = V.bl j) = (i == j) := by
  rw [Bool.eq_iff_iff]
  simp
theorem dec_str {i j : Str} : decide (V.str i = V.str j) = (i == j) := by
  rw [Bool.eq_iff_iff]
  simp
theorem dec_byt {i j : Array UInt8} : decide (V.byt i = V.byt j) = (i.toList == j.toList) := by
  rw [Bool.eq_iff_iff]
  cases i
  cases j
  simp

section
variable {X : Cx} {a b c : Expr} {ta tb tc : TE} {pos : Pos}
theorem fin_bl {pins : List (Addr × Obj)} {σ : St} {H : Hp} {s : Shared} {Q : VK} {k k' : Bool} (I : Inv X pins σ H s) (q : Q (.bl k) H) (e : k = k') : EP X pins σ Q (.bool k') s := by
  subst e
  exact ⟨.bl k, H, I, rfl, q⟩
theorem op_eq : OpR X (compareOp .Eq) rEq := by
  intro pins s σ H x y v u Q I rx ry h
  obtain ⟨hs, q⟩ := h
  cases x with
  | non =>
    cases rx
    cases y with
    | non => cases ry; exact PySem.EqNone.eq_none_none (fin_bl I q (by simp))
    | bl j => cases ry; exact PySem.EqNone.eq_none_bool (fin_bl I q (by simp))
    | int j => obtain ⟨t', rfl⟩ := ry; exact PySem.EqNone.eq_none_int (fin_bl I q (by simp))
    | str j => obtain ⟨t', rfl⟩ := ry; exact PySem.EqNone.eq_none_str (fin_bl I q (by simp))
    | _ => exact absurd (show false = true from hs) Bool.false_ne_true
  | bl i =>
    cases rx
    cases y with
    | non => cases ry; exact PySem.EqNone.eq_bool_none (fin_bl I q (by simp))
    | bl j => cases ry; exact eq_bool (fin_bl I q dec_bl)
    | str j => obtain ⟨t', rfl⟩ := ry; exact PySem.EqMixed.eq_bool_str (fin_bl I q (by simp))
    | _ => exact absurd (show false = true from hs) Bool.false_ne_true
  | int i =>
    obtain ⟨t, rfl⟩ := rx
    cases y with
    | non => cases ry; exact PySem.EqNone.eq_int_none (fin_bl I q (by simp))
    | int j => obtain ⟨t', rfl⟩ := ry; exact eq_int (fin_bl I q dec_int)
    | str j => obtain ⟨t', rfl⟩ := ry; exact PySem.EqMixed.eq_int_str (fin_bl I q (by simp))
    | _ => exact absurd (show false = true from hs) Bool.false_ne_true
  | str i =>
    obtain ⟨t, rfl⟩ := rx
    cases y with
    | non => cases ry; exact PySem.EqNone.eq_str_none (fin_bl I q (by simp))
    | bl j => cases ry; exact PySem.EqMixed.eq_str_bool (fin_bl I q (by simp))
    | int j => obtain ⟨t', rfl⟩ := ry; exact PySem.EqMixed.eq_str_int (fin_bl I q (by simp))
    | str j => obtain ⟨t', rfl⟩ := ry; exact eq_str (fin_bl I q dec_str)
    | _ => exact absurd (show false = true from hs) Bool.false_ne_true
  | byt i =>
    obtain ⟨t, rfl⟩ := rx
    cases y with
    | byt j => obtain ⟨t', rfl⟩ := ry; exact PySem.W.eq_bytes (fin_bl I q dec_byt)
    | _ => exact absurd (show false = true from hs) Bool.false_ne_true
  | _ => cases y <;> exact absurd (show false = true from hs) Bool.false_ne_true
theorem op_ne : OpR X (compareOp .NotEq) rNe := by
  intro pins s σ H x y v u Q I rx ry h
  obtain ⟨hs, q⟩ := h
  cases x with
  | non =>
    cases rx
    cases y with
    | non => cases ry; exact PySem.EqNone.ne_none_none (fin_bl I q (by simp))
    | bl j => cases ry; exact PySem.EqNone.ne_none_bool (fin_bl I q (by simp))
    | int j => obtain ⟨t', rfl⟩ := ry; exact PySem.EqNone.ne_none_int (fin_bl I q (by simp))
    | str j => obtain ⟨t', rfl⟩ := ry; exact PySem.EqNone.ne_none_str (fin_bl I q (by simp))
    | _ => exact absurd (show false = true from hs) Bool.false_ne_true
  | bl i =>
    cases rx
    cases y with
    | non => cases ry; exact PySem.EqNone.ne_bool_none (fin_bl I q (by simp))
    | bl j => cases ry; exact ne_bool (fin_bl I q (congrArg not dec_bl))
    | str j => obtain ⟨t', rfl⟩ := ry; exact PySem.EqMixed.ne_bool_str (fin_bl I q (by simp))
    | _ => exact absurd (show false = true from hs) Bool.false_ne_true
  | int i =>
    obtain ⟨t, rfl⟩ := rx
    cases y with
    | non => cases ry; exact PySem.EqNone.ne_int_none (fin_bl I q (by simp))
    | int j => obtain ⟨t', rfl⟩ := ry; exact ne_int (fin_bl I q (congrArg not dec_int))
    | str j => obtain ⟨t', rfl⟩ := ry; exact PySem.EqMixed.ne_int_str (fin_bl I q (by simp))
    | _ => exact absurd (show false = true from hs) Bool.false_ne_true
  | str i =>
    obtain ⟨t, rfl⟩ := rx
    cases y with
    | non => cases ry; exact PySem.EqNone.ne_str_none (fin_bl I q (by simp))
    | bl j => cases ry; exact PySem.EqMixed.ne_str_bool (fin_bl I q (by simp))
    | int j => obtain ⟨t', rfl⟩ := ry; exact PySem.EqMixed.ne_str_int (fin_bl I q (by simp))
    | str j => obtain ⟨t', rfl⟩ := ry; exact ne_str (fin_bl I q (congrArg not dec_str))
    | _ => exact absurd (show false = true from hs) Bool.false_ne_true
  | byt i =>
    obtain ⟨t, rfl⟩ := rx
    cases y with
    | byt j => obtain ⟨t', rfl⟩ := ry; exact PySem.W.ne_bytes (fin_bl I q (congrArg not dec_byt))
    | _ => exact absurd (show false = true from hs) Bool.false_ne_true
  | _ => cases y <;> exact absurd (show false = true from hs) Bool.false_ne_true

theorem op_lt : OpR X (compareOp .Lt) (rI0 fun i j => .bl (decide (i < j))) := opB0 fun _ _ _ _ _ _ _ q => lt_int q
theorem op_le : OpR X (compareOp .LtE) (rI0 fun i j => .bl (decide (i ≤ j))) := opB0 fun _ _ _ _ _ _ _ q => le_int q
theorem op_gt : OpR X (compareOp .Gt) (rI0 fun i j => .bl (decide (j < i))) := opB0 fun _ _ _ _ _ _ _ q => gt_int q
theorem op_ge : OpR X (compareOp .GtE) (rI0 fun i j => .bl (decide (j ≤ i))) := opB0 fun _ _ _ _ _ _ _ q => ge_int q
/-- the one string within the other -/
theorem op_in_str : OpR X (compareOp .In) (fun x y H Q => ∃ i j, x = .str i ∧ y = .str j ∧ Q (.bl (!(Builtin.Str.occurrences j i 0 j.length 1).isEmpty)) H) := by
  intro pins s σ H x y v u Q I rx ry h
  obtain ⟨i, j, rfl, rfl, q⟩ := h
  obtain ⟨t, rfl⟩ := rx
  obtain ⟨t', rfl⟩ := ry
  exact in_str (fin_bl I q rfl)

/-- is None, is not None: the right side a value none -/
theorem op_isN : OpR X (compareOp .Is) (fun x y H Q => y = .non ∧ Q (.bl (decide (x = .non))) H) := by
  intro pins s σ H x y v u Q I rx ry h
  obtain ⟨rfl, q⟩ := h
  cases ry
  refine is_none_gen (fin_bl I q ?_)
  cases x <;> first
    | (cases rx; rfl)
    | (obtain ⟨t, rfl⟩ := rx; rfl)
/-- is, is not of two objects that are tracked lists or instances -/
def isObj : HO → Bool
  | .lst _ => true
  | .ins _ _ _ => true
  | _ => false
theorem nomark (b : Expr) {op : CmpOp} (h : op ≠ .In := by decide) (h2 : op ≠ .NotIn := by decide) : behindInMarks op b = false := by
  have e1 : (op == CmpOp.In) = false := by cases op <;> first | rfl | exact absurd rfl h
  have e2 : (op == CmpOp.NotIn) = false := by cases op <;> first | rfl | exact absurd rfl h2
  cases b <;> simp [behindInMarks, e1, e2]
/-- a comparison as a value; hm: nomark b, or (for in, not in) by with_unfolding_all rfl -/
theorem pe_cmpR {op : CmpOp} {r : R2} (ho : OpR X (compareOp op) r) (ha : PE X a ta) (hb : PE X b tb) (hm : behindInMarks op b = false) : PE X (.Compare a [op] [b] pos) (tOp r ta tb) := by
  intro pins s σ H Q I h
  exact wpAny_Compare1 (binT ha hb I h fun v u s2 x y H2 I2 rx ry q => ho pins s2 σ H2 x y v u Q I2 rx ry q) hm
/-- a reading of a value as a test -/
def tTest (t : TE) : TT := fun σ H Q => t σ H fun x H' => ∃ k, x = .bl k ∧ Q k H'
theorem pt_cmpR {op : CmpOp} {r : R2} (ho : OpR X (compareOp op) r) (ha : PE X a ta) (hb : PE X b tb) (hm : behindInMarks op b = false) : PT X (.Compare a [op] [b] pos) (tTest (tOp r ta tb)) := by
  intro pins s σ H Q I h
  refine wpAny_isTrue_Compare1 (thn (ha pins s σ H _ I h) fun v s1 ⟨x, H1, I1, r1, q1⟩ => thn (hb pins s1 σ H1 _ I1 q1) fun u s2 ⟨y, H2, I2, r2, q2⟩ =>
    thn (ho pins s2 σ H2 x y v u _ I2 r1 r2 q2) fun c s3 ⟨z, H3, I3, r3, k, e, q3⟩ => ?_) hm
  subst e
  cases r3
  exact wpAny_truthy_bool ⟨H3, I3, q3⟩
/-- a op1 b op2 c -/
def tChain (r r' : R2) (ta tb tc : TE) : TE := fun σ H Q => ta σ H fun x H1 => tb σ H1 fun y H2 => r x y H2 fun z H3 => ∃ k, z = .bl k ∧
  (if k = true then tc σ H3 fun w' H4 => r' y w' H4 Q else Q (.bl false) H3)
/-! ### truth -/
/-- a value's truth by the abstract heap -/
def TruV (K : PySem.W.Frag) (x : V) (H : Hp) (k : Bool) : Prop :=
  match x with
  | .non => k = false
  | .bl b => k = b
  | .int i => k = (i != 0)
  | .str y => y.length ≤ sizeLine ∧ k = ((y.length : Int) != 0)
  | .byt y => y.size ≤ sizeLine ∧ k = ((y.size : Int) != 0)
  | .ref p => (∃ xs, SqL K H p xs ∧ k = !xs.isEmpty) ∨ (∃ xs, SqT K H p xs ∧ k = !xs.isEmpty) ∨ ∃ kvs, H p = some (.dK kvs) ∧ k = !kvs.isEmpty
  | _ => False
theorem isEmpty_kv {κ : Type} {kvs : List (κ × V)} {vs : List (κ × Value)} (r : KV kvs vs) : (!vs.isEmpty) = !kvs.isEmpty := by
  cases r <;> rfl
theorem isEmpty_of {xs : List V} {its : List Value} (r : Vals xs its) : (!its.toArray.isEmpty) = !xs.isEmpty := by
  cases r <;> simp
theorem line63 : (sizeLine : Nat) < 2 ^ 63 := by rw [sizeLine_eq]; decide
theorem tru_ok : TruR X (fun x H Q => ∃ k, TruV X.K x H k ∧ Q k H) := by
  intro pins s σ H x v Q I rx h
  obtain ⟨k, e, q⟩ := h
  have hl := line63
  have hs : sizeLine = 16777216 := sizeLine_eq
  cases x with
  | non =>
    cases rx
    have e' : k = false := e
    subst e'
    exact truthy_none ⟨H, I, q⟩
  | bl b =>
    cases rx
    have e' : k = b := e
    subst e'
    exact wpAny_truthy_bool ⟨H, I, q⟩
  | int i =>
    obtain ⟨t, rfl⟩ := rx
    have e' : k = (i != 0) := e
    subst e'
    exact PySem.P.truthy_int ⟨H, I, q⟩
  | str y =>
    obtain ⟨t, rfl⟩ := rx
    obtain ⟨hy, e'⟩ : y.length ≤ sizeLine ∧ k = ((y.length : Int) != 0) := e
    subst e'
    exact PySem.P.truthy_str (by omega) ⟨H, I.tok _, q⟩
  | byt y =>
    obtain ⟨t, rfl⟩ := rx
    obtain ⟨hy, e'⟩ : y.size ≤ sizeLine ∧ k = ((y.size : Int) != 0) := e
    subst e'
    exact PySem.W.truthy_bytes (by omega) ⟨H, I.tok _, q⟩
  | ref p =>
    cases rx
    have e' : (∃ xs, SqL X.K H p xs ∧ k = !xs.isEmpty) ∨ (∃ xs, SqT X.K H p xs ∧ k = !xs.isEmpty) ∨ ∃ kvs, H p = some (.dK kvs) ∧ k = !kvs.isEmpty := e
    rcases e' with ⟨xs, hx, e'⟩ | ⟨xs, hx, e'⟩ | ⟨kvs, hx, e'⟩
    · subst e'
      obtain ⟨its, r, pl, hz⟩ := I.list hx
      have hlen := r.length
      exact wpAny_truthy_list pl.isList (by simp only [List.size_toArray]; omega) ⟨H, I.tok _, by rw [isEmpty_of r]; exact q⟩
    · subst e'
      obtain ⟨its, r, pl, hz⟩ := I.tuple hx
      have hlen := r.length
      exact truthy_tuple pl (by simp only [List.size_toArray]; omega) ⟨H, I.tok _, by rw [isEmpty_of r]; exact q⟩
    · subst e'
      obtain ⟨hz, hS, vs, r, m⟩ : kvs.length ≤ sizeLine ∧ (p == sysModules) = false ∧ ∃ vs, KV kvs vs ∧ s.heap.DictOf (mixKind X.prog X.w) p vs := I.hok p _ hx
      have hlen : kvs.length = vs.length := Paired.length r
      exact wpAny_truthy_dict hS m (by omega) ⟨H, I.tok _, by rw [isEmpty_kv r]; exact q⟩
  | _ => exact (show False from e).elim
/-- any expression whose test is its value's truth (a name, a call, a subscript, a field ..: he by fun _ => rfl) -/
theorem pt_truth (ha : PE X a ta) (he : ∀ whole, isTrue a X.env whole = (do let v ← whole; standAt a.pos; holding [v] (truthy v))) :
    PT X a (fun σ H Q => ta σ H fun x H' => ∃ k, TruV X.K x H' k ∧ Q k H') := by
  intro pins s σ H Q I h
  exact isTrue_plain (thn (ha pins s σ H _ I h) fun v s1 ⟨x, H1, I1, r1, q1⟩ => tru_ok pins s1 σ H1 x v Q I1 r1 q1) (he _)

/-! ### strs and bytes -/
theorem op_add_str : OpR X (binaryOp .Add) (fun x y H Q => ∃ i j, x = .str i ∧ y = .str j ∧ i.length + j.length ≤ sizeLine ∧ Q (.str (i ++ j)) H) := by
  intro pins s σ H x y v u Q I rx ry h
  obtain ⟨i, j, rfl, rfl, hz, q⟩ := h
  obtain ⟨t, rfl⟩ := rx
  obtain ⟨t', rfl⟩ := ry
  exact add_str (fun t' tk => ⟨.str (i ++ j), H, I.tok _, ⟨_, rfl⟩, q⟩) hz
def PlainIxT (b : Expr) : Prop := ∀ o i, subscripted b false o i = operate [o, i] (getItem o i)
/-! ### scalar builtins, by CallR -/
theorem vals1 {x : V} {us : List Value} (r : Vals [x] us) : ∃ u, us = [u] ∧ RelV x u := by
  cases r with
  | cons r1 r2 => cases r2; exact ⟨_, rfl, r1⟩
theorem vals2 {x y : V} {us : List Value} (r : Vals [x, y] us) : ∃ u w', us = [u, w'] ∧ RelV x u ∧ RelV y w' := by
  cases r with
  | cons r1 r2 =>
    cases r2 with
    | cons r3 r4 => cases r4; exact ⟨_, _, rfl, r1, r3⟩
theorem call_abs : CallR X (.builtin "abs") (fun xs H Q => ∃ i, xs = [.int i] ∧ Q (.int (if i < 0 then -i else i)) H) := by
  intro pins s σ H xs us Q I r h
  obtain ⟨i, rfl, q⟩ := h
  obtain ⟨u, rfl, t, rfl⟩ := vals1 r
  exact call_abs_int fun u tk => ⟨.int (if i < 0 then -i else i), H, I.tok _, ⟨_, rfl⟩, q⟩
theorem call_max2 (hc : X.calm = true) : CallR X (.builtin "max") (fun xs H Q => ∃ i j, xs = [.int i, .int j] ∧ Q (.int (if j > i then j else i)) H) := by
  intro pins s σ H xs us Q I r h
  obtain ⟨i, j, rfl, q⟩ := h
  obtain ⟨u, w', rfl, ⟨t, rfl⟩, ⟨t', rfl⟩⟩ := vals2 r
  refine max_two_ints (I.ok.hd hc) fun h' tk k => ⟨_, H, I.kept k, ?_, q⟩
  by_cases hj : j > i
  · rw [if_pos hj, if_pos hj]; exact ⟨_, rfl⟩
  · rw [if_neg hj, if_neg hj]; exact ⟨_, rfl⟩
theorem call_min2 (hc : X.calm = true) : CallR X (.builtin "min") (fun xs H Q => ∃ i j, xs = [.int i, .int j] ∧ Q (.int (if j < i then j else i)) H) := by
  intro pins s σ H xs us Q I r h
  obtain ⟨i, j, rfl, q⟩ := h
  obtain ⟨u, w', rfl, ⟨t, rfl⟩, ⟨t', rfl⟩⟩ := vals2 r
  refine min_two_ints (I.ok.hd hc) fun h' tk k => ⟨_, H, I.kept k, ?_, q⟩
  by_cases hj : j < i
  · rw [if_pos hj, if_pos hj]; exact ⟨_, rfl⟩
  · rw [if_neg hj, if_neg hj]; exact ⟨_, rfl⟩
theorem call_int1 : CallR X (.type "int") (fun xs H Q => (∃ i, xs = [.int i] ∧ Q (.int i) H) ∨ ∃ k, xs = [.bl k] ∧ Q (.int (if k then 1 else 0)) H) := by
  intro pins s σ H xs us Q I r h
  rcases h with ⟨i, rfl, q⟩ | ⟨k, rfl, q⟩
  · obtain ⟨u, rfl, t, rfl⟩ := vals1 r
    exact call_int_int ⟨.int i, H, I, ⟨_, rfl⟩, q⟩
  · obtain ⟨u, rfl, r1⟩ := vals1 r
    cases r1
    exact call_int_bool ⟨.int (if k then 1 else 0), H, I.tok _, ⟨_, rfl⟩, q⟩
/-- len of a str, a bytes, a list, a tuple -/
def LenV (K : PySem.W.Frag) (x : V) (H : Hp) (n : Nat) : Prop :=
  match x with
  | .str y => y.length ≤ sizeLine ∧ n = y.length
  | .byt y => y.size ≤ sizeLine ∧ n = y.size
  | .ref p => (∃ xs, SqL K H p xs ∧ n = xs.length) ∨ ∃ xs, SqT K H p xs ∧ n = xs.length
  | _ => False
end
end L2

namespace L2
open PySem PySem.Spec PyProof.Rows

/-! ### an instance, its attributes a map -/
structure ObjM (h : Heap) (x dx C : Addr) (mA : Str → Option Value) : Prop where
  obj : h.get? x = some (PySem.W.instObj C dx)
  ns : h.Ns1 dx mA
  ne : dx ≠ x

theorem lookIn_ns {h : Heap} {dx : Addr} {mA : Str → Option Value} (n : h.Ns1 dx mA) : ∃ od, h.get? dx = some od ∧ ∀ name, PySem.W.lookIn name od = some (mA name) := by
  obtain ⟨o, es, ep, ho, hd, hk, _, hm⟩ := n
  refine ⟨o, ho, fun name => ?_⟩
  have e := hm name
  unfold nsFind findBy at e
  rw [← Array.find?_toList] at e
  unfold PySem.W.lookIn
  rw [hd]
  dsimp only
  split
  · rename_i y q
    rw [q] at e
    exact congrArg some e
  · rename_i q
    rw [q] at e
    have a : es.toList.any (·.refKey) = false := by
      rw [List.any_eq_false]
      intro y hy
      obtain ⟨z, t, hkey⟩ := hk y (Array.mem_toList_iff.mp hy)
      simp [DictEntry.refKey, hkey]
    have a' : ¬ es.toList.any (·.refKey) = true := by rw [a]; exact Bool.false_ne_true
    rw [if_neg a']
    exact congrArg some e

theorem ObjM.look {h : Heap} {x dx C : Addr} {mA : Str → Option Value} (I : ObjM h x dx C mA) : ∃ od, PySem.W.InstAt h x (PySem.W.instObj C dx) C (some od) ∧ ∀ name, PySem.W.lookIn name od = some (mA name) :=
  let ⟨od, ho, hl⟩ := lookIn_ns I.ns
  ⟨od, ⟨I.obj, rfl, rfl, ho⟩, hl⟩

section
variable {prog : Program} {w : World} {A : Around} {E : Value → Shared → Prop} {s : Shared} {K : PySem.W.Frag} {x dx C f : Addr} {mA : Str → Option Value} {name : Str} {v : Value}

end

/-! ### the attributes as a list of pairs -/
def putF (f : Str) (v : V) : List (Str × V) → List (Str × V)
  | [] => [(f, v)]
  | (g, x) :: r => if g = f then (g, v) :: r else (g, x) :: putF f v r
theorem RelO.some_of {v : V} {o : Option Value} (r : RelO (some v) o) : ∃ u, o = some u ∧ RelV v u := by
  cases o with
  | none => exact (show False from r).elim
  | some u => exact ⟨u, rfl, r⟩
theorem handed_of {v : V} {u : Value} (r : RelV v u) : PySem.W.handedIn u = true := by
  cases v with
  | non => cases (show u = Value.none from r); rfl
  | bl b => cases (show u = Value.bool b from r); rfl
  | int i => obtain ⟨t, e⟩ := (show ∃ t, u = Value.int i t from r); cases e; rfl
  | str x => obtain ⟨t, e⟩ := (show ∃ t, u = Value.str x t from r); cases e; rfl
  | byt b => obtain ⟨t, e⟩ := (show ∃ t, u = Value.bytes b t from r); cases e; rfl
  | flt b => obtain ⟨t, e⟩ := (show ∃ t, u = Value.float b t from r); cases e; rfl
  | ref a => cases (show u = Value.ref a from r); rfl
  | ty n => cases (show u = Value.type n from r); rfl

section
variable {P : Program} {w : World} {H H' : Hp} {h h' : Heap} {a C dx : Addr} {fs fs' : List (Str × V)}
theorem ins_get (hok : HOk P w H h) (e : H a = some (.ins C dx fs)) : ∃ mA, ObjM h a dx C mA ∧ (∀ f, RelO (fs.lookup f) (mA f)) ∧ PySem.Within mA (fs.map (·.1)) ∧ fs.length ≤ 1000 ∧ H dx = some (.own a) := by
  obtain ⟨d, z, ne, ob, mA, n, r, q⟩ := (show ObjOk P w H h a (.ins C dx fs) from hok a _ e)
  exact ⟨mA, ⟨ob, n, ne⟩, r, q, z, d⟩
end

/-! ### what of the text a class must have -/
structure Cls (K : PySem.W.Frag) (C : Addr) : Prop where
  pg : PySem.W.plainGet K C Str.empty = true
  hd : PySem.W.hasDictIn K C = true
  po : PySem.W.plainOver K C = true
  sa : PySem.W.findIn K (.ref C) "__setattr__" = some (some (.builtin "object.__setattr__"))
theorem Cls.get {K : PySem.W.Frag} {C : Addr} (c : Cls K C) (f : Str) : PySem.W.plainGet K C f = true := c.pg
/-- no class of it has the name -/
def NoAttr (K : PySem.W.Frag) (C : Addr) (f : Str) : Prop := PySem.W.findIn K (.ref C) f = some none
/-- a constant of the class -/
structure Con (K : PySem.W.Frag) (C : Addr) (f : Str) (v : V) (u : Value) : Prop where
  at_ : PySem.W.findIn K (.ref C) f = some (some u)
  rel : RelV v u
  get : PySem.W.specialIn K u "__get__" = some none
  cp : PySem.W.copiedNames.contains f = false
/-- a method: a plain def of the class or of one above it -/
structure Meth (K : PySem.W.Frag) (C : Addr) (m : Str) (f : Addr) : Prop where
  at_ : PySem.W.findIn K (.ref C) m = some (some (.ref f))
  fn : PySem.W.isFn K (.ref f) = true
  kp : PySem.W.keepIn K (.ref f) = true

section
variable {X : Cx} {pins : List (Addr × Obj)} {σ : St} {H : Hp} {s : Shared} {a C dx : Addr} {fs : List (Str × V)} {f : Str} {v : V} {A : Around} {E : Value → Shared → Prop}

/-- e.f where nothing but the object is asked: through attributeBase (super) and the last hold -/
theorem attr_of {prog : Program} {w : World} {env : Env} {e : Expr} {f : Str} {pos : Pos} {s : Shared} {Q : Value → Shared → Prop} (hb : attributeBase e f env (eval e env) = eval e env)
    (h : wpAny (model prog w) A (eval e env) (fun o s₁ => wpAny (model prog w) A (getAttr o f true) Q E s₁) E s) : wpAny (model prog w) A (eval (.Attribute e f pos) env) Q E s :=
  Attribute_any_ h (by rw [arm_eval_Attribute, hb])
end

/-! ### readings and rules -/
/-- e.f, an attribute of the instance -/
def tFld (K : PySem.W.Frag) (ta : TE) (f : Str) : TE := fun σ H Q => ta σ H fun x H1 => ∃ a C dx fs v, x = .ref a ∧ H1 a = some (.ins C dx fs) ∧ Cls K C ∧ NoAttr K C f ∧ fs.lookup f = some v ∧ Q v H1
/-- e.f, a constant of the class -/
def tCon (K : PySem.W.Frag) (ta : TE) (f : Str) : TE := fun σ H Q => ta σ H fun x H1 => ∃ a C dx fs v u, x = .ref a ∧ H1 a = some (.ins C dx fs) ∧ Cls K C ∧ Con K C f v u ∧ fs.lookup f = none ∧ Q v H1
/-- e.f = value -/
def sFld (K : PySem.W.Frag) (ta tv : TE) (f : Str) : TS := fun D σ H => tv σ H fun y H1 => ta σ H1 fun x H2 => ∃ a C dx fs, x = .ref a ∧ H2 a = some (.ins C dx fs) ∧ Cls K C ∧ NoAttr K C f ∧ fs.length < 1000 ∧
  D.nx σ (upd H2 a (.ins C dx (putF f y fs)))
/-- an augmented operator on two values -/
def InOp (X : Cx) (op : Operator) (rd : V → V → Hp → VK → Prop) : Prop :=
  ∀ (pins : List (Addr × Obj)) (s : Shared) (σ : St) (H : Hp) (x y : V) (u v : Value) (Q : VK), Inv X pins σ H s → RelV x u → RelV y v → rd x y H Q → wpAny (model X.prog X.w) X.A (inplaceOp op u v) (EP X pins σ Q) X.xe s
/-- e.f op= value -/
def sFldAug (K : PySem.W.Frag) (ta tv : TE) (rd : V → V → Hp → VK → Prop) (f : Str) : TS := fun D σ H => ta σ H fun x H1 => ∃ a C dx fs v, x = .ref a ∧ H1 a = some (.ins C dx fs) ∧ Cls K C ∧ NoAttr K C f ∧ fs.lookup f = some v ∧
  tv σ H1 fun y H2 => rd v y H2 fun z H3 => ∃ dx' fs', H3 a = some (.ins C dx' fs') ∧ fs'.length < 1000 ∧ D.nx σ (upd H3 a (.ins C dx' (putF f z fs')))

section
variable {X : Cx} {o e value : Expr} {f : Str} {pos pos' tpos : Pos} {ta tv : TE}
def rAdd : V → V → Hp → VK → Prop := fun x y H Q => ∃ i j, x = .int i ∧ y = .int j ∧ Q (.int (i + j)) H
def rSub : V → V → Hp → VK → Prop := fun x y H Q => ∃ i j, x = .int i ∧ y = .int j ∧ Q (.int (i - j)) H
end

/-! ### isinstance -/
section
variable {X : Cx} {pins : List (Addr × Obj)} {σ : St} {H : Hp} {s : Shared} {A : Around} {E : Value → Shared → Prop} {Q : Value → Shared → Prop} {c : Value} {b : Bool}
/-- the type of a value, as the fragment's deciders take it; for an instance its class -/
inductive TyOf (K : PySem.W.Frag) (H : Hp) : V → Value → Prop where
  | non : TyOf K H .non (.type "NoneType")
  | bl (x : Bool) : TyOf K H (.bl x) (.type "bool")
  | int (i : Int) : TyOf K H (.int i) (.type "int")
  | str (x : Str) : TyOf K H (.str x) (.type "str")
  | flt (x : UInt64) : TyOf K H (.flt x) (.type "float")
  | lst {a : Addr} {xs : List V} (e : H a = some (.lst xs)) : TyOf K H (.ref a) (.type "list")
  | frz {a : Addr} {o : Obj} {xs : List V} (e : H a = some (.frz o (.lst xs))) : TyOf K H (.ref a) (.type "list")
  | tup {a : Addr} {xs : List V} (e : H a = some (.tup xs)) : TyOf K H (.ref a) (.type "tuple")
  | dK {a : Addr} {kvs : List (Key × V)} (e : H a = some (.dK kvs)) : TyOf K H (.ref a) (.type "dict")
  | dT {a : Addr} {kvs : List (List Key × V)} (e : H a = some (.dT kvs)) : TyOf K H (.ref a) (.type "dict")
  | ins {a C dx : Addr} {fs : List (Str × V)} (e : H a = some (.ins C dx fs)) (cl : Cls K C) (ha : PySem.W.findIn K (.ref C) "__class__" = some (some (.builtin "object.__class__")))
      (hn : PySem.W.specialIn K (.builtin "object.__class__") "__get__" = some (some (.builtin "getset_descriptor.__get__"))) (htk : PySem.W.takesIn K (.builtin "object.__class__") = some true)
      (hm : PySem.W.mroIn K C (.type "object") = some true) : TyOf K H (.ref a) (.ref C)
/-- isinstance(x, c) for one class c, a built-in or an own one: kitOne's answer -/
theorem isinst_ok {x : V} {u t : Value} (I : Inv X pins σ H s) (rx : RelV x u) (ty : TyOf X.K H x t) (e : PySem.W.kitOne X.K t c = some b) (h : ∀ tk, Q (.bool b) { s with toks := tk }) :
    wpAny (model X.prog X.w) A (call (.builtin "isinstance") [u, c]) Q E s := by
  cases ty with
  | non => cases (show u = Value.none from rx); exact PySem.W.kia_one PySem.W.kitx_none I.kIn True.intro e (fun z => nomatch z) h
  | bl y => cases (show u = Value.bool y from rx); exact PySem.W.kia_one PySem.W.kitx_bool I.kIn True.intro e (fun z => nomatch z) h
  | int i => obtain ⟨t, q⟩ := (show ∃ t, u = Value.int i t from rx); cases q; exact PySem.W.kia_one PySem.W.kitx_int I.kIn True.intro e (fun z => nomatch z) h
  | str y => obtain ⟨t, q⟩ := (show ∃ t, u = Value.str y t from rx); cases q; exact PySem.W.kia_one PySem.W.kitx_str I.kIn True.intro e (fun z => nomatch z) h
  | flt y => obtain ⟨t, q⟩ := (show ∃ t, u = Value.float y t from rx); cases q; exact PySem.W.kia_one PySem.W.kitx_float I.kIn True.intro e (fun z => nomatch z) h
  | @lst a xs ea =>
    cases (show u = Value.ref a from rx)
    obtain ⟨_, _, n, _, h1⟩ := (show ObjOk X.prog X.w H s.heap a (.lst xs) from I.hok a _ ea)
    exact PySem.W.kia_one PySem.W.kitx_list I.kIn ⟨_, h1, rfl⟩ e (fun z => nomatch z) h
  | @frz a ob xs ea =>
    cases (show u = Value.ref a from rx)
    obtain ⟨_, _, _, n, _, h1⟩ := (show ObjOk X.prog X.w H s.heap a (.frz ob (.lst xs)) from I.hok a _ ea)
    exact PySem.W.kia_one PySem.W.kitx_list I.kIn ⟨_, h1, rfl⟩ e (fun z => nomatch z) h
  | @tup a xs ea =>
    cases (show u = Value.ref a from rx)
    obtain ⟨_, _, _, p⟩ := (show ObjOk X.prog X.w H s.heap a (.tup xs) from I.hok a _ ea)
    obtain ⟨o, h1, h2, _⟩ := p
    exact PySem.W.kia_one PySem.W.kitx_tuple I.kIn ⟨o, h1, h2⟩ e (fun z => nomatch z) h
  | @dK a kvs ea =>
    cases (show u = Value.ref a from rx)
    obtain ⟨_, _, vs, _, p⟩ := (show ObjOk X.prog X.w H s.heap a (.dK kvs) from I.hok a _ ea)
    obtain ⟨o, es, ep, h1, h2, _⟩ := p
    exact PySem.W.kia_one PySem.W.kitx_dict I.kIn ⟨o, h1, h2.1⟩ e (fun z => nomatch z) h
  | @dT a kvs ea =>
    cases (show u = Value.ref a from rx)
    obtain ⟨_, _, xs, _, o, es, ep, h1, h2, _⟩ := (show ObjOk X.prog X.w H s.heap a (.dT kvs) from I.hok a _ ea)
    exact PySem.W.kia_one PySem.W.kitx_dict I.kIn ⟨o, h1, h2.1⟩ e (fun z => nomatch z) h
  | @ins a C dx fs ea cl ha hn htk hm =>
    cases (show u = Value.ref a from rx)
    obtain ⟨mA, O, _⟩ := ins_get I.hok ea
    obtain ⟨od, J, _⟩ := O.look
    exact PySem.W.kia_one (PySem.W.kitx_own (cl.get _) cl.hd ha hn htk hm) I.kIn J e (fun z => nomatch z) h
end
end L2

namespace L2
open PySem PySem.Spec PyProof.Rows

/-! ### room -/
structure Room (k : Nat) (A : Around) : Prop where
  hd : A.handled = none
  dp : A.depth + 3 * k + 5 < recursionLimit
  un : A.units + 16 * k + 200 < cLine
  gd : A.guards = some []
theorem Room.mono {j k : Nat} {A : Around} (r : Room k A) (h : j ≤ k) : Room j A := ⟨r.hd, by have := r.dp; omega, by have := r.un; omega, r.gd⟩
theorem Room.deeper {k : Nat} {A : Around} (r : Room (k + 1) A) (env : Env) : Room k (A.deeper env) :=
  ⟨r.hd, by have := r.dp; show A.depth + 1 + 3 * k + 5 < _; omega, by have := r.un; show A.units + 3 + 16 * k + 200 < _; omega, r.gd⟩
theorem make_depth {A : Around} {C : Addr} {us : List Value} {kw : List (Str × Value)} : (A.under (.builtin "type.__call__" ⟨.ref C :: us, kw⟩)).depth = A.depth + 1 := by
  first | rfl | simp [Around.under, Code.weight, Code.isCreation, Code.isGuard, Code.isCaller, Code.frames, Code.isFrame, guardIds]
theorem make_units {A : Around} {C : Addr} {us : List Value} {kw : List (Str × Value)} : (A.under (.builtin "type.__call__" ⟨.ref C :: us, kw⟩)).units = A.units + 1 := by
  first | rfl | simp [Around.under, Code.cUnits, Code.frames, Code.isFrame]
theorem make_guards {A : Around} {C : Addr} {us : List Value} {kw : List (Str × Value)} : (A.under (.builtin "type.__call__" ⟨.ref C :: us, kw⟩)).guards = A.guards := by
  first | rfl | simp [Around.under, Code.guards, Code.isGuard, guardIds, pushGuards]
theorem Room.make {k : Nat} {A : Around} (r : Room (k + 1) A) (C : Addr) (us : List Value) (kw : List (Str × Value)) : Room k (A.under (.builtin "type.__call__" ⟨.ref C :: us, kw⟩)) :=
  ⟨r.hd, by have := r.dp; rw [make_depth]; omega, by have := r.un; rw [make_units]; omega, by rw [make_guards]; exact r.gd⟩
theorem Room.depth {k : Nat} {A : Around} (r : Room k A) : A.depth < recursionLimit := by have := r.dp; omega
theorem Room.units {k : Nat} {A : Around} (r : Room k A) : A.units + 64 < cLine := by have := r.un; omega
/-! ### argument lists and displays -/
def tNil : TA := fun _ H Q => Q [] H
def tCons (ta : TE) (tr : TA) : TA := fun σ H Q => ta σ H fun x H1 => tr σ H1 fun xs H2 => Q (x :: xs) H2
section
variable {X : Cx} {e : Expr} {es : List Expr} {te : TE} {t : TA} {pos : Pos}
theorem pa_nil : PA X [] tNil := fun _ _ _ _ H Q I h => Calls.spliced_nil ⟨[], H, I, .nil, h⟩
theorem pa_cons (ha : PE X e te) (hr : PA X es t) (hs : starEach (e :: es) X.env = (false, eval e X.env) :: starEach es X.env := by rfl) : PA X (e :: es) (tCons te t) := by
  intro pos pins s σ H Q I h
  rw [hs]
  show wpAny _ _ (spliced ((false, eval e X.env) :: backTo pos (starEach es X.env))) _ _ s
  refine Calls.spliced_cons (thn (ha pins s σ H _ I h) fun u s1 ⟨x, H1, I1, r1, q1⟩ => ?_)
  exact thn (hr pos pins s1 σ H1 _ I1 q1) fun us s2 ⟨xs, H2, I2, r2, q2⟩ => ⟨x :: xs, H2, I2, .cons r1 r2, q2⟩

/-- a tuple, a list of written items -/
def tTup (t : TA) : TE := fun σ H Q => t σ H fun xs H1 => xs.length ≤ sizeLine ∧ ∀ p, H1 p = none → Q (.ref p) (upd H1 p (.tup xs))
def tLst (t : TA) : TE := fun σ H Q => t σ H fun xs H1 => xs.length ≤ sizeLine ∧ ∀ p, H1 p = none → Q (.ref p) (upd H1 p (.lst xs))
theorem pe_tup {x1} (h : PA X es t) : PE X (.Tuple es x1 pos) (tTup t) := by
  intro pins s σ H Q I hq
  refine wpAny_Tuple_spliced (thn (h pos pins s σ H _ I hq) fun us s1 ⟨xs, H1, I1, r, z, q⟩ => ⟨by rw [← r.length]; exact z, ?_⟩)
  have hf : H1 s1.heap.objs.size = none := I1.hok.fresh (Nat.le_refl _)
  refine ⟨.ref s1.heap.objs.size, upd H1 s1.heap.objs.size (.tup xs), I1.laid (t' := s1.toks) (fun b u e => Heap.get?_push_of_some _ e) (Nat.le_refl _) ?_, rfl, q _ hf⟩
  exact ⟨z, us, r, ⟨_, Heap.get?_push_size _ rfl, rfl, _, rfl⟩⟩
theorem pe_lst (h : PA X es t) : PE X (.List es pos) (tLst t) := by
  intro pins s σ H Q I hq
  refine wpAny_List_spliced (thn (h pos pins s σ H _ I hq) fun us s1 ⟨xs, H1, I1, r, z, q⟩ => ⟨by rw [← r.length]; exact z, ?_⟩)
  have hf : H1 s1.heap.objs.size = none := I1.hok.fresh (Nat.le_refl _)
  refine ⟨.ref s1.heap.objs.size, upd H1 s1.heap.objs.size (.lst xs), I1.laid (t' := s1.toks) (fun b u e => Heap.get?_push_of_some _ e) (Nat.le_refl _) ?_, rfl, q _ hf⟩
  exact ⟨z, us, 0, r, Heap.get?_push_size _ rfl⟩
end

/-! ### what a def promises -/
/-- a def's promise: the bound arguments in the parameters' order, the heap, the wanted end, the wanted exception -/
abbrev Sp := List V → Hp → VK → XK → Prop
/-- how an exception lies behind a call (file 08 gives it): the callers' frames, abstract heap and state ahead of the call, the wish, the exception, the state -/
abbrev CXT := List Env → Hp → Shared → XK → Value → Shared → Prop

/-- the state at a call -/
structure Env0 (P : Program) (w : World) (K : PySem.W.Frag) (mg : Str → Option Value) (base : Heap) (A : Around) (outer : List Env) (s : Shared) (H : Hp) : Prop where
  frames : A.frames = some outer
  mod : Mod K mg base
  bs : ∀ b o, base.get? b = some o → s.heap.get? b = some o ∧ H b = none
  bsz : base.objs.size ≤ s.heap.objs.size
  funs : s.heap.FunFrames base outer
  frf : ∀ b ∈ frs outer, H b = none
  hok : HOk P w H s.heap
  bare : AllBare s.gens
/-- a call's end -/
def CE (outer : List Env) (P : Program) (w : World) (H : Hp) (s : Shared) (Q : VK) (u : Value) (s' : Shared) : Prop :=
  ∃ v H', s'.os = s.os ∧ AllBare s'.gens ∧ Un (frs outer) [] H H' s.heap s'.heap ∧ HOk P w H' s'.heap ∧ RelV v u ∧ Q v H'
def CR (CX : CXT) (outer : List Env) (P : Program) (w : World) (H : Hp) (s : Shared) (Q : VK) (E : XK) (r : Result) (s' : Shared) : Prop :=
  match r with
  | .ok (.ret u) => CE outer P w H s Q u s'
  | .ok _ => False
  | .error e => CX outer H s E e s'
structure FnOk (P : Program) (w : World) (K : PySem.W.Frag) (mg : Str → Option Value) (base : Heap) (CX : CXT) (k : Nat) (f : Addr) (fd : FuncData) (ps : List Str) (sp : Sp) : Prop where
  len : ∀ vs H Q E, sp vs H Q E → vs.length = ps.length
  run : ∀ (A : Around) (outer : List Env) (s : Shared) (H : Hp) (args : Args) (us : List Value) (vs : List V) (Q : VK) (E : XK), Room k A → Env0 P w K mg base A outer s H → BindsTo s fd args (ps.zip us) → Vals vs us → sp vs H Q E →
    codeAny (model P w) A (.call (.ref f) args) (CR CX outer P w H s Q E) s
theorem Env0.make {P : Program} {w : World} {K : PySem.W.Frag} {mg : Str → Option Value} {base : Heap} {A : Around} {outer : List Env} {s : Shared} {H : Hp} (e : Env0 P w K mg base A outer s H) (C : Addr) (us : List Value) (kw : List (Str × Value)) :
    Env0 P w K mg base (A.under (.builtin "type.__call__" ⟨.ref C :: us, kw⟩)) outer s H := ⟨by first | exact e.frames | (simpa [Around.under, Code.envs, Code.isFrame, pushEnvs] using e.frames), e.mod, e.bs, e.bsz, e.funs, e.frf, e.hok, e.bare⟩
section
variable {X : Cx} {pins : List (Addr × Obj)} {σ : St} {H : Hp} {s s' : Shared}
/-- from a body: what a callee wants -/
theorem Inv.env0 (I : Inv X pins σ H s) : Env0 X.prog X.w X.K X.mg X.base X.A X.stack s H :=
  ⟨I.ok.frames, I.ok.mod, I.bs, Nat.le_trans I.ok.bsz I.sz, I.stack, I.stkFree, I.hok, I.bare⟩
/-- behind a call -/
theorem Inv.after {Q : VK} {u : Value} (I : Inv X pins σ H s) (h : CE X.stack X.prog X.w H s Q u s') : EP X pins σ Q u s' := by
  obtain ⟨v, H', os, bare, un, hok, r, q⟩ := h
  obtain ⟨hh, g, d, t, os'⟩ := s'
  obtain rfl : os' = s.os := os
  exact ⟨v, H', I.call (h' := hh) (g' := g) (d' := d) (t' := t) (ch := []) un hok bare (fun b z => absurd z (by simp)), r, q⟩
end

/-! ### calls -/
/-- f(..): the written arguments, then the defaults dvs; E: what is wanted of an exception -/
def tCall (sp : Sp) (dvs : List V) (E : XK) (t : TA) : TE := fun σ H Q => t σ H fun vs H1 => sp (vs ++ dvs) H1 Q E
/-- o.m(..) of an instance of the class at C -/
def tMeth (C : Addr) (m : Str) (sp : Sp) (dvs : List V) (E : XK) (ta : TE) (t : TA) : TE := fun σ H Q => ta σ H fun x H1 => ∃ a dx fs, x = .ref a ∧ H1 a = some (.ins C dx fs) ∧ fs.lookup m = none ∧
  t σ H1 fun vs H2 => sp (x :: (vs ++ dvs)) H2 Q E
/-- C(..): a new instance and its dict, then __init__ -/
def tMake (C : Addr) (sp : Sp) (dvs : List V) (E : XK) (t : TA) : TE := fun σ H Q => t σ H fun vs H1 => ∀ x dx, H1 x = none → H1 dx = none → dx ≠ x →
  sp (.ref x :: (vs ++ dvs)) (upd (upd H1 dx (.own x)) x (.ins C dx [])) (fun v H2 => v = .non ∧ Q (.ref x) H2) E

/-- how the parameters are bound: us the positional arguments, kw the keywords' values by name, ds the defaults that fill up -/
def Binds (K : PySem.W.Frag) (fd : FuncData) (ps : List Str) (ds : List Value) : Prop :=
  ∀ (s : Shared) (us : List Value), K.In s.heap → (us ++ ds).length = ps.length → BindsTo s fd ⟨us, []⟩ (ps.zip (us ++ ds))
/-- every parameter is given -/
theorem Binds.all {K : PySem.W.Frag} {fd : FuncData} {ps : List Str} (h : ∀ us : List Value, us.length = ps.length → bindArgs fd ⟨us, []⟩ = pure (ps.zip us)) : Binds K fd ps [] := fun s us _ hl => by
  rw [List.append_nil] at hl ⊢
  exact .of_eq (h us hl)

/-- an exception of a callee reaches what this body wants of exceptions -/
def Passes (CX : CXT) (X : Cx) (E : XK) : Prop := ∀ (pins : List (Addr × Obj)) (σ : St) (H : Hp) (s : Shared) (e : Value) (s' : Shared), Inv X pins σ H s → CX X.stack H s E e s' → X.xe e s'

section
variable {X : Cx} {CX : CXT} {k : Nat} {f C : Addr} {fd : FuncData} {ps : List Str} {sp : Sp} {dvs : List V} {ds : List Value} {E : XK} {x m : Str} {p pos apos : Pos} {e o : Expr} {es : List Expr} {ta : TE} {t : TA}

/-- the callee runs -/
theorem run_fn {pins : List (Addr × Obj)} {σ : St} {H : Hp} {s : Shared} {Q : VK} {us : List Value} {vs : List V} (F : FnOk X.prog X.w X.K X.mg X.base CX k f fd ps sp) (hr : Room k X.A) (hb : Binds X.K fd ps ds) (hd : Vals dvs ds) (hx : Passes CX X E)
    (I : Inv X pins σ H s) (r : Vals vs us) (h : sp (vs ++ dvs) H Q E) : wpAny (model X.prog X.w) X.A (call (.ref f) us) (EP X pins σ Q) X.xe s := by
  have r2 : Vals (vs ++ dvs) (us ++ ds) := r.append hd
  have hl : (us ++ ds).length = ps.length := by rw [← r2.length]; exact F.len _ _ _ _ h
  refine wpAny_call (codeAny_mono (F.run X.A X.stack s H ⟨us, []⟩ (us ++ ds) (vs ++ dvs) Q E hr I.env0 (hb s us I.kIn hl) r2 h) fun r s' hq => ?_)
  cases r with
  | error e => exact hx pins σ H s e s' I hq
  | ok fl =>
    cases fl with
    | ret u => exact I.after hq
    | next => exact False.elim hq
    | brk => exact False.elim hq
    | cont => exact False.elim hq

theorem pe_call (F : FnOk X.prog X.w X.K X.mg X.base CX k f fd ps sp) (hr : Room k X.A) (hg : Gl X x) (hm : X.mg x = some (.ref f)) (hk : PySem.W.keepIn X.K (.ref f) = true) (hb : Binds X.K fd ps ds) (hd : Vals dvs ds) (hx : Passes CX X E)
    (ha : PA X (e :: es) t) (hdb : (x == ("__debug__" : Str)) = false := by decide) (he : starEach (e :: es) X.env = (false, eval e X.env) :: starEach es X.env := by rfl) (hpl : (backTo pos (starEach es X.env)).any (·.1) = false := by rfl) :
    PE X (.Call (.Name x p) (e :: es) [] pos) (tCall sp dvs E t) := by
  intro pins s σ H Q I h
  refine wpAny_Call_Name_kw (ld_glob I hg hm ?_ hdb)
  refine PySem.W.callWith_K (h₀ := X.base) I.ok.mod.kin hk (thn (ha pos pins s σ H _ I h) fun us s1 ⟨vs, H1, I1, r, q⟩ => ⟨I1.kIn, ?_⟩) he hpl
  exact run_fn F hr hb hd hx I1 r q
/-- what a class must have to be made -/
structure Mk (K : PySem.W.Frag) (C f : Addr) : Prop where
  makes : PySem.W.makesIn K C = true
  init : PySem.W.findIn K (.ref C) "__init__" = some (some (.ref f))
  fn : PySem.W.isFn K (.ref f) = true
  kp : PySem.W.keepIn K (.ref C) = true

end

/-! ### keywords -/
/-- the values of the keywords, from the left -/
def PK (X : Cx) (kws : List Keyword) (t : TA) : Prop :=
  ∀ (pos : Pos) (pins : List (Addr × Obj)) (s : Shared) (σ : St) (H : Hp) (Q : List V → Hp → Prop), Inv X pins σ H s → t σ H Q → wpAny (model X.prog X.w) X.A (evalAll ((backToKw pos (keywordEach kws X.env)).map (·.2))) (AP X pins σ Q) X.xe s
section
variable {X : Cx} {CX : CXT} {k : Nat} {f C : Addr} {fd : FuncData} {ps ks : List Str} {sp : Sp} {E : XK} {x m : Str} {p pos apos kpos : Pos} {e o : Expr} {es : List Expr} {kws : List Keyword} {te ta : TE} {t tk : TA} {nm : Option Str}
/-- how a call with keywords binds: g puts the positional values us and the keywords' values ws (names ks) in the parameters' order, defaults among them -/
structure KBinds (K : PySem.W.Frag) (fd : FuncData) (ps ks : List Str) (g : List Value → List Value → List Value) (gV : List V → List V → List V) : Prop where
  to : ∀ (s : Shared) (us ws : List Value), K.In s.heap → (g us ws).length = ps.length → BindsTo s fd ⟨us, ks.zip ws⟩ (ps.zip (g us ws))
  rel : ∀ {vs : List V} {us : List Value} {zs : List V} {ws : List Value}, Vals vs us → Vals zs ws → Vals (gV vs zs) (g us ws)
def tCallK (sp : Sp) (gV : List V → List V → List V) (E : XK) (t tk : TA) : TE := fun σ H Q => t σ H fun vs H1 => tk σ H1 fun zs H2 => sp (gV vs zs) H2 Q E
variable {g : List Value → List Value → List Value} {gV : List V → List V → List V}
end

/-! ### a def's body keeps its promise -/
/-- names: the parameters first -/
structure FnScope (N P : List Str) (sc : Scope) : Prop where
  kind : sc.kind = .function
  co : sc.isCoroutine = false
  gen : sc.isGenerator = false
  nd : N.Nodup
  pre : N.take P.length = P
  par : ∀ x ∈ P, sc.names.lookup x = some .local ∨ sc.names.lookup x = some .cell
  nofree : ∀ y ∈ sc.names, y.2 ≠ .free

theorem bindL_out {kindOf : Str → Option NameKind} {x : Str} : ∀ {binds : List (Str × Value)} {m : Str → Option Value}, (∀ v, (x, v) ∉ binds) → bindL kindOf binds m x = m x
  | [], _, _ => rfl
  | (n, v) :: r, m, h => by
    unfold bindL
    rw [bindL_out fun w hw => h w (List.mem_cons_of_mem _ hw)]
    split
    · have : x ≠ n := by rintro rfl; exact h v List.mem_cons_self
      simp [this]
    · rfl
theorem bindC_out {kindOf : Str → Option NameKind} {x : Str} : ∀ {binds : List (Str × Value)} {m : Str → Option Value}, (∀ v, (x, v) ∉ binds) → bindC kindOf binds m x = m x
  | [], _, _ => rfl
  | (n, v) :: r, m, h => by
    unfold bindC
    rw [bindC_out fun w hw => h w (List.mem_cons_of_mem _ hw)]
    split
    · rfl
    · have : x ≠ n := by rintro rfl; exact h v List.mem_cons_self
      simp [this]
theorem bindL_get {kindOf : Str → Option NameKind} {x : Str} {v : Value} : ∀ {P : List Str} {vs : List Value} {i : Nat} {m : Str → Option Value}, P.Nodup → P[i]? = some x → vs[i]? = some v → kindOf x = some .local →
    bindL kindOf (P.zip vs) m x = some v
  | [], _, _, _, _, h, _, _ => by simp at h
  | _ :: _, [], _, _, _, _, h, _ => by simp at h
  | p :: P, w :: vs, 0, m, nd, h1, h2, hk => by
    simp at h1 h2; subst h1; subst h2
    show bindL kindOf ((p, w) :: P.zip vs) m p = _
    unfold bindL
    rw [bindL_out fun v hv => (List.nodup_cons.mp nd).1 (List.of_mem_zip hv).1, if_pos hk]
    simp
  | p :: P, w :: vs, i + 1, m, nd, h1, h2, hk => by
    show bindL kindOf ((p, w) :: P.zip vs) m x = _
    unfold bindL
    exact bindL_get (i := i) (List.nodup_cons.mp nd).2 (by simpa using h1) (by simpa using h2) hk
theorem bindC_get {kindOf : Str → Option NameKind} {x : Str} {v : Value} : ∀ {P : List Str} {vs : List Value} {i : Nat} {m : Str → Option Value}, P.Nodup → P[i]? = some x → vs[i]? = some v → kindOf x ≠ some .local →
    bindC kindOf (P.zip vs) m x = some v
  | [], _, _, _, _, h, _, _ => by simp at h
  | _ :: _, [], _, _, _, _, h, _ => by simp at h
  | p :: P, w :: vs, 0, m, nd, h1, h2, hk => by
    simp at h1 h2; subst h1; subst h2
    show bindC kindOf ((p, w) :: P.zip vs) m p = _
    unfold bindC
    rw [bindC_out fun v hv => (List.nodup_cons.mp nd).1 (List.of_mem_zip hv).1, if_neg hk]
    simp
  | p :: P, w :: vs, i + 1, m, nd, h1, h2, hk => by
    show bindC kindOf ((p, w) :: P.zip vs) m x = _
    unfold bindC
    exact bindC_get (i := i) (List.nodup_cons.mp nd).2 (by simpa using h1) (by simpa using h2) hk

/-- the names' values at the entry -/
def start (N : List Str) (vs : List V) : St := vs.map some ++ List.replicate (N.length - vs.length) none

/-- the context of a def's body, at its entry; an exception leaves the frame, then lies as CX says -/
def cxOf (CX : CXT) (P : Program) (w : World) (K : PySem.W.Frag) (mg : Str → Option Value) (base : Heap) (N : List Str) (qual : Str) (scope : Scope) (f : Addr) (cd : Value) (A : Around) (outer : List Env) (s : Shared) (H : Hp) (E : XK) : Cx where
  prog := P
  w := w
  K := K
  mg := mg
  base := base
  A := A.deeper (envOfC qual scope s.heap.objs.size f cd)
  N := N
  s₀ := s
  H₀ := H
  env := envOfC qual scope s.heap.objs.size f cd
  outer := outer
  stack := envOfC qual scope s.heap.objs.size f cd :: outer
  ex := []
  calm := true
  fn := fun _ => true
  pn := []
  xe := fun e s' => wpAny (model P w) (A.deeper (envOfC qual scope s.heap.objs.size f cd)) (leaving (envOfC qual scope s.heap.objs.size f cd) e) (fun _ s'' => CX outer H s E e s'') (fun e' s'' => CX outer H s E e' s'') s'

theorem cell_has {sc : Scope} {n : Nat} {x : Str} (h : sc.names.lookup x = some .cell) : ∃ c, (cellsFrom n sc.names []).lookup x = some c := by
  have q := PySem.W.cellsFrom_some sc.names n [] (.inl h)
  exact Option.isSome_iff_exists.mp q

theorem inv_start {CX : CXT} {P : Program} {w : World} {K : PySem.W.Frag} {mg : Str → Option Value} {base : Heap} {N ps : List Str} {qual : Str} {scope : Scope} {f : Addr} {cd : Value} {A : Around} {outer : List Env} {s s1 : Shared} {H : Hp} {E : XK} {us : List Value} {vs : List V}
    (S : FnScope N ps scope) (hd : A.handled = none) (e0 : Env0 P w K mg base A outer s H) (hl : vs.length = ps.length) (r : Vals vs us)
    (x : InCallC s s.heap.objs.size (bindL (envOfC qual scope s.heap.objs.size f cd).kindOf (ps.zip us) fun _ => none) (cellsFrom (s.heap.objs.size + 1) scope.names []) (bindC (envOfC qual scope s.heap.objs.size f cd).kindOf (ps.zip us) fun _ => none) s1) :
    Inv (cxOf CX P w K mg base N qual scope f cd A outer s H E) [] (start N vs) H s1 := by
  have hpl : ps.length ≤ N.length := by have := congrArg List.length S.pre; rw [List.length_take] at this; omega
  obtain ⟨h1, tk, rfl, hk⟩ := x.done
  have noA : ∀ b : Addr, b ∉ (cxOf CX P w K mg base N qual scope f cd A outer s H E).ex := fun b z => absurd (show b ∈ ([] : List Addr) from z) (by simp)
  refine ⟨⟨e0.mod, S.kind, rfl, rfl, Nat.le_refl _, fun y z c h1 h2 => ?_, fun y hy => ?_, fun y c _ h => ?_, fun _ => hd, Around.frames_deeper e0.frames, .inr ⟨rfl, rfl⟩, fun b z => absurd z (noA b), e0.bs, e0.bsz, fun b _ _ => noA b, fun b z => absurd z (noA b), e0.funs, e0.frf⟩,
    rfl, e0.bare, Un.kept hk, ⟨_, x.toInCall.ns, fun i y v h1 h2 h3 => ?_⟩, fun y c h => ⟨_, x.cell y c h⟩, e0.hok.fresh (Nat.le_refl _), fun y c h => ?_, fun p hp => absurd (show p ∈ ([] : List (Addr × Obj)) from hp) (by simp), e0.hok.kept hk, ?_⟩
  · exact name_of_addr x.apart (PySem.mem_of_lookup h1) (PySem.mem_of_lookup h2)
  · have hy : scope.names.lookup y = some .cell ∨ scope.names.lookup y = some .free := hy
    rcases hy with hy | hy
    · exact cell_has hy
    · exact absurd rfl (S.nofree _ (PySem.mem_of_lookup hy))
  · exact Nat.le_of_lt (x.above y c (PySem.mem_of_lookup h))
  · have hi : i < vs.length := by
      unfold start at h2
      by_cases hi : i < vs.length
      · exact hi
      · rw [List.getElem?_append_right (by simpa using hi)] at h2
        rw [List.getElem?_replicate] at h2
        split at h2 <;> cases h2
    have ha : vs[i]? = some v := by
      unfold start at h2
      rw [List.getElem?_append_left (by simpa using hi), List.getElem?_map] at h2
      cases e : vs[i]? with
      | none => rw [e] at h2; cases h2
      | some a => rw [e] at h2; cases h2; rfl
    obtain ⟨u, hu, rv⟩ := r.get ha
    have hp : ps[i]? = some y := by
      rw [← S.pre, List.getElem?_take_of_lt (by omega)]; exact h1
    have ndP : ps.Nodup := by rw [← S.pre]; exact S.nd.sublist (List.take_sublist _ _)
    refine ⟨u, rv, ?_⟩
    rcases S.par y (List.mem_of_getElem? hp) with k | k
    · exact .inl ⟨k, bindL_get ndP hp hu k⟩
    · obtain ⟨c, e⟩ := cell_has (n := s.heap.objs.size + 1) k
      refine .inr ⟨.inl k, c, e, ?_⟩
      have q := x.cell y c e
      rw [bindC_get ndP hp hu (by show scope.names.lookup y ≠ _; rw [k]; decide)] at q
      exact q
  · exact e0.hok.fresh (Nat.le_of_lt (x.above y c (PySem.mem_of_lookup h)))
  · unfold start
    show _ = N.length
    rw [List.length_append, List.length_map, List.length_replicate]
    omega

/-- THE RULE: a def (or a method) of the text, by its body. The body's reading t is chosen for each entry; it is run at the parameters' values -/
theorem fn_of {CX : CXT} {P : Program} {w : World} {K : PySem.W.Frag} {mg : Str → Option Value} {base : Heap} {k : Nat} {f : Addr} {name qual : Str} {params : Arguments} {body : List Stmt} {scope : Scope} {dV kV doc pm cdv ct oc : Value} {an od : Option Addr}
    {osl : Array (Option Value)} {N ps : List Str} {sp : Sp} (lk : K.lookup f = some ⟨oc, od, .func (PySem.W.fnOf name qual params body scope dV kV doc pm an cdv ct), osl⟩) (hcd : PySem.W.codeIn K cdv qual = true) (S : FnScope N ps scope)
    (len : ∀ vs H Q E, sp vs H Q E → vs.length = ps.length)
    (hbody : ∀ (A : Around) (outer : List Env) (s : Shared) (H : Hp) (vs : List V) (Q : VK) (E : XK), Room k (A.deeper (envOfC qual scope s.heap.objs.size f cdv)) → sp vs H Q E →
      ∃ t, PSs (cxOf CX P w K mg base N qual scope f cdv A outer s H E) body t ∧ t { nx := fun _ H' => Q .non H', rt := Q } (start N vs) H) :
    FnOk P w K mg base CX (k + 1) f (PySem.W.fnOf name qual params body scope dV kV doc pm an cdv ct) ps sp := by
  refine ⟨len, fun A outer s H args us vs Q E hr e0 hb r hsp => ?_⟩
  have hl := len _ _ _ _ hsp
  have KX : K.In s.heap := e0.mod.kin.keeps fun b o e => (e0.bs b o e).1
  have lim : s.heap.NoLimit := e0.mod.nolimit.keeps fun b o e => (e0.bs b o e).1
  have hkind : ∀ y ∈ ps.zip us, scope.names.lookup y.1 = some .local ∨ (scope.names.lookup y.1 = some .cell ∧ ((cellsFrom (s.heap.objs.size + 1) scope.names []).lookup y.1).isSome = true) := fun ⟨n, v⟩ hy => by
    rcases S.par n (List.of_mem_zip hy).1 with q | q
    · exact .inl q
    · exact .inr ⟨q, PySem.W.cellsFrom_some _ _ _ (.inl q)⟩
  refine codeAny_call_function hr.depth (KX _ _ lk) rfl S.co S.gen rfl (PySem.W.codeRec_of KX hcd) (hb _ _ _ _ ?_)
  refine wpAny_newFunctionEnv_cells S.kind hkind fun env he s1 x => ?_
  subst he
  refine ⟨lim.keeps x.toInCall.keep, codeAny_func ?_⟩
  obtain ⟨t, ht, hq⟩ := hbody A outer s H vs Q E (hr.deeper _) hsp
  have I : Inv (cxOf CX P w K mg base N qual scope f cdv A outer s H E) [] (start N vs) H s1 := inv_start S hr.hd e0 hl r x
  refine wpAny_mono (ht [] s1 (start N vs) H _ I hq) (fun fl s' hs => ?_) fun e s' hs => hs
  have fin : ∀ {σ' : St} {H' : Hp} {v : V} {u : Value}, Inv (cxOf CX P w K mg base N qual scope f cdv A outer s H E) [] σ' H' s' → RelV v u → Q v H' → CE outer P w H s Q u s' :=
    fun {σ' H' v u} J rv q => ⟨v, H', J.os, J.bare, J.base, J.hok, rv, q⟩
  cases fl with
  | ret u =>
    obtain ⟨v, σ', H', J, rv, q⟩ := hs
    exact fin J rv q
  | next =>
    obtain ⟨σ', H', J, q⟩ := hs
    exact fin (v := V.non) (u := Value.none) J rfl q
  | brk =>
    obtain ⟨_, _, _, q⟩ := hs
    exact False.elim q
  | cont =>
    obtain ⟨_, _, _, q⟩ := hs
    exact False.elim q
end L2

namespace L2
open PySem PySem.Spec PyProof.Rows
section
variable {X : Cx} {x : Str} {p pos : Pos} {e : Expr} {es : List Expr} {t : TA} {id T : String} {r : List V → Hp → VK → Prop}

def tCB (r : List V → Hp → VK → Prop) (t : TA) : TE := fun σ H Q => t σ H fun vs H1 => r vs H1 Q
/-- f(e, ..), f a built-in function -/
theorem pe_callB (hc : CallR X (.builtin id) r) (hg : Gl X x) (hm : X.mg x = none) (hv : bootBuiltins x = some (.builtin id)) (ha : PA X (e :: es) t) (hn : x ≠ "__name__" := by decide) (hdb : (x == ("__debug__" : Str)) = false := by decide)
    (he : starEach (e :: es) X.env = (false, eval e X.env) :: starEach es X.env := by rfl) (hpl : (backTo pos (starEach es X.env)).any (·.1) = false := by rfl) : PE X (.Call (.Name x p) (e :: es) [] pos) (tCB r t) := by
  intro pins s σ H Q I h
  refine wpAny_Call_Name_kw (ld_blt I hg hm hv ?_ hn hdb)
  exact PyProof.Rows.callWith_builtin1 (thn (ha pos pins s σ H _ I h) fun us s1 ⟨vs, H1, I1, r1, q1⟩ => hc pins s1 σ H1 vs us Q I1 r1 q1) he hpl
/-- T(e, ..), T a built-in type -/
theorem pe_callTy (hc : CallR X (.type T) r) (hg : Gl X x) (hm : X.mg x = none) (hv : bootBuiltins x = some (.type T)) (ha : PA X (e :: es) t) (hn : x ≠ "__name__" := by decide) (hdb : (x == ("__debug__" : Str)) = false := by decide)
    (he : starEach (e :: es) X.env = (false, eval e X.env) :: starEach es X.env := by rfl) (hpl : (backTo pos (starEach es X.env)).any (·.1) = false := by rfl) : PE X (.Call (.Name x p) (e :: es) [] pos) (tCB r t) := by
  intro pins s σ H Q I h
  refine wpAny_Call_Name_kw (ld_blt I hg hm hv ?_ hn hdb)
  exact PyProof.Rows.callWith_type1 (thn (ha pos pins s σ H _ I h) fun us s1 ⟨vs, H1, I1, r1, q1⟩ => hc pins s1 σ H1 vs us Q I1 r1 q1) he hpl
end
end L2

namespace HT
open PySem PyProof.Rows

/-- t < u of tuples of ints -/
def lexLt : List Int → List Int → Bool
  | [], [] => false
  | [], _ :: _ => true
  | _ :: _, [] => false
  | x :: xs, y :: ys => if x = y then lexLt xs ys else decide (x < y)
section
open PySem.SeqAt
open PySem.AutoSeq1 (wpAny_loadPart')
open PySem.MeetsSeq PySem.MeetsSeq2 PySem.MeetsSeq3

end

section
variable {prog : Program} {w : World} {A : Around} {E : Value → Shared → Prop} {s : Shared}

/-! ### t[a:b], not the whole -/
/-- a slice's bound as a place among n (d where it is left out) -/
def sIx (n d : Nat) : Option Int → Nat
  | none => d
  | some v => if v < 0 then (v + (n : Int)).toNat else min v.toNat n
theorem sIx_none (n d : Nat) : sIx n d none = d := rfl
theorem sIx_nat (n d k : Nat) : sIx n d (some (k : Int)) = min k n := by
  show (if (k : Int) < 0 then ((k : Int) + (n : Int)).toNat else min (k : Int).toNat n) = min k n
  rw [if_neg (by omega), Int.toNat_natCast]
end
end HT

namespace L2
open PySem PySem.Spec PyProof.Rows

/-! ### the parts of a slice -/
abbrev TO := St → Hp → (Option Int → Hp → Prop) → Prop
/-- a slice's part (left out, or an int) -/
def PO (X : Cx) (e : Option Expr) (t : TO) : Prop :=
  ∀ (pins : List (Addr × Obj)) (s : Shared) (σ : St) (H : Hp) (Q : Option Int → Hp → Prop), Inv X pins σ H s → t σ H Q →
    wpAny (model X.prog X.w) X.A (evalPart e X.env) (fun u s' => ∃ o H', Inv X pins σ H' s' ∧ IsPart u o ∧ Q o H') X.xe s
def tNoPart : TO := fun _ H Q => Q none H
def tPart (t : TE) : TO := fun σ H Q => t σ H fun x H1 => ∃ i, x = .int i ∧ Q (some i) H1

section
variable {X : Cx} {e : Expr} {te : TE} {lo hi : Option Expr} {tl th : TO} {pos p2 : Pos}

theorem po_none : PO X none tNoPart := by
  intro pins s σ H Q I h
  rw [evalPart_none]
  exact wpAny_pure ⟨none, H, I, .none, h⟩
theorem po_some (h : PE X e te) : PO X (some e) (tPart te) := by
  intro pins s σ H Q I hw
  rw [evalPart_some]
  refine thn (h pins s σ H _ I hw) fun u s1 ⟨x, H1, I1, r1, q1⟩ => ?_
  obtain ⟨i, rfl, q⟩ := q1
  obtain ⟨t, rfl⟩ := r1
  exact ⟨some i, H1, I1, .int i t, q⟩

/-- what a slice of a value is, by values: the slice object stands at sl -/
def SlR (X : Cx) (r : V → Option Int → Option Int → Hp → VK → Prop) : Prop :=
  ∀ (pins : List (Addr × Obj)) (s : Shared) (σ : St) (H : Hp) (x : V) (v vl vu : Value) (lo hi : Option Int) (sl : Addr) (Q : VK), Inv X pins σ H s → RelV x v → s.heap.IsSliceOf sl vl vu .none → IsPart vl lo → IsPart vu hi → r x lo hi H Q →
    ∃ T id, typeLookup (.type T) "__getitem__" = pure (some (.builtin id)) ∧ s.TypeIs v T ∧ wpAny (model X.prog X.w) X.A (getItem v (.ref sl)) (EP X pins σ Q) X.xe s
def tSl (r : V → Option Int → Option Int → Hp → VK → Prop) (te : TE) (tl th : TO) : TE := fun σ H Q => te σ H fun x H1 => tl σ H1 fun l H2 => th σ H2 fun u H3 => r x l u H3 Q
/-- a[lo:hi], any a -/
theorem pe_slice {r : V → Option Int → Option Int → Hp → VK → Prop} (hr : SlR X r) (he : PE X e te) (hl : PO X lo tl) (hu : PO X hi th) : PE X (.Subscript e (.Slice lo hi none p2) pos) (tSl r te tl th) := by
  intro pins s σ H Q I h
  refine Subscript_ (thn (he pins s σ H _ I h) fun v s1 ⟨x, H1, I1, r1, q1⟩ => ?_)
  refine wpAny_Slice (thn (hl pins s1 σ H1 _ I1 q1) fun vl s2 ⟨l, H2, I2, pl, q2⟩ => thn (hu pins s2 σ H2 _ I2 q2) fun vu s3 ⟨u, H3, I3, pu, q3⟩ => ?_)
  rw [evalPart_none]
  refine wpAny_pure ?_
  have I4 : Inv X pins σ H3 { s3 with heap := s3.heap.push { cls := .type "slice", data := .fields #[vl, vu, .none] } } := I3.kept (t' := s3.toks) fun b ob q => Heap.get?_push_of_some _ q
  obtain ⟨T, id, hT, ht, hg⟩ := hr pins { s3 with heap := s3.heap.push { cls := .type "slice", data := .fields #[vl, vu, .none] } } σ H3 x v vl vu l u s3.heap.objs.size Q I4 r1 (Heap.IsSliceOf.new ..) pl pu q3
  show wpAny (model X.prog X.w) X.A (subscriptTail e (.Slice lo hi none p2) v (.ref s3.heap.objs.size)) (EP X pins σ Q) X.xe { s3 with heap := s3.heap.push { cls := .type "slice", data := .fields #[vl, vu, .none] } }
  exact tail_any (ops := [.ref s3.heap.objs.size, v]) ht hT hg (by with_unfolding_all rfl)

/-- the items of xs[lo:hi] -/
def cutV (xs : List V) (lo hi : Option Int) : List V := (xs.drop (HT.sIx xs.length 0 lo)).take (HT.sIx xs.length xs.length hi - HT.sIx xs.length 0 lo)
theorem cutV_length (xs : List V) (lo hi : Option Int) : (cutV xs lo hi).length ≤ xs.length := by
  unfold cutV
  rw [List.length_take, List.length_drop]
  omega
/-- t[lo:hi], not the whole of it (the whole would be t itself) -/
def rSlT (K : PySem.W.Frag) : V → Option Int → Option Int → Hp → VK → Prop := fun x lo hi H Q => ∃ a xs, x = .ref a ∧ SqT K H a xs ∧
  ¬ (HT.sIx xs.length 0 lo = 0 ∧ HT.sIx xs.length xs.length hi = xs.length) ∧ ∀ p, H p = none → Q (.ref p) (upd H p (.tup (cutV xs lo hi)))
/-! ### t < u, t + u -/
def rLtT (K : PySem.W.Frag) : R2 := fun x y H Q => ∃ a b ns ms, x = .ref a ∧ y = .ref b ∧ SqT K H a (ns.map V.int) ∧ SqT K H b (ms.map V.int) ∧ Q (.bl (HT.lexLt ns ms)) H
/-- t + u, t not empty: u empty gives t itself -/
def rCatT (K : PySem.W.Frag) : R2 := fun x y H Q => ∃ a b xs ys, x = .ref a ∧ y = .ref b ∧ SqT K H a xs ∧ SqT K H b ys ∧ xs ≠ [] ∧ xs.length + ys.length ≤ sizeLine ∧
  (ys = [] → Q (.ref a) H) ∧ (ys ≠ [] → ∀ p, H p = none → Q (.ref p) (upd H p (.tup (xs ++ ys))))
end
end L2

namespace L2
open PySem PySem.Spec PyProof.Rows

/-! ### places -/
/-- the place that an index of any sign means -/
def ixN (n : Nat) (i : Int) : Option Nat := if 0 ≤ i then (if i < n then some i.toNat else none) else if -(n : Int) ≤ i then some (i + n).toNat else none
def atI {α : Type} (xs : List α) (i : Int) : Option α := (ixN xs.length i).bind fun j => xs[j]?
theorem ixN_seq {n : Nat} {i : Int} {j : Nat} (h : ixN n i = some j) : seqIndex? i n = some j ∧ j < n ∧ -(n : Int) ≤ i ∧ i < n := by
  unfold ixN at h
  by_cases h0 : 0 ≤ i
  · rw [if_pos h0] at h
    by_cases h1 : i < n
    · rw [if_pos h1] at h
      have e : i.toNat = j := Option.some.inj h
      exact ⟨by rw [seqIndex_of h0 h1, e], by omega, by omega, h1⟩
    · rw [if_neg h1] at h; cases h
  · rw [if_neg h0] at h
    by_cases h1 : -(n : Int) ≤ i
    · rw [if_pos h1] at h
      have e : (i + n).toNat = j := Option.some.inj h
      exact ⟨by rw [seqIndex_neg (by omega) h1, e], by omega, h1, by omega⟩
    · rw [if_neg h1] at h; cases h
theorem atI_get {α : Type} {xs : List α} {i : Int} {v : α} (h : atI xs i = some v) : ∃ j, seqIndex? i xs.length = some j ∧ xs[j]? = some v ∧ j < xs.length ∧ -(xs.length : Int) ≤ i ∧ i < xs.length := by
  unfold atI at h
  cases e : ixN xs.length i with
  | none => rw [e] at h; cases h
  | some j =>
    rw [e] at h
    obtain ⟨h1, h2, h3, h4⟩ := ixN_seq e
    exact ⟨j, h1, h, h2, h3, h4⟩
theorem atI_nat {α : Type} {xs : List α} {j : Nat} {v : α} (h : xs[j]? = some v) : atI xs (j : Int) = some v := by
  have hj : j < xs.length := (List.getElem?_eq_some_iff.mp h).1
  have e : ixN xs.length (j : Int) = some j := by
    unfold ixN
    rw [if_pos (by omega), if_pos (by omega)]; simp
  unfold atI; rw [e]; exact h
theorem atI_last {α : Type} (xs : List α) (v : α) : atI (xs ++ [v]) (-1) = some v := by
  have hl : (xs ++ [v]).length = xs.length + 1 := by simp
  have e : ixN (xs ++ [v]).length (-1) = some xs.length := by
    unfold ixN
    rw [hl, if_neg (by decide), if_pos (by omega)]
    congr 1
    omega
  unfold atI
  rw [e]
  show (xs ++ [v])[xs.length]? = some v
  simp

/-! ### what may be subscripted -/
/-- what stands as an index of a plain subscript -/
def PlainIx (b : Expr) : Prop := ∀ o i, subscripted b false o i = operate [o, i] (getItem o i)
/-- a subscript by values -/
def IxR (X : Cx) (r : R2) : Prop :=
  ∀ (value slice : Expr) (pins : List (Addr × Obj)) (s : Shared) (σ : St) (H : Hp) (x y : V) (v u : Value) (Q : VK), Inv X pins σ H s → RelV x v → RelV y u → r x y H Q →
    subscripted slice false v u = operate [v, u] (getItem v u) → wpAny (model X.prog X.w) X.A (subscriptTail value slice v u) (EP X pins σ Q) X.xe s
/-- a call of a builtin's method by values: the receiver, the arguments -/
def MtR (X : Cx) (id : String) (r : V → List V → Hp → VK → Prop) : Prop :=
  ∀ (pins : List (Addr × Obj)) (s : Shared) (σ : St) (H : Hp) (x : V) (xs : List V) (v : Value) (us : List Value) (Q : VK), Inv X pins σ H s → RelV x v → Vals xs us → r x xs H Q →
    wpAny (model X.prog X.w) X.A (call (.builtin id) (v :: us)) (EP X pins σ Q) X.xe s
section
variable {X : Cx} {a b : Expr} {ta tb : TE} {pos : Pos}
/-- a[b] -/
theorem pe_ix {r : R2} (hr : IxR X r) (ha : PE X a ta) (hb : PE X b tb) (hs : PlainIx b) : PE X (.Subscript a b pos) (tOp r ta tb) := by
  intro pins s σ H Q I h
  exact Subscript_ (binT ha hb I h fun v u s2 x y H2 I2 rx ry q => hr a b pins s2 σ H2 x y v u Q I2 rx ry q (hs _ _))

def rIxL (K : PySem.W.Frag) : R2 := fun x y H Q => ∃ p xs i v, x = .ref p ∧ y = .int i ∧ SqL K H p xs ∧ atI xs i = some v ∧ Q v H
def rIxT (K : PySem.W.Frag) : R2 := fun x y H Q => ∃ p xs i v, x = .ref p ∧ y = .int i ∧ SqT K H p xs ∧ atI xs i = some v ∧ Q v H
def rIxS : R2 := fun x y H Q => ∃ z i c, x = .str z ∧ y = .int i ∧ z.length ≤ sizeLine ∧ atI z.cps.toList i = some c ∧ Q (.str ⟨#[c]⟩) H
theorem ix_list : IxR X (rIxL X.K) := by
  intro value slice pins s σ H x y v u Q I rx ry h hs
  obtain ⟨p, xs, i, z, rfl, rfl, hq, he, q⟩ := h
  cases rx
  obtain ⟨t, rfl⟩ := ry
  obtain ⟨its, r, pl, hz⟩ := I.list hq
  obtain ⟨j, h1, h2, h3, h4, h5⟩ := atI_get he
  obtain ⟨w, ew, rw'⟩ := r.get h2
  have hl := r.length
  have hn := line63
  have fin : EP X pins σ Q w s := ⟨z, H, I, rw', q⟩
  by_cases h0 : 0 ≤ i
  · have hj : i.toNat = j := by
      rw [seqIndex_of h0 h5] at h1
      exact Option.some.inj h1
    exact item_listR pl.isList h0 (by omega) (by rw [hj]; simpa using ew) fin hs
  · have hj : (i + (its.toArray.size : Int)).toNat = j := by
      rw [seqIndex_neg (by omega) h4] at h1
      rw [List.size_toArray, ← hl]
      exact Option.some.inj h1
    exact subscriptTail_builtinR (x := w) pl.isList.typeIs slot_list_getitem.lookup
      (wpAny_getItem_list_neg (Q := fun r s' => r = w ∧ EP X pins σ Q r s') pl.isList (by omega) (by rw [List.size_toArray] <;> omega) (by omega) (by rw [hj]; simpa using ew) ⟨rfl, fin⟩) hs
theorem ix_tup : IxR X (rIxT X.K) := by
  intro value slice pins s σ H x y v u Q I rx ry h hs
  obtain ⟨p, xs, i, z, rfl, rfl, hq, he, q⟩ := h
  cases rx
  obtain ⟨t, rfl⟩ := ry
  obtain ⟨its, r, pl, hz⟩ := I.tuple hq
  obtain ⟨j, h1, h2, h3, h4, h5⟩ := atI_get he
  obtain ⟨w, ew, rw'⟩ := r.get h2
  have hl := r.length
  have hn := line63
  have fin : EP X pins σ Q w s := ⟨z, H, I, rw', q⟩
  exact subscriptTail_builtinR (x := w) pl.typeIs slot_tuple_getitem.lookup
    (getItem_tuple (j := j) (Q := fun r s' => r = w ∧ EP X pins σ Q r s') pl (by omega) (by omega) (by rw [List.size_toArray, ← hl]; exact h1) (by simpa using ew) ⟨rfl, fin⟩) hs
theorem ix_str : IxR X rIxS := by
  intro value slice pins s σ H x y v u Q I rx ry h hs
  obtain ⟨z, i, c, rfl, rfl, hz, he, q⟩ := h
  obtain ⟨t, rfl⟩ := rx
  obtain ⟨t', rfl⟩ := ry
  obtain ⟨j, h1, h2, h3, h4, h5⟩ := atI_get he
  have hl : z.cps.toList.length = z.length := by simp [Str.length]
  rw [hl] at h1 h4 h5
  have hn := line63
  exact tail_any (typeIs_str s z t) slot_str_getitem.lookup (getItem_str (c := c) (by
    have e1 : decide (i < -(2 ^ 63 : Int)) = false := decide_eq_false (by omega)
    have e2 : decide (i ≥ 2 ^ 63) = false := decide_eq_false (by omega)
    rw [e1, e2, Bool.or_false]) (by rw [h1]; simpa using h2) ⟨.str ⟨#[c]⟩, H, I.tok _, ⟨_, rfl⟩, q⟩) hs
/-- list, tuple or str -/
def rIx (K : PySem.W.Frag) : R2 := fun x y H Q => rIxL K x y H Q ∨ rIxT K x y H Q ∨ rIxS x y H Q
/-! ### xs[i] = v, any sign -/
/-- the list's object behind a store -/
theorem mapSeq_set (its : List Value) (n j : Nat) (u : Value) : Obj.mapSeq (·.setIfInBounds j u) { cls := .type "list", data := .seq its.toArray n } = { cls := .type "list", data := .seq (its.set j u).toArray n } := by
  simp [Obj.mapSeq]
theorem Inv.lst {pins : List (Addr × Obj)} {σ : St} {H : Hp} {s : Shared} {p : Addr} {xs : List V} (I : Inv X pins σ H s) (h : H p = some (.lst xs)) :
    ∃ (its : List Value) (n : Nat), Vals xs its ∧ s.heap.get? p = some { cls := .type "list", data := .seq its.toArray n } ∧ xs.length ≤ sizeLine := by
  obtain ⟨z, its, n, r, e⟩ := I.hok p _ h
  exact ⟨its, n, r, e, z⟩
/-- the list at p is written by an update of its object -/
theorem Inv.lstUpd {pins : List (Addr × Obj)} {σ : St} {H : Hp} {s : Shared} {p : Addr} {xs ys : List V} {its its' : List Value} {n n' : Nat} {f : Obj → Obj} (I : Inv X pins σ H s) (h : H p = some (.lst xs))
    (ho : s.heap.get? p = some { cls := .type "list", data := .seq its.toArray n }) (hf : f { cls := .type "list", data := .seq its.toArray n } = { cls := .type "list", data := .seq its'.toArray n' }) (r : Vals ys its') (hz : ys.length ≤ sizeLine) (t : Nat) :
    Inv X pins σ (upd H p (.lst ys)) { s with heap := s.heap.update p f, toks := t } := by
  have e : (s.heap.update p f).get? p = some { cls := .type "list", data := .seq its'.toArray n' } := by
    rw [Heap.get?_update_self f ho (by rw [hf] <;> rfl), hf]
  refine I.write (x := p) (e := p) (by rw [h]; trivial) (.inl rfl) (fun b u hb q => (Heap.get?_update_other _ _ (Ne.symm hb)).trans q) ⟨_, e⟩ ?_
  exact ⟨hz, its', n', r, e⟩
def rSetL : V → V → V → Hp → (Hp → Prop) → Prop := fun o i v H Q => ∃ p xs k j, o = .ref p ∧ i = .int k ∧ H p = some (.lst xs) ∧ ixN xs.length k = some j ∧ Q (upd H p (.lst (xs.set j v)))
theorem set_list : PSet X rSetL := by
  intro pins s σ H o i v ov iv u Q I ro ri rv h
  obtain ⟨p, xs, k, j, rfl, rfl, hp, hj, q⟩ := h
  cases ro
  obtain ⟨t, rfl⟩ := ri
  obtain ⟨its, n, r, ho, hz⟩ := I.lst hp
  obtain ⟨h1, h2, h3, h4⟩ := ixN_seq hj
  have hl := r.length
  have hn := line63
  have I' : Inv X pins σ (upd H p (.lst (xs.set j v))) { s with heap := s.heap.update p (Obj.mapSeq (·.setIfInBounds j u)) } :=
    I.lstUpd hp ho (mapSeq_set its n j u) (r.set rv j) (by rw [List.length_set]; exact hz) s.toks
  by_cases h0 : 0 ≤ k
  · have hk : k.toNat = j := by
      rw [seqIndex_of h0 h4] at h1
      exact Option.some.inj h1
    exact PySem.W.ki_setAt ho h0 (by omega) (by rw [List.size_toArray, ← hl]; exact h4) (by rw [hk]; exact ⟨_, I', q⟩)
  · have hk : (k + (its.toArray.size : Int)).toNat = j := by
      rw [seqIndex_neg (by omega) h3] at h1
      rw [List.size_toArray, ← hl]
      exact Option.some.inj h1
    exact PySem.W.ki_setBack ho (by omega) (by rw [List.size_toArray, ← hl]; exact h3) (by omega) (by rw [hk]; exact ⟨_, I', q⟩)

/-! ### slices -/
theorem slice_bounds (lo hi : Option Int) (n : Nat) : (sliceBounds lo hi none n).1 = ((HT.sIx n 0 lo : Nat) : Int) ∧ (sliceBounds lo hi none n).2.1 = ((HT.sIx n n hi : Nat) : Int) ∧ (sliceBounds lo hi none n).2.2 = 1 := by
  refine ⟨?_, ?_, rfl⟩
  · cases lo with
    | none => simp [sliceBounds, HT.sIx]
    | some i =>
      simp only [sliceBounds, HT.sIx, Option.getD_none, show (1 : Int) > 0 by decide, if_true]
      by_cases h : i < 0
      · simp only [h, if_true] <;> omega
      · simp only [h, if_false] <;> omega
  · cases hi with
    | none => simp [sliceBounds, HT.sIx]
    | some i =>
      simp only [sliceBounds, HT.sIx, Option.getD_none, show (1 : Int) > 0 by decide, if_true]
      by_cases h : i < 0
      · simp only [h, if_true] <;> omega
      · simp only [h, if_false] <;> omega
theorem slicePick_cut (its : List Value) (lo hi : Option Int) : slicePick its.toArray lo hi none = ((its.drop (HT.sIx its.length 0 lo)).take (HT.sIx its.length its.length hi - HT.sIx its.length 0 lo)).toArray := by
  obtain ⟨h1, h2, h3⟩ := slice_bounds lo hi its.toArray.size
  unfold slicePick
  rw [h1, h2, h3]
  simp only [sliceRange_one, pick_run, List.size_toArray] <;> rfl
/-- xs[lo:hi] of a list: a new list -/
def rSlL (K : PySem.W.Frag) : V → Option Int → Option Int → Hp → VK → Prop := fun x lo hi H Q => ∃ a xs, x = .ref a ∧ SqL K H a xs ∧ ∀ p, H p = none → Q (.ref p) (upd H p (.lst (cutV xs lo hi)))
theorem sl_list : SlR X (rSlL X.K) := by
  intro pins s σ H x v vl vu lo hi sl Q I rx hs pl pu h
  obtain ⟨a, xs, rfl, hx, q⟩ := h
  cases rx
  obtain ⟨its, r, ht, hz⟩ := I.list hx
  have hlen := r.length
  refine ⟨"list", _, slot_list_getitem.lookup, ht.isList.typeIs, ?_⟩
  refine wpAny_getItem_list_slice ht.isList hs pl pu .none (by simp) ?_ (by rw [List.size_toArray] <;> omega)
  rw [slicePick_cut, ← hlen]
  refine ⟨.ref s.heap.objs.size, _, I.laid (t' := s.toks) (o := .lst (cutV xs lo hi)) (fun b ob q => Heap.get?_push_of_some _ q) (Nat.le_refl _) ?_, rfl, q _ (I.hok.fresh (Nat.le_refl _))⟩
  exact ⟨Nat.le_trans (cutV_length xs lo hi) hz, _, 0, (r.drop (HT.sIx xs.length 0 lo)).take (HT.sIx xs.length xs.length hi - HT.sIx xs.length 0 lo), Heap.get?_push_size _ rfl⟩

/-! ### in, not in: flat items -/
def flatV : V → Bool
  | .non => true
  | .bl _ => true
  | .int _ => true
  | .str _ => true
  | _ => false
/-- == of flat values -/
def eqV : V → V → Bool
  | .non, .non => true
  | .bl a, .bl b => a == b
  | .bl a, .int b => (if a then 1 else 0) == b
  | .int a, .bl b => a == (if b then 1 else 0)
  | .int a, .int b => a == b
  | .str a, .str b => a == b
  | _, _ => false
/-- the items' answers, read off the values (a value's own answer does not lean on its token) -/
def eqU (x : V) (u : Value) : Bool := match u with
  | .none => eqV .non x
  | .bool b => eqV (.bl b) x
  | .int i _ => eqV (.int i) x
  | .str z _ => eqV (.str z) x
  | _ => false
def inV (x : V) (xs : List V) : Bool := xs.any fun y => eqV y x
/-- x in a list or tuple of flat items -/
def rIn (K : PySem.W.Frag) (neg : Bool) : R2 := fun x y H Q => ∃ p xs, y = .ref p ∧ (SqL K H p xs ∨ SqT K H p xs) ∧ flatV x = true ∧ xs.all flatV = true ∧ Q (.bl (if neg then !inV x xs else inV x xs)) H
/-! ### len, list(x), tuple(x) of any list or tuple that is read -/
theorem call_len_seq : CallR X (.builtin "len") (fun xs H Q => ∃ p ys, xs = [.ref p] ∧ (SqL X.K H p ys ∨ SqT X.K H p ys) ∧ Q (.int ys.length) H) := by
  intro pins s σ H xs us Q I r h
  obtain ⟨p, ys, rfl, hq, q⟩ := h
  obtain ⟨u, rfl, rx⟩ := vals1 r
  cases rx
  have hn := line63
  rcases hq with hq | hq
  · obtain ⟨its, r', pl, hz⟩ := I.list hq
    have hlen := r'.length
    exact Calls.call_len_list pl.isList (by simp only [List.size_toArray] <;> omega) ⟨.int ys.length, H, I.tok _, ⟨s.toks + 1, by rw [List.size_toArray, hlen]⟩, q⟩
  · obtain ⟨its, r', pl, hz⟩ := I.tuple hq
    have hlen := r'.length
    exact len_tuple pl (by simp only [List.size_toArray] <;> omega) ⟨.int ys.length, H, I.tok _, ⟨s.toks + 1, by rw [List.size_toArray, hlen]⟩, q⟩
theorem call_len_str : CallR X (.builtin "len") (fun xs H Q => ∃ z, xs = [.str z] ∧ z.length ≤ sizeLine ∧ Q (.int z.length) H) := by
  intro pins s σ H xs us Q I r h
  obtain ⟨z, rfl, hz, q⟩ := h
  obtain ⟨u, rfl, t, rfl⟩ := vals1 r
  have hn := line63
  exact len_str (by omega) ⟨.int z.length, H, I.tok _, ⟨_, rfl⟩, q⟩
theorem call_tuple_of : CallR X (.type "tuple") (fun xs H Q => ∃ p ys, xs = [.ref p] ∧ ((SqL X.K H p ys ∧ ∀ l, H l = none → Q (.ref l) (upd H l (.tup ys))) ∨ (SqT X.K H p ys ∧ Q (.ref p) H))) := by
  intro pins s σ H xs us Q I r h
  obtain ⟨p, ys, rfl, h⟩ := h
  obtain ⟨u, rfl, rx⟩ := vals1 r
  cases rx
  rcases h with ⟨hq, q⟩ | ⟨hq, q⟩
  · obtain ⟨its, r', pl, hz⟩ := I.list hq
    have hlen := r'.length
    refine call_tuple_list pl.isList (fun h' kp => ?_) (by simp only [List.size_toArray] <;> omega)
    have I1 : Inv X pins σ H { s with heap := h' } := I.kept (t' := s.toks) kp
    have I2 : Inv X pins σ (upd H h'.objs.size (.tup ys)) { s with heap := h'.push { cls := .type "tuple", data := .seq its.toArray } } :=
      I1.laid (t' := s.toks) (fun b o e => Heap.get?_push_of_some _ e) (Nat.le_refl _) (show ObjOk X.prog X.w _ _ _ (.tup ys) from ⟨hz, its, r', IsTup.new _ _⟩)
    exact ⟨.ref h'.objs.size, _, I2, rfl, q _ (I1.hok.fresh (Nat.le_refl _))⟩
  · obtain ⟨its, r', pl, hz⟩ := I.tuple hq
    exact call_tuple_same pl ⟨.ref p, H, I, rfl, q⟩

/-! ### the call of a builtin's method: o.m(..) -/
/-- the value is of that builtin type -/
def tyV (K : PySem.W.Frag) (T : String) (x : V) (H : Hp) : Prop := match x with
  | .str _ => T = "str"
  | .int _ => T = "int"
  | .ref p => (T = "list" ∧ ∃ xs, SqL K H p xs) ∨ (T = "tuple" ∧ ∃ o, K.lookup p = some o ∧ o.cls = .type "tuple" ∧ o.dict = none) ∨
      (T = "dict" ∧ ((∃ kvs, H p = some (.dK kvs)) ∨ ∃ kvs, H p = some (.dT kvs))) ∨ (T = "set" ∧ ∃ S n, H p = some (.set S n))
  | _ => False
theorem tyV_is {pins : List (Addr × Obj)} {σ : St} {H : Hp} {s : Shared} {T : String} {x : V} {v : Value} (I : Inv X pins σ H s) (r : RelV x v) (ty : tyV X.K T x H) :
    s.TypeIs v T ∧ ∀ a, v = .ref a → ∃ ob, s.heap.get? a = some ob ∧ ob.dict = none := by
  cases x with
  | str z =>
    obtain ⟨t, rfl⟩ := r
    cases (show T = "str" from ty)
    exact ⟨typeIs_str s z t, fun _ e => nomatch e⟩
  | int i =>
    obtain ⟨t, rfl⟩ := r
    cases (show T = "int" from ty)
    exact ⟨typeIs_int s i t, fun _ e => nomatch e⟩
  | ref p =>
    cases r
    rcases ty with ⟨rfl, xs, hq⟩ | ⟨rfl, o, hk, hc, hd⟩ | ⟨rfl, hk⟩ | ⟨rfl, S, n, hk⟩
    · obtain ⟨its, _, pl, _⟩ := I.list hq
      refine ⟨pl.isList.typeIs, fun a e => ?_⟩
      cases e
      obtain ⟨o, n, e, c, hd, _⟩ := pl
      exact ⟨o, e, hd⟩
    · refine ⟨⟨o, I.kIn p o hk, hc⟩, fun a e => ?_⟩
      cases e
      exact ⟨o, I.kIn _ o hk, hd⟩
    · have z : ∃ o, s.heap.get? p = some o ∧ o.ExactDict := by
        rcases hk with ⟨kvs, hk⟩ | ⟨kvs, hk⟩
        · obtain ⟨_, _, _, _, o, _, _, e, ex, _⟩ := I.hok p _ hk
          exact ⟨o, e, ex⟩
        · obtain ⟨_, _, _, _, o, _, _, e, ex, _⟩ := I.hok p _ hk
          exact ⟨o, e, ex⟩
      obtain ⟨o, e, ex⟩ := z
      refine ⟨⟨o, e, ex.1⟩, fun a e2 => ?_⟩
      cases e2
      exact ⟨o, e, ex.2.1⟩
    · obtain ⟨o, _, _, _, e, ex, _⟩ := I.hok p _ hk
      refine ⟨⟨o, e, ex.1⟩, fun a e2 => ?_⟩
      cases e2
      exact ⟨o, e, ex.2.1⟩
  | _ => exact False.elim ty
def tBM0 (K : PySem.W.Frag) (T : String) (r : V → List V → Hp → VK → Prop) (to : TE) : TE := fun σ H Q => to σ H fun x H1 => tyV K T x H1 ∧ r x [] H1 Q
def tBM (K : PySem.W.Frag) (T : String) (r : V → List V → Hp → VK → Prop) (to : TE) (t : TA) : TE := fun σ H Q => to σ H fun x H1 => tyV K T x H1 ∧ t σ H1 fun xs H2 => r x xs H2 Q
variable {o e : Expr} {es : List Expr} {to : TE} {t : TA} {name : Str} {apos cpos : Pos} {T id : String} {r : V → List V → Hp → VK → Prop}
theorem pe_bm0 (pa : PlainAttrs T) (slot : Slot T name id) (hty : typeOf (.builtin id) = pure (.type "method_descriptor")) (hm : MtR X id r) (ho : PE X o to)
    (hbase : attributeBase o name X.env (eval o X.env) = eval o X.env := by rfl) (hline : (apos.endLine == cpos.line) = true := by rfl) : PE X (.Call (.Attribute o name apos) [] [] cpos) (tBM0 X.K T r to) := by
  intro pins s σ H Q I h
  refine wpAny_Call_method0_late hbase hline (thn (ho pins s σ H _ I h) fun v s1 ⟨x, H1, I1, r1, ty, q1⟩ => ?_)
  obtain ⟨h1, h2⟩ := tyV_is I1 r1 ty
  exact ⟨T, id, pa, slot, hty, h1, h2, Calls.callWith_builtin rfl (PySem.evalArgs_none (hm pins s1 σ H1 x [] v [] Q I1 r1 .nil q1))⟩
theorem pe_bm (pa : PlainAttrs T) (slot : Slot T name id) (hty : typeOf (.builtin id) = pure (.type "method_descriptor")) (hm : MtR X id r) (ho : PE X o to) (ha : PA X (e :: es) t)
    (hbase : attributeBase o name X.env (eval o X.env) = eval o X.env := by rfl)
    (hfew : ((backTo cpos (starEach (e :: es) X.env)).all (fun x => !x.1) && (backToKw cpos (keywordEach [] X.env)).all (fun x => x.1.isSome)
      && decide ((e :: es).length + ([] : List Keyword).length + (if ([] : List Keyword).isEmpty then 0 else 1) < 30)) = true := by rfl)
    (hline : (apos.endLine == cpos.line) = true := by rfl) (hs : starEach (e :: es) X.env = (false, eval e X.env) :: starEach es X.env := by rfl) (hplain : (backTo cpos (starEach es X.env)).any (·.1) = false := by rfl) :
    PE X (.Call (.Attribute o name apos) (e :: es) [] cpos) (tBM X.K T r to t) := by
  intro pins s σ H Q I h
  refine wpAny_Call_method_late hbase hfew hline rfl (thn (ho pins s σ H _ I h) fun v s1 ⟨x, H1, I1, r1, ty, q1⟩ => ?_)
  obtain ⟨h1, h2⟩ := tyV_is I1 r1 ty
  refine ⟨T, id, pa, slot, hty, h1, h2, ?_⟩
  have hA := ha cpos pins s1 σ H1 _ I1 q1
  rw [hs] at hA ⊢
  refine Calls.callWith_builtin (by show (false || (backTo cpos (starEach es X.env)).any (·.1)) = false; rw [hplain] <;> rfl) (Calls.evalArgs_plain ?_)
  exact thn hA fun us s2 ⟨vs, H2, I2, r2, q2⟩ => hm pins s2 σ H2 x vs v us Q I2 r1 r2 q2
/- xs.append(e), list.index on a module's tuple .. are MtR facts of 06m -/
end
end L2

namespace L2
open PySem PySem.Spec PyProof.Rows

def MtM (X : Cx) (id : String) (r : V → List V → Hp → VK → Prop) : Prop :=
  ∀ (pins : List (Addr × Obj)) (s : Shared) (σ : St) (H : Hp) (x : V) (xs : List V) (v : Value) (us : List Value) (Q : VK), Inv X pins σ H s → RelV x v → Vals xs us → r x xs H Q →
    wpAny (model X.prog X.w) X.A (call (.builtin id) (v :: us)) (EP X pins σ Q) X.xe s

/-! ### lists of values -/
theorem Vals.one : ∀ {x : V} {us : List Value}, Vals [x] us → ∃ u, us = [u] ∧ RelV x u
  | _, _, .cons r .nil => ⟨_, rfl, r⟩
theorem Vals.two : ∀ {x y : V} {us : List Value}, Vals [x, y] us → ∃ u v, us = [u, v] ∧ RelV x u ∧ RelV y v
  | _, _, _, .cons r (.cons q .nil) => ⟨_, _, rfl, r, q⟩
theorem Vals.zero : ∀ {us : List Value}, Vals [] us → us = []
  | _, .nil => rfl
theorem Vals.dropLast {xs : List V} {us : List Value} (h : Vals xs us) : Vals xs.dropLast us.dropLast := by
  induction h with
  | nil => exact .nil
  | cons r t ih =>
    cases t with
    | nil => exact .nil
    | cons q t' => exact .cons r ih
theorem erase_last {α : Type} (l : List α) : l.eraseIdx (l.length - 1) = l.dropLast := by
  induction l with
  | nil => rfl
  | cons a r ih =>
    cases r with
    | nil => rfl
    | cons b r =>
      have e : (a :: b :: r).length - 1 = ((b :: r).length - 1) + 1 := by
        have h1 : (a :: b :: r).length = r.length + 2 := rfl
        have h2 : (b :: r).length = r.length + 1 := rfl
        omega
      rw [e, List.eraseIdx_cons_succ, ih]
      all_goals rfl
section
variable {X : Cx} {pins : List (Addr × Obj)} {σ : St} {H : Hp} {s : Shared} {l b : Addr} {xs ys zs : List V}

/-! ### the two steps: a tracked list is rewritten, a new list is laid -/
theorem Inv.lset {its its' : List Value} {n : Nat} {f : Array Value → Array Value} {t' : Nat} (I : Inv X pins σ H s) (hH : H l = some (.lst xs))
    (e : s.heap.get? l = some { cls := .type "list", data := .seq its.toArray n }) (hf : f its.toArray = its'.toArray) (hv : Vals ys its') (hz : ys.length ≤ sizeLine) :
    Inv X pins σ (upd H l (.lst ys)) { s with heap := s.heap.update l (Obj.mapSeq f), toks := t' } := by
  have q := PySem.IsL.update e f
  rw [hf] at q
  refine I.write (x := l) (e := l) (by rw [hH]; exact trivial) (.inl rfl) (fun b' u hb hu => (Heap.get?_update_other s.heap (Obj.mapSeq f) (Ne.symm hb)).trans hu) ⟨_, q⟩ ?_
  exact ⟨hz, its', _, hv, q⟩
theorem Inv.lnew {its : List Value} {t' : Nat} (I : Inv X pins σ H s) (hv : Vals ys its) (hz : ys.length ≤ sizeLine) :
    Inv X pins σ (upd H s.heap.objs.size (.lst ys)) { s with heap := s.heap.push { cls := .type "list", data := .seq its.toArray }, toks := t' } :=
  I.laid (fun _ _ q => Heap.get?_push_of_some _ q) (Nat.le_refl _) ⟨hz, its, 0, hv, Heap.get?_push_size _ rfl⟩
theorem Inv.fresh (I : Inv X pins σ H s) : H s.heap.objs.size = none := I.hok.fresh (Nat.le_refl _)
theorem Inv.lstM (I : Inv X pins σ H s) (hH : H l = some (.lst xs)) : xs.length ≤ sizeLine ∧ ∃ (its : List Value) (n : Nat), Vals xs its ∧ xs.length = its.length ∧ s.heap.get? l = some { cls := .type "list", data := .seq its.toArray n } := by
  obtain ⟨z, its, n, r, e⟩ := I.hok l _ hH
  exact ⟨z, its, n, r, r.length, e⟩

end

section
variable {X : Cx}

/-! ### methods -/
def rAppend : V → List V → Hp → VK → Prop := fun x vs H Q => ∃ l xs y, x = .ref l ∧ vs = [y] ∧ H l = some (.lst xs) ∧ xs.length < sizeLine ∧ Q .non (upd H l (.lst (xs ++ [y])))
theorem mt_append : MtM X "list.append" rAppend := by
  intro pins s σ H x vs v us Q I rx rv h
  obtain ⟨l, xs, y, rfl, rfl, hH, hz, q⟩ := h
  cases rx
  obtain ⟨u, rfl, ru⟩ := rv.one
  obtain ⟨z, its, n, r, hl, e⟩ := I.lstM hH
  refine call_meets F.slot_list_append ⟨_, e, rfl⟩ F.entry_list_append (F.args_list_append_2 _ _) (PySem.list_append l its.toArray n u (by rw [List.size_toArray]; omega)) ⟨e, ?_⟩
  refine ⟨.non, _, I.lset (its' := its ++ [u]) hH e (by simp) (r.append (.cons ru .nil)) ?_, rfl, q⟩
  rw [List.length_append, List.length_singleton]
  omega

def rExtend : V → List V → Hp → VK → Prop := fun x vs H Q => ∃ l b xs zs, x = .ref l ∧ vs = [.ref b] ∧ H l = some (.lst xs) ∧ H b = some (.lst zs) ∧ xs.length + zs.length ≤ sizeLine ∧ Q .non (upd H l (.lst (xs ++ zs)))
def rPop : V → List V → Hp → VK → Prop := fun x vs H Q => ∃ l xs y, x = .ref l ∧ vs = [] ∧ H l = some (.lst xs) ∧ xs[xs.length - 1]? = some y ∧ Q y (upd H l (.lst xs.dropLast))
theorem mt_pop : MtM X "list.pop" rPop := by
  intro pins s σ H x vs v us Q I rx rv h
  obtain ⟨l, xs, y, rfl, rfl, hH, hy, q⟩ := h
  cases rx
  have hus := rv.zero
  subst hus
  obtain ⟨z, its, n, r, hl, e⟩ := I.lstM hH
  obtain ⟨u, hu, ru⟩ := r.get hy
  have hy' : its.toArray[its.toArray.size - 1]? = some u := by
    show its.toArray[its.length - 1]? = some u
    rw [← Array.getElem?_toList, ← hl]
    exact hu
  refine call_meets F.slot_list_pop ⟨_, e, rfl⟩ F.entry_list_pop (F.args_list_pop_1 _) (MeetsSeq.list_pop_last l its.toArray n u hy' (by rw [List.size_toArray]; omega)) ⟨e, ?_⟩
  refine ⟨y, _, I.lset (its' := its.dropLast) hH e ?_ r.dropLast ?_, ru, q⟩
  · show its.toArray.eraseIdxIfInBounds (its.toArray.size - 1) = its.dropLast.toArray
    rw [List.size_toArray, List.eraseIdxIfInBounds_toArray, erase_last]
  · rw [List.length_dropLast]
    omega

def rPopAt : V → List V → Hp → VK → Prop := fun x vs H Q => ∃ l xs i k y, x = .ref l ∧ vs = [.int i] ∧ H l = some (.lst xs) ∧ -(2 ^ 63) ≤ i ∧ i < 2 ^ 63 ∧ seqIndex? i xs.length = some k ∧ xs[k]? = some y ∧ Q y (upd H l (.lst (xs.eraseIdx k)))
def rReverse : V → List V → Hp → VK → Prop := fun x vs H Q => ∃ l xs, x = .ref l ∧ vs = [] ∧ H l = some (.lst xs) ∧ Q .non (upd H l (.lst xs.reverse))
def rClear : V → List V → Hp → VK → Prop := fun x vs H Q => ∃ l xs, x = .ref l ∧ vs = [] ∧ H l = some (.lst xs) ∧ Q .non (upd H l (.lst []))
/-! ### list + list, list += list, list * int -/
def rCat : R2 := fun x y H Q => ∃ l b xs zs, x = .ref l ∧ y = .ref b ∧ H l = some (.lst xs) ∧ H b = some (.lst zs) ∧ xs.length + zs.length ≤ sizeLine ∧ ∀ p, H p = none → Q (.ref p) (upd H p (.lst (xs ++ zs)))
theorem op_cat : OpR X (binaryOp .Add) rCat := by
  intro pins s σ H x y v u Q I rx ry h
  obtain ⟨l, b, xs, zs, rfl, rfl, hH, hB, hz, q⟩ := h
  cases rx
  cases ry
  obtain ⟨z, its, n, r, hl, e⟩ := I.lstM hH
  obtain ⟨z2, its2, n2, r2, hl2, e2⟩ := I.lstM hB
  refine PySem.P.add_list e e2 ?_ (by rw [List.size_toArray, List.size_toArray]; omega)
  have ea : its.toArray ++ its2.toArray = (its ++ its2).toArray := by simp
  rw [ea]
  exact ⟨.ref _, _, I.lnew (t' := s.toks) (r.append r2) (by rw [List.length_append]; omega), rfl, q _ I.fresh⟩
/-- a list times an int (a negative one is nothing) -/
def rRep : R2 := fun x y H Q => ∃ l k xs, x = .ref l ∧ y = .int k ∧ H l = some (.lst xs) ∧ -(2 ^ 63) ≤ k ∧ k < 2 ^ 63 ∧ xs.length * k.toNat ≤ sizeLine ∧
  ∀ p, H p = none → Q (.ref p) (upd H p (.lst (List.replicate k.toNat xs).flatten))
/-! ### del xs[i] -/
end

/-! ### xs[a:b] = ys -/
section
variable {prog : Program} {w : World} {A : Around} {E : Value → Shared → Prop} {s : Shared}
set_option maxRecDepth 100000 in
end

section
variable {X : Cx}
end
end L2

namespace Att
open PySem PySem.W PySem.Calls PyProof.Rows

/-! ### the script -/
theorem ints_of_wellAll {P : Params} {h : Heap} : ∀ (ns : List Int) (vs : List Value), WellAll P h vs (ns.map WData.int) → IntsAre vs ns := by
  intro ns
  induction ns with
  | nil =>
    intro vs w
    rw [List.map_nil] at w
    cases w
    exact .nil
  | cons n ns ih =>
    intro vs w
    rw [List.map_cons] at w
    cases w with
    | cons a b =>
      cases a
      exact .cons _ _ (ih _ b)

theorem script_of {l : OpenLaw} {n : Nat} (hn : l.most = some n) {P : Params} {h : Heap} {args : List WData} {vals : List Value}
    (hpre : l.row.toRowW.claim.pre args = true) (hwl : WellAll P h vals args) :
    ∃ a vs ns, vals = [Value.ref a] ∧ args = [WData.list (ns.map WData.int)] ∧ h.get? a = some { cls := .type "list", data := .seq vs.toArray } ∧ IntsAre vs ns ∧ ns.length ≤ n := by
  have hsh : WShape.hasAll [] args [.list .int] = true := (pre_splitW hpre).1
  have hc : l.pre.holds [] { args := args } = true := (pre_splitW hpre).2
  obtain ⟨d, r, rfl, h1, h2⟩ := hasAllW_cons hsh
  obtain rfl := hasAllW_nil h2
  obtain ⟨xs, rfl, h3⟩ := hasW_list h1
  obtain ⟨ns, rfl⟩ := items_int h3
  have hlen : ns.length ≤ n := by
    unfold OpenLaw.pre at hc
    have h4 : (WTm.not (.lt (.lit (.int (n : Int))) (.len (.arg 0)))).holds [] { args := [.list (ns.map .int)] } = true := by
      have h4 := (holds_andW hc).1
      rw [hn] at h4
      exact h4
    have h5 := condW_of h4 (w_not (w_lt w_lit (w_len_list (w_arg rfl))))
    rw [List.length_map] at h5
    refine Nat.le_of_not_lt fun q => ?_
    have q' : (n : Int) < ((ns.length : Nat) : Int) := by omega
    first
      | (rw [decide_eq_true q'] at h5; exact absurd h5 (by decide))
      | (simp at h5; omega)
  cases hwl with
  | cons w1 w2 =>
    cases w2
    cases w1 with
    | list ho hall => exact ⟨_, _, ns, rfl, rfl, ho, ints_of_wellAll ns _ hall, hlen⟩

theorem post_true (l : OpenLaw) (args : List WData) : l.row.toRowW.claim.post args (.bool true) args = true :=
  postW_of (r := l.row.toRowW) (X := (true == true))
    (show WShape.has [] (.bool true) .bool = true by first | rfl | decide | simp [WShape.has, WShape.arms, WShape.armsAll])
    (show (WTm.eq .res (.lit (.bool true))).value [] { args := args, res := some (.bool true), after := args } = some (.bool (true == true)) from w_eq_bool (w_res rfl) w_lit) rfl

/-! ### the attachment: holds_open's last premise (the goal 'hc' behind k_head) from a wpAny of the law's body -/
/-- the same from a codeAny of the CALL (for a layer whose function contracts speak of calls) -/
theorem attach_call {l : OpenLaw} {n : Nat} {q : Program} {loose : List Str} {XP : (Str → Option Value) → Heap → Prop} {YP : World → Heap → Prop} {d : DefRec}
    (hn : l.most = some n) (hdf : d.params.defaults = [])
    (call : ∀ (w : World) (s₀ s₁ : Shared) (mg mb : Str → Option Value) (fa : Addr) (o : Obj) (pm cd doc : Value) (a : Addr) (vs : List Value) (ns : List Int),
      Ground q loose [] XP w s₀ mg mb s₁.heap → YP w s₁.heap →
      s₁.heap.get? fa = some o → o.data = .func (docDef d.name d.params d.body d.scope pm cd doc) → s₁.heap.CodeRec cd d.name → mg d.name = some (.ref fa) →
      s₁.heap.get? a = some { cls := .type "list", data := .seq vs.toArray } → IntsAre vs ns → ns.length ≤ n → s₁.gens = #[] →
      codeAny (model l.prog w) callerA (.call (.ref fa) ⟨[.ref a], []⟩) (fun r s' => r = .ok (.ret (.bool true)) ∧ OldK s₁.heap s'.heap ∧ s'.os = s₁.os ∧ AllBare s'.gens) s₁) :
    WalkO q loose XP YP l.row.toRowW d [] (fun f vs => PySem.call f vs) := by
  intro w s₀ s₁ mg mb G Y fa o pm cd doc dV kV ho hd hcd hD hmg hg args vals as hpre hlay hrd hwl hlo
  obtain rfl : dV = .none := Dflts.none hD hdf
  obtain rfl : kV = .none := Dflts.noKw hD
  obtain ⟨a, vs, ns, rfl, rfl, hobj, hints, hlen⟩ := script_of hn hpre hwl
  refine enter_call (codeAny_mono (call w s₀ s₁ mg mb fa o pm cd doc a vs ns G Y ho (fd_plain hd) hcd hmg hobj hints hlen hg) fun r s' hq => ?_)
  obtain ⟨rfl, h2, h3, h4⟩ := hq
  exact ⟨.inl ⟨.bool true, .bool true, [], rfl, fun _ => rfl, .bool true, post_true l _, fun _ => ⟨List.Pairwise.nil, fun _ hm => (nomatch hm)⟩⟩, h2, h3, h4⟩

/-! ### rules over ANY heap (no ledger) from facts about the written part K: the library's own take a ledger (News) for what they write -/
section
variable {prog : Program} {w : World} {A : Around} {E : Value → Shared → Prop} {s : Shared} {K : Frag}

/-! the whole heap as the ledger: makes every rule that writes through a ledger a rule over any heap -/
def noObjs (h : Heap) : Heap := { h with objs := #[] }
def ledger (h : Heap) (L d : Addr) : List (Addr × Obj) := (List.range h.objs.size).filterMap fun a => if a = L ∨ a = d then none else (h.get? a).map fun o => (a, o)
end
end Att

namespace L2
open PySem PySem.Spec PyProof.Rows

theorem vals_ints : ∀ {vs : List Value} {ns : List Int}, IntsAre vs ns → Vals (ns.map V.int) vs
  | _, _, .nil => .nil
  | _, _, .cons n t h => .cons ⟨t, rfl⟩ (vals_ints h)

/-- nothing is tracked but the script, known to the object (or it is an object of the module) -/
def Only (H : Hp) : Prop := ∀ b, H b = none ∨ ∃ o xs, H b = some (.frz o (.lst xs))

/-- THE HEAD: the law's promise, at the heap behind the top. F, the promise of the law's def, may use that base is part of the heap (so K.In base, base.Ns mainGlobals mg stand in Mod) -/
theorem law_call {P : Program} {w : World} {K : PySem.W.Frag} {mg mb : Str → Option Value} {CX : CXT} {k : Nat} {fa a : Addr} {fd : FuncData} {x : Str} {sp : Sp} {s₁ : Shared} {vs : List Value} {ns : List Int}
    (KX : K.In s₁.heap) (hns : s₁.heap.Ns mainGlobals mg) (hb : s₁.heap.Ns builtinsNs mb) (hbb : ∀ x : Str, x ≠ "__name__" → mb x = bootBuiltins x) (hlim : s₁.heap.NoLimit) (hg : s₁.gens = #[])
    (ha : s₁.heap.get? a = some { cls := .type "list", data := .seq vs.toArray }) (hi : IntsAre vs ns) (hl : ns.length ≤ sizeLine) (hr : Room k callerA)
    (F : ∀ base : Heap, K.In base → base.Ns mainGlobals mg → FnOk P w K mg base CX k fa fd [x] sp) (hbind : ∀ (s : Shared) (u : Value), BindsTo s fd ⟨[u], []⟩ [(x, u)])
    (hsp : ∀ H : Hp, Only H → SqL K H a (ns.map V.int) → sp [.ref a] H (fun v _ => v = .bl true) fun _ _ _ => False)
    (hCX : ∀ H e s', CX [] H s₁ (fun _ _ _ => False) e s' → False) :
    codeAny (model P w) callerA (.call (.ref fa) ⟨[.ref a], []⟩) (fun r s' => r = .ok (.ret (.bool true)) ∧ OldK s₁.heap s'.heap ∧ s'.os = s₁.os ∧ AllBare s'.gens) s₁ := by
  have rv := vals_ints hi
  have lenV := hi.length
  -- from an abstract heap in which nothing but the script may be tracked
  have core : ∀ H : Hp, Only H → SqL K H a (ns.map V.int) → HOk P w H s₁.heap → (∀ b, H b ≠ none → b = a) → (H a ≠ none → K.lookup a = none) →
      codeAny (model P w) callerA (.call (.ref fa) ⟨[.ref a], []⟩) (fun r s' => r = .ok (.ret (.bool true)) ∧ OldK s₁.heap s'.heap ∧ s'.os = s₁.os ∧ AllBare s'.gens) s₁ := by
    intro H hO hS hok hA hK
    have base_of : ∀ {b : Addr} {o : Obj}, s₁.heap.get? b = some o → H b = none → (hidT s₁.heap H).get? b = some o := fun e n => hidT_get e n
    have noA : ∀ {b : Addr} {o : Obj} {es : Array DictEntry} {ep : Nat}, s₁.heap.get? b = some o → o.data = .dict es ep → H b = none := fun {b o es ep} e d => by
      cases q : H b with
      | none => rfl
      | some u =>
        have e' : b = a := hA b (by rw [q]; simp)
        subst e'
        rw [ha] at e; cases e
        have d' : Data.seq vs.toArray _ = Data.dict es ep := d
        cases d'
    have nsK : ∀ {b : Addr} {m : Str → Option Value}, s₁.heap.Ns b m → (hidT s₁.heap H).Ns b m := fun {b m} ⟨o, es, ep, e, d, r⟩ => ⟨o, es, ep, base_of e (noA e d), d, r⟩
    have hKb : K.In (hidT s₁.heap H) := fun b o e => base_of (KX b o e) (by
      cases q : H b with
      | none => rfl
      | some u =>
        have e' : b = a := hA b (by rw [q]; simp)
        subst e'
        rw [hK (by rw [q]; simp)] at e; cases e)
    have hM : Mod K mg (hidT s₁.heap H) := ⟨hKb, nsK hns, ⟨mb, nsK hb, hbb⟩, let ⟨mc, h1, h2⟩ := hlim; ⟨mc, nsK h1, h2⟩⟩
    have e0 : Env0 P w K mg (hidT s₁.heap H) callerA [] s₁ H := ⟨rfl, hM, fun b o e => of_hidT e, Nat.le_of_eq (hidT_size _ _), trivial, fun b hb => absurd (show b ∈ ([] : List Addr) from hb) (by simp), hok, .of_eq hg⟩
    refine codeAny_mono ((F _ hKb (nsK hns)).run callerA [] s₁ H ⟨[.ref a], []⟩ [.ref a] [.ref a] _ _ hr e0 (hbind s₁ (.ref a)) (.cons rfl .nil) (hsp H hO hS)) fun r s' h => ?_
    cases r with
    | error e => exact (hCX H e s' h).elim
    | ok fl =>
      cases fl with
      | next => exact False.elim h
      | brk => exact False.elim h
      | cont => exact False.elim h
      | ret u =>
        obtain ⟨v, H', os, bare, un, hok', r', q⟩ := h
        have q' : v = .bl true := q
        subst q'
        obtain rfl : u = Value.bool true := r'
        refine ⟨rfl, OldK.of_keep fun b o e => ?_, os, bare⟩
        cases q : H b with
        | none => exact un.keep b o e q (by intro z; exact absurd (show b ∈ ([] : List Addr) from z) (by simp)) (by simp)
        | some u =>
          rcases hO b with z | ⟨ob, xs, z⟩
          · rw [q] at z; cases z
          · have z2 := un.frzs b ob _ z
            obtain ⟨e1, _⟩ := hok b _ z
            obtain ⟨e2, _⟩ := hok' b _ z2
            rw [e] at e1; cases e1
            exact e2
  cases hk : K.lookup a with
  | some o =>
    -- the script is one of the module's own objects
    have e := KX a o hk
    rw [ha] at e
    cases e
    refine core (fun _ => none) (fun _ => .inl rfl) (.inr ⟨_, vs.toArray, _, hk, rfl, rfl, rfl, by rw [List.size_toArray, lenV]; exact hl, by simpa using rv⟩) (fun b u z => by have z' : (none : Option HO) = some u := z; cases z') (fun b z => absurd rfl z) fun z => absurd rfl z
  | none =>
    refine core (fun b => if b = a then some (.frz { cls := .type "list", data := .seq vs.toArray } (.lst (ns.map V.int))) else none) (fun b => ?_) (.inl (.inr ⟨{ cls := .type "list", data := .seq vs.toArray }, if_pos rfl⟩)) (fun b u z => ?_) (fun b z => ?_) fun _ => hk
    · by_cases hb : b = a
      · exact .inr ⟨_, _, if_pos hb⟩
      · exact .inl (if_neg hb)
    · by_cases hb : b = a
      · have z' := (if_pos hb).symm.trans z
        cases z'
        subst hb
        exact ⟨ha, by rw [List.length_map]; exact hl, vs, _, rv, ha⟩
      · have z' := (if_neg hb).symm.trans z
        cases z'
    · by_cases hb : b = a
      · exact hb
      · exact absurd (if_neg hb) z
end L2

namespace L2
open PySem PySem.Spec PyProof.Rows

abbrev KOf {K : PySem.W.Frag} {h : Heap} (_ : K.In h) : PySem.W.Frag := K

/-- the goal that k_head leaves (case hc), from the law's promise. F gives the function object fd (K's own) once, then the promise over every base -/
theorem walk_of {l : PySem.W.OpenLaw} {n k : Nat} {q : Program} {loose : List Str} {XP : (Str → Option Value) → Heap → Prop} {YP : World → Heap → Prop} {d : DefRec} {K : Params → PySem.W.Frag} {CX : World → CXT} {sp : World → Sp} {x : Str}
    (hn : l.most = some n) (hn2 : n ≤ sizeLine) (hdf : d.params.defaults = []) (hr : Room k callerA)
    (hY : ∀ (w : World) (h : Heap), YP w h → (K w.params).In h)
    (F : ∀ (w : World) (mg : Str → Option Value) (fa : Addr) (h : Heap), (K w.params).In h → h.Ns mainGlobals mg → mg d.name = some (.ref fa) →
      ∃ fd : FuncData, (∀ (s : Shared) (u : Value), BindsTo s fd ⟨[u], []⟩ [(x, u)]) ∧
        ∀ base : Heap, (K w.params).In base → base.Ns mainGlobals mg → FnOk l.prog w (K w.params) mg base (CX w) k fa fd [x] (sp w))
    (hsp : ∀ (w : World) (H : Hp) (a : Addr) (ns : List Int), ns.length ≤ n → Only H → SqL (K w.params) H a (ns.map V.int) → sp w [.ref a] H (fun v _ => v = .bl true) fun _ _ _ => False)
    (hCX : ∀ (w : World) (H : Hp) (s : Shared) (e : Value) (s' : Shared), CX w [] H s (fun _ _ _ => False) e s' → False) :
    PySem.W.WalkO q loose XP YP l.row.toRowW d [] (fun f vs => PySem.call f vs) := by
  refine Att.attach_call hn hdf fun w s₀ s₁ mg mb fa o pm cd doc a vs ns G Y ho hd hcd hmg hobj hints hlen hg => ?_
  have KX := hY w _ Y
  obtain ⟨fd, hb, hF⟩ := F w mg fa _ KX G.T.g hmg
  exact law_call KX G.T.g G.T.b G.T.builtins G.T.nolimit hg hobj hints (Nat.le_trans hlen hn2) hr hF hb (fun H hO hS => hsp w H a ns hlen hO hS) fun H e s' => hCX w H s₁ e s'
end L2

/- THE LAST THEOREM (shape; LID, My.* are yours):
   My.Adr: a structure of the addresses that your layer names (classes, functions); My.Txt K t: a structure (Prop) of the equations over K;
   My.txt_mk : {K} {implicit addresses ..} (e1 : nsIn K mainGlobals "law" = some (some (.ref f))) (e2 : K.lookup f = some ⟨oc, od, .func (fnOf "law" "law" params body scope dV kV doc pm an cdv ct), sl⟩) (e3 : codeIn K cdv "law" = true) .. : ∃ t, My.Txt K t

set_option maxRecDepth 100000 in
set_option maxHeartbeats 0 in
theorem PySem.Challenge.cw_LID_holds : PySem.Challenge.rw_LID.Holds := by
  w_on; o_law; k_head; (case hw => w_witness2)
  k_fill
  refine L2.walk_of (l := PySem.Challenge.rw_LID) (n := 63) (k := 40) (x := "script") (CX := fun w => ..) (sp := fun _ => My.sp_law) rfl (by decide) rfl ⟨rfl, by decide, by decide⟩ (fun w h Y => PySem.W.kIn_of Y) ?F ?S ?C
  case F =>
    intro w mg fa h KX G hmg
    have T : ∃ t, My.Txt (L2.KOf KX) t := by
      dsimp only [L2.KOf]                          -- K must stand as «<heap const> w.params» for k_is
      refine' My.txt_mk ?e1 ?e2 ?e3 ..
      (case e1 => PySem.W.k_is)                    -- in the order: a name -> its address -> its object -> its parts
      (case e2 => PySem.W.k_is)
      ..
    obtain ⟨t, T⟩ := T
    have e0 := hmg.symm.trans (PySem.W.mg_of KX G T.law)
    cases e0                                       -- fa is the law's own address
    exact ⟨_, fun s u => .of_eq rfl, fun base kb nb => My.law_fn T kb nb⟩     -- if «.of_eq rfl» comes too early: refine' ⟨_, ?b, fun base kb nb => My.law_fn T kb nb⟩; exact fun s u => .of_eq rfl
  case S => exact fun w H a ns hl hO hS => ..
  case C => exact ..
(the tactic k_is has no namespace: write k_is) -/

/-! SHORT WORDS over the layer: a def of the text, its body, what a loop and a test want. -/
namespace L2
open PySem PySem.Spec PyProof.Rows

/-! ### the text by places -/
/-- the j-th statement of a class's body -/
def inClass (s : Stmt) (j : Nat) : Stmt := match s with
  | .ClassDef _ _ _ body _ _ _ _ _ _ _ => body.getD j (.Pass ⟨0, 0, 0, 0⟩)
  | _ => .Pass ⟨0, 0, 0, 0⟩
def defArgs (s : Stmt) : Arguments := match s with
  | .FunctionDef _ a _ _ _ _ _ _ _ _ => a
  | _ => { posonlyargs := [], args := [], vararg := none, kwonlyargs := [], kw_defaults := [], kwarg := none, defaults := [] }
def defBody (s : Stmt) : List Stmt := match s with
  | .FunctionDef _ _ b _ _ _ _ _ _ _ => b
  | _ => []
def defScope (s : Stmt) : Scope := match s with
  | .FunctionDef _ _ _ _ _ _ sc _ _ _ => sc
  | _ => { kind := .function, names := [], isGenerator := false, isCoroutine := false }

/-! ### no exception leaves a def -/
abbrev CX0 : CXT := fun _ _ _ _ _ _ => False
abbrev E0 : XK := fun _ _ _ => False
theorem pass0 {X : Cx} : Passes CX0 X E0 := fun _ _ _ _ _ _ _ h => h.elim

/-! ### a def (or method) of the text as it stands behind the top -/
structure Fun (K : PySem.W.Frag) (x qual : Str) (st : Stmt) (f : Addr) (fd : FuncData) : Prop where
  ex : ∃ (oc : Value) (od : Option Addr) (kV doc pm : Value) (an : Option Addr) (cdv ct : Value) (osl : Array (Option Value)),
    fd = PySem.W.fnOf x qual (defArgs st) (defBody st) (defScope st) .none kV doc pm an cdv ct ∧ K.lookup f = some ⟨oc, od, .func fd, osl⟩ ∧ PySem.W.codeIn K cdv qual = true
  kp : PySem.W.keepIn K (.ref f) = true
section
variable {P : Program} {w : World} {K : PySem.W.Frag} {mg : Str → Option Value} {base : Heap}
/-- THE RULE for a def: its body as a term of rules, and the reading of that term -/
theorem Fun.ok {x qual : Str} {st : Stmt} {f : Addr} {fd : FuncData} {N ps : List Str} {k : Nat} {sp : Sp} (F : Fun K x qual st f fd) (S : FnScope N ps (defScope st)) (len : ∀ vs H Q E, sp vs H Q E → vs.length = ps.length)
    (hbody : ∀ (cdv : Value) (A : Around) (outer : List Env) (s : Shared) (H : Hp) (vs : List V) (Q : VK) (E : XK), Room k (A.deeper (envOfC qual (defScope st) s.heap.objs.size f cdv)) → sp vs H Q E →
      ∃ t, PSs (cxOf CX0 P w K mg base N qual (defScope st) f cdv A outer s H E).nox (defBody st) t ∧ t { nx := fun _ H' => Q .non H', rt := Q } (start N vs) H) : FnOk P w K mg base CX0 (k + 1) f fd ps sp := by
  obtain ⟨oc, od, kV, doc, pm, an, cdv, ct, osl, rfl, lk, hcd⟩ := F.ex
  refine fn_of lk hcd S len fun A outer s H vs Q E hr hsp => ?_
  obtain ⟨t, h, q⟩ := hbody cdv A outer s H vs Q E hr hsp
  exact ⟨t, h.nox, q⟩
/-- how its arguments bind (no defaults): h is «fun _ _ _ _ _ _ us hl => match us, hl with | [_, _], _ => rfl», one _ a parameter -/
theorem Fun.binds {x qual : Str} {st : Stmt} {f : Addr} {fd : FuncData} {ps : List Str} (F : Fun K x qual st f fd)
    (h : ∀ (kV doc pm : Value) (an : Option Addr) (cdv ct : Value) (us : List Value), us.length = ps.length → bindArgs (PySem.W.fnOf x qual (defArgs st) (defBody st) (defScope st) .none kV doc pm an cdv ct) ⟨us, []⟩ = pure (ps.zip us)) : Binds K fd ps [] := by
  obtain ⟨oc, od, kV, doc, pm, an, cdv, ct, osl, rfl, lk, hcd⟩ := F.ex
  exact .all (h kV doc pm an cdv ct)
theorem fun_mk {x qual : Str} {st : Stmt} {f : Addr} {oc : Value} {od an : Option Addr} {osl : Array (Option Value)} {kV doc pm cdv ct : Value} (l : K.lookup f = some ⟨oc, od, .func (PySem.W.fnOf x qual (defArgs st) (defBody st) (defScope st) .none kV doc pm an cdv ct), osl⟩)
    (c : PySem.W.codeIn K cdv qual = true) (k : PySem.W.keepIn K (.ref f) = true) : Fun K x qual st f (PySem.W.fnOf x qual (defArgs st) (defBody st) (defScope st) .none kV doc pm an cdv ct) := ⟨⟨oc, od, kV, doc, pm, an, cdv, ct, osl, rfl, l, c⟩, k⟩
end
theorem small1000 {n : Nat} (h : n ≤ 1000) : n < sizeLine := Nat.lt_of_le_of_lt h (by decide)

/-! ### expressions in short: the name that stands in the i-th slot -/
section
variable {X : Cx}
theorem pv (i : Nat) {x : Str} {pos : Pos} (hN : X.N[i]? = some x := by rfl) (hv : Vis X.env.scope x := by first | exact Or.inl rfl | exact Or.inr (Or.inl rfl) | exact Or.inr (Or.inr rfl)) (hd : (x == ("__debug__" : Str)) = false := by decide)
    (hcd : (x == ("__classdict__" : Str)) = false := by decide) : PE X (.Name x pos) (tVar i) := pe_var hN hv hd hcd
end

/-! ### tests -/
theorem ite2 {c A B : Prop} [Decidable c] (h1 : c → A) (h2 : ¬ c → B) : if c then A else B := by
  by_cases h : c
  · rw [if_pos h]
    exact h1 h
  · rw [if_neg h]
    exact h2 h
/-! ### heaps -/
/-- all that was tracked is as it was -/
def Same (H H' : Hp) : Prop := ∀ b o, H b = some o → H' b = some o
theorem Same.refl (H : Hp) : Same H H := fun _ _ h => h
theorem Same.trans {H H1 H2 : Hp} (a : Same H H1) (b : Same H1 H2) : Same H H2 := fun c o h => b c o (a c o h)
theorem Same.free {H H' : Hp} (e : Same H H') {l : Addr} (h : H' l = Option.none) : H l = Option.none := by
  cases q : H l with
  | none => rfl
  | some o =>
    rw [e l o q] at h
    cases h
theorem Same.seq {K : PySem.W.Frag} {H H' : Hp} {a : Addr} {xs : List V} (e : Same H H') (h : SqL K H a xs) : SqL K H' a xs := by
  rcases h with (h | ⟨o, h⟩) | h
  · exact .inl (.inl (e _ _ h))
  · exact .inl (.inr ⟨o, e _ _ h⟩)
  · exact .inr h

end L2

set_option Elab.async false
set_option linter.all false
set_option maxRecDepth 100000
namespace L2
open PySem PySem.Spec PyProof.Rows

/-! ### lists of pairs as tables -/
section
variable {κ : Type} [DecidableEq κ]
def valV (kvs : List (κ × V)) (k : κ) : Option V := (kvs.find? fun kv => decide (kv.1 = k)).map (·.2)
/-- in its place, or at the end -/
def putK (kvs : List (κ × V)) (k : κ) (v : V) : List (κ × V) :=
  if (kvs.any fun kv => decide (kv.1 = k)) = true then kvs.map (fun kv => if kv.1 = k then (kv.1, v) else kv) else kvs ++ [(k, v)]
def dropK (kvs : List (κ × V)) (k : κ) : List (κ × V) := kvs.filter fun kv => decide (kv.1 ≠ k)

theorem valV_pos {p : κ × V} {r : List (κ × V)} {k : κ} (e : p.1 = k) : valV (p :: r) k = some p.2 := by simp [valV, List.find?_cons, e]
theorem valV_neg {p : κ × V} {r : List (κ × V)} {k : κ} (e : ¬ p.1 = k) : valV (p :: r) k = valV r k := by simp [valV, List.find?_cons, e]
theorem valV_any (k : κ) : ∀ kvs : List (κ × V), (kvs.any fun kv => decide (kv.1 = k)) = (valV kvs k).isSome
  | [] => rfl
  | p :: r => by
    rw [List.any_cons]
    by_cases e : p.1 = k
    · simp only [valV_pos e, decide_eq_true e, Bool.true_or, Option.isSome_some]
    · rw [valV_neg e, decide_eq_false e, Bool.false_or]; exact valV_any k r
theorem valV_map (k j : κ) (y : V) : ∀ kvs : List (κ × V), valV (kvs.map fun kv => if kv.1 = k then (kv.1, y) else kv) j = (valV kvs j).map fun x => if j = k then y else x
  | [] => rfl
  | p :: r => by
    have ih := valV_map k j y r
    rw [List.map_cons]
    by_cases h : p.1 = k
    · rw [if_pos h]
      by_cases e : p.1 = j
      · rw [valV_pos (p := (p.1, y)) e, valV_pos e, Option.map_some, if_pos (e.symm.trans h)]
      · rw [valV_neg (p := (p.1, y)) e, valV_neg e, ih]
    · rw [if_neg h]
      by_cases e : p.1 = j
      · rw [valV_pos (p := p) e, valV_pos e, Option.map_some, if_neg (fun z => h (e.trans z))]
      · rw [valV_neg (p := p) e, valV_neg e, ih]
theorem valV_snoc (k j : κ) (y : V) : ∀ kvs : List (κ × V), valV kvs k = none → valV (kvs ++ [(k, y)]) j = if j = k then some y else valV kvs j
  | [], _ => by
    by_cases e : k = j
    · rw [if_pos e.symm]; exact valV_pos (p := (k, y)) e
    · rw [if_neg (fun z => e z.symm)]; exact valV_neg (p := (k, y)) e
  | p :: r, hn => by
    rw [List.cons_append]
    have hk : ¬ p.1 = k := fun z => by rw [valV_pos z] at hn; cases hn
    rw [valV_neg hk] at hn
    have ih := valV_snoc k j y r hn
    by_cases e : p.1 = j
    · rw [valV_pos e, valV_pos e, if_neg (fun z => hk (e.trans z))]
    · rw [valV_neg e, valV_neg e, ih]
theorem valV_put (kvs : List (κ × V)) (k j : κ) (y : V) : valV (putK kvs k y) j = if j = k then some y else valV kvs j := by
  unfold putK
  by_cases a : (kvs.any fun kv => decide (kv.1 = k)) = true
  · rw [if_pos a, valV_map]
    rw [valV_any] at a
    by_cases e : j = k
    · obtain ⟨x, hx⟩ := Option.isSome_iff_exists.mp a
      rw [if_pos e, e, hx, Option.map_some, if_pos rfl]
    · rw [if_neg e]
      cases valV kvs j with
      | none => rfl
      | some x => rw [Option.map_some, if_neg e]
  · rw [if_neg a]
    refine valV_snoc k j y kvs ?_
    rw [valV_any] at a
    cases q : valV kvs k with
    | none => rfl
    | some x => rw [q] at a; exact (a rfl).elim
theorem length_putK (kvs : List (κ × V)) (k : κ) (v : V) : (putK kvs k v).length ≤ kvs.length + 1 := by
  unfold putK
  split
  · rw [List.length_map]; omega
  · rw [List.length_append, List.length_cons, List.length_nil]; omega
theorem RelO.isSome_eq {o : Option V} {u : Option Value} (r : RelO o u) : o.isSome = u.isSome := by
  cases o with
  | none => cases u with
    | none => rfl
    | some _ => exact (show False from r).elim
  | some _ => cases u with
    | none => exact (show False from r).elim
    | some _ => rfl
/-- raw tables of the same keys -/
theorem KV.val {kvs : List (κ × V)} {vs : List (κ × Value)} (r : KV kvs vs) (k : κ) : RelO (valV kvs k) (valueAt vs k) := by
  unfold KV at r
  induction r with
  | nil => exact True.intro
  | @cons p q ps qs h t ih =>
    obtain ⟨h1, h2⟩ := h
    by_cases e : p.1 = k
    · have e' : q.1 = k := h1.symm.trans e
      have b : valueAt (q :: qs) k = some q.2 := by simp [valueAt, List.find?_cons, e']
      rw [valV_pos e, b]; exact h2
    · have e' : ¬ q.1 = k := fun z => e (h1.trans z)
      have b : valueAt (q :: qs) k = valueAt qs k := by simp [valueAt, List.find?_cons, e']
      rw [valV_neg e, b]; exact ih
theorem KV.any {kvs : List (κ × V)} {vs : List (κ × Value)} (r : KV kvs vs) (k : κ) : (kvs.any fun kv => decide (kv.1 = k)) = vs.any fun kv => decide (kv.1 = k) := by
  unfold KV at r
  induction r with
  | nil => rfl
  | cons h t ih => rw [List.any_cons, List.any_cons, ih, h.1]
theorem KV.repl {kvs : List (κ × V)} {vs : List (κ × Value)} (r : KV kvs vs) (k : κ) {y : V} {u : Value} (ry : RelV y u) :
    KV (kvs.map fun kv => if kv.1 = k then (kv.1, y) else kv) (vs.map fun kv => if kv.1 = k then (kv.1, u) else kv) := by
  unfold KV at r ⊢
  induction r with
  | nil => exact .nil
  | @cons p q ps qs h t ih =>
    rw [List.map_cons, List.map_cons]
    refine .cons ?_ ih
    obtain ⟨h1, h2⟩ := h
    by_cases e : p.1 = k
    · rw [if_pos e, if_pos (h1.symm.trans e)]; exact ⟨h1, ry⟩
    · rw [if_neg e, if_neg (fun z => e (h1.trans z))]; exact ⟨h1, h2⟩
theorem KV.put {kvs : List (κ × V)} {vs : List (κ × Value)} (r : KV kvs vs) (k : κ) {y : V} {u : Value} (ry : RelV y u) : KV (putK kvs k y) (stored vs k u) := by
  unfold putK stored
  rw [r.any k]
  by_cases e : (vs.any fun kv => decide (kv.1 = k)) = true
  · rw [if_pos e, if_pos e]; exact r.repl k ry
  · rw [if_neg e, if_neg e]; exact Paired.snoc r ⟨rfl, ry⟩
theorem KV.length {kvs : List (κ × V)} {vs : List (κ × Value)} (r : KV kvs vs) : kvs.length = vs.length := Paired.length r
end


/-! ### a tracked dict, its keys ints and texts or tuples of these -/
theorem kV_is {P : Program} {w : World} {k : Key} {u : Value} (r : RelV (kV k) u) : (mixKind P w).is k u = true := by
  cases k with
  | inl i => obtain ⟨t, e⟩ := (show ∃ t, u = Value.int i t from r); subst e; exact mixKind_int P w i t
  | inr x => obtain ⟨t, e⟩ := (show ∃ t, u = Value.str x t from r); subst e; exact mixKind_str P w x t
theorem items_are {P : Program} {w : World} : ∀ {ks : List Key} {us : List Value}, Vals (ks.map kV) us → ItemsAre (mixKind P w) ks us
  | [], _, r => by rw [List.map_nil] at r; cases r; exact .nil
  | k :: ks, _, r => by
    rw [List.map_cons] at r
    cases r with
    | cons h t => exact .cons (kV_is h) (items_are t)

/-- raw entries of a dict with tuple keys -/
abbrev KT (H : Hp) : List (List Key × V) → List (List Key × Addr × Value) → Prop := Paired fun p q => p.1 = q.1 ∧ H q.2.1 = some (.tup (p.1.map kV)) ∧ RelV p.2 q.2.2
theorem KT.val {H : Hp} {kvs : List (List Key × V)} {xs : List (List Key × Addr × Value)} (r : KT H kvs xs) (k : List Key) : RelO (valV kvs k) ((atKey xs k).map (·.2)) := by
  induction r with
  | nil => exact True.intro
  | @cons p q ps qs h t ih =>
    obtain ⟨h1, _, h2⟩ := h
    by_cases e : p.1 = k
    · have e' : q.1 = k := h1.symm.trans e
      have b : atKey (q :: qs) k = some q.2 := by simp [atKey, List.find?_cons, e']
      rw [valV_pos e, b]; exact h2
    · have e' : ¬ q.1 = k := fun z => e (h1.trans z)
      have b : atKey (q :: qs) k = atKey qs k := by simp [atKey, List.find?_cons, e']
      rw [valV_neg e, b]; exact ih
theorem KT.repl {H : Hp} {kvs : List (List Key × V)} {xs : List (List Key × Addr × Value)} (r : KT H kvs xs) (k : List Key) {y : V} {u : Value} (ry : RelV y u) :
    KT H (kvs.map fun kv => if kv.1 = k then (kv.1, y) else kv) (xs.map (putAt k u)) := by
  induction r with
  | nil => exact .nil
  | @cons p q ps qs h t ih =>
    rw [List.map_cons, List.map_cons]
    refine .cons ?_ ih
    obtain ⟨h1, h2, h3⟩ := h
    unfold putAt
    by_cases e : p.1 = k
    · rw [if_pos e, if_pos (h1.symm.trans e)]; exact ⟨h1, h2, ry⟩
    · rw [if_neg e, if_neg (fun z => e (h1.trans z))]; exact ⟨h1, h2, h3⟩
theorem KT.put {H : Hp} {kvs : List (List Key × V)} {xs : List (List Key × Addr × Value)} (r : KT H kvs xs) (k : List Key) {b : Addr} {y : V} {u : Value} (hb : H b = some (.tup (k.map kV))) (ry : RelV y u) :
    KT H (putK kvs k y) (storedH xs k b u) := by
  have e : (kvs.any fun kv => decide (kv.1 = k)) = (atKey xs k).isSome := by
    rw [valV_any, (r.val k).isSome_eq, Option.isSome_map]
  unfold putK storedH
  rw [e]
  by_cases q : (atKey xs k).isSome = true
  · rw [if_pos q, if_pos q]; exact r.repl k ry
  · rw [if_neg q, if_neg q]; exact Paired.snoc r ⟨rfl, hb, ry⟩
theorem KT.keeps {H H' : Hp} {kvs : List (List Key × V)} {xs : List (List Key × Addr × Value)} (r : KT H kvs xs) (ht : ∀ b ys, H b = some (.tup ys) → H' b = some (.tup ys)) : KT H' kvs xs :=
  Paired.mapP r fun _ _ z => ⟨z.1, ht _ _ z.2.1, z.2.2⟩

section
variable {P : Program} {w : World} {H : Hp} {h : Heap} {a : Addr}
theorem rd_of {u : HO} (ok : HOk P w H h) (e : Rd H a u) : ObjOk P w H h a u := e.ok ok
theorem dk_rd {kvs : List (Key × V)} (ok : HOk P w H h) (e : Rd H a (.dK kvs)) : kvs.length ≤ sizeLine ∧ (a == sysModules) = false ∧ ∃ vs, KV kvs vs ∧ h.DictOf (mixKind P w) a vs :=
  show ObjOk P w H h a (.dK kvs) from rd_of ok e
theorem dk_of {kvs : List (Key × V)} (ok : HOk P w H h) (e : H a = some (.dK kvs)) : kvs.length ≤ sizeLine ∧ (a == sysModules) = false ∧ ∃ vs, KV kvs vs ∧ h.DictOf (mixKind P w) a vs := dk_rd ok (.inl e)
/-- a tracked tuple of ints and texts is a key -/
theorem key_of {ks : List Key} (ok : HOk P w H h) (e : H a = some (.tup (ks.map kV))) : (tupleKind (mixKind P w)).is h ks a := by
  obtain ⟨_, its, r, o, h1, h2, n, h3⟩ := (show ObjOk P w H h a (.tup (ks.map kV)) from ok a _ e)
  exact ⟨o, its.toArray, n, h1, h2, h3, by simpa using items_are r⟩
theorem dt_rd {kvs : List (List Key × V)} (ok : HOk P w H h) (e : Rd H a (.dT kvs)) : kvs.length ≤ sizeLine ∧ (a == sysModules) = false ∧
    ∃ xs, KT H kvs xs ∧ h.DictOfH (tupleKind (mixKind P w)) a xs := by
  obtain ⟨z, y, xs, r, o, es, ep, h1, h2, h3, h4, h5⟩ := (show ObjOk P w H h a (.dT kvs) from rd_of ok e)
  refine ⟨z, y, xs, r, o, es, ep, h1, h2, h3, h4, fun x hx => ?_, h5⟩
  have all : ∀ {l : List (List Key × V)} {m : List (List Key × Addr × Value)}, KT H l m → ∀ x ∈ m, (tupleKind (mixKind P w)).is h x.1 x.2.1 := by
    intro l m q
    induction q with
    | nil => intro x hx; exact nomatch hx
    | @cons p q ps qs hq t ih =>
      intro x hx
      rcases List.mem_cons.mp hx with e | hx
      · subst e
        exact key_of ok (by rw [← hq.1]; exact hq.2.1)
      · exact ih x hx
  exact all r x hx
theorem dt_of {kvs : List (List Key × V)} (ok : HOk P w H h) (e : H a = some (.dT kvs)) : kvs.length ≤ sizeLine ∧ (a == sysModules) = false ∧
    ∃ xs, KT H kvs xs ∧ h.DictOfH (tupleKind (mixKind P w)) a xs := dt_rd ok (.inl e)
end

/-- what the dict at a holds at the key y -/
def DGet (H : Hp) (a : Addr) (y : V) (r : Option V) : Prop :=
  (∃ kvs k, Rd H a (.dK kvs) ∧ y = kV k ∧ r = valV kvs k) ∨ ∃ kvs k b, Rd H a (.dT kvs) ∧ y = .ref b ∧ H b = some (.tup (k.map kV)) ∧ r = valV kvs k
/-- the heap behind a[y] = v -/
def DPut (H : Hp) (a : Addr) (y v : V) (H' : Hp) : Prop :=
  (∃ kvs k, H a = some (.dK kvs) ∧ y = kV k ∧ kvs.length < sizeLine ∧ H' = upd H a (.dK (putK kvs k v))) ∨
  ∃ kvs k b, H a = some (.dT kvs) ∧ y = .ref b ∧ H b = some (.tup (k.map kV)) ∧ kvs.length < sizeLine ∧ H' = upd H a (.dT (putK kvs k v))
theorem DGet.k {H : Hp} {a : Addr} {kvs : List (Key × V)} {k : Key} (e : H a = some (.dK kvs)) : DGet H a (kV k) (valV kvs k) := .inl ⟨kvs, k, .inl e, rfl, rfl⟩
theorem DPut.k {H : Hp} {a : Addr} {kvs : List (Key × V)} {k : Key} {v : V} (e : H a = some (.dK kvs)) (hl : kvs.length < sizeLine) : DPut H a (kV k) v (upd H a (.dK (putK kvs k v))) := .inl ⟨kvs, k, e, rfl, hl, rfl⟩
section
variable {X : Cx} {pins : List (Addr × Obj)} {σ : St} {H : Hp} {s : Shared} {a : Addr} {y v : V} {u r : Value} {o : Option V} {A : Around} {E : Value → Shared → Prop}

theorem Inv.big (I : Inv X pins σ H s) : sysModules < s.heap.objs.size := by
  have h : mainGlobals < s.heap.objs.size := (I.mod.glob.keeps I.bk).lt
  exact Nat.lt_trans (by decide) h

/-- d[y], there -/
theorem d_getItem {Q : Value → Shared → Prop} (hu : A.units + 1 < cLine) (I : Inv X pins σ H s) (g : DGet H a y (some v)) (ry : RelV y u) (h : ∀ w' s', Inv X pins σ H s' → RelV v w' → Q w' s') :
    wpAny (model X.prog X.w) A (getItem (.ref a) u) Q E s := by
  rcases g with ⟨kvs, k, e, ey, l⟩ | ⟨kvs, k, b, e, ey, eb, l⟩
  · subst ey
    obtain ⟨z, hd, vs, rel, dd⟩ := dk_rd I.hok e
    obtain ⟨w', hw, rw'⟩ := RelO.some_of (v := v) (o := valueAt vs k) (by rw [l]; exact rel.val k)
    exact wpAny_getItem_of (kV_is ry) dd.mapOf hw (h w' _ (I.tok _) rw')
  · subst ey
    cases (show u = Value.ref b from ry)
    obtain ⟨z, hd, xs, rel, dd⟩ := dt_rd I.hok e
    obtain ⟨w', hw, rw'⟩ := RelO.some_of (v := v) (o := (atKey xs k).map (·.2)) (by rw [l]; exact rel.val k)
    obtain ⟨p, hp, hp2⟩ := Option.map_eq_some_iff.mp hw
    refine wpAny_getItem_heap (tupleKind_room_in1 hu) (key_of I.hok eb) dd hp ?_
    rw [hp2]
    exact h w' _ (I.tok _) rw'
/-- a dict's object is replaced -/
theorem d_write {h' : Heap} {t' : Nat} {ob : HO} (I : Inv X pins σ H s) (mu : Mut (H a)) (hs : Heap.SameBut a s.heap h') (he : ∃ q, h'.get? a = some q) (new : ObjOk X.prog X.w (upd H a ob) h' a ob) :
    Inv X pins σ (upd H a ob) { s with heap := h', toks := t' } :=
  I.write (x := a) (e := a) mu (.inl rfl) (fun b q hb z => (hs.2 b hb).trans z) he new
theorem dk_new {P : Program} {w : World} {H' : Hp} {h' : Heap} {kvs : List (Key × V)} {vs : List (Key × Value)} (z : kvs.length ≤ sizeLine) (hd : (a == sysModules) = false) (rel : KV kvs vs) (dd : h'.DictOf (mixKind P w) a vs) :
    ObjOk P w H' h' a (.dK kvs) := ⟨z, hd, vs, rel, dd⟩
/-- d[y] = v -/
theorem d_setItem {H' : Hp} {Q : Unit → Shared → Prop} (hu : A.units + 1 < cLine) (I : Inv X pins σ H s) (g : DPut H a y v H') (ry : RelV y u) (rv : RelV v r) (h : ∀ s', Inv X pins σ H' s' → Q () s') :
    wpAny (model X.prog X.w) A (setItem (.ref a) u r) Q E s := by
  rcases g with ⟨kvs, k, e, ey, l, eH⟩ | ⟨kvs, k, b, e, ey, eb, l, eH⟩
  · subst ey eH
    obtain ⟨z, hd, vs, rel, dd⟩ := dk_of I.hok e
    have hz : vs.length ≤ sizeLine := by rw [← rel.length]; exact z
    have hl : (putK kvs k v).length ≤ sizeLine := by have := length_putK kvs k v; omega
    refine wpAny_setItem_pairs (hsz := hz) (kV_is ry) dd fun h' dd' hs => h _ ?_
    have he : ∃ q, h'.get? a = some q := let ⟨q, _, _, hq, _⟩ := dd'; ⟨q, hq⟩
    exact d_write I (by rw [e]; exact True.intro) hs he (dk_new hl hd (rel.put k rv) dd')
  · subst ey eH
    cases (show u = Value.ref b from ry)
    obtain ⟨z, hd, xs, rel, dd⟩ := dt_of I.hok e
    have hz : xs.length ≤ sizeLine := by rw [← Paired.length rel]; exact z
    have hl : (putK kvs k v).length ≤ sizeLine := by have := length_putK kvs k v; omega
    refine wpAny_setItem_heap (hsz := hz) (tupleKind_room_in1 hu) (key_of I.hok eb) dd fun h' dd' hs => h _ ?_
    obtain ⟨q, es, ep, hq, h2, h3, h4, _, h5⟩ := dd'
    refine d_write I (by rw [e]; exact True.intro) hs ⟨q, hq⟩ ⟨hl, hd, _, (rel.put k eb rv).keeps fun c ys ec => ?_, q, es, ep, hq, h2, h3, h4, h5⟩
    rw [upd_ne (ne_of ec e (fun z => nomatch z))]
    exact ec
end

section
variable {X : Cx} {pins : List (Addr × Obj)} {σ : St} {H : Hp} {s : Shared} {a : Addr} {kvs : List (Key × V)} {k : Key} {u : Value} {A : Around} {E : Value → Shared → Prop}
end


/-! ### readings and rules -/
/-- the element of a subscription, not a slice -/
def NoSl (i : Expr) : Prop := ∀ ov iv, subscripted i false ov iv = operate [ov, iv] (getItem ov iv)
theorem subD_of {prog : Program} {w : World} {A : Around} {E : Value → Shared → Prop} {s : Shared} {env : Env} {value slice : Expr} {pos : Pos} {T id : String} {Q : Value → Shared → Prop}
    (hl : typeLookup (.type T) "__getitem__" = pure (some (.builtin id))) (hs : NoSl slice)
    (h : wpAny (model prog w) A (eval value env) (fun o s₁ => wpAny (model prog w) A (eval slice env) (fun i s₂ => s₂.TypeIs o T ∧ wpAny (model prog w) A (getItem o i) Q E s₂) E s₁) E s) :
    wpAny (model prog w) A (eval (.Subscript value slice pos) env) Q E s := by
  refine Subscript_ (wpAny_mono h (fun o s₁ h₁ => wpAny_mono h₁ (fun i s₂ h₂ => ?_) fun _ _ x => x) fun _ _ x => x)
  obtain ⟨hT, h₂⟩ := h₂
  unfold subscriptTail
  refine wpAny_bind ?_
  rw [getitemInPython_of_ne hT.not_modules]
  refine wpAny_bind (wpAny_specialOf hT hl ?_)
  have fin : wpAny (model prog w) A (subscripted slice false o i) (fun r s₃ => wpAny (model prog w) A (letTemporaryGo value o r >>= fun _ => pure r) Q E s₃) E s₂ := by
    rw [hs o i]
    exact wpAny_operating (wpAny_mono h₂ (fun r s₃ h₃ => wpAny_bind (wpAny_letTemporaryGo (wpAny_pure h₃))) fun _ _ x => x)
  first
    | exact wpAny_pure (wpAny_bind fin)
    | exact wpAny_bind (wpAny_pure (wpAny_bind fin))
    | exact wpAny_bind fin

theorem dict_typeIs {X : Cx} {pins : List (Addr × Obj)} {σ : St} {H : Hp} {s : Shared} {a : Addr} {y : V} {o : Option V} (I : Inv X pins σ H s) (g : DGet H a y o) : s.TypeIs (.ref a) "dict" := by
  rcases g with ⟨kvs, k, e, _, _⟩ | ⟨kvs, k, b, e, _, _, _⟩
  · obtain ⟨_, _, vs, _, dd⟩ := dk_rd I.hok e
    exact dd.typeIs
  · obtain ⟨_, _, xs, _, dd⟩ := dt_rd I.hok e
    exact dd.typeIs
/-- d[y] -/
def tDGet (td ty : TE) : TE := fun σ H Q => td σ H fun x H1 => ty σ H1 fun y H2 => ∃ a v, x = .ref a ∧ DGet H2 a y (some v) ∧ Q v H2
/-- y in d, y not in d -/
def tDIn (ty td : TE) : TE := fun σ H Q => ty σ H fun y H1 => td σ H1 fun x H2 => ∃ a o, x = .ref a ∧ DGet H2 a y o ∧ Q (.bl o.isSome) H2
def tDNotIn (ty td : TE) : TE := fun σ H Q => ty σ H fun y H1 => td σ H1 fun x H2 => ∃ a o, x = .ref a ∧ DGet H2 a y o ∧ Q (.bl (!o.isSome)) H2
/-- d[y] = v -/
def sDPut (td ty tv : TE) : TS := fun D σ H => tv σ H fun v H1 => td σ H1 fun x H2 => ty σ H2 fun y H3 => ∃ a H4, x = .ref a ∧ DPut H3 a y v H4 ∧ D.nx σ H4
/-- d[y] op= v -/
def sDAug (td ty tv : TE) (rd : V → V → Hp → VK → Prop) : TS := fun D σ H => td σ H fun x H1 => ty σ H1 fun y H2 => ∃ a v, x = .ref a ∧ DGet H2 a y (some v) ∧
  tv σ H2 fun y2 H3 => rd v y2 H3 fun z H4 => ∃ H5, DPut H4 a y z H5 ∧ D.nx σ H5
/-- del d[y] -/
def sDDel (td ty : TE) : TS := fun D σ H => td σ H fun x H1 => ty σ H1 fun y H2 => ∃ a kvs k, x = .ref a ∧ H2 a = some (.dK kvs) ∧ y = kV k ∧ (valV kvs k).isSome = true ∧ D.nx σ (upd H2 a (.dK (dropK kvs k)))

section
variable {X : Cx} {o i e value : Expr} {pos pos' tpos : Pos} {td ty tv : TE}
theorem pe_dget (hu : X.A.units + 1 < cLine) (ho : PE X o td) (hi : PE X i ty) (hs : NoSl i) : PE X (.Subscript o i pos) (tDGet td ty) := by
  intro pins s σ H Q I h
  refine subD_of PySem.F.slot_dict_getitem.lookup hs (thn (ho pins s σ H _ I h) fun u s1 ⟨x, H1, I1, rx, q1⟩ => thn (hi pins s1 σ H1 _ I1 q1) fun iv s2 ⟨y, H2, I2, ry, a, v, ex, g, q2⟩ => ?_)
  subst ex
  obtain rfl : u = Value.ref a := rx
  exact ⟨dict_typeIs I2 g, d_getItem hu I2 g ry fun w' s3 I3 rw' => ⟨v, H2, I3, rw', q2⟩⟩
theorem ps_dput (hu : X.A.units + 1 < cLine) (ho : PE X o td) (hi : PE X i ty) (hv : PE X value tv) (hs : swapsWith value (some (.Subscript o i pos')) pos.line X.env = pure false) :
    PS X (.Assign [.Subscript o i pos'] value pos) (sDPut td ty tv) := by
  intro pins s σ H D I h
  refine wpAny_Assign_Subscript (thn (hv pins s σ H _ I h) fun r s1 ⟨v, H1, I1, rv, q1⟩ => thn (ho pins s1 σ H1 _ I1 q1) fun u s2 ⟨x, H2, I2, rx, q2⟩ => thn (hi pins s2 σ H2 _ I2 q2) fun iv s3 ⟨y, H3, I3, ry, a, H4, ex, g, q3⟩ => ?_) hs
  subst ex
  obtain rfl : u = Value.ref a := rx
  exact d_setItem hu I3 g ry rv fun s4 I4 => ⟨σ, H4, I4, q3⟩
end


/-! ### displays -/
theorem dk_empty {P : Program} {w : World} {H : Hp} (h : Heap) (hb : sysModules < h.objs.size) : ObjOk P w H (h.push { cls := .type "dict", data := .dict #[] }) h.objs.size (.dK []) :=
  ⟨Nat.zero_le _, beq_eq_false_iff_ne.mpr (Ne.symm (Nat.ne_of_lt hb)), [], .nil, Heap.DictOf.new h⟩
/-- {}, to be a dict of the kind that is wanted -/
def tDNewK : TE := fun _ H Q => ∀ p, H p = none → Q (.ref p) (upd H p (.dK []))
def tDNewT : TE := fun _ H Q => ∀ p, H p = none → Q (.ref p) (upd H p (.dT []))
section
variable {X : Cx} {pos : Pos}
theorem pe_dnewK : PE X (.Dict [] [] pos) tDNewK := fun pins s σ H Q I h =>
  wpAny_Dict_empty ⟨.ref s.heap.objs.size, _, I.laid (a := s.heap.objs.size) (o := .dK []) (t' := s.toks) (fun _ _ q => Heap.get?_push_of_some _ q) (Nat.le_refl _) (dk_empty s.heap I.big), rfl, h _ (I.hok.fresh (Nat.le_refl _))⟩
end

/-- the pairs of a display, from the left -/
def tPairs : List (TE × TE) → St → Hp → (List (V × V) → Hp → Prop) → Prop
  | [], _, H, Q => Q [] H
  | (tk, tv) :: r, σ, H, Q => tk σ H fun x H1 => tv σ H1 fun y H2 => tPairs r σ H2 fun ps H3 => Q ((x, y) :: ps) H3
abbrev VV : List (V × V) → List (Value × Value) → Prop := Paired fun p q => RelV p.1 q.1 ∧ RelV p.2 q.2
def PPs (X : Cx) (pos : Pos) (keys : List (Option Expr)) (values : List Expr) (trs : List (TE × TE)) : Prop :=
  ∀ (pins : List (Addr × Obj)) (s : Shared) (σ : St) (H : Hp) (Q : List (V × V) → Hp → Prop), Inv X pins σ H s → tPairs trs σ H Q →
    wpAny (model X.prog X.w) X.A (evalPairs (pairTrees keys values X.env pos)) (fun vs s' => ∃ ps H', Inv X pins σ H' s' ∧ VV ps vs ∧ Q ps H') X.xe s
theorem pps_nil {X : Cx} {pos : Pos} : PPs X pos [] [] [] := fun pins s σ H Q I h => pairTrees_nil_walk ⟨[], H, I, .nil, h⟩
theorem pps_cons {X : Cx} {pos : Pos} {k v : Expr} {ks : List (Option Expr)} {vs : List Expr} {tk tv : TE} {trs : List (TE × TE)} (hk : PE X k tk) (hv : PE X v tv) (hr : PPs X pos ks vs trs) :
    PPs X pos (some k :: ks) (v :: vs) ((tk, tv) :: trs) := fun pins s σ H Q I h =>
  pairTrees_cons_walk (thn (hk pins s σ H _ I h) fun u s1 ⟨x, H1, I1, rx, q1⟩ => thn (hv pins s1 σ H1 _ I1 q1) fun w2 s2 ⟨y, H2, I2, ry, q2⟩ =>
    thn (hr pins s2 σ H2 _ I2 q2) fun ws s3 ⟨ps, H3, I3, rel, q3⟩ => ⟨(x, y) :: ps, H3, I3, .cons ⟨rx, ry⟩ rel, q3⟩)

def mergeK (kvs more : List (Key × V)) : List (Key × V) := more.foldl (fun acc kv => putK acc kv.1 kv.2) kvs
theorem KV.merge : ∀ {more : List (Key × V)} {rs : List (Key × Value)} {kvs : List (Key × V)} {vs : List (Key × Value)}, KV more rs → KV kvs vs → KV (mergeK kvs more) (merged vs rs) := by
  intro more rs kvs vs r
  unfold KV at r
  induction r generalizing kvs vs with
  | nil => intro q; exact q
  | @cons p q ps qs h t ih =>
    intro r0
    have e : KV (putK kvs p.1 p.2) (stored vs q.1 q.2) := by
      have := r0.put p.1 h.2
      rw [← h.1]; exact this
    exact ih e
theorem length_mergeK : ∀ (more kvs : List (Key × V)), (mergeK kvs more).length ≤ kvs.length + more.length
  | [], kvs => by show kvs.length ≤ kvs.length + 0; omega
  | p :: r, kvs => by
    have h1 := length_mergeK r (putK kvs p.1 p.2)
    have h2 := length_putK kvs p.1 p.2
    show (mergeK (putK kvs p.1 p.2) r).length ≤ _
    rw [List.length_cons]; omega
theorem carries_of {P : Program} {w : World} : ∀ {kvs : List (Key × V)} {ws : List (Value × Value)}, VV (kvs.map fun kv => (kV kv.1, kv.2)) ws → ∃ rs, Carries (mixKind P w) ws rs ∧ KV kvs rs
  | [], _, r => by rw [List.map_nil] at r; cases r; exact ⟨[], True.intro, .nil⟩
  | p :: kvs, _, r => by
    rw [List.map_cons] at r
    cases r with
    | @cons a b as bs h t =>
      obtain ⟨rs, c, q⟩ := carries_of (P := P) (w := w) t
      obtain ⟨b1, b2⟩ := b
      exact ⟨(p.1, b2) :: rs, ⟨kV_is h.1, rfl, c⟩, .cons ⟨rfl, h.2⟩ q⟩
/-- {k: v, ..} with keys ints and texts; the new dict stands empty while the pairs are made -/
def tDisp (trs : List (TE × TE)) : TE := fun σ H Q => ∀ p, H p = none → tPairs trs σ (upd H p (.dK [])) fun ps H2 => H2 p = some (.dK []) ∧ ∃ kvs : List (Key × V), ps = kvs.map (fun kv => (kV kv.1, kv.2)) ∧ kvs.length ≤ 15 ∧ Q (.ref p) (upd H2 p (.dK (mergeK [] kvs)))
theorem pe_disp {X : Cx} {pos : Pos} {keys : List (Option Expr)} {values : List Expr} {trs : List (TE × TE)} (h : PPs X pos keys values trs) (hall : keys.all (·.isSome) = true) (hl : keys.length = values.length) (h0 : keys ≠ [])
    (h15 : keys.length ≤ 15) : PE X (.Dict keys values pos) (tDisp trs) := by
  intro pins s σ H Q I q
  have hn := I.hok.fresh (Nat.le_refl s.heap.objs.size)
  have I1 := I.laid (a := s.heap.objs.size) (o := .dK []) (h' := s.heap.push { cls := .type "dict", data := .dict #[] }) (t' := s.toks) (fun _ _ q => Heap.get?_push_of_some _ q) (Nat.le_refl _) (dk_empty s.heap I.big)
  refine wpAny_Dict_walk (knd := mixKind X.prog X.w) hall hl h0 h15 (thn (h pins _ σ _ _ I1 (q _ hn)) fun ws s2 ⟨ps, H2, I2, rel, e, kvs, ep, lk, q2⟩ => ?_)
  subst ep
  obtain ⟨rs, c, rk⟩ := carries_of (P := X.prog) (w := X.w) rel
  obtain ⟨z, hd, vs0, r0, dd⟩ := dk_of I2.hok e
  cases r0
  refine ⟨rs, c, dd, fun h' dd' hs => ⟨.ref s.heap.objs.size, _, ?_, rfl, q2⟩⟩
  have hz : (mergeK [] kvs).length ≤ sizeLine := by
    have h1 := length_mergeK kvs []
    rw [List.length_nil] at h1
    rw [sizeLine_eq]; omega
  have he : ∃ q, h'.get? s.heap.objs.size = some q := let ⟨q, _, _, hq, _⟩ := dd'; ⟨q, hq⟩
  exact d_write I2 (by rw [e]; exact True.intro) hs he (dk_new hz hd (rk.merge .nil) dd')


/-! ### methods -/
/-- a method call o.m(e) of a built-in, with one argument: what must be seen of the text -/
structure M1 (X : Cx) (o : Expr) (m : Str) (apos : Pos) (e : Expr) (cpos : Pos) : Prop where
  base : attributeBase o m X.env (eval o X.env) = eval o X.env
  few : ((backTo cpos (starEach [e] X.env)).all (fun x => !x.1) && (backToKw cpos (keywordEach [] X.env)).all (fun x => x.1.isSome)
    && decide (([e] : List Expr).length + ([] : List Keyword).length + (if ([] : List Keyword).isEmpty then 0 else 1) < 30)) = true
  line : (apos.endLine == cpos.line) = true
  trees : backTo cpos (starEach [e] X.env) = [(false, eval e X.env)]
structure M2 (X : Cx) (o : Expr) (m : Str) (apos : Pos) (e f : Expr) (cpos : Pos) : Prop where
  base : attributeBase o m X.env (eval o X.env) = eval o X.env
  few : ((backTo cpos (starEach [e, f] X.env)).all (fun x => !x.1) && (backToKw cpos (keywordEach [] X.env)).all (fun x => x.1.isSome)
    && decide (([e, f] : List Expr).length + ([] : List Keyword).length + (if ([] : List Keyword).isEmpty then 0 else 1) < 30)) = true
  line : (apos.endLine == cpos.line) = true
  trees : backTo cpos (starEach [e, f] X.env) = [(false, eval e X.env), (false, eval f X.env)]

/-- a is a dict, whatever its keys -/
def IsD (H : Hp) (a : Addr) : Prop := (∃ kvs, Rd H a (.dK kvs)) ∨ ∃ kvs, Rd H a (.dT kvs)
section
variable {X : Cx} {pins : List (Addr × Obj)} {σ : St} {H : Hp} {s : Shared} {a : Addr} {y d : V} {u r : Value} {o : Option V} {A : Around} {E : Value → Shared → Prop}
end

def tDGet1 (td ty : TE) : TE := fun σ H Q => td σ H fun x H1 => ∃ a, x = .ref a ∧ IsD H1 a ∧ ty σ H1 fun y H2 => ∃ o, DGet H2 a y o ∧ Q (o.getD .non) H2
def tDGet2 (td ty tx : TE) : TE := fun σ H Q => td σ H fun x H1 => ∃ a, x = .ref a ∧ IsD H1 a ∧ ty σ H1 fun y H2 => tx σ H2 fun z H3 => ∃ o, DGet H3 a y o ∧ Q (o.getD z) H3
/-- d.pop(k): there; d.pop(k, x): there or not -/
def tDPop1 (td ty : TE) : TE := fun σ H Q => td σ H fun x H1 => ∃ a, x = .ref a ∧ IsD H1 a ∧ ty σ H1 fun y H2 => ∃ kvs k v, H2 a = some (.dK kvs) ∧ y = kV k ∧ valV kvs k = some v ∧ Q v (upd H2 a (.dK (dropK kvs k)))
def tDPop2 (td ty tx : TE) : TE := fun σ H Q => td σ H fun x H1 => ∃ a, x = .ref a ∧ IsD H1 a ∧ ty σ H1 fun y H2 => tx σ H2 fun z H3 => ∃ kvs k, H3 a = some (.dK kvs) ∧ y = kV k ∧
  (∀ v, valV kvs k = some v → Q v (upd H3 a (.dK (dropK kvs k)))) ∧ (valV kvs k = none → Q z H3)
section
variable {X : Cx} {o e f : Expr} {apos cpos : Pos} {td ty tx : TE}
end

/-! ### dict(d): a copy -/
section
variable {X : Cx} {pins : List (Addr × Obj)} {σ : St} {H : Hp} {s : Shared} {a : Addr} {kvs : List (Key × V)} {A : Around} {E : Value → Shared → Prop}
end


section
variable {X : Cx} {pins : List (Addr × Obj)} {σ : St} {H : Hp} {s : Shared} {a : Addr} {y : V} {u : Value} {A : Around} {E : Value → Shared → Prop}
end
end L2
namespace L2
open PySem PySem.Spec PyProof.Rows
/-! ### a dict's pairs: keys that differ -/
section
variable {κ : Type} [DecidableEq κ]
end
end L2

set_option Elab.async false
set_option linter.all false
set_option maxRecDepth 100000
set_option maxHeartbeats 4000000
/-! Rules beyond the layer: deep data, isinstance, chains of three, list(range(..)), is True; and the words by which a reading is reckoned out. -/
namespace L2
open PySem PySem.Spec PyProof.Rows

/-! ### plain data on the abstract heap -/
mutual
inductive Rep (K : PySem.W.Frag) (H : Hp) : V → PyData → Prop
  | non : Rep K H .non .none
  | bl (b : Bool) : Rep K H (.bl b) (.bool b)
  | int (i : Int) : Rep K H (.int i) (.int i)
  | str (x : Str) : Rep K H (.str x) (.str x)
  | tup {a : Addr} {xs : List V} {ds : List PyData} : SqT K H a xs → RepL K H xs ds → Rep K H (.ref a) (.tuple ds)
  | lst {a : Addr} {xs : List V} {ds : List PyData} : SqL K H a xs → RepL K H xs ds → Rep K H (.ref a) (.list ds)
inductive RepL (K : PySem.W.Frag) (H : Hp) : List V → List PyData → Prop
  | nil : RepL K H [] []
  | cons {x : V} {xs : List V} {d : PyData} {ds : List PyData} : Rep K H x d → RepL K H xs ds → RepL K H (x :: xs) (d :: ds)
end
section
variable {X : Cx} {pins : List (Addr × Obj)} {σ : St} {H : Hp} {s : Shared}
mutual
theorem Rep.reads (I : Inv X pins σ H s) : ∀ {x : V} {d : PyData} {u : Value}, Rep X.K H x d → RelV x u → ∃ as, Reads s.heap u d as
  | _, _, _, .non, r => by cases r; exact ⟨_, .none⟩
  | _, _, _, .bl b, r => by cases r; exact ⟨_, .bool b⟩
  | _, _, _, .int i, r => by obtain ⟨t, rfl⟩ := r; exact ⟨_, .int i t⟩
  | _, _, _, .str x, r => by obtain ⟨t, rfl⟩ := r; exact ⟨_, .str x t⟩
  | _, _, _, .tup h hl, r => by
    cases r
    obtain ⟨its, vs, ⟨o, e, c, n, dd⟩, _⟩ := I.tuple h
    obtain ⟨as, ra⟩ := RepL.reads I hl vs
    exact ⟨_, .tuple e c dd (by simpa using ra)⟩
  | _, _, _, .lst h hl, r => by
    cases r
    obtain ⟨its, vs, pl, _⟩ := I.list h
    obtain ⟨o, e, c, n, dd⟩ := pl.isList
    obtain ⟨as, ra⟩ := RepL.reads I hl vs
    exact ⟨_, .list e c dd (by simpa using ra)⟩
theorem RepL.reads (I : Inv X pins σ H s) : ∀ {xs : List V} {ds : List PyData} {us : List Value}, RepL X.K H xs ds → Vals xs us → ∃ as, ReadsAll s.heap us ds as
  | _, _, _, .nil, .nil => ⟨_, .nil⟩
  | _, _, _, .cons h hl, .cons r rs => by
    obtain ⟨as, ra⟩ := Rep.reads I h r
    obtain ⟨bs, rb⟩ := RepL.reads I hl rs
    exact ⟨_, .cons ra rb⟩
end
end

/-! ### == and != of plain data, in -/
def rEqD (K : PySem.W.Frag) (neg : Bool) : R2 := fun x y H Q => ∃ d e, Rep K H x d ∧ Rep K H y e ∧ d.canLay0 = true ∧ e.canLay0 = true ∧ min d.depth e.depth ≤ 60 ∧
  Q (.bl (if neg then !PyData.eqv d e else PyData.eqv d e)) H
section
variable {X : Cx}
theorem op_eqD (hu : X.A.units + 64 < cLine) : OpR X (compareOp .Eq) (rEqD X.K false) := by
  intro pins s σ H x y v u Q I rx ry h
  obtain ⟨d, e, h1, h2, h3, h4, h5, q⟩ := h
  obtain ⟨as, ra⟩ := h1.reads I rx
  obtain ⟨bs, rb⟩ := h2.reads I ry
  exact SeqAt.compareEq_reads ra rb h3 h4 (by omega) ⟨.bl _, H, I, rfl, q⟩
theorem op_neD (hu : X.A.units + 64 < cLine) : OpR X (compareOp .NotEq) (rEqD X.K true) := by
  intro pins s σ H x y v u Q I rx ry h
  obtain ⟨d, e, h1, h2, h3, h4, h5, q⟩ := h
  obtain ⟨as, ra⟩ := h1.reads I rx
  obtain ⟨bs, rb⟩ := h2.reads I ry
  exact SeqAt.compareNe_reads ra rb h3 h4 (by omega) ⟨.bl _, H, I, rfl, q⟩
open Classical in
/-- the answer for an item, read off the heap -/
noncomputable def eqR (h : Heap) (d : PyData) (u : Value) : Bool := if z : ∃ e as, Reads h u e as ∧ e.canLay0 = true then PyData.eqv z.choose d else false
theorem eqR_of {h : Heap} {d e : PyData} {u : Value} {as : List Addr} (r : Reads h u e as) (c : e.canLay0 = true) : eqR h d u = PyData.eqv e d := by
  have z : ∃ e as, Reads h u e as ∧ e.canLay0 = true := ⟨e, as, r, c⟩
  unfold eqR
  rw [dif_pos z]
  obtain ⟨as', r', c'⟩ := z.choose_spec
  rw [SeqAt.Reads.unique _ _ _ _ _ c' r' r]
theorem any_eqR {h : Heap} {d : PyData} : ∀ {us : List Value} {es : List PyData} {as : List Addr}, ReadsAll h us es as → PyData.canLayAll0 es = true → us.any (eqR h d) = es.any fun e => PyData.eqv e d
  | _, _, _, .nil, _ => rfl
  | _, _, _, .cons r rs, c => by
    have c' : (PyData.canLay0 _ && PyData.canLayAll0 _) = true := c
    rw [Bool.and_eq_true] at c'
    rw [List.any_cons, List.any_cons, eqR_of r c'.1, any_eqR rs c'.2]
theorem mem_eqR {A : Around} {s : Shared} {d : PyData} {x : Value} {bs : List Addr} (rx : Reads s.heap x d bs) (cx : d.canLay0 = true) (hu : A.units + d.depth < cLine) :
    ∀ {us : List Value} {es : List PyData} {as : List Addr}, ReadsAll s.heap us es as → PyData.canLayAll0 es = true → ∀ u ∈ us, SeqAt.EqAt A s u x (eqR s.heap d u)
  | _, _, _, .nil, _ => fun u hu => nomatch hu
  | _, _, _, .cons r rs, c => fun u hm => by
    have c' : (PyData.canLay0 _ && PyData.canLayAll0 _) = true := c
    rw [Bool.and_eq_true] at c'
    rcases List.mem_cons.mp hm with rfl | hm
    · rw [eqR_of r c'.1]
      exact SeqAt.eqAt_reads _ _ A s _ _ _ _ r rx c'.1 cx (by omega)
    · exact mem_eqR rx cx hu rs c'.2 u hm
def rInD (K : PySem.W.Frag) (neg : Bool) : R2 := fun x y H Q => ∃ d es p xs, Rep K H x d ∧ y = .ref p ∧ (SqL K H p xs ∨ SqT K H p xs) ∧ RepL K H xs es ∧ d.canLay0 = true ∧ PyData.canLayAll0 es = true ∧ d.depth ≤ 60 ∧
  Q (.bl (if neg then !(es.any fun e => PyData.eqv e d) else es.any fun e => PyData.eqv e d)) H
theorem op_inD (hu : X.A.units + 64 < cLine) : OpR X (compareOp .In) (rInD X.K false) := by
  intro pins s σ H x y v u Q I rx ry h
  obtain ⟨d, es, p, xs, h1, rfl, hq, h2, h3, h4, h5, q⟩ := h
  cases ry
  obtain ⟨as, ra⟩ := h1.reads I rx
  rcases hq with hq | hq
  · obtain ⟨its, r, pl, hz⟩ := I.list hq
    obtain ⟨bs, rb⟩ := h2.reads I r
    refine SeqAt.in_listAt (eqR s.heap d) pl.isList (fun z hz => mem_eqR (A := X.A.in1) ra h3 (by show X.A.units + 1 + d.depth < cLine; omega) rb h4 z (by simpa using hz)) ⟨.bl _, H, I, rfl, ?_⟩
    rw [show its.toArray.any (eqR s.heap d) = its.any (eqR s.heap d) by simp, any_eqR rb h4]
    exact q
  · obtain ⟨its, r, pl, hz⟩ := I.tuple hq
    obtain ⟨bs, rb⟩ := h2.reads I r
    refine SeqAt.in_tupleAt (eqR s.heap d) pl (fun z hz => mem_eqR (A := X.A.in1) ra h3 (by show X.A.units + 1 + d.depth < cLine; omega) rb h4 z (by simpa using hz)) ⟨.bl _, H, I, rfl, ?_⟩
    rw [show its.toArray.any (eqR s.heap d) = its.any (eqR s.heap d) by simp, any_eqR rb h4]
    exact q
/-! ### isinstance(x, T), T a built-in class -/
def rIsi (K : PySem.W.Frag) : List V → Hp → VK → Prop := fun xs H Q => ∃ x T t b, xs = [x, .ty T] ∧ TyOf K H x t ∧ PySem.W.kitOne K t (.type T) = some b ∧ Q (.bl b) H
theorem call_isi : CallR X (.builtin "isinstance") (rIsi X.K) := by
  intro pins s σ H xs us Q I r h
  obtain ⟨x, T, t, b, rfl, ty, e, q⟩ := h
  obtain ⟨u, w, rfl, rx, rw'⟩ := Vals.two r
  cases (show w = Value.type T from rw')
  exact isinst_ok I rx ty e fun tk => ⟨.bl b, H, I.tok tk, rfl, q⟩

/-! ### a op b op c op d -/
def tChain3 (r r' r2 : R2) (ta tb tc td : TE) : TE := fun σ H Q => ta σ H fun x H1 => tb σ H1 fun y H2 => r x y H2 fun z H3 => ∃ k, z = .bl k ∧
  (if k = true then tc σ H3 fun w' H4 => r' y w' H4 fun z2 H5 => ∃ k2, z2 = .bl k2 ∧ (if k2 = true then td σ H5 fun e H6 => r2 w' e H6 Q else Q (.bl false) H5) else Q (.bl false) H3)
/-! ### is True, is not True -/
/-! ### list(range(a, b)) -/
def rngZ (lo : Int) (n : Nat) : List Int := (List.range n).map fun (i : Nat) => lo + (i : Int)
end

/-! ### a def of the text, bundled -/
structure Fn (K : PySem.W.Frag) (mg : Str → Option Value) (x : Str) (st : Stmt) (ps : List Str) : Prop where
  ex : ∃ f fd, Fun K x x st f fd ∧ mg x = some (.ref f) ∧ Binds K fd ps []
structure Def (P : Program) (w : World) (K : PySem.W.Frag) (mg : Str → Option Value) (base : Heap) (k : Nat) (x : Str) (st : Stmt) (ps : List Str) (sp : Sp) : Prop where
  ex : ∃ f fd, Fun K x x st f fd ∧ mg x = some (.ref f) ∧ Binds K fd ps [] ∧ FnOk P w K mg base CX0 k f fd ps sp
theorem Fn.mk' {P : Program} {w : World} {K : PySem.W.Frag} {mg : Str → Option Value} {base : Heap} {k : Nat} {x : Str} {st : Stmt} {ps : List Str} {sp : Sp} (E : Fn K mg x st ps)
    (h : ∀ f fd, Fun K x x st f fd → FnOk P w K mg base CX0 k f fd ps sp) : Def P w K mg base k x st ps sp := by
  obtain ⟨f, fd, F, m, b⟩ := E.ex
  exact ⟨f, fd, F, m, b, h f fd F⟩
theorem Same.new {H H2 : Hp} {l : Addr} {o : HO} (s : Same H H2) (h : H l = none) : Same H (upd H2 l o) := fun b u e => by rw [upd_ne (ne_of_none e h)]; exact s b u e
/-- an int of the file's top -/
theorem pe_globI {X : Cx} {x : Str} {i : Int} {pos : Pos} (hg : Gl X x) (hm : ∃ t, X.mg x = some (.int i t)) (hd : (x == ("__debug__" : Str)) = false := by decide) : PE X (.Name x pos) (tC (.int i)) :=
  let ⟨t, h⟩ := hm
  pe_glob hg h ⟨t, rfl⟩ hd
theorem pe_callD {X : Cx} {k : Nat} {x : Str} {st : Stmt} {ps : List Str} {sp : Sp} {e : Expr} {es : List Expr} {t : TA} {p pos : Pos} (D : Def X.prog X.w X.K X.mg X.base k x st ps sp) (hr : Room k X.A) (hg : Gl X x) (ha : PA X (e :: es) t)
    (hdb : (x == ("__debug__" : Str)) = false := by decide) (he : starEach (e :: es) X.env = (false, eval e X.env) :: starEach es X.env := by rfl) (hpl : (backTo pos (starEach es X.env)).any (·.1) = false := by rfl) :
    PE X (.Call (.Name x p) (e :: es) [] pos) (tCall sp [] E0 t) := by
  obtain ⟨f, fd, F, m, b, G⟩ := D.ex
  exact pe_call G hr hg m F.kp b .nil pass0 ha hdb he hpl

/-! ### readings reckoned out -/
section
variable {σ : St} {H : Hp} {Q : VK} {D : Ends}
theorem w_var0 {v : V} : tVar 0 (some v :: σ) H Q = Q v H := propext ⟨fun ⟨_, e, h⟩ => by cases e; exact h, fun h => ⟨v, rfl, h⟩⟩
theorem w_varS {i : Nat} {x : Option V} : tVar (i + 1) (x :: σ) H Q = tVar i σ H Q := rfl
theorem w_c {v : V} : tC v σ H Q = Q v H := rfl
theorem w_op {r : R2} {ta tb : TE} : tOp r ta tb σ H Q = ta σ H fun x H1 => tb σ H1 fun y H2 => r x y H2 Q := rfl
theorem w_un {r : V → Hp → VK → Prop} {ta : TE} : tUn r ta σ H Q = ta σ H fun x H1 => r x H1 Q := rfl
theorem w_I0 {g : Int → Int → V} {i j : Int} : rI0 g (.int i) (.int j) H Q = Q (g i j) H := propext ⟨fun ⟨_, _, e, e', h⟩ => by cases e; cases e'; exact h, fun h => ⟨i, j, rfl, rfl, h⟩⟩
theorem w_I {C : Int → Int → Prop} {g : Int → Int → V} {i j : Int} : rI C g (.int i) (.int j) H Q = (C i j ∧ Q (g i j) H) := propext ⟨fun ⟨_, _, e, e', h⟩ => by cases e; cases e'; exact h, fun h => ⟨i, j, rfl, rfl, h⟩⟩
theorem w_U {g : Int → V} {i : Int} : rU g (.int i) H Q = Q (g i) H := propext ⟨fun ⟨_, e, h⟩ => by cases e; exact h, fun h => ⟨i, rfl, h⟩⟩
theorem w_eqI {i j : Int} : rEq (.int i) (.int j) H Q = Q (.bl (decide (i = j))) H := propext ⟨fun ⟨_, h⟩ => by simpa using h, fun h => ⟨rfl, by simpa using h⟩⟩
theorem w_neI {i j : Int} : rNe (.int i) (.int j) H Q = Q (.bl (!decide (i = j))) H := propext ⟨fun ⟨_, h⟩ => by simpa using h, fun h => ⟨rfl, by simpa using h⟩⟩
theorem w_eqS {i j : Str} : rEq (.str i) (.str j) H Q = Q (.bl (decide (i = j))) H := propext ⟨fun ⟨_, h⟩ => by simpa using h, fun h => ⟨rfl, by simpa using h⟩⟩
theorem w_neS {i j : Str} : rNe (.str i) (.str j) H Q = Q (.bl (!decide (i = j))) H := propext ⟨fun ⟨_, h⟩ => by simpa using h, fun h => ⟨rfl, by simpa using h⟩⟩
theorem w_eqB {i j : Bool} : rEq (.bl i) (.bl j) H Q = Q (.bl (decide (i = j))) H := propext ⟨fun ⟨_, h⟩ => by simpa using h, fun h => ⟨rfl, by simpa using h⟩⟩
theorem w_neB {i j : Bool} : rNe (.bl i) (.bl j) H Q = Q (.bl (!decide (i = j))) H := propext ⟨fun ⟨_, h⟩ => by simpa using h, fun h => ⟨rfl, by simpa using h⟩⟩
theorem w_exB {b : Bool} {q : Bool → Prop} : (∃ k, V.bl b = .bl k ∧ q k) = q b := propext ⟨fun ⟨_, e, h⟩ => by cases e; exact h, fun h => ⟨b, rfl, h⟩⟩
theorem w_exI {b : Int} {q : Int → Prop} : (∃ k, V.int b = .int k ∧ q k) = q b := propext ⟨fun ⟨_, e, h⟩ => by cases e; exact h, fun h => ⟨b, rfl, h⟩⟩
theorem w_addS {i j : Str} {q : Str → Str → Prop} : (∃ a b, V.str i = .str a ∧ V.str j = .str b ∧ q a b) = q i j :=
  propext ⟨fun ⟨_, _, e, e', h⟩ => by cases e; cases e'; exact h, fun h => ⟨i, j, rfl, rfl, h⟩⟩
theorem w_K {CX : CXT} {P : Program} {w : World} {K : PySem.W.Frag} {mg : Str → Option Value} {base : Heap} {N : List Str} {qual : Str} {scope : Scope} {f : Addr} {cd : Value} {A : Around} {outer : List Env} {s : Shared} {H : Hp} {E : XK} : (cxOf CX P w K mg base N qual scope f cd A outer s H E).K = K := rfl
theorem w_aug {i : Nat} {te : TE} {ti : TIp} : tAug i te ti D σ H = tVar i σ H fun x _ => te σ H fun y H1 => ti x y H1 fun z H2 => D.nx (σ.set i (some z)) H2 := rfl
theorem w_ip {f : Int → Int → Int} {i j : Int} : ipI f (.int i) (.int j) H Q = Q (.int (f i j)) H := propext ⟨fun ⟨_, _, e, e', h⟩ => by cases e; cases e'; exact h, fun h => ⟨i, j, rfl, rfl, h⟩⟩
theorem w_exB2 {a b : Bool} {q : Bool → Bool → Prop} : (∃ c d, V.bl a = .bl c ∧ V.bl b = .bl d ∧ q c d) = q a b := propext ⟨fun ⟨_, _, e, e', h⟩ => by cases e; cases e'; exact h, fun h => ⟨a, b, rfl, rfl, h⟩⟩
theorem w_exR {a : Addr} {q : Addr → Prop} : (∃ b, V.ref a = .ref b ∧ q b) = q a := propext ⟨fun ⟨_, e, h⟩ => by cases e; exact h, fun h => ⟨a, rfl, h⟩⟩
theorem w_exR2 {α : Type} {a : Addr} {q : Addr → α → Prop} : (∃ b y, V.ref a = .ref b ∧ q b y) = ∃ y, q a y := propext ⟨fun ⟨_, y, e, h⟩ => by cases e; exact ⟨y, h⟩, fun ⟨y, h⟩ => ⟨a, y, rfl, h⟩⟩
theorem w_ex1I {i : Int} {q : Int → Prop} : (∃ j, [V.int i] = [.int j] ∧ q j) = q i := propext ⟨fun ⟨_, e, h⟩ => by cases e; exact h, fun h => ⟨i, rfl, h⟩⟩
theorem w_ex1S {i : Str} {q : Str → Prop} : (∃ j, [V.str i] = [.str j] ∧ q j) = q i := propext ⟨fun ⟨_, e, h⟩ => by cases e; exact h, fun h => ⟨i, rfl, h⟩⟩
theorem w_ex1R {α : Type} {i : Addr} {q : Addr → α → Prop} : (∃ j y, [V.ref i] = [.ref j] ∧ q j y) = ∃ y, q i y := propext ⟨fun ⟨_, y, e, h⟩ => by cases e; exact ⟨y, h⟩, fun ⟨y, h⟩ => ⟨i, y, rfl, h⟩⟩
theorem w_ex2R {α β : Type} {i : Addr} {q : Addr → α → β → Prop} : (∃ j y z, [V.ref i] = [.ref j] ∧ q j y z) = ∃ y z, q i y z := propext ⟨fun ⟨_, y, z, e, h⟩ => by cases e; exact ⟨y, z, h⟩, fun ⟨y, z, h⟩ => ⟨i, y, z, rfl, h⟩⟩
theorem w_ex2I {i j : Int} {q : Int → Int → Prop} : (∃ a b, [V.int i, V.int j] = [.int a, .int b] ∧ q a b) = q i j := propext ⟨fun ⟨_, _, e, h⟩ => by cases e; exact h, fun h => ⟨i, j, rfl, h⟩⟩
theorem w_int1 {b : Bool} {q : Int → Prop} {r : Bool → Prop} : ((∃ i, [V.bl b] = [.int i] ∧ q i) ∨ ∃ k, [V.bl b] = [.bl k] ∧ r k) = r b :=
  propext ⟨fun h => by rcases h with ⟨_, e, _⟩ | ⟨_, e, h⟩ <;> cases e; exact h, fun h => .inr ⟨b, rfl, h⟩⟩
theorem w_ixS {z : Str} {i : Int} : rIxS (.str z) (.int i) H Q = (z.length ≤ sizeLine ∧ ∃ c, atI z.cps.toList i = some c ∧ Q (.str ⟨#[c]⟩) H) :=
  propext ⟨fun ⟨_, _, c, e, e', h1, h2, h3⟩ => by cases e; cases e'; exact ⟨h1, c, h2, h3⟩, fun ⟨h1, c, h2, h3⟩ => ⟨z, i, c, rfl, rfl, h1, h2, h3⟩⟩
theorem w_ixL {K : PySem.W.Frag} {p : Addr} {i : Int} : rIxL K (.ref p) (.int i) H Q = ∃ xs v, SqL K H p xs ∧ atI xs i = some v ∧ Q v H :=
  propext ⟨fun ⟨_, xs, _, v, e, e', h⟩ => by cases e; cases e'; exact ⟨xs, v, h⟩, fun ⟨xs, v, h⟩ => ⟨p, xs, i, v, rfl, rfl, h⟩⟩
theorem w_ixT {K : PySem.W.Frag} {p : Addr} {i : Int} : rIxT K (.ref p) (.int i) H Q = ∃ xs v, SqT K H p xs ∧ atI xs i = some v ∧ Q v H :=
  propext ⟨fun ⟨_, xs, _, v, e, e', h⟩ => by cases e; cases e'; exact ⟨xs, v, h⟩, fun ⟨xs, v, h⟩ => ⟨p, xs, i, v, rfl, rfl, h⟩⟩
theorem w_app {l : Addr} {y : V} : rAppend (.ref l) [y] H Q = ∃ xs, H l = some (.lst xs) ∧ xs.length < sizeLine ∧ Q .non (upd H l (.lst (xs ++ [y]))) :=
  propext ⟨fun ⟨_, xs, _, e, e', h⟩ => by cases e; cases e'; exact ⟨xs, h⟩, fun ⟨xs, h⟩ => ⟨l, xs, y, rfl, rfl, h⟩⟩
theorem w_pop {l : Addr} : rPop (.ref l) [] H Q = ∃ xs y, H l = some (.lst xs) ∧ xs[xs.length - 1]? = some y ∧ Q y (upd H l (.lst xs.dropLast)) :=
  propext ⟨fun ⟨_, xs, y, e, _, h⟩ => by cases e; exact ⟨xs, y, h⟩, fun ⟨xs, y, h⟩ => ⟨l, xs, y, rfl, rfl, h⟩⟩
theorem got_map {α : Type} {f : α → V} {l : List α} {k : Nat} {y : V} (h : (l.map f)[k]? = some y) : ∃ x, l[k]? = some x ∧ y = f x := by
  rw [List.getElem?_map] at h
  cases e : l[k]? with
  | none => rw [e] at h; cases h
  | some x => rw [e] at h; exact ⟨x, rfl, (Option.some.inj h).symm⟩
theorem w_tyL {K : PySem.W.Frag} {l : Addr} {xs : List V} (h : H l = some (.lst xs)) : tyV K "list" (.ref l) H := .inl ⟨rfl, xs, SqL.of h⟩
theorem w_test {t : TE} {q : Bool → Hp → Prop} : tTest t σ H q = t σ H fun x H' => ∃ k, x = .bl k ∧ q k H' := rfl
theorem w_tB {t : TE} {q : Bool → Hp → Prop} : tB t σ H q = t σ H fun x H' => ∃ k, x = .bl k ∧ q k H' := rfl
theorem w_and {t u : TT} {q : Bool → Hp → Prop} : tAnd t u σ H q = t σ H fun c H1 => if c = true then u σ H1 q else q false H1 := rfl
theorem w_or {t u : TT} {q : Bool → Hp → Prop} : tOr t u σ H q = t σ H fun c H1 => if c = true then q true H1 else u σ H1 q := rfl
theorem w_not {t : TT} {q : Bool → Hp → Prop} : tNot t σ H q = t σ H fun c H1 => q (!c) H1 := rfl
theorem w_andV {ta tb : TE} : tAndV ta tb σ H Q = ta σ H fun x H1 => ∃ c, x = .bl c ∧ if c = true then tb σ H1 Q else Q (.bl false) H1 := rfl
theorem w_orV {ta tb : TE} : tOrV ta tb σ H Q = ta σ H fun x H1 => ∃ c, x = .bl c ∧ if c = true then Q (.bl true) H1 else tb σ H1 Q := rfl
theorem w_notV {ta : TE} : tNotV ta σ H Q = ta σ H fun x H1 => ∃ c, x = .bl c ∧ Q (.bl (!c)) H1 := rfl
theorem w_if {t : TT} {ta tb : TE} : tIf t ta tb σ H Q = t σ H fun c H1 => if c = true then ta σ H1 Q else tb σ H1 Q := rfl
theorem w_seq {t u : TS} : tSeq t u D σ H = t { nx := u D, rt := D.rt, bk := D.bk, ct := D.ct } σ H := rfl
theorem w_next : tNext D σ H = D.nx σ H := rfl
theorem w_brk : tBreak D σ H = D.bk σ H := rfl
theorem w_cont : tCont D σ H = D.ct σ H := rfl
theorem w_drop {te : TE} : tDrop te D σ H = te σ H fun _ H1 => D.nx σ H1 := rfl
theorem w_ret {te : TE} : tRet te D σ H = te σ H D.rt := rfl
theorem w_retN : tRetN D σ H = D.rt .non H := rfl
theorem w_ifS {c : TT} {t u : TS} : tIfS c t u D σ H = c σ H fun b H1 => if b = true then t D σ H1 else u D σ H1 := rfl
theorem w_asg {te : TE} {g : TG} : tAsg te g D σ H = te σ H fun x H1 => g x σ H1 D.nx := rfl
theorem w_gName {i : Nat} {v : V} {q : St → Hp → Prop} : gName i v σ H q = q (σ.set i (some v)) H := rfl
theorem w_set0 {v : V} {x : Option V} : List.set (x :: σ) 0 (some v) = some v :: σ := rfl
theorem w_setS {i : Nat} {v : V} {x : Option V} : List.set (x :: σ) (i + 1) (some v) = x :: List.set σ i (some v) := rfl
theorem w_nil {q : List V → Hp → Prop} : tNil σ H q = q [] H := rfl
theorem w_cons {ta : TE} {tr : TA} {q : List V → Hp → Prop} : tCons ta tr σ H q = ta σ H fun x H1 => tr σ H1 fun xs H2 => q (x :: xs) H2 := rfl
theorem w_cb {r : List V → Hp → VK → Prop} {t : TA} : tCB r t σ H Q = t σ H fun vs H1 => r vs H1 Q := rfl
theorem w_tup {t : TA} : tTup t σ H Q = t σ H fun xs H1 => xs.length ≤ sizeLine ∧ ∀ p, H1 p = none → Q (.ref p) (upd H1 p (.tup xs)) := rfl
theorem w_lst {t : TA} : tLst t σ H Q = t σ H fun xs H1 => xs.length ≤ sizeLine ∧ ∀ p, H1 p = none → Q (.ref p) (upd H1 p (.lst xs)) := rfl
theorem w_call {sp : Sp} {dvs : List V} {E : XK} {t : TA} : tCall sp dvs E t σ H Q = t σ H fun vs H1 => sp (vs ++ dvs) H1 Q E := rfl
theorem w_bm {K : PySem.W.Frag} {T : String} {r : V → List V → Hp → VK → Prop} {to : TE} {t : TA} : tBM K T r to t σ H Q = to σ H fun x H1 => tyV K T x H1 ∧ t σ H1 fun xs H2 => r x xs H2 Q := rfl
theorem w_bm0 {K : PySem.W.Frag} {T : String} {r : V → List V → Hp → VK → Prop} {to : TE} : tBM0 K T r to σ H Q = to σ H fun x H1 => tyV K T x H1 ∧ r x [] H1 Q := rfl
def ForJ (J : It) (g : TG) (tb : TS) (D : Ends) (σ : St) (H1 : Hp) : Prop := ∃ W : Nat → Nat → St → Hp → Prop, (∃ m, W 0 m σ H1) ∧ ∀ i m σ H, W i m σ H →
  (J.stop i H ∧ D.nx σ H) ∨ (J.go i H ∧ ∃ N : St → Hp → Prop, (∀ σ' H', N σ' H' → ∃ m', m' < m ∧ W (i + 1) m' σ' H') ∧ ∀ x H', J.yld i H x H' → g x σ H' fun σ2 H2 => tb { D with nx := N, ct := N, bk := D.nx } σ2 H2)
theorem w_for1 {ta : TA} {g : TG} {tb : TS} : tFor (iRng1 ta) g tb D σ H = ta σ H fun vs H1 => ∃ j : Int, vs = [.int j] ∧ -(2 ^ 62) ≤ j ∧ j < 2 ^ 62 ∧ ForJ (Itr 0 j.toNat) g tb D σ H1 := rfl
theorem w_for2 {ta : TA} {g : TG} {tb : TS} : tFor (iRng2 ta) g tb D σ H = ta σ H fun vs H1 => ∃ i j : Int, vs = [.int i, .int j] ∧ (-(2 ^ 62) ≤ i ∧ i < 2 ^ 62 ∧ -(2 ^ 62) ≤ j ∧ j < 2 ^ 62) ∧ ForJ (Itr i (j - i).toNat) g tb D σ H1 := rfl
theorem w_forL {K : PySem.W.Frag} {tl : TE} {g : TG} {tb : TS} : tFor (iList K tl) g tb D σ H = tl σ H fun x H1 => ∃ a, x = .ref a ∧ (∃ xs, SqL K H1 a xs) ∧ ForJ (Itl K a) g tb D σ H1 := rfl
theorem w_forT {K : PySem.W.Frag} {tl : TE} {g : TG} {tb : TS} : tFor (iTup K tl) g tb D σ H = tl σ H fun x H1 => ∃ a, x = .ref a ∧ (∃ xs, SqT K H1 a xs) ∧ ForJ (Itt K a) g tb D σ H1 := rfl
theorem w_gTup {K : PySem.W.Frag} {n : Nat} {t : TGs} {v : V} {q : St → Hp → Prop} : gTup K n t v σ H q = ∃ a xs, v = .ref a ∧ SqT K H a xs ∧ xs.length = n ∧ t xs σ H q := rfl
theorem w_gNil {q : St → Hp → Prop} : gNil [] σ H q = q σ H := propext ⟨fun h => h.2, fun h => ⟨rfl, h⟩⟩
theorem w_gCons {t : TG} {u : TGs} {v : V} {r : List V} {q : St → Hp → Prop} : gCons t u (v :: r) σ H q = t v σ H fun σ' H' => u r σ' H' q := propext ⟨fun ⟨_, _, e, h⟩ => by cases e; exact h, fun h => ⟨v, r, rfl, h⟩⟩
theorem w_chain3 {r r' r2 : R2} {ta tb tc td : TE} : tChain3 r r' r2 ta tb tc td σ H Q = ta σ H fun x H1 => tb σ H1 fun y H2 => r x y H2 fun z H3 => ∃ k, z = .bl k ∧
  (if k = true then tc σ H3 fun w' H4 => r' y w' H4 fun z2 H5 => ∃ k2, z2 = .bl k2 ∧ (if k2 = true then td σ H5 fun e H6 => r2 w' e H6 Q else Q (.bl false) H5) else Q (.bl false) H3) := rfl
theorem w_chain {r r' : R2} {ta tb tc : TE} : tChain r r' ta tb tc σ H Q = ta σ H fun x H1 => tb σ H1 fun y H2 => r x y H2 fun z H3 => ∃ k, z = .bl k ∧
  (if k = true then tc σ H3 fun w' H4 => r' y w' H4 Q else Q (.bl false) H3) := rfl
end
theorem us1 {P : List Value → Prop} (h : ∀ a : Value, P [a]) : ∀ us : List Value, us.length = 1 → P us
  | [a], _ => h a
theorem usS {P : List Value → Prop} {n : Nat} (h : ∀ (a : Value) (r : List Value), r.length = n → P (a :: r)) : ∀ us : List Value, us.length = n + 1 → P us
  | a :: r, e => h a r (Nat.succ.inj e)
theorem us2 {P : List Value → Prop} (h : ∀ a b : Value, P [a, b]) : ∀ us : List Value, us.length = 2 → P us := usS fun a => us1 fun b => h a b
theorem us3 {P : List Value → Prop} (h : ∀ a b c : Value, P [a, b, c]) : ∀ us : List Value, us.length = 3 → P us := usS fun a => us2 fun b c => h a b c
end L2

set_option Elab.async false
set_option linter.all false
set_option maxRecDepth 100000
set_option maxHeartbeats 4000000
/-! Loops over the signs of a text, and over them with their numbers. -/
namespace L2
open PySem PySem.Spec PyProof.Rows
section
variable {X : Cx} {pins : List (Addr × Obj)} {σ : St} {H : Hp} {s : Shared} {h' : Heap}
/-- records at fp have turned, and a new thing at p is tracked -/
theorem Inv.turnNew {fp : List Addr} {p : Addr} {o : HO} {t' : Nat} (I : Inv X pins σ H s) (hf : ∀ b ∈ fp, FpOk X pins H b) (k : ∀ b u, b ∉ fp → s.heap.get? b = some u → h'.get? b = some u) (hp : s.heap.objs.size ≤ p)
    (new : ObjOk X.prog X.w (upd H p o) h' p o) : Inv X pins σ (upd H p o) { s with heap := h', toks := t' } := by
  have hn : H p = none := I.hok.fresh hp
  have nfp : ∀ b u, H b = some u → b ∉ fp := fun b u e z => by rw [(hf b z).1] at e; cases e
  refine I.step (g' := s.gens) (d' := s.drawn) (ch := fp) (fun b hb => ?_) (fun b u _ _ hc e _ => k b u hc e) (fun b u _ _ hc e _ => ⟨u.slots, k b u hc e⟩)
    (fun b u _ e n => by rw [upd_ne (Nat.ne_of_lt (Nat.lt_of_lt_of_le (Heap.lt_size e) hp))]; exact n) (fun b u hc e => ⟨u, k b u hc e⟩) (fun b xs e => by rw [upd_ne (ne_of_none e hn)]; exact e)
    (fun b u xs e => by rw [upd_ne (ne_of_none e hn)]; exact e) (fun b ps e => ⟨#[], by rw [upd_ne (ne_of_none e hn), e]; simp⟩) (fun m hm => ?_) (fun b u e => ?_) I.bare
  · obtain ⟨_, f1, _, f3, f4, f5⟩ := hf b hb
    exact ⟨f3, f1, f4, f5⟩
  · obtain ⟨ob, es, ep, ho, r⟩ := hm
    exact ⟨ob, es, ep, k _ ob (fun z => (hf _ z).2.1 rfl) ho, r⟩
  · by_cases hb : b = p
    · subst hb; rw [upd_same] at e; cases e; exact new
    · rw [upd_ne hb] at e
      refine (I.hok b u e).stay (fun c v hc q => k c v ?_ q) (fun c q => by rw [upd_ne (ne_of_none q hn)]; exact q) fun c xs q => by rw [upd_ne (ne_of_none q hn)]; exact q
      rcases hc with z | z
      · rw [z]; exact nfp b u e
      · exact nfp c _ z
end
/-! ### the signs of a text -/
def Its (x : Str) : It := ⟨fun i _ => i < x.cps.size, fun i H v H' => H' = H ∧ ∃ c, x.cps[i]? = some c ∧ v = .str ⟨#[c]⟩, fun i _ => x.cps.size ≤ i⟩
def iStr (tl : TE) : TI := fun σ H R => tl σ H fun x H1 => ∃ z, x = .str z ∧ z.cps.all (· < 128) = true ∧ R (Its z) H1
/-! ### enumerate(text) -/
def Ite (x : Str) : It := ⟨fun i _ => i < x.cps.size, fun i H v H' => ∃ p c, H p = none ∧ x.cps[i]? = some c ∧ v = .ref p ∧ H' = upd H p (.tup [.int i, .str ⟨#[c]⟩]), fun i _ => i = x.cps.size⟩
theorem turn_enum {P : Program} {w : World} {K : PySem.W.Frag} {elts : List Expr} {x1 : Nat} {pos : Pos} (e it : Addr) (hne : e ≠ it) (x : Str) (t : Tok) :
    Turn P w K (.Tuple elts x1 pos) (Ite x) [e, it] e (fun i h => (∃ old, IsEnum h e it i old) ∧ h.IsStrIter it "str_ascii_iterator" x t i) where
  mem := by simp
  obj := fun i h st b hb => by
    obtain ⟨⟨old, he⟩, o, ei, c, d⟩ := st
    rcases List.mem_cons.mp hb with z | z
    · subst z; exact ⟨_, he, fun v z => by cases z⟩
    · have z' : b = it := by simpa using z
      subst z'
      exact ⟨o, ei, fun v z => by rw [d] at z; cases z⟩
  keep := fun i h h' st k => by
    obtain ⟨⟨old, he⟩, o, ei, r⟩ := st
    exact ⟨⟨old, k e (by simp) _ he⟩, o, k it (by simp) o ei, r⟩
  item := by
    intro X hP hw hK hc i pins s σ H E I hf st hg
    subst hP hw hK
    obtain ⟨⟨old, he⟩, hst⟩ := st
    have D : Draws X.prog X.w X.A.in1 it [it] x.cps.size _ _ := Draws.strAscii (show X.A.in1.handled = none from I.ok.hd hc) it x t
    refine wpAny_pyNext_enum_itemD D he hst hg hne (by simpa using hne) fun v h' tk hv ho st' ht hsz kp => ?_
    obtain ⟨c, u, hx, rfl⟩ := hv
    refine ⟨_, rfl, wpAny_letOwnedTupleGo_enum ho fun h2 he2 hs2 => ?_⟩
    have het : s.heap.objs.size ≠ e := Nat.ne_of_gt (Heap.lt_size he)
    have ht2 : h2.get? s.heap.objs.size = some { cls := .type "tuple", data := .seq #[.int i tk, .str ⟨#[c]⟩ u] } := (hs2.2 _ het).trans ht
    have hn : H s.heap.objs.size = none := I.hok.fresh (Nat.le_refl _)
    refine ⟨.ref s.heap.objs.size, upd H s.heap.objs.size (.tup [.int i, .str ⟨#[c]⟩]), I.turnNew (fp := [e, it]) hf (fun b o hb q => ?_) (Nat.le_refl _) (show ObjOk X.prog X.w _ h2 _ (.tup _) from ⟨(by show 2 ≤ sizeLine; decide), [.int i tk, .str ⟨#[c]⟩ u], .cons ⟨_, rfl⟩ (.cons ⟨_, rfl⟩ .nil), _, ht2, rfl, _, rfl⟩), rfl, ⟨_, c, hn, hx, rfl, rfl⟩, ⟨⟨_, by exact_mod_cast he2⟩, ?_⟩, fun b hb => ?_⟩
    · have n1 : b ≠ e := fun z => hb (by simp [z])
      have n2 : b ≠ it := fun z => hb (by simp [z])
      exact (hs2.2 b n1).trans (kp b o n1 n2 q)
    · obtain ⟨o, ei, r⟩ := st'
      exact ⟨o, (hs2.2 it hne.symm).trans ei, r⟩
    · have hb' := (hf b hb).1
      rw [upd_ne (fun z => ?_)]
      · exact hb'
      · obtain ⟨o, q, _⟩ := hst
        rcases List.mem_cons.mp hb with y | y
        · exact het (z.symm.trans y)
        · have y' : b = it := by simpa using y
          exact absurd (y'.symm.trans z) (Nat.ne_of_lt (Heap.lt_size q))
  done := by
    intro X hP hw hK hc i pins s σ H E I hf st hg
    subst hP hw hK
    obtain ⟨⟨old, he⟩, hst⟩ := st
    have hg' : i = x.cps.size := hg
    subst hg'
    obtain ⟨f0, f1, f2, f3, f4, f5⟩ := hf it (by simp)
    have D : Draws X.prog X.w X.A.in1 it [it] x.cps.size _ _ := Draws.strAscii (show X.A.in1.handled = none from I.ok.hd hc) it x t
    exact wpAny_pyNext_enum_endD D he hst fun h' eb => ⟨rfl, I.turned (t' := s.toks) (fun b o hb q => eb b o hb q) f0 f1 f3 f4 f5⟩
  self := fun _ _ _ _ _ st h => by
    obtain ⟨⟨old, he⟩, _⟩ := st
    exact wpAny_pyIter_enum he h
def iEnum (ta : TA) : TI := fun σ H R => ta σ H fun vs H1 => ∃ z, vs = [.str z] ∧ z.cps.all (· < 128) = true ∧ R (Ite z) H1
theorem pi_enum {X : Cx} {a : Expr} {ta : TA} {elts : List Expr} {x1 : Nat} {p pos tpos : Pos} (hg : Gl X "enumerate") (hm : X.mg "enumerate" = none) (ha : PA X [a] ta) (hs : starEach [a] X.env = [(false, eval a X.env)] := by rfl) :
    PI X (.Tuple elts x1 tpos) (.Call (.Name "enumerate" p) [a] [] pos) (iEnum ta) := by
  intro pins s σ H R I h
  refine Call_ (ld_blt I hg hm boot_enumerate (PyProof.Rows.callWith_type1 (thn (ha pos pins s σ H _ I h) fun us s1 ⟨vs, H1, I1, r1, z, e, hz, q⟩ => ?_) hs rfl))
  subst e
  obtain ⟨u, rfl, t, rfl⟩ := vals1 r1
  refine call_enumerate_str fun h' he hit hsz kp => ?_
  have ht : strIterType z = "str_ascii_iterator" := by unfold strIterType; rw [if_pos hz]
  rw [ht] at hit
  refine wpAny_pyIter_enum he ?_
  have I2 : Inv X pins σ H1 { s1 with heap := h' } := I1.kept (t' := s1.toks) kp
  exact ⟨s1.heap.objs.size + 1, [s1.heap.objs.size + 1, s1.heap.objs.size], _, _, H1, rfl, I2, turn_enum _ _ (Nat.succ_ne_self _) z t, ⟨⟨_, he⟩, hit⟩,
    fun b hb => by
      have hle : s1.heap.objs.size ≤ b := by
        rcases List.mem_cons.mp hb with y | y
        · rw [y]; exact Nat.le_succ _
        · have y' : b = s1.heap.objs.size := by simpa using y
          exact Nat.le_of_eq y'.symm
      exact I1.fpOk hle (I1.hok.fresh hle), q⟩
section
variable {σ : St} {H : Hp} {D : Ends}
theorem w_forS {tl : TE} {g : TG} {tb : TS} : tFor (iStr tl) g tb D σ H = tl σ H fun x H1 => ∃ z, x = .str z ∧ z.cps.all (· < 128) = true ∧ ForJ (Its z) g tb D σ H1 := rfl
theorem w_forE {ta : TA} {g : TG} {tb : TS} : tFor (iEnum ta) g tb D σ H = ta σ H fun vs H1 => ∃ z, vs = [.str z] ∧ z.cps.all (· < 128) = true ∧ ForJ (Ite z) g tb D σ H1 := rfl
theorem w_exS {a : Str} {q : Str → Prop} : (∃ b, V.str a = .str b ∧ q b) = q a := propext ⟨fun ⟨_, e, h⟩ => by cases e; exact h, fun h => ⟨a, rfl, h⟩⟩
theorem for_enum {x : Str} {g : TG} {tb : TS} (Pv : Nat → St → Hp → Prop) (h0 : Pv 0 σ H)
    (hs : ∀ i c σ H p, x.cps[i]? = some c → Pv i σ H → H p = none → g (.ref p) σ (upd H p (.tup [.int i, .str ⟨#[c]⟩])) fun σ2 H2 => tb { D with nx := Pv (i + 1), ct := Pv (i + 1), bk := D.nx } σ2 H2) (hd : ∀ σ H, Pv x.cps.size σ H → D.nx σ H) : ForJ (Ite x) g tb D σ H := by
  refine ⟨fun i m σ H => m + i = x.cps.size ∧ Pv i σ H, ⟨x.cps.size, rfl, h0⟩, ?_⟩
  rintro i m σ H ⟨hm, hp⟩
  by_cases hi : i < x.cps.size
  · refine .inr ⟨hi, Pv (i + 1), fun σ' H' h => ⟨m - 1, by omega, by omega, h⟩, ?_⟩
    rintro v H' ⟨p, c, hn, hc, rfl, rfl⟩
    exact hs i c σ H p hc hp hn
  · have e : i = x.cps.size := by omega
    subst e
    exact .inl ⟨rfl, hd σ H hp⟩
end
end L2

set_option Elab.async false
set_option linter.all false
set_option maxRecDepth 100000
set_option maxHeartbeats 4000000
/-! More calls: sorted of ints, all, any, join; and plain data that is tracked. -/
namespace L2
open PySem PySem.Spec PyProof.Rows
theorem ints_are : ∀ {ns : List Int} {us : List Value}, Vals (ns.map V.int) us → IntsAre us ns
  | [], _, .nil => .nil
  | n :: ns, _, .cons ⟨t, e⟩ r => by subst e; exact .cons n t (ints_are r)
theorem vals_strs : ∀ {ts : List Str} {us : List Value}, Vals (ts.map V.str) us → ∃ l : List (Str × Tok), us = strValues l ∧ l.map (·.1) = ts
  | [], _, .nil => ⟨[], rfl, rfl⟩
  | t :: ts, _, .cons ⟨k, e⟩ r => by
    subst e
    obtain ⟨l, e1, e2⟩ := vals_strs r
    exact ⟨(t, k) :: l, by rw [e1]; rfl, by rw [List.map_cons, e2]⟩
section
variable {X : Cx}
def rSortI (K : PySem.W.Frag) : List V → Hp → VK → Prop := fun xs H Q => ∃ (p : Addr) (ns : List Int), xs = [.ref p] ∧ SqL K H p (ns.map V.int) ∧ ns.length < 64 ∧
  ∀ (l : Addr) (ms : List Int), H l = none → ms.Perm ns → ms.Pairwise (· ≤ ·) → Q (.ref l) (upd H l (.lst (ms.map V.int)))
theorem call_sorted_ints : CallR X (.builtin "sorted") (rSortI X.K) := by
  intro pins s σ H xs us Q I r h
  obtain ⟨p, ns, rfl, hq, hl, q⟩ := h
  obtain ⟨u, rfl, rx⟩ := vals1 r
  cases rx
  obtain ⟨its, rv, pl, hz⟩ := I.list hq
  have hi := ints_are rv
  have hlen : its.length = ns.length := by have := rv.length; simpa using this.symm
  refine sorted_ints pl.isList hi (by omega) fun out ms hm hp hs => ?_
  obtain ⟨c, hc⟩ := sortedAll_at s.heap its out
  have hml : ms.length = ns.length := hp.length_eq
  exact ⟨.ref (s.heap.objs.size + 1), upd H (s.heap.objs.size + 1) (.lst (ms.map V.int)), I.laid (t' := s.toks) (fun b o e => sortedAll_old e) (Nat.le_succ _)
    (show ObjOk X.prog X.w _ _ _ (.lst _) from ⟨by rw [List.length_map, hml]; exact Nat.le_of_lt (small1000 (by omega)), out.toList, c, vals_ints hm, by simpa using hc⟩), rfl, q _ ms (I.hok.fresh (Nat.le_succ _)) hp hs⟩
def rAll (K : PySem.W.Frag) (f : List Bool → Bool) : List V → Hp → VK → Prop := fun xs H Q => ∃ (p : Addr) (bs : List Bool), xs = [.ref p] ∧ SqL K H p (bs.map V.bl) ∧ Q (.bl (f bs)) H
def rJoin (K : PySem.W.Frag) : V → List V → Hp → VK → Prop := fun x vs H Q => ∃ (z : Str) (p : Addr) (ts : List Str), x = .str z ∧ vs = [.ref p] ∧ SqL K H p (ts.map V.str) ∧ JoinOk z ts = true ∧ Q (.str (Txt.join z ts)) H
theorem mt_join : MtM X "str.join" (rJoin X.K) := by
  intro pins s σ H x xs v us Q I r rv h
  obtain ⟨z, p, ts, rfl, rfl, hq, ok, q⟩ := h
  obtain ⟨t, rfl⟩ := r
  obtain ⟨u, rfl, rx⟩ := vals1 rv
  cases rx
  obtain ⟨its, rv', pl, hz⟩ := I.list hq
  obtain ⟨l, rfl, e⟩ := vals_strs rv'
  exact SC.join pl.isList e ok fun t' k => ⟨.str _, H, I.tok k, ⟨t', rfl⟩, q⟩
end

/-! ### plain data, tracked -/
mutual
inductive Dat (H : Hp) : V → PyData → Prop
  | non : Dat H .non .none
  | bl (b : Bool) : Dat H (.bl b) (.bool b)
  | int (i : Int) : Dat H (.int i) (.int i)
  | str (x : Str) : Dat H (.str x) (.str x)
  | tup {a : Addr} {xs : List V} {ds : List PyData} : H a = some (.tup xs) → DatL H xs ds → Dat H (.ref a) (.tuple ds)
  | lst {a : Addr} {xs : List V} {ds : List PyData} : H a = some (.lst xs) → DatL H xs ds → Dat H (.ref a) (.list ds)
inductive DatL (H : Hp) : List V → List PyData → Prop
  | nil : DatL H [] []
  | cons {x : V} {xs : List V} {d : PyData} {ds : List PyData} : Dat H x d → DatL H xs ds → DatL H (x :: xs) (d :: ds)
end
mutual
theorem Dat.rep {K : PySem.W.Frag} {H : Hp} : ∀ {x : V} {d : PyData}, Dat H x d → Rep K H x d
  | _, _, .non => .non
  | _, _, .bl b => .bl b
  | _, _, .int i => .int i
  | _, _, .str x => .str x
  | _, _, .tup h r => .tup (SqT.of h) (DatL.rep r)
  | _, _, .lst h r => .lst (SqL.of h) (DatL.rep r)
theorem DatL.rep {K : PySem.W.Frag} {H : Hp} : ∀ {xs : List V} {ds : List PyData}, DatL H xs ds → RepL K H xs ds
  | _, _, .nil => .nil
  | _, _, .cons h r => .cons (Dat.rep h) (DatL.rep r)
end
mutual
theorem Dat.same {H H' : Hp} (s : Same H H') : ∀ {x : V} {d : PyData}, Dat H x d → Dat H' x d
  | _, _, .non => .non
  | _, _, .bl b => .bl b
  | _, _, .int i => .int i
  | _, _, .str x => .str x
  | _, _, .tup h r => .tup (s _ _ h) (DatL.same s r)
  | _, _, .lst h r => .lst (s _ _ h) (DatL.same s r)
theorem DatL.same {H H' : Hp} (s : Same H H') : ∀ {xs : List V} {ds : List PyData}, DatL H xs ds → DatL H' xs ds
  | _, _, .nil => .nil
  | _, _, .cons h r => .cons (Dat.same s h) (DatL.same s r)
end
def tyD : PyData → Value
  | .none => .type "NoneType"
  | .bool _ => .type "bool"
  | .int _ => .type "int"
  | .str _ => .type "str"
  | .list _ => .type "list"
  | .tuple _ => .type "tuple"
  | .dict _ => .type "dict"
theorem Dat.ty {K : PySem.W.Frag} {H : Hp} {x : V} {d : PyData} (h : Dat H x d) : TyOf K H x (tyD d) := by
  cases h with
  | non => exact .non
  | bl b => exact .bl b
  | int i => exact .int i
  | str x => exact .str x
  | tup h _ => exact .tup h
  | lst h _ => exact .lst h
def isI : PyData → Bool | .int _ => true | .bool _ => true | _ => false
def isB : PyData → Bool | .bool _ => true | _ => false
def isS : PyData → Bool | .str _ => true | _ => false
def isT : PyData → Bool | .tuple _ => true | _ => false
def isL : PyData → Bool | .list _ => true | _ => false
section
variable {K : PySem.W.Frag} {H : Hp} {x : V} {d : PyData} {Q : VK}
theorem isi_bool (h : Dat H x d) (q : Q (.bl (isB d)) H) : rIsi K [x, .ty "bool"] H Q := ⟨x, "bool", _, isB d, rfl, h.ty, by cases h <;> rfl, q⟩
theorem isi_str (h : Dat H x d) (q : Q (.bl (isS d)) H) : rIsi K [x, .ty "str"] H Q := ⟨x, "str", _, isS d, rfl, h.ty, by cases h <;> rfl, q⟩
end
end L2

set_option Elab.async false
set_option linter.all false
set_option maxRecDepth 100000
set_option maxHeartbeats 4000000
/-! [e for t in it if c]: a block of its own, that reads names of its def. -/
namespace L2
open PySem PySem.Spec PyProof.Rows
/-! ### the cells handed to the block -/
def clOf (env : Env) : List (Str × NameKind) → List (Str × Addr) → List (Str × Addr)
  | [], acc => acc
  | (n, k) :: r, acc => clOf env r (if (k == NameKind.free) = true then (n, (env.cells.lookup n).getD 0) :: acc else acc)
theorem closureFor_cl {scope : Scope} {env : Env} (h : ∀ x ∈ scope.names, x.2 = .free → ∃ c, env.cells.lookup x.1 = some c) : closureFor scope env = pure (clOf env scope.names []) := by
  simp only [closureFor]
  generalize ([] : List (Str × Addr)) = acc
  revert h
  generalize scope.names = l
  intro h
  induction l generalizing acc with
  | nil => rfl
  | cons x l ih =>
    obtain ⟨n, k⟩ := x
    have ih' := fun acc => ih acc fun y hy => h y (List.mem_cons_of_mem _ hy)
    rw [List.forIn_cons]
    cases hk : (k == NameKind.free) with
    | false =>
      simp only [Bool.false_eq_true, if_false, pure_bind]
      rw [show clOf env ((n, k) :: l) acc = clOf env l acc by simp [clOf, hk]]
      exact ih' acc
    | true =>
      obtain ⟨c, hc⟩ := h (n, k) List.mem_cons_self (by simpa using hk)
      have e : cellOf env n = pure c := by unfold cellOf; rw [hc]
      simp only [if_true, e, pure_bind]
      rw [show clOf env ((n, k) :: l) acc = clOf env l ((n, c) :: acc) by simp [clOf, hk, hc]]
      exact ih' ((n, c) :: acc)
theorem clOf_lookup {env : Env} {x : Str} {c : Addr} : ∀ {l : List (Str × NameKind)} {acc : List (Str × Addr)}, (∀ y ∈ l, y.2 = .free → ∃ c, env.cells.lookup y.1 = some c) → (clOf env l acc).lookup x = some c → acc.lookup x = some c ∨ env.cells.lookup x = some c
  | [], acc, _, h => .inl h
  | (n, k) :: l, acc, hf, h => by
    have ih := clOf_lookup (l := l) (acc := if (k == NameKind.free) = true then (n, (env.cells.lookup n).getD 0) :: acc else acc) (fun y hy => hf y (List.mem_cons_of_mem _ hy)) h
    rcases ih with e | e
    · cases hk : (k == NameKind.free) with
      | false => rw [hk] at e; exact .inl (by simpa using e)
      | true =>
        rw [hk] at e
        simp only [if_true, List.lookup_cons] at e
        cases hx : x == n with
        | false => rw [hx] at e; exact .inl e
        | true =>
          rw [hx] at e
          obtain ⟨c', hc⟩ := hf (n, k) List.mem_cons_self (by simpa using hk)
          have hxn : x = n := by simpa using hx
          subst hxn
          rw [hc] at e
          simp only [Option.getD_some] at e
          exact .inr (hc.trans e)
    · exact .inr e
theorem clOf_mono {env : Env} {x : Str} : ∀ {l : List (Str × NameKind)} {acc : List (Str × Addr)}, (∃ c, acc.lookup x = some c) → ∃ c, (clOf env l acc).lookup x = some c
  | [], acc, h => h
  | (n, k) :: l, acc, h => by
    refine clOf_mono (l := l) ?_
    cases hk : (k == NameKind.free) with
    | false => simpa using h
    | true =>
      simp only [if_true, List.lookup_cons]
      cases hx : x == n with
      | false => exact h
      | true => exact ⟨_, rfl⟩
theorem clOf_has {env : Env} {x : Str} : ∀ {l : List (Str × NameKind)} {acc : List (Str × Addr)}, (x, NameKind.free) ∈ l → ∃ c, (clOf env l acc).lookup x = some c
  | [], _, h => nomatch h
  | (n, k) :: l, acc, h => by
    rcases List.mem_cons.mp h with e | e
    · cases e
      refine clOf_mono (l := l) ?_
      simp
    · exact clOf_has (l := l) e
def rlF (env : Env) (p : Str × NameKind) : Str × NameKind := if (p.2 == NameKind.free && env.scope.kind == .function && env.kindOf p.1 == some .cell) then (p.1, NameKind.cell) else p
theorem relabel_names (scope : Scope) (env : Env) : (relabel scope env).names = scope.names.map (rlF env) := by
  show scope.names.map _ = _
  congr 1
theorem rlF_fst (env : Env) (p : Str × NameKind) : (rlF env p).1 = p.1 := by unfold rlF; split <;> rfl
theorem lookup_rlF {env : Env} {x : Str} : ∀ {names : List (Str × NameKind)}, (names.map (rlF env)).lookup x = (names.lookup x).map fun k => (rlF env (x, k)).2
  | [] => rfl
  | (n, q) :: r => by
    rw [List.map_cons]
    have e : rlF env (n, q) = (n, (rlF env (n, q)).2) := Prod.ext (rlF_fst env _) rfl
    rw [e, List.lookup_cons, List.lookup_cons]
    cases hx : x == n with
    | true =>
      have hxn : x = n := by simpa using hx
      subst hxn
      rfl
    | false => exact lookup_rlF (names := r)
theorem relabel_some {scope : Scope} {env : Env} {x : Str} {k : NameKind} (h : (relabel scope env).names.lookup x = some k) : scope.names.lookup x = some k ∨ (k = .cell ∧ scope.names.lookup x = some .free) := by
  rw [relabel_names, lookup_rlF] at h
  cases e : scope.names.lookup x with
  | none => rw [e] at h; cases h
  | some q =>
    rw [e] at h
    have h' : (rlF env (x, q)).2 = k := Option.some.inj h
    unfold rlF at h'
    split at h'
    · rename_i hc
      have hq : q = .free := by
        have := (Bool.and_eq_true _ _).mp ((Bool.and_eq_true _ _).mp hc).1
        simpa using this.1
      exact .inr ⟨h'.symm, by rw [hq]⟩
    · exact .inl (by rw [← h'])
theorem relabel_free {scope : Scope} {env : Env} {x : Str} (h : scope.names.lookup x = some .free) : (relabel scope env).names.lookup x = some .cell ∨ (relabel scope env).names.lookup x = some .free := by
  rw [relabel_names, lookup_rlF, h]
  show some (rlF env (x, .free)).2 = _ ∨ some (rlF env (x, .free)).2 = _
  unfold rlF
  split
  · exact .inl rfl
  · exact .inr rfl

/-! ### the block's context -/
def cxC (X : Cx) (N : List Str) (scope : Scope) (C : Addr) (s : Shared) (H : Hp) (fp : List Addr) (pn : List (Addr × Obj)) : Cx :=
  { X with N := N, s₀ := s, H₀ := H, env := compEnvC scope (clOf X.env scope.names []) C X.env, outer := X.stack, ex := fp, fn := fun _ => false, pn := pn, xe := fun _ _ => False }
structure CScope (scope : Scope) (ns : List Str) : Prop where
  kind : scope.kind = .function
  nocell : ∀ y ∈ scope.names, y.2 ≠ .cell
  names : ∀ y ∈ scope.names, y.2 = .local → scope.names.lookup y.1 = some .local
  frees : ∀ y ∈ scope.names, y.2 = .free → y.1 ∈ ns
/-- the names that the block reads, and their places in the def -/
inductive Caps (X : Cx) (scope : Scope) : List Str → List Nat → Prop
  | nil : Caps X scope [] []
  | cons {x : Str} {i : Nat} {ns : List Str} {is : List Nat} : X.N[i]? = some x → scope.names.lookup x = some .free → (X.env.kindOf x = some .cell ∨ X.env.kindOf x = some .free) → Caps X scope ns is → Caps X scope (x :: ns) (i :: is)
theorem Caps.mem {X : Cx} {scope : Scope} {ns : List Str} {is : List Nat} {x : Str} (c : Caps X scope ns is) (h : x ∈ ns) : X.env.kindOf x = some .cell ∨ X.env.kindOf x = some .free := by
  induction c with
  | nil => exact nomatch h
  | cons _ _ k _ ih =>
    rcases List.mem_cons.mp h with e | e
    · subst e; exact k
    · exact ih e
theorem Caps.len {X : Cx} {scope : Scope} {ns : List Str} {is : List Nat} (c : Caps X scope ns is) : is.length = ns.length := by
  induction c with
  | nil => rfl
  | cons _ _ _ _ ih => simp [ih]
theorem Caps.at_ {X : Cx} {scope : Scope} {ns : List Str} {is : List Nat} (c : Caps X scope ns is) {j : Nat} {x : Str} (h : ns[j]? = some x) :
    ∃ i, is[j]? = some i ∧ X.N[i]? = some x ∧ scope.names.lookup x = some .free ∧ (X.env.kindOf x = some .cell ∨ X.env.kindOf x = some .free) := by
  induction c generalizing j with
  | nil => simp at h
  | cons a b k _ ih =>
    cases j with
    | zero => simp at h; subst h; exact ⟨_, rfl, a, b, k⟩
    | succ j => exact ih (by simpa using h)
/-- the block's names at its start -/
def getJ (σ : St) (i : Nat) : Option V := (σ[i]?).join
def initC (k : Nat) (caps : List Nat) (σ : St) : St := List.replicate k none ++ caps.map fun i => getJ σ i
section
variable {X : Cx} {pins : List (Addr × Obj)} {σ : St} {H : Hp} {s s4 : Shared}
theorem comp_start {own ns : List Str} {caps : List Nat} {scope : Scope} {C : Addr} {fp : List Addr} (I : Inv X pins σ H s) (S : CScope scope ns) (cp : Caps X scope ns caps) (hf : ∀ b ∈ fp, FpOk X pins H b)
    (hfl : ∀ b ∈ fp, b < s.heap.objs.size) (hC : s.heap.objs.size ≤ C) (os : s4.os = s.os) (gens : s4.gens = s.gens) (k : ∀ b o, s.heap.get? b = some o → s4.heap.get? b = some o) {m : Str → Option Value} (hn : s4.heap.Ns C m) :
    Inv (cxC X (own ++ ns) scope C s H fp (X.pn ++ pins)) [] (initC own.length caps σ) H s4 := by
  have cells : ∀ x c, (clOf X.env scope.names []).lookup x = some c → X.env.cells.lookup x = some c := fun x c e => by
    rcases clOf_lookup (fun y hy hfr => I.ok.has y.1 (cp.mem (S.frees y hy hfr))) e with z | z
    · simp at z
    · exact z
  have neL : C ≠ X.env.locals := Nat.ne_of_gt (Nat.lt_of_lt_of_le I.lt hC)
  have inFs : ∀ b, b ∈ frs X.stack → b = X.env.locals ∨ b ∈ X.fs := fun b hb => List.mem_cons.mp (I.stkSub b hb)
  have nst : ∀ b, b ≠ X.env.locals → b ∉ X.fs → b ∉ frs X.stack := fun b h1 h2 z => (inFs b z).elim h1 h2
  have cle : ∀ x c, X.env.cells.lookup x = some c → c < s.heap.objs.size := fun x c e => by obtain ⟨v, q⟩ := I.cell x c e; exact q.lt
  refine ⟨⟨I.ok.mod, S.kind, I.ok.glob, I.ok.blt, hC, fun x y c h1 h2 => I.ok.inj x y c (cells _ _ h1) (cells _ _ h2), fun x hx => ?_, (fun x c h => nomatch h), I.ok.hd, I.ok.frames, .inl rfl, fun b hb => ⟨fun z => ?_, fun x c e => (hf b hb).2.2.2.2.1 x c (cells _ _ e)⟩,
      I.bs, Nat.le_trans I.ok.bsz I.sz, fun b o e hb => ?_, fun b hb => nst b (hf b hb).2.1 (hf b hb).2.2.1, I.stack, I.stkFree⟩,
    os, by rw [gens]; exact I.bare, Un.kept k, ⟨m, hn, fun i x v e1 e2 e3 => ?_⟩, fun x c e => ?_, ?_, fun x c e => I.freeC x c (cells _ _ e), fun p hp => ?_, I.hok.kept k, ?_⟩
  · have hx' : (relabel scope X.env).names.lookup x = some .cell ∨ (relabel scope X.env).names.lookup x = some .free := hx
    have hfree : scope.names.lookup x = some .free := by
      rcases hx' with z | z
      · rcases relabel_some z with q | q
        · exact absurd rfl (S.nocell _ (PySem.mem_of_lookup q))
        · exact q.2
      · rcases relabel_some z with q | q
        · exact q
        · exact absurd q.1 (by decide)
    exact clOf_has (PySem.mem_of_lookup hfree)
  · exact absurd (Nat.lt_of_lt_of_le (hfl b hb) hC) (by rw [show b = C from z]; exact Nat.lt_irrefl _)
  · obtain ⟨f0, f1, f2, f3, f4, f5⟩ := hf b hb
    rcases f3 with z | z
    · exact I.ok.noex b o e z
    · exact absurd (Nat.lt_of_lt_of_le (Heap.lt_size e) (Nat.le_trans I.ok.bsz z)) (Nat.lt_irrefl _)
  · have e2' : (List.replicate own.length none ++ caps.map fun i => getJ σ i)[i]? = some (some v) := e2
    have e1' : (own ++ ns)[i]? = some x := e1
    by_cases hi : i < own.length
    · rw [List.getElem?_append_left (by simpa using hi), List.getElem?_replicate, if_pos hi] at e2'
      cases e2'
    · rw [List.getElem?_append_right (by simpa using hi), List.length_replicate, List.getElem?_map] at e2'
      rw [List.getElem?_append_right (by omega)] at e1'
      obtain ⟨i', h1, h2, h3, h4⟩ := cp.at_ e1'
      rw [h1] at e2'
      have e4 : (σ[i']?).join = some v := Option.some.inj e2'
      have e5 : σ[i']? = some (some v) := by
        cases q : σ[i']? with
        | none => rw [q] at e4; cases e4
        | some w' => rw [q] at e4; rw [show w' = some v from e4]
      obtain ⟨m', hn', hl'⟩ := I.loc
      have vis : Vis X.env.scope x := h4.elim (fun z => .inr (.inl z)) fun z => .inr (.inr z)
      obtain ⟨u, r, l⟩ := hl' i' x v h2 e5 vis
      refine ⟨u, r, .inr ⟨relabel_free h3, ?_⟩⟩
      obtain ⟨c, hc⟩ := clOf_has (env := X.env) (acc := []) (PySem.mem_of_lookup h3)
      rcases l with ⟨z, _⟩ | ⟨_, c', e6, z⟩
      · rcases h4 with y | y <;> · rw [y] at z; cases z
      · have := cells _ _ hc
        rw [e6] at this
        cases this
        obtain ⟨o, ho, hd⟩ := z
        exact ⟨_, hc, o, k _ _ ho, hd⟩
  · obtain ⟨v, o, ho, hd⟩ := I.cell x c (cells _ _ e)
    exact ⟨v, o, k _ _ ho, hd⟩
  · exact I.hok.fresh hC
  · have hp' : p ∈ X.pn ++ pins := by simpa [cxC] using hp
    obtain ⟨a1, a2, a3, a4, a5⟩ := I.pin p hp'
    exact ⟨k _ _ a1, a2, Nat.ne_of_lt (Nat.lt_of_lt_of_le (Heap.lt_size a1) hC), nst _ a3 a4, a5⟩
  · show (initC own.length caps σ).length = (own ++ ns).length
    simp [initC, cp.len]
end
/-! ### the tests -/
def PF (X : Cx) (ifs : List Expr) (t : TT) : Prop :=
  ∀ (pins : List (Addr × Obj)) (s : Shared) (σ : St) (H : Hp) (Q : Bool → Hp → Prop), Inv X pins σ H s → t σ H Q →
    wpAny (model X.prog X.w) X.A (forIn ifs true fun c r => if r = true then do let ok ← isTrue c X.env (eval c X.env); pure (ForInStep.yield ok) else pure (ForInStep.yield r)) (TP X pins σ Q) X.xe s
def tNoIf : TT := fun _ H q => q true H
theorem pf_nil {X : Cx} : PF X [] tNoIf := fun _ _ _ H _ I h => wpAny_pure ⟨H, I, h⟩
/-! ### the block run -/
def CompJ (J : It) (g : TG) (tf : TT) (te : TE) (Q : VK) (σ : St) (H1 : Hp) : Prop := ∃ W : Nat → Nat → List V → St → Hp → Prop, (∃ m, W 0 m [] σ H1) ∧ ∀ i m ys σ H, W i m ys σ H →
  (J.stop i H ∧ ys.length ≤ sizeLine ∧ ∀ p, H p = none → Q (.ref p) (upd H p (.lst ys))) ∨
  (J.go i H ∧ ys.length < sizeLine ∧ ∀ x H', J.yld i H x H' → g x σ H' fun σ2 H2 => tf σ2 H2 fun b H3 =>
    if b = true then te σ2 H3 fun y H4 => ∃ m', m' < m ∧ W (i + 1) m' (ys ++ [y]) σ2 H4 else ∃ m', m' < m ∧ W (i + 1) m' ys σ2 H3)
section
variable {X : Cx} {pins : List (Addr × Obj)} {σ : St} {H : Hp} {s : Shared}
theorem comp_turn_one {prog : Program} {w : World} {A : Around} {R : Result → Shared → Prop} {s : Shared} {elt target iter : Expr} {ifs : List Expr} {scope : Scope} {pos : Pos} {it acc : Value} {env : Env} (I : Nat → Shared → Prop)
    (turn : ∀ n s, I n s → wpAny (model prog w) A (pyNext it) (fun r s₁ => match r with
      | none => R (.ok .next) s₁
      | some v => wpAny (model prog w) A (letOwnedTupleGo target it v) (fun _ s₁ => wpAny (model prog w) A (assign target env v) (fun _ s₂ =>
          wpAny (model prog w) A (forIn ifs true fun c r => if r = true then do let ok ← isTrue c env (eval c env); pure (ForInStep.yield ok) else pure (ForInStep.yield r)) (fun ok s₃ =>
            if ok = true then wpAny (model prog w) A (eval elt env) (fun x s₄ =>
              wpAny (model prog w) A (call (.builtin "list.append") [acc, x]) (fun _ s₅ => ∃ m, m < n ∧ I m s₅) (notedBy (model prog w) A env fun e s' => R (.error e) s') s₄) (notedBy (model prog w) A env fun e s' => R (.error e) s') s₃
            else ∃ m, m < n ∧ I m s₃) (notedBy (model prog w) A env fun e s' => R (.error e) s') s₂) (notedBy (model prog w) A env fun e s' => R (.error e) s') s₁) (notedBy (model prog w) A env fun e s' => R (.error e) s') s₁) (notedBy (model prog w) A env fun e s' => R (.error e) s') s)
    (n : Nat) (h : I n s) : codeAny (model prog w) A (.compLoop (.ListComp elt [⟨target, iter, ifs, 0⟩] scope pos) 0 it acc env) R s := by
  refine codeAny_loop rfl I (fun n s hI => ?_) n h
  show wpAny _ A ((compTurn (.ListComp elt [⟨target, iter, ifs, 0⟩] scope pos) 0 it acc env).onRaise (fun x => do noteFrame x env; theTreesLotGoes x)) _ _ s
  refine wpAny_noted ?_
  rw [compTurn_list]
  refine wpAny_bind (wpAny_standAt (wpAny_bind (wpAny_mono (turn n s hI) (fun r s₁ h₁ => ?_) fun _ _ h' => h')))
  cases r with
  | none => exact wpAny_pure h₁
  | some v =>
    refine wpAny_bind (wpAny_mono h₁ (fun _ s₁ h₁ => ?_) fun _ _ h' => h')
    refine wpAny_bind (wpAny_mono h₁ (fun _ s₂ h₂ => wpAny_bind (wpAny_mono h₂ (fun ok s₃ h₃ => ?_) fun _ _ h' => h')) fun _ _ h' => h')
    cases ok with
    | false => exact wpAny_pure ⟨rfl, h₃⟩
    | true =>
      exact wpAny_bind (wpAny_bind (wpAny_mono h₃ (fun x s₄ h₄ => wpAny_bind (wpAny_mono h₄ (fun _ s₅ h₅ => wpAny_pure (wpAny_pure ⟨rfl, h₅⟩)) fun _ _ h' => h')) fun _ _ h' => h'))

theorem comp_run {own ns : List Str} {caps : List Nat} {elt tg iter : Expr} {ifs : List Expr} {scope : Scope} {pos : Pos} {it : Addr} {fp : List Addr} {tn : Nat → Heap → Prop} {J : It} {g : TG} {tf : TT} {te : TE} {Q : VK} {E : Value → Shared → Prop} {RR : Value → Addr → Result → Shared → Prop}
    (hc : X.calm = true) (S : CScope scope ns) (cp : Caps X scope ns caps)
    (hg : ∀ C s H fp pn, PG (cxC X (own ++ ns) scope C s H fp pn) tg g) (ht : ∀ C s H fp pn, PF (cxC X (own ++ ns) scope C s H fp pn) ifs tf) (he : ∀ C s H fp pn, PE (cxC X (own ++ ns) scope C s H fp pn) elt te)
    (I : Inv X pins σ H s) (T : Turn X.prog X.w X.K tg J fp it tn) (st : tn 0 s.heap) (hf : ∀ b ∈ fp, FpOk X pins H b) (hJ : CompJ J g tf te Q (initC own.length caps σ) H)
    (fin : ∀ D C m s' H' ys, D ≠ C → s'.heap.Ns C m → FpOk X pins (upd H' D (.lst ys)) C → Inv X pins σ (upd H' D (.lst ys)) s' → Q (.ref D) (upd H' D (.lst ys)) → RR (.ref D) C (.ok .next) s') :
    wpAny (model X.prog X.w) X.A (newList []) (fun acc s₃ => wpAny (model X.prog X.w) X.A (newFunctionEnv scope X.env.globals (clOf X.env scope.names []) [] X.env.qual none .none (some X.env)) (fun cenv s₄ =>
      codeAny (model X.prog X.w) X.A (.compStart (.ListComp elt [⟨tg, iter, ifs, 0⟩] scope pos) 0 (.ref it) acc { cenv with scope := relabel scope X.env }) (RR acc cenv.locals) s₄) E s₃) E s := by
  refine wpAny_newObj_type (wpAny_newFunctionEnv S.nocell (by intro y hy; simp at hy) (fun h₁ hns₁ hsb₁ => ?_) S.kind)
  dsimp only at hns₁ hsb₁ ⊢
  generalize hH2 : s.heap.push { cls := .type "list", dict := none, data := .seq ([] : List Value).toArray } = H2 at hns₁ hsb₁ ⊢
  have hC : H2.objs.size = s.heap.objs.size + 1 := by rw [← hH2, Heap.size_push]
  have hDC : s.heap.objs.size ≠ H2.objs.size := by rw [hC]; exact Nat.ne_of_lt (Nat.lt_succ_self _)
  have hCle : s.heap.objs.size ≤ H2.objs.size := by rw [hC]; exact Nat.le_succ _
  have old : ∀ b o, s.heap.get? b = some o → h₁.get? b = some o := fun b o e => hsb₁.extBut b o (by rw [hC]; exact Nat.ne_of_lt (Nat.lt_succ_of_lt (Heap.lt_size e))) (Heap.get?_push_of_some _ (hH2 ▸ Heap.get?_push_of_some _ e))
  have hacc : h₁.PlainList s.heap.objs.size #[] := ⟨_, hsb₁.extBut _ _ hDC (Heap.get?_push_of_some _ (hH2 ▸ Heap.get?_push_size _ rfl))⟩
  have hfl : ∀ b ∈ fp, b < s.heap.objs.size := fun b hb => by obtain ⟨o, e, _⟩ := T.obj _ _ st b hb; exact Heap.lt_size e
  generalize hD : s.heap.objs.size = D at hDC hacc ⊢
  generalize hCe : H2.objs.size = C at hns₁ hsb₁ hDC hCle hC ⊢
  have hDle : s.heap.objs.size ≤ D := by rw [hD]; exact Nat.le_refl _
  have hCle' : s.heap.objs.size ≤ C := by rw [hD]; rw [hD] at hCle; exact hCle
  have I₁ : Inv (cxC X (own ++ ns) scope C s H fp (X.pn ++ pins)) [] (initC own.length caps σ) H { s with heap := h₁, toks := s.toks + ([] : List (Str × Value)).length } :=
    comp_start I S cp hf hfl hCle' rfl rfl old hns₁
  have st₁ : tn 0 h₁ := T.keep _ _ _ st fun b _ o e => old b o e
  generalize hY : cxC X (own ++ ns) scope C s H fp (X.pn ++ pins) = Y at I₁
  have hgY : PG Y tg g := hY ▸ hg C s H fp (X.pn ++ pins)
  have htY : PF Y ifs tf := hY ▸ ht C s H fp (X.pn ++ pins)
  have heY : PE Y elt te := hY ▸ he C s H fp (X.pn ++ pins)
  have yP : Y.prog = X.prog := by rw [← hY]; rfl
  have yW : Y.w = X.w := by rw [← hY]; rfl
  have yK : Y.K = X.K := by rw [← hY]; rfl
  have yA : Y.A = X.A := by rw [← hY]; rfl
  have yC : Y.calm = true := by rw [← hY]; exact hc
  have yE : Y.env = compEnvC scope (clOf X.env scope.names []) C X.env := by rw [← hY]; rfl
  have yX : Y.xe = fun _ _ => False := by rw [← hY]; rfl
  have yF : Y.fs = frs X.stack := by rw [← hY]; rfl
  have yQ : Y.pn = X.pn ++ pins := by rw [← hY]; rfl
  have yI : Y.ex = fp := by rw [← hY]; rfl
  have yS : Y.s₀ = s := by rw [← hY]; rfl
  have yH : Y.H₀ = H := by rw [← hY]; rfl
  have cells : ∀ x c, Y.env.cells.lookup x = some c → X.env.cells.lookup x = some c := fun x c e => by
    rw [yE] at e
    rcases clOf_lookup (fun y hy hfr => I.ok.has y.1 (cp.mem (S.frees y hy hfr))) (show (clOf X.env scope.names []).lookup x = some c from e) with z | z
    · simp at z
    · exact z
  have nst : ∀ b, b ≠ X.env.locals → b ∉ X.fs → b ∉ Y.fs := fun b h1 h2 z => by
    rw [yF] at z
    exact (List.mem_cons.mp (I.stkSub b z)).elim h1 h2
  have fpY : ∀ {H' : Hp}, (∀ b ∈ fp, H' b = none) → ∀ b ∈ fp, FpOk Y [] H' b := fun {H'} hn b hb => by
    obtain ⟨f0, f1, f2, f3, f4, f5⟩ := hf b hb
    refine ⟨hn b hb, ?_, nst b f1 f2, .inl (by rw [yI]; exact hb), fun x c e => f4 x c (cells x c e), fun p hp => f5 p (by simpa [yQ] using hp)⟩
    rw [yE]
    exact Nat.ne_of_lt (Nat.lt_of_lt_of_le (hfl b hb) hCle')
  have fpD : ∀ {H' : Hp}, H' D = none → FpOk Y [] H' D := fun {H'} hn => by
    obtain ⟨f0, f1, f2, f3, f4, f5⟩ := I.fpOk (H' := H') hDle hn
    refine ⟨hn, by rw [yE]; exact hDC, nst D f1 f2, .inr (by rw [yS]; exact hDle), fun x c e => f4 x c (cells x c e), fun p hp => f5 p (by simpa [yQ] using hp)⟩
  have hDf : D ∉ fp := fun z => Nat.lt_irrefl _ (Nat.lt_of_lt_of_le (hfl D z) hDle)
  have objD : ∀ {h : Heap} {us : List Value}, h.PlainList D us.toArray → ∃ o, h.get? D = some o ∧ ∀ v, o.data ≠ .cell v := fun {h us} ⟨n, e⟩ => ⟨_, e, fun v z => by cases z⟩
  -- the pins of the list that grows
  have noErr : ∀ {α : Type} {t : Sem α} {Qt : α → Shared → Prop} {sx : Shared} {E' : Value → Shared → Prop}, wpAny (model Y.prog Y.w) Y.A t Qt Y.xe sx → wpAny (model X.prog X.w) X.A t Qt E' sx := fun {α t Qt sx E'} h => by
    rw [yP, yW, yA, yX] at h
    exact wpAny_mono h (fun _ _ q => q) fun _ _ f => f.elim
  obtain ⟨W, ⟨m0, w0⟩, turn⟩ := hJ
  have TY : Turn Y.prog Y.w Y.K tg J fp it tn := by rw [yP, yW, yK]; exact T
  have loop : ∀ s₃ : Shared, s₃ = { s with heap := h₁, toks := s.toks + ([] : List (Str × Value)).length } →
      codeAny (model X.prog X.w) X.A (.compLoop (.ListComp elt [⟨tg, iter, ifs, 0⟩] scope pos) 0 (.ref it) (.ref D) (compEnvC scope (clOf X.env scope.names []) C X.env)) (RR (.ref D) C) s₃ := by
    rintro s₃ rfl
    refine comp_turn_one (fun n s' => ∃ i ys us σ' H', Inv Y [] σ' H' s' ∧ tn i s'.heap ∧ (∀ b ∈ fp, H' b = none) ∧ H' D = none ∧ s'.heap.PlainList D us.toArray ∧ Vals ys us ∧ W i n ys σ' H') ?_ m0
      ⟨0, [], [], _, H, I₁, st₁, fun b hb => (hf b hb).1, I.hok.fresh hDle, hacc, .nil, w0⟩
    rintro n s3 ⟨i, ys, us, σ3, H3, I3, st3, fr3, hD3, pl3, v3, w3⟩
    have fD3 : ∀ b ∈ [D], FpOk Y [] H3 b := fun b hb => by
      have e : b = D := by simpa using hb
      subst e
      exact fpD hD3
    have I3' : Inv Y ([] ++ pinsAt [D] s3.heap) σ3 H3 s3 := I3.pinned fD3 fun b hb => by
      have e : b = D := by simpa using hb
      subst e
      exact objD pl3
    rw [List.nil_append] at I3'
    have fpY' : ∀ {H' : Hp}, (∀ b ∈ fp, H' b = none) → ∀ b ∈ fp, FpOk Y (pinsAt [D] s3.heap) H' b := fun {H'} hn b hb => by
      obtain ⟨f0, f1, f2, f3, f4, f5⟩ := fpY hn b hb
      refine ⟨f0, f1, f2, f3, f4, fun p hp => ?_⟩
      rcases List.mem_append.mp hp with z | z
      · exact f5 p (by simpa using z)
      · have e : p.1 = D := by simpa using (of_pinsAt z).1
        exact fun q => hDf (by rw [← e, q]; exact hb)
    obtain ⟨oD, eD, cD⟩ := objD pl3
    have keepD : ∀ {σ' : St} {H' : Hp} {s' : Shared} {pl : List (Addr × Obj)}, Inv Y (pinsAt [D] s3.heap ++ pl) σ' H' s' → s'.heap.PlainList D us.toArray ∧ H' D = none := fun {σ' H' s' pl} I' => by
      have := I'.pin (D, oD) (List.mem_append_right _ (List.mem_append_left _ (mem_pinsAt (by simp) eD)))
      refine ⟨?_, this.2.1⟩
      obtain ⟨k, e⟩ := pl3
      rw [e] at eD
      cases eD
      exact ⟨k, this.1⟩
    rcases turn i n ys σ3 H3 w3 with ⟨stop, hlen, qn⟩ | ⟨go, hlen, step⟩
    · refine noErr (thn (TY.done Y rfl rfl rfl yC i _ s3 σ3 H3 Y.xe I3' (fpY' fr3) st3 stop) fun r s4 ⟨hr, I4⟩ => ?_)
      subst hr
      obtain ⟨pl4, hD4⟩ := keepD (pl := []) (by rw [List.append_nil]; exact I4)
      have hun : Un (frs X.stack) fp H H3 s.heap s4.heap := by have := I4.base; rw [yF, yI, yS, yH] at this; exact this
      have hok : HOk X.prog X.w H3 s4.heap := by have := I4.hok; rw [yP, yW] at this; exact this
      obtain ⟨m4, hn4, _⟩ := I4.loc
      rw [yE] at hn4
      have hC4 : H3 C = none := by have := I4.free; rw [yE] at this; exact this
      have ne : ∀ b u, H3 b = some u → b ≠ D := fun b u e z => by rw [z, hD4] at e; cases e
      refine fin D C m4 s4 H3 ys hDC hn4 (I.fpOk hCle' (by rw [upd_ne (Ne.symm hDC)]; exact hC4)) (I.call' (ch := fp) ?_ ?_ ?_ I4.bare ?_) (qn D hD4)
      · have := I4.os; rw [yS] at this; exact this
      · exact ⟨hun.keep, hun.slot, fun b o e n hx => by rw [upd_ne (fun z => by rw [z] at e; exact absurd (Heap.lt_size e) (Nat.not_lt.mpr hDle))]; exact hun.free b o e n hx, hun.there,
          fun b xs e => by have := hun.tups b xs e; rw [upd_ne (ne _ _ this)]; exact this, fun b o u e => by have := hun.frzs b o u e; rw [upd_ne (ne _ _ this)]; exact this,
          fun b ps e => by obtain ⟨more, q⟩ := hun.tbls b ps e; exact ⟨more, by rw [upd_ne (ne _ _ q)]; exact q⟩⟩
      · intro b u e
        by_cases hb : b = D
        · subst hb
          rw [upd_same] at e
          cases e
          obtain ⟨k, e4⟩ := pl4
          exact ⟨hlen, us, k, v3, e4⟩
        · rw [upd_ne hb] at e
          exact (hok b u e).stay (fun c v _ q => q) (fun c q => by rw [upd_ne (ne _ _ q)]; exact q) fun c xs q => by rw [upd_ne (ne _ _ q)]; exact q
      · intro b hb
        obtain ⟨f0, f1, f2, f3, f4, f5⟩ := hf b hb
        exact ⟨f3, f1, f4, f5⟩
    · refine noErr (thn (TY.item Y rfl rfl rfl yC i _ s3 σ3 H3 Y.xe I3' (fpY' fr3) st3 go) fun r s4 ⟨u, hr, h4⟩ => ?_)
      subst hr
      refine noErr (thn h4 fun _ s5 ⟨x, H5, I5, r5, y5, st5, fr5⟩ => ?_)
      have I5' := I5.pinned (fpY' fr5) (T.obj _ _ st5)
      rw [← yE]
      refine noErr (thn (hgY _ s5 σ3 H5 x u _ I5' r5 (step x H5 y5)) fun _ s6 ⟨σ6, H6, I6, q6⟩ => ?_)
      refine noErr (thn (htY _ s6 σ6 H6 _ I6 q6) fun ok s7 ⟨H7, I7, q7⟩ => ?_)
      have fpK : ∀ {σ' : St} {H' : Hp} {s' : Shared}, Inv Y (pinsAt [D] s3.heap ++ pinsAt fp s5.heap) σ' H' s' → tn (i + 1) s'.heap ∧ ∀ b ∈ fp, H' b = none := fun {σ' H' s'} I' =>
        ⟨T.keep _ _ _ st5 fun b hb o e => (I'.pin (b, o) (List.mem_append_right _ (List.mem_append_right _ (mem_pinsAt hb e)))).1, fun b hb => by
          obtain ⟨o, e, _⟩ := T.obj _ _ st5 b hb
          exact (I'.pin (b, o) (List.mem_append_right _ (List.mem_append_right _ (mem_pinsAt hb e)))).2.1⟩
      cases ok with
      | false =>
        rw [if_neg Bool.false_ne_true] at q7 ⊢
        obtain ⟨m', hm, w7⟩ := q7
        obtain ⟨pl7, hD7⟩ := keepD I7
        obtain ⟨st7, fr7⟩ := fpK I7
        exact ⟨m', hm, i + 1, ys, us, σ6, H7, I7.pins_of (fun p hp => nomatch hp), st7, fr7, hD7, pl7, v3, w7⟩
      | true =>
        rw [if_pos rfl] at q7 ⊢
        refine noErr (thn (heY _ s7 σ6 H7 _ I7 q7) fun y s8 ⟨yv, H8, I8, r8, m', hm, w8⟩ => ?_)
        obtain ⟨pl8, hD8⟩ := keepD I8
        obtain ⟨st8, fr8⟩ := fpK I8
        have hul : us.length = ys.length := v3.length.symm
        refine wpAny_list_append_plain (hsz := by rw [List.size_toArray, hul]; exact Nat.le_of_lt hlen) pl8 fun h9 pl9 sb9 => ?_
        obtain ⟨d0, d1, d2, d3, d4, d5⟩ := fpD hD8
        refine ⟨m', hm, i + 1, ys ++ [yv], us ++ [y], σ6, H8, ?_, ?_, fr8, hD8, by simpa using pl9, v3.append (.cons r8 .nil), w8⟩
        · exact (I8.pins_of (pins' := []) fun p hp => nomatch hp).turned (t' := s8.toks) (fun b o hb e => (sb9.2 b hb).trans e) hD8 d1 d3 d4 d5
        · exact T.keep _ _ _ st8 fun b hb o e => (sb9.2 b (fun z => hDf (z ▸ hb))).trans e
  exact codeAny_compStart_list (loop _ rfl) (T.self _ 0 _ _ _ st₁ (loop _ rfl))
/-- [e for t in it if c] as a value -/
def tComp (k : Nat) (caps : List Nat) (wi : TI) (g : TG) (tf : TT) (te : TE) : TE := fun σ H Q => wi σ H fun J H1 => CompJ J g tf te Q (initC k caps σ) H1
theorem Caps.cl {scope : Scope} {ns : List Str} {caps : List Nat} (I : Inv X pins σ H s) (S : CScope scope ns) (cp : Caps X scope ns caps) : closureFor scope X.env = pure (clOf X.env scope.names []) :=
  closureFor_cl fun y hy hfr => I.ok.has y.1 (cp.mem (S.frees y hy hfr))
theorem pe_comp {own ns : List Str} {caps : List Nat} {elt tg iter : Expr} {ifs : List Expr} {scope : Scope} {pos : Pos} {wi : TI} {g : TG} {tf : TT} {te : TE} (hc : X.calm = true) (S : CScope scope ns) (cp : Caps X scope ns caps) (hi : PI X tg iter wi)
    (hg : ∀ C s H fp pn, PG (cxC X (own ++ ns) scope C s H fp pn) tg g) (ht : ∀ C s H fp pn, PF (cxC X (own ++ ns) scope C s H fp pn) ifs tf) (he : ∀ C s H fp pn, PE (cxC X (own ++ ns) scope C s H fp pn) elt te)
    (hs : ∀ x, foldedSetIterable iter X.env x = pure x := by intro _; rfl) : PE X (.ListComp elt [⟨tg, iter, ifs, 0⟩] scope pos) (tComp own.length caps wi g tf te) := by
  intro pins s σ H Q I h
  rw [eval_ListComp]
  refine wpAny_comprehension_free (use := none) rfl hs (cp.cl I S) S.kind S.names (thn (hi pins s σ H _ I h) fun v s1 h1 => thn h1 fun itv s2 h2 => ?_)
  obtain ⟨it, fp, tn, J, H2, e, I2, T, st2, f2, hJ⟩ := h2
  subst e
  refine comp_run hc S cp hg ht he I2 T st2 f2 hJ (RR := fun acc C => compPost (model X.prog X.w) X.A X.xe none (EP X pins σ Q) acc C) fun D C m s' H' ys hDC hn fC I' q => ?_
  refine ⟨m, hn, fun h' hs' => ⟨.ref D, _, ?_, rfl, q⟩⟩
  obtain ⟨f0, f1, f2, f3, f4, f5⟩ := fC
  exact I'.turned (t' := s'.toks) (fun b o hb e => (hs'.2 b hb).trans e) f0 f1 f3 f4 f5
theorem w_compL {k : Nat} {caps : List Nat} {K : PySem.W.Frag} {tl : TE} {g : TG} {tf : TT} {te : TE} {Q : VK} : tComp k caps (iList K tl) g tf te σ H Q = tl σ H fun x H1 => ∃ a, x = .ref a ∧ (∃ xs, SqL K H1 a xs) ∧ CompJ (Itl K a) g tf te Q (initC k caps σ) H1 := rfl
theorem w_comp1 {k : Nat} {caps : List Nat} {ta : TA} {g : TG} {tf : TT} {te : TE} {Q : VK} : tComp k caps (iRng1 ta) g tf te σ H Q = ta σ H fun vs H1 => ∃ j : Int, vs = [.int j] ∧ -(2 ^ 62) ≤ j ∧ j < 2 ^ 62 ∧ CompJ (Itr 0 j.toNat) g tf te Q (initC k caps σ) H1 := rfl
theorem w_init0 {x : Str} {l : List Str} {caps : List Nat} : initC (x :: l).length caps σ = none :: initC l.length caps σ := rfl
theorem w_initS {i : Nat} {is : List Nat} : initC ([] : List Str).length (i :: is) σ = getJ σ i :: initC ([] : List Str).length is σ := rfl
theorem w_initN : initC ([] : List Str).length [] σ = [] := rfl
theorem w_get0 {x : Option V} : getJ (x :: σ) 0 = x := rfl
theorem w_getS {x : Option V} {i : Nat} : getJ (x :: σ) (i + 1) = getJ σ i := rfl
theorem w_noif {q : Bool → Hp → Prop} : tNoIf σ H q = q true H := rfl
end

/-! ### the forms one uses -/
section
variable {K : PySem.W.Frag} {a : Addr} {xs : List V} {g : TG} {tf : TT} {te : TE} {Q : VK} {σ : St} {H : Hp}
theorem comp_by {J : It} (n : Nat) (hsz : n ≤ sizeLine) (Pv : Nat → List V → St → Hp → Prop) (h0 : Pv 0 [] σ H) (hlen : ∀ i ys σ H, Pv i ys σ H → ys.length ≤ i) (hgo : ∀ i ys σ H, i < n → Pv i ys σ H → J.go i H) (hstop : ∀ ys σ H, Pv n ys σ H → J.stop n H)
    (hs : ∀ i ys σ H x H' (N : List V → St → Hp → Prop), i < n → Pv i ys σ H → J.yld i H x H' → (∀ ys σ H, Pv (i + 1) ys σ H → N ys σ H) → g x σ H' fun σ2 H2 => tf σ2 H2 fun b H3 => if b = true then te σ2 H3 fun y H4 => N (ys ++ [y]) σ2 H4 else N ys σ2 H3)
    (hd : ∀ ys σ H p, Pv n ys σ H → H p = none → Q (.ref p) (upd H p (.lst ys))) : CompJ J g tf te Q σ H := by
  refine ⟨fun i m ys σ H => m = n - i ∧ i ≤ n ∧ Pv i ys σ H, ⟨n, by simp, Nat.zero_le _, h0⟩, ?_⟩
  rintro i m ys σ H ⟨rfl, hi, p⟩
  have hy := hlen i ys σ H p
  by_cases hlt : i < n
  · refine .inr ⟨hgo i ys σ H hlt p, by omega, fun x H' y => ?_⟩
    exact hs i ys σ H x H' (fun ys σ H => ∃ m', m' < n - i ∧ m' = n - (i + 1) ∧ i + 1 ≤ n ∧ Pv (i + 1) ys σ H) hlt p y fun ys σ H z => ⟨n - (i + 1), by omega, rfl, hlt, z⟩
  · have e : i = n := by omega
    subst e
    exact .inl ⟨hstop ys σ H p, by omega, fun p' hp => hd ys σ H p' p hp⟩
/-- over a list that the block leaves as it is -/
theorem comp_list (Pv : Nat → List V → St → Hp → Prop) (h0 : Pv 0 [] σ H) (hl : ∀ i ys σ H, Pv i ys σ H → SqL K H a xs ∧ ys.length ≤ i) (hsz : xs.length ≤ sizeLine)
    (hs : ∀ i x ys σ H (N : List V → St → Hp → Prop), xs[i]? = some x → Pv i ys σ H → (∀ ys σ H, Pv (i + 1) ys σ H → N ys σ H) → g x σ H fun σ2 H2 => tf σ2 H2 fun b H3 => if b = true then te σ2 H3 fun y H4 => N (ys ++ [y]) σ2 H4 else N ys σ2 H3)
    (hd : ∀ ys σ H p, Pv xs.length ys σ H → H p = none → Q (.ref p) (upd H p (.lst ys))) : CompJ (Itl K a) g tf te Q σ H := by
  refine comp_by xs.length hsz Pv h0 (fun i ys σ H p => (hl i ys σ H p).2) (fun i ys σ H hi p => ⟨xs, xs[i], (hl i ys σ H p).1, by simp [hi]⟩) (fun ys σ H p => ⟨xs, (hl _ ys σ H p).1, Nat.le_refl _⟩) ?_ hd
  rintro i ys σ H x H' N hi p ⟨rfl, y⟩ hN
  exact hs i x ys σ H' N (y xs (hl i ys σ _ p).1) p hN
end
end L2

set_option Elab.async false
set_option linter.all false
set_option maxRecDepth 100000
set_option maxHeartbeats 4000000
/-! The rules with the module's frame said by itself (within a block). -/
namespace L2
open PySem PySem.Spec PyProof.Rows
theorem ifN {c : Prop} [Decidable c] {A B : Prop} (h : ¬ c) (b : B) : if c then A else B := by rw [if_neg h]; exact b
theorem ifY {c : Prop} [Decidable c] {A B : Prop} (h : c) (a : A) : if c then A else B := by rw [if_pos h]; exact a
section
variable {X : Cx} {K : PySem.W.Frag}
theorem ix_list' (h : X.K = K) : IxR X (rIxL K) := h ▸ ix_list
end
end L2
namespace L2
open PySem PySem.Spec PyProof.Rows
/-! ### a tuple of texts of the file's top -/
def StrTup (o : Obj) (xs : List Str) : Prop := o.cls = .type "tuple" ∧ ∃ its n, o.data = .seq its n ∧ its.size ≤ sizeLine ∧ Vals (xs.map V.str) its.toList
theorem strTup_of {o : Obj} {xs : List Str} {its : Array Value} {n : Nat} (h1 : o.cls = .type "tuple") (h2 : o.data = .seq its n) (h3 : its.size ≤ sizeLine) (h4 : Vals (xs.map V.str) its.toList) : StrTup o xs := ⟨h1, its, n, h2, h3, h4⟩
theorem glob_tup {K : PySem.W.Frag} {h : Heap} {mg : Str → Option Value} {x : Str} {a : Addr} {o : Obj} {xs : List Str} (X : K.In h) (G : h.Ns mainGlobals mg) (y : PySem.W.nsIn K mainGlobals x = some (some (.ref a))) (l : K.lookup a = some o) (t : StrTup o xs) :
    ∃ a, mg x = some (.ref a) ∧ ∀ H, SqT K H a (xs.map V.str) := by
  obtain ⟨h1, its, n, h2, h3, h4⟩ := t
  exact ⟨a, PySem.W.mg_of X G y, fun H => .inr ⟨o, its, n, l, h1, h2, h3, h4⟩⟩
def tGlobR (K : PySem.W.Frag) (xs : List V) : TE := fun _ H Q => ∀ a, (∀ H, SqT K H a xs) → Q (.ref a) H
theorem pe_globR {X : Cx} {x : Str} {K : PySem.W.Frag} {xs : List V} {pos : Pos} (hg : Gl X x) (hm : ∃ a, X.mg x = some (.ref a) ∧ ∀ H, SqT K H a xs) (hd : (x == ("__debug__" : Str)) = false := by decide) : PE X (.Name x pos) (tGlobR K xs) := by
  obtain ⟨a, h1, h2⟩ := hm
  intro pins s σ H Q I h
  exact pe_glob (v := .ref a) hg h1 rfl hd pins s σ H Q I (h a h2)
/-! ### a word behind a statement -/
def tCut (t u : TS) : TS := fun D σ H => ∃ J : St → Hp → Prop, t { D with nx := J } σ H ∧ ∀ σ' H', J σ' H' → u D σ' H'
theorem pss_cut {X : Cx} {st : Stmt} {rest : List Stmt} {t u : TS} (h1 : PS X st t) (h2 : PSs X rest u) : PSs X (st :: rest) (tCut t u) := by
  intro pins s σ H D I h
  obtain ⟨J, h, hJ⟩ := h
  refine wpAny_execs_cons (thn (h1 pins s σ H { D with nx := J } I h) fun f s1 q => ?_)
  cases f with
  | next =>
    obtain ⟨σ', H', I', q⟩ := q
    exact h2 pins s1 σ' H' D I' (hJ _ _ q)
  | ret v => exact q
  | brk => exact q
  | cont => exact q
theorem atI_all {xs : List V} {i : Int} {P : V → Prop} (h0 : 0 ≤ i) (h1 : i < xs.length) (hp : ∀ x ∈ xs, P x) : ∃ v, atI xs i = some v ∧ P v := by
  have hi : i.toNat < xs.length := by omega
  refine ⟨xs[i.toNat], ?_, hp _ (List.getElem_mem hi)⟩
  have := atI_nat (xs := xs) (j := i.toNat) (v := xs[i.toNat]) (List.getElem?_eq_getElem hi)
  rwa [Int.toNat_of_nonneg h0] at this
end L2
namespace L2
open PySem PySem.Spec PyProof.Rows
/-! ### arguments, by the head of each -/
section
variable {X : Cx} {es : List Expr} {te : TE} {t : TA}
theorem pa_BoolOp {a0 : PySem.BoolOp} {a1 : List Expr} {a2 : PySem.Pos} (ha : PE X (Expr.BoolOp a0 a1 a2) te) (hr : PA X es t) : PA X ((Expr.BoolOp a0 a1 a2) :: es) (tCons te t) := pa_cons ha hr rfl
theorem pa_BinOp {a0 : PySem.Expr} {a1 : PySem.Operator} {a2 : PySem.Expr} {a3 : PySem.Pos} (ha : PE X (Expr.BinOp a0 a1 a2 a3) te) (hr : PA X es t) : PA X ((Expr.BinOp a0 a1 a2 a3) :: es) (tCons te t) := pa_cons ha hr rfl
theorem pa_ListComp {a0 : PySem.Expr} {a1 : List Comprehension} {a2 : PySem.Scope} {a3 : PySem.Pos} (ha : PE X (Expr.ListComp a0 a1 a2 a3) te) (hr : PA X es t) : PA X ((Expr.ListComp a0 a1 a2 a3) :: es) (tCons te t) := pa_cons ha hr rfl
theorem pa_Compare {a0 : PySem.Expr} {a1 : List CmpOp} {a2 : List Expr} {a3 : PySem.Pos} (ha : PE X (Expr.Compare a0 a1 a2 a3) te) (hr : PA X es t) : PA X ((Expr.Compare a0 a1 a2 a3) :: es) (tCons te t) := pa_cons ha hr rfl
theorem pa_Call {a0 : PySem.Expr} {a1 : List Expr} {a2 : List Keyword} {a3 : PySem.Pos} (ha : PE X (Expr.Call a0 a1 a2 a3) te) (hr : PA X es t) : PA X ((Expr.Call a0 a1 a2 a3) :: es) (tCons te t) := pa_cons ha hr rfl
theorem pa_Constant {a0 : PySem.Const} {a1 : Nat} {a2 : PySem.Pos} (ha : PE X (Expr.Constant a0 a1 a2) te) (hr : PA X es t) : PA X ((Expr.Constant a0 a1 a2) :: es) (tCons te t) := pa_cons ha hr rfl
theorem pa_Attribute {a0 : PySem.Expr} {a1 : PySem.Str} {a2 : PySem.Pos} (ha : PE X (Expr.Attribute a0 a1 a2) te) (hr : PA X es t) : PA X ((Expr.Attribute a0 a1 a2) :: es) (tCons te t) := pa_cons ha hr rfl
theorem pa_Subscript {a0 : PySem.Expr} {a1 : PySem.Expr} {a2 : PySem.Pos} (ha : PE X (Expr.Subscript a0 a1 a2) te) (hr : PA X es t) : PA X ((Expr.Subscript a0 a1 a2) :: es) (tCons te t) := pa_cons ha hr rfl
theorem pa_Name {a0 : PySem.Str} {a1 : PySem.Pos} (ha : PE X (Expr.Name a0 a1) te) (hr : PA X es t) : PA X ((Expr.Name a0 a1) :: es) (tCons te t) := pa_cons ha hr rfl
theorem pa_List {a0 : List Expr} {a1 : PySem.Pos} (ha : PE X (Expr.List a0 a1) te) (hr : PA X es t) : PA X ((Expr.List a0 a1) :: es) (tCons te t) := pa_cons ha hr rfl
theorem pa_Tuple {a0 : List Expr} {a1 : Nat} {a2 : PySem.Pos} (ha : PE X (Expr.Tuple a0 a1 a2) te) (hr : PA X es t) : PA X ((Expr.Tuple a0 a1 a2) :: es) (tCons te t) := pa_cons ha hr rfl
end
end L2
namespace L2
open PySem PySem.Spec PyProof.Rows
theorem w_gSub {to ti : TE} {t : TSet} {v : V} {σ : St} {H : Hp} {q : St → Hp → Prop} : gSub to ti t v σ H q = to σ H fun o H1 => ti σ H1 fun i H2 => t o i v H2 fun H3 => q σ H3 := rfl
end L2
namespace L2
open PySem PySem.Spec PyProof.Rows
theorem cut_intro {t u : TS} {D : Ends} {σ : St} {H : Hp} (J : St → Hp → Prop) (h1 : t { nx := J, rt := D.rt, bk := D.bk, ct := D.ct } σ H) (h2 : ∀ σ' H', J σ' H' → u D σ' H') : tCut t u D σ H := ⟨J, h1, h2⟩
end L2

/-! Words of brackets as lists of truths (true: opens): heights of places, balance, mates. -/
namespace Rm
def dl (b : Bool) : Int := if b then 1 else -1
def D (bs : List Bool) (i : Nat) : Int := ((bs.take i).map dl).sum
/-- what a word is -/
structure Bal (bs : List Bool) : Prop where
  nn : ∀ i, i ≤ bs.length → 0 ≤ D bs i
  z : D bs bs.length = 0
/-- a word that grows: deep more are open than closed, room places are left -/
structure Grow (bs : List Bool) (deep : Int) (room : Int) : Prop where
  nn : ∀ i, i ≤ bs.length → 0 ≤ D bs i
  d : D bs bs.length = deep
  le : deep ≤ room
  ev : (room - deep) % 2 = 0
/-- the place that closes the one at k -/
structure Mate (bs : List Bool) (k m : Nat) : Prop where
  lt : k < m
  ml : m < bs.length
  op : bs[k]? = some true
  cl : bs[m]? = some false
  eq : D bs (m + 1) = D bs k
  gt : ∀ i, k < i → i ≤ m → D bs k < D bs i
/-- walking on from an open bracket at k: j is the next place to look at -/
structure Walk (bs : List Bool) (k j : Nat) (deep : Int) : Prop where
  op : bs[k]? = some true
  kj : k ≤ j
  jl : j ≤ bs.length
  d : deep = D bs j - D bs k
  gt : ∀ i, k < i → i < j → D bs k < D bs i
/-- the mates of the open brackets below k, in order -/
structure Mates (bs : List Bool) (k : Nat) (ms : List (Nat × Nat)) : Prop where
  mate : ∀ p ∈ ms, Mate bs p.1 p.2 ∧ p.1 < k
  all : ∀ i, i < k → bs[i]? = some true → ∃ m, (i, m) ∈ ms
  inc : ms.Pairwise (fun p q => p.1 < q.1)
  len : ms.length ≤ k
end Rm

set_option Elab.async false
set_option linter.all false
set_option maxRecDepth 100000
set_option maxHeartbeats 4000000
/-! What the helpers of the texts promise, apart from any one text. -/
namespace L2
open PySem PySem.Spec PyProof.Rows
theorem Fun.okS {P : Program} {w : World} {K : PySem.W.Frag} {mg : Str → Option Value} {base : Heap} {x qual : Str} {st : Stmt} {f : Addr} {fd : FuncData} {N ps : List Str} {k : Nat} {sp : Sp} (F : Fun K x qual st f fd) (S : FnScope N ps (defScope st)) (len : ∀ vs H Q E, sp vs H Q E → vs.length = ps.length)
    (hbody : ∀ (cdv : Value) (A : Around) (outer : List Env) (s : Shared) (H : Hp) (vs : List V) (Q : VK) (E : XK), Room k (A.deeper (envOfC qual (defScope st) s.heap.objs.size f cdv)) → sp vs H Q E →
      ∃ (σ : St) (t : TS), start N vs = σ ∧ PSs (cxOf CX0 P w K mg base N qual (defScope st) f cdv A outer s H E).nox (defBody st) t ∧ t { nx := fun _ H' => Q .non H', rt := Q } σ H) : FnOk P w K mg base CX0 (k + 1) f fd ps sp :=
  F.ok S len fun cdv A outer s H vs Q E hr h => by
    obtain ⟨σ, t, e, h1, h2⟩ := hbody cdv A outer s H vs Q E hr h
    exact ⟨t, h1, by rw [e]; exact h2⟩
theorem hu_64 {A : Around} {k : Nat} (hr : Room k A) : A.units + 64 < cLine := hr.units
end L2
namespace Rm
open PySem L2
/-! ### words -/
def cpB (b : Bool) : Nat := if b then 40 else 41
def wd (bs : List Bool) : Str := ⟨(bs.map cpB).toArray⟩
/-! ### what is a word -/
def scan : List Nat → Int → Bool
  | [], w => decide (w = 0)
  | c :: r, w => if c = 40 then scan r (w + 1) else if c = 41 then (if w - 1 < 0 then false else scan r (w - 1)) else false
def isW (z : Str) : Bool := decide (z.length ≤ 40) && scan z.cps.toList 0
/-! ### bows on the heap -/
abbrev Bw := Int × Int
def tupAt (H : Hp) (a : Addr) (p : Bw) : Prop := H a = some (.tup [.int p.1, .int p.2])
def BowsAt (H : Hp) (l : Addr) (ps : List Bw) : Prop := ∃ as : List Addr, H l = some (.lst (as.map V.ref)) ∧ Paired (tupAt H) as ps
/-! ### bows as plain data -/
def bowD (p : Bw) : PyData := .tuple [.int p.1, .int p.2]
def bowsD (ps : List Bw) : PyData := .list (ps.map bowD)
def crossZ (p q : Bw) : Bool := decide (p.1 < q.1) && (decide (q.1 < p.2) && decide (p.2 < q.2))
def natV (ws : List Nat) : List V := ws.map fun (n : Nat) => V.int (n : Int)
theorem natV_len (ws : List Nat) : (natV ws).length = ws.length := by simp [natV]
theorem natV_snoc (ws : List Nat) (k : Nat) : natV (ws ++ [k]) = natV ws ++ [.int k] := by simp [natV]
theorem natV_drop (ws : List Nat) (k : Nat) : (natV (ws ++ [k])).dropLast = natV ws := by rw [natV_snoc]; simp
theorem natV_last (ws : List Nat) (k : Nat) : (natV (ws ++ [k]))[(natV (ws ++ [k])).length - 1]? = some (.int k) := by rw [natV_snoc]; simp
/-! ### promises -/
def spCell (K : PySem.W.Frag) : Sp := fun vs H Q _ => ∃ (a : Addr) (ns : List Int) (k : Nat), vs = [.ref a, .int k] ∧ SqL K H a (ns.map V.int) ∧ Q (.int (ns.getD k 0)) H
def mixZ (a k : Int) : Int := (a % 10 ^ 20 + 17 * k + k * k * k + 5) * 48271 % 1000003 * 69621 % 999983
def spMix : Sp := fun vs H Q _ => ∃ a k : Int, vs = [.int a, .int k] ∧ 0 ≤ k ∧ k ≤ 1000 ∧ Q (.int (mixZ a k)) H
def spWordBy : Sp := fun vs H Q _ => ∃ c : Int, vs = [.int c] ∧ ∀ bs, Bal bs → bs.length ≤ 40 → Q (.str (wd bs)) H
def msZ (ms : List (Nat × Nat)) : List Bw := ms.map fun p => ((p.1 : Int), (p.2 : Int))
def spMates : Sp := fun vs H Q _ => ∃ bs, vs = [.str (wd bs)] ∧ Bal bs ∧ bs.length ≤ 40 ∧ ∀ l ms H', Mates bs bs.length ms → H l = none → Same H H' → BowsAt H' l (msZ ms) → Q (.ref l) H'
def spBowsBy : Sp := fun vs H Q _ => ∃ c m : Int, vs = [.int c, .int m] ∧ 0 ≤ m ∧ m ≤ 20 ∧ ∀ l ps H', H l = none → Same H H' → BowsAt H' l ps → ps.length ≤ 20 → Q (.ref l) H'
def spCross : Sp := fun vs H Q _ => ∃ a b p q, vs = [.ref a, .ref b] ∧ tupAt H a p ∧ tupAt H b q ∧ Q (.bl (crossZ p q)) H
def spCrossing : Sp := fun vs H Q _ => ∃ l ps, vs = [.ref l] ∧ BowsAt H l ps ∧ ((∀ p ∈ ps, ∀ q ∈ ps, crossZ p q = false) → Q .non H) ∧
  ∀ p ∈ ps, ∀ q ∈ ps, crossZ p q = true → ∀ t a b H', H t = none → Same H H' → H' t = some (.tup [.ref a, .ref b]) → tupAt H' a p → tupAt H' b q → Q (.ref t) H'
def spIsWord (K : PySem.W.Frag) : Sp := fun vs H Q _ => ∃ x : V, vs = [x] ∧ ((∃ z : Str, x = .str z ∧ z.cps.all (· < 128) = true ∧ z.length ≤ 1000 ∧ Q (.bl (isW z)) H) ∨ (∃ t : Value, TyOf K H x t ∧ PySem.W.kitOne K t (.type "str") = some false ∧ Q (.bl false) H))
def spPairs : Sp := fun vs H Q _ => ∃ bs ms, vs = [.str (wd bs)] ∧ Bal bs ∧ bs.length ≤ 40 ∧ Mates bs bs.length ms ∧ ∀ l H', H l = none → Same H H' → BowsAt H' l (msZ ms) → Q (.ref l) H'
def spWhole (K : PySem.W.Frag) : Sp := fun vs H Q _ => ∃ (x : V) (t : Value) (b c : Bool), vs = [x] ∧ TyOf K H x t ∧ PySem.W.kitOne K t (.type "int") = some b ∧ PySem.W.kitOne K t (.type "bool") = some c ∧ Q (.bl (b && !c)) H
def spLaw (K : PySem.W.Frag) : Sp := fun vs H Q _ => ∃ (a : Addr) (ns : List Int), vs = [.ref a] ∧ SqL K H a (ns.map V.int) ∧ ns.length ≤ 63 ∧ ∀ H', Q (.bl true) H'
end Rm

/-! Sorting by asking: whatever is asked is answered by ranks, so the order that comes out rises. -/
namespace Rm
open PySem PySem.W PyProof.Rows
section
variable {r : Nat → Int} {N : Nat} {cmp : Nat → Nat → (Bool → Shared → Prop) → Shared → Prop} {s : Shared}
/-- each two places below N are asked, and the ranks answer -/
def Told (r : Nat → Int) (N : Nat) (cmp : Nat → Nat → (Bool → Shared → Prop) → Shared → Prop) (s : Shared) : Prop :=
  ∀ i j, i < N → j < N → ∀ C : Bool → Shared → Prop, C (decide (r i < r j)) s → cmp i j C s
def In (N : Nat) (p : Array Nat) : Prop := p.size = N ∧ ∀ i, p.getD i 0 < N
def Kk (r : Nat → Int) (p : Array Nat) (i : Nat) : Int := r (p.getD i 0)
def Asc (r : Nat → Int) (p : Array Nat) (k : Nat) : Prop := ∀ i j, i ≤ j → j < k → Kk r p i ≤ Kk r p j
def Des (r : Nat → Int) (p : Array Nat) (k : Nat) : Prop := ∀ i j, i ≤ j → j < k → Kk r p j ≤ Kk r p i
/-- the last q + 1 of the first n rank alike -/
def Tail (r : Nat → Int) (p : Array Nat) (n q : Nat) : Prop := q < n ∧ ∀ k, n - (q + 1) ≤ k → k < n → Kk r p k = Kk r p (n - 1)
/-- what counting the run gives -/
def Cnt (r : Nat → Int) (p : Array Nat) (nrem : Nat) (G : Nat × Array Nat → Shared → Prop) (s : Shared) : Prop := ∀ n p', p'.Perm p → 1 ≤ n → n ≤ nrem → Asc r p' n → G (n, p') s
end
end Rm

set_option Elab.async false
set_option linter.all false
set_option maxRecDepth 100000
set_option maxHeartbeats 4000000
/-! sorted(..) of what ranks tell apart. -/
namespace Rm
open PySem PySem.W PyProof.Rows
section
variable {prog : Program} {w : World} {A : Around} {E : Value → Shared → Prop} {s : Shared}
/-- the order in which the places come out -/
def outOf (vs : List Value) (p : Array Nat) : Array Value := List.toArray (p.toList.map fun i => vs.getD i Value.none)
/-- all but the one at a is kept -/
def Kp (a : Addr) (h h' : Heap) : Prop := ∀ b o, b ≠ a → h.get? b = some o → h'.get? b = some o
end
end Rm

set_option Elab.async false
set_option linter.all false
set_option maxRecDepth 100000
set_option maxHeartbeats 4000000
/-! sorted(..) of a list of bows, and of ints. -/
namespace Rm
open PySem PySem.W PyProof.Rows L2
theorem vals_refs : ∀ {as : List Addr} {us : List Value}, Vals (as.map V.ref) us → us = as.map Value.ref
  | [], _, .nil => rfl
  | a :: as, u :: us, .cons r t => by
    have e : u = Value.ref a := r
    rw [e, vals_refs t]; rfl
/-- a tuple of two ints as it lies in the heap -/
def Two (h : Heap) (a : Addr) (p : Bw) : Prop := ∃ o t u n, h.get? a = some o ∧ o.cls = .type "tuple" ∧ o.data = .seq #[.int p.1 t, .int p.2 u] n
def rankB (p : Bw) : Int := p.1 * 1000 + p.2
def kB : SortKind := tuples' (Value.type "int" != Value.type "tuple")
/-- places told by an array, in a list -/
def pick {α : Type} (d : α) (xs : List α) (p : Array Nat) : List α := p.toList.map fun i => xs.getD i d
def leB (p q : Bw) : Prop := p.1 < q.1 ∨ p.1 = q.1 ∧ p.2 ≤ q.2
def rSortB (K : PySem.W.Frag) : List V → Hp → VK → Prop := fun xs H Q => ∃ (l : Addr) (as : List Addr) (ps : List Bw), xs = [.ref l] ∧ SqL K H l (as.map V.ref) ∧ Paired (tupAt H) as ps ∧ ps.length < 64 ∧ (∀ p ∈ ps, 0 ≤ p.2 ∧ p.2 < 1000) ∧
  ∀ l' as' ps', H l' = none → Paired (tupAt H) as' ps' → ps'.Perm ps → ps'.Pairwise leB → Q (.ref l') (upd H l' (.lst (as'.map V.ref)))
end Rm

set_option Elab.async false
set_option linter.all false
set_option maxRecDepth 100000
set_option maxHeartbeats 4000000
/-! sorted(..) of ints in a list or a tuple; tuple(range(..)); insert. -/
namespace L2
open PySem PySem.W PySem.Spec PyProof.Rows Rm
section
variable {X : Cx}
def rSortQ (K : PySem.W.Frag) : List V → Hp → VK → Prop := fun xs H Q => ∃ (p : Addr) (ns : List Int), xs = [.ref p] ∧ (SqL K H p (ns.map V.int) ∨ SqT K H p (ns.map V.int)) ∧ ns.length < 64 ∧
  ∀ (l : Addr) (ms : List Int), H l = none → ms.Perm ns → ms.Pairwise (· ≤ ·) → Q (.ref l) (upd H l (.lst (ms.map V.int)))
end
/-! ### tuple(range(..)) -/
section
variable {X : Cx}
/-! ### insert -/
def rInsert : V → List V → Hp → VK → Prop := fun x vs H Q => ∃ (l : Addr) (xs : List V) (k : Nat) (y : V), x = .ref l ∧ vs = [.int k, y] ∧ H l = some (.lst xs) ∧ k ≤ xs.length ∧ xs.length ≤ 999 ∧ Q .non (upd H l (.lst (xs.take k ++ y :: xs.drop k)))
end
end L2

set_option Elab.async false
set_option linter.all false
set_option maxRecDepth 100000
set_option maxHeartbeats 4000000
/-! sorted(.., key=f) of a list, f a def of the text that tells an int of each item. -/
namespace Rm
open PySem PySem.W PyProof.Rows L2
section
variable {prog : Program} {w : World} {A : Around} {E : Value → Shared → Prop} {S : Shared}
end
section
variable {X : Cx} {pins : List (Addr × Obj)} {σ : L2.St} {H : Hp} {s : Shared}
end
end Rm
namespace L2
open PySem PySem.W PySem.Spec PyProof.Rows Rm
/-! ### sorted(e, key=f) -/
def tSortK (K : PySem.W.Frag) (sp : Sp) (te : TE) : TE := fun σ H Q => te σ H fun x H1 => ∃ (l : Addr) (xs : List V) (kz : List Int), x = .ref l ∧ SqL K H1 l xs ∧ xs.length < 64 ∧ kz.length = xs.length ∧
  (∀ (i : Nat) x k (Q' : VK), xs[i]? = some x → kz[i]? = some k → Q' (.int k) H1 → sp [x] H1 Q' E0) ∧
  ∀ (l' : Addr) (zs : List (Int × V)), H1 l' = none → zs.Perm (kz.zip xs) → zs.Pairwise (fun a b => a.1 ≤ b.1) → Q (.ref l') (upd H1 l' (.lst (zs.map (·.2))))
section
variable {X : Cx} {k : Nat} {x f : Str} {st : Stmt} {ps : List Str} {sp : Sp} {e : Expr} {te : TE} {p p2 kp pos : Pos}
end
end L2

set_option Elab.async false
set_option linter.all false
set_option maxRecDepth 100000
set_option maxHeartbeats 4000000
/-! [e for k in d if c], d a dict by tuples: it stands still while it is walked. -/
namespace L2
open PySem PySem.Spec PyProof.Rows
section
variable {prog : Program} {w : World} {A : Around} {E : Value → Shared → Prop} {s : Shared}
end
/-! ### the walk -/
def ItD (a : Addr) (o : Obj) (kvs : List (List Key × V)) : It :=
  ⟨fun i H => i < kvs.length ∧ H a = some (.frz o (.dT kvs)), fun i H x H' => H' = H ∧ ∃ k v b, kvs[i]? = some (k, v) ∧ x = .ref b ∧ H b = some (.tup (k.map kV)), fun i H => i = kvs.length ∧ H a = some (.frz o (.dT kvs))⟩
section
variable {X : Cx} {pins : List (Addr × Obj)} {σ : St} {H : Hp} {s : Shared} {a : Addr} {o : Obj} {kvs : List (List Key × V)}
/-! ### the rules -/
def tCompD (k : Nat) (caps : List Nat) (tl : TE) (g : TG) (tf : TT) (te : TE) : TE := fun σ H Q => tl σ H fun x H1 => ∃ (a : Addr) (kvs : List (List Key × V)), x = .ref a ∧ H1 a = some (.dT kvs) ∧
  ∀ o, CompJ (ItD a o kvs) g tf te (fun v H' => H' a = some (.frz o (.dT kvs)) ∧ Q v (upd H' a (.dT kvs))) (initC k caps σ) (upd H1 a (.frz o (.dT kvs)))
theorem w_dget {td ty : TE} {Q : VK} : tDGet td ty σ H Q = td σ H fun x H1 => ty σ H1 fun y H2 => ∃ a v, x = .ref a ∧ DGet H2 a y (some v) ∧ Q v H2 := rfl
theorem w_dput {td ty tv : TE} {D : Ends} : sDPut td ty tv D σ H = tv σ H fun v H1 => td σ H1 fun x H2 => ty σ H2 fun y H3 => ∃ a H4, x = .ref a ∧ DPut H3 a y v H4 ∧ D.nx σ H4 := rfl
theorem w_dnewK {Q : VK} : tDNewK σ H Q = ∀ p, H p = none → Q (.ref p) (upd H p (.dK [])) := rfl
end
end L2

set_option Elab.async false
set_option linter.all false
set_option maxRecDepth 100000
set_option maxHeartbeats 4000000
/-! max(ints, default=d). -/
namespace L2
open PySem PySem.Spec PyProof.Rows
def mxZ (z : Nat → Int) : Nat → Option Int
  | 0 => none
  | i + 1 => some (match mxZ z i with | none => z i | some m => if m < z i then z i else m)
def boA (b : Option Value) : Array Value := match b with | none => #[] | some v => #[v, v]
def boIs (b : Option Value) (m : Option Int) : Prop := match b, m with | none, none => True | some v, some i => ∃ t, v = .int i t | _, _ => False
section
variable {prog : Program} {w : World} {A : Around} {R : Result → Shared → Prop} {I : Addr} {fp wr : List Addr} {n : Nat} {P : Nat → Value → Prop} {St : Nat → Heap → Prop} {z : Nat → Int} {d : Value}
abbrev maxAgain (I S : Addr) (d : Value) : Code := .builtin "max.loop" ⟨[.ref I, .none, .ref S], [("default", d)]⟩
end
def mxS (m : Option Int) (x : Int) : Option Int := match m with | none => some x | some y => some (if y < x then x else y)
/-- the greatest of ints, d of none -/
def maxD (ns : List Int) (d : Int) : Int := (ns.foldl mxS none).getD d
def rMaxD (K : PySem.W.Frag) : V → V → Hp → VK → Prop := fun x y H Q => ∃ (p : Addr) (ns : List Int) (d : Int), x = .ref p ∧ y = .int d ∧ SqL K H p (ns.map V.int) ∧ Q (.int (maxD ns d)) H
section
variable {X : Cx}
theorem hu_1 {A : Around} {k : Nat} (hr : Room k A) : A.units + 1 < cLine := by have := hr.units; omega
end
end L2

set_option Elab.async false
set_option linter.all false
set_option maxRecDepth 100000
set_option maxHeartbeats 4000000
/-! Exceptions of one's own: raised in a def, in flight, caught. -/
namespace L2
open PySem PySem.Spec PyProof.Rows
/-- the exception at e has no context -/
def CtD (dO : Option Addr) (e : Addr) (h : Heap) : Prop := ∃ o vs, h.get? e = some o ∧ (o.dict = dO ∧ o.data = .fields vs) ∧ vs[2]? = some .none
abbrev Ct0 (e : Addr) (h : Heap) : Prop := CtD none e h
structure Pres {α : Type} (I : Heap → Prop) (t : Sem α) : Prop where
  out : ∀ (M : Model) (Γ : PySem.Ctx) (P : α → Pos → Shared → Prop) (E : Value → Pos → Shared → Prop) (p : Pos) (s : Shared), I s.heap → Sem.wp M Γ t P E p s → Sem.wp M Γ t (fun a p' s' => P a p' s' ∧ I s'.heap) E p s
section
variable {α β : Type} {I : Heap → Prop}
theorem Pres.pure (a : α) : Pres I (Pure.pure a : Sem α) := ⟨fun M Γ P E p s i h => ⟨h, i⟩⟩
theorem Pres.un (w : String) : Pres I (unsupported w : Sem α) := ⟨fun M Γ P E p s i h => False.elim h⟩
theorem Pres.load (a : Addr) : Pres I (load a) := ⟨fun M Γ P E p s i ⟨o, e, h⟩ => ⟨o, e, h, i⟩⟩
theorem Pres.stack : Pres I stack := ⟨fun M Γ P E p s i h => ⟨h, i⟩⟩
theorem Pres.update {a : Addr} {f : Obj → Obj} (k : ∀ h, I h → I (h.update a f)) : Pres I (update a f) := ⟨fun M Γ P E p s i ⟨e, h⟩ => ⟨e, h, k _ i⟩⟩
theorem Pres.alloc {o : Obj} (k : ∀ h, I h → I (h.push o)) : Pres I (alloc o) := ⟨fun M Γ P E p s i h => ⟨h, k _ i⟩⟩
theorem Pres.bind {m : Sem α} {f : α → Sem β} (hm : Pres I m) (hf : ∀ a, Pres I (f a)) : Pres I (m >>= f) := ⟨fun M Γ P E p s i h => by
  have h' : Sem.wp M Γ (m.bind f) P E p s := h
  show Sem.wp M Γ (m.bind f) _ E p s
  rw [Sem.wp_bind] at h' ⊢
  exact Sem.wp_mono M Γ m (fun a p' s' ⟨h1, i1⟩ => (hf a).out M Γ P E p' s' i1 h1) (fun _ _ _ z => z) _ _ (hm.out M Γ _ E p s i h')⟩
theorem Pres.ite {c : Prop} [Decidable c] {a b : Sem α} (ha : Pres I a) (hb : Pres I b) : Pres I (if c then a else b) := by split <;> assumption
theorem Pres.newObjT {T : String} {vs : List Value} (k : ∀ h o, I h → I (h.push o)) : Pres I (newFields T vs) := by
  unfold newFields newObj
  exact Pres.ite (.bind (.un _) fun _ => .bind (.alloc fun h i => k h _ i) fun a => .pure _) (.bind (.alloc fun h i => k h _ i) fun a => .pure _)
end
theorem ct_push {dO : Option Addr} {e : Addr} {h : Heap} {o : Obj} (c : CtD dO e h) : CtD dO e (h.push o) := by
  obtain ⟨ob, vs, e1, e2, e3⟩ := c
  exact ⟨ob, vs, Heap.get?_push_of_some _ e1, e2, e3⟩
theorem ct_upd {dO : Option Addr} {e a : Addr} {h : Heap} {f : Obj → Obj} (k : ∀ o vs, o.dict = dO ∧ o.data = .fields vs → vs[2]? = some Value.none → ∃ ws, ((f o).dict = dO ∧ (f o).data = .fields ws) ∧ ws[2]? = some Value.none) (c : CtD dO e h) : CtD dO e (h.update a f) := by
  obtain ⟨ob, vs, e1, e2, e3⟩ := c
  by_cases z : a = e
  · subst z
    obtain ⟨ws, e4, e5⟩ := k ob vs e2 e3
    exact ⟨_, ws, Heap.get?_update_self f e1 (by clear e5; revert e4; generalize f ob = z; intro ⟨_, e4⟩; obtain ⟨c, d, da, sl⟩ := z; cases e4; rfl), e4, e5⟩
  · exact ⟨ob, vs, Heap.get?_update_of_ne f z e1, e2, e3⟩
theorem Pres.setField {dO : Option Addr} {e : Addr} {v x : Value} {i : Nat} (hi : i ≠ 2) : Pres (CtD dO e) (PySem.setField v i x) := by
  unfold PySem.setField
  split
  · unfold updateField
    refine .bind (.load _) fun o => ?_
    split
    · refine .ite (.update fun h c => ct_upd (fun o vs e1 e2 => ?_) c) (.un _)
      obtain ⟨c, d, da, sl⟩ := o
      obtain ⟨e0, e1⟩ := e1
      cases e1
      refine ⟨_, ⟨e0, rfl⟩, ?_⟩
      rw [Array.getElem?_setIfInBounds, if_neg hi]; exact e2
    · exact .un _
  · exact .un _
theorem Pres.field {I : Heap → Prop} {v : Value} {i : Nat} : Pres I (PySem.field v i) := by
  unfold PySem.field fieldsOf
  refine .bind ?_ fun vs => ?_
  · split
    · refine .bind (.load _) fun o => ?_
      split
      · exact .pure _
      · exact .un _
    · exact .un _
  · split
    · exact .pure _
    · exact .un _
theorem Pres.ready {dO : Option Addr} {e : Addr} : ∀ l : List Env, Pres (CtD dO e) (readyFrames l)
  | [] => .pure _
  | env :: outer => by
    unfold readyFrames
    split
    · refine .bind (.load _) fun o => .ite (.pure _) (.bind ?_ fun b => .bind ?_ fun c => .bind (.update fun h c => ct_upd (fun o vs e1 e2 => ⟨vs, e1, e2⟩) c) fun _ => Pres.ready outer)
      · unfold behindIsImport
        exact .ite (.pure _) (.ite (.pure _) (.bind .field fun _ => .pure _))
      · unfold keptBack
        split
        · refine .ite (.pure _) (.bind ?_ fun _ => .pure _)
          unfold underTheClaimsCaller
          exact .bind .stack fun _ => .pure _
        · exact .pure _
    · exact .un _
theorem Pres.note {dO : Option Addr} {e : Addr} {v : Value} {env : Env} : Pres (CtD dO e) (noteFrame v env) := by
  have jp : ∀ (f : Addr) (head : Value), Pres (CtD dO e) (do
      let a ← PySem.frameOf env
      let b ← entryPlaceOf f (head != Value.none)
      let c ← EntryCells.newEntry head a Value.none (rawInt ↑f) Value.none b
      PySem.setField v 1 c) := fun f head => by
    refine .bind ?_ fun a => .bind ?_ fun b => .bind ?_ fun c => .setField (by decide)
    · unfold PySem.frameOf frameEnvs
      refine .bind (.bind .stack fun _ => .pure _) fun l => .bind ?_ fun o => ?_
      · unfold frameObject
        split
        · exact .pure _
        · exact .bind (Pres.ready _) fun _ => .pure _
      · split
        · exact .pure _
        · exact .un _
    · unfold entryPlaceOf
      refine .bind .stack fun acts => ?_
      split
      · exact .pure _
      · exact .pure _
    · unfold EntryCells.newEntry
      exact .newObjT fun h o c => ct_push c
  unfold noteFrame
  split
  · refine .bind .field fun head => ?_
    refine .ite (.bind .field fun x => .ite (.pure _) (.bind (.setField (by decide)) fun _ => jp _ _)) (jp _ _)
  · exact .un _
theorem Pres.flight {dO : Option Addr} {e : Addr} {v : Value} {fr : Option Addr} : Pres (CtD dO e) (setFlight v fr) := by
  unfold setFlight
  exact .bind .field fun tb => .ite (.setField (by decide)) (.pure _)
theorem Pres.leave {dO : Option Addr} {e : Addr} {v : Value} {env : Env} : Pres (CtD dO e) (leaving env v) := by
  unfold leaving
  exact .bind .note fun _ => .flight
theorem Pres.any {α : Type} {I : Heap → Prop} {t : Sem α} (p : Pres I t) {M : Model} {A : Around} {Q : α → Shared → Prop} {E : Value → Shared → Prop} {s : Shared} (i : I s.heap) (h : wpAny M A t Q E s) : wpAny M A t (fun a s' => Q a s' ∧ I s'.heap) E s :=
  fun Γ q hΓ => p.out M Γ _ _ q s i (h Γ q hΓ)
theorem wpAny_pres {α : Type} {I : Heap → Prop} {t : Sem α} (p : Pres I t) {M : Model} {A : Around} {Q : α → Shared → Prop} {E : Value → Shared → Prop} {s : Shared} (i : I s.heap) (h : wpAny M A t (fun a s' => I s'.heap → Q a s') E s) : wpAny M A t Q E s :=
  wpAny_mono (p.any i h) (fun _ _ ⟨q, c⟩ => q c) fun _ _ z => z
theorem made_ct {h h' : Heap} {e : Addr} {cls : Value} {vs : List Value} (M : h.MadeExcOf h' e cls vs) : Ct0 e h' := by
  obtain ⟨t, e1, _⟩ := M.there
  exact ⟨_, _, e1, ⟨rfl, rfl⟩, rfl⟩
theorem ObjOk.ex {P : Program} {w : World} {H : Hp} {h : Heap} {a : Addr} {o : HO} (x : ObjOk P w H h a o) : ∃ ob, h.get? a = some ob := by
  cases o with
  | lst xs => obtain ⟨_, _, _, _, e⟩ := x; exact ⟨_, e⟩
  | tup xs => obtain ⟨_, _, _, ob, e, _⟩ := x; exact ⟨_, e⟩
  | dK kvs => obtain ⟨_, _, _, _, o, _, _, e, _⟩ := x; exact ⟨_, e⟩
  | dT kvs => obtain ⟨_, _, _, _, o, _, _, e, _⟩ := x; exact ⟨_, e⟩
  | set S n => obtain ⟨o, _, _, _, e, _⟩ := x; exact ⟨_, e⟩
  | ins C dx fs => obtain ⟨_, _, _, e, _⟩ := x; exact ⟨_, e⟩
  | own y => exact x
  | xd fs => obtain ⟨_, ⟨_, _, _, e, _⟩, _⟩ := x; exact ⟨_, e⟩
  | rng lo hi => obtain ⟨_, _, _, e⟩ := x; exact ⟨_, e⟩
  | frz ob u => obtain ⟨e, _⟩ := x; exact ⟨_, e⟩
  | tbl ps => exact ⟨_, show h.get? a = some _ from x⟩
  | met f y => exact ⟨_, show h.get? a = some _ from x⟩
  | ext φ => obtain ⟨_, e, _⟩ := x; exact e
/-- while an exception flies a heap B stays: it holds what was there ahead of the call, but for the callers' frames, and what is tracked -/
structure Cov (B h : Heap) (H' : Hp) (outer : List Env) : Prop where
  old : ∀ b o, h.get? b = some o → b ∉ frs outer → ∃ o', B.get? b = some o'
  trk : ∀ b u, H' b = some u → ∃ o', B.get? b = some o'
/-- how an exception of an own class lies behind a call -/
def CXx (P : Program) (w : World) : CXT := fun outer H s E e s' => ∃ (a C t : Addr) (H' : Hp) (B : Heap) (dO : Option Addr), e = .ref a ∧ s'.os = s.os ∧ AllBare s'.gens ∧ Un (frs outer) [] H H' s.heap s'.heap ∧ HOk P w H' s'.heap ∧
  B.FlyingW outer a (.ref C) (.ref t) s'.heap ∧ Cov B s.heap H' outer ∧ CtD dO a s'.heap ∧ E (.ref C) dO H'
theorem funs_rebase {h base B : Heap} : ∀ {l : List Env}, h.FunFrames base l → (∀ b ∈ frs l, B.get? b = none) → h.FunFrames B l
  | [], _, _ => trivial
  | env :: r, ⟨hk, ⟨L, o, hf, hn, ho, hd⟩, hr⟩, hb => ⟨hk, ⟨L, o, hf, hb L (by unfold frs; rw [List.filterMap_cons, hf]; exact List.mem_cons_self), ho, hd⟩,
      funs_rebase hr fun b m => hb b (by unfold frs; rw [List.filterMap_cons, hf]; exact List.mem_cons_of_mem _ m)⟩
/-- a body from which exceptions of E leave -/
def Rais (X : Cx) (E : XK) : Prop := ∀ (pins : List (Addr × Obj)) (σ : St) (H : Hp) (s : Shared) (h' : Heap) (e C : Addr) (vs : List Value), Inv X pins σ H s → s.heap.MadeExcOf h' e (.ref C) vs → E (.ref C) none H → X.xe (.ref e) { s with heap := h' }
theorem rais_def {P : Program} {w : World} {K : PySem.W.Frag} {mg : Str → Option Value} {base : Heap} {N : List Str} {qual : Str} {scope : Scope} {f : Addr} {cd : Value} {A : Around} {outer : List Env} {s0 : Shared} {H0 : Hp} {E : XK} :
    Rais (cxOf (CXx P w) P w K mg base N qual scope f cd A outer s0 H0 E) E := by
  intro pins σ H s h' e C vs I M hE
  generalize hX : cxOf (CXx P w) P w K mg base N qual scope f cd A outer s0 H0 E = X at I ⊢
  have hst : X.stack = X.env :: X.outer := by rw [← hX]; rfl
  have hfr : X.env.frame = some X.env.locals := by rw [← hX]; rfl
  have hxe : X.xe = fun e s' => wpAny (model X.prog X.w) X.A (leaving X.env e) (fun _ s'' => CXx X.prog X.w X.outer X.H₀ X.s₀ E e s'') (fun e' s'' => CXx X.prog X.w X.outer X.H₀ X.s₀ E e' s'') s' := by rw [← hX]; rfl
  have hex : X.ex = [] := by rw [← hX]; rfl
  have hfs : frs X.stack = X.env.locals :: X.fs := by rw [hst]; unfold frs; rw [List.filterMap_cons, hfr]; rfl
  clear hX
  rw [hxe]
  have hB : ∀ b o, s.heap.get? b = some o → b ∉ frs X.stack → (PySem.W.hideAll s.heap (frs X.stack)).get? b = some o := fun b o e1 e2 => PySem.W.hideAll_get _ e1 e2
  refine wpAny_pres (Pres.leave (dO := none) (e := e)) (made_ct M) ?_
  refine wpAny_leaves_madeW (base := PySem.W.hideAll s.heap (frs X.stack)) (h := s.heap) (outer := X.outer) (L := X.env.locals) (by rw [I.ok.frames, hst]) hfr (fun b o e1 => PySem.W.of_hideAll _ e1)
    (funs_rebase (hst ▸ I.stack) fun b m => PySem.W.hideAll_none _ (hst ▸ m)) M fun h2 t fl _ _ up ct => ?_
  have lt0 : ∀ b o, X.s₀.heap.get? b = some o → b ≠ X.env.locals := fun b o e1 => Nat.ne_of_lt (Nat.lt_of_lt_of_le (Heap.lt_size e1) I.ok.above)
  have out : ∀ b o, X.s₀.heap.get? b = some o → b ∉ X.fs → b ∉ frs X.stack := fun b o e1 e2 z => by
    rw [hfs] at z
    exact (List.mem_cons.mp z).elim (lt0 b o e1) e2
  have ne : ∀ b, b ∉ X.ex := fun b z => by rw [hex] at z; cases z
  have stay := fl.1
  have slot : ∀ b o, s.heap.get? b = some o → b ∈ X.fs → ∃ sl, h2.get? b = some { o with slots := sl } := fun b o e1 m => by
    obtain ⟨_, o', e2, nf⟩ := I.funs.mem m
    rw [e1] at e2
    cases e2
    obtain ⟨sl, q⟩ := up b o (M.keeps b o e1) nf
    exact ⟨sl, q⟩
  have u := I.base
  rw [hex] at u
  refine ⟨e, C, t, H, _, none, rfl, I.os, I.bare, ⟨fun b o e1 e2 e3 e4 => ?_, fun b o e1 e2 e3 e4 => ?_, u.free, fun b o e1 e2 => ?_, u.tups, u.frzs, u.tbls⟩, fun b o e1 => ?_, fl, ⟨fun b o e1 e2 => ?_, fun b o e1 => ?_⟩, ct, hE⟩
  · exact stay b o (hB b o (u.keep b o e1 e2 e3 e4) (out b o e1 e3))
  · obtain ⟨sl, q⟩ := u.slot b o e1 e2 e3 e4
    obtain ⟨sl', q'⟩ := slot b _ q e3
    exact ⟨sl', q'⟩
  · obtain ⟨o', q⟩ := u.there b o e1 e2
    by_cases m : b ∈ X.fs
    · obtain ⟨sl, q'⟩ := slot b o' q m
      exact ⟨_, q'⟩
    · exact ⟨o', stay b o' (hB b o' q (out b o e1 m))⟩
  · refine (I.hok b o e1).stay (fun c v hc q => stay c v (hB c v q fun z => ?_)) (fun _ q => q) fun _ _ q => q
    have n := I.stkFree c z
    rcases hc with r | r
    · rw [r, e1] at n; cases n
    · rw [r] at n; cases n
  · obtain ⟨o', q⟩ := u.there b o e1 (by simp)
    exact ⟨o', hB b o' q (out b o e1 e2)⟩
  · obtain ⟨ob, q⟩ := (I.hok b o e1).ex
    refine ⟨ob, hB b ob q fun z => ?_⟩
    have n := I.stkFree b z
    rw [e1] at n; cases n
theorem tail_has {h : Heap} {bmB : List Value} {v : Value} (hv : bmB.contains v = true) : ∀ {l : List Value}, OwnTail h bmB l → l.contains v = true
  | _, .base => hv
  | _, .own _ _ _ t => by rw [List.contains_cons, tail_has hv t, Bool.or_true]
theorem ns_keeps {h h' : Heap} (k : ∀ b o, h.get? b = some o → h'.get? b = some o) {N : Addr} {m : Str → Option Value} (x : h.Ns N m) : h'.Ns N m := by
  obtain ⟨o, es, ep, ho, r⟩ := x
  exact ⟨o, es, ep, k _ _ ho, r⟩
theorem tail_keeps {h h' : Heap} (k : ∀ b o, h.get? b = some o → h'.get? b = some o) {bmB : List Value} : ∀ {l : List Value}, OwnTail h bmB l → OwnTail h' bmB l
  | _, .base => .base
  | _, .own a b c t => .own (k _ _ a) (ns_keeps k b) c (tail_keeps k t)
def tRaise (C : Addr) (E : XK) (t : TA) : TS := fun _ σ H => t σ H fun vs H1 => vs.length ≤ sizeLine ∧ E (.ref C) none H1
section
variable {X : Cx}
theorem ps_raise {x : Str} {C : Addr} {bmB : List Value} {B newId initId : String} {E : XK} {e : Expr} {es : List Expr} {t : TA} {np cpos pos : Pos} (R : Rais X E) (O : OwnCls x C bmB newId X.mg X.base) (F : ExcBaseFacts B newId initId bmB) (hc : X.calm = true) (hg : Gl X x) (ha : PA X (e :: es) t)
    (hdb : (x == ("__debug__" : Str)) = false := by decide) (he : starEach (e :: es) X.env = (false, eval e X.env) :: starEach es X.env := by rfl) (hpl : (backTo cpos (starEach es X.env)).any (·.1) = false := by rfl) :
    PS X (.Raise (some (.Call (.Name x np) (e :: es) [] cpos)) none pos) (tRaise C E t) := by
  intro pins s σ H D I h
  obtain ⟨bm, N, nm, q, bs, hdct, sn, sub, ab, col, dd, k0, k1, k2, k3, k5, mN, hC, hN, hi, ot⟩ := O.obj
  have eq : backTo cpos (starEach (e :: es) X.env) = (false, eval e X.env) :: backTo cpos (starEach es X.env) := by rw [he]; rfl
  have hb : (backTo cpos (starEach (e :: es) X.env)).any (·.1) = false := by rw [eq, List.any_cons, hpl]; rfl
  refine wpAny_Raise_call_subT (nm := nm) (q := q) (N := N) (bs := bs) (hdct := hdct) (sn := sn) (sub := sub) (ab := ab) (col := col) (dd := dd) (k0 := k0) (k1 := k1) (k2 := k2) (k3 := k3) (k5 := k5) F (tail_has F.hasBase ot) (I.ok.hd hc) hb hi (ld_glob I hg O.bound ⟨rfl, ?_⟩ hdb)
  have pl := ha cpos pins s σ H _ I h
  rw [eq] at pl ⊢
  refine Calls.evalArgs_plain (thn pl fun us s1 ⟨vs, H1, I1, r, z, q1⟩ => ⟨rfl, by rw [← r.length]; exact z, I1.bk _ _ hC, ns_keeps I1.bk hN, tail_keeps I1.bk ot, fun h' a M => R pins σ H1 s1 h' a C us I1 M q1⟩)
end
/-! ### caught -/
/-- an exception that was caught -/
def excD (dO : Option Addr) (C a : Addr) : HO := .ext fun h => (∃ o, h.get? a = some o ∧ o.cls = .ref C) ∧ CtD dO a h
abbrev excO (C a : Addr) : HO := excD none C a
/-- within an except suite -/
def Cx.exc (X : Cx) (a : Addr) : Cx := { X with A := X.A.mark (some (.ref a)), calm := false, xe := fun _ _ => False }
section
variable {X : Cx} {pins : List (Addr × Obj)} {σ : St} {H H' : Hp} {s s' : Shared}
theorem Cx.Ok.exc (ok : X.Ok) (a : Addr) : (X.exc a).Ok :=
  ⟨ok.mod, ok.kind, ok.glob, ok.blt, ok.above, ok.inj, ok.has, ok.cab, (fun z => nomatch z), ok.frames, ok.stk, ok.exf, ok.bs, ok.bsz, ok.noex, ok.exfs, ok.funs, ok.frf⟩
theorem Inv.exc (I : Inv X pins σ H s) (a : Addr) : Inv (X.exc a) pins σ H s := ⟨I.ok.exc a, I.os, I.bare, I.base, I.loc, I.cell, I.free, I.freeC, I.pin, I.hok, I.len⟩
theorem Inv.unexc {a : Addr} (I : Inv (X.exc a) pins σ H s) (ok : X.Ok) : Inv X pins σ H s := ⟨ok, I.os, I.bare, I.base, I.loc, I.cell, I.free, I.freeC, I.pin, I.hok, I.len⟩
theorem UpToSlots.trans {h1 h2 h3 : Heap} (a : h1.UpToSlots h2) (b : h2.UpToSlots h3) : h1.UpToSlots h3 := fun c o e nf => by
  obtain ⟨sl, e1⟩ := a c o e nf
  obtain ⟨sl', e2⟩ := b c _ e1 nf
  exact ⟨sl', e2⟩
/-- behind the landing -/
theorem Inv.land {dO : Option Addr} {B : Heap} {a C t : Addr} {h4 : Heap} {E : XK} (I : Inv X pins σ H s) (os : s'.os = s.os) (bare : AllBare s'.gens) (un : Un (frs X.stack) [] H H' s.heap s'.heap) (hok : HOk X.prog X.w H' s'.heap) (f1 : B.FlyingW X.stack a (.ref C) (.ref t) s'.heap)
    (cov : Cov B s.heap H' X.stack) (f4 : B.FlyingW X.stack a (.ref C) (.ref t) h4) (up : s'.heap.UpToSlots h4) (ct : CtD dO a h4) : Inv X pins σ (upd H' a (excD dO C a)) { s' with heap := h4 } := by
  have Bn : B.get? a = none := f1.2.1
  have ntr : ∀ b u, H' b = some u → b ≠ a := fun b u e z => by
    obtain ⟨o, q⟩ := cov.trk b u e
    rw [z, Bn] at q; cases q
  have na : ∀ b o, s.heap.get? b = some o → b ≠ a := fun b o e z => by
    subst z
    by_cases m : b ∈ frs X.stack
    · obtain ⟨_, o1, e1, nf⟩ := f4.2.2.1.mem m
      obtain ⟨oe, vs, _, _, _, e2, _, e3, _⟩ := f4.2.2.2
      rw [e1] at e2; cases e2
      exact nf vs e3
    · obtain ⟨o', q⟩ := cov.old b o e m
      rw [Bn] at q; cases q
  have fr : ∀ b o, s'.heap.get? b = some o → b ∈ frs X.stack → ∃ sl, h4.get? b = some { o with slots := sl } := fun b o e m => by
    obtain ⟨_, o1, e1, nf⟩ := f1.2.2.1.mem m
    rw [e] at e1; cases e1
    exact up b o e nf
  have same : ∀ b o ob, B.get? b = some ob → s'.heap.get? b = some o → h4.get? b = some o := fun b o ob e e1 => by
    have e2 := f1.1 b ob e
    rw [e1] at e2; cases e2
    exact f4.1 b o e
  refine I.call' (s' := { s' with heap := h4 }) (ch := []) os ⟨fun b o e n hb _ => ?_, fun b o e n hb hx => ?_, fun b o e n hx => ?_, fun b o e hx => ?_, fun b xs e => ?_, fun b o u e => ?_, fun b ps e => ?_⟩ (fun b o e => ?_) bare (fun b z => nomatch z)
  · have e1 := un.keep b o e n hb (by simp)
    obtain ⟨ob, q⟩ := cov.old b o e hb
    exact same b o ob q e1
  · obtain ⟨sl, e1⟩ := un.slot b o e n hb (by simp)
    obtain ⟨sl', e2⟩ := fr b _ e1 hb
    exact ⟨sl', e2⟩
  · rw [upd_ne (na b o e)]; exact un.free b o e n (by simp)
  · obtain ⟨o', e1⟩ := un.there b o e (by simp)
    by_cases m : b ∈ frs X.stack
    · obtain ⟨sl, q⟩ := fr b o' e1 m
      exact ⟨_, q⟩
    · obtain ⟨ob, q⟩ := cov.old b o e m
      exact ⟨_, f4.1 b ob q⟩
  · have e1 := un.tups b xs e
    rw [upd_ne (ntr b _ e1)]; exact e1
  · have e1 := un.frzs b o u e
    rw [upd_ne (ntr b _ e1)]; exact e1
  · obtain ⟨more, e1⟩ := un.tbls b ps e
    exact ⟨more, by rw [upd_ne (ntr b _ e1)]; exact e1⟩
  · by_cases z : b = a
    · subst z
      rw [upd_same] at e
      cases e
      obtain ⟨oe, _, _, _, _, e2, ⟨e3, _⟩, _⟩ := f4.2.2.2
      refine ⟨⟨⟨oe, e2, e3⟩, ct⟩, ⟨oe, e2⟩, fun h1 h2 ⟨⟨o, e5, e6⟩, ⟨o', vs, e7, e8⟩⟩ k => ⟨⟨o, k o e5, e6⟩, ⟨o', vs, k o' e7, e8⟩⟩⟩
    · rw [upd_ne z] at e
      refine (hok b o e).stay (fun c v hc q => ?_) (fun c q => by rw [upd_ne (ntr c _ q)]; exact q) fun c xs q => by rw [upd_ne (ntr c _ q)]; exact q
      obtain ⟨ob, q'⟩ : ∃ ob, B.get? c = some ob := by
        rcases hc with r | r
        · rw [r]; exact cov.trk b o e
        · exact cov.trk c _ r
      exact same c v ob q' q
end
/-- the name of the clause goes -/
theorem goes_ok {X : Cx} {pins : List (Addr × Obj)} {σ : St} {H : Hp} {s : Shared} {M : Model} {A : Around} {E : Value → Shared → Prop} {i : Nat} {n : Str} {pos : Pos} {Q : Unit → Shared → Prop} (I : Inv X pins σ H s) (hN : X.N.Nodup) (hi : X.N[i]? = some n) (hx : X.env.scope.names.lookup n = some .local)
    (h : ∀ s', Inv X pins (σ.set i none) H s' → Q () s') : wpAny M A (do bindName X.env n Value.none; unbindBehindTheSuite X.env n pos) Q E s := by
  obtain ⟨m, hn, hl⟩ := id I.loc
  have hcls : (X.env.scope.kind == .class || (X.env.scope.kind == .module && X.env.locals != X.env.globals)) = false := by rw [I.ok.kind]; rfl
  have cne := I.cne
  refine wpAny_nameGoes_keeps hx hn hcls fun h' v hn' hs => ?_
  obtain ⟨oL, _, _, hoL, _⟩ := id hn
  refine h _ ⟨I.ok, I.os, I.bare, ⟨fun b o e n hb hx => ?_, fun b o e n hb hx => ?_, I.base.free, fun b o e hx => ?_, I.base.tups, I.base.frzs, I.base.tbls⟩, ⟨_, hn', fun j y v' e1 e2 e3 => ?_⟩, fun y c e => ?_, I.free, I.freeC, fun p hp => ?_, fun b ob e => ?_, by simpa using I.len⟩
  · exact (hs.2 b (Nat.ne_of_lt (Nat.lt_of_lt_of_le (Heap.lt_size e) I.ok.above))).trans (I.base.keep b o e n hb hx)
  · obtain ⟨sl, e1⟩ := I.base.slot b o e n hb hx
    exact ⟨sl, (hs.2 b (Nat.ne_of_lt (Nat.lt_of_lt_of_le (Heap.lt_size e) I.ok.above))).trans e1⟩
  · obtain ⟨o', e1⟩ := I.base.there b o e hx
    exact ⟨o', (hs.2 b (Nat.ne_of_lt (Nat.lt_of_lt_of_le (Heap.lt_size e) I.ok.above))).trans e1⟩
  · have hj : j ≠ i := fun z => by
      subst z
      have : j < σ.length := by rw [I.len]; exact (List.getElem?_eq_some_iff.mp e1).1
      rw [List.getElem?_set_self this] at e2
      cases e2
    rw [List.getElem?_set_ne (Ne.symm hj)] at e2
    obtain ⟨u', r', q⟩ := hl j y v' e1 e2 e3
    refine ⟨u', r', ?_⟩
    rcases q with ⟨k, e⟩ | ⟨k, c, e, z⟩
    · refine .inl ⟨k, ?_⟩
      have : y ≠ n := fun e => hj (nodup_ix hN e1 (e ▸ hi))
      simp [this, e]
    · exact .inr ⟨k, c, e, z.sameBut hs (cne y c e)⟩
  · obtain ⟨w', z⟩ := I.cell y c e
    exact ⟨w', z.sameBut hs (cne y c e)⟩
  · obtain ⟨e, n, ne, nf, d⟩ := I.pin p hp
    exact ⟨(hs.2 p.1 ne).trans e, n, ne, nf, d⟩
  · refine (I.hok b ob e).stay (fun c w' hc q => (hs.2 c ?_).trans q) (fun _ q => q) fun _ _ q => q
    rintro rfl
    have hfree := I.free
    rcases hc with rfl | hc
    · rw [hfree] at e; cases e
    · rw [hfree] at hc; cases hc
/-- try: f(..) except C as n: suite -/
def tTry (sp : Sp) (K : PySem.W.Frag) (c : Value) (i : Nat) (t : TA) (ts : Addr → TS) : TS := fun D σ H => t σ H fun vs H1 => sp vs H1 (fun _ H2 => D.nx σ H2) fun cls dO H2 =>
  ∃ C, cls = .ref C ∧ PySem.W.exmOne K (.ref C) c = some true ∧ ∀ a, H2 a = none → ts a { nx := fun σ' H' => D.nx (σ'.set i none) H', rt := D.rt, bk := fun σ' H' => D.bk (σ'.set i none) H', ct := fun σ' H' => D.ct (σ'.set i none) H' } (σ.set i (some (.ref a))) (upd H2 a (excD dO C a))
theorem ps_try {X : Cx} {k : Nat} {f : Addr} {fd : FuncData} {ps : List Str} {sp : Sp} {x cx n : Str} {c : Value} {i : Nat} {e : Expr} {es : List Expr} {b₀ : Stmt} {suite : List Stmt} {t : TA} {ts : Addr → TS} {p cpos epos np hpos pos : Pos}
    (hst : X.stack = X.env :: X.outer) (hfr : X.env.frame = some X.env.locals) (F : FnOk X.prog X.w X.K X.mg X.base (CXx X.prog X.w) k f fd ps sp) (hr : Room k X.A) (hg : Gl X x) (hm : X.mg x = some (.ref f)) (hk : PySem.W.keepIn X.K (.ref f) = true) (hb : Binds X.K fd ps [])
    (ha : PA X.nox (e :: es) t) (hgc : Gl X cx) (hmc : X.mg cx = some c) (hN : X.N.Nodup) (hi : X.N[i]? = some n) (hl : X.env.scope.names.lookup n = some .local) (hs : ∀ a, PSs (X.exc a) (b₀ :: suite) (ts a))
    (hdb : (x == ("__debug__" : Str)) = false := by decide) (hdc : (cx == ("__debug__" : Str)) = false := by decide) (he : starEach (e :: es) X.env = (false, eval e X.env) :: starEach es X.env := by rfl) (hpl : (backTo cpos (starEach es X.env)).any (·.1) = false := by rfl) :
    PS X (.Try [.Expr (.Call (.Name x p) (e :: es) [] cpos) epos] [.ExceptHandler (some (.Name cx np)) (some n) (b₀ :: suite) hpos] [] [] pos) (tTry sp X.K c i t ts) := by
  intro pins s σ H D I h
  generalize hE : (fun (cls : Value) (dO : Option Addr) (H2 : Hp) => ∃ C, cls = Value.ref C ∧ PySem.W.exmOne X.K (.ref C) c = some true ∧ ∀ a, H2 a = none → ts a { nx := fun σ' H' => D.nx (σ'.set i none) H', rt := D.rt, bk := fun σ' H' => D.bk (σ'.set i none) H', ct := fun σ' H' => D.ct (σ'.set i none) H' } (σ.set i (some (.ref a))) (upd H2 a (excD dO C a))) = E1
  have h' : t σ H fun vs H1 => sp vs H1 (fun _ H2 => D.nx σ H2) E1 := by rw [← hE]; exact h
  have run : wpAny (model X.prog X.w) X.A (eval (.Call (.Name x p) (e :: es) [] cpos) X.env) (EP X pins σ fun _ H2 => D.nx σ H2) (fun ev s' => ∃ H1 s1, Inv X pins σ H1 s1 ∧ CXx X.prog X.w X.stack H1 s1 E1 ev s') s := by
    refine wpAny_Call_Name_kw (ld_glob I hg hm ?_ hdb)
    refine PySem.W.callWith_K (h₀ := X.base) I.ok.mod.kin hk (wpAny_mono (ha cpos pins s σ H _ (I.wish _) h') (fun us s1 ⟨vs, H1, I1, r, q⟩ => ⟨I1.kIn, ?_⟩) fun _ _ z => False.elim z) he hpl
    have I1 := I1.unwish
    have r2 : Vals (vs ++ []) (us ++ []) := r.append .nil
    have q2 : sp (vs ++ []) H1 (fun _ H2 => D.nx σ H2) E1 := by rw [List.append_nil]; exact q
    have hlen : (us ++ []).length = ps.length := by rw [← r2.length]; exact F.len _ _ _ _ q2
    refine wpAny_call (codeAny_mono (F.run X.A X.stack s1 H1 ⟨us, []⟩ (us ++ []) (vs ++ []) _ E1 hr I1.env0 (hb s1 us I1.kIn hlen) r2 q2) fun r s' hq => ?_)
    cases r with
    | error ev => exact ⟨H1, s1, I1, hq⟩
    | ok fl =>
      cases fl with
      | ret u => exact I1.after hq
      | next => exact False.elim hq
      | brk => exact False.elim hq
      | cont => exact False.elim hq
  refine wpAny_Try_except (wpAny_execs_cons (wpAny_Expr_any (wpAny_mono run (fun v s1 ⟨_, H1, I1, _, q⟩ => wpAny_execs_nil (wpAny_execs_nil ⟨σ, H1, I1, q⟩)) fun ev s' ⟨H1, s1, I1, hx⟩ => ?_) I.quiet (by rfl)))
  obtain ⟨a, C, t0, H2, B, dO, rfl, os, bare, un, hok, fl, cov, ct, hE1⟩ := hx
  rw [← hE] at hE1
  obtain ⟨C', eC, hx, q⟩ := hE1
  cases eC
  have Hn : H2 a = none := by
    cases z : H2 a with
    | none => rfl
    | some u =>
      obtain ⟨o, e'⟩ := cov.trk a u z
      rw [fl.2.1] at e'; cases e'
  have fl' := fl
  rw [hst] at fl'
  refine wpAny_pres (Pres.note (e := a)) ct ?_
  refine wpAny_looks_onW (base := B) (env := X.env) (outer := X.outer) (by rw [I.ok.frames, hst]) hfr fl' fun h2 held up2 ct2 => ?_
  refine wpAny_pres (Pres.flight (e := a)) ct2 ?_
  refine wpAny_landsW held fun h3 fl3 up3 ct3 => ?_
  have fl3' := fl3
  rw [← hst] at fl3'
  have I3 : Inv X pins σ (upd H2 a (excD dO C a)) { s' with heap := h3 } := I1.land (E := E1) os bare un hok fl cov fl3' (UpToSlots.trans up2 up3) ct3
  refine wpAny_handleBy_cons (codeAny_handlers_test (ld_glob (X := X.exc a) (I3.exc a) hgc hmc ?_ hdc)) (fun z => nomatch z)
  obtain ⟨oe, e1, e2⟩ := Heap.FlyingW.there fl3
  refine PySem.W.exm_one (K := X.K) (h := h3) (cls := .ref C) I3.kIn (fun A Q E s k hq => wpAny_typeOf_ref (k _ _ e1) (by rw [e2]; exact hq)) hx _ _ _ _ (fun b o e => e) ?_
  refine codeAny_handlers_suite_as (wpAny_pres (Pres.flight (e := a)) ct3 (lands_againW fl3 fun h4 fl4 up4 ct4 => ?_))
  have fl4' := fl4
  rw [← hst] at fl4'
  have I4 : Inv X pins σ (upd H2 a (excD dO C a)) { s' with heap := h4 } := I1.land (E := E1) os bare un hok fl cov fl4' (UpToSlots.trans (UpToSlots.trans up2 up3) up4) ct4
  refine store_ok I4 hN hi (.inl hl) (show RelV (.ref a) (.ref a) from rfl) (fun s5 I5 => ?_) (.inr hl)
  refine wpAny_mono (hs a pins s5 _ _ _ (I5.exc a) (q a Hn)) (fun fw s6 h6 => ?_) (fun _ _ z => False.elim z)
  cases fw with
  | next => obtain ⟨σ6, H6, I6, q6⟩ := h6; exact goes_ok (I6.unexc I.ok) hN hi hl fun s7 I7 => ⟨_, _, I7, q6⟩
  | brk => obtain ⟨σ6, H6, I6, q6⟩ := h6; exact goes_ok (I6.unexc I.ok) hN hi hl fun s7 I7 => ⟨_, _, I7, q6⟩
  | cont => obtain ⟨σ6, H6, I6, q6⟩ := h6; exact goes_ok (I6.unexc I.ok) hN hi hl fun s7 I7 => ⟨_, _, I7, q6⟩
  | ret u => obtain ⟨v6, σ6, H6, I6, r6, q6⟩ := h6; exact goes_ok (I6.unexc I.ok) hN hi hl fun s7 I7 => ⟨v6, _, _, I7, r6, q6⟩
end L2

set_option Elab.async false
set_option linter.all false
set_option maxRecDepth 100000
set_option maxHeartbeats 4000000
/-! Within an except suite, and in what it calls. -/
namespace L2
open PySem PySem.Spec PyProof.Rows
section
variable {X : Cx} {tg : Expr}
def RIE (X : Cx) (pins : List (Addr × Obj)) (σ : St) (R : It → Hp → Prop) (itv : Value) (s2 : Shared) : Prop :=
  ∃ (it : Addr) (n : Nat) (H' : Hp), itv = .ref it ∧ Inv X pins σ H' s2 ∧ IsRangeIter s2.heap it (0 + ((0 : Nat) : Int) * 1) ((n : Int) - ((0 : Nat) : Int)) 1 ∧ FpOk X pins H' it ∧ R (Itr 0 n) H'
/-- for x in range(n), while the exception at a is handled -/
def tForH (a : Addr) (ta : TA) (g : TG) (tb : TS) : TS := fun D σ H => tFor (iRng1 ta) g tb { D with nx := fun σ H => (∃ C, H a = some (excO C a)) ∧ D.nx σ H } σ H
end
/-! ### a def that is called while the exception at a is handled -/
structure RoomH (a : Addr) (k : Nat) (A : Around) : Prop where
  hd : A.handled = some (.ref a)
  dp : A.depth + 3 * k + 5 < recursionLimit
  un : A.units + 16 * k + 200 < cLine
structure FnOkH (P : Program) (w : World) (K : PySem.W.Frag) (mg : Str → Option Value) (base : Heap) (a : Addr) (k : Nat) (f : Addr) (fd : FuncData) (ps : List Str) (sp : Sp) : Prop where
  len : ∀ vs H Q E, sp vs H Q E → vs.length = ps.length
  run : ∀ (A : Around) (outer : List Env) (s : Shared) (H : Hp) (args : Args) (us : List Value) (vs : List V) (Q : VK) (E : XK), RoomH a k A → Env0 P w K mg base A outer s H → BindsTo s fd args (ps.zip us) → Vals vs us → sp vs H Q E →
    codeAny (model P w) A (.call (.ref f) args) (CR CX0 outer P w H s Q E) s
def cxH (P : Program) (w : World) (K : PySem.W.Frag) (mg : Str → Option Value) (base : Heap) (N : List Str) (qual : Str) (scope : Scope) (f : Addr) (cd : Value) (A : Around) (outer : List Env) (s : Shared) (H : Hp) (E : XK) : Cx :=
  { cxOf CX0 P w K mg base N qual scope f cd A outer s H E with calm := false, xe := fun _ _ => False }
/-! ### isinstance(e, c) of a caught exception -/
theorem exc_class {prog : Program} {w : World} {A : Around} {E : Value → Shared → Prop} {s : Shared} {K : PySem.W.Frag} {a C N : Addr} {o : Obj} {bs bm bmB : List Value} {nm q : Str} {hdct : Bool} {sn : List Str} {sub : List Value} {ab : Bool} {col : Option Bool} {dd : Option Addr} {k0 k1 k2 k3 k5 : Option Value} {B newId : String} {Q : Option Value → Shared → Prop}
    (X : K.In s.heap) (I : PySem.W.InstAt s.heap a o C none) (hga : PySem.W.findIn K (.ref C) "__getattribute__" = some (some (.builtin "BaseException.__getattribute__"))) (hgt : PySem.W.findIn K (.ref C) "__getattr__" = some none)
    (hf : PySem.W.findObj K C none "__class__" = some (.bind (.builtin "getset_descriptor.__get__") (.builtin "object.__class__"))) (hm : PySem.W.mroIn K C (.type "object") = some true) (FB : ExcAttrBase B bmB)
    (hC : s.heap.get? C = some (excClassObj nm q C N bs bm hdct sn sub ab col dd k0 k1 k2 k3 k5 newId)) (T : OwnTailQ s.heap bmB bm) (hq : Q (some (.ref C)) { s with toks := s.toks + 1 }) : wpAny (model prog w) A (getAttr? (.ref a) "__class__") Q E s := by
  obtain ⟨h, g, d, t, os⟩ := s
  unfold getAttr?
  refine wpAny_bind (wpAny_mkText ?_)
  unfold getAttrBy?
  refine wpAny_bind (wpAny_attempt ?_)
  unfold getAttrBy
  refine wpAny_holding (wpAny_bind (PySem.W.Looks.at (PySem.W.InstAt.type I) (wpAny_bind (PySem.W.Looks.at (PySem.W.looks_findIn X hga) ?_))))
  refine wpAny_ite_false (by rfl) ?_
  unfold getAttrByItsOwn hookBefore
  refine wpAny_bind (wpAny_ite_true (by rfl) (PySem.W.Looks.at (PySem.W.looks_findIn X hgt) (wpAny_bind (wpAny_attempt (wpAny_holding ?_)))))
  unfold callGetattribute boundAndCalled
  refine wpAny_ite_false (by rfl) (wpAny_bind (wpAny_of_eq (FB.ga.bind (Value.ref a)) (wpAny_call (codeAny_call_builtin FB.ga.plain F.entry_bexc_ga (wpAny_check_ga_own FB hC T I.at_ I.cls ?_)))))
  unfold Builtin.«object.__getattribute__»
  refine wpAny_bind ?_
  unfold slotArgs
  refine wpAny_ite_false (by rfl) (wpAny_ite_false (by rfl) (wpAny_pure ?_))
  show wpAny _ _ (Bind.bind (Builtin.ObjectAttr.attrName (Value.str (Str.ofString "__class__") _)) _) _ _ _
  refine wpAny_bind ?_
  unfold Builtin.ObjectAttr.attrName
  refine wpAny_pure ?_
  refine wpAny_bind (PySem.W.Looks.at (PySem.W.InstAt.type I) (wpAny_bind (PySem.W.Looks.at (PySem.W.looks_find X I hf) ?_)))
  unfold Builtin.ObjectAttr.bindTo
  refine wpAny_bind (wpAny_holding (wpAny_call (PySem.W.class_get X I hm ?_)))
  refine wpAny_pure ?_
  refine PySem.W.handed_on rfl ?_
  exact wpAny_pure hq
/-- what is asked of an own exception class, by the text's own table -/
structure ExcK (K : PySem.W.Frag) (C : Addr) : Prop where
  ga : PySem.W.findIn K (.ref C) "__getattribute__" = some (some (.builtin "BaseException.__getattribute__"))
  gt : PySem.W.findIn K (.ref C) "__getattr__" = some none
  fo : PySem.W.findObj K C none "__class__" = some (.bind (.builtin "getset_descriptor.__get__") (.builtin "object.__class__"))
  mro : PySem.W.mroIn K C (.type "object") = some true
  lk : ∃ c dd cd sl, K.lookup C = some ⟨c, dd, .cls cd, sl⟩
  own : ∃ B bmB, ExcAttrBase B bmB ∧ ∀ h : Heap, K.In h → ∃ nm q N bs bm hdct sn sub ab col dd k0 k1 k2 k3 k5 newId, h.get? C = some (excClassObj nm q C N bs bm hdct sn sub ab col dd k0 k1 k2 k3 k5 newId) ∧ OwnTailQ h bmB bm
def ExcH (C a : Addr) (h : Heap) : Prop := (∃ o, h.get? a = some o ∧ o.cls = .ref C) ∧ Ct0 a h
theorem ExcH.inst {C a : Addr} {h : Heap} (x : ExcH C a h) : ∃ o, PySem.W.InstAt h a o C none := by
  obtain ⟨⟨o, e1, e2⟩, o', vs, e3, ⟨e4, e5⟩, _⟩ := x
  rw [e1] at e3
  cases e3
  exact ⟨o, e1, e2, by unfold PySem.W.notCls; rw [e5], by rw [e4]; trivial⟩
theorem kitx_exc {K : PySem.W.Frag} {C a : Addr} (k : ExcK K C) : PySem.W.KitX K (.ref a) (.ref C) (ExcH C a) := by
  obtain ⟨c, dd, cd, sl, lk⟩ := k.lk
  refine ⟨fun M h _ x => ?_, fun M h X _ A Q E s kp hq => ?_, fun h tp dd' its n sl' X htp => ?_, fun {prog w A E Q s} X x hq => ?_⟩
  · obtain ⟨o, I⟩ := x.inst
    exact PySem.W.InstAt.type I
  · exact wpAny_bind (wpAny_loadPart (kp C _ (X C _ lk)) (wpAny_pure hq))
  · refine Bool.eq_false_iff.mpr fun q => ?_
    have e := Value.ref.inj (beq_iff_eq.mp q)
    subst e
    rw [X C _ lk] at htp
    cases htp
  · obtain ⟨o, I⟩ := x.inst
    obtain ⟨B, bmB, FB, ow⟩ := k.own
    obtain ⟨nm, q, N, bs, bm, hdct, sn, sub, ab, col, dd, k0, k1, k2, k3, k5, newId, hC, T⟩ := ow s.heap X
    exact exc_class X I k.ga k.gt k.fo k.mro FB hC T hq
def rIsiE (K : PySem.W.Frag) : List V → Hp → VK → Prop := fun xs H Q => ∃ a C c cv b, xs = [.ref a, c] ∧ H a = some (excO C a) ∧ ExcK K C ∧ ((∃ T, c = .ty T ∧ cv = Value.type T) ∨ ∃ D, c = .ref D ∧ cv = Value.ref D) ∧ PySem.W.kitOne K (.ref C) cv = some b ∧ Q (.bl b) H
end L2

set_option Elab.async false
set_option linter.all false
set_option maxRecDepth 100000
set_option maxHeartbeats 4000000
/-! What the table of a text says of its exception classes. -/
namespace L2
open PySem PySem.Spec PyProof.Rows
section
variable {K : PySem.W.Frag} {C D R N : Addr} {dd : Option Addr} {cd : ClassData} {sl : Array (Option Value)} {b : Bool}
theorem cls_kit (lk : K.lookup D = some ⟨.type "type", dd, .cls cd, sl⟩) (m : PySem.W.mroIn K C (.ref D) = some b) : PySem.W.kitCls K (.ref C) (.ref D) = some b := by
  have e1 : PySem.W.clsIn K D = some cd := by unfold PySem.W.clsIn; rw [lk]
  have e2 : PySem.W.typeIn K (.ref D) = some (.type "type") := by show Option.map (fun x => x.cls) (List.lookup D K) = _; rw [lk]; rfl
  show (if ((PySem.W.clsIn K D).isSome && PySem.W.typeIn K (Value.ref D) == some (Value.type "type")) = true then PySem.W.subIn K (Value.ref C) (Value.ref D) else none) = some b
  rw [e1, e2]
  rw [if_pos (by simp)]
  exact m
theorem kit_other (ne : (Value.ref C == Value.ref D) = false) (lk : K.lookup D = some ⟨.type "type", dd, .cls cd, sl⟩) (m : PySem.W.mroIn K C (.ref D) = some b) : PySem.W.kitOne K (.ref C) (.ref D) = some b := by
  unfold PySem.W.kitOne
  rw [if_neg (by rw [ne]; exact Bool.false_ne_true)]
  exact cls_kit lk m
theorem kit_self : PySem.W.kitOne K (.ref C) (.ref C) = some true := by
  unfold PySem.W.kitOne
  rw [if_pos (beq_self_eq_true _)]
theorem kit_type {T : String} (mt : PySem.W.kitMeta T = true) (m : PySem.W.mroIn K C (.type T) = some b) : PySem.W.kitOne K (.ref C) (.type T) = some b := by
  unfold PySem.W.kitOne PySem.W.kitCls
  rw [if_neg (by exact fun z => nomatch (beq_iff_eq.mp z))]
  simp only [mt, if_true]
  exact m
theorem exm_own (lk : K.lookup R = some ⟨.type "type", dd, .cls cd, sl⟩) (m : PySem.W.mroIn K C (.ref R) = some b) (e : PySem.W.mroIn K R (.type "BaseException") = some true) : PySem.W.exmOne K (.ref C) (.ref R) = some b := by
  unfold PySem.W.exmOne
  rw [if_pos (by show (PySem.W.mroIn K R (.type "BaseException") == some true) = true; rw [e]; rfl)]
  exact cls_kit lk m
theorem find_none {name : Str} {a g : Value} (lk : K.lookup C = some ⟨.type "type", dd, .cls cd, sl⟩) (h1 : PySem.W.findIn K (.ref C) name = some (some a)) (h2 : PySem.W.specialIn K a "__get__" = some (some g)) (h3 : PySem.W.takesIn K a = some true) : PySem.W.findObj K C none name = some (.bind g a) := by
  have e1 : PySem.W.clsIn K C = some cd := by unfold PySem.W.clsIn; rw [lk]
  unfold PySem.W.findObj
  simp only [e1, h1, h2, h3, Option.bind_some]
end
def strKeys (es : Array DictEntry) : Bool := es.toList.all fun e => match e.key with | .str _ _ => true | _ => false
theorem nsOk_of {K : PySem.W.Frag} {N : Addr} {c : Value} {d : Option Addr} {es : Array DictEntry} {ep : Nat} {sl : Array (Option Value)} (lk : K.lookup N = some ⟨c, d, .dict es ep, sl⟩) (h : strKeys es = true) : PySem.W.nsOkIn K N = true := by
  unfold PySem.W.nsOkIn
  rw [lk]
  unfold strKeys at h
  rw [Array.all_toList] at h
  exact h
theorem quiet4 {P : Str → Prop} (h1 : P "__init__") (h2 : P "__getattribute__") (h3 : P "__getattr__") (h4 : P "args") : ∀ n ∈ quietNames, P n := fun n hn => by
  unfold quietNames at hn
  simp only [List.mem_cons, List.not_mem_nil, or_false] at hn
  rcases hn with rfl | rfl | rfl | rfl <;> assumption
/-- a class C(R) of exceptions, R(B): by the equations of the table -/
theorem exc_facts {K : PySem.W.Frag} {C R N NR : Addr} {nm q x : Str} {bs bmB : List Value} {hdct : Bool} {sn : List Str} {sub : List Value} {ab : Bool} {col : Option Bool} {dd dR : Option Addr} {k0 k1 k2 k3 k5 : Option Value} {newId B : String} {cR : Value} {cdR : ClassData} {slR : Array (Option Value)} {mg : Str → Option Value} {base : Heap}
    (KX : K.In base) (G : base.Ns mainGlobals mg) (e0 : PySem.W.nsIn K mainGlobals x = some (some (.ref C))) (lkC : K.lookup C = some (excClassObj nm q C N bs (.ref R :: bmB) hdct sn sub ab col dd k0 k1 k2 k3 k5 newId)) (lkR : K.lookup R = some ⟨cR, dR, .cls cdR, slR⟩)
    (nC : PySem.W.nsOkIn K N = true) (iC : PySem.W.nsIn K N "__init__" = some none) (eR : cdR.ns = NR) (nR : PySem.W.nsOkIn K NR = true) (r1 : PySem.W.nsIn K NR "__init__" = some none) (r2 : PySem.W.nsIn K NR "__getattribute__" = some none) (r3 : PySem.W.nsIn K NR "__getattr__" = some none) (r4 : PySem.W.nsIn K NR "args" = some none)
    (FB : ExcAttrBase B bmB) (ga : PySem.W.findIn K (.ref C) "__getattribute__" = some (some (.builtin "BaseException.__getattribute__"))) (gt : PySem.W.findIn K (.ref C) "__getattr__" = some none) (gc : PySem.W.findIn K (.ref C) "__class__" = some (some (.builtin "object.__class__")))
    (sp : PySem.W.specialIn K (.builtin "object.__class__") "__get__" = some (some (.builtin "getset_descriptor.__get__"))) (tk : PySem.W.takesIn K (.builtin "object.__class__") = some true) (mr : PySem.W.mroIn K C (.type "object") = some true) : OwnCls x C bmB newId mg base ∧ ExcK K C := by
  subst eR
  refine ⟨⟨PySem.W.mg_of KX G e0, ?_⟩, ⟨ga, gt, find_none lkC gc sp tk, mr, ⟨_, _, _, _, lkC⟩, B, bmB, FB, fun h X => ?_⟩⟩
  · exact ⟨_, N, nm, q, bs, hdct, sn, sub, ab, col, dd, k0, k1, k2, k3, k5, _, KX _ _ lkC, Heap.Ns.of_isNs (PySem.W.isNs_of_in KX nC), PySem.W.nsMap_none_of_in KX nC iC,
      .own (KX _ _ lkR) (Heap.Ns.of_isNs (PySem.W.isNs_of_in KX nR)) (PySem.W.nsMap_none_of_in KX nR r1) .base⟩
  · exact ⟨nm, q, N, bs, _, hdct, sn, sub, ab, col, dd, k0, k1, k2, k3, k5, newId, X _ _ lkC, .own (X _ _ lkR) (Heap.Ns.of_isNs (PySem.W.isNs_of_in X nR))
      (quiet4 (PySem.W.nsMap_none_of_in X nR r1) (PySem.W.nsMap_none_of_in X nR r2) (PySem.W.nsMap_none_of_in X nR r3) (PySem.W.nsMap_none_of_in X nR r4)) .base⟩
end L2

set_option Elab.async false
set_option linter.all false
set_option maxRecDepth 100000
set_option maxHeartbeats 4000000
/-! Defs that raise, and defs called in an except suite, as bundles. -/
namespace L2
open PySem PySem.Spec PyProof.Rows
/-- a def from which exceptions of one's own may leave -/
structure DefX (P : Program) (w : World) (K : PySem.W.Frag) (mg : Str → Option Value) (base : Heap) (k : Nat) (x : Str) (st : Stmt) (ps : List Str) (sp : Sp) : Prop where
  ex : ∃ f fd, Fun K x x st f fd ∧ mg x = some (.ref f) ∧ Binds K fd ps [] ∧ FnOk P w K mg base (CXx P w) k f fd ps sp
/-- a def called while an exception is handled -/
structure DefH (P : Program) (w : World) (K : PySem.W.Frag) (mg : Str → Option Value) (base : Heap) (k : Nat) (x : Str) (st : Stmt) (ps : List Str) (sp : Addr → Sp) : Prop where
  ex : ∃ f fd, Fun K x x st f fd ∧ mg x = some (.ref f) ∧ Binds K fd ps [] ∧ ∀ a, FnOkH P w K mg base a k f fd ps (sp a)
section
variable {P : Program} {w : World} {K : PySem.W.Frag} {mg : Str → Option Value} {base : Heap} {k : Nat} {x : Str} {st : Stmt} {ps : List Str} {sp : Sp}
theorem Fn.mkX (E : Fn K mg x st ps) (h : ∀ f fd, Fun K x x st f fd → FnOk P w K mg base (CXx P w) k f fd ps sp) : DefX P w K mg base k x st ps sp := by
  obtain ⟨f, fd, F, m, b⟩ := E.ex
  exact ⟨f, fd, F, m, b, h f fd F⟩
theorem Fun.okX {qual : Str} {f : Addr} {fd : FuncData} {N : List Str} (F : Fun K x qual st f fd) (S : FnScope N ps (defScope st)) (len : ∀ vs H Q E, sp vs H Q E → vs.length = ps.length)
    (hbody : ∀ (cdv : Value) (A : Around) (outer : List Env) (s : Shared) (H : Hp) (vs : List V) (Q : VK) (E : XK), Room k (A.deeper (envOfC qual (defScope st) s.heap.objs.size f cdv)) → sp vs H Q E →
      ∃ (σ : St) (t : TS), start N vs = σ ∧ PSs (cxOf (CXx P w) P w K mg base N qual (defScope st) f cdv A outer s H E) (defBody st) t ∧ t { nx := fun _ H' => Q .non H', rt := Q } σ H) : FnOk P w K mg base (CXx P w) (k + 1) f fd ps sp := by
  obtain ⟨oc, od, kV, doc, pm, an, cdv, ct, osl, rfl, lk, hcd⟩ := F.ex
  refine fn_of lk hcd S len fun A outer s H vs Q E hr hsp => ?_
  obtain ⟨σ, t, e, h, q⟩ := hbody cdv A outer s H vs Q E hr hsp
  exact ⟨t, h, by rw [e]; exact q⟩
end
section
variable {X : Cx}
theorem ps_nox {st : Stmt} {t : TS} (h : PS X.nox st t) : PS X st t := fun pins s σ H D I hw =>
  wpAny_mono (h pins s σ H D (I.wish _) hw) (fun _ _ q => q.unwish) fun _ _ z => False.elim z
theorem pt_nox {e : Expr} {t : TT} (h : PT X.nox e t) : PT X e t := h.nox
/-- a class of the text by its name -/
theorem pe_globC {x : Str} {C : Addr} {pos : Pos} (hg : Gl X x) (hm : X.mg x = some (.ref C)) (hd : (x == ("__debug__" : Str)) = false := by decide) : PE X (.Name x pos) (tC (.ref C)) := pe_glob hg hm rfl hd
theorem ps_tryD {k : Nat} {st : Stmt} {ps : List Str} {sp : Sp} {x cx n : Str} {c : Value} {i : Nat} {e : Expr} {es : List Expr} {b₀ : Stmt} {suite : List Stmt} {t : TA} {ts : Addr → TS} {p cpos epos np hpos pos : Pos}
    (D : DefX X.prog X.w X.K X.mg X.base k x st ps sp) (hst : X.stack = X.env :: X.outer) (hfr : X.env.frame = some X.env.locals) (hr : Room k X.A) (hg : Gl X x)
    (ha : PA X.nox (e :: es) t) (hgc : Gl X cx) (hmc : X.mg cx = some c) (hN : X.N.Nodup) (hi : X.N[i]? = some n) (hl : X.env.scope.names.lookup n = some .local) (hs : ∀ a, PSs (X.exc a) (b₀ :: suite) (ts a))
    (hdb : (x == ("__debug__" : Str)) = false := by decide) (hdc : (cx == ("__debug__" : Str)) = false := by decide) (he : starEach (e :: es) X.env = (false, eval e X.env) :: starEach es X.env := by rfl) (hpl : (backTo cpos (starEach es X.env)).any (·.1) = false := by rfl) :
    PS X (.Try [.Expr (.Call (.Name x p) (e :: es) [] cpos) epos] [.ExceptHandler (some (.Name cx np)) (some n) (b₀ :: suite) hpos] [] [] pos) (tTry sp X.K c i t ts) := by
  obtain ⟨f, fd, F, m, b, G⟩ := D.ex
  exact ps_try hst hfr G hr hg m F.kp b ha hgc hmc hN hi hl hs hdb hdc he hpl
end
section
variable {σ : St} {H : Hp}
theorem w_raise {C : Addr} {E : XK} {t : TA} {D : Ends} : tRaise C E t D σ H = t σ H fun vs H1 => vs.length ≤ sizeLine ∧ E (.ref C) none H1 := rfl
theorem w_try {sp : Sp} {K : PySem.W.Frag} {c : Value} {i : Nat} {t : TA} {ts : Addr → TS} {D : Ends} : tTry sp K c i t ts D σ H = t σ H fun vs H1 => sp vs H1 (fun _ H2 => D.nx σ H2) fun cls dO H2 =>
  ∃ C, cls = .ref C ∧ PySem.W.exmOne K (.ref C) c = some true ∧ ∀ a, H2 a = none → ts a { nx := fun σ' H' => D.nx (σ'.set i none) H', rt := D.rt, bk := fun σ' H' => D.bk (σ'.set i none) H', ct := fun σ' H' => D.ct (σ'.set i none) H' } (σ.set i (some (.ref a))) (upd H2 a (excD dO C a)) := rfl
end
theorem boot_ValueError : bootBuiltins "ValueError" = some (.type "ValueError") := by decide +kernel
/-- what the law asks of a caught exception: the classes ds in their order, of which it is the one of number due -/
structure Jst (K : PySem.W.Frag) (C : Addr) (ds : List Addr) (due : Nat) : Prop where
  ek : ExcK K C
  kit : ∀ j d, ds[j]? = some d → PySem.W.kitOne K (.ref C) (.ref d) = some (decide (j = due))
  val : PySem.W.kitOne K (.ref C) (.type "ValueError") = some true
end L2

set_option Elab.async false
set_option linter.all false
set_option maxRecDepth 100000
set_option maxHeartbeats 4000000
/-! list(reversed(x)) of a list. -/
namespace L2
open PySem PySem.Spec PyProof.Rows
theorem nolen_rv : typeLookup (.type "list_reverseiterator") "__len__" = pure none := by rw [typeLookup_type, builtinLookup_eq_fast]; kernel_rfl
theorem hint_rv : typeLookup (.type "list_reverseiterator") "__length_hint__" = pure (some (.builtin "list_reverseiterator.__length_hint__")) := by rw [typeLookup_type, builtinLookup_eq_fast]; kernel_rfl
section
variable {prog : Program} {w : World} {A : Around} {E : Value → Shared → Prop} {s : Shared}
theorem hint_rev {I l : Addr} {i : Int} {Q : Bool → Shared → Prop} (hit : s.heap.IsRevIter I l i) (h : Q false s) : wpAny (model prog w) A (Builtin.List.listLengthHint (.ref I)) Q E s := by
  unfold Builtin.List.listLengthHint
  refine wpAny_bind (wpAny_specialOf hit.typeIs nolen_rv ?_)
  show wpAny _ A (specialOf (Value.ref I) (Str.ofString "__length_hint__") >>= _) _ _ _
  refine wpAny_bind (wpAny_specialOf hit.typeIs hint_rv ?_)
  generalize hid : ("list_reverseiterator.__length_hint__" : String) = id0
  wp_delta
  rw [show splitId id0 = some ("list_reverseiterator", "__length_hint__") from by subst hid; decide +kernel]
  subst hid
  refine wpAny_bind (wpAny_isInstance (b := true) hit.typeIs (by rw [isSubtype_type]; kernel_rfl) ?_)
  refine wpAny_pure ?_
  exact h
theorem extend_rev {R : Result → Shared → Prop} {l I : Addr} {items : Array Value} (hh : A.handled = none) (hit : s.heap.IsRevIter I l ((items.size : Int) - 1)) (hl : s.heap.IsList l items) (hne : l ≠ I) (hlen : items.size ≤ 1000) (S : Addr) (res : Value) (c₀ : Nat)
    (hS : s.heap.get? S = some { cls := .type "list", data := .seq #[] c₀ }) (hSI : S ≠ I) (hSl : S ≠ l)
    (hR : ∀ h' tk acc' c', (∀ b o, b ≠ S → b ≠ I → s.heap.get? b = some o → h'.get? b = some o) → h'.get? S = some { cls := .type "list", dict := none, data := .seq acc' c', slots := #[] } →
      ItemsOf (fun i v => items[items.size - 1 - i]? = some v) acc' items.size → R (.ok (.ret res)) { s with heap := h', toks := tk }) :
    wpAny (model prog w) A.in1 (Builtin.List.listExtendWith (.ref S) (.ref I) res)
      (fun fin s' => match fin with | .done f => R (.ok f) s' | .again c' => c'.quiet = true ∧ codeAny (model prog w) A c' R s') (fun e s' => R (.error e) s') s := by
  have hSf : S ∉ [I, l] := fun hm => by
    rcases List.mem_cons.mp hm with e | e
    · exact hSI e
    · exact hSl (List.mem_singleton.mp e)
  have W := (Walks.listRev (prog := prog) (w := w) (A := A.in1) hh I l hne items).toS
  have h1 : Builtin.List.listSameRef (.ref S) (.ref I) = false := by simp [Builtin.List.listSameRef, hSI]
  have h2 : (Value.type "list_reverseiterator" == Value.type "list") = false := by decide
  have h3 : (Value.type "list_reverseiterator" == Value.type "tuple") = false := by decide
  have hz : ((items.size : Int) - 1 - ((0 : Nat) : Int)) = (items.size : Int) - 1 := by simp
  unfold Builtin.List.listExtendWith
  refine wpAny_bind (wpAny_typeOf hit.typeIs ?_)
  simp only [h1, h2, h3, Bool.or_false, Bool.false_eq_true, if_false]
  refine wpAny_bind (wpAny_pyIter_revIter hit ?_)
  refine wpAny_bind (wpAny_holding (hint_rev hit ?_))
  refine wpAny_pure ⟨plainId_quiet F.plain_extend_loop _, ?_⟩
  refine codeAny_extend_loopS W (Nat.le_of_lt (small1000 hlen)) S hSf res items.size 0 _ #[] c₀ rfl (Nat.zero_le _) ⟨Nat.zero_le _, by rw [hz]; exact hit, hl⟩ hS (ItemsOf.nil _) fun s' acc' c' hm hS' hacc => ?_
  rw [Moved.eq_with hm]
  refine hR s'.heap s'.toks acc' c' (fun b o hb hb2 e => hm.heap b o (fun hmem => ?_) e) hS' hacc
  rcases List.mem_cons.mp hmem with e' | hmem
  · exact hb e'
  · exact hb2 (List.mem_singleton.mp hmem)
theorem init_rev {R : Result → Shared → Prop} {l I : Addr} {items : Array Value} (hh : A.handled = none) (hit : s.heap.IsRevIter I l ((items.size : Int) - 1)) (hl : s.heap.IsList l items) (hne : l ≠ I) (hlen : items.size ≤ 1000) (S : Addr)
    (hS : s.heap.get? S = some { cls := .type "list", data := .seq #[] }) (hSI : S ≠ I) (hSl : S ≠ l)
    (hR : ∀ h' tk acc' c', (∀ b o, b ≠ S → b ≠ I → s.heap.get? b = some o → h'.get? b = some o) → h'.get? S = some { cls := .type "list", dict := none, data := .seq acc' c', slots := #[] } →
      ItemsOf (fun i v => items[items.size - 1 - i]? = some v) acc' items.size → R (.ok (.ret .none)) { s with heap := h', toks := tk }) :
    wpAny (model prog w) A.in1 (Builtin.«list.__init__» ⟨[.ref S, .ref I], []⟩)
      (fun fin s' => match fin with | .done f => R (.ok f) s' | .again c' => c'.quiet = true ∧ codeAny (model prog w) A c' R s') (fun e s' => R (.error e) s') s := by
  show wpAny _ _ (do let old ← Builtin.List.listItems (.ref S); Builtin.List.listUpdate (.ref S) (fun _ => #[]); letGo old.toList.reverse; Builtin.List.listExtendWith (.ref S) (.ref I) .none) _ _ s
  refine wpAny_bind ?_
  unfold Builtin.List.listItems
  refine wpAny_bind (wpAny_seqItems hS rfl (wpAny_pure ?_))
  show wpAny _ _ (updateSeq S (fun _ => #[]) >>= fun _ => letGo (#[] : Array Value).toList.reverse >>= fun _ => Builtin.List.listExtendWith (.ref S) (.ref I) .none) _ _ s
  refine wpAny_bind (wpAny_updateSeq hS rfl ?_)
  have hS₂ := Heap.get?_update_self (Obj.mapSeq (fun _ => (#[] : Array Value))) hS rfl
  have oth : ∀ b o, b ≠ S → s.heap.get? b = some o → (s.heap.update S (Obj.mapSeq (fun _ => (#[] : Array Value)))).get? b = some o :=
    fun b o hb e => (Heap.get?_update_other _ _ (Ne.symm hb)).trans e
  refine wpAny_bind (wpAny_letGo ?_)
  refine extend_rev hh (hit.at fun o e => oth I o hSI.symm e) (hl.at fun o e => oth l o hSl.symm e) hne hlen S .none _ hS₂ hSI hSl fun h' tk acc' c' hk hS' hacc => ?_
  exact hR h' tk acc' c' (fun b o hb hb2 e => hk b o hb hb2 (oth b o hb e)) hS' hacc
theorem call_list_rev {Q : Value → Shared → Prop} {l I : Addr} {items : Array Value} (hh : A.handled = none) (hit : s.heap.IsRevIter I l ((items.size : Int) - 1)) (hl : s.heap.IsList l items) (hne : l ≠ I) (hlen : items.size ≤ 1000)
    (hQ : ∀ h' tk acc' c', (∀ b o, b ≠ I → s.heap.get? b = some o → h'.get? b = some o) →
      h'.get? s.heap.objs.size = some { cls := .type "list", dict := none, data := .seq acc' c', slots := #[] } → ItemsOf (fun i v => items[items.size - 1 - i]? = some v) acc' items.size → Q (.ref s.heap.objs.size) { s with heap := h', toks := tk }) :
    wpAny (model prog w) A (call (.type "list") [.ref I]) Q E s := by
  refine callType_codes (Q₁ := fun obj s₁ => obj = .ref s.heap.objs.size ∧ s₁ = { s with heap := s.heap.push { cls := .type "list", data := .seq #[] } }) F.called_list (F.typeCall_list_1 _) F.entry_list_init
    (code_list_new _ ⟨rfl, rfl⟩) fun obj s₁ h₁ => ?_
  obtain ⟨rfl, rfl⟩ := h₁
  have hS : (s.heap.push { cls := .type "list", data := .seq #[] }).get? s.heap.objs.size = some { cls := .type "list", data := .seq #[] } := Heap.get?_push_size _ rfl
  obtain ⟨o1, e1, _⟩ := id hit
  obtain ⟨o2, e2, _⟩ := id hl
  have n1 : s.heap.objs.size ≠ I := (Nat.ne_of_lt (Heap.lt_size e1)).symm
  have n2 : s.heap.objs.size ≠ l := (Nat.ne_of_lt (Heap.lt_size e2)).symm
  refine ⟨⟨_, hS, rfl⟩, F.args_list_init_2 _ _, init_rev (A := A.in1) hh (hit.at fun o e => Heap.get?_push_of_some _ e) (hl.at fun o e => Heap.get?_push_of_some _ e) hne hlen _ hS n1 n2 fun h' tk acc' c' hk hS' hacc => ?_⟩
  exact ⟨rfl, hQ h' tk acc' c' (fun b o hb e => hk b o (Nat.ne_of_lt (Heap.lt_size e)) hb (Heap.get?_push_of_some _ e)) hS' hacc⟩
end
/-- list(reversed(x)), x a list -/
def tRev (te : TE) : TE := fun σ H Q => te σ H fun x H1 => ∃ (a : Addr) (xs : List V), x = .ref a ∧ H1 a = some (.lst xs) ∧ xs.length ≤ 1000 ∧ ∀ l, H1 l = none → Q (.ref l) (upd H1 l (.lst xs.reverse))
theorem w_rev {te : TE} {σ : St} {H : Hp} {Q : VK} : tRev te σ H Q = te σ H fun x H1 => ∃ (a : Addr) (xs : List V), x = .ref a ∧ H1 a = some (.lst xs) ∧ xs.length ≤ 1000 ∧ ∀ l, H1 l = none → Q (.ref l) (upd H1 l (.lst xs.reverse)) := rfl
theorem vals_rel {xs : List V} {us : List Value} (r : Vals xs us) : ∀ {i : Nat} {x : V} {u : Value}, xs[i]? = some x → us[i]? = some u → RelV x u := by
  induction r with
  | nil => intro i x u h; simp at h
  | cons a b ih =>
    intro i x u h h'
    cases i with
    | zero => cases h; cases h'; exact a
    | succ i => exact ih h h'
theorem vals_of {xs : List V} {us : List Value} (hl : xs.length = us.length) (h : ∀ (i : Nat) x u, xs[i]? = some x → us[i]? = some u → RelV x u) : Vals xs us := by
  induction xs generalizing us with
  | nil => cases us with | nil => exact .nil | cons a b => simp at hl
  | cons x xs ih =>
    cases us with
    | nil => simp at hl
    | cons u us => exact .cons (h 0 x u rfl rfl) (ih (by simpa using hl) fun i y v h1 h2 => h (i + 1) y v h1 h2)
theorem pe_listrev {X : Cx} {e : Expr} {te : TE} {p p2 pos2 pos : Pos} (hc : X.calm = true) (hgl : Gl X "list") (hml : X.mg "list" = none) (hgr : Gl X "reversed") (hmr : X.mg "reversed" = none) (he : PE X e te)
    (hs : starEach [.Call (.Name "reversed" p2) [e] [] pos2] X.env = [(false, eval (.Call (.Name "reversed" p2) [e] [] pos2) X.env)] := by rfl) (hs2 : starEach [e] X.env = [(false, eval e X.env)] := by rfl) :
    PE X (.Call (.Name "list" p) [.Call (.Name "reversed" p2) [e] [] pos2] [] pos) (tRev te) := by
  intro pins s σ H Q I h
  refine wpAny_Call_Name_kw (ld_blt I hgl hml boot_list ?_)
  refine PyProof.Rows.callWith_type1 ?_ hs rfl
  rw [hs]
  show wpAny _ _ (spliced ((false, eval (.Call (.Name "reversed" p2) [e] [] pos2) X.env) :: [])) _ _ s
  refine Calls.spliced_cons (wpAny_Call_Name_kw (ld_blt I hgr hmr boot_reversed (PyProof.Rows.callWith_type1 ?_ hs2 rfl)))
  rw [hs2]
  show wpAny _ _ (spliced ((false, eval e X.env) :: [])) _ _ s
  refine Calls.spliced_cons (thn (he pins s σ H _ I h) fun u s1 ⟨x, H1, I1, r1, a, xs, ex, hx, hle, q⟩ => ?_)
  subst ex
  cases r1
  obtain ⟨hz, its, n, rv, hlen, ho⟩ := I1.lstM hx
  have hL : s1.heap.IsList a its.toArray := ⟨_, ho, rfl, n, rfl⟩
  have hsz : its.toArray.size = its.length := by simp
  have hal := Heap.lt_size ho
  refine Calls.spliced_nil (call_reversed_list hL (Calls.spliced_nil ?_))
  refine call_list_rev (I := s1.heap.objs.size) (l := a) (items := its.toArray) (I1.ok.hd hc) ⟨_, Heap.get?_push_size _ rfl, rfl, rfl⟩ (hL.at fun o e => Heap.get?_push_of_some _ e) (Nat.ne_of_lt hal) (by rw [hsz]; omega) fun h' tk acc' c' kp e' hit => ?_
  have sz : (s1.heap.push (revObj a ((its.toArray.size : Int) - 1))).objs.size = s1.heap.objs.size + 1 := Heap.size_push _ _
  have hv : Vals xs.reverse acc'.toList := by
    obtain ⟨a1, a2⟩ := hit
    rw [hsz] at a1 a2
    have al : acc'.toList.length = its.length := by rw [← a1]; simp
    refine vals_of (by rw [List.length_reverse, hlen, al]) fun i x u h1 h2 => ?_
    have hu : acc'[i]? = some u := by simpa using h2
    have h3 := a2 i u hu
    have hi : i < its.length := by rw [← a1]; exact (Array.getElem?_eq_some_iff.mp hu).1
    rw [List.getElem?_reverse (by rw [hlen]; exact hi), hlen] at h1
    have h4 : its[its.length - 1 - i]? = some u := by simpa using h3
    exact vals_rel rv h1 h4
  refine ⟨.ref _, _, I1.laid (h' := h') (t' := tk) (fun b o e => kp b o (Nat.ne_of_lt (Heap.lt_size e)) (Heap.get?_push_of_some _ e)) (by rw [sz]; exact Nat.le_succ _) (show ObjOk X.prog X.w _ h' _ (.lst _) from ⟨by rw [List.length_reverse]; exact hz, acc'.toList, c', hv, by simpa using e'⟩), rfl, q _ (I1.hok.fresh (by rw [sz]; exact Nat.le_succ _))⟩
end L2

set_option Elab.async false
set_option linter.all false
set_option maxRecDepth 100000
/-! The rules over judgements that are structures. -/
namespace L2
open PySem PySem.Spec PyProof.Rows
structure QE (X : Cx) (e : Expr) (t : TE) : Prop where
  h : PE X e t
structure QT (X : Cx) (e : Expr) (t : TT) : Prop where
  h : PT X e t
structure QA (X : Cx) (es : List Expr) (t : TA) : Prop where
  h : PA X es t
structure QS (X : Cx) (st : Stmt) (t : TS) : Prop where
  h : PS X st t
structure QSs (X : Cx) (sts : List Stmt) (t : TS) : Prop where
  h : PSs X sts t
structure QG (X : Cx) (e : Expr) (t : TG) : Prop where
  h : PG X e t
structure QGs (X : Cx) (es : List Expr) (t : TGs) : Prop where
  h : PGs X es t
structure QF (X : Cx) (es : List Expr) (t : TT) : Prop where
  h : PF X es t
structure QW (X : Cx) (e : Expr) (t : TT) : Prop where
  h : PW X e t
structure QO (X : Cx) (e : Option Expr) (t : TO) : Prop where
  h : PO X e t
structure QPPs (X : Cx) (pos : Pos) (keys : List (Option Expr)) (values : List Expr) (trs : List (TE × TE)) : Prop where
  h : PPs X pos keys values trs
structure QI (X : Cx) (tg iter : Expr) (t : TI) : Prop where
  h : PI X tg iter t
theorem QW.pt {X : Cx} {e : Expr} {t : TT} (h : QW X e t) : QT X e t := ⟨h.h.pt⟩
section
variable {X : Cx}
end
section
variable {X : Cx}
theorem qpe_int {i j pos} : QE X (.Constant (.int i) j pos) (tC (.int i)) := ⟨pe_int ⟩
end
section
variable {X : Cx}
theorem qpe_bl {b j pos} : QE X (.Constant (.bool b) j pos) (tC (.bl b)) := ⟨pe_bl ⟩
end
section
variable {X : Cx}
theorem qpe_non {j pos} : QE X (.Constant .none j pos) (tC .non) := ⟨pe_non ⟩
end
section
variable {X : Cx}
theorem qpe_str {x j pos} : QE X (.Constant (.str x) j pos) (tC (.str x)) := ⟨pe_str ⟩
end
section
variable {X : Cx}
end
section
variable {X : Cx}
theorem qpe_bltn {x : Str} {v : V} {u : Value} {pos : Pos} (hg : Gl X x) (hm : X.mg x = none) (hv : bootBuiltins x = some u) (r : RelV v u) (hn : x ≠ "__name__" := by decide) (hd : (x == ("__debug__" : Str)) = false := by decide) : QE X (.Name x pos) (tC v) := ⟨pe_bltn hg hm hv r hn hd⟩
end
section
variable {X : Cx} {a b : Expr} {ta tb : TE} {pos : Pos}
end
section
variable {X : Cx} {a b : Expr} {ta tb : TE} {pos : Pos}
end
section
variable {X : Cx} {a b : Expr} {ta tb : TE} {pos : Pos}
end
section
variable {X : Cx} {a b : Expr} {ta tb : TE} {pos : Pos}
end
section
variable {X : Cx} {a b : Expr} {ta tb : TE} {pos : Pos}
end
section
variable {X : Cx} {a b : Expr} {ta tb : TE} {pos : Pos}
theorem qpt_val {e : Expr} {t : TE} (h : QE X e t) (he : ∀ whole, isTrue e X.env whole = (do let v ← whole; standAt e.pos; holding [v] (truthy v)) := by intro _; rfl) : QT X e (tB t) := ⟨pt_val h.h he⟩
end
section
variable {X : Cx} {a b : Expr} {ta tb : TE} {pos : Pos} {tA tB' : TT} {rest : List Expr}
theorem qpw_and1 (ha : QT X a tA) : QW X (.BoolOp .And [a] pos) tA := ⟨pw_and1 ha.h⟩
end
section
variable {X : Cx} {a b : Expr} {ta tb : TE} {pos : Pos} {tA tB' : TT} {rest : List Expr}
theorem qpw_or1 (ha : QT X a tA) : QW X (.BoolOp .Or [a] pos) tA := ⟨pw_or1 ha.h⟩
end
section
variable {X : Cx} {a b : Expr} {ta tb : TE} {pos : Pos} {tA tB' : TT} {rest : List Expr}
theorem qpw_and (ha : QT X a tA) (hb : QW X (.BoolOp .And (b :: rest) pos) tB') : QW X (.BoolOp .And (a :: b :: rest) pos) (tAnd tA tB') := ⟨pw_and ha.h hb.h⟩
end
section
variable {X : Cx} {a b : Expr} {ta tb : TE} {pos : Pos} {tA tB' : TT} {rest : List Expr}
theorem qpw_or (ha : QT X a tA) (hb : QW X (.BoolOp .Or (b :: rest) pos) tB') : QW X (.BoolOp .Or (a :: b :: rest) pos) (tOr tA tB') := ⟨pw_or ha.h hb.h⟩
end
section
variable {X : Cx} {a b : Expr} {ta tb : TE} {pos : Pos} {tA tB' : TT} {rest : List Expr}
theorem qpt_not (ha : QT X a tA) : QT X (.UnaryOp .Not a pos) (tNot tA) := ⟨pt_not ha.h⟩
end
section
variable {X : Cx} {a b : Expr} {ta tb : TE} {pos : Pos} {tA tB' : TT} {rest : List Expr}
theorem qpe_one {op} {t : TE} (h : QE X a t) : QE X (.BoolOp op [a] pos) t := ⟨pe_one h.h⟩
end
section
variable {X : Cx} {a b : Expr} {ta tb : TE} {pos : Pos} {tA tB' : TT} {rest : List Expr}
theorem qpe_and (ha : QE X a ta) (hb : QE X (.BoolOp .And (b :: rest) pos) tb) : QE X (.BoolOp .And (a :: b :: rest) pos) (tAndV ta tb) := ⟨pe_and ha.h hb.h⟩
end
section
variable {X : Cx} {a b : Expr} {ta tb : TE} {pos : Pos} {tA tB' : TT} {rest : List Expr}
end
section
variable {X : Cx} {a b : Expr} {ta tb : TE} {pos : Pos} {tA tB' : TT} {rest : List Expr}
theorem qpe_not (ha : QE X a ta) : QE X (.UnaryOp .Not a pos) (tNotV ta) := ⟨pe_not ha.h⟩
end
section
variable {X : Cx} {a b : Expr} {ta tb : TE} {pos : Pos} {tA tB' : TT} {rest : List Expr}
theorem qpe_ifExp {c : Expr} (hc : QT X c tA) (ha : QE X a ta) (hb : QE X b tb) : QE X (.IfExp c a b pos) (tIf tA ta tb) := ⟨pe_ifExp hc.h ha.h hb.h⟩
end
section
variable {X : Cx} {st : Stmt} {rest : List Stmt} {t u : TS} {e : Expr} {te : TE} {pos : Pos}
theorem qpss_nil  : QSs X [] tNext := ⟨pss_nil ⟩
end
section
variable {X : Cx} {st : Stmt} {rest : List Stmt} {t u : TS} {e : Expr} {te : TE} {pos : Pos}
theorem qpss_cons (h1 : QS X st t) (h2 : QSs X rest u) : QSs X (st :: rest) (tSeq t u) := ⟨pss_cons h1.h h2.h⟩
end
section
variable {X : Cx} {st : Stmt} {rest : List Stmt} {t u : TS} {e : Expr} {te : TE} {pos : Pos}
theorem qpss_one (h1 : QS X st t) : QSs X [st] t := ⟨pss_one h1.h⟩
end
section
variable {X : Cx} {st : Stmt} {rest : List Stmt} {t u : TS} {e : Expr} {te : TE} {pos : Pos}
end
section
variable {X : Cx} {st : Stmt} {rest : List Stmt} {t u : TS} {e : Expr} {te : TE} {pos : Pos}
end
section
variable {X : Cx} {st : Stmt} {rest : List Stmt} {t u : TS} {e : Expr} {te : TE} {pos : Pos}
end
section
variable {X : Cx} {st : Stmt} {rest : List Stmt} {t u : TS} {e : Expr} {te : TE} {pos : Pos}
end
section
variable {X : Cx} {st : Stmt} {rest : List Stmt} {t u : TS} {e : Expr} {te : TE} {pos : Pos}
theorem qps_expr (he : QE X e te) (hs : swapsWith e none pos.line X.env = pure false := by rfl) : QS X (.Expr e pos) (tDrop te) := ⟨ps_expr he.h hs⟩
end
section
variable {X : Cx} {st : Stmt} {rest : List Stmt} {t u : TS} {e : Expr} {te : TE} {pos : Pos}
theorem qps_ret (he : QE X e te) : QS X (.Return (some e) pos) (tRet te) := ⟨ps_ret he.h⟩
end
section
variable {X : Cx} {st : Stmt} {rest : List Stmt} {t u : TS} {e : Expr} {te : TE} {pos : Pos}
end
section
variable {X : Cx} {st : Stmt} {rest : List Stmt} {t u : TS} {e : Expr} {te : TE} {pos : Pos}
theorem qps_if {c : Expr} {a b : List Stmt} {tc : TT} (hc : QT X c tc) (ha : QSs X a t) (hb : QSs X b u) : QS X (.If c a b pos) (tIfS tc t u) := ⟨ps_if hc.h ha.h hb.h⟩
end
section
variable {X : Cx} {st : Stmt} {rest : List Stmt} {t u : TS} {e : Expr} {te : TE} {pos : Pos}
end
section
variable {X : Cx} {st : Stmt} {rest : List Stmt} {t u : TS} {e : Expr} {te : TE} {pos : Pos}
end
section
variable {X : Cx} {pos : Pos}
theorem qpg_name {i : Nat} {x : Str} (hN : X.N.Nodup) (hi : X.N[i]? = some x) (hx : Loc X.env.scope x) (hf : X.fn x = true ∨ X.env.scope.names.lookup x = some .local := by first | exact .inl rfl | exact .inr rfl | assumption) : QG X (.Name x pos) (gName i) := ⟨pg_name hN hi hx hf⟩
end
section
variable {X : Cx} {pos : Pos}
theorem qpgs_nil  : QGs X [] gNil := ⟨pgs_nil ⟩
end
section
variable {X : Cx} {pos : Pos}
theorem qpgs_cons {e : Expr} {es : List Expr} {t : TG} {u : TGs} (h1 : QG X e t) (h2 : QGs X es u) (hs : (assignEach (e :: es) X.env).map (·.2) = assign e X.env :: (assignEach es X.env).map (·.2) := by rfl) : QGs X (e :: es) (gCons t u) := ⟨pgs_cons h1.h h2.h hs⟩
end
section
variable {X : Cx} {pos : Pos}
theorem qpg_tup {es : List Expr} {k : Nat} {t : TGs} {n : Nat} (hc : X.calm = true) (h : QGs X es t) (hn : (assignEach es X.env).length = n := by rfl) (hst : (assignEach es X.env).findIdx? (·.1) = none := by rfl) : QG X (.Tuple es k pos) (gTup X.K n t) := ⟨pg_tup hc h.h hn hst⟩
end
section
variable {X : Cx} {pos : Pos}
theorem qpg_sub {o i : Expr} {to ti : TE} {t : TSet} (ho : QE X o to) (hi : QE X i ti) (hs : PSet X t) (ha : ∀ v, assign (.Subscript o i pos) X.env v = (do
      let ov ← holding [v] (eval o X.env)
      let iv ← holding [v, ov] (eval i X.env)
      standAt pos
      holding [v, ov, iv] (setItem ov iv v)
      release [v, ov, iv] []) := by intro _; rfl) : QG X (.Subscript o i pos) (gSub to ti t) := ⟨pg_sub ho.h hi.h hs ha⟩
end
section
variable {X : Cx} {pos : Pos}
theorem qps_asg {tg e : Expr} {te : TE} {g : TG} (he : QE X e te) (hg : QG X tg g) (hs : swapsWithSole [tg] e pos.line X.env = pure false := by rfl) (hw : swappedStores [tg] e X.env = pure none := by rfl) (h1 : (assignEach [tg] X.env).map (·.2) = [assign tg X.env] := by rfl) : QS X (.Assign [tg] e pos) (tAsg te g) := ⟨ps_asg he.h hg.h hs hw h1⟩
end
section
variable {X : Cx} {pos : Pos}
theorem qps_set {i : Nat} {x : Str} {e : Expr} {te : TE} {pos' : Pos} (hN : X.N.Nodup) (hi : X.N[i]? = some x) (hx : Loc X.env.scope x) (he : QE X e te) (hs : swapsWith e (some (.Name x pos')) pos.line X.env = pure false := by rfl) (hf : X.fn x = true ∨ X.env.scope.names.lookup x = some .local := by first | exact .inl rfl | exact .inr rfl | assumption) : QS X (.Assign [.Name x pos'] e pos) (tAsg te (gName i)) := ⟨ps_set hN hi hx he.h hs hf⟩
end
section
variable {X : Cx} {pos : Pos}
end
section
variable {X : Cx} {pos : Pos}
theorem qps_aug {i : Nat} {x : Str} {e : Expr} {te : TE} {op : Operator} {ti : TIp} {pos' : Pos} (hN : X.N.Nodup) (hi : X.N[i]? = some x) (hx : Loc X.env.scope x) (he : QE X e te) (ho : PIp X op ti) (hf : X.fn x = true ∨ X.env.scope.names.lookup x = some .local := by first | exact .inl rfl | exact .inr rfl | assumption) : QS X (.AugAssign (.Name x pos') op e pos) (tAug i te ti) := ⟨ps_aug hN hi hx he.h ho hf⟩
end
section
variable {X : Cx} {pos : Pos}
end
section
variable {X : Cx} {pos : Pos}
theorem qps_while {c : Expr} {body : List Stmt} {tc : TT} {tb : TS} (hp : PassesOwn (model X.prog X.w) X.A X.env X.xe) (hc : QT X c tc) (hb : QSs X body tb) : QS X (.While c body [] pos) (tWhile tc tb) := ⟨ps_while hp hc.h hb.h⟩
end
section
variable {X : Cx} {tg : Expr}
theorem qpi_list {l : Expr} {tl : TE} (hl : QE X l tl) : QI X tg l (iList X.K tl) := ⟨pi_list hl.h⟩
end
section
variable {X : Cx} {tg : Expr}
end
section
variable {X : Cx} {tg : Expr}
theorem qpi_range1 {a : Expr} {ta : TA} {p pos : Pos} (hg : Gl X "range") (hm : X.mg "range" = none) (ha : QA X [a] ta) (hs : starEach [a] X.env = [(false, eval a X.env)] := by rfl) : QI X tg (.Call (.Name "range" p) [a] [] pos) (iRng1 ta) := ⟨pi_range1 hg hm ha.h hs⟩
end
section
variable {X : Cx} {tg : Expr}
theorem qpi_range2 {a b : Expr} {ta : TA} {p pos : Pos} (hg : Gl X "range") (hm : X.mg "range" = none) (ha : QA X [a, b] ta) (hs : starEach [a, b] X.env = [(false, eval a X.env), (false, eval b X.env)] := by rfl) (hs2 : starEach [b] X.env = [(false, eval b X.env)] := by rfl) : QI X tg (.Call (.Name "range" p) [a, b] [] pos) (iRng2 ta) := ⟨pi_range2 hg hm ha.h hs hs2⟩
end
section
variable {X : Cx} {tg : Expr}
theorem qps_for {iter : Expr} {body : List Stmt} {wi : TI} {g : TG} {tb : TS} {pos : Pos} (hp : PassesOwn (model X.prog X.w) X.A X.env X.xe) (hc : X.calm = true) (hi : QI X tg iter wi) (hg : QG X tg g) (hb : QSs X body tb) (hs : ∀ x, foldedSetIterable iter X.env x = pure x := by intro _; rfl) : QS X (.For tg iter body [] pos) (tFor wi g tb) := ⟨ps_for hp hc hi.h hg.h hb.h hs⟩
end
section
variable {X : Cx} {a b c : Expr} {ta tb tc : TE} {pos : Pos}
theorem qpe_op {op : Operator} {r : R2} (ho : OpR X (binaryOp op) r) (ha : QE X a ta) (hb : QE X b tb) : QE X (.BinOp a op b pos) (tOp r ta tb) := ⟨pe_op ho ha.h hb.h⟩
end
section
variable {X : Cx} {a b c : Expr} {ta tb tc : TE} {pos : Pos}
theorem qpe_un {op : UnaryOp} {r : V → Hp → VK → Prop} (ho : UnR X (unaryOp op) r) (ha : QE X a ta) : QE X (.UnaryOp op a pos) (tUn r ta) := ⟨pe_un ho ha.h⟩
end
section
variable {X : Cx} {a b c : Expr} {ta tb tc : TE} {pos : Pos}
theorem qpe_cmpR {op : CmpOp} {r : R2} (ho : OpR X (compareOp op) r) (ha : QE X a ta) (hb : QE X b tb) (hm : behindInMarks op b = false) : QE X (.Compare a [op] [b] pos) (tOp r ta tb) := ⟨pe_cmpR ho ha.h hb.h hm⟩
end
section
variable {X : Cx} {a b c : Expr} {ta tb tc : TE} {pos : Pos}
theorem qpt_cmpR {op : CmpOp} {r : R2} (ho : OpR X (compareOp op) r) (ha : QE X a ta) (hb : QE X b tb) (hm : behindInMarks op b = false) : QT X (.Compare a [op] [b] pos) (tTest (tOp r ta tb)) := ⟨pt_cmpR ho ha.h hb.h hm⟩
end
section
variable {X : Cx} {a b c : Expr} {ta tb tc : TE} {pos : Pos}
end
section
variable {X : Cx} {a b c : Expr} {ta tb tc : TE} {pos : Pos}
end
section
variable {X : Cx} {a b c : Expr} {ta tb tc : TE} {pos : Pos}
theorem qpt_truth (ha : QE X a ta) (he : ∀ whole, isTrue a X.env whole = (do let v ← whole; standAt a.pos; holding [v] (truthy v))) : QT X a (fun σ H Q => ta σ H fun x H' => ∃ k, TruV X.K x H' k ∧ Q k H') := ⟨pt_truth ha.h he⟩
end
section
variable {X : Cx} {a b c : Expr} {ta tb tc : TE} {pos : Pos}
end
section
variable {X : Cx} {a b c : Expr} {ta tb tc : TE} {pos : Pos}
end
section
variable {X : Cx} {a b c : Expr} {ta tb tc : TE} {pos : Pos}
end
section
variable {X : Cx} {o e value : Expr} {f : Str} {pos pos' tpos : Pos} {ta tv : TE}
end
section
variable {X : Cx} {o e value : Expr} {f : Str} {pos pos' tpos : Pos} {ta tv : TE}
end
section
variable {X : Cx} {o e value : Expr} {f : Str} {pos pos' tpos : Pos} {ta tv : TE}
end
section
variable {X : Cx} {o e value : Expr} {f : Str} {pos pos' tpos : Pos} {ta tv : TE}
end
section
variable {X : Cx} {e : Expr} {es : List Expr} {te : TE} {t : TA} {pos : Pos}
theorem qpa_nil  : QA X [] tNil := ⟨pa_nil ⟩
end
section
variable {X : Cx} {e : Expr} {es : List Expr} {te : TE} {t : TA} {pos : Pos}
theorem qpa_cons (ha : QE X e te) (hr : QA X es t) (hs : starEach (e :: es) X.env = (false, eval e X.env) :: starEach es X.env := by rfl) : QA X (e :: es) (tCons te t) := ⟨pa_cons ha.h hr.h hs⟩
end
section
variable {X : Cx} {e : Expr} {es : List Expr} {te : TE} {t : TA} {pos : Pos}
theorem qpe_tup {x1} (h : QA X es t) : QE X (.Tuple es x1 pos) (tTup t) := ⟨pe_tup h.h⟩
end
section
variable {X : Cx} {e : Expr} {es : List Expr} {te : TE} {t : TA} {pos : Pos}
theorem qpe_lst (h : QA X es t) : QE X (.List es pos) (tLst t) := ⟨pe_lst h.h⟩
end
section
variable {X : Cx} {CX : CXT} {k : Nat} {f C : Addr} {fd : FuncData} {ps : List Str} {sp : Sp} {dvs : List V} {ds : List Value} {E : XK} {x m : Str} {p pos apos : Pos} {e o : Expr} {es : List Expr} {ta : TE} {t : TA}
end
section
variable {X : Cx} {CX : CXT} {k : Nat} {f C : Addr} {fd : FuncData} {ps : List Str} {sp : Sp} {dvs : List V} {ds : List Value} {E : XK} {x m : Str} {p pos apos : Pos} {e o : Expr} {es : List Expr} {ta : TE} {t : TA}
end
section
variable {X : Cx} {CX : CXT} {k : Nat} {f C : Addr} {fd : FuncData} {ps : List Str} {sp : Sp} {dvs : List V} {ds : List Value} {E : XK} {x m : Str} {p pos apos : Pos} {e o : Expr} {es : List Expr} {ta : TE} {t : TA}
end
section
variable {X : Cx} {CX : CXT} {k : Nat} {f C : Addr} {fd : FuncData} {ps : List Str} {sp : Sp} {dvs : List V} {ds : List Value} {E : XK} {x m : Str} {p pos apos : Pos} {e o : Expr} {es : List Expr} {ta : TE} {t : TA}
end
section
variable {X : Cx} {CX : CXT} {k : Nat} {f C : Addr} {fd : FuncData} {ps : List Str} {sp : Sp} {dvs : List V} {ds : List Value} {E : XK} {x m : Str} {p pos apos : Pos} {e o : Expr} {es : List Expr} {ta : TE} {t : TA}
end
section
variable {X : Cx} {CX : CXT} {k : Nat} {f C : Addr} {fd : FuncData} {ps : List Str} {sp : Sp} {dvs : List V} {ds : List Value} {E : XK} {x m : Str} {p pos apos : Pos} {e o : Expr} {es : List Expr} {ta : TE} {t : TA}
end
section
variable {X : Cx} {CX : CXT} {k : Nat} {f C : Addr} {fd : FuncData} {ps ks : List Str} {sp : Sp} {E : XK} {x m : Str} {p pos apos kpos : Pos} {e o : Expr} {es : List Expr} {kws : List Keyword} {te ta : TE} {t tk : TA} {nm : Option Str} {g : List Value → List Value → List Value} {gV : List V → List V → List V}
end
section
variable {X : Cx} {x : Str} {p pos : Pos} {e : Expr} {es : List Expr} {t : TA} {id T : String} {r : List V → Hp → VK → Prop}
theorem qpe_callB (hc : CallR X (.builtin id) r) (hg : Gl X x) (hm : X.mg x = none) (hv : bootBuiltins x = some (.builtin id)) (ha : QA X (e :: es) t) (hn : x ≠ "__name__" := by decide) (hdb : (x == ("__debug__" : Str)) = false := by decide) (he : starEach (e :: es) X.env = (false, eval e X.env) :: starEach es X.env := by rfl) (hpl : (backTo pos (starEach es X.env)).any (·.1) = false := by rfl) : QE X (.Call (.Name x p) (e :: es) [] pos) (tCB r t) := ⟨pe_callB hc hg hm hv ha.h hn hdb he hpl⟩
end
section
variable {X : Cx} {x : Str} {p pos : Pos} {e : Expr} {es : List Expr} {t : TA} {id T : String} {r : List V → Hp → VK → Prop}
theorem qpe_callTy (hc : CallR X (.type T) r) (hg : Gl X x) (hm : X.mg x = none) (hv : bootBuiltins x = some (.type T)) (ha : QA X (e :: es) t) (hn : x ≠ "__name__" := by decide) (hdb : (x == ("__debug__" : Str)) = false := by decide) (he : starEach (e :: es) X.env = (false, eval e X.env) :: starEach es X.env := by rfl) (hpl : (backTo pos (starEach es X.env)).any (·.1) = false := by rfl) : QE X (.Call (.Name x p) (e :: es) [] pos) (tCB r t) := ⟨pe_callTy hc hg hm hv ha.h hn hdb he hpl⟩
end
section
variable {X : Cx} {x : Str} {p pos : Pos} {e : Expr} {es : List Expr} {t : TA} {id T : String} {r : List V → Hp → VK → Prop}
end
section
variable {X : Cx} {e : Expr} {te : TE} {lo hi : Option Expr} {tl th : TO} {pos p2 : Pos}
theorem qpo_none  : QO X none tNoPart := ⟨po_none ⟩
end
section
variable {X : Cx} {e : Expr} {te : TE} {lo hi : Option Expr} {tl th : TO} {pos p2 : Pos}
theorem qpo_some (h : QE X e te) : QO X (some e) (tPart te) := ⟨po_some h.h⟩
end
section
variable {X : Cx} {e : Expr} {te : TE} {lo hi : Option Expr} {tl th : TO} {pos p2 : Pos}
theorem qpe_slice {r : V → Option Int → Option Int → Hp → VK → Prop} (hr : SlR X r) (he : QE X e te) (hl : QO X lo tl) (hu : QO X hi th) : QE X (.Subscript e (.Slice lo hi none p2) pos) (tSl r te tl th) := ⟨pe_slice hr he.h hl.h hu.h⟩
end
section
variable {X : Cx} {a b : Expr} {ta tb : TE} {pos : Pos}
theorem qpe_ix {r : R2} (hr : IxR X r) (ha : QE X a ta) (hb : QE X b tb) (hs : PlainIx b) : QE X (.Subscript a b pos) (tOp r ta tb) := ⟨pe_ix hr ha.h hb.h hs⟩
end
section
variable {X : Cx} {a b : Expr} {ta tb : TE} {pos : Pos} {o e : Expr} {es : List Expr} {to : TE} {t : TA} {name : Str} {apos cpos : Pos} {T id : String} {r : V → List V → Hp → VK → Prop}
theorem qpe_bm0 (pa : PlainAttrs T) (slot : Slot T name id) (hty : typeOf (.builtin id) = pure (.type "method_descriptor")) (hm : MtR X id r) (ho : QE X o to) (hbase : attributeBase o name X.env (eval o X.env) = eval o X.env := by rfl) (hline : (apos.endLine == cpos.line) = true := by rfl) : QE X (.Call (.Attribute o name apos) [] [] cpos) (tBM0 X.K T r to) := ⟨pe_bm0 pa slot hty hm ho.h hbase hline⟩
end
section
variable {X : Cx} {a b : Expr} {ta tb : TE} {pos : Pos} {o e : Expr} {es : List Expr} {to : TE} {t : TA} {name : Str} {apos cpos : Pos} {T id : String} {r : V → List V → Hp → VK → Prop}
theorem qpe_bm (pa : PlainAttrs T) (slot : Slot T name id) (hty : typeOf (.builtin id) = pure (.type "method_descriptor")) (hm : MtR X id r) (ho : QE X o to) (ha : QA X (e :: es) t) (hbase : attributeBase o name X.env (eval o X.env) = eval o X.env := by rfl) (hfew : ((backTo cpos (starEach (e :: es) X.env)).all (fun x => !x.1) && (backToKw cpos (keywordEach [] X.env)).all (fun x => x.1.isSome)
      && decide ((e :: es).length + ([] : List Keyword).length + (if ([] : List Keyword).isEmpty then 0 else 1) < 30)) = true := by rfl) (hline : (apos.endLine == cpos.line) = true := by rfl) (hs : starEach (e :: es) X.env = (false, eval e X.env) :: starEach es X.env := by rfl) (hplain : (backTo cpos (starEach es X.env)).any (·.1) = false := by rfl) : QE X (.Call (.Attribute o name apos) (e :: es) [] cpos) (tBM X.K T r to t) := ⟨pe_bm pa slot hty hm ho.h ha.h hbase hfew hline hs hplain⟩
end
section
variable {X : Cx}
theorem qpv (i : Nat) {x : Str} {pos : Pos} (hN : X.N[i]? = some x := by rfl) (hv : Vis X.env.scope x := by first | exact Or.inl rfl | exact Or.inr (Or.inl rfl) | exact Or.inr (Or.inr rfl)) (hd : (x == ("__debug__" : Str)) = false := by decide) (hcd : (x == ("__classdict__" : Str)) = false := by decide) : QE X (.Name x pos) (tVar i) := ⟨pv i hN hv hd hcd⟩
end
section
variable {X : Cx}
end
section
theorem qpe_globI {X : Cx} {x : Str} {i : Int} {pos : Pos} (hg : Gl X x) (hm : ∃ t, X.mg x = some (.int i t)) (hd : (x == ("__debug__" : Str)) = false := by decide) : QE X (.Name x pos) (tC (.int i)) := ⟨pe_globI hg hm hd⟩
end
section
theorem qpe_callD {X : Cx} {k : Nat} {x : Str} {st : Stmt} {ps : List Str} {sp : Sp} {e : Expr} {es : List Expr} {t : TA} {p pos : Pos} (D : Def X.prog X.w X.K X.mg X.base k x st ps sp) (hr : Room k X.A) (hg : Gl X x) (ha : QA X (e :: es) t) (hdb : (x == ("__debug__" : Str)) = false := by decide) (he : starEach (e :: es) X.env = (false, eval e X.env) :: starEach es X.env := by rfl) (hpl : (backTo pos (starEach es X.env)).any (·.1) = false := by rfl) : QE X (.Call (.Name x p) (e :: es) [] pos) (tCall sp [] E0 t) := ⟨pe_callD D hr hg ha.h hdb he hpl⟩
end
section
end
section
theorem qpi_enum {X : Cx} {a : Expr} {ta : TA} {elts : List Expr} {x1 : Nat} {p pos tpos : Pos} (hg : Gl X "enumerate") (hm : X.mg "enumerate" = none) (ha : QA X [a] ta) (hs : starEach [a] X.env = [(false, eval a X.env)] := by rfl) : QI X (.Tuple elts x1 tpos) (.Call (.Name "enumerate" p) [a] [] pos) (iEnum ta) := ⟨pi_enum hg hm ha.h hs⟩
end
section
theorem qpf_nil {X : Cx} : QF X [] tNoIf := ⟨pf_nil ⟩
end
section
end
section
end
section
variable {X : Cx} {pins : List (Addr × Obj)} {σ : St} {H : Hp} {s : Shared}
theorem qpe_comp {own ns : List Str} {caps : List Nat} {elt tg iter : Expr} {ifs : List Expr} {scope : Scope} {pos : Pos} {wi : TI} {g : TG} {tf : TT} {te : TE} (hc : X.calm = true) (S : CScope scope ns) (cp : Caps X scope ns caps) (hi : QI X tg iter wi) (hg : ∀ C s H fp pn, QG (cxC X (own ++ ns) scope C s H fp pn) tg g) (ht : ∀ C s H fp pn, QF (cxC X (own ++ ns) scope C s H fp pn) ifs tf) (he : ∀ C s H fp pn, QE (cxC X (own ++ ns) scope C s H fp pn) elt te) (hs : ∀ x, foldedSetIterable iter X.env x = pure x := by intro _; rfl) : QE X (.ListComp elt [⟨tg, iter, ifs, 0⟩] scope pos) (tComp own.length caps wi g tf te) := ⟨pe_comp hc S cp hi.h (fun C s H fp pn => (hg C s H fp pn).h) (fun C s H fp pn => (ht C s H fp pn).h) (fun C s H fp pn => (he C s H fp pn).h) hs⟩
end
section
variable {X : Cx} {pins : List (Addr × Obj)} {σ : St} {H : Hp} {s : Shared}
end
section
variable {X : Cx} {K : PySem.W.Frag}
end
section
variable {X : Cx} {K : PySem.W.Frag}
end
section
variable {X : Cx} {K : PySem.W.Frag}
end
section
theorem qpe_globR {X : Cx} {x : Str} {K : PySem.W.Frag} {xs : List V} {pos : Pos} (hg : Gl X x) (hm : ∃ a, X.mg x = some (.ref a) ∧ ∀ H, SqT K H a xs) (hd : (x == ("__debug__" : Str)) = false := by decide) : QE X (.Name x pos) (tGlobR K xs) := ⟨pe_globR hg hm hd⟩
end
section
theorem qpss_cut {X : Cx} {st : Stmt} {rest : List Stmt} {t u : TS} (h1 : QS X st t) (h2 : QSs X rest u) : QSs X (st :: rest) (tCut t u) := ⟨pss_cut h1.h h2.h⟩
end
section
variable {X : Cx} {es : List Expr} {te : TE} {t : TA}
theorem qpa_BoolOp {a0 : PySem.BoolOp} {a1 : List Expr} {a2 : PySem.Pos} (ha : QE X (Expr.BoolOp a0 a1 a2) te) (hr : QA X es t) : QA X ((Expr.BoolOp a0 a1 a2) :: es) (tCons te t) := ⟨pa_BoolOp ha.h hr.h⟩
end
section
variable {X : Cx} {es : List Expr} {te : TE} {t : TA}
theorem qpa_BinOp {a0 : PySem.Expr} {a1 : PySem.Operator} {a2 : PySem.Expr} {a3 : PySem.Pos} (ha : QE X (Expr.BinOp a0 a1 a2 a3) te) (hr : QA X es t) : QA X ((Expr.BinOp a0 a1 a2 a3) :: es) (tCons te t) := ⟨pa_BinOp ha.h hr.h⟩
end
section
variable {X : Cx} {es : List Expr} {te : TE} {t : TA}
end
section
variable {X : Cx} {es : List Expr} {te : TE} {t : TA}
end
section
variable {X : Cx} {es : List Expr} {te : TE} {t : TA}
theorem qpa_ListComp {a0 : PySem.Expr} {a1 : List Comprehension} {a2 : PySem.Scope} {a3 : PySem.Pos} (ha : QE X (Expr.ListComp a0 a1 a2 a3) te) (hr : QA X es t) : QA X ((Expr.ListComp a0 a1 a2 a3) :: es) (tCons te t) := ⟨pa_ListComp ha.h hr.h⟩
end
section
variable {X : Cx} {es : List Expr} {te : TE} {t : TA}
theorem qpa_Compare {a0 : PySem.Expr} {a1 : List CmpOp} {a2 : List Expr} {a3 : PySem.Pos} (ha : QE X (Expr.Compare a0 a1 a2 a3) te) (hr : QA X es t) : QA X ((Expr.Compare a0 a1 a2 a3) :: es) (tCons te t) := ⟨pa_Compare ha.h hr.h⟩
end
section
variable {X : Cx} {es : List Expr} {te : TE} {t : TA}
theorem qpa_Call {a0 : PySem.Expr} {a1 : List Expr} {a2 : List Keyword} {a3 : PySem.Pos} (ha : QE X (Expr.Call a0 a1 a2 a3) te) (hr : QA X es t) : QA X ((Expr.Call a0 a1 a2 a3) :: es) (tCons te t) := ⟨pa_Call ha.h hr.h⟩
end
section
variable {X : Cx} {es : List Expr} {te : TE} {t : TA}
end
section
variable {X : Cx} {es : List Expr} {te : TE} {t : TA}
theorem qpa_Constant {a0 : PySem.Const} {a1 : Nat} {a2 : PySem.Pos} (ha : QE X (Expr.Constant a0 a1 a2) te) (hr : QA X es t) : QA X ((Expr.Constant a0 a1 a2) :: es) (tCons te t) := ⟨pa_Constant ha.h hr.h⟩
end
section
variable {X : Cx} {es : List Expr} {te : TE} {t : TA}
theorem qpa_Attribute {a0 : PySem.Expr} {a1 : PySem.Str} {a2 : PySem.Pos} (ha : QE X (Expr.Attribute a0 a1 a2) te) (hr : QA X es t) : QA X ((Expr.Attribute a0 a1 a2) :: es) (tCons te t) := ⟨pa_Attribute ha.h hr.h⟩
end
section
variable {X : Cx} {es : List Expr} {te : TE} {t : TA}
theorem qpa_Subscript {a0 : PySem.Expr} {a1 : PySem.Expr} {a2 : PySem.Pos} (ha : QE X (Expr.Subscript a0 a1 a2) te) (hr : QA X es t) : QA X ((Expr.Subscript a0 a1 a2) :: es) (tCons te t) := ⟨pa_Subscript ha.h hr.h⟩
end
section
variable {X : Cx} {es : List Expr} {te : TE} {t : TA}
theorem qpa_Name {a0 : PySem.Str} {a1 : PySem.Pos} (ha : QE X (Expr.Name a0 a1) te) (hr : QA X es t) : QA X ((Expr.Name a0 a1) :: es) (tCons te t) := ⟨pa_Name ha.h hr.h⟩
end
section
variable {X : Cx} {es : List Expr} {te : TE} {t : TA}
theorem qpa_List {a0 : List Expr} {a1 : PySem.Pos} (ha : QE X (Expr.List a0 a1) te) (hr : QA X es t) : QA X ((Expr.List a0 a1) :: es) (tCons te t) := ⟨pa_List ha.h hr.h⟩
end
section
variable {X : Cx} {es : List Expr} {te : TE} {t : TA}
theorem qpa_Tuple {a0 : List Expr} {a1 : Nat} {a2 : PySem.Pos} (ha : QE X (Expr.Tuple a0 a1 a2) te) (hr : QA X es t) : QA X ((Expr.Tuple a0 a1 a2) :: es) (tCons te t) := ⟨pa_Tuple ha.h hr.h⟩
end
section
variable {X : Cx} {es : List Expr} {te : TE} {t : TA}
end
section
variable {X : Cx} {o i e value : Expr} {pos pos' tpos : Pos} {td ty tv : TE}
theorem qpe_dget (hu : X.A.units + 1 < cLine) (ho : QE X o td) (hi : QE X i ty) (hs : NoSl i) : QE X (.Subscript o i pos) (tDGet td ty) := ⟨pe_dget hu ho.h hi.h hs⟩
end
section
variable {X : Cx} {o i e value : Expr} {pos pos' tpos : Pos} {td ty tv : TE}
theorem qps_dput (hu : X.A.units + 1 < cLine) (ho : QE X o td) (hi : QE X i ty) (hv : QE X value tv) (hs : swapsWith value (some (.Subscript o i pos')) pos.line X.env = pure false) : QS X (.Assign [.Subscript o i pos'] value pos) (sDPut td ty tv) := ⟨ps_dput hu ho.h hi.h hv.h hs⟩
end
section
variable {X : Cx} {o i e value : Expr} {pos pos' tpos : Pos} {td ty tv : TE}
end
section
variable {X : Cx} {o i e value : Expr} {pos pos' tpos : Pos} {td ty tv : TE}
end
section
variable {X : Cx} {pos : Pos}
theorem qpe_dnewK  : QE X (.Dict [] [] pos) tDNewK := ⟨pe_dnewK ⟩
end
section
variable {X : Cx} {pos : Pos}
end
section
theorem qpps_nil {X : Cx} {pos : Pos} : QPPs X pos [] [] [] := ⟨pps_nil ⟩
end
section
theorem qpps_cons {X : Cx} {pos : Pos} {k v : Expr} {ks : List (Option Expr)} {vs : List Expr} {tk tv : TE} {trs : List (TE × TE)} (hk : QE X k tk) (hv : QE X v tv) (hr : QPPs X pos ks vs trs) : QPPs X pos (some k :: ks) (v :: vs) ((tk, tv) :: trs) := ⟨pps_cons hk.h hv.h hr.h⟩
end
section
theorem qpe_disp {X : Cx} {pos : Pos} {keys : List (Option Expr)} {values : List Expr} {trs : List (TE × TE)} (h : QPPs X pos keys values trs) (hall : keys.all (·.isSome) = true) (hl : keys.length = values.length) (h0 : keys ≠ []) (h15 : keys.length ≤ 15) : QE X (.Dict keys values pos) (tDisp trs) := ⟨pe_disp h.h hall hl h0 h15⟩
end
section
variable {X : Cx} {o e f : Expr} {apos cpos : Pos} {td ty tx : TE}
end
section
variable {X : Cx} {o e f : Expr} {apos cpos : Pos} {td ty tx : TE}
end
section
variable {X : Cx} {o e f : Expr} {apos cpos : Pos} {td ty tx : TE}
end
section
variable {X : Cx} {o e f : Expr} {apos cpos : Pos} {td ty tx : TE}
end
section
variable {X : Cx} {k : Nat} {x f : Str} {st : Stmt} {ps : List Str} {sp : Sp} {e : Expr} {te : TE} {p p2 kp pos : Pos}
end
section
variable {X : Cx}
end
section
variable {X : Cx} {pins : List (Addr × Obj)} {σ : St} {H : Hp} {s : Shared} {a : Addr} {o : Obj} {kvs : List (List Key × V)}
end
section
variable {X : Cx} {pins : List (Addr × Obj)} {σ : St} {H : Hp} {s : Shared} {a : Addr} {o : Obj} {kvs : List (List Key × V)}
end
section
variable {X : Cx} {pins : List (Addr × Obj)} {σ : St} {H : Hp} {s : Shared} {a : Addr} {o : Obj} {kvs : List (List Key × V)}
end
section
variable {X : Cx} {pins : List (Addr × Obj)} {σ : St} {H : Hp} {s : Shared} {a : Addr} {o : Obj} {kvs : List (List Key × V)}
end
section
variable {X : Cx}
theorem qps_raise {x : Str} {C : Addr} {bmB : List Value} {B newId initId : String} {E : XK} {e : Expr} {es : List Expr} {t : TA} {np cpos pos : Pos} (R : Rais X E) (O : OwnCls x C bmB newId X.mg X.base) (F : ExcBaseFacts B newId initId bmB) (hc : X.calm = true) (hg : Gl X x) (ha : QA X (e :: es) t) (hdb : (x == ("__debug__" : Str)) = false := by decide) (he : starEach (e :: es) X.env = (false, eval e X.env) :: starEach es X.env := by rfl) (hpl : (backTo cpos (starEach es X.env)).any (·.1) = false := by rfl) : QS X (.Raise (some (.Call (.Name x np) (e :: es) [] cpos)) none pos) (tRaise C E t) := ⟨ps_raise R O F hc hg ha.h hdb he hpl⟩
end
section
end
section
variable {X : Cx} {tg : Expr}
end
section
end
section
variable {X : Cx}
theorem qps_nox {st : Stmt} {t : TS} (h : QS X.nox st t) : QS X st t := ⟨ps_nox h.h⟩
end
section
variable {X : Cx}
end
section
variable {X : Cx}
theorem qpt_nox {e : Expr} {t : TT} (h : QT X.nox e t) : QT X e t := ⟨pt_nox h.h⟩
end
section
variable {X : Cx}
theorem qpe_globC {x : Str} {C : Addr} {pos : Pos} (hg : Gl X x) (hm : X.mg x = some (.ref C)) (hd : (x == ("__debug__" : Str)) = false := by decide) : QE X (.Name x pos) (tC (.ref C)) := ⟨pe_globC hg hm hd⟩
end
section
variable {X : Cx}
end
section
variable {X : Cx}
end
section
variable {X : Cx}
theorem qps_tryD {k : Nat} {st : Stmt} {ps : List Str} {sp : Sp} {x cx n : Str} {c : Value} {i : Nat} {e : Expr} {es : List Expr} {b₀ : Stmt} {suite : List Stmt} {t : TA} {ts : Addr → TS} {p cpos epos np hpos pos : Pos} (D : DefX X.prog X.w X.K X.mg X.base k x st ps sp) (hst : X.stack = X.env :: X.outer) (hfr : X.env.frame = some X.env.locals) (hr : Room k X.A) (hg : Gl X x) (ha : QA X.nox (e :: es) t) (hgc : Gl X cx) (hmc : X.mg cx = some c) (hN : X.N.Nodup) (hi : X.N[i]? = some n) (hl : X.env.scope.names.lookup n = some .local) (hs : ∀ a, QSs (X.exc a) (b₀ :: suite) (ts a)) (hdb : (x == ("__debug__" : Str)) = false := by decide) (hdc : (cx == ("__debug__" : Str)) = false := by decide) (he : starEach (e :: es) X.env = (false, eval e X.env) :: starEach es X.env := by rfl) (hpl : (backTo cpos (starEach es X.env)).any (·.1) = false := by rfl) : QS X (.Try [.Expr (.Call (.Name x p) (e :: es) [] cpos) epos] [.ExceptHandler (some (.Name cx np)) (some n) (b₀ :: suite) hpos] [] [] pos) (tTry sp X.K c i t ts) := ⟨ps_tryD D hst hfr hr hg ha.h hgc hmc hN hi hl (fun a => (hs a).h) hdb hdc he hpl⟩
end
section
theorem qpe_listrev {X : Cx} {e : Expr} {te : TE} {p p2 pos2 pos : Pos} (hc : X.calm = true) (hgl : Gl X "list") (hml : X.mg "list" = none) (hgr : Gl X "reversed") (hmr : X.mg "reversed" = none) (he : QE X e te) (hs : starEach [.Call (.Name "reversed" p2) [e] [] pos2] X.env = [(false, eval (.Call (.Name "reversed" p2) [e] [] pos2) X.env)] := by rfl) (hs2 : starEach [e] X.env = [(false, eval e X.env)] := by rfl) : QE X (.Call (.Name "list" p) [.Call (.Name "reversed" p2) [e] [] pos2] [] pos) (tRev te) := ⟨pe_listrev hc hgl hml hgr hmr he.h hs hs2⟩
end
end L2

set_option Elab.async false
set_option linter.all false
set_option maxRecDepth 100000
set_option maxHeartbeats 4000000
/-! Loops over a tuple with its numbers, and over two lists side by side. -/
namespace L2
open PySem PySem.Spec PyProof.Rows
open AutoSeq1 (wpAny_loadPart')
section
variable {prog : Program} {w : World} {A : Around} {E : Value → Shared → Prop} {s : Shared}
end
section
variable {X : Cx} {pins : List (Addr × Obj)} {σ : St} {H : Hp} {s : Shared} {h' : Heap}
theorem Inv.turnAll {fp : List Addr} {t' : Nat} (I : Inv X pins σ H s) (hf : ∀ b ∈ fp, FpOk X pins H b) (k : ∀ b u, b ∉ fp → s.heap.get? b = some u → h'.get? b = some u) : Inv X pins σ H { s with heap := h', toks := t' } := by
  have nfp : ∀ b u, H b = some u → b ∉ fp := fun b u e z => by rw [(hf b z).1] at e; cases e
  refine I.step (g' := s.gens) (d' := s.drawn) (ch := fp) (fun b hb => ?_) (fun b o _ _ hc e _ => k b o hc e) (fun b o _ _ hc e _ => ⟨o.slots, k b o hc e⟩) (fun _ _ _ _ n => n)
    (fun b o hc e => ⟨o, k b o hc e⟩) (fun _ _ e => e) (fun _ _ _ e => e) (fun b ps e => ⟨#[], by rw [e]; simp⟩) (fun m hm => ?_) (fun b u e => ?_) I.bare
  · obtain ⟨_, f1, _, f3, f4, f5⟩ := hf b hb
    exact ⟨f3, f1, f4, f5⟩
  · obtain ⟨ob, es, ep, ho, r⟩ := hm
    exact ⟨ob, es, ep, k _ ob (fun z => (hf _ z).2.1 rfl) ho, r⟩
  · refine (I.hok b u e).stay (fun c v hc q => k c v ?_ q) (fun _ q => q) fun _ _ q => q
    rcases hc with z | z
    · rw [z]; exact nfp b u e
    · exact nfp c _ z
end
/-- the items of the tuple at a, each with its number -/
def ItET (K : PySem.W.Frag) (a : Addr) : It :=
  ⟨fun i H => ∃ xs x, SqT K H a xs ∧ xs[i]? = some x, fun i H v H' => ∃ p x, H p = none ∧ (∀ xs, SqT K H a xs → xs[i]? = some x) ∧ v = .ref p ∧ H' = upd H p (.tup [.int i, x]), fun i H => ∃ xs, SqT K H a xs ∧ xs.length = i⟩
def iEnumT (K : PySem.W.Frag) (ta : TA) : TI := fun σ H R => ta σ H fun vs H1 => ∃ a, vs = [.ref a] ∧ (∃ xs, SqT K H1 a xs) ∧ R (ItET K a) H1
/-! ### zip(list, list) -/
def ItZ (K : PySem.W.Frag) (a b : Addr) : It :=
  ⟨fun i H => ∃ xs ys x y, SqL K H a xs ∧ SqL K H b ys ∧ xs[i]? = some x ∧ ys[i]? = some y,
   fun i H v H' => ∃ p x y, H p = none ∧ (∀ xs, SqL K H a xs → xs[i]? = some x) ∧ (∀ ys, SqL K H b ys → ys[i]? = some y) ∧ v = .ref p ∧ H' = upd H p (.tup [x, y]),
   fun i H => ∃ xs ys, SqL K H a xs ∧ SqL K H b ys ∧ (xs.length ≤ i ∨ ys.length ≤ i)⟩
def iZip (K : PySem.W.Frag) (ta : TA) : TI := fun σ H R => ta σ H fun vs H1 => ∃ a b, vs = [.ref a, .ref b] ∧ (∃ xs, SqL K H1 a xs) ∧ (∃ ys, SqL K H1 b ys) ∧ R (ItZ K a b) H1
end L2

set_option Elab.async false
set_option linter.all false
set_option maxRecDepth 100000
set_option maxHeartbeats 4000000
/-! A slice of a tuple, the whole of it too. -/
namespace L2
open PySem PySem.Spec PyProof.Rows HT
section
variable {prog : Program} {w : World} {A : Around} {E : Value → Shared → Prop} {s : Shared}
end
section
variable {X : Cx}
/-- t[lo:hi]: a new tuple, or t itself where that is all of it -/
def rSlTA (K : PySem.W.Frag) : V → Option Int → Option Int → Hp → VK → Prop := fun x lo hi H Q => ∃ a xs, x = .ref a ∧ SqT K H a xs ∧
  ((HT.sIx xs.length 0 lo = 0 ∧ HT.sIx xs.length xs.length hi = xs.length) → Q (.ref a) H) ∧ (¬ (HT.sIx xs.length 0 lo = 0 ∧ HT.sIx xs.length xs.length hi = xs.length) → ∀ p, H p = none → Q (.ref p) (upd H p (.tup (cutV xs lo hi))))
end
/-- t + u, of any tuples -/
def rCatTA (K : PySem.W.Frag) : R2 := fun x y H Q => ∃ a b xs ys, x = .ref a ∧ y = .ref b ∧ SqT K H a xs ∧ SqT K H b ys ∧ xs.length + ys.length ≤ sizeLine ∧
  (xs = [] → Q (.ref b) H) ∧ (xs ≠ [] → (ys = [] → Q (.ref a) H) ∧ (ys ≠ [] → ∀ p, H p = none → Q (.ref p) (upd H p (.tup (xs ++ ys)))))
/-! ### the loops of RmEnT, as one uses them -/
section
variable {X : Cx}
end
section
variable {σ : St} {H : Hp} {D : Ends} {K : PySem.W.Frag}
end
end L2

set_option Elab.async false
set_option linter.all false
set_option maxRecDepth 100000
set_option maxHeartbeats 4000000
/-! zip over any two things that one draws from (tuples). -/
namespace L2
open PySem PySem.Spec PyProof.Rows
structure ZApart (z TI TO i1 i2 : Addr) (f1 f2 : List Addr) : Prop where
  tz : TI ≠ z
  oz : TO ≠ z
  az : i1 ≠ z
  bz : i2 ≠ z
  to : TI ≠ TO
  ta : TI ≠ i1
  tb : TI ≠ i2
  oa : TO ≠ i1
  ob : TO ≠ i2
  ab : i1 ≠ i2
  z1 : z ∉ f1
  o1 : TO ∉ f1
  b1 : i2 ∉ f1
  z2 : z ∉ f2
  o2 : TO ∉ f2
  a2 : i1 ∉ f2
section
variable {prog : Program} {w : World} {A : Around} {E : Value → Shared → Prop} {s : Shared} {z TI TO i1 i2 : Addr} {f1 f2 : List Addr} {n1 n2 k : Nat} {P1 P2 : Nat → Value → Prop} {S1 S2 : Nat → Heap → Prop} {a b : Value}
theorem draws_keep {it : Addr} {fp : List Addr} {n i : Nat} {P : Nat → Value → Prop} {S : Nat → Heap → Prop} {h h' : Heap} {c : Addr} (D : Draws prog w A it fp n P S) (st : S i h) (sb : Heap.SameBut c h h') (hc : c ∉ fp) : S i h' :=
  D.frame i h h' st fun b hb o e => (sb.2 b (fun q => hc (q ▸ hb))).trans e
theorem zipD_item {Q : Value → Shared → Prop} (D1 : Draws prog w A i1 f1 n1 P1 S1) (D2 : Draws prog w A i2 f2 n2 P2 S2) (ap : ZApart z TI TO i1 i2 f1 f2) (hz : IsZip s.heap z TI TO .none) (hTI : IsPair s.heap TI (.ref i1) (.ref i2)) (hTO : IsPair s.heap TO a b) (h1 : S1 k s.heap) (h2 : S2 k s.heap) (k1 : k < n1) (k2 : k < n2)
    (hQ : ∀ (h' : Heap) (x y : Value) (tk : Nat), P1 k x → P2 k y → IsZip h' z TI TO (rawInt s.heap.objs.size) → IsPair h' TO x y → S1 (k + 1) h' → S2 (k + 1) h' → IsPair h' s.heap.objs.size x y → (∀ c o, c ≠ z → c ≠ TO → c ≠ i1 → c ≠ i2 → s.heap.get? c = some o → h'.get? c = some o) → Q (.ref s.heap.objs.size) { s with heap := h', toks := tk }) :
    wpAny (model prog w) A (Builtin.«zip.__next__» ⟨[.ref z], []⟩) (fun fin s' => ∃ v, fin = .done (.ret v) ∧ Q v s') E s := by
  show wpAny _ _ (field (.ref z) 2 >>= _) _ _ _; refine wpAny_bind (wpAny_field hz rfl (x := .bool false) rfl ?_)
  show wpAny _ _ (field (.ref z) 3 >>= _) _ _ _; refine wpAny_bind (wpAny_field hz rfl (x := .ref TI) rfl ?_); refine wpAny_bind (wpAny_seqItems hTI rfl ?_)
  show wpAny _ _ (Builtin.SmallTypes.ownedTupleIsFree (.ref z) >>= _) _ _ _; refine wpAny_bind ?_; unfold Builtin.SmallTypes.ownedTupleIsFree
  refine wpAny_bind (wpAny_field hz rfl (x := .none) rfl (wpAny_pure ?_)); simp only [if_true]; refine wpAny_bind (wpAny_rule ?_)
  refine wpAny_bind (wpAny_field hz rfl (x := .ref TO) rfl ?_); refine wpAny_bind (wpAny_setField_rec hz (by simp) fun g1 hz1 b1 => ?_)
  replace hz1 : IsZip g1 z TI TO .ellipsis := hz1
  refine wpAny_bind ?_; simp only [List.zipIdx_cons, List.zipIdx_nil, List.forIn_cons, List.forIn_nil]
  refine wpAny_bind (wpAny_bind (wpAny_onRaise ?_)); show wpAny _ _ (Builtin.SmallTypes.nextOf (.ref i1) >>= _) _ _ _
  refine wpAny_bind (D1.item k { s with heap := g1 } _ _ k1 (draws_keep D1 h1 b1 ap.z1) fun x g2 t2 px s2 b2 => wpAny_pure ?_)
  have hT2 : IsPair g2 TO a b := b2.extBut _ _ ap.oa (b1.extBut _ _ ap.oz hTO)
  refine wpAny_bind (wpAny_seqItems hT2 rfl ?_); refine wpAny_bind (wpAny_updateSeq_pair hT2 fun g3 hT3 b3 => ?_)
  replace hT3 : IsPair g3 TO x b := hT3
  refine wpAny_bind (wpAny_letGo (wpAny_pure ?_)); refine wpAny_bind (wpAny_bind (wpAny_onRaise ?_)); show wpAny _ _ (Builtin.SmallTypes.nextOf (.ref i2) >>= _) _ _ _
  refine wpAny_bind (D2.item k { s with heap := g3, toks := t2 } _ _ k2 (draws_keep D2 (draws_keep D2 (draws_keep D2 h2 b1 ap.z2) b2 ap.a2) b3 ap.o2) fun y g4 t4 py s4 b4 => wpAny_pure ?_)
  have hT4 : IsPair g4 TO x b := b4.extBut _ _ ap.ob hT3
  refine wpAny_bind (wpAny_seqItems hT4 rfl ?_); refine wpAny_bind (wpAny_updateSeq_pair hT4 fun g5 hT5 b5 => ?_)
  replace hT5 : IsPair g5 TO x y := hT5
  refine wpAny_bind (wpAny_letGo (wpAny_pure (wpAny_pure ?_))); refine wpAny_bind (wpAny_seqItems hT5 rfl ?_); refine wpAny_bind (wpAny_newTuple ?_)
  have hsz : g5.objs.size = s.heap.objs.size := by rw [b5.1, b4.1, b3.1, b2.1, b1.1]
  have hz5 : IsZip g5 z TI TO .ellipsis := b5.extBut _ _ ap.oz.symm (b4.extBut _ _ ap.bz.symm (b3.extBut _ _ ap.oz.symm (b2.extBut _ _ ap.az.symm hz1)))
  have kp5 : ∀ c o, c ≠ z → c ≠ TO → c ≠ i1 → c ≠ i2 → s.heap.get? c = some o → g5.get? c = some o := fun c o c1 c2 c3 c4 e => b5.extBut _ _ c2 (b4.extBut _ _ c4 (b3.extBut _ _ c2 (b2.extBut _ _ c3 (b1.extBut _ _ c1 e))))
  have w1 : S1 (k + 1) g5 := draws_keep D1 (draws_keep D1 (draws_keep D1 s2 b3 ap.o1) b4 ap.b1) b5 ap.o1
  have w2 : S2 (k + 1) g5 := draws_keep D2 s4 b5 ap.o2
  have zlt : z < g5.objs.size := Heap.lt_size hz5
  show wpAny _ _ (Builtin.SmallTypes.ownedTupleHandOut (.ref z) (.ref g5.objs.size) >>= _) _ _ _; refine wpAny_bind ?_; unfold Builtin.SmallTypes.ownedTupleHandOut
  have hz6 : IsZip (g5.push { cls := .type "tuple", data := .seq #[x, y] }) z TI TO .ellipsis := Heap.get?_push_of_some _ hz5
  refine wpAny_bind (wpAny_setField_rec hz6 (by simp) fun g7 hz7 b7 => ?_)
  replace hz7 : IsZip g7 z TI TO (rawInt g5.objs.size) := hz7
  refine wpAny_setField_rec hz7 (by simp) fun g8 hz8 b8 => ?_
  replace hz8 : IsZip g8 z TI TO (rawInt g5.objs.size) := hz8
  have up : ∀ c o, c ≠ z → g5.get? c = some o → g8.get? c = some o := fun c o c1 e => b8.extBut _ _ c1 (b7.extBut _ _ c1 (Heap.get?_push_of_some _ e))
  have hP : IsPair g8 g5.objs.size x y := b8.extBut _ _ (Nat.ne_of_gt zlt) (b7.extBut _ _ (Nat.ne_of_gt zlt) (Heap.get?_push_size _ rfl))
  rw [hsz] at hz8 hP
  refine wpAny_pure ⟨_, rfl, ?_⟩; show Q (.ref g5.objs.size) _; rw [hsz]
  exact hQ g8 x y t4 px py hz8 (up _ _ ap.oz hT5) (D1.frame _ _ _ w1 fun c hc o e => up c o (fun q => ap.z1 (q ▸ hc)) e) (D2.frame _ _ _ w2 fun c hc o e => up c o (fun q => ap.z2 (q ▸ hc)) e) hP fun c o c1 c2 c3 c4 e => up c o c1 (kp5 c o c1 c2 c3 c4 e)
/-- the first of the two has ended -/
theorem zipD_end {Q : Fin → Shared → Prop} (D1 : Draws prog w A i1 f1 n1 P1 S1) (ap : ZApart z TI TO i1 i2 f1 f2) (hz : IsZip s.heap z TI TO .none) (hTI : IsPair s.heap TI (.ref i1) (.ref i2)) (h1 : S1 n1 s.heap)
    (hE : ∀ h' e, (∀ c o, c ≠ z → c ≠ i1 → s.heap.get? c = some o → h'.get? c = some o) → (∃ o, h'.get? e = some o ∧ o.cls = .type "StopIteration") → E (.ref e) { s with heap := h' }) : wpAny (model prog w) A (Builtin.«zip.__next__» ⟨[.ref z], []⟩) Q E s := by
  show wpAny _ _ (field (.ref z) 2 >>= _) _ _ _; refine wpAny_bind (wpAny_field hz rfl (x := .bool false) rfl ?_)
  show wpAny _ _ (field (.ref z) 3 >>= _) _ _ _; refine wpAny_bind (wpAny_field hz rfl (x := .ref TI) rfl ?_); refine wpAny_bind (wpAny_seqItems hTI rfl ?_)
  show wpAny _ _ (Builtin.SmallTypes.ownedTupleIsFree (.ref z) >>= _) _ _ _; refine wpAny_bind ?_; unfold Builtin.SmallTypes.ownedTupleIsFree
  refine wpAny_bind (wpAny_field hz rfl (x := .none) rfl (wpAny_pure ?_)); simp only [if_true]; refine wpAny_bind (wpAny_rule ?_)
  refine wpAny_bind (wpAny_field hz rfl (x := .ref TO) rfl ?_); refine wpAny_bind (wpAny_setField_rec hz (by simp) fun g1 hz1 b1 => ?_)
  replace hz1 : IsZip g1 z TI TO .ellipsis := hz1
  refine wpAny_bind ?_; simp only [List.zipIdx_cons, List.zipIdx_nil, List.forIn_cons, List.forIn_nil]
  refine wpAny_bind (wpAny_bind (wpAny_onRaise ?_)); show wpAny _ _ (Builtin.SmallTypes.nextOf (.ref i1) >>= _) _ _ _
  refine wpAny_bind (D1.done { s with heap := g1 } _ _ (draws_keep D1 h1 b1 ap.z1) fun g2 e b2 he => ?_)
  obtain ⟨oe, hoe, hce⟩ := he
  have hz2 : IsZip g2 z TI TO .ellipsis := b2 _ _ ap.az.symm hz1
  have hez : e ≠ z := fun x => by subst x; rw [hz2] at hoe; cases hoe; simp at hce
  exact wpAny_setField_rec hz2 (by simp) fun g3 _ b3 => hE g3 e (fun c o c1 c3 x => b3.extBut _ _ c1 (b2 _ _ c3 (b1.extBut _ _ c1 x))) ⟨oe, b3.extBut _ _ hez hoe, hce⟩
theorem nextZ_item {Q : Option Value → Shared → Prop} (D1 : Draws prog w A.in1 i1 f1 n1 P1 S1) (D2 : Draws prog w A.in1 i2 f2 n2 P2 S2) (ap : ZApart z TI TO i1 i2 f1 f2) (hz : IsZip s.heap z TI TO .none) (hTI : IsPair s.heap TI (.ref i1) (.ref i2)) (hTO : IsPair s.heap TO a b) (h1 : S1 k s.heap) (h2 : S2 k s.heap) (k1 : k < n1) (k2 : k < n2)
    (hQ : ∀ (h' : Heap) (x y : Value) (tk : Nat), P1 k x → P2 k y → IsZip h' z TI TO (rawInt s.heap.objs.size) → IsPair h' TO x y → S1 (k + 1) h' → S2 (k + 1) h' → IsPair h' s.heap.objs.size x y → (∀ c o, c ≠ z → c ≠ TO → c ≠ i1 → c ≠ i2 → s.heap.get? c = some o → h'.get? c = some o) → Q (some (.ref s.heap.objs.size)) { s with heap := h', toks := tk }) :
    wpAny (model prog w) A (pyNext (.ref z)) Q E s := by
  have hT : s.TypeIs (.ref z) "zip" := ⟨_, hz, rfl⟩
  unfold pyNext
  exact wpAny_bind (wpAny_attempt (wpAny_callSpecial?_slot (name := Str.ofString "__next__") hT F.slot_zip_next (wpAny_call_entry F.slot_zip_next hT F.entry_zip_next (zipD_item D1 D2 ap hz hTI hTO h1 h2 k1 k2 fun h' x y tk q1 q2 q3 q4 q5 q6 q7 q8 => wpAny_pure (hQ h' x y tk q1 q2 q3 q4 q5 q6 q7 q8)) (F.args_zip_next_1 _))))
theorem nextZ_end {Q : Option Value → Shared → Prop} (D1 : Draws prog w A.in1 i1 f1 n1 P1 S1) (ap : ZApart z TI TO i1 i2 f1 f2) (hz : IsZip s.heap z TI TO .none) (hTI : IsPair s.heap TI (.ref i1) (.ref i2)) (h1 : S1 n1 s.heap)
    (hQ : ∀ h', (∀ c o, c ≠ z → c ≠ i1 → s.heap.get? c = some o → h'.get? c = some o) → Q none { s with heap := h' }) : wpAny (model prog w) A (pyNext (.ref z)) Q E s := by
  have hT : s.TypeIs (.ref z) "zip" := ⟨_, hz, rfl⟩
  unfold pyNext
  refine wpAny_bind (wpAny_attempt (wpAny_callSpecial?_slot (name := Str.ofString "__next__") hT F.slot_zip_next (wpAny_call_entry F.slot_zip_next hT F.entry_zip_next (zipD_end D1 ap hz hTI h1 fun h' e hk he => ?_) (F.args_zip_next_1 _))))
  obtain ⟨o, ho, hc⟩ := he
  exact wpAny_bind (wpAny_isInstance (T := "StopIteration") (b := true) ⟨o, ho, hc⟩ isSubtype_stop (wpAny_pure (hQ _ hk)))
end
abbrev zt1 (h : Heap) (l : Addr) : Heap := h.push { cls := .type "tuple_iterator", data := .fields #[.ref l, .int 0 0] }
abbrev zt3 (h : Heap) (l1 l2 : Addr) : Heap := (zt1 (zt1 h l1) l2).push { cls := .type "tuple", data := .seq #[.ref h.objs.size, .ref (zt1 h l1).objs.size] }
abbrev zt4 (h : Heap) (l1 l2 : Addr) : Heap := (zt3 h l1 l2).push { cls := .type "tuple", data := .seq #[.none, .none] }
abbrev zt5 (h : Heap) (l1 l2 : Addr) : Heap := (zt4 h l1 l2).push { cls := .type "zip", data := .fields #[.none, .bool false, .bool false, .ref (zt1 (zt1 h l1) l2).objs.size, .ref (zt3 h l1 l2).objs.size] }
/-- two tuples of the same length side by side -/
def ItZT (K : PySem.W.Frag) (a b : Addr) : It :=
  ⟨fun i H => ∃ xs ys x y, SqT K H a xs ∧ SqT K H b ys ∧ xs[i]? = some x ∧ ys[i]? = some y,
   fun i H v H' => ∃ p x y, H p = none ∧ (∀ xs, SqT K H a xs → xs[i]? = some x) ∧ (∀ ys, SqT K H b ys → ys[i]? = some y) ∧ v = .ref p ∧ H' = upd H p (.tup [x, y]),
   fun i H => ∃ xs, SqT K H a xs ∧ xs.length = i⟩
def iZipT (K : PySem.W.Frag) (ta : TA) : TI := fun σ H R => ta σ H fun vs H1 => ∃ a b, vs = [.ref a, .ref b] ∧ (∃ xs, SqT K H1 a xs) ∧ (∃ ys, SqT K H1 b ys) ∧ R (ItZT K a b) H1
end L2

set_option Elab.async false
set_option linter.all false
set_option maxRecDepth 100000
set_option maxHeartbeats 4000000
/-! Bows that fill a word, as plain data. -/
namespace Rm
open PySem L2
def isBowD : PyData → Bool
  | .tuple [.int a, .int b] => decide (a < b)
  | _ => false
def bowOf : PyData → Bw
  | .tuple [.int a, .int b] => (a, b)
  | _ => (0, 0)
def endsZ (ps : List Bw) : List Int := ps.map (·.1) ++ ps.map (·.2)
def fillZ (ps : List Bw) : Bool := (endsZ ps).isPerm (rngZ 0 (2 * ps.length))
def fillsD : PyData → Bool
  | .list ds => decide (2 * ds.length ≤ 40) && (ds.all isBowD && fillZ (ds.map bowOf))
  | _ => false
def wholeD (d : PyData) : Bool := isI d && !isB d
/-! ### promises -/
def spIsBow : Sp := fun vs H Q _ => ∃ x d, vs = [x] ∧ Dat H x d ∧ Q (.bl (isBowD d)) H
def spFills : Sp := fun vs H Q _ => ∃ x d, vs = [x] ∧ Dat H x d ∧ ∀ H', Same H H' → Q (.bl (fillsD d)) H'
end Rm

/-! The bows of a word by a heap of waiting ends. -/
namespace Rm
structure Stk (bs : List Bool) (i : Nat) (ws : List Nat) (bows : List (Nat × Nat)) : Prop where
  at_ : ∀ (j p : Nat), ws[j]? = some p → p < i ∧ bs[p]? = some true ∧ D bs p = j ∧ ∀ q, p < q → q ≤ i → D bs p < D bs q
  wlen : (ws.length : Int) = D bs i
  mate : ∀ b ∈ bows, Mate bs b.1 b.2 ∧ b.2 < i
  all : ∀ p, p < i → bs[p]? = some true → p ∈ ws ∨ ∃ m, (p, m) ∈ bows
  inc : bows.Pairwise (fun a b => a.2 < b.2)
  il : i ≤ bs.length
  len : ws.length + 2 * bows.length = i
end Rm

set_option Elab.async false
set_option linter.all false
set_option maxHeartbeats 4000000
/-! The bows of a word: they fill it, don't cross, and tell it back. -/
namespace Rm
open PySem L2
/-- the word that bows tell -/
def wordB (ps : List Bw) : List Bool := (List.range (2 * ps.length)).map fun e : Nat => decide ((e : Int) ∈ ps.map (·.1))
/-! ### lists in another order -/
def spWordOf : Sp := fun vs H Q _ => ∃ l ps, vs = [.ref l] ∧ BowsAt H l ps ∧ fillsD (bowsD ps) = true ∧ (∀ p ∈ ps, ∀ q ∈ ps, crossZ p q = false) ∧ ∀ H', Same H H' → Q (.str (wd (wordB ps))) H'
def spShuffled (K : PySem.W.Frag) : Sp := fun vs H Q _ => ∃ l xs c, vs = [.ref l, .int c] ∧ SqL K H l xs ∧ xs.length ≤ 40 ∧ ∀ l' ys H', H l' = none → Same H H' → H' l' = some (.lst ys) → ys.Perm xs → Q (.ref l') H'
/-! ### '(' and ')' joined -/
def sgn (b : Bool) : Str := if b then Str.ofString "(" else Str.ofString ")"
end Rm

set_option Elab.async false
set_option linter.all false
set_option maxRecDepth 100000
set_option maxHeartbeats 4000000
/-! What is no word, and what are no bows of one: specs of defs that refuse. -/
namespace Rm
open PySem L2
/-- a text of plain signs, not too long, or no text -/
def TxtOk : PyData → Prop
  | .str z => z.cps.all (· < 128) = true ∧ z.length ≤ 1000
  | _ => True
def isWordD : PyData → Bool
  | .str z => isW z
  | _ => false
def spPairsX (C : Addr) : Sp := fun vs H Q E => ∃ x, vs = [x] ∧ ((∃ bs ms, x = .str (wd bs) ∧ Bal bs ∧ bs.length ≤ 40 ∧ Mates bs bs.length ms ∧ ∀ l H', H l = none → Same H H' → BowsAt H' l (msZ ms) → Q (.ref l) H') ∨
  (∃ d, Dat H x d ∧ TxtOk d ∧ isWordD d = false ∧ E (.ref C) none H))
/-- told: the word of these bows -/
def wordsD (d : PyData) : Option (List Bw) :=
  match d with
  | .list ds => if fillsD d && (ds.map bowOf).all (fun p => (ds.map bowOf).all fun q => !crossZ p q) then some (ds.map bowOf) else none
  | _ => none
def spWordOfX (C : Addr) : Sp := fun vs H Q E => ∃ x d, vs = [x] ∧ Dat H x d ∧ ∀ H', Same H H' → (match wordsD d with | some ps => Q (.str (wd (wordB ps))) H' | none => E (.ref C) none H')
/-- of a caught exception: whether it is just of the class due -/
def spJust (K : PySem.W.Frag) (ds : List Addr) (a : Addr) : Sp := fun vs H Q _ => ∃ (C : Addr) (due : Nat), vs = [.ref a, .int due] ∧ H a = some (excO C a) ∧ Jst K C ds due ∧ ∀ H', Same H H' → Q (.bl true) H'
/-- f(thing) is refused -/
def spRefused (P : V → Hp → Prop) : Sp := fun vs H Q _ => ∃ x, vs = [x] ∧ P x H ∧ ∀ H', Same H H' → Q (.bl true) H'
end Rm
namespace Rm
open PySem L2
end Rm
namespace Rm
open PySem L2
end Rm

set_option Elab.async false
set_option linter.all false
set_option maxRecDepth 100000
set_option maxHeartbeats 4000000
/-! Orders, sides and mazes as plain data. -/
namespace Rm
open PySem L2
/-! ### as many, without two alike, within: the same in another order -/
def intOf : PyData → Int
  | .int n => n
  | _ => 0
def orderD : PyData → Bool
  | .tuple ds => decide (ds.length ≤ 20) && (ds.all wholeD && (ds.map intOf).isPerm (rngZ 1 ds.length))
  | _ => false
def sideD : PyData → Bool
  | .str z => decide (z = Str.ofString "l") || decide (z = Str.ofString "r")
  | _ => false
def mazeD : PyData → Bool
  | .tuple [a, b] => sideD a && orderD b
  | _ => false
/-- what the law's own walk over a tuple has met -/
structure Met (ds : List PyData) (i : Nat) : Prop where
  wh : ∀ d ∈ ds.take i, wholeD d = true
  inn : ∀ n ∈ (ds.map intOf).take i, 1 ≤ n ∧ n ≤ ds.length
  nd : ((ds.map intOf).take i).Nodup
theorem lit_l : (Str.ofString "l") = ⟨#[108]⟩ := by decide +kernel
theorem lit_r : (Str.ofString "r") = ⟨#[114]⟩ := by decide +kernel
theorem side_any (d : PyData) : ([PyData.str (Str.ofString "l"), .str (Str.ofString "r")].any fun e => PyData.eqv e d) = sideD d := by
  cases d with
  | str z =>
    show (decide (Str.ofString "l" = z) || (decide (Str.ofString "r" = z) || false)) = _
    rw [Bool.or_false]
    show _ = (decide (z = Str.ofString "l") || decide (z = Str.ofString "r"))
    congr 1
    · exact decide_eq_decide.mpr ⟨Eq.symm, Eq.symm⟩
    · exact decide_eq_decide.mpr ⟨Eq.symm, Eq.symm⟩
  | _ => rfl
/-- plain and not deep -/
structure Pl (d : PyData) (n : Nat) : Prop where
  lay : d.canLay0 = true
  deep : d.depth ≤ n
def spIsSide : Sp := fun vs H Q _ => ∃ x d, vs = [x] ∧ Dat H x d ∧ Pl d 60 ∧ Q (.bl (sideD d)) H
def spIsOrder : Sp := fun vs H Q _ => ∃ x d, vs = [x] ∧ Dat H x d ∧ ∀ H', Same H H' → Q (.bl (orderD d)) H'
def spIsMaze : Sp := fun vs H Q _ => ∃ x d, vs = [x] ∧ Dat H x d ∧ Pl d 60 ∧ ∀ H', Same H H' → Q (.bl (mazeD d)) H'
def spOrderBy : Sp := fun vs H Q _ => ∃ c room : Int, vs = [.int c, .int room] ∧ 1 ≤ room ∧ room ≤ 100 ∧ ∀ (l : Addr) (ns : List Int) (H' : Hp), H l = none → Same H H' → H' l = some (.tup (ns.map V.int)) → (ns.length : Int) < room → ns.Perm (rngZ 1 ns.length) → Q (.ref l) H'
def spSpoiled : Sp := fun vs H Q _ => ∃ (o : Addr) (kind cell : Int) (ns : List Int), vs = [.ref o, .int kind, .int cell] ∧ H o = some (.tup (ns.map V.int)) ∧ ns.length ≤ 20 ∧ ∀ x d H', Same H H' → Dat H' x d → Pl d 3 → mazeD d = false → Q x H'
/-! ### data without lists -/
mutual
def noL : PyData → Bool
  | .list _ => false
  | .tuple ds => noLs ds
  | .dict _ => false
  | _ => true
def noLs : List PyData → Bool
  | [] => true
  | d :: ds => noL d && noLs ds
end
mutual
theorem dat_upd {H : Hp} {l : Addr} {ys : List V} {o : HO} (hl : H l = some (.lst ys)) : ∀ {x : V} {d : PyData}, Dat H x d → noL d = true → Dat (upd H l o) x d
  | _, _, .non, _ => .non
  | _, _, .bl b, _ => .bl b
  | _, _, .int i, _ => .int i
  | _, _, .str x, _ => .str x
  | _, _, .tup h r, n => .tup (by rw [upd_ne (ne_of h hl (by intro q; cases q))]; exact h) (datL_upd hl r n)
  | _, _, .lst h r, n => nomatch n
theorem datL_upd {H : Hp} {l : Addr} {ys : List V} {o : HO} (hl : H l = some (.lst ys)) : ∀ {xs : List V} {ds : List PyData}, DatL H xs ds → noLs ds = true → DatL (upd H l o) xs ds
  | _, _, .nil, _ => .nil
  | _, _, .cons h r, n => by
    have n' : (noL _ && noLs _) = true := n
    rw [Bool.and_eq_true] at n'
    exact .cons (dat_upd hl h n'.1) (datL_upd hl r n'.2)
end
/-- a thing that may stand in an order's place -/
structure Itm (d : PyData) : Prop where
  lay : d.canLay0 = true
  deep : d.depth ≤ 1
  noL : noL d = true
  side : sideD d = false
/-- items at places -/
structure Row (H : Hp) (xs : List V) (ds : List PyData) : Prop where
  dat : DatL H xs ds
  itm : ∀ d ∈ ds, Itm d
end Rm

set_option Elab.async false
set_option linter.all false
set_option maxRecDepth 100000
set_option maxHeartbeats 4000000
/-! Mazes: sides, rows, the bows of a maze. -/
namespace L2
open PySem PySem.Spec PyProof.Rows
section
variable {σ : St} {H : Hp}
theorem w_disp {trs : List (TE × TE)} {Q : VK} : tDisp trs σ H Q = ∀ p, H p = none → tPairs trs σ (upd H p (.dK [])) fun ps H2 => H2 p = some (.dK []) ∧ ∃ kvs : List (Key × V), ps = kvs.map (fun kv => (kV kv.1, kv.2)) ∧ kvs.length ≤ 15 ∧ Q (.ref p) (upd H2 p (.dK (mergeK [] kvs))) := rfl
theorem w_pr0 {Q : List (V × V) → Hp → Prop} : tPairs [] σ H Q = Q [] H := rfl
theorem w_prS {tk tv : TE} {r : List (TE × TE)} {Q : List (V × V) → Hp → Prop} : tPairs ((tk, tv) :: r) σ H Q = tk σ H fun x H1 => tv σ H1 fun y H2 => tPairs r σ H2 fun ps H3 => Q ((x, y) :: ps) H3 := rfl
theorem w_sl {r : V → Option Int → Option Int → Hp → VK → Prop} {te : TE} {tl th : TO} {Q : VK} : tSl r te tl th σ H Q = te σ H fun x H1 => tl σ H1 fun l H2 => th σ H2 fun u H3 => r x l u H3 Q := rfl
theorem w_part {t : TE} {Q : Option Int → Hp → Prop} : tPart t σ H Q = t σ H fun x H1 => ∃ i, x = .int i ∧ Q (some i) H1 := rfl
theorem w_nopart {Q : Option Int → Hp → Prop} : tNoPart σ H Q = Q none H := rfl
end
end L2
namespace Rm
open PySem L2
/-- the sides: false is the left one -/
def sd (b : Bool) : Str := if b then Str.ofString "r" else Str.ofString "l"
theorem sd_l (b : Bool) : (sd b = Str.ofString "l") = (b = false) := by cases b <;> simp [sd, lit_l, lit_r]
theorem sd_r (b : Bool) : (sd b = Str.ofString "r") = (b = true) := by cases b <;> simp [sd, lit_l, lit_r]
theorem sd_inj {a b : Bool} (h : sd a = sd b) : a = b := by cases a <;> cases b <;> simp [sd, lit_l, lit_r] at h <;> rfl
def odd (i : Nat) : Bool := i % 2 == 1
def rowsZ (ns : List Int) : List Int := 0 :: (ns ++ [(ns.length : Int) + 1])
def rowZ (ns : List Int) (i : Nat) : Int := (rowsZ ns).getD i 0
def stepB (ns : List Int) (i : Nat) : Bw := (min (rowZ ns i) (rowZ ns (i + 1)), max (rowZ ns i) (rowZ ns (i + 1)))
def onSide (b s : Bool) (i : Nat) : Bool := (b ^^ odd i) == s
def sideBows (b : Bool) (ns : List Int) (s : Bool) (m : Nat) : List Bw := ((List.range m).filter (onSide b s)).map (stepB ns)
structure Ord (ns : List Int) : Prop where
  len : ns.length ≤ 20
  perm : ns.Perm (rngZ 1 ns.length)
/-- a row is one of a bow's two -/
def hasR (x : Int) (p : Bw) : Bool := decide (x = p.1) || decide (x = p.2)
/-! ### sorted lists of bows -/
/-- the bows of a side, sorted -/
structure SideOf (b : Bool) (ns : List Int) (s : Bool) (L : List Bw) : Prop where
  perm : L.Perm (sideBows b ns s (ns.length + 1))
  asc : L.Pairwise leB
/-! ### the specs -/
def MazeAt (H : Hp) (m o : Addr) (b : Bool) (ns : List Int) : Prop := H m = some (.tup [.str (sd b), .ref o]) ∧ H o = some (.tup (ns.map V.int))
def spOther : Sp := fun vs H Q _ => ∃ b, vs = [.str (sd b)] ∧ Q (.str (sd !b)) H
def spSideOf : Sp := fun vs H Q _ => ∃ m o b ns, ∃ k : Nat, vs = [.ref m, .int k] ∧ MazeAt H m o b ns ∧ Q (.str (sd (b ^^ odd k))) H
def spRows : Sp := fun vs H Q _ => ∃ m o b ns, vs = [.ref m] ∧ MazeAt H m o b ns ∧ ns.length ≤ 40 ∧ ∀ l H', H l = none → Same H H' → H' l = some (.lst ((rowsZ ns).map V.int)) → Q (.ref l) H'
structure BowsOf (H : Hp) (t l r : Addr) (b : Bool) (ns : List Int) (L R : List Bw) : Prop where
  tup : H t = some (.tup [.ref l, .ref r])
  left : BowsAt H l L
  right : BowsAt H r R
  isL : SideOf b ns false L
  isR : SideOf b ns true R
  ne : l ≠ r
def spBowsOf : Sp := fun vs H Q _ => ∃ m o b ns, vs = [.ref m] ∧ MazeAt H m o b ns ∧ Ord ns ∧ ∀ t l r L R H', H t = none → H l = none → H r = none → Same H H' → BowsOf H' t l r b ns L R → Q (.ref t) H'
def spFrom : Sp := fun vs H Q _ => ∃ l ps x p, vs = [.ref l, .int x] ∧ BowsAt H l ps ∧ ps.length ≤ 40 ∧ ps.filter (hasR x) = [p] ∧ ∀ H', Same H H' → Q (.int (p.1 + p.2 - x)) H'
def spSound : Sp := fun vs H Q _ => ∃ l ps, vs = [.ref l] ∧ BowsAt H l ps ∧ ps.length ≤ 40 ∧ ps.Pairwise leB ∧ (∀ p ∈ ps, 0 ≤ p.2 ∧ p.2 < 1000) ∧ (∀ p ∈ ps, p.1 < p.2) ∧ ∀ H', Same H H' → Q (.bl true) H'
end Rm
namespace Rm
open PySem L2
end Rm

set_option Elab.async false
set_option linter.all false
set_option maxRecDepth 100000
set_option maxHeartbeats 4000000
/-! Texts: slices, a sign within a text. -/
namespace L2
open PySem PySem.Spec PyProof.Rows
def rSlS : V → Option Int → Option Int → Hp → VK → Prop := fun x lo hi H Q => ∃ z, x = .str z ∧ z.length ≤ sizeLine ∧ Q (.str (Txt.slice z lo hi)) H
section
variable {X : Cx}
theorem sl_str : SlR X rSlS := by
  intro pins s σ H x v vl vu lo hi sl Q I rx hs pl pu h
  obtain ⟨z, rfl, hz, q⟩ := h
  obtain ⟨t, rfl⟩ := rx
  have fin : ∀ t' k, EP X pins σ Q (.str (Txt.slice z lo hi) t') { s with toks := k } := fun t' k => ⟨.str _, H, I.tok k, ⟨t', rfl⟩, q⟩
  refine ⟨"str", _, F.slot_str_getitem.lookup, typeIs_str _ _ _, ?_⟩
  cases pl with
  | none =>
    cases pu with
    | none => exact wpAny_getItem_str_slice (l := none) (u := none) (st := none) hs rfl (post_val_or_str ⟨Nat.le_trans (Txt.slice_le z _ _) hz, fin⟩)
    | int j u => exact wpAny_getItem_str_slice (l := none) (u := some (j, u)) (st := none) hs rfl (post_val_or_str ⟨Nat.le_trans (Txt.slice_le z _ _) hz, fin⟩)
  | int i w =>
    cases pu with
    | none => exact wpAny_getItem_str_slice (l := some (i, w)) (u := none) (st := none) hs rfl (post_val_or_str ⟨Nat.le_trans (Txt.slice_le z _ _) hz, fin⟩)
    | int j u => exact wpAny_getItem_str_slice (l := some (i, w)) (u := some (j, u)) (st := none) hs rfl (post_val_or_str ⟨Nat.le_trans (Txt.slice_le z _ _) hz, fin⟩)
theorem w_slS {z : Str} {lo hi : Option Int} {H : Hp} {Q : VK} : rSlS (.str z) lo hi H Q = (z.length ≤ sizeLine ∧ Q (.str (Txt.slice z lo hi)) H) :=
  propext ⟨fun ⟨_, e, h⟩ => by cases e; exact h, fun h => ⟨z, rfl, h⟩⟩
end
end L2
namespace Rm
open PySem L2
/-- a text of plain signs of at most so many -/
structure Plain (z : Str) (n : Nat) : Prop where
  as : z.cps.all (· < 128) = true
  le : z.length ≤ n
def spIsWordL (K : PySem.W.Frag) : Sp := fun vs H Q _ => ∃ x d, vs = [x] ∧ Dat H x d ∧ TxtOk d ∧ Q (.bl (isWordD d)) H
def spWrongText : Sp := fun vs H Q _ => ∃ bs c, vs = [.str (wd bs), .int c] ∧ bs.length ≤ 40 ∧ ∀ x d H', Same H H' → Dat H' x d → TxtOk d → Q x H'
def spWrongBows : Sp := fun vs H Q _ => ∃ l ps c, vs = [.ref l, .int c] ∧ BowsAt H l ps ∧ ps.length ≤ 20 ∧ ∀ x d H', Same H H' → Dat H' x d → Q x H'
def spTextOf : Sp := fun vs H Q _ => ∃ x d, vs = [x] ∧ Dat H x d ∧ ∀ H', Same H H' → (match wordsD d with | some ps => Q (.str (wd (wordB ps))) H' | none => Q .non H')
end Rm
namespace Rm
open PySem L2
theorem atI_allG {α : Type} {xs : List α} {i : Int} {P : α → Prop} (h0 : 0 ≤ i) (h1 : i < xs.length) (hp : ∀ x ∈ xs, P x) : ∃ v, atI xs i = some v ∧ P v := by
  have hi : i.toNat < xs.length := by omega
  refine ⟨xs[i.toNat], ?_, hp _ (List.getElem_mem hi)⟩
  have := atI_nat (xs := xs) (j := i.toNat) (v := xs[i.toNat]) (List.getElem?_eq_getElem hi)
  rwa [Int.toNat_of_nonneg h0] at this
end Rm
namespace Rm
open PySem L2
/-- a heap but for one address -/
def wo (H : Hp) (m : Addr) : Hp := fun b => if b = m then none else H b
theorem wo_same (H : Hp) (m : Addr) : Same (wo H m) H := fun b o e => by
  unfold wo at e
  by_cases h : b = m
  · rw [if_pos h] at e; cases e
  · rw [if_neg h] at e; exact e
theorem wo_new {H : Hp} {m t : Addr} {o : HO} (h : H t = none) : Same (wo H m) (wo (upd H t o) m) := fun b u e => by
  have e' := wo_same H m b u e
  unfold wo at e ⊢
  by_cases hb : b = m
  · rw [if_pos hb] at e; cases e
  · rw [if_neg hb, upd_ne (ne_of_none e' h)]; exact e'
theorem wo_at {H : Hp} {m t : Addr} {u : HO} (h : t ≠ m) (e : H t = some u) : wo H m t = some u := by unfold wo; rw [if_neg h]; exact e
/-- the list at m, told by data that don't reach it -/
structure Kept (H : Hp) (m : Addr) (H' : Hp) (xs : List V) : Prop where
  sm : Same H H'
  at_ : H' m = some (.lst xs)
  dat : ∃ ds, DatL (wo H' m) xs ds
end Rm
namespace Rm
open PySem L2
end Rm

set_option Elab.async false
set_option linter.all false
set_option maxRecDepth 100000
set_option maxHeartbeats 4000000
/-! str.split(sep), list(text), max(list), zip(list, text). -/
namespace L2
open PySem PySem.Spec PyProof.Rows PySem.Builtin PySem.Builtin.Str
theorem split_new {prog : Program} {w : World} {A : Around} {E : Value → Shared → Prop} {s : Shared} {x y : Str} {t u : Tok} {Q : Value → Shared → Prop} (hy : (y.length == 0) = false) (hsz : x.length + 2 ≤ sizeLine)
    (hq : ∀ (l : List (Str × Tok)) (k : Nat), l.map (·.1) = Txt.split x y → Q (.ref s.heap.objs.size) { s with heap := s.heap.push { cls := .type "list", data := .seq (strValues l).toArray }, toks := k }) :
    wpAny (model prog w) A (call (.builtin "str.split") [.str x t, .str y u]) Q E s := by
  have hle := split_le x y
  cases h1 : (decide (x.length < y.length) || decide (strKind x < strKind y))
  · cases hf : (occurrences x y 0 x.length (x.length + 1)).isEmpty
    · have es : Txt.split x y = partsBetween x (occurrences x y 0 x.length (x.length + 1)) y.length := (if_neg (ne_true_of_eq_false h1)).trans (if_neg (ne_true_of_eq_false hf))
      rw [es] at hle
      refine call_meets F.slot_str_split (typeIs_str _ _ _) F.entry_str_split (F.args_str_split_2 _ _) (meets_str_split_sep x y t u h1 hy hf (Nat.le_trans (Nat.le_add_right _ _) hsz) (Nat.le_trans hle hsz)) ?_
      show wants Q E _ { s with toks := _, heap := s.heap.push { cls := .type "list", data := .seq (strsFrom s.toks (partsBetween x (occurrences x y 0 x.length (x.length + 1)) y.length)).toArray } }
      rw [strsFrom_eq]
      exact hq (numbered s.toks _) _ ((numbered_texts _ _).trans es.symm)
    · exact call_meets F.slot_str_split (typeIs_str _ _ _) F.entry_str_split (F.args_str_split_2 _ _) (meets_str_split_not_found x y t u h1 hy hf)
        (hq [(x, t)] s.toks ((if_neg (ne_true_of_eq_false h1)).trans (if_pos hf)).symm)
  · exact call_meets F.slot_str_split (typeIs_str _ _ _) F.entry_str_split (F.args_str_split_2 _ _) (meets_str_split_cannot_occur x y t u h1)
      (hq [(x, t)] s.toks (if_pos h1).symm)
theorem vals_of_strs : ∀ (l : List (Str × Tok)), Vals ((l.map (·.1)).map V.str) (strValues l)
  | [] => .nil
  | (a, t) :: l => .cons ⟨t, rfl⟩ (vals_of_strs l)
section
variable {X : Cx}
def rSplit : V → List V → Hp → VK → Prop := fun x vs H Q => ∃ z y, x = .str z ∧ vs = [.str y] ∧ (y.length == 0) = false ∧ z.length ≤ 900 ∧ ∀ l, H l = none → Q (.ref l) (upd H l (.lst ((Txt.split z y).map V.str)))
theorem mt_split : MtM X "str.split" rSplit := by
  intro pins s σ H x xs v us Q I r rv h
  obtain ⟨z, y, rfl, rfl, hy, hz, q⟩ := h
  obtain ⟨t, rfl⟩ := r
  obtain ⟨u, rfl, t2, rfl⟩ := vals1 rv
  have hz2 : z.length + 2 ≤ sizeLine := Nat.le_of_lt (small1000 (by omega))
  refine split_new hy hz2 fun l k e => ?_
  have hl : ((Txt.split z y).map V.str).length ≤ sizeLine := by rw [List.length_map]; exact Nat.le_trans (split_le z y) hz2
  have hv : Vals ((Txt.split z y).map V.str) (strValues l) := e ▸ vals_of_strs l
  exact ⟨.ref s.heap.objs.size, _, I.laid (fun b o e => Heap.get?_push_of_some _ e) (Nat.le_refl _) (show ObjOk X.prog X.w _ _ _ (.lst _) from ⟨hl, strValues l, _, hv, Heap.get?_push_size _ rfl⟩), rfl, q _ (I.hok.fresh (Nat.le_refl _))⟩
theorem call_list_txt (hc : X.calm = true) : CallR X (.type "list") (fun xs H Q => ∃ z, xs = [.str z] ∧ z.cps.size ≤ 1000 ∧ ∀ l, H l = none → Q (.ref l) (upd H l (.lst (z.cps.toList.map fun c => V.str ⟨#[c]⟩)))) := by
  intro pins s σ H xs us Q I r h
  obtain ⟨z, rfl, hz, q⟩ := h
  obtain ⟨u, rfl, t, rfl⟩ := vals1 r
  have hz2 : z.cps.size ≤ sizeLine := Nat.le_of_lt (small1000 hz)
  refine call_list_str (I.ok.hd hc) z t (fun h' tk acc' c' kp e' hit => ?_) hz2
  have hv : Vals (z.cps.toList.map fun c => V.str ⟨#[c]⟩) acc'.toList := by
    refine vals_of (by simp [hit.1]) fun i x u h1 h2 => ?_
    obtain ⟨c, t', hc', rfl⟩ := hit.2 i u (by simpa using h2)
    have : x = V.str ⟨#[c]⟩ := by
      rw [List.getElem?_map] at h1
      have : z.cps.toList[i]? = some c := by simpa using hc'
      rw [this] at h1
      exact (Option.some.inj h1).symm
    subst this
    exact ⟨t', rfl⟩
  have hl : (z.cps.toList.map fun c => V.str ⟨#[c]⟩).length ≤ sizeLine := by simpa using hz2
  exact ⟨.ref s.heap.objs.size, _, I.laid kp (Nat.le_refl _) (show ObjOk X.prog X.w _ h' _ (.lst _) from ⟨hl, acc'.toList, c', hv, by simpa using e'⟩), rfl, q _ (I.hok.fresh (Nat.le_refl _))⟩
def rMaxL (K : PySem.W.Frag) : List V → Hp → VK → Prop := fun xs H Q => ∃ (p : Addr) (ns : List Int), xs = [.ref p] ∧ SqL K H p (ns.map V.int) ∧ 0 < ns.length ∧ ∀ M, M ∈ ns → (∀ a ∈ ns, a ≤ M) → Q (.int M) H
theorem call_max_l (hc : X.calm = true) : CallR X (.builtin "max") (rMaxL X.K) := by
  intro pins s σ H xs us Q I r h
  obtain ⟨p, ns, rfl, hq, hn, q⟩ := h
  obtain ⟨u, rfl, rx⟩ := vals1 r
  cases rx
  obtain ⟨its, rv, pl, hz⟩ := I.list hq
  have hi := ints_are rv
  have hl := pl.isList
  obtain ⟨xs, e⟩ := hi.allInts.items
  have hns : ns = xs.toList.map (·.1) := by rw [← hi.numsOf, ← nums_intItems, ← e]
  have hsz : 0 < xs.size := by
    have h3 := hn; rw [hns, List.length_map, Array.length_toList] at h3; exact h3
  rw [e] at hl
  refine max_intList (I.ok.hd hc) hl hsz fun v h' tk hv hk => ?_
  obtain ⟨t, rfl⟩ := intItems_at hv
  obtain ⟨h1, h2⟩ := argBest_gt (numAt xs) (xs.size - 1)
  refine ⟨.int _, H, I.kept hk, ⟨t, rfl⟩, q _ ?_ fun a ha => ?_⟩
  · rw [hns, numAt_eq]; exact getD_mem (by rw [List.length_map, Array.length_toList]; omega)
  · rw [hns] at ha
    obtain ⟨j, hj, rfl⟩ := mem_getD ha
    rw [List.length_map, Array.length_toList] at hj
    rw [← numAt_eq]; exact h2 j (by omega)
end
/-! ### zip(list, text) -/
abbrev zs1 (h : Heap) (l : Addr) : Heap := h.push { cls := .type "list_iterator", data := .fields #[.ref l, .int 0 0] }
abbrev zs2 (h : Heap) (l : Addr) (z : Str) (t : Tok) : Heap := (zs1 h l).push { cls := .type "str_ascii_iterator", data := .fields #[.str z t, .int 0 0] }
abbrev zs3 (h : Heap) (l : Addr) (z : Str) (t : Tok) : Heap := (zs2 h l z t).push { cls := .type "tuple", data := .seq #[.ref h.objs.size, .ref (zs1 h l).objs.size] }
abbrev zs4 (h : Heap) (l : Addr) (z : Str) (t : Tok) : Heap := (zs3 h l z t).push { cls := .type "tuple", data := .seq #[.none, .none] }
abbrev zs5 (h : Heap) (l : Addr) (z : Str) (t : Tok) : Heap := (zs4 h l z t).push { cls := .type "zip", data := .fields #[.none, .bool false, .bool false, .ref (zs2 h l z t).objs.size, .ref (zs3 h l z t).objs.size] }
theorem meetsZS (l1 : Addr) (xs : Array Value) (z : Str) (t : Tok) (ha : z.cps.all (· < 128) = true) : Meets (Builtin.«zip.__new__» ⟨[.type "zip", .ref l1, .str z t], []⟩) (fun _ R s => s.heap.IsList l1 xs ∧ R (.ok (.ret (.ref (zs4 s.heap l1 z t).objs.size))) { s with heap := zs5 s.heap l1 z t }) := .of_wp fun prog w A R s h => by
    obtain ⟨hp, g, d, tk, os⟩ := s; obtain ⟨hl1, h⟩ := h; have hsub := sub_zip
    have hL1 : Heap.IsList (Shared.heap ⟨hp, g, d, tk, os⟩) l1 xs := hl1
    wp_walk using wpAny_pyIter_list hL1, wpAny_pyIter_ascii ha; exact ⟨_, rfl, h⟩
theorem callZS {prog : Program} {w : World} {A : Around} {E : Value → Shared → Prop} {s : Shared} {l1 : Addr} {xs : Array Value} {z : Str} {t : Tok} {Q : Value → Shared → Prop} (ha : z.cps.all (· < 128) = true) (hl1 : s.heap.IsList l1 xs)
    (h : ∀ h' n, n = s.heap.objs.size → IsZip h' (n + 4) (n + 2) (n + 3) .none → IsPair h' (n + 2) (.ref n) (.ref (n + 1)) → IsPair h' (n + 3) .none .none → h'.IsListIter n l1 0 → h'.IsStrIter (n + 1) "str_ascii_iterator" z t 0 → (∀ c o, s.heap.get? c = some o → h'.get? c = some o) → Q (.ref (n + 4)) { s with heap := h' }) : wpAny (model prog w) A (call (.type "zip") [.ref l1, .str z t]) Q E s := by
  refine callType_new F.called_zip (by decide) (F.typeCall_zip_2 _ _) (F.newCall_zip_2 _ _) (fun obj => F.args_object_init_3 obj _ _) F.entry_zip_new (meetsZS l1 xs z t ha) ⟨hl1, ?_⟩
  have z1 : (zs1 s.heap l1).objs.size = s.heap.objs.size + 1 := Heap.size_push ..
  have z2 : (zs2 s.heap l1 z t).objs.size = s.heap.objs.size + 2 := by rw [Heap.size_push, z1]
  have z3 : (zs3 s.heap l1 z t).objs.size = s.heap.objs.size + 3 := by rw [Heap.size_push, z2]
  have z4 : (zs4 s.heap l1 z t).objs.size = s.heap.objs.size + 4 := by rw [Heap.size_push, z3]
  have g5 : (zs5 s.heap l1 z t).get? (zs4 s.heap l1 z t).objs.size = some _ := Heap.get?_push_size _ rfl
  have g4 : (zs5 s.heap l1 z t).get? (zs3 s.heap l1 z t).objs.size = some _ := Heap.get?_push_of_some _ (Heap.get?_push_size _ rfl)
  have g3 : (zs5 s.heap l1 z t).get? (zs2 s.heap l1 z t).objs.size = some _ := Heap.get?_push_of_some _ (Heap.get?_push_of_some _ (Heap.get?_push_size _ rfl))
  have g2 : (zs5 s.heap l1 z t).get? (zs1 s.heap l1).objs.size = some _ := Heap.get?_push_of_some _ (Heap.get?_push_of_some _ (Heap.get?_push_of_some _ (Heap.get?_push_size _ rfl)))
  have g1 : (zs5 s.heap l1 z t).get? s.heap.objs.size = some _ := Heap.get?_push_of_some _ (Heap.get?_push_of_some _ (Heap.get?_push_of_some _ (Heap.get?_push_of_some _ (Heap.get?_push_size _ rfl))))
  show _ ∧ _; rw [z2, z3, z4] at g5; rw [z1, z2] at g3; rw [z3] at g4; rw [z1] at g2; rw [z4]
  exact ⟨⟨_, g5, rfl⟩, h _ _ rfl g5 g3 g4 ⟨_, g1, rfl, rfl⟩ ⟨_, g2, rfl, rfl⟩ fun c o x => Heap.get?_push_of_some _ (Heap.get?_push_of_some _ (Heap.get?_push_of_some _ (Heap.get?_push_of_some _ (Heap.get?_push_of_some _ x))))⟩
def ItZS (K : PySem.W.Frag) (a : Addr) (z : Str) : It :=
  ⟨fun i H => ∃ xs x, SqL K H a xs ∧ xs[i]? = some x ∧ i < z.cps.size,
   fun i H v H' => ∃ p x c, H p = none ∧ (∀ xs, SqL K H a xs → xs[i]? = some x) ∧ z.cps[i]? = some c ∧ v = .ref p ∧ H' = upd H p (.tup [x, .str ⟨#[c]⟩]),
   fun i H => ∃ xs, SqL K H a xs ∧ xs.length = i⟩
theorem turn_zipS {P : Program} {w : World} {K : PySem.W.Frag} {elts : List Expr} {x1 : Nat} {pos : Pos} (n a : Addr) (ha : a < n) (z : Str) (t : Tok) :
    Turn P w K (.Tuple elts x1 pos) (ItZS K a z) [n + 4, n + 2, n + 3, n, n + 1] (n + 4) (fun i h => IsZip h (n + 4) (n + 2) (n + 3) .none ∧ IsPair h (n + 2) (.ref n) (.ref (n + 1)) ∧ (∃ u v, IsPair h (n + 3) u v) ∧ h.IsListIter n a i ∧ h.IsStrIter (n + 1) "str_ascii_iterator" z t i) := by
  have hap : ZApart (n + 4) (n + 2) (n + 3) n (n + 1) [n, a] [n + 1] := by
    have h1 : @LT.lt Nat _ a n := ha
    constructor <;> first
      | (intro h; simp only [List.mem_cons, List.not_mem_nil, or_false] at h; rcases h with h | h <;> (have h' : @Eq Nat _ _ := h; omega))
      | (intro h; simp only [List.mem_singleton] at h; have h' : @Eq Nat _ _ := h; omega)
      | (intro h; have h' : @Eq Nat _ _ := h; omega)
  exact {
    mem := by simp
    obj := fun i h st c hb => by
      obtain ⟨h1, h2, ⟨u, v, h3⟩, ⟨o4, e4, c4, d4⟩, ⟨o5, e5, c5, d5⟩⟩ := st
      simp only [List.mem_cons, List.not_mem_nil, or_false] at hb
      rcases hb with rfl | rfl | rfl | rfl | rfl
      · exact ⟨_, h1, fun v z => by cases z⟩
      · exact ⟨_, h2, fun v z => by cases z⟩
      · exact ⟨_, h3, fun v z => by cases z⟩
      · exact ⟨o4, e4, fun v z => by rw [d4] at z; cases z⟩
      · exact ⟨o5, e5, fun v z => by rw [d5] at z; cases z⟩
    keep := fun i h h' st k => by
      obtain ⟨h1, h2, ⟨u, v, h3⟩, h4, ⟨o5, e5, r5⟩⟩ := st
      exact ⟨k _ (by simp) _ h1, k _ (by simp) _ h2, ⟨u, v, k _ (by simp) _ h3⟩, h4.at fun o e => k _ (by simp) o e, ⟨o5, k _ (by simp) o5 e5, r5⟩⟩
    item := by
      intro X hP hw hK hc i pins s σ H E I hf st hg
      subst hP hw hK
      obtain ⟨h1, h2, ⟨u0, v0, h3⟩, h4, h5⟩ := st
      obtain ⟨xs, x, hqa, hx, hi⟩ := hg
      obtain ⟨ia, ra, pa, _⟩ := I.list hqa
      obtain ⟨ua, hua, rua⟩ := ra.get hx
      have hA : X.A.in1.handled = none := I.ok.hd hc
      have la : i < ia.toArray.size := by rw [List.size_toArray]; exact (List.getElem?_eq_some_iff.mp hua).1
      refine nextZ_item (Draws.list hA n a (Nat.ne_of_lt ha) ia.toArray) (Draws.strAscii hA (n + 1) z t) hap h1 h2 h3 ⟨h4, pa.isList⟩ h5 la hi fun h' x' y' tk e1 e2 hz ho hi1 hi2 hp kp => ?_
      have e1' : x' = ua := by have : ia[i]? = some x' := by simpa using e1
                               rw [hua] at this; cases this; rfl
      obtain ⟨c, u, hcx, e2'⟩ := e2
      subst e1' e2'
      refine ⟨_, rfl, wpAny_letOwnedTupleGo_zip hz fun hh hz2 hs2 => ?_⟩
      have hn : H s.heap.objs.size = none := I.hok.fresh (Nat.le_refl _)
      have lz : s.heap.objs.size ≠ n + 4 := Nat.ne_of_gt (Heap.lt_size h1)
      have ht2 : hh.get? s.heap.objs.size = some { cls := .type "tuple", data := .seq #[x', .str ⟨#[c]⟩ u] } := (hs2.2 _ lz).trans hp
      refine ⟨.ref s.heap.objs.size, upd H s.heap.objs.size (.tup [x, .str ⟨#[c]⟩]), I.turnNew (fp := [n + 4, n + 2, n + 3, n, n + 1]) hf (fun c o hb q => ?_) (Nat.le_refl _) (show ObjOk X.prog X.w _ hh _ (.tup _) from ⟨(by show 2 ≤ sizeLine; decide), [x', .str ⟨#[c]⟩ u], .cons rua (.cons ⟨u, rfl⟩ .nil), _, ht2, rfl, _, rfl⟩), rfl, ⟨_, x, c, hn, fun zs hz => by rw [I.list_inj hz hqa]; exact hx, hcx, rfl, rfl⟩, ?_, fun c hb => ?_⟩
      · simp only [List.mem_cons, List.not_mem_nil, or_false, not_or] at hb
        exact (hs2.2 c hb.1).trans (kp c o hb.1 hb.2.2.1 hb.2.2.2.1 hb.2.2.2.2 q)
      · obtain ⟨o5, e5, r5⟩ := hi2
        exact ⟨hz2, (hs2.2 _ hap.tz).trans (kp _ _ hap.tz hap.to hap.ta hap.tb h2), ⟨_, _, (hs2.2 _ hap.oz).trans ho⟩, hi1.1.at fun o e => (hs2.2 _ hap.az).trans e, ⟨o5, (hs2.2 _ hap.bz).trans e5, r5⟩⟩
      · have hb' := (hf c hb).1
        rw [upd_ne (fun z => ?_)]
        · exact hb'
        · have hz4 : @LT.lt Nat _ (n + 4) s.heap.objs.size := Heap.lt_size h1
          have z' : @Eq Nat c s.heap.objs.size := z
          simp only [List.mem_cons, List.not_mem_nil, or_false] at hb
          rcases hb with h | h | h | h | h <;> (have h' : @Eq Nat _ _ := h; omega)
    done := by
      intro X hP hw hK hc i pins s σ H E I hf st hg
      subst hP hw hK
      obtain ⟨h1, h2, ⟨u0, v0, h3⟩, h4, h5⟩ := st
      obtain ⟨xs, hqa, hx⟩ := hg
      obtain ⟨ia, ra, pa, _⟩ := I.list hqa
      have la := ra.length
      have hA : X.A.in1.handled = none := I.ok.hd hc
      have ei : ia.toArray.size = i := by rw [List.size_toArray]; omega
      refine nextZ_end (Draws.list hA n a (Nat.ne_of_lt ha) ia.toArray) hap h1 h2 ⟨by rw [ei]; exact h4, pa.isList⟩ fun h' kp => ⟨rfl, I.turnAll (t' := s.toks) hf fun c o hb q => ?_⟩
      simp only [List.mem_cons, List.not_mem_nil, or_false, not_or] at hb
      exact kp c o hb.1 hb.2.2.2.1 q
    self := fun _ _ _ _ _ st h => wpAny_pyIter_zip st.1 h }
def iZipS (K : PySem.W.Frag) (ta : TA) : TI := fun σ H R => ta σ H fun vs H1 => ∃ a z, vs = [.ref a, .str z] ∧ (∃ xs, SqL K H1 a xs) ∧ z.cps.all (· < 128) = true ∧ R (ItZS K a z) H1
theorem qpi_zipS {X : Cx} {a b : Expr} {ta : TA} {elts : List Expr} {x1 : Nat} {p pos tpos : Pos} (hg : Gl X "zip") (hm : X.mg "zip" = none) (ha : QA X [a, b] ta) (hs : starEach [a, b] X.env = (false, eval a X.env) :: starEach [b] X.env := by rfl) (hpl : (backTo pos (starEach [b] X.env)).any (·.1) = false := by rfl) :
    QI X (.Tuple elts x1 tpos) (.Call (.Name "zip" p) [a, b] [] pos) (iZipS X.K ta) := ⟨by
  intro pins s σ H R I h
  refine Call_ (ld_blt I hg hm boot_zip (PyProof.Rows.callWith_type1 (thn (ha.h pos pins s σ H _ I h) fun us s1 ⟨vs, H1, I1, r1, z1, z, e, ⟨xs, hx⟩, hz, q⟩ => ?_) hs hpl))
  subst e
  obtain ⟨u, u', rfl, r2, r3⟩ := vals2 r1
  cases r2
  obtain ⟨t, rfl⟩ := r3
  obtain ⟨ia, ra, pa, _⟩ := I1.list hx
  obtain ⟨oa, hoa, _⟩ := id pa.isList
  refine callZS hz pa.isList fun h' n en hz hti hto hi1 hi2 kp => ?_
  refine wpAny_pyIter_zip hz ?_
  have I2 : Inv X pins σ H1 { s1 with heap := h' } := I1.kept (t' := s1.toks) kp
  refine ⟨_, _, _, _, H1, rfl, I2, turn_zipS n z1 (by rw [en]; exact Heap.lt_size hoa) z t, ⟨hz, hti, ⟨_, _, hto⟩, hi1, hi2⟩, fun b hb => ?_, q⟩
  have hle : s1.heap.objs.size ≤ b := by
    simp only [List.mem_cons, List.not_mem_nil, or_false] at hb
    have en' : @Eq Nat n s1.heap.objs.size := en
    show @LE.le Nat _ _ _
    rcases hb with h | h | h | h | h <;> (have h' : @Eq Nat _ _ := h; omega)
  exact I1.fpOk hle (I1.hok.fresh hle)⟩
theorem w_forZS {K : PySem.W.Frag} {σ : St} {H : Hp} {D : Ends} {ta : TA} {g : TG} {tb : TS} : tFor (iZipS K ta) g tb D σ H = ta σ H fun vs H1 => ∃ a z, vs = [.ref a, .str z] ∧ (∃ xs, SqL K H1 a xs) ∧ z.cps.all (· < 128) = true ∧ ForJ (ItZS K a z) g tb D σ H1 := rfl
theorem for_zipS {K : PySem.W.Frag} {σ : St} {H : Hp} {D : Ends} {a : Addr} {xs : List V} {z : Str} {g : TG} {tb : TS} (hle : xs.length ≤ z.cps.size) (Pv : Nat → St → Hp → Prop) (h0 : Pv 0 σ H) (hl : ∀ i σ H, Pv i σ H → SqL K H a xs)
    (hs : ∀ i x c σ H p, xs[i]? = some x → z.cps[i]? = some c → Pv i σ H → H p = none → g (.ref p) σ (upd H p (.tup [x, .str ⟨#[c]⟩])) fun σ2 H2 => tb { D with nx := Pv (i + 1), ct := Pv (i + 1), bk := D.nx } σ2 H2) (hd : ∀ σ H, Pv xs.length σ H → D.nx σ H) : ForJ (ItZS K a z) g tb D σ H := by
  refine ⟨fun i m σ H => m + i = xs.length ∧ Pv i σ H, ⟨xs.length, rfl, h0⟩, ?_⟩
  rintro i m σ H ⟨hm, hp⟩
  have q1 := hl i σ H hp
  by_cases hi : i < xs.length
  · refine .inr ⟨⟨xs, xs[i], q1, by simp [hi], Nat.lt_of_lt_of_le hi hle⟩, Pv (i + 1), fun σ' H' h => ⟨m - 1, by omega, by omega, h⟩, ?_⟩
    rintro v H' ⟨p, x, c, hn, hx, hc, rfl, rfl⟩
    exact hs i x c σ H p (hx xs q1) hc hp hn
  · have e : i = xs.length := by omega
    subst e
    exact .inl ⟨⟨xs, q1, rfl⟩, hd σ H hp⟩
end L2

set_option Elab.async false
set_option linter.all false
set_option maxRecDepth 100000
set_option maxHeartbeats 4000000
/-! A maze taken apart (k19, k20). -/
namespace Rm
open PySem L2 PyProof.Rows
def mxZ (ns : List Int) : Int := ns.foldl max 0
def isCut (ns : List Int) (k : Nat) : Bool := decide (mxZ (ns.take k) = k)
def cutsZ (ns : List Int) (m : Nat) : List Nat := ((List.range m).filter fun i => isCut ns (i + 1)).map (· + 1)
def seg (ns : List Int) (s c : Nat) : List Int := ((ns.take c).drop s).map (· - (s : Int))
abbrev Pt := Bool × List Int
def stepP (b : Bool) (ns : List Int) (p : List Pt × Nat) (c : Nat) : List Pt × Nat := (p.1 ++ [(b ^^ odd p.2, seg ns p.2 c)], c)
def partsP (b : Bool) (ns : List Int) (cs : List Nat) : List Pt × Nat := cs.foldl (stepP b ns) ([], 0)
/-- a maze at a value -/
def Mz (H : Hp) (v : V) (p : Pt) : Prop := ∃ a o, v = .ref a ∧ MazeAt H a o p.1 p.2
def Parts (H : Hp) (l : Addr) (ps : List Pt) : Prop := ∃ vs, H l = some (.lst vs) ∧ Paired (Mz H) vs ps
def shiftZ (n : Nat) (ms : List Int) : List Int := ms.map ((n : Int) + ·)
def spCellA (K : PySem.W.Frag) : Sp := fun vs H Q _ => ∃ (a : Addr) (ns : List Int) (k : Nat), vs = [.ref a, .int k] ∧ SqL K H a (ns.map V.int) ∧ ∀ v : Int, Q (.int v) H
def spDigs : Sp := fun vs H Q _ => ∃ (c : Int) (n : Nat), vs = [.int c, .int n] ∧ n ≤ 60 ∧ ∀ (l : Addr) (ds : List Int) (H' : Hp), H l = none → Same H H' → H' l = some (.lst (ds.map V.int)) → ds.length = n → Q (.ref l) H'
def spOrderN : Sp := fun vs H Q _ => ∃ (c : Int) (n : Nat), vs = [.int c, .int n] ∧ n ≤ 60 ∧ ∀ (l : Addr) (ns : List Int) (H' : Hp), H l = none → Same H H' → H' l = some (.tup (ns.map V.int)) → ns.length = n → ns.Perm (rngZ 1 n) → Q (.ref l) H'
def spSideL : Sp := fun vs H Q _ => ∃ (b : Bool) (k : Nat), vs = [.str (sd b), .int k] ∧ ∀ H', Same H H' → Q (.str (sd (b ^^ odd k))) H'
def spIsMz : Sp := fun vs H Q _ => ∃ (a b : Addr) (o1 o2 : Addr) (s : Bool) (ns : List Int), vs = [.ref a, .ref b] ∧ MazeAt H a o1 s ns ∧ MazeAt H b o2 s ns ∧ ns.length ≤ 60 ∧ ∀ H', Same H H' → Q (.bl true) H'
def spCuts : Sp := fun vs H Q _ => ∃ (o : Addr) (ns : List Int), vs = [.ref o] ∧ H o = some (.tup (ns.map V.int)) ∧ ns.length ≤ 60 ∧ ∀ (l : Addr) (H' : Hp), H l = none → Same H H' → H' l = some (.lst ((cutsZ ns ns.length).map fun c : Nat => V.int c)) → Q (.ref l) H'
def spApart : Sp := fun vs H Q _ => ∃ (m o : Addr) (b : Bool) (ns : List Int), vs = [.ref m] ∧ MazeAt H m o b ns ∧ ns.length ≤ 60 ∧ ∀ (l : Addr) (H' : Hp), H l = none → Same H H' → Parts H' l (partsP b ns (cutsZ ns ns.length)).1 → Q (.ref l) H'
end Rm

set_option Elab.async false
set_option linter.all false
set_option maxRecDepth 100000
set_option maxHeartbeats 4000000
/-! States: texts of signs, specs of the defs. -/
namespace Rm
open PySem L2
def tx (cs : List Nat) : Str := ⟨cs.toArray⟩
def sg1 (c : Nat) : V := V.str ⟨#[c]⟩
theorem tx_len (cs : List Nat) : (tx cs).length = cs.length := by simp [tx, Str.length]
theorem tx_cps (cs : List Nat) : (tx cs).cps.toList = cs := by simp [tx]
theorem tx_size (cs : List Nat) : (tx cs).cps.size = cs.length := by simp [tx]
theorem tx_app (a b : List Nat) : tx a ++ tx b = tx (a ++ b) := by
  show Str.mk _ = Str.mk _
  simp [tx]
theorem tx_inj {a b : List Nat} (h : tx a = tx b) : a = b := by
  have := congrArg (fun z : Str => z.cps.toList) h
  simpa [tx] using this
theorem str_of (z : Str) : z = tx z.cps.toList := by cases z; simp [tx]
theorem one_tx (c : Nat) : (⟨#[c]⟩ : Str) = tx [c] := rfl
theorem s_bar : Str.ofString "|" = tx [124] := by decide +kernel
theorem s_op : Str.ofString "(" = tx [40] := by decide +kernel
theorem s_cl : Str.ofString ")" = tx [41] := by decide +kernel
theorem s_st : Str.ofString "*" = tx [42] := by decide +kernel
theorem s_ss : Str.ofString "**" = tx [42, 42] := by decide +kernel
theorem s_oc : Str.ofString "()" = tx [40, 41] := by decide +kernel
theorem s_obc : Str.ofString "(|)" = tx [40, 124, 41] := by decide +kernel
theorem s_sb : Str.ofString "*|" = tx [42, 124] := by decide +kernel
theorem s_bs : Str.ofString "|*" = tx [124, 42] := by decide +kernel
theorem s_a : Str.ofString "a" = tx [97] := by decide +kernel
theorem s_b : Str.ofString "b" = tx [98] := by decide +kernel
theorem s_c : Str.ofString "c" = tx [99] := by decide +kernel
theorem s_d : Str.ofString "d" = tx [100] := by decide +kernel
theorem s_l : Str.ofString "l" = tx [108] := by decide +kernel
theorem eq_one {a b : Nat} : ((⟨#[a]⟩ : Str) = tx [b]) = (a = b) := propext ⟨fun h => by have := tx_inj (show tx [a] = tx [b] from h); simpa using this, fun h => by rw [h]; rfl⟩
theorem tx_ascii {cs : List Nat} (h : ∀ c ∈ cs, c < 128) : (tx cs).cps.all (· < 128) = true := by
  rw [← Array.all_toList, tx_cps, List.all_eq_true]
  intro c hc
  exact decide_eq_true (h c hc)
theorem tx_at {cs : List Nat} {i : Nat} {c : Nat} (h : cs[i]? = some c) : atI (tx cs).cps.toList (i : Int) = some c := by rw [tx_cps]; exact atI_nat h
theorem cnt_app (c : Nat) : ∀ (a b : List Nat), PyProof.Rows.cnt c (a ++ b) = PyProof.Rows.cnt c a + PyProof.Rows.cnt c b
  | [], b => by rw [PyProof.Rows.cnt_nil, List.nil_append]; omega
  | x :: a, b => by rw [List.cons_append, PyProof.Rows.cnt_cons, PyProof.Rows.cnt_cons, cnt_app c a b]; omega
theorem cnt_not {c : Nat} : ∀ {a : List Nat}, c ∉ a → PyProof.Rows.cnt c a = 0
  | [], _ => PyProof.Rows.cnt_nil c
  | x :: a, h => by
    simp only [List.mem_cons, not_or] at h
    rw [PyProof.Rows.cnt_cons, cnt_not h.2, if_neg (Ne.symm h.1)]; rfl
theorem bar_inj {A B : List Nat} (hA : 124 ∉ A) : ∀ (X Y : List Nat), 124 ∉ X → X ++ 124 :: Y = A ++ 124 :: B → X = A ∧ Y = B := by
  induction A with
  | nil =>
    intro X Y hX e
    cases X with
    | nil => simpa using e
    | cons x X => simp at e hX; exact absurd e.1.symm hX.1
  | cons a A ih =>
    intro X Y hX e
    simp only [List.mem_cons, not_or] at hA
    cases X with
    | nil => simp at e; exact absurd e.1 hA.1
    | cons x X =>
      simp only [List.cons_append, List.cons.injEq] at e
      simp only [List.mem_cons, not_or] at hX
      obtain ⟨h1, h2⟩ := ih hA.2 X Y hX.2 e.2
      exact ⟨by rw [e.1, h1], h2⟩
/-- a text parted at the one bar in it -/
theorem split_bar {A B : List Nat} (hA : 124 ∉ A) (hB : 124 ∉ B) : Txt.split (tx (A ++ 124 :: B)) (tx [124]) = [tx A, tx B] := by
  have hc : Rm.tx [124] = (⟨#[124]⟩ : Str) := rfl
  rw [hc]
  have hl := PyProof.Rows.split_len (tx (A ++ 124 :: B)) 124
  have hf := StrLaws.split_free (tx (A ++ 124 :: B)) 124
  have hj := StrLaws.join_split (tx (A ++ 124 :: B)) ⟨#[124]⟩
  rw [tx_cps, cnt_app, PyProof.Rows.cnt_cons, cnt_not hA, cnt_not hB, if_pos rfl] at hl
  generalize Txt.split (tx (A ++ 124 :: B)) ⟨#[124]⟩ = l at *
  have h2 : l.length = 2 := by omega
  obtain ⟨p, r, rfl⟩ := List.exists_cons_of_length_eq_add_one h2
  obtain ⟨q, r, rfl⟩ := List.exists_cons_of_length_eq_add_one (l := r) (n := 0) (by simpa using h2)
  have : r = [] := List.eq_nil_of_length_eq_zero (by simpa using h2)
  subst this
  have fp := hf p (by simp)
  have e : p.cps.toList ++ 124 :: q.cps.toList = A ++ 124 :: B := by
    have hj' : p ++ (⟨#[124]⟩ : Str) ++ q = tx (A ++ 124 :: B) := hj
    have := congrArg (fun z : Str => z.cps.toList) hj'
    rw [tx_cps] at this
    rw [← this]
    show _ = (p.cps ++ #[124] ++ q.cps).toList
    simp
  obtain ⟨e1, e2⟩ := bar_inj hA _ _ fp e
  rw [str_of p, str_of q, e1, e2]
theorem zx_to {n p : Nat} (h : p ≤ n) : Builtin.Str.strSliceIndices none (some (p : Int)) 1 n = List.range p := by
  unfold Builtin.Str.strSliceIndices sliceRange
  simp only [show (1 : Int) > 0 by decide, if_true]
  have e : max 0 (min (if (p : Int) < 0 then (p : Int) + n else p) (n : Int)) = p := by rw [if_neg (by omega)]; omega
  rw [e]
  have e2 : (if (0 : Int) < p then ((p : Int) - 0 + 1 - 1) / 1 else 0).toNat = p := by split <;> omega
  rw [e2]
  have e3 : (fun k : Nat => (0 + 1 * (k : Int)).toNat) = id := by funext k; show (0 + 1 * (k : Int)).toNat = k; omega
  rw [e3, List.map_id]
theorem zx_last {n : Nat} : Builtin.Str.strSliceIndices none (some (-1)) 1 n = List.range (n - 1) := by
  unfold Builtin.Str.strSliceIndices sliceRange
  simp only [show (1 : Int) > 0 by decide, if_true, show (-1 : Int) < 0 by decide]
  have e : max 0 (min (-1 + (n : Int)) (n : Int)) = ((n - 1 : Nat) : Int) := by omega
  rw [e]
  have e2 : (if (0 : Int) < ((n - 1 : Nat) : Int) then (((n - 1 : Nat) : Int) - 0 + 1 - 1) / 1 else 0).toNat = n - 1 := by split <;> omega
  rw [e2]
  have e3 : (fun k : Nat => (0 + 1 * (k : Int)).toNat) = id := by funext k; show (0 + 1 * (k : Int)).toNat = k; omega
  rw [e3, List.map_id]
theorem zx_from {n p : Nat} (h : p ≤ n) : Builtin.Str.strSliceIndices (some (p : Int)) none 1 n = (List.range (n - p)).map (p + ·) := by
  unfold Builtin.Str.strSliceIndices sliceRange
  simp only [show (1 : Int) > 0 by decide, if_true]
  have e : max 0 (min (if (p : Int) < 0 then (p : Int) + n else p) (n : Int)) = p := by rw [if_neg (by omega)]; omega
  rw [e]
  have e2 : (if (p : Int) < n then ((n : Int) - p + 1 - 1) / 1 else 0).toNat = n - p := by split <;> omega
  rw [e2]
  refine List.map_congr_left fun k _ => ?_
  show ((p : Int) + 1 * (k : Int)).toNat = p + k
  omega
theorem zm_take {α : Type} (l : List α) : ∀ p, p ≤ l.length → (List.range p).filterMap (fun i => l[i]?) = l.take p
  | 0, _ => rfl
  | p + 1, h => by
    rw [List.range_succ, List.filterMap_append, zm_take l p (by omega), List.take_add_one]
    have : l[p]? = some l[p] := List.getElem?_eq_getElem (by omega)
    simp [this]
theorem zm_drop {α : Type} (l : List α) (p : Nat) (h : p ≤ l.length) : ((List.range (l.length - p)).map (p + ·)).filterMap (fun i => l[i]?) = l.drop p := by
  rw [List.filterMap_map]
  have e : ((fun i => l[i]?) ∘ fun x => p + x) = fun j => (l.drop p)[j]? := by funext j; show l[p + j]? = _; rw [List.getElem?_drop]
  rw [e, zm_take _ _ (by rw [List.length_drop]; omega), List.take_of_length_le (by rw [List.length_drop]; omega)]
theorem tx_cpF (cs : List Nat) : (fun i : Nat => (tx cs).cps[i]?) = fun i => cs[i]? := by funext i; simp [tx]
theorem tx_to {cs : List Nat} {p : Nat} (h : p ≤ cs.length) : Txt.slice (tx cs) none (some (p : Int)) = tx (cs.take p) := by
  unfold Txt.slice
  rw [tx_len, zx_to h]
  split
  · rename_i c
    have : p = cs.length := by simpa using c
    rw [this, List.take_length]
  · rw [tx_cpF, zm_take _ _ h]; rfl
theorem tx_last {P : List Nat} {c : Nat} : Txt.slice (tx (P ++ [c])) none (some (-1)) = tx P := by
  unfold Txt.slice
  rw [tx_len, zx_last]
  have e : (P ++ [c]).length - 1 = P.length := by simp
  rw [e]
  split
  · rename_i h
    simp at h
  · rw [tx_cpF, zm_take _ _ (by simp), List.take_left]; rfl
theorem tx_from {cs : List Nat} {p : Nat} (h : p ≤ cs.length) : Txt.slice (tx cs) (some (p : Int)) none = tx (cs.drop p) := by
  unfold Txt.slice
  rw [tx_len, zx_from h]
  split
  · rename_i c
    have : cs.length - p = cs.length := by simpa using c
    have hz : p = 0 ∨ cs.length = 0 := by omega
    rcases hz with rfl | hz
    · rfl
    · have := List.length_eq_zero_iff.mp hz
      subst this; simp
  · rw [tx_cpF, zm_drop _ _ h]; rfl
theorem atI_last {α : Type} {P : List α} {c : α} : atI (P ++ [c]) (-1) = some c := by
  unfold atI ixN
  have e : (P ++ [c]).length = P.length + 1 := by simp
  rw [e, if_neg (by decide), if_pos (by omega)]
  show (P ++ [c])[(-1 + ((P.length + 1 : Nat) : Int)).toNat]? = some c
  rw [show (-1 + ((P.length + 1 : Nat) : Int)).toNat = P.length by omega]
  simp
theorem cutV_toN {xs : List V} {k : Nat} (h : k ≤ xs.length) : cutV xs none (some (k : Int)) = xs.take k := by
  unfold cutV
  rw [HT.sIx_nat, HT.sIx_none, Nat.min_eq_left h]; rfl
theorem cutV_fromN {xs : List V} {k : Nat} (h : k ≤ xs.length) : cutV xs (some (k : Int)) none = xs.drop k := by
  unfold cutV
  rw [HT.sIx_nat, HT.sIx_none, show min k xs.length = k by omega]
  exact List.take_of_length_le (by rw [List.length_drop]; omega)
theorem cutV_ini {P : List V} {c : V} : cutV (P ++ [c]) none (some (-1)) = P := by
  unfold cutV
  have e : HT.sIx (P ++ [c]).length (P ++ [c]).length (some (-1)) = P.length := by unfold HT.sIx; simp; omega
  rw [e, HT.sIx_none, List.drop_zero]
  simp
theorem cutV_end {P : List V} {c : V} : cutV (P ++ [c]) (some (-1)) none = [c] := by
  unfold cutV
  have e : HT.sIx (P ++ [c]).length 0 (some (-1)) = P.length := by unfold HT.sIx; simp; omega
  rw [e, HT.sIx_none, List.drop_left]
  simp
theorem tx_fold : ∀ (cs : List Nat) (acc : Array Nat), (cs.map fun c => (⟨#[c]⟩ : Str)).foldl (fun acc p => acc ++ (Str.ofString "").cps ++ p.cps) acc = acc ++ cs.toArray
  | [], acc => by simp
  | c :: cs, acc => by
    rw [List.map_cons, List.foldl_cons, tx_fold cs]
    have : (Str.ofString "").cps = #[] := by decide +kernel
    rw [this]
    simp
theorem tx_join (cs : List Nat) : Txt.join (Str.ofString "") (cs.map fun c => (⟨#[c]⟩ : Str)) = tx cs := by
  cases cs with
  | nil => rfl
  | cons c cs =>
    show Str.mk (((((c :: cs).map fun c => (⟨#[c]⟩ : Str)).drop 1).foldl (fun acc p => acc ++ (Str.ofString "").cps ++ p.cps) (((c :: cs).map fun c => (⟨#[c]⟩ : Str)).headD Str.empty).cps)) = _
    rw [List.map_cons, List.drop_one, List.tail_cons, List.headD_cons, tx_fold]
    simp [tx]
theorem tx_joinOk {cs : List Nat} (hl : cs.length ≤ 900) : JoinOk (Str.ofString "") (cs.map fun c => (⟨#[c]⟩ : Str)) = true := by
  unfold JoinOk
  have e : Builtin.Str.tooLong ((cs.map fun c => (⟨#[c]⟩ : Str)).toArray.foldl (fun a t => a + t.length + (Str.ofString "").length) 0) = false := by
    have h0 : ∀ (cs : List Nat) (a : Nat), (cs.map fun c => (⟨#[c]⟩ : Str)).foldl (fun a t => a + t.length + (Str.ofString "").length) a = a + cs.length := by
      intro cs
      induction cs with
      | nil => intro a; rfl
      | cons b cs ih =>
        intro a
        rw [List.map_cons, List.foldl_cons, ih]
        have h1 : (⟨#[b]⟩ : Str).length = 1 := rfl
        have h2 : (Str.ofString "").length = 0 := by decide +kernel
        rw [h1, h2, List.length_cons]; omega
    rw [List.foldl_toArray', h0]
    unfold Builtin.Str.tooLong
    exact decide_eq_false (by have := small1000 (n := 0 + cs.length) (by omega); omega)
    simp
  rw [e]; rfl
/-! ### the specs -/
def outV : Option (List Int × List Int) → V
  | none => .non
  | some (L, R) => .str (tx (stx L R))
def isLt (c : Nat) : Prop := c = 97 ∨ c = 98 ∨ c = 99 ∨ c = 100
def EndsAt (H : Hp) (a : Addr) (L R : List Int) : Prop := ∃ l r, H a = some (.tup [.ref l, .ref r]) ∧ H l = some (.lst (L.map V.int)) ∧ H r = some (.lst (R.map V.int))
theorem EndsAt.same {H H' : Hp} {a : Addr} {L R : List Int} (h : EndsAt H a L R) (s : Same H H') : EndsAt H' a L R := let ⟨l, r, h1, h2, h3⟩ := h; ⟨l, r, s _ _ h1, s _ _ h2, s _ _ h3⟩
def GoV (H : Hp) (v : V) : Option (List Int × List Int) → Prop
  | none => v = .non
  | some (L, R) => ∃ a, v = .ref a ∧ EndsAt H a L R
def sideEnds (c : Nat) : List Int × List Int := if c = 108 then ([0], []) else ([], [0])
def spBegun : Sp := fun vs H Q _ => ∃ c : Nat, vs = [.str ⟨#[c]⟩] ∧ Q (.str (tx (stx (sideEnds c).1 (sideEnds c).2))) H
def spOtherE : Sp := fun vs H Q _ => ∃ (a : Addr) (cs : List Nat) (p q : Nat), vs = [.ref a, .int (p : Nat)] ∧ H a = some (.lst (cs.map sg1)) ∧ cs.length ≤ 900 ∧ Far cs p q ∧ Q (.int (q : Nat)) H
def spJoinS : Sp := fun vs H Q _ => ∃ (L R : List Int) (x y : Int), vs = [.str (tx (sgp [] (L ++ [x]))), .str (tx (sgp (L ++ [x]) (R ++ [y]).reverse))] ∧ EE (L ++ [x]) (R ++ [y]) ∧ L.length + R.length ≤ 400 ∧ ∀ H', Same H H' → Q (outV (goF (L ++ [x]) (R ++ [y]) 100)) H'
def spStep : Sp := fun vs H Q _ => ∃ (L R : List Int) (c : Nat), vs = [.str (tx (stx L R)), .str ⟨#[c]⟩] ∧ isLt c ∧ EE L R ∧ L.length + R.length ≤ 400 ∧ ∀ H', Same H H' → Q (outV (goF L R c)) H'
def spMixedN : Sp := fun vs H Q _ => ∃ n : Int, vs = [.int n] ∧ ∀ m : Int, 0 ≤ m → m < 2 ^ 61 → Q (.int m) H
def spRestN : Sp := fun vs H Q _ => ∃ n : Int, vs = [.int n] ∧ ∀ m : Int, Q (.int m) H
def spGo : Sp := fun vs H Q _ => ∃ (a : Addr) (L R : List Int) (c : Nat), vs = [.ref a, .str ⟨#[c]⟩] ∧ EndsAt H a L R ∧ isLt c ∧ EE L R ∧ L.length + R.length ≤ 400 ∧ ∀ v H', Same H H' → GoV H' v (goF L R c) → Q v H'
def spFirst : Sp := fun vs H Q _ => ∃ c : Nat, vs = [.str ⟨#[c]⟩] ∧ ∀ a H', Same H H' → EndsAt H' a (sideEnds c).1 (sideEnds c).2 → Q (.ref a) H'
def spTextE : Sp := fun vs H Q _ => ∃ (a : Addr) (L R : List Int), vs = [.ref a] ∧ EndsAt H a L R ∧ L.length + R.length ≤ 410 ∧ ∀ H', Same H H' → Q (.str (tx (stx L R))) H'
def spTold : Sp := fun vs H Q _ => ∃ (a : Addr) (L R : List Int), vs = [.str (tx (stx L R)), .ref a] ∧ EndsAt H a L R ∧ EE L R ∧ L.length + R.length ≤ 400 ∧ ∀ H', Same H H' → Q (.bl true) H'
theorem stx_len (L R : List Int) : (stx L R).length = L.length + R.length + 1 := by unfold stx; simp [sgp_len]; omega
theorem no_bar (pre A : List Int) : 124 ∉ sgp pre A := fun h => by have := sgp_in A pre 124 h; omega
section
variable {K : PySem.W.Frag} {H : Hp} {Q : VK} {a b : Addr} {xs ys : List V}
theorem newP {R : Addr → Hp → Prop} {o : HO} (q : ∀ p H', H p = none → Same H H' → H' p = some o → R p H') : ∀ p, H p = none → R p (upd H p o) := fun p hp => q p _ hp ((Same.refl H).new hp) upd_same
theorem catP (ha : H a = some (.lst xs)) (hb : H b = some (.lst ys)) (hz : xs.length + ys.length ≤ 1000) (q : ∀ p H', H p = none → Same H H' → H' p = some (.lst (xs ++ ys)) → Q (.ref p) H') : rCat (.ref a) (.ref b) H Q :=
  ⟨a, b, xs, ys, rfl, rfl, ha, hb, Nat.le_of_lt (small1000 hz), newP (R := fun p H' => Q (.ref p) H') q⟩
theorem slP_to {k : Nat} (ha : H a = some (.lst xs)) (h : k ≤ xs.length) (q : ∀ p H', H p = none → Same H H' → H' p = some (.lst (xs.take k)) → Q (.ref p) H') : rSlL K (.ref a) none (some (k : Int)) H Q :=
  ⟨a, xs, rfl, SqL.of ha, by rw [cutV_toN h]; exact newP (R := fun p H' => Q (.ref p) H') q⟩
theorem slP_from {k : Nat} (ha : H a = some (.lst xs)) (h : k ≤ xs.length) (q : ∀ p H', H p = none → Same H H' → H' p = some (.lst (xs.drop k)) → Q (.ref p) H') : rSlL K (.ref a) (some (k : Int)) none H Q :=
  ⟨a, xs, rfl, SqL.of ha, by rw [cutV_fromN h]; exact newP (R := fun p H' => Q (.ref p) H') q⟩
theorem slP_ini {c : V} (ha : H a = some (.lst (xs ++ [c]))) (q : ∀ p H', H p = none → Same H H' → H' p = some (.lst xs) → Q (.ref p) H') : rSlL K (.ref a) none (some (-1)) H Q :=
  ⟨a, xs ++ [c], rfl, SqL.of ha, by rw [cutV_ini]; exact newP (R := fun p H' => Q (.ref p) H') q⟩
theorem slP_end {c : V} (ha : H a = some (.lst (xs ++ [c]))) (q : ∀ p H', H p = none → Same H H' → H' p = some (.lst [c]) → Q (.ref p) H') : rSlL K (.ref a) (some (-1)) none H Q :=
  ⟨a, xs ++ [c], rfl, SqL.of ha, by rw [cutV_end]; exact newP (R := fun p H' => Q (.ref p) H') q⟩
theorem EndsAt.new {l r : Addr} {L R : List Int} (hl : H l = some (.lst (L.map V.int))) (hr : H r = some (.lst (R.map V.int))) (na : H a = none) : EndsAt (upd H a (.tup [.ref l, .ref r])) a L R :=
  ⟨l, r, upd_same, by rw [upd_ne (ne_of_none hl na)]; exact hl, by rw [upd_ne (ne_of_none hr na)]; exact hr⟩
theorem ints_snoc (L : List Int) (x : Int) : (L ++ [x]).map V.int = L.map V.int ++ [V.int x] := by simp
end
theorem sm9 {n : Nat} (h : n ≤ 900) : n ≤ sizeLine := Nat.le_of_lt (small1000 (by omega))
theorem tru_tx {K : PySem.W.Frag} {H : Hp} {cs : List Nat} (h : cs.length ≤ 900) : TruV K (.str (tx cs)) H (!cs.isEmpty) := by
  refine ⟨by rw [tx_len]; exact sm9 h, ?_⟩
  rw [tx_len]
  cases cs with
  | nil => rfl
  | cons a cs =>
    show true = (((cs.length + 1 : Nat) : Int) != 0)
    have : ((cs.length + 1 : Nat) : Int) ≠ 0 := by omega
    simp [bne, this]
    omega
theorem in_stars {K : PySem.W.Frag} {H : Hp} {t : Addr} {a b : Nat} {Q : VK} (ha : a = 40 ∨ a = 41 ∨ a = 42) (hb : b = 40 ∨ b = 41 ∨ b = 42) (h : H t = some (.tup [sg1 a, sg1 b])) (q : Q (.bl (decide (a = 42) || decide (b = 42))) H) : rInD K false (.str (Str.ofString "*")) (.ref t) H Q := by
  refine ⟨.str (Str.ofString "*"), [.str ⟨#[a]⟩, .str ⟨#[b]⟩], t, _, .str _, rfl, .inr (SqT.of h), .cons (.str _) (.cons (.str _) .nil), by decide +kernel, (by rcases ha with rfl | rfl | rfl <;> rcases hb with rfl | rfl | rfl <;> decide +kernel), by decide +kernel, ?_⟩
  have e : ∀ c : Nat, PyData.eqv (.str ⟨#[c]⟩) (.str (Str.ofString "*")) = decide (c = 42) := fun c => by
    show decide ((⟨#[c]⟩ : Str) = Str.ofString "*") = _
    rw [s_st]
    exact decide_eq_decide.mpr (by rw [eq_one])
  show Q (.bl (PyData.eqv (.str ⟨#[a]⟩) (.str (Str.ofString "*")) || (PyData.eqv (.str ⟨#[b]⟩) (.str (Str.ofString "*")) || false))) H
  rw [e, e, Bool.or_false]
  exact q
theorem perm_two {ms : List Int} {a b : Nat} (hp : ms.Perm [(a : Int), (b : Int)]) (hs : ms.Pairwise (· ≤ ·)) : ms = [((min a b : Nat) : Int), ((max a b : Nat) : Int)] := by
  have hl := hp.length_eq
  match ms, hl with
  | [u, v], _ =>
    have h1 : u = a ∨ u = b := by simpa using hp.mem_iff.mp (by simp : u ∈ [u, v])
    have h2 : v = a ∨ v = b := by simpa using hp.mem_iff.mp (by simp : v ∈ [u, v])
    have h3 : (a : Int) = u ∨ (a : Int) = v := by simpa using hp.mem_iff.mpr (by simp : (a : Int) ∈ [(a : Int), (b : Int)])
    have h4 : (b : Int) = u ∨ (b : Int) = v := by simpa using hp.mem_iff.mpr (by simp : (b : Int) ∈ [(a : Int), (b : Int)])
    have h5 : u ≤ v := by simpa using hs
    have e1 : u = ((min a b : Nat) : Int) := by omega
    have e2 : v = ((max a b : Nat) : Int) := by omega
    rw [e1, e2]
theorem sg_set (cs : List Nat) (i c : Nat) : (cs.map sg1).set i (V.str ⟨#[c]⟩) = (cs.set i c).map sg1 := by rw [List.map_set]; rfl
theorem sg_strs (cs : List Nat) : cs.map sg1 = (cs.map fun c => (⟨#[c]⟩ : Str)).map V.str := by rw [List.map_map]; rfl
end Rm

set_option Elab.async false
set_option linter.all false
set_option maxRecDepth 100000
set_option maxHeartbeats 4000000
/-! sum(list); completions: specs. -/
namespace L2
open PySem PySem.Spec PyProof.Rows
section
variable {X : Cx}
def rSumL (K : PySem.W.Frag) : List V → Hp → VK → Prop := fun xs H Q => ∃ (p : Addr) (ns : List Int), xs = [.ref p] ∧ SqL K H p (ns.map V.int) ∧ PySem.SumFits ns ∧ Q (.int ns.sum) H
end
theorem qpe_globS {X : Cx} {x : Str} {z : Str} {pos : Pos} (hg : Gl X x) (hm : ∃ t, X.mg x = some (.str z t)) (hd : (x == ("__debug__" : Str)) = false := by decide) : QE X (.Name x pos) (tC (.str z)) :=
  let ⟨t, h⟩ := hm
  ⟨pe_glob hg h ⟨t, rfl⟩ hd⟩
end L2
namespace Rm
open PySem L2
/-- the next states -/
def nexts (L R : List Int) : List (List Int × List Int) := [97, 98, 99, 100].filterMap (goF L R)
def MemoOk (kvs : List (List Key × V)) : Prop := ∀ k v, valV kvs k = some v → ∃ (L R : List Int) (m : Nat), EE L R ∧ k = [.inr (tx (stx L R)), .inl (m : Int)] ∧ v = .int ((cmpF m L R : Nat) : Int)
def bud : Nat → Nat
  | 0 => 0
  | n + 1 => 4 * bud n + 1
def spLead : Sp := fun vs H Q _ => ∃ (L R : List Int), vs = [.str (tx (stx L R))] ∧ L.length + R.length ≤ 400 ∧ Q (.int ((L.length + R.length : Nat) : Int)) H
def spCanEnd : Sp := fun vs H Q _ => ∃ (L R : List Int) (n : Nat), vs = [.str (tx (stx L R)), .int (n : Nat)] ∧ L.length + R.length ≤ 400 ∧ n ≤ 100 ∧ Q (.bl (decide (L.length + R.length ≤ 2 * n + 1))) H
def txS (p : List Int × List Int) : V := .str (tx (stx p.1 p.2))
def spNexts : Sp := fun vs H Q _ => ∃ (L R : List Int), vs = [.str (tx (stx L R))] ∧ EE L R ∧ L.length + R.length ≤ 400 ∧ ∀ l H', H l = none → Same H H' → H' l = some (.lst ((nexts L R).map txS)) → Q (.ref l) H'
def spEnds (n : Nat) : Sp := fun vs H Q _ => ∃ (L R : List Int) (m : Nat) (d : Addr) (kvs : List (List Key × V)), vs = [.str (tx (stx L R)), .int (m : Nat), .ref d] ∧ m < n ∧ m ≤ 12 ∧ EE L R ∧ L.length + R.length + 2 * m ≤ 400 ∧ H d = some (.dT kvs) ∧ MemoOk kvs ∧ kvs.length + bud m ≤ 10000000 ∧
  ∀ H' kvs', Same (wo H d) (wo H' d) → H' d = some (.dT kvs') → MemoOk kvs' → kvs'.length ≤ kvs.length + bud m → Q (.int ((cmpF m L R : Nat) : Int)) H'
def spCompl : Sp := fun vs H Q _ => ∃ (L R : List Int) (m : Nat), vs = [.str (tx (stx L R)), .int (m : Nat)] ∧ m ≤ 12 ∧ EE L R ∧ L.length + R.length + 2 * m ≤ 400 ∧ ∀ H', Same H H' → Q (.int ((cmpF m L R : Nat) : Int)) H'
def spMany : Sp := fun vs H Q _ => ∃ (a : Addr) (L R : List Int) (m : Nat), vs = [.ref a, .int (m : Nat)] ∧ EndsAt H a L R ∧ EE L R ∧ m ≤ 4 ∧ L.length + R.length ≤ 100 ∧ ∀ H', Same H H' → Q (.int ((cmpF m L R : Nat) : Int)) H'
/-- ends told anew -/
def EndsF (H0 H : Hp) (a : Addr) (L R : List Int) : Prop := ∃ l r, H a = some (.tup [.ref l, .ref r]) ∧ H l = some (.lst (L.map V.int)) ∧ H r = some (.lst (R.map V.int)) ∧ H0 a = none ∧ H0 l = none ∧ H0 r = none
def GoF (H0 H : Hp) (v : V) : Option (List Int × List Int) → Prop
  | none => v = .non
  | some (L, R) => ∃ a, v = .ref a ∧ EndsF H0 H a L R
def spGoF : Sp := fun vs H Q _ => ∃ (a : Addr) (L R : List Int) (c : Nat), vs = [.ref a, .str ⟨#[c]⟩] ∧ EndsAt H a L R ∧ isLt c ∧ EE L R ∧ L.length + R.length ≤ 400 ∧ ∀ v H', Same H H' → GoF H H' v (goF L R c) → Q v H'
/-! ### the law's own count -/
abbrev Ends2 := List Int × List Int
def sumC (n : Nat) (es : List Ends2) : Nat := (es.map fun e => cmpF n e.1 e.2).sum
structure Rch (H : Hp) (as : List Addr) (es : List Ends2) (B : Nat) : Prop where
  pr : Paired (fun a e => EndsAt H a e.1 e.2) as es
  ok : ∀ e ∈ es, EE e.1 e.2 ∧ e.1.length + e.2.length ≤ B
def ltSum (n : Nat) (e : Ends2) (k : Nat) : Nat := (([97, 98, 99, 100].take k).map fun c => cmpO n (goF e.1 e.2 c)).sum
end Rm

set_option Elab.async false
set_option linter.all false
set_option maxRecDepth 100000
set_option maxHeartbeats 400000
/-! Codes: where a text is refused; the rows across by stacks; the walk comes to the middle; how a code is ended. -/
namespace Rm
def resF (L R : List Int) : List Nat → Nat → Option Nat
  | [], i => if L.length + R.length = 1 then none else some i
  | c :: cs, i => match goF L R c with | none => some i | some p => resF p.1 p.2 cs (i + 1)
theorem resF_no {L R : List Int} {c : Nat} {cs : List Nat} {i : Nat} (h : goF L R c = none) : resF L R (c :: cs) i = some i := by simp only [resF, h]
theorem resF_go {L R L' R' : List Int} {c : Nat} {cs : List Nat} {i : Nat} (h : goF L R c = some (L', R')) : resF L R (c :: cs) i = resF L' R' cs (i + 1) := by simp only [resF, h]
/-! ### stacks -/
def isIn (k : Bool) (c : Nat) : Bool := c == 97 || (if k then c == 99 else c == 98)
def mset (m : Nat → Option Nat) (a b : Nat) : Nat → Option Nat := fun x => if x = a then some b else if x = b then some a else m x
abbrev SkM := List Nat × (Nat → Option Nat)
def stp (k : Bool) (s : SkM) (row c : Nat) : SkM := if isIn k c then (s.1 ++ [row], s.2) else match s.1.getLast? with | some o => (s.1.dropLast, mset s.2 row o) | none => s
def st0 (k b : Bool) : SkM := (if k = b then [0] else [], fun _ => none)
def stN (k b : Bool) (cs : List Nat) : Nat → SkM
  | 0 => st0 k b
  | i + 1 => stp k (stN k b cs i) (i + 1) (cs.getD i 0)
theorem stp_in {k : Bool} {s : SkM} {row c : Nat} (h : isIn k c = true) : stp k s row c = (s.1 ++ [row], s.2) := by unfold stp; rw [if_pos h]
theorem stp_out {k : Bool} {s : SkM} {P : List Nat} {o row c : Nat} (h : isIn k c = false) (e : s.1 = P ++ [o]) : stp k s row c = (P, mset s.2 row o) := by
  unfold stp
  rw [if_neg (by rw [h]; decide), e]
  simp
structure StI (k b : Bool) (i : Nat) (s : SkM) : Prop where
  nd : s.1.Nodup
  le : ∀ x ∈ s.1, x ≤ i
  out : ∀ x ∈ s.1, s.2 x = none
  sym : ∀ x y, s.2 x = some y → s.2 y = some x
  irr : ∀ x y, s.2 x = some y → y ≠ x
  bd : ∀ x y, s.2 x = some y → x ≤ i
  tot : ∀ x, x ≤ i → (x = 0 → k = b) → x ∈ s.1 ∨ ∃ y, s.2 x = some y
  z : k ≠ b → 0 ∉ s.1 ∧ s.2 0 = none
theorem StI.zero (k b : Bool) : StI k b 0 (st0 k b) := by
  unfold st0
  refine ⟨?_, fun x h => ?_, fun _ _ => rfl, fun _ _ h => (by cases h), fun _ _ h => (by cases h), fun _ _ h => (by cases h), fun x hx h => .inl ?_, fun h => ⟨?_, rfl⟩⟩
  · dsimp only; split <;> simp
  · dsimp only at h; split at h <;> simp at h; omega
  · have hx0 : x = 0 := by omega
    dsimp only; rw [if_pos (h hx0), hx0]; simp
  · dsimp only; rw [if_neg h]; simp
theorem last_nat {l : List Nat} (h : l ≠ []) : ∃ P x, l = P ++ [x] := ⟨l.dropLast, l.getLast h, (List.dropLast_concat_getLast h).symm⟩
theorem StI.step {k b : Bool} {i c : Nat} {s : SkM} (I : StI k b i s) (h : isIn k c = false → s.1 ≠ []) : StI k b (i + 1) (stp k s (i + 1) c) := by
  have new : s.2 (i + 1) = none := by
    cases e : s.2 (i + 1) with
    | none => rfl
    | some y => have := I.bd _ _ e; omega
  by_cases hc : isIn k c = true
  · rw [stp_in hc]
    refine ⟨?_, fun x hx => ?_, fun x hx => ?_, I.sym, I.irr, fun x y e => by have := I.bd x y e; omega, fun x hx h0 => ?_, fun hk => ⟨?_, (I.z hk).2⟩⟩
    · rw [List.nodup_append]
      refine ⟨I.nd, by simp, fun a ha b hb e => ?_⟩
      have := I.le a ha
      simp at hb; omega
    · rcases List.mem_append.mp hx with h1 | h1
      · have := I.le x h1; omega
      · simp at h1; omega
    · rcases List.mem_append.mp hx with h1 | h1
      · exact I.out x h1
      · simp at h1; subst h1; exact new
    · by_cases e : x = i + 1
      · exact .inl (by subst e; simp)
      · rcases I.tot x (by omega) h0 with h1 | h1
        · exact .inl (List.mem_append_left _ h1)
        · exact .inr h1
    · intro z
      rcases List.mem_append.mp z with h1 | h1
      · exact (I.z hk).1 h1
      · simp at h1
  · have hc' : isIn k c = false := by simpa using hc
    obtain ⟨P, o, e⟩ := last_nat (h hc')
    rw [stp_out hc' e]
    have om : o ∈ s.1 := by rw [e]; simp
    have ole := I.le o om
    have on := I.out o om
    have nd := I.nd
    rw [e, List.nodup_append] at nd
    have onP : o ∉ P := fun z => nd.2.2 o z o (by simp) rfl
    have inP : ∀ x ∈ P, x ∈ s.1 := fun x hx => by rw [e]; exact List.mem_append_left _ hx
    have ms : ∀ x y, mset s.2 (i + 1) o x = some y → (x = i + 1 ∧ y = o) ∨ (x = o ∧ y = i + 1) ∨ (x ≠ i + 1 ∧ x ≠ o ∧ s.2 x = some y) := fun x y h => by
      unfold mset at h
      split at h
      · rename_i z; cases h; exact .inl ⟨z, rfl⟩
      · split at h
        · rename_i z; cases h; exact .inr (.inl ⟨z, rfl⟩)
        · rename_i z1 z2; exact .inr (.inr ⟨z1, z2, h⟩)
    have mo : ∀ x, x ≠ i + 1 → x ≠ o → mset s.2 (i + 1) o x = s.2 x := fun x h1 h2 => by unfold mset; rw [if_neg h1, if_neg h2]
    refine ⟨nd.1, fun x hx => by have := I.le x (inP x hx); omega, fun x hx => ?_, fun x y h => ?_, fun x y h => ?_, fun x y h => ?_, fun x hx h0 => ?_, fun hk => ⟨fun z => (I.z hk).1 (inP 0 z), ?_⟩⟩ <;> dsimp only at *
    · have := I.le x (inP x hx)
      rw [mo x (by omega) (fun z => onP (z ▸ hx))]
      exact I.out x (inP x hx)
    · rcases ms x y h with ⟨rfl, rfl⟩ | ⟨rfl, rfl⟩ | ⟨h1, h2, h3⟩
      · unfold mset; rw [if_neg (by omega), if_pos rfl]
      · unfold mset; rw [if_pos rfl]
      · have hy := I.sym x y h3
        rw [mo y (fun z => by rw [z, new] at hy; cases hy) (fun z => by rw [z, on] at hy; cases hy)]
        exact hy
    · rcases ms x y h with ⟨rfl, rfl⟩ | ⟨rfl, rfl⟩ | ⟨h1, h2, h3⟩
      · omega
      · omega
      · exact I.irr x y h3
    · rcases ms x y h with ⟨rfl, rfl⟩ | ⟨rfl, rfl⟩ | ⟨h1, h2, h3⟩
      · omega
      · omega
      · have := I.bd x y h3; omega
    · by_cases z1 : x = i + 1
      · exact .inr ⟨o, by unfold mset; rw [if_pos z1]⟩
      · by_cases z2 : x = o
        · exact .inr ⟨i + 1, by unfold mset; rw [if_neg z1, if_pos z2]⟩
        · rcases I.tot x (by omega) h0 with h1 | ⟨y, h1⟩
          · rw [e] at h1
            rcases List.mem_append.mp h1 with h2 | h2
            · exact .inl h2
            · simp at h2; exact absurd h2 z2
          · exact .inr ⟨y, by rw [mo x z1 z2]; exact h1⟩
    · rw [mo 0 (by omega) (fun z => (I.z hk).1 (z ▸ om))]
      exact (I.z hk).2
theorem stp_len {k : Bool} {s : SkM} {row c : Nat} : (stp k s row c).1.length = if isIn k c then s.1.length + 1 else s.1.length - 1 := by
  unfold stp
  split
  · simp
  · cases e : s.1.getLast? with
    | none => simp at e; simp [e]
    | some o => simp
theorem go_sizes {L R L' R' : List Int} {c : Nat} (hc : c = 97 ∨ c = 98 ∨ c = 99 ∨ c = 100) (h : goF L R c = some (L', R')) :
    (isIn false c = false → L ≠ []) ∧ (isIn true c = false → R ≠ []) ∧ L'.length = (if isIn false c then L.length + 1 else L.length - 1) ∧ R'.length = (if isIn true c then R.length + 1 else R.length - 1) := by
  rcases hc with rfl | rfl | rfl | rfl
  · simp only [goF, if_true, Option.some.injEq, Prod.mk.injEq] at h
    obtain ⟨rfl, rfl⟩ := h
    simp [isIn]
  · by_cases hR : R = []
    · subst hR; rw [goF_b0] at h; cases h
    · obtain ⟨Q, v, rfl⟩ := last_of hR
      rw [goF_b] at h; cases h; simp [isIn]
  · by_cases hL : L = []
    · subst hL; rw [goF_c0] at h; cases h
    · obtain ⟨P, v, rfl⟩ := last_of hL
      rw [goF_c] at h; cases h; simp [isIn]
  · by_cases hL : L = []
    · subst hL; rw [goF_d0] at h; cases h
    · by_cases hR : R = []
      · subst hR; rw [goF_d1] at h; cases h
      · obtain ⟨P, x, rfl⟩ := last_of hL
        obtain ⟨Q, y, rfl⟩ := last_of hR
        rw [goF_d] at h
        by_cases e : x = y
        · rw [if_pos e] at h; cases h
        · rw [if_neg e] at h; cases h; simp [isIn]
/-- both stacks behind i letters -/
structure Run (b : Bool) (cs : List Nat) (i : Nat) (L R : List Int) : Prop where
  ee : EE L R
  li : StI false b i (stN false b cs i)
  ri : StI true b i (stN true b cs i)
  ll : (stN false b cs i).1.length = L.length
  rl : (stN true b cs i).1.length = R.length
theorem Run.step {b : Bool} {cs : List Nat} {i c : Nat} {L R L' R' : List Int} (h : Run b cs i L R) (e : cs[i]? = some c) (hc : c = 97 ∨ c = 98 ∨ c = 99 ∨ c = 100) (g : goF L R c = some (L', R')) : Run b cs (i + 1) L' R' := by
  obtain ⟨n1, n2, s1, s2⟩ := go_sizes hc g
  have eg : cs.getD i 0 = c := by rw [List.getD_eq_getElem?_getD, e]; rfl
  have k1 : isIn false c = false → (stN false b cs i).1 ≠ [] := fun z => by have := List.length_pos_iff.mpr (n1 z); exact List.length_pos_iff.mp (by rw [h.ll]; exact this)
  have k2 : isIn true c = false → (stN true b cs i).1 ≠ [] := fun z => by have := List.length_pos_iff.mpr (n2 z); exact List.length_pos_iff.mp (by rw [h.rl]; exact this)
  refine ⟨h.ee.go hc g, ?_, ?_, ?_, ?_⟩
  · show StI false b (i + 1) (stp false _ _ _); rw [eg]; exact h.li.step k1
  · show StI true b (i + 1) (stp true _ _ _); rw [eg]; exact h.ri.step k2
  · show (stp false _ _ _).1.length = _; rw [eg, stp_len, s1, h.ll]
  · show (stp true _ _ _).1.length = _; rw [eg, stp_len, s2, h.rl]
theorem Run.zero (b : Bool) (cs : List Nat) : Run b cs 0 (if b then [] else [0]) (if b then [0] else []) := by
  cases b
  · exact ⟨EE.one, .zero _ _, .zero _ _, rfl, rfl⟩
  · exact ⟨EE.two, .zero _ _, .zero _ _, rfl, rfl⟩
/-! ### the rows across, and the walk -/
def finF (n : Nat) (s : SkM) (x : Nat) : Option Nat := if x ∈ s.1 then some (n + 1) else s.2 x
structure Mat (n : Nat) (b : Bool) (f : Bool → Nat → Option Nat) : Prop where
  sym : ∀ k x y, f k x = some y → y ≤ n → f k y = some x
  irr : ∀ k x y, f k x = some y → x ≤ n → y ≠ x
  tot : ∀ k x, x ≤ n → (x = 0 → k = b) → ∃ y, f k x = some y ∧ y ≤ n + 1
  z : f (!b) 0 = none
def fin2 (b : Bool) (cs : List Nat) (k : Bool) : Nat → Option Nat := finF cs.length (stN k b cs cs.length)
theorem mat_of {b : Bool} {cs : List Nat} (h : ∀ k, StI k b cs.length (stN k b cs cs.length)) : Mat cs.length b (fin2 b cs) := by
  refine ⟨fun k x y e hy => ?_, fun k x y e hx => ?_, fun k x hx h0 => ?_, ?_⟩
  · unfold fin2 finF at e ⊢
    split at e
    · cases e; omega
    · have e2 := (h k).sym x y e
      rw [if_neg (fun z => by rw [(h k).out y z] at e2; cases e2)]
      exact e2
  · unfold fin2 finF at e
    split at e
    · cases e; omega
    · exact (h k).irr x y e
  · unfold fin2 finF
    split
    · exact ⟨_, rfl, by omega⟩
    · rename_i nx
      rcases (h k).tot x hx h0 with h1 | ⟨y, h1⟩
      · exact absurd h1 nx
      · exact ⟨y, h1, by have := (h k).bd y x ((h k).sym x y h1); omega⟩
  · unfold fin2 finF
    have := (h (!b)).z (by cases b <;> decide)
    rw [if_neg this.1]
    exact this.2
def pth (f : Bool → Nat → Option Nat) (b : Bool) : Nat → Nat × Bool
  | 0 => (0, b)
  | i + 1 => ((f (pth f b i).2 (pth f b i).1).getD 0, !(pth f b i).2)
theorem pth_snd {f : Bool → Nat → Option Nat} {b : Bool} : ∀ i j, i % 2 = j % 2 → (pth f b i).2 = (pth f b j).2 := by
  have h : ∀ i, (pth f b i).2 = (b ^^ decide (i % 2 = 1)) := by
    intro i
    induction i with
    | zero => simp [pth]
    | succ i ih =>
      show (!(pth f b i).2) = _
      rw [ih]
      rcases Nat.mod_two_eq_zero_or_one i with e | e
      · have e2 : (i + 1) % 2 = 1 := by omega
        simp [e, e2]
      · have e2 : (i + 1) % 2 = 0 := by omega
        simp [e, e2]
  intro i j e
  rw [h, h, e]
structure Vld (n : Nat) (b : Bool) (f : Bool → Nat → Option Nat) (N : Nat) : Prop where
  le : ∀ i, i < N → (pth f b i).1 ≤ n
  st : ∀ i, i < N → f (pth f b i).2 (pth f b i).1 = some (pth f b (i + 1)).1
section
variable {n : Nat} {b : Bool} {f : Bool → Nat → Option Nat}
theorem Mat.back (M : Mat n b f) {N i : Nat} (V : Vld n b f N) (hi : i < N) (hl : (pth f b (i + 1)).1 ≤ n) : f (pth f b i).2 (pth f b (i + 1)).1 = some (pth f b i).1 := M.sym _ _ _ (V.st i hi) hl
theorem Mat.nz (M : Mat n b f) {N : Nat} (V : Vld n b f N) (h1 : 1 ≤ N) : (pth f b N).1 ≠ 0 := by
  intro h0
  obtain ⟨i, rfl⟩ : ∃ i, N = i + 1 := ⟨N - 1, by omega⟩
  have e0 := M.back V (i := i) (by omega) (by rw [h0]; omega)
  rw [h0] at e0
  have hb : (pth f b i).2 = b := by
    cases hh : (pth f b i).2 == b with
    | true => exact beq_iff_eq.mp hh
    | false =>
      have : (pth f b i).2 = !b := by
        have := beq_eq_false_iff_ne.mp hh
        cases hb2 : (pth f b i).2 <;> cases b <;> simp_all
      rw [this, M.z] at e0; cases e0
  have ev : i % 2 = 0 := by
    rcases Nat.mod_two_eq_zero_or_one i with e | e
    · exact e
    · have := pth_snd (f := f) (b := b) i 1 e
      rw [hb] at this
      have h2 : (pth f b 1).2 = !b := rfl
      rw [h2] at this
      cases b <;> cases this
  have pal : ∀ j, j ≤ i + 1 → (pth f b (i + 1 - j)).1 = (pth f b j).1 := by
    intro j
    induction j with
    | zero => intro _; rw [Nat.sub_zero]; exact h0
    | succ j ih =>
      intro hj
      have e1 := ih (by omega)
      have e2 : i + 1 - j = (i - j) + 1 := by omega
      rw [e2] at e1
      have hjn : j < i + 1 := by omega
      have b1 := M.back V (i := i - j) (by omega) (by rw [e1]; exact V.le j hjn)
      rw [e1, pth_snd (i - j) j (by omega), V.st j hjn] at b1
      rw [show i + 1 - (j + 1) = i - j by omega]
      exact (Option.some.inj b1).symm
  have t := pal (i / 2) (by omega)
  rw [show i + 1 - i / 2 = i / 2 + 1 by omega] at t
  exact M.irr _ _ _ (V.st (i / 2) (by omega)) (V.le _ (by omega)) t
theorem pig : ∀ (n : Nat) (g : Nat → Nat), (∀ i, i ≤ n → g i < n) → ∃ i j, i < j ∧ j ≤ n ∧ g i = g j
  | 0, g, h => absurd (h 0 (by omega)) (by omega)
  | n + 1, g, h => by
    by_cases hv : ∃ i, i ≤ n ∧ g i = g (n + 1)
    · obtain ⟨i, hi, e⟩ := hv
      exact ⟨i, n + 1, by omega, by omega, e⟩
    · have hv' : ∀ i, i ≤ n → g i ≠ g (n + 1) := fun i hi e => hv ⟨i, hi, e⟩
      obtain ⟨i, j, h1, h2, h3⟩ := pig n (fun i => if g i = n then g (n + 1) else g i) (fun i hi => by
        have a := h i (by omega)
        have c := h (n + 1) (by omega)
        have d := hv' i hi
        show (if g i = n then g (n + 1) else g i) < n
        split <;> omega)
      refine ⟨i, j, h1, by omega, ?_⟩
      have d1 := hv' i (by omega)
      have d2 := hv' j (by omega)
      split at h3 <;> split at h3 <;> omega
theorem Mat.ends (M : Mat n b f) : ∃ T, 1 ≤ T ∧ T ≤ 2 * n + 4 ∧ Vld n b f T ∧ (pth f b T).1 = n + 1 := by
  have go : ∀ N, N ≤ 2 * n + 4 → (∃ T, 1 ≤ T ∧ T ≤ 2 * n + 4 ∧ Vld n b f T ∧ (pth f b T).1 = n + 1) ∨ (Vld n b f N ∧ (pth f b N).1 ≤ n) := by
    intro N
    induction N with
    | zero => intro _; exact .inr ⟨⟨fun i h => by omega, fun i h => by omega⟩, Nat.zero_le _⟩
    | succ N ih =>
      intro hN
      rcases ih (by omega) with h | ⟨V, hl⟩
      · exact .inl h
      · have h0 : (pth f b N).1 = 0 → (pth f b N).2 = b := fun z => by
          rcases Nat.eq_zero_or_pos N with e | e
          · subst e; rfl
          · exact absurd z (M.nz V e)
        obtain ⟨y, e1, e2⟩ := M.tot _ _ hl h0
        have ey : (pth f b (N + 1)).1 = y := by show (f _ _).getD 0 = y; rw [e1]; rfl
        have V' : Vld n b f (N + 1) := ⟨fun i hi => by
            rcases Nat.lt_or_ge i N with h | h
            · exact V.le i h
            · rw [show i = N by omega]; exact hl, fun i hi => by
            rcases Nat.lt_or_ge i N with h | h
            · exact V.st i h
            · rw [show i = N by omega, ey]; exact e1⟩
        by_cases hy : y = n + 1
        · exact .inl ⟨N + 1, by omega, hN, V', ey.trans hy⟩
        · exact .inr ⟨V', by rw [ey]; omega⟩
  rcases go (2 * n + 4) (Nat.le_refl _) with h | ⟨V, hl⟩
  · exact h
  · exfalso
    obtain ⟨i, j, h1, h2, h3⟩ := pig (n + 1) (fun i => (pth f b (2 * i)).1) (fun i hi => by have := V.le (2 * i) (by omega); omega)
    have bk : ∀ d, d ≤ 2 * i → (pth f b (2 * i - d)).1 = (pth f b (2 * j - d)).1 := by
      intro d
      induction d with
      | zero => intro _; exact h3
      | succ d ih =>
        intro hd
        have e1 := ih (by omega)
        rw [show 2 * i - d = (2 * i - (d + 1)) + 1 by omega, show 2 * j - d = (2 * j - (d + 1)) + 1 by omega] at e1
        have b1 := M.back V (i := 2 * i - (d + 1)) (by omega) (V.le _ (by omega))
        have b2 := M.back V (i := 2 * j - (d + 1)) (by omega) (V.le _ (by omega))
        rw [e1, pth_snd (2 * i - (d + 1)) (2 * j - (d + 1)) (by omega), b2] at b1
        exact (Option.some.inj b1).symm
    have e0 := bk (2 * i) (Nat.le_refl _)
    rw [Nat.sub_self] at e0
    exact M.nz (N := 2 * j - 2 * i) ⟨fun t ht => V.le t (by omega), fun t ht => V.st t (by omega)⟩ (by omega) e0.symm
end
/-! ### how a code is ended -/
def dB (L : List Int) (p : Nat) : Prop := 1 ≤ p ∧ p < L.length ∧ L[p-1]? ≠ L[p]?
instance (L : List Int) (p : Nat) : Decidable (dB L p) := by unfold dB; infer_instance
def mvB (L : List Int) (p : Nat) : Nat := if dB L p then 0 else if p = 0 then (if L[0]? = L[1]? then 2 else 1) else if p = L.length then (if L[p-2]? = L[p-1]? then 2 else 1) else 1
theorem mvB_le (L : List Int) (p : Nat) : mvB L p ≤ 2 := by unfold mvB; (repeat' split) <;> omega
theorem mvB_at {L : List Int} {p : Nat} (h : dB L p) : mvB L p = 0 := by unfold mvB; rw [if_pos h]
def Th (L : List Int) : Prop := ∀ i, i + 2 < L.length → ¬ (L[i]? = L[i+1]? ∧ L[i+1]? = L[i+2]?)
theorem EW.th {R : List Int} (E : EW R) : Th R := fun i hi ⟨e1, e2⟩ => by
  have e : R = R.take i ++ (R[i] :: R[i+1] :: R[i+2] :: R.drop (i + 3)) := by
    conv => lhs; rw [← List.take_append_drop i R]
    rw [List.drop_eq_getElem_cons (by omega : i < R.length), List.drop_eq_getElem_cons (by omega : i + 1 < R.length), List.drop_eq_getElem_cons (by omega : i + 1 + 1 < R.length)]
  rw [List.getElem?_eq_getElem (by omega), List.getElem?_eq_getElem (by omega)] at e1 e2
  have a1 := Option.some.inj e1
  have a2 := Option.some.inj e2
  have hm : R[i] ∈ R := List.getElem_mem _
  have c3 : 3 ≤ R.count R[i] := by
    have c1 : R.count R[i] = (R.take i ++ (R[i] :: R[i+1] :: R[i+2] :: R.drop (i + 3))).count R[i] := by rw [← e]
    rw [c1, ← a2, ← a1, List.count_append, List.count_cons_self, List.count_cons_self, List.count_cons_self]
    omega
  have n0 := E.nn _ hm
  by_cases z : R[i] = 0
  · have := E.z1; rw [← z] at this; omega
  · have := E.two _ hm (by omega); omega
theorem EW.three {R : List Int} (E : EW R) (h : 1 < R.length) : 3 ≤ R.length := by
  match R, E, h with
  | [a, b], E, _ =>
    exfalso
    have z := E.z1
    have na := E.nn a (by simp)
    have nb := E.nn b (by simp)
    by_cases ha : a = 0
    · by_cases hb : b = 0
      · subst ha hb; simp at z
      · have := E.two b (by simp) (by omega)
        subst ha
        simp [List.count_cons, Ne.symm hb] at this
    · have := E.two a (by simp) (by omega)
      by_cases hb : b = a
      · subst hb; simp [List.count_cons, ha] at z
      · simp [List.count_cons, hb] at this
  | _ :: _ :: _ :: _, _, _ => simp
def Pc (L R : List Int) : Nat := if L.length + R.length ≤ 1 then 0 else 3 * ((L.length + R.length) / 2 - 1) + 1 + mvB (L ++ R.reverse) L.length
theorem Pc_le {L R : List Int} (E : EE L R) : Pc L R ≤ 3 * ((L.length + R.length) / 2) := by
  unfold Pc
  split
  · omega
  · have h3 : 3 ≤ (L ++ R.reverse).length := E.three (by simp; omega)
    have := mvB_le (L ++ R.reverse) L.length
    simp at h3
    omega
theorem has_dB {L : List Int} (th : Th L) (h3 : 3 ≤ L.length) : ∃ p, dB L p := by
  by_cases h : L[0]? = L[1]?
  · exact ⟨2, by omega, by omega, fun z => th 0 (by omega) ⟨h, z⟩⟩
  · exact ⟨1, by omega, by omega, h⟩
/-- a place of unlike ends, as near as any -/
structure Near (L : List Int) (p best : Nat) : Prop where
  d : dB L best
  m : ∀ k, dB L k → ((best : Int) - p).natAbs ≤ ((k : Int) - p).natAbs
theorem near_c {L : List Int} {p best : Nat} (th : Th L) (h3 : 3 ≤ L.length) (hp : p ≤ L.length) (N : Near L p best) (h : best < p) : mvB L (p - 1) + 1 ≤ mvB L p := by
  have nd : ¬ dB L p := fun z => by have := N.m p z; omega
  obtain ⟨b1, b2, b3⟩ := N.d
  unfold mvB
  rw [if_neg nd, if_neg (by omega : ¬ p = 0)]
  by_cases hl : p = L.length
  · rw [if_pos hl]
    by_cases e : L[p-2]? = L[p-1]?
    · rw [if_pos e]
      have e1 : ¬ dB L (p - 1) := fun z => z.2.2 (by rw [show p - 1 - 1 = p - 2 by omega]; exact e)
      rw [if_neg e1, if_neg (by omega), if_neg (by omega)]; omega
    · rw [if_neg e]
      have e1 : dB L (p - 1) := ⟨by omega, by omega, by rw [show p - 1 - 1 = p - 2 by omega]; exact e⟩
      rw [if_pos e1]; omega
  · rw [if_neg hl]
    have ee : L[p-1]? = L[p]? := Classical.byContradiction fun z => nd ⟨by omega, by omega, z⟩
    have b4 : best = p - 1 := by
      rcases (show p = 1 ∨ 2 ≤ p by omega) with e | e
      · omega
      · have := th (p - 2) (by omega)
        rw [show p - 2 + 1 = p - 1 by omega, show p - 2 + 2 = p by omega] at this
        have e1 : dB L (p - 1) := ⟨by omega, by omega, by rw [show p - 1 - 1 = p - 2 by omega]; exact fun z => this ⟨z, ee⟩⟩
        have := N.m _ e1
        omega
    rw [← b4, if_pos N.d]; omega
theorem near_b {L : List Int} {p best : Nat} (th : Th L) (h3 : 3 ≤ L.length) (hp : p ≤ L.length) (N : Near L p best) (h : p < best) : mvB L (p + 1) + 1 ≤ mvB L p := by
  have nd : ¬ dB L p := fun z => by have := N.m p z; omega
  obtain ⟨b1, b2, b3⟩ := N.d
  by_cases h0 : p = 0
  · subst h0
    have m0 : mvB L 0 = if L[0]? = L[1]? then 2 else 1 := by unfold mvB; rw [if_neg nd, if_pos rfl]
    by_cases e : L[0]? = L[1]?
    · have e1 : ¬ dB L 1 := fun z => z.2.2 e
      have m1 : mvB L 1 = 1 := by unfold mvB; rw [if_neg e1, if_neg (by omega), if_neg (by omega)]
      rw [m0, if_pos e, m1]; omega
    · have e1 : dB L 1 := ⟨by omega, by omega, e⟩
      rw [m0, if_neg e, mvB_at e1]; omega
  · have mp : mvB L p = 1 := by unfold mvB; rw [if_neg nd, if_neg h0, if_neg (by omega)]
    have ee : L[p-1]? = L[p]? := Classical.byContradiction fun z => nd ⟨by omega, by omega, z⟩
    have b4 : best = p + 1 := by
      rcases (show p + 1 = L.length ∨ p + 1 < L.length by omega) with e | e
      · omega
      · have := th (p - 1) (by omega)
        rw [show p - 1 + 1 = p by omega, show p - 1 + 2 = p + 1 by omega] at this
        have e1 : dB L (p + 1) := ⟨by omega, by omega, by rw [show p + 1 - 1 = p by omega]; exact fun z => this ⟨ee, z⟩⟩
        have := N.m _ e1
        omega
    rw [mp, ← b4, mvB_at N.d]; omega
def clC (p best : Nat) : Nat := if best = p then 100 else if best < p then 99 else 98
theorem close_go {L R : List Int} {best : Nat} (E : EE L R) (h : 1 < L.length + R.length) (N : Near (L ++ R.reverse) L.length best) : ∃ L' R', goF L R (clC L.length best) = some (L', R') ∧ EE L' R' ∧ Pc L' R' + 1 ≤ Pc L R := by
  have hl : (L ++ R.reverse).length = L.length + R.length := by simp
  have h3 : 3 ≤ (L ++ R.reverse).length := E.three (by omega)
  have th : Th (L ++ R.reverse) := E.th
  obtain ⟨b1, b2, b3⟩ := N.d
  have p1 : Pc L R = 3 * ((L.length + R.length) / 2 - 1) + 1 + mvB (L ++ R.reverse) L.length := by unfold Pc; rw [if_neg (by omega)]
  unfold clC
  by_cases e : best = L.length
  · rw [if_pos e]
    have hL : L ≠ [] := fun z => by rw [z] at e; simp at e; omega
    have hR : R ≠ [] := fun z => by rw [z] at b2; simp at b2; omega
    obtain ⟨P, x, rfl⟩ := last_of hL
    obtain ⟨Q, y, rfl⟩ := last_of hR
    have hxy : x ≠ y := fun z => b3 (by
      subst z e
      simp [List.getElem?_append])
    rw [goF_d, if_neg hxy]
    have E' := E.d hxy
    refine ⟨_, _, rfl, E', ?_⟩
    have := Pc_le E'
    rw [List.length_map, List.length_map] at this
    rw [p1]
    simp only [List.length_append, List.length_singleton]
    simp only [List.length_append, List.length_singleton] at h hl
    omega
  · rw [if_neg e]
    by_cases c : best < L.length
    · rw [if_pos c]
      have hL : L ≠ [] := fun z => by rw [z] at c; simp at c
      obtain ⟨P, x, rfl⟩ := last_of hL
      rw [goF_c]
      have E' := E.c
      refine ⟨_, _, rfl, E', ?_⟩
      have nc := near_c th h3 (by simp) N c
      have er : P ++ (R ++ [x]).reverse = (P ++ [x]) ++ R.reverse := by simp
      have p2 : Pc P (R ++ [x]) = 3 * (((P ++ [x]).length + R.length) / 2 - 1) + 1 + mvB ((P ++ [x]) ++ R.reverse) ((P ++ [x]).length - 1) := by
        unfold Pc
        have hh : P.length + (R ++ [x]).length = (P ++ [x]).length + R.length := by simp; omega
        rw [hh, if_neg (by omega), er]
        congr 2
        simp
      rw [p1, p2]
      omega
    · rw [if_neg c]
      have hR : R ≠ [] := fun z => by rw [z] at b2; simp at b2; omega
      obtain ⟨Q, y, rfl⟩ := last_of hR
      rw [goF_b]
      have E' := E.b
      refine ⟨_, _, rfl, E', ?_⟩
      have nb := near_b th h3 (by simp) N (by omega)
      have er : (L ++ [y]) ++ Q.reverse = L ++ (Q ++ [y]).reverse := by simp
      have p2 : Pc (L ++ [y]) Q = 3 * ((L.length + (Q ++ [y]).length) / 2 - 1) + 1 + mvB (L ++ (Q ++ [y]).reverse) (L.length + 1) := by
        unfold Pc
        have hh : (L ++ [y]).length + Q.length = L.length + (Q ++ [y]).length := by simp; omega
        rw [hh, if_neg (by omega), er]
        congr 2
        simp
      rw [p1, p2]
      omega
theorem goF_pairs {L R L' R' : List Int} {c : Nat} (hc : c = 97 ∨ c = 98 ∨ c = 99 ∨ c = 100) (h : goF L R c = some (L', R')) : L'.length + R'.length ≤ L.length + R.length + 2 := by
  obtain ⟨_, _, s1, s2⟩ := go_sizes hc h
  split at s1 <;> split at s2 <;> omega
theorem goF_a (L R : List Int) : ∃ L' R', goF L R 97 = some (L', R') := ⟨_, _, rfl⟩
end Rm

set_option Elab.async false
set_option linter.all false
set_option maxRecDepth 100000
set_option maxHeartbeats 4000000
/-! Exceptions of one's own whose class has an __init__: made, raised, their value read. -/
namespace L2
open PySem PySem.Spec PyProof.Rows
section
variable {prog : Program} {w : World} {A : Around} {E : Value → Shared → Prop} {h : Heap} {g : Array GenState} {d : Drawn} {t : Nat} {os : OsState}
variable {nm q : Str} {C N : Addr} {bs bm bmB : List Value} {hdct : Bool} {sn : List Str} {sub : List Value} {ab : Bool} {col : Option Bool} {dd : Option Addr} {k0 k1 k2 k3 k5 : Option Value} {B newId initId : String}
theorem exc_typecall (F : ExcBaseFacts B newId initId bmB) (tl : OwnTail h bmB bm) {mC : Str → Option Value} {us : List Value} {fi : Addr} {of : Obj} {R : Fin → Shared → Prop}
    (hK : h.get? C = some (excClassObj nm q C N bs bm hdct sn sub ab col dd k0 k1 k2 k3 k5 newId)) (hNs : h.Ns N mC) (hin : mC "__init__" = some (.ref fi)) (hof : h.get? fi = some of) (hfn : of.cls = .type "function") (hlen : us.length ≤ sizeLine)
    (go : ∀ hh x, Heap.MadeExcOf h hh x (.ref C) us → wpAny (model prog w) A (call (.ref fi) (.ref x :: us)) (fun r z => r = .none ∧ R (.done (.ret (.ref x))) z) E ⟨hh, g, d, t, os⟩) :
    wpAny (model prog w) A (Builtin.«type.__call__» ⟨.ref C :: us, []⟩) R E ⟨h, g, d, t, os⟩ := by
  repeat (first | (with_reducible refine wpAny_loadPart_at hK ?_) | (with_reducible refine wpAny_madeBy_exc hK ?_) | wp_step)
  refine codeAny_call_builtin_code (Code.quiet_builtin _ F.quiet) (wpAny_check_new_subT F tl hK ?_)
  refine codeAny_exc_new_subT F tl hK ?_ hlen
  show wpAny _ _ _ _ _ _
  generalize hh1 : h.push { cls := .type "tuple", data := .seq us.toArray } = h1
  generalize hh2 : h1.push { cls := .ref C, data := .fields #[.ref h.objs.size, .none, .none, .none, .bool false, .none] } = h2
  have kp : ∀ b o, h.get? b = some o → h2.get? b = some o := fun b o e => by rw [← hh2, ← hh1]; exact Heap.get?_push_of_some _ (Heap.get?_push_of_some _ e)
  have sz : h1.objs.size = h.objs.size + 1 := by rw [← hh1]; exact Heap.size_push _ _
  have at2 : h2.get? (h.objs.size + 1) = some { cls := .ref C, data := .fields #[.ref h.objs.size, .none, .none, .none, .bool false, .none] } := by rw [← hh2, ← sz]; exact Heap.get?_push_size _ rfl
  have at1 : h2.get? h.objs.size = some { cls := .type "tuple", data := .seq us.toArray } := by rw [← hh2]; refine Heap.get?_push_of_some _ ?_; rw [← hh1]; exact Heap.get?_push_size _ rfl
  have hK2 := kp _ _ hK
  have tl2 := tl.keeps kp
  have hN2 : h2.Ns N mC := let ⟨o, es, ep, e, r⟩ := hNs; ⟨o, es, ep, kp _ _ e, r⟩
  have own : (Value.ref C :: bm).contains (.ref C) = true := by simp
  unfold isInstance
  repeat (first | (with_reducible refine wpAny_loadPart_at at2 ?_) | (with_reducible refine wpAny_isSubtype_exc hK2 ?_; rw [own]) | wp_step)
  show wpAny _ _ (typeLookup (.ref C) _) _ _ _
  refine wpAny_typeLookup_tail hK2 hN2 tl2 F.mroIs F.init.lookup ?_
  rw [hin]
  refine wpAny_holding (wpAny_bind ?_)
  unfold bindSpecial
  refine wpAny_bind (wpAny_typeOf (T := "function") ⟨_, kp _ _ hof, hfn⟩ ?_)
  rw [if_pos (by decide)]
  refine wpAny_pure (wpAny_bind (wpAny_mono (go h2 (h.objs.size + 1) ⟨kp, Heap.get?_none_of_le (Nat.le_succ _), h.objs.size, at2, Heap.get?_none_of_le (Nat.le_refl _), at1⟩) (fun r z hr => ?_) fun _ _ y => y))
  obtain ⟨rfl, hR⟩ := hr
  wp_walk
  exact hR
theorem exc_made (F : ExcBaseFacts B newId initId bmB) (tl : OwnTail h bmB bm) {mC : Str → Option Value} {us : List Value} {fi : Addr} {of : Obj} {R : Value → Shared → Prop}
    (hK : h.get? C = some (excClassObj nm q C N bs bm hdct sn sub ab col dd k0 k1 k2 k3 k5 newId)) (hNs : h.Ns N mC) (hin : mC "__init__" = some (.ref fi)) (hof : h.get? fi = some of) (hfn : of.cls = .type "function") (hlen : us.length ≤ sizeLine)
    (go : ∀ hh x, Heap.MadeExcOf h hh x (.ref C) us → wpAny (model prog w) (A.under (.builtin "type.__call__" ⟨.ref C :: us, []⟩)) (call (.ref fi) (.ref x :: us)) (fun r z => r = .none ∧ R (.ref x) z) E ⟨hh, g, d, t, os⟩) :
    wpAny (model prog w) A (call (.ref C) us) R E ⟨h, g, d, t, os⟩ := by
  have l1 := tc_lookup
  have l2 := tc_bind (.ref C)
  have ty : (⟨h, g, d, t, os⟩ : Shared).TypeIs (.ref C) "type" := ⟨_, hK, rfl⟩
  refine wpAny_call (codeAny_of_tree ?_)
  show wpAny _ _ (callAny (.ref C) _) _ _ _
  repeat (any_goals (first | assumption | (with_reducible refine wpAny_loadPart_at hK ?_) | wp_step))
  refine ⟨rfl, ?_⟩
  exact codeAny_call_builtin_at (Code.quiet_builtin _ (by decide +kernel)) entry_typeCall (wpAny_check_type_call_sub hK (exc_typecall F tl hK hNs hin hof hfn hlen fun hh x m => go hh x m))
end
section
variable {M : Model} {A : Around} {E : Value → Shared → Prop} {env : Env}
variable {nm q : Str} {C N : Addr} {bs bm : List Value} {hdct : Bool} {sn : List Str} {sub : List Value} {ab : Bool} {col : Option Bool} {dd : Option Addr} {k0 k1 k2 k3 k5 : Option Value} {newId : String}
theorem raise_made {s : Shared} {x : Sem Value} {R : Flow → Shared → Prop} (hb : bm.contains (.type "BaseException") = true) (hh : A.handled = none)
    (go : wpAny M A x (fun v z => ∃ e dO a0 sl, v = .ref e ∧ z.heap.get? C = some (excClassObj nm q C N bs bm hdct sn sub ab col dd k0 k1 k2 k3 k5 newId) ∧ z.heap.get? e = some ⟨.ref C, dO, .fields #[a0, .none, .none, .none, .bool false, .none], sl⟩ ∧ E (.ref e) z) E s) :
    wpAny M A (raiseStmt env (some x) none) R E s := by
  have has : (Value.ref C :: bm).contains (.type "BaseException") = true := by rw [List.contains_cons, hb, Bool.or_true]
  unfold raiseStmt
  refine wpAny_bind (wpAny_mono go (fun v z h1 => ?_) fun _ _ y => y)
  obtain ⟨e, dO, a0, sl, rfl, hK, he, hE⟩ := h1
  obtain ⟨hp, g, d, tk, os⟩ := z
  repeat (first | (with_reducible refine wpAny_loadPart_at he ?_) | (with_reducible refine wpAny_loadPart_at hK ?_) | (with_reducible refine wpAny_isSubtype_exc hK ?_; rw [has]) | wp_step)
  exact wpAny_raiseNew_none hh hE
end
/-! ### the new exception while its __init__ runs -/
/-- what an exception has before it flies -/
def excObj (dO : Option Addr) (C t : Addr) : Obj := ⟨.ref C, dO, .fields #[.ref t, .none, .none, .none, .bool false, .none], #[]⟩
def selfO (dO : Option Addr) (C e : Addr) : HO := .ext fun h => ∃ t, h.get? e = some (excObj dO C t)
theorem self_ok {P : Program} {w : World} {H : Hp} {h : Heap} {dO : Option Addr} {C e t : Addr} (he : h.get? e = some (excObj dO C t)) : ObjOk P w H h e (selfO dO C e) :=
  ⟨⟨t, he⟩, ⟨_, he⟩, fun _ _ ⟨t, a⟩ k => ⟨t, k _ a⟩⟩
/-- a class C of exceptions that has an __init__ at fi -/
structure IniCls (x : Str) (C fi : Addr) (bmB : List Value) (newId : String) (mg : Str → Option Value) (base : Heap) : Prop where
  bound : mg x = some (.ref C)
  obj : ∃ (bm : List Value) (N : Addr) (nm q : Str) (bs : List Value) (hdct : Bool) (sn : List Str) (sub : List Value) (ab : Bool) (col : Option Bool) (dd : Option Addr) (k0 k1 k2 k3 k5 : Option Value) (mN : Str → Option Value),
    base.get? C = some (excClassObj nm q C N bs bm hdct sn sub ab col dd k0 k1 k2 k3 k5 newId) ∧ base.Ns N mN ∧ mN "__init__" = some (.ref fi) ∧ OwnTail base bmB bm
def tInitB (C : Addr) (t : TA) : TE := fun σ H Q => t σ H fun vs H1 => ∃ e v, vs = [.ref e, v] ∧ H1 e = some (selfO none C e) ∧ Q .non H1
theorem upd_id {H : Hp} {a : Addr} {o : HO} (h : H a = some o) : upd H a o = H := by
  funext b
  unfold upd
  split
  · rename_i z; rw [z, h]
  · rfl
section
variable {X : Cx}
theorem init_run {prog : Program} {w : World} {A : Around} {E : Value → Shared → Prop} {s : Shared} {bm bmB : List Value} {C N e t0 : Addr} {nm q : Str} {bs : List Value} {hdct : Bool} {sn : List Str} {sub : List Value} {ab : Bool} {col : Option Bool} {dd : Option Addr} {k0 k1 k2 k3 k5 : Option Value} {B newId initId : String} {v : Value} {Q : Value → Shared → Prop}
    (F : ExcBaseFacts B newId initId bmB) (tl : OwnTail s.heap bmB bm) (hK : s.heap.get? C = some (excClassObj nm q C N bs bm hdct sn sub ab col dd k0 k1 k2 k3 k5 newId)) (he : s.heap.get? e = some (excObj none C t0))
    (hq : ∀ h' t1, h'.get? e = some (excObj none C t1) → (∀ b o, b ≠ e → s.heap.get? b = some o → h'.get? b = some o) → Q .none { s with heap := h' }) :
    wpAny (model prog w) A (call (.builtin initId) [.ref e, v]) Q E s := by
  obtain ⟨h, g, d, t, os⟩ := s
  refine wpAny_call (codeAny_call_builtin F.init.plain F.initEntry (wpAny_check_init_subT F tl hK he rfl ?_))
  unfold Builtin.«BaseException.__init__»
  dsimp only
  rw [if_neg (by simp)]
  unfold newTuple Builtin.BaseException.bexcPut
  have he1 := Heap.get?_push_of_some (h := h) { cls := .type "tuple", data := .seq [v].toArray } he
  refine wpAny_bind (wpAny_newObj_type (wpAny_bind (wpAny_bind (wpAny_field he1 rfl rfl (wpAny_bind (wpAny_setField he1 rfl (by show 0 < 6; decide) ?_))))) (by show 1 ≤ sizeLine; rw [sizeLine_eq]; omega))
  refine wpAny_letGo (wpAny_pure (hq _ h.objs.size ?_ fun b o nb hb => ?_))
  · exact (Heap.get?_update_self _ he1 rfl).trans rfl
  · exact (Heap.get?_update_of_ne _ (Ne.symm nb) (Heap.get?_push_of_some _ hb))
theorem pe_initB {xR : Str} {x : Str} {R C fi : Addr} {bmB : List Value} {B newId initId : String} {e : Expr} {es : List Expr} {t : TA} {p apos pos : Pos} {pl : Sem Bool} (F : ExcBaseFacts B newId initId bmB) (O : IniCls x C fi bmB newId X.mg X.base) (hgR : Gl X xR) (hmR : X.mg xR = some (.ref R))
    (rd : PySem.W.readsIn X.K R (.type "type") = true) (sg : PySem.W.specialIn X.K (.ref R) "__getattribute__" = some (some (.builtin "type.__getattribute__"))) (fc : PySem.W.findCls X.K (.ref R) (.type "type") "__init__" = some (.val (.builtin initId)))
    (hh : PySem.W.handedIn (.builtin initId) = true) (ha : PA X (e :: es) t) (hdb : (xR == ("__debug__" : Str)) = false := by decide)
    (hst : starEach (e :: es) X.env = (false, eval e X.env) :: starEach es X.env := by rfl) (hpl : (backTo pos (starEach es X.env)).any (·.1) = false := by rfl)
    (ht : eval (.Call (.Attribute (.Name xR p) "__init__" apos) (e :: es) [] pos) X.env = (do
      let ov ← eval (.Name xR p) X.env
      standAt apos.atName
      let (f, fst) ← holding [ov] (getMethod ov "__init__" pl)
      callWith pos f fst (backTo pos (starEach (e :: es) X.env)) (backToKw pos (keywordEach [] X.env))) := by rfl) :
    PE X (.Call (.Attribute (.Name xR p) "__init__" apos) (e :: es) [] pos) (tInitB C t) := by
  intro pins s σ H Q I h
  refine PySem.W.methodCall_KW (pl := pl) (ld_glob I hgR hmR (PySem.W.method_cls I.kIn sg (PySem.W.cls_value I.kIn rd fc hh ?_)) hdb) ht
  have It := I.tok (s.toks + 1)
  refine PyProof.Rows.callWith_builtin1 (thn (ha pos pins _ σ H _ It h) fun us s1 ⟨vs, H1, I1, r, x0, v, ev, hx, q⟩ => ?_) hst hpl
  subst ev
  obtain ⟨bm, N, nm, q0, bs, hdct, sn, sub, ab, col, dd, k0, k1, k2, k3, k5, mN, hC, hN, hi, ot⟩ := O.obj
  obtain ⟨u0, u1, rfl, r0, r1⟩ := Vals.two r
  cases (show u0 = Value.ref x0 from r0)
  obtain ⟨t0, hx0⟩ := (I1.hok x0 _ hx).1
  refine init_run (A := X.A) F (tail_keeps I1.bk ot) (I1.bk _ _ hC) hx0 fun h' t1 e1 k => ?_
  have I2 := I1.write (x := x0) (e := x0) (o := selfO none C x0) (t' := s1.toks) (by rw [hx]; exact True.intro) (.inl rfl) (fun b o nb hb => k b o nb hb) ⟨_, e1⟩ (self_ok e1)
  rw [upd_id hx] at I2
  exact ⟨.non, _, I2, rfl, q⟩
end
/-! ### self.f = v, the first attribute -/
theorem osa_exc {prog : Program} {w : World} {A : Around} {R : Result → Shared → Prop} {s : Shared} {K : PySem.W.Frag} {x C : Addr} {cd : ClassData} {name : Str} {tk : Tok} {v : Value} {t0 : Addr} (Xk : K.In s.heap) (hx : s.heap.get? x = some (excObj none C t0))
    (hc : PySem.W.clsIn K C = some cd) (hdc : cd.hasDict = true) (hob : cd.mro.contains (.type "object") = true) (hpass : refuseLoop (.ref x) "__setattr__" cd.mro = pure ()) (hn : PySem.W.findIn K (.ref C) name = some none)
    (go : ∀ h' tk' dx, s.heap.get? dx = none → h'.get? x = some (excObj (some dx) C t0) → h'.Ns1 dx (fun y => if y = name then some v else none) → (∀ b o, b ≠ x → s.heap.get? b = some o → h'.get? b = some o) → R (.ok (.ret .none)) { s with heap := h', toks := tk' }) :
    codeAny (model prog w) A (.call (.builtin "object.__setattr__") ⟨[.ref x, .str name tk, v], []⟩) R s := by
  have SF := PySem.F.store_object
  obtain ⟨h, g, d, t, os⟩ := s
  have ty : PySem.W.InstAt h x (excObj none C t0) C none := ⟨hx, rfl, rfl, trivial⟩
  have ne : cd.mro.isEmpty = false := by cases q : cd.mro with | nil => rw [q] at hob; cases hob | cons _ _ => rfl
  have sub : PySem.W.Looks (model prog w) h (isInstance (.ref x) (.type "object")) true := ty.type.andThen (PySem.W.looks_mroIn Xk (by unfold PySem.W.mroIn; rw [hc, Option.bind_some, if_neg (by rw [ne]; decide), hob]))
  refine codeAny_call_builtin SF.slot.plain SF.entry (@PySem.W.check_slot (model prog w) _ _ ⟨h, g, d, t, os⟩ "object.__setattr__" "object" "__setattr__" (.ref x) [.str name tk, v] [] _ SF.kind SF.split sub (SF.args (.ref x) (.str name tk) v) ?_)
  have mr : PySem.W.Looks (model prog w) h (mroOf (.ref C)) cd.mro := (PySem.W.looks_clsIn Xk hc).andThen .now
  rw [PySem.W.osa_eq, refuse_eq]
  refine wpAny_bind (wpAny_bind (ty.type.here (wpAny_bind (mr.here ?_))))
  rw [hpass]
  refine wpAny_pure (wpAny_bind (ty.type.here (wpAny_bind ((PySem.W.looks_findIn Xk hn).here (wpAny_bind (wpAny_pure ?_))))))
  show wpAny _ _ (Builtin.ObjectAttr.storeInOwnDict (.ref x) (.ref C) (.str name tk) name v false) _ _ _
  unfold Builtin.ObjectAttr.storeInOwnDict
  refine wpAny_bind (wpAny_pure (wpAny_bind (wpAny_bind (wpAny_loadPart hx (wpAny_bind ((PySem.W.looks_clsIn Xk hc).here ?_))))))
  rw [hdc]
  have hx1 : (h.push { cls := .type "dict", data := .dict #[] }).get? x = some (excObj none C t0) := Heap.get?_push_of_some _ hx
  have ns : x ≠ h.objs.size := Nat.ne_of_lt (Heap.lt_size hx)
  refine wpAny_bind (wpAny_alloc' (wpAny_bind (wpAny_update' hx1 ?_)))
  refine wpAny_pure ?_
  generalize hh2 : (h.push { cls := .type "dict", data := .dict #[] }).update x _ = h2
  have dNew : h2.get? h.objs.size = some { cls := .type "dict", data := .dict #[] } := by rw [← hh2]; exact (Heap.get?_update_ne _ _ _ _ (Ne.symm ns)).trans (Heap.get?_push_size _ rfl)
  have x2 : h2.get? x = some (excObj (some h.objs.size) C t0) := by rw [← hh2]; exact (Heap.get?_update_self _ hx1 rfl).trans rfl
  have nsE : h2.Ns h.objs.size (fun _ => none) := ⟨_, #[], _, dNew, rfl, fun e he => absurd he (by simp), fun _ => rfl⟩
  show wpAny _ _ (Builtin.ObjectAttr.storeInDict h.objs.size (.str name tk) name v) _ _ _
  unfold Builtin.ObjectAttr.storeInDict Builtin.ObjectAttr.newKeyGuard
  refine wpAny_bind (wpAny_pure (wpAny_bind (wpAny_nsSet1 (Heap.Ns1.of_empty nsE) fun h3 n3 s3 => ?_)))
  obtain ⟨oD, esD, epD, e1, e2, e3⟩ := n3.count (Within.cons name v Within.nil)
  refine wpAny_bind (wpAny_lookBehind e1 (by rw [e2]; exact pastItsLine_dict (Nat.le_trans e3 (by rw [List.length_cons, List.length_nil, sizeLine_eq]; omega))) ?_)
  refine wpAny_pure (go h3 _ h.objs.size (Heap.get?_none_of_le (Nat.le_refl _)) ((s3.2 x ns).trans x2) n3 fun b o nb hb => (s3.2 b (Nat.ne_of_lt (Heap.lt_size hb))).trans ?_)
  rw [← hh2]
  exact (Heap.get?_update_ne _ _ _ _ nb).trans (Heap.get?_push_of_some _ hb)
structure IniK (K : PySem.W.Frag) (C : Addr) (f : Str) : Prop where
  sa : PySem.W.findIn K (.ref C) "__setattr__" = some (some (.builtin "object.__setattr__"))
  cls : ∃ cd, PySem.W.clsIn K C = some cd ∧ cd.hasDict = true ∧ cd.mro.contains (.type "object") = true ∧ ∀ self, refuseLoop self "__setattr__" cd.mro = pure ()
  no : PySem.W.findIn K (.ref C) f = some none
def sFldE (C : Addr) (f : Str) (ta tv : TE) : TS := fun D σ H => tv σ H fun y H1 => ta σ H1 fun x H2 => ∃ e, x = .ref e ∧ H2 e = some (selfO none C e) ∧ ∀ dx, H2 dx = none → dx ≠ e → D.nx σ (upd (upd H2 dx (.xd [(f, y)])) e (selfO (some dx) C e))
section
variable {X : Cx}
theorem Inv.dicted {pins : List (Addr × Obj)} {σ : St} {H : Hp} {s : Shared} {e dx C t0 : Addr} {f : Str} {y : V} {u : Value} {h' : Heap} {tk : Nat} (I : Inv X pins σ H s) (he : H e = some (selfO none C e)) (nd : s.heap.get? dx = none) (ne : dx ≠ e) (ry : RelV y u)
    (e1 : h'.get? e = some (excObj (some dx) C t0)) (n1 : h'.Ns1 dx (fun z => if z = f then some u else none)) (kp : ∀ b o, b ≠ e → s.heap.get? b = some o → h'.get? b = some o) :
    H dx = none ∧ Inv X pins σ (upd (upd H dx (.xd [(f, y)])) e (selfO (some dx) C e)) { s with heap := h', toks := tk } := by
  have hn : H dx = none := by
    cases z : H dx with
    | none => rfl
    | some o => obtain ⟨ob, q⟩ := (I.hok dx o z).ex; rw [nd] at q; cases q
  have oth : ∀ b, b ≠ e → b ≠ dx → upd (upd H dx (.xd [(f, y)])) e (selfO (some dx) C e) b = H b := fun b h1 h2 => by rw [upd_ne h1, upd_ne h2]
  have inh : ∀ b o, s.heap.get? b = some o → b ≠ dx := fun b o q z => by subst z; rw [nd] at q; cases q
  have trk : ∀ b o, H b = some o → b ≠ dx := fun b o q z => by subst z; rw [hn] at q; cases q
  have net : ∀ b o, H b = some o → (∀ φ, o ≠ .ext φ) → b ≠ e := fun b o q n z => by subst z; rw [he] at q; cases q; exact n _ rfl
  have unt : ∀ b, H b = none → b ≠ e := fun b q z => by subst z; rw [he] at q; cases q
  refine ⟨hn, I.un ⟨fun b o q n _ _ => kp b o (unt b n) q, fun b o q n _ _ => ⟨o.slots, kp b o (unt b n) q⟩, fun b o q n _ => by rw [oth b (unt b n) (inh b o q)]; exact n, fun b o q _ => ?_,
    fun b xs q => by rw [oth b (net b _ q fun φ z => by cases z) (trk b _ q)]; exact q, fun b o v q => by rw [oth b (net b _ q fun φ z => by cases z) (trk b _ q)]; exact q, fun b ps q => ⟨#[], by rw [oth b (net b _ q fun φ z => by cases z) (trk b _ q), q]; simp⟩⟩ fun b o q => ?_⟩
  · by_cases z : b = e
    · exact ⟨_, z ▸ e1⟩
    · exact ⟨o, kp b o z q⟩
  · by_cases z : b = e
    · subst z
      rw [upd_same] at q
      cases q
      exact self_ok e1
    · rw [upd_ne z] at q
      by_cases z2 : b = dx
      · subst z2
        rw [upd_same] at q
        cases q
        refine ⟨_, n1, fun g => ?_⟩
        by_cases zg : g = f
        · subst zg; simp only [List.lookup, beq_self_eq_true, if_true]; exact ry
        · have : (g == f) = false := beq_eq_false_iff_ne.mpr zg
          simp only [List.lookup, this, if_neg zg]; trivial
      · rw [upd_ne z2] at q
        refine (I.hok b o q).stay (fun c v hc q' => kp c v ?_ q') (fun c q' => by rw [oth c (net c _ q' fun φ z => by cases z) (trk c _ q')]; exact q') fun c xs q' => by rw [oth c (net c _ q' fun φ z => by cases z) (trk c _ q')]; exact q'
        rcases hc with r | r
        · rw [r]; exact z
        · exact net c _ r fun φ z => by cases z
theorem ps_setE {o value : Expr} {f : Str} {C : Addr} {pos pos' : Pos} {ta tv : TE} (k : IniK X.K C f) (ha : PE X o ta) (hv : PE X value tv) (hs : swapsWith value (some (.Attribute o f pos')) pos.line X.env = pure false) : PS X (.Assign [.Attribute o f pos'] value pos) (sFldE C f ta tv) := by
  intro pins s σ H D I h
  refine plainObj_wpAny_Assign_Attribute (thn (hv pins s σ H _ I h) fun u s1 ⟨y, H1, I1, ry, q⟩ => thn (ha pins s1 σ H1 _ I1 q) fun ov s2 ⟨x, H2, I2, rx, e, ex, he, q2⟩ => ?_) hs
  subst ex
  obtain rfl : ov = Value.ref e := rx
  obtain ⟨t0, hx⟩ := (I2.hok e _ he).1
  obtain ⟨cd, hc, hd, ho, hp⟩ := k.cls
  refine PySem.W.set_plain I2.kIn (ox := excObj none C t0) (od := none) ⟨hx, rfl, rfl, trivial⟩ k.sa (osa_exc (s := { s2 with toks := s2.toks + 1 }) I2.kIn hx hc hd ho (hp _) k.no fun h' tk' dx nd e1 n1 kp => ?_)
  have ne : dx ≠ e := fun z => by subst z; rw [show s2.heap.get? dx = none from nd] at hx; cases hx
  obtain ⟨hn, I3⟩ := Inv.dicted (tk := tk') I2 he nd ne ry e1 n1 kp
  exact ⟨_, _, I3, q2 dx hn ne⟩
end
/-! ### f'..{n}' -/
def tFs (ta tb : TE) : TE := fun σ H Q => ta σ H fun x H1 => ∃ c, x = .str c ∧ c.length ≤ 900 ∧ tb σ H1 fun y H2 => ∃ n : Nat, y = .int n ∧ n ≤ 60 ∧ ∀ z, Q (.str z) H2
theorem num_short : ∀ n : Nat, n ≤ 60 → (PySem.Str.ofString (toString (n : Int))).length ≤ 2 ∧ (n : Int).natAbs.log2 < 1920 := by
  have h : ∀ n : Fin 61, (PySem.Str.ofString (toString ((n : Nat) : Int))).length ≤ 2 ∧ ((n : Nat) : Int).natAbs.log2 < 1920 := by decide +kernel
  exact fun n hn => h ⟨n, by omega⟩
section
variable {X : Cx}
theorem pe_fs {v1 v2 : Expr} {fpos pos : Pos} {ta tb : TE} (ha : PE X v1 ta) (hb : PE X v2 tb) : PE X (.JoinedStr [v1, .FormattedValue v2 (-1) none fpos] pos) (tFs ta tb) := by
  intro pins s σ H Q I h
  refine JoinedStr_many (joinParts_cons (thn (ha pins s σ H _ I h) fun u s1 ⟨x, H1, I1, rx, c, ex, hc, q⟩ => ?_))
  subst ex
  obtain ⟨tk, rfl⟩ : ∃ tk, u = Value.str c tk := rx
  have l0 : (Str.empty ++ c).length = c.length := by rw [strLen_append]; exact Nat.zero_add _
  refine ⟨by rw [l0]; exact Nat.le_of_lt (small1000 (by omega)), joinParts_cons (FormattedValue_plain (thn (hb pins s1 σ H1 _ I1 q) fun u2 s2 ⟨y, H2, I2, ry, n, ey, hn, q2⟩ => ?_))⟩
  subst ey
  obtain ⟨tk2, rfl⟩ : ∃ tk2, u2 = Value.int n tk2 := ry
  obtain ⟨n1, n2⟩ := num_short n hn
  have l1 : ((Str.empty ++ c) ++ PySem.Str.ofString (toString (n : Int))).length ≤ sizeLine := by rw [strLen_append, l0]; exact Nat.le_of_lt (small1000 (by omega))
  refine formatField_int_small n2 ⟨l1, joinParts_nil ?_ l1⟩
  exact ⟨.str _, H2, I2.tok _, ⟨_, rfl⟩, q2 _⟩
end
/-! ### raised -/
def delH (H : Hp) (e : Addr) : Hp := fun b => if b = e then none else H b
theorem delH_ne {H : Hp} {e b : Addr} (h : b ≠ e) : delH H e b = H b := if_neg h
theorem delH_some {H : Hp} {e b : Addr} {o : HO} (h : delH H e b = some o) : b ≠ e ∧ H b = some o := by
  unfold delH at h
  split at h
  · cases h
  · rename_i z; exact ⟨z, h⟩
def RaisV (X : Cx) (E : XK) : Prop := ∀ (pins : List (Addr × Obj)) (σ : St) (H1 H : Hp) (s1 s : Shared) (e C : Addr) (dO : Option Addr), Inv X pins σ H1 s1 → s1.heap.get? e = none → Inv X pins σ H s → H e = some (selfO dO C e) → E (.ref C) dO (delH H e) → X.xe (.ref e) s
theorem raisV_def {P : Program} {w : World} {K : PySem.W.Frag} {mg : Str → Option Value} {base : Heap} {N : List Str} {qual : Str} {scope : Scope} {f : Addr} {cd : Value} {A : Around} {outer : List Env} {s0 : Shared} {H0 : Hp} {E : XK} :
    RaisV (cxOf (CXx P w) P w K mg base N qual scope f cd A outer s0 H0 E) E := by
  intro pins σ H1 H s1 s e C dO I1 n1 I he hE
  generalize hX : cxOf (CXx P w) P w K mg base N qual scope f cd A outer s0 H0 E = X at I I1 ⊢
  have hst : X.stack = X.env :: X.outer := by rw [← hX]; rfl
  have hfr : X.env.frame = some X.env.locals := by rw [← hX]; rfl
  have hxe : X.xe = fun e s' => wpAny (model X.prog X.w) X.A (leaving X.env e) (fun _ s'' => CXx X.prog X.w X.outer X.H₀ X.s₀ E e s'') (fun e' s'' => CXx X.prog X.w X.outer X.H₀ X.s₀ E e' s'') s' := by rw [← hX]; rfl
  have hex : X.ex = [] := by rw [← hX]; rfl
  have hfs : frs X.stack = X.env.locals :: X.fs := by rw [hst]; unfold frs; rw [List.filterMap_cons, hfr]; rfl
  clear hX
  have ne0 : ∀ b o, X.s₀.heap.get? b = some o → b ≠ e := fun b o q z => by
    subst z
    obtain ⟨o', q'⟩ := I1.base.there b o q (by rw [hex]; simp)
    rw [n1] at q'; cases q'
  rw [hxe]
  obtain ⟨t0, hobj⟩ := (I.hok e _ he).1
  have hB : ∀ b o, s.heap.get? b = some o → b ≠ e → b ∉ frs X.stack → (PySem.W.hideAll s.heap (e :: frs X.stack)).get? b = some o := fun b o q1 q2 q3 => PySem.W.hideAll_get _ q1 (fun z => (List.mem_cons.mp z).elim q2 q3)
  have Be : (PySem.W.hideAll s.heap (e :: frs X.stack)).get? e = none := PySem.W.hideAll_none _ List.mem_cons_self
  refine wpAny_pres (Pres.leave (dO := dO) (e := e)) ⟨_, _, hobj, ⟨rfl, rfl⟩, rfl⟩ ?_
  refine wpAny_leaving_firstW (base := PySem.W.hideAll s.heap (e :: frs X.stack)) (outer := X.outer) (L := X.env.locals) (a0 := .ref t0) (by rw [I.ok.frames, hst]) (funs_rebase (hst ▸ I.stack) fun b m => PySem.W.hideAll_none _ (List.mem_cons_of_mem _ (hst ▸ m))) hfr hobj
    (fun b o q => PySem.W.of_hideAll _ q) Be rfl rfl rfl fun h2 hL ct => ?_
  obtain ⟨stay, ⟨_, _, k2⟩, k3, up⟩ := hL
  have out : ∀ b o, X.s₀.heap.get? b = some o → b ∉ X.fs → b ∉ frs X.stack := fun b o q1 q2 z => by
    rw [hfs] at z
    exact (List.mem_cons.mp z).elim (Nat.ne_of_lt (Nat.lt_of_lt_of_le (Heap.lt_size q1) I.ok.above)) q2
  have slot : ∀ b o, s.heap.get? b = some o → b ∈ X.fs → ∃ sl, h2.get? b = some { o with slots := sl } := fun b o q m => by
    obtain ⟨_, o', q2, nf⟩ := I.funs.mem m
    rw [q] at q2
    cases q2
    obtain ⟨sl, z⟩ := up b o q nf
    exact ⟨sl, z⟩
  have u := I.base
  rw [hex] at u
  have net : ∀ b o, H b = some o → (∀ φ, o ≠ .ext φ) → b ≠ e := fun b o q n z => by subst z; rw [he] at q; cases q; exact n _ rfl
  refine ⟨e, C, t0, delH H e, _, dO, rfl, I.os, I.bare, ⟨fun b o q1 q2 q3 q4 => ?_, fun b o q1 q2 q3 q4 => ?_, fun b o q1 q2 q3 => ?_, fun b o q1 q2 => ?_, fun b xs q => ?_, fun b o v q => ?_, fun b ps q => ?_⟩, fun b o q1 => ?_, ⟨stay, Be, k2, k3⟩, ⟨fun b o q1 q2 => ?_, fun b o q1 => ?_⟩, ct, hE⟩
  · exact stay b o (hB b o (u.keep b o q1 q2 q3 q4) (ne0 b o q1) (out b o q1 q3))
  · obtain ⟨sl, q⟩ := u.slot b o q1 q2 q3 q4
    exact (slot b _ q q3).imp fun sl' z => z
  · rw [delH_ne (ne0 b o q1)]; exact u.free b o q1 q2 q3
  · obtain ⟨o', q⟩ := u.there b o q1 q2
    by_cases m : b ∈ X.fs
    · obtain ⟨sl, q'⟩ := slot b o' q m
      exact ⟨_, q'⟩
    · exact ⟨o', stay b o' (hB b o' q (ne0 b o q1) (out b o q1 m))⟩
  · have q' := u.tups b xs q
    rw [delH_ne (net b _ q' fun φ z => by cases z)]; exact q'
  · have q' := u.frzs b o v q
    rw [delH_ne (net b _ q' fun φ z => by cases z)]; exact q'
  · obtain ⟨more, q'⟩ := u.tbls b ps q
    exact ⟨more, by rw [delH_ne (net b _ q' fun φ z => by cases z)]; exact q'⟩
  · obtain ⟨nb, q2⟩ := delH_some q1
    refine (I.hok b o q2).stay (fun c v hc q => stay c v (hB c v q ?_ fun z => ?_)) (fun c q => by rw [delH_ne (net c _ q fun φ z => by cases z)]; exact q) fun c xs q => by rw [delH_ne (net c _ q fun φ z => by cases z)]; exact q
    · rcases hc with r | r
      · rw [r]; exact nb
      · exact net c _ r fun φ z => by cases z
    · have n := I.stkFree c z
      rcases hc with r | r
      · rw [r, q2] at n; cases n
      · rw [r] at n; cases n
  · obtain ⟨o', q⟩ := u.there b o q1 (by simp)
    exact ⟨o', hB b o' q (ne0 b o q1) (out b o q1 q2)⟩
  · obtain ⟨nb, q2⟩ := delH_some q1
    obtain ⟨ob, q⟩ := (I.hok b o q2).ex
    refine ⟨ob, hB b ob q nb fun z => ?_⟩
    have n := I.stkFree b z
    rw [q2] at n; cases n
def spIni (C : Addr) (f : Str) (ok : V → Hp → Prop) : Sp := fun vs H Q _ => ∃ e v, vs = [.ref e, v] ∧ ok v H ∧ H e = some (selfO none C e) ∧ ∀ dx, H dx = none → dx ≠ e → Q .non (upd (upd H dx (.xd [(f, v)])) e (selfO (some dx) C e))
def tRaiseV (C : Addr) (f : Str) (ok : V → Hp → Prop) (E : XK) (t : TA) : TS := fun _ σ H => t σ H fun vs H1 => ∃ v, vs = [v] ∧ ok v H1 ∧ ∀ dx, H1 dx = none → E (.ref C) (some dx) (upd H1 dx (.xd [(f, v)]))
section
variable {X : Cx}
theorem Inv.freshV {pins : List (Addr × Obj)} {σ : St} {H : Hp} {s : Shared} {a : Addr} {o : HO} {h' : Heap} (I : Inv X pins σ H s) (na : s.heap.get? a = none) (k : ∀ b u, s.heap.get? b = some u → h'.get? b = some u) (new : ObjOk X.prog X.w (upd H a o) h' a o) : H a = none ∧ Inv X pins σ (upd H a o) { s with heap := h' } := by
  have hn : H a = none := by
    cases z : H a with
    | none => rfl
    | some o => obtain ⟨ob, q⟩ := (I.hok a o z).ex; rw [na] at q; cases q
  have inh : ∀ b o, s.heap.get? b = some o → b ≠ a := fun b o q z => by subst z; rw [na] at q; cases q
  have trk : ∀ b o, H b = some o → b ≠ a := fun b o q z => by subst z; rw [hn] at q; cases q
  refine ⟨hn, I.un (t' := s.toks) ⟨fun b o q n _ _ => k b o q, fun b o q n _ _ => ⟨o.slots, k b o q⟩, fun b o q n _ => by rw [upd_ne (inh b o q)]; exact n, fun b o q _ => ⟨o, k b o q⟩, fun b xs q => by rw [upd_ne (trk b _ q)]; exact q, fun b o v q => by rw [upd_ne (trk b _ q)]; exact q, fun b ps q => ⟨#[], by rw [upd_ne (trk b _ q), q]; simp⟩⟩ fun b u q => ?_⟩
  by_cases z : b = a
  · subst z; rw [upd_same] at q; cases q; exact new
  · rw [upd_ne z] at q
    exact (I.hok b u q).stay (fun c v hc q' => k c v q') (fun c q' => by rw [upd_ne (trk c _ q')]; exact q') fun c xs q' => by rw [upd_ne (trk c _ q')]; exact q'
theorem ps_raiseV {x f : Str} {ok : V → Hp → Prop} {C fi : Addr} {fd : FuncData} {ps : List Str} {k : Nat} {bmB : List Value} {B newId initId : String} {E : XK} {e : Expr} {es : List Expr} {t : TA} {np cpos pos : Pos} (R : RaisV X E) (O : IniCls x C fi bmB newId X.mg X.base) (F : ExcBaseFacts B newId initId bmB)
    (G : FnOk X.prog X.w X.K X.mg X.base CX0 k fi fd ps (spIni C f ok)) (hty : PySem.W.typeIn X.K (.ref fi) = some (.type "function")) (hkp : PySem.W.keepIn X.K (.ref C) = true) (hb : Binds X.K fd ps []) (hok : ∀ v H x o, H x = none → ok v H → ok v (upd H x o)) (hr : Room (k + 1) X.A) (hg : Gl X x) (ha : PA X (e :: es) t)
    (hdb : (x == ("__debug__" : Str)) = false := by decide) (he : starEach (e :: es) X.env = (false, eval e X.env) :: starEach es X.env := by rfl) (hpl : (backTo cpos (starEach es X.env)).any (·.1) = false := by rfl) :
    PS X (.Raise (some (.Call (.Name x np) (e :: es) [] cpos)) none pos) (tRaiseV C f ok E t) := by
  intro pins s σ H D I h
  obtain ⟨bm, N, nm, q, bs, hdct, sn, sub, ab, col, dd, k0, k1, k2, k3, k5, mN, hC, hN, hi, ot⟩ := O.obj
  obtain ⟨of, hof, hfn⟩ : ∃ of, X.K.lookup fi = some of ∧ of.cls = .type "function" := by
    have hty' : Option.map (fun x => x.cls) (List.lookup fi X.K) = some (.type "function") := hty
    obtain ⟨of, h1, h2⟩ := Option.map_eq_some_iff.mp hty'
    exact ⟨of, h1, h2⟩
  rw [arm_exec_Raise]
  refine wpAny_bind (wpAny_standAt (raise_made (C := C) (nm := nm) (q := q) (N := N) (bs := bs) (bm := bm) (hdct := hdct) (sn := sn) (sub := sub) (ab := ab) (col := col) (dd := dd) (k0 := k0) (k1 := k1) (k2 := k2) (k3 := k3) (k5 := k5) (newId := newId) (tail_has F.hasBase ot) hr.hd ?_))
  refine wpAny_bind (wpAny_mono (Q := fun v z => ∃ e dO a0 sl, v = .ref e ∧ z.heap.get? C = some (excClassObj nm q C N bs bm hdct sn sub ab col dd k0 k1 k2 k3 k5 newId) ∧ z.heap.get? e = some ⟨.ref C, dO, .fields #[a0, .none, .none, .none, .bool false, .none], sl⟩ ∧ X.xe (.ref e) z) ?_ (fun v s3 h3 => wpAny_bind (wpAny_standAt (wpAny_pure h3))) fun _ _ y => y)
  refine wpAny_Call_Name_kw (ld_glob I hg O.bound ?_ hdb)
  refine PySem.W.callWith_K (h₀ := X.base) I.ok.mod.kin hkp (thn (ha cpos pins s σ H _ I h) fun us s1 ⟨vs, H1, I1, r, v, ev, okv, qE⟩ => ⟨I1.kIn, ?_⟩) he hpl
  subst ev
  obtain ⟨h1, g1, d1, t1, os1⟩ := s1
  have hlen : us.length ≤ sizeLine := by rw [← r.length]; show 1 ≤ sizeLine; rw [sizeLine_eq]; omega
  refine exc_made F (tail_keeps I1.bk ot) (I1.bk _ _ hC) (ns_keeps I1.bk hN) hi (I1.kIn _ _ hof) hfn hlen fun hh x0 m => ?_
  obtain ⟨t0, m1, m2, m3⟩ := m.there
  obtain ⟨nx, I2⟩ := I1.freshV (o := selfO none C x0) m.new m.keeps (self_ok (t := t0) m1)
  have r2 : Vals ([V.ref x0, v] ++ []) ((Value.ref x0 :: us) ++ []) := Vals.append (.cons rfl r) .nil
  have sp0 : spIni C f ok ([V.ref x0, v] ++ []) (upd H1 x0 (selfO none C x0)) (fun y H3 => y = .non ∧ ∃ dx, H1 dx = none ∧ dx ≠ x0 ∧ H3 = upd (upd (upd H1 x0 (selfO none C x0)) dx (.xd [(f, v)])) x0 (selfO (some dx) C x0)) E0 :=
    ⟨x0, v, rfl, hok _ _ _ _ nx okv, upd_same, fun dx n1 n2 => ⟨rfl, dx, by rw [upd_ne n2] at n1; exact n1, n2, rfl⟩⟩
  have hl : ((Value.ref x0 :: us) ++ []).length = ps.length := by rw [← r2.length]; exact G.len _ _ _ _ sp0
  refine wpAny_call (codeAny_mono (G.run _ X.stack _ _ ⟨Value.ref x0 :: us, []⟩ ((Value.ref x0 :: us) ++ []) ([V.ref x0, v] ++ []) _ E0 (hr.make C us []) (I2.env0.make C us []) (hb _ (Value.ref x0 :: us) I2.kIn hl) r2 sp0) fun rs s' hq => ?_)
  cases rs with
  | error ev => exact False.elim hq
  | ok fl =>
    cases fl with
    | ret u =>
      obtain ⟨y, H3, I3, ry, rfl, dx, n1, n2, rfl⟩ := I2.after hq
      obtain ⟨t3, o3⟩ := (I3.hok x0 _ upd_same).1
      refine ⟨ry, x0, some dx, .ref t3, #[], rfl, I3.bk _ _ hC, o3, R pins σ H1 _ _ _ x0 C (some dx) I1 m.new I3 upd_same ?_⟩
      have e : delH (upd (upd (upd H1 x0 (selfO none C x0)) dx (.xd [(f, v)])) x0 (selfO (some dx) C x0)) x0 = upd H1 dx (.xd [(f, v)]) := by
        funext b
        by_cases z : b = x0
        · subst z; unfold delH; rw [if_pos rfl, upd_ne (Ne.symm n2), nx]
        · rw [delH_ne z, upd_ne z]
          by_cases z2 : b = dx
          · subst z2; rw [upd_same, upd_same]
          · rw [upd_ne z2, upd_ne z2, upd_ne z]
      rw [e]
      exact qE dx n1
    | next => exact False.elim hq
    | brk => exact False.elim hq
    | cont => exact False.elim hq
end
/-! ### e.f of a caught exception -/
theorem excv_get {prog : Program} {w : World} {A : Around} {E : Value → Shared → Prop} {s : Shared} {K : PySem.W.Frag} {a C N : Addr} {o od : Obj} {bs bm bmB : List Value} {nm q : Str} {hdct : Bool} {sn : List Str} {sub : List Value} {ab : Bool} {col : Option Bool} {dd : Option Addr} {k0 k1 k2 k3 k5 : Option Value} {B newId : String} {name : Str} {expr : Bool} {v : Value} {Q : Value → Shared → Prop}
    (X : K.In s.heap) (I : PySem.W.InstAt s.heap a o C (some od)) (hga : PySem.W.findIn K (.ref C) "__getattribute__" = some (some (.builtin "BaseException.__getattribute__"))) (hgt : PySem.W.findIn K (.ref C) "__getattr__" = some none)
    (hf : PySem.W.findObj K C (some od) name = some (.value v)) (FB : ExcAttrBase B bmB) (hC : s.heap.get? C = some (excClassObj nm q C N bs bm hdct sn sub ab col dd k0 k1 k2 k3 k5 newId)) (T : OwnTailQ s.heap bmB bm) (hh : PySem.W.handedIn v = true) (hq : Q v { s with toks := s.toks + 1 }) :
    wpAny (model prog w) A (getAttr (.ref a) name expr) Q E s := by
  obtain ⟨h, g, d, t, os⟩ := s
  unfold getAttr getAttrBy
  refine wpAny_bind (wpAny_mkText (wpAny_holding (wpAny_bind (PySem.W.Looks.at (PySem.W.InstAt.type I) (wpAny_bind (PySem.W.Looks.at (PySem.W.looks_findIn X hga) ?_))))))
  refine wpAny_ite_false (by rfl) ?_
  unfold getAttrByItsOwn hookBefore
  refine wpAny_bind (wpAny_ite_true (by rfl) (PySem.W.Looks.at (PySem.W.looks_findIn X hgt) (wpAny_bind (wpAny_attempt (wpAny_holding ?_)))))
  unfold callGetattribute boundAndCalled
  refine wpAny_ite_false (by cases expr <;> rfl) (wpAny_bind (wpAny_of_eq (FB.ga.bind (Value.ref a)) (wpAny_call (codeAny_call_builtin FB.ga.plain F.entry_bexc_ga (wpAny_check_ga_own FB hC T I.at_ I.cls ?_)))))
  unfold Builtin.«object.__getattribute__»
  refine wpAny_bind ?_
  unfold slotArgs
  refine wpAny_ite_false (by rfl) (wpAny_ite_false (by rfl) (wpAny_pure ?_))
  show wpAny _ _ (Bind.bind (Builtin.ObjectAttr.attrName (Value.str name _)) _) _ _ _
  refine wpAny_bind ?_
  unfold Builtin.ObjectAttr.attrName
  refine wpAny_pure ?_
  refine wpAny_bind (PySem.W.Looks.at (PySem.W.InstAt.type I) (wpAny_bind (PySem.W.Looks.at (PySem.W.looks_find X I hf) ?_)))
  refine wpAny_pure ?_
  refine PySem.W.handed_on hh ?_
  exact hq
/-- what is asked of the class of an exception whose f is read -/
structure ExcA (K : PySem.W.Frag) (C : Addr) (f : Str) : Prop where
  ga : PySem.W.findIn K (.ref C) "__getattribute__" = some (some (.builtin "BaseException.__getattribute__"))
  gt : PySem.W.findIn K (.ref C) "__getattr__" = some none
  no : PySem.W.findIn K (.ref C) f = some none
  hd : PySem.W.hasDictIn K C = true
  own : ∃ B bmB, ExcAttrBase B bmB ∧ ∀ h : Heap, K.In h → ∃ nm q N bs bm hdct sn sub ab col dd k0 k1 k2 k3 k5 newId, h.get? C = some (excClassObj nm q C N bs bm hdct sn sub ab col dd k0 k1 k2 k3 k5 newId) ∧ OwnTailQ h bmB bm
def tExcA (K : PySem.W.Frag) (f : Str) (ta : TE) : TE := fun σ H Q => ta σ H fun x H1 => ∃ a C dx v, x = .ref a ∧ H1 a = some (excD (some dx) C a) ∧ H1 dx = some (.xd [(f, v)]) ∧ ExcA K C f ∧ Q v H1
section
variable {X : Cx}
theorem pe_excA {e : Expr} {f : Str} {ta : TE} {pos : Pos} (he : PE X e ta) (hb : attributeBase e f X.env (eval e X.env) = eval e X.env) : PE X (.Attribute e f pos) (tExcA X.K f ta) := by
  intro pins s σ H Q I h
  refine attr_of hb (thn (he pins s σ H _ I h) fun u s1 ⟨x, H1, I1, rx, a, C, dx, v, ex, ea, ed, k, q⟩ => ?_)
  subst ex
  obtain rfl : u = Value.ref a := rx
  obtain ⟨⟨⟨o, o1, o2⟩, o', vs, o3, ⟨o4, o5⟩, o6⟩, _⟩ := I1.hok a _ ea
  rw [o1] at o3
  cases o3
  obtain ⟨mA, n1, rl⟩ := I1.hok dx _ ed
  obtain ⟨od, d1, d2⟩ := lookIn_ns n1
  obtain ⟨u', hu, ru⟩ := RelO.some_of (v := v) (o := mA f) (by have := rl f; simp only [List.lookup, beq_self_eq_true] at this; exact this)
  obtain ⟨B, bmB, FB, ow⟩ := k.own
  obtain ⟨nm, q0, N, bs, bm, hdct, sn, sub, ab, col, dd, k0, k1, k2, k3, k5, newId, hC, T⟩ := ow s1.heap I1.kIn
  have J : PySem.W.InstAt s1.heap a o C (some od) := ⟨o1, o2, by unfold PySem.W.notCls; rw [o5], by rw [o4]; exact d1⟩
  exact excv_get I1.kIn J k.ga k.gt (PySem.W.findObj_own k.hd k.no rfl (by rw [d2, hu])) FB hC T (handed_of ru) ⟨v, H1, I1.tok _, ru, q⟩
end
theorem ns_has {K : PySem.W.Frag} {h : Heap} {N : Addr} {m : Str → Option Value} {x : Str} {v : Value} (KX : K.In h) (G : h.Ns N m) (q : PySem.W.nsIn K N x = some (some v)) : m x = some v := by
  obtain ⟨o, es, ep, ho, hd, hk, hf⟩ := G
  unfold PySem.W.nsIn at q
  revert q
  split
  · rename_i c d es' n' sl lk
    have e1 := KX _ _ lk
    rw [ho] at e1
    cases e1
    cases hd
    intro q
    split at q
    · rename_i en fe
      cases q
      rw [← hf]
      unfold nsFind findBy
      rw [← Array.find?_toList, fe]; rfl
    · split at q <;> cases q
  · intro q; cases q
/-- a class C(R) of exceptions with an __init__ of its own, R(B): by the equations of the table -/
theorem exc_factsI {K : PySem.W.Frag} {C R N NR fi : Addr} {nm q x f : Str} {bs bmB : List Value} {sn : List Str} {sub : List Value} {ab : Bool} {col : Option Bool} {dd dR : Option Addr} {k0 k1 k2 k3 k5 : Option Value} {newId B : String} {cR : Value} {cdR : ClassData} {slR : Array (Option Value)} {mg : Str → Option Value} {base : Heap}
    (KX : K.In base) (G : base.Ns mainGlobals mg) (e0 : PySem.W.nsIn K mainGlobals x = some (some (.ref C))) (lkC : K.lookup C = some (excClassObj nm q C N bs (.ref R :: bmB) true sn sub ab col dd k0 k1 k2 k3 k5 newId)) (lkR : K.lookup R = some ⟨cR, dR, .cls cdR, slR⟩)
    (nC : PySem.W.nsOkIn K N = true) (iC : PySem.W.nsIn K N "__init__" = some (some (.ref fi))) (eR : cdR.ns = NR) (nR : PySem.W.nsOkIn K NR = true) (r1 : PySem.W.nsIn K NR "__init__" = some none) (r2 : PySem.W.nsIn K NR "__getattribute__" = some none) (r3 : PySem.W.nsIn K NR "__getattr__" = some none) (r4 : PySem.W.nsIn K NR "args" = some none)
    (FB : ExcAttrBase B bmB) (ga : PySem.W.findIn K (.ref C) "__getattribute__" = some (some (.builtin "BaseException.__getattribute__"))) (gt : PySem.W.findIn K (.ref C) "__getattr__" = some none) (sa : PySem.W.findIn K (.ref C) "__setattr__" = some (some (.builtin "object.__setattr__"))) (no : PySem.W.findIn K (.ref C) f = some none)
    (hob : (Value.ref C :: .ref R :: bmB).contains (.type "object") = true) (pass : ∀ self, refuseLoop self "__setattr__" bmB = pure ()) : IniCls x C fi bmB newId mg base ∧ ExcA K C f ∧ IniK K C f := by
  subst eR
  have hcl : ∃ cd, PySem.W.clsIn K C = some cd ∧ cd.hasDict = true ∧ cd.mro = .ref C :: .ref R :: bmB := by
    unfold PySem.W.clsIn
    rw [lkC]
    exact ⟨_, rfl, rfl, rfl⟩
  obtain ⟨cd, c1, c2, c3⟩ := hcl
  refine ⟨⟨PySem.W.mg_of KX G e0, ?_⟩, ⟨ga, gt, no, ?_, B, bmB, FB, fun h X => ?_⟩, ⟨sa, ⟨cd, c1, c2, by rw [c3]; exact hob, fun self => by rw [c3, refuseLoop_ref, refuseLoop_ref]; exact pass self⟩, no⟩⟩
  · exact ⟨_, N, nm, q, bs, true, sn, sub, ab, col, dd, k0, k1, k2, k3, k5, _, KX _ _ lkC, Heap.Ns.of_isNs (PySem.W.isNs_of_in KX nC), ns_has KX (Heap.Ns.of_isNs (PySem.W.isNs_of_in KX nC)) iC, .own (KX _ _ lkR) (Heap.Ns.of_isNs (PySem.W.isNs_of_in KX nR)) (PySem.W.nsMap_none_of_in KX nR r1) .base⟩
  · unfold PySem.W.hasDictIn
    rw [c1]
    exact c2
  · exact ⟨nm, q, N, bs, _, true, sn, sub, ab, col, dd, k0, k1, k2, k3, k5, newId, X _ _ lkC, .own (X _ _ lkR) (Heap.Ns.of_isNs (PySem.W.isNs_of_in X nR))
      (quiet4 (PySem.W.nsMap_none_of_in X nR r1) (PySem.W.nsMap_none_of_in X nR r2) (PySem.W.nsMap_none_of_in X nR r3) (PySem.W.nsMap_none_of_in X nR r4)) .base⟩
end L2

set_option Elab.async false
set_option linter.all false
set_option maxRecDepth 100000
set_option maxHeartbeats 4000000
/-! Exceptions with an __init__, as bundles and over the structures. -/
namespace L2
open PySem PySem.Spec PyProof.Rows
def iniS : Stmt → Stmt
  | .ClassDef _ _ _ (b :: r) _ _ _ _ _ _ _ => b
  | st => st
def okN (v : V) (_ : Hp) : Prop := ∃ n : Nat, v = .int n ∧ n ≤ 60
theorem okN_stay : ∀ (v : V) (H : Hp) (x : Addr) (o : HO), H x = none → okN v H → okN v (upd H x o) := fun _ _ _ _ _ h => h
/-- what __init__ asks of the class above -/
structure UpK (K : PySem.W.Frag) (R : Addr) (initId : String) : Prop where
  rd : PySem.W.readsIn K R (.type "type") = true
  sg : PySem.W.specialIn K (.ref R) "__getattribute__" = some (some (.builtin "type.__getattribute__"))
  fc : PySem.W.findCls K (.ref R) (.type "type") "__init__" = some (.val (.builtin initId))
  hh : PySem.W.handedIn (.builtin initId) = true
theorem handed_ve : PySem.W.handedIn (.builtin "ValueError.__init__") = true := by decide +kernel
/-- a class of exceptions with its __init__, to be raised -/
structure DefI (P : Program) (w : World) (K : PySem.W.Frag) (mg : Str → Option Value) (base : Heap) (k : Nat) (x : Str) (C : Addr) (f : Str) (ok : V → Hp → Prop) : Prop where
  ex : ∃ fi fd ps bmB newId B initId, IniCls x C fi bmB newId mg base ∧ ExcBaseFacts B newId initId bmB ∧ FnOk P w K mg base CX0 k fi fd ps (spIni C f ok) ∧ PySem.W.typeIn K (.ref fi) = some (.type "function") ∧ PySem.W.keepIn K (.ref C) = true ∧ Binds K fd ps [] ∧ ∀ (v : V) (H : Hp) (x : Addr) (o : HO), H x = none → ok v H → ok v (upd H x o)
section
variable {X : Cx}
theorem qpe_initB {xR x : Str} {R C fi : Addr} {bmB : List Value} {B newId initId : String} {e : Expr} {es : List Expr} {t : TA} {p apos pos : Pos} {pl : Sem Bool} (F : ExcBaseFacts B newId initId bmB) (O : IniCls x C fi bmB newId X.mg X.base) (hmR : X.mg xR = some (.ref R)) (u : UpK X.K R initId) (hgR : Gl X xR) (ha : QA X (e :: es) t)
    (hdb : (xR == ("__debug__" : Str)) = false := by decide) (hst : starEach (e :: es) X.env = (false, eval e X.env) :: starEach es X.env := by rfl) (hpl : (backTo pos (starEach es X.env)).any (·.1) = false := by rfl)
    (ht : eval (.Call (.Attribute (.Name xR p) "__init__" apos) (e :: es) [] pos) X.env = (do
      let ov ← eval (.Name xR p) X.env
      standAt apos.atName
      let (f, fst) ← holding [ov] (getMethod ov "__init__" pl)
      callWith pos f fst (backTo pos (starEach (e :: es) X.env)) (backToKw pos (keywordEach [] X.env))) := by rfl) :
    QE X (.Call (.Attribute (.Name xR p) "__init__" apos) (e :: es) [] pos) (tInitB C t) := ⟨pe_initB F O hgR hmR u.rd u.sg u.fc u.hh ha.h hdb hst hpl ht⟩
theorem qps_setE {o value : Expr} {f : Str} {C : Addr} {pos pos' : Pos} {ta tv : TE} (k : IniK X.K C f) (ha : QE X o ta) (hv : QE X value tv) (hs : swapsWith value (some (.Attribute o f pos')) pos.line X.env = pure false := by rfl) : QS X (.Assign [.Attribute o f pos'] value pos) (sFldE C f ta tv) := ⟨ps_setE k ha.h hv.h hs⟩
theorem qpe_fs {v1 v2 : Expr} {fpos pos : Pos} {ta tb : TE} (ha : QE X v1 ta) (hb : QE X v2 tb) : QE X (.JoinedStr [v1, .FormattedValue v2 (-1) none fpos] pos) (tFs ta tb) := ⟨pe_fs ha.h hb.h⟩
theorem qps_raiseI {k : Nat} {x f : Str} {ok : V → Hp → Prop} {C : Addr} {E : XK} {e : Expr} {es : List Expr} {t : TA} {np cpos pos : Pos} (R : RaisV X E) (D : DefI X.prog X.w X.K X.mg X.base k x C f ok) (hr : Room (k + 1) X.A) (hg : Gl X x) (ha : QA X (e :: es) t)
    (hdb : (x == ("__debug__" : Str)) = false := by decide) (he : starEach (e :: es) X.env = (false, eval e X.env) :: starEach es X.env := by rfl) (hpl : (backTo cpos (starEach es X.env)).any (·.1) = false := by rfl) :
    QS X (.Raise (some (.Call (.Name x np) (e :: es) [] cpos)) none pos) (tRaiseV C f ok E t) := by
  obtain ⟨fi, fd, ps, bmB, newId, B, initId, O, F, G, ty, kp, b, hok⟩ := D.ex
  exact ⟨ps_raiseV R O F G ty kp b hok hr hg ha.h hdb he hpl⟩
theorem qpe_excA {e : Expr} {f : Str} {ta : TE} {pos : Pos} (he : QE X e ta) (hb : attributeBase e f X.env (eval e X.env) = eval e X.env := by rfl) : QE X (.Attribute e f pos) (tExcA X.K f ta) := ⟨pe_excA he.h hb⟩
end
section
variable {σ : St} {H : Hp} {Q : VK} {D : Ends}
theorem w_initB {C : Addr} {t : TA} : tInitB C t σ H Q = t σ H fun vs H1 => ∃ e v, vs = [.ref e, v] ∧ H1 e = some (selfO none C e) ∧ Q .non H1 := rfl
theorem w_setE {C : Addr} {f : Str} {ta tv : TE} : sFldE C f ta tv D σ H = tv σ H fun y H1 => ta σ H1 fun x H2 => ∃ e, x = .ref e ∧ H2 e = some (selfO none C e) ∧ ∀ dx, H2 dx = none → dx ≠ e → D.nx σ (upd (upd H2 dx (.xd [(f, y)])) e (selfO (some dx) C e)) := rfl
theorem w_fs {ta tb : TE} : tFs ta tb σ H Q = ta σ H fun x H1 => ∃ c, x = .str c ∧ c.length ≤ 900 ∧ tb σ H1 fun y H2 => ∃ n : Nat, y = .int n ∧ n ≤ 60 ∧ ∀ z, Q (.str z) H2 := rfl
theorem w_raiseV {C : Addr} {f : Str} {ok : V → Hp → Prop} {E : XK} {t : TA} : tRaiseV C f ok E t D σ H = t σ H fun vs H1 => ∃ v, vs = [v] ∧ ok v H1 ∧ ∀ dx, H1 dx = none → E (.ref C) (some dx) (upd H1 dx (.xd [(f, v)])) := rfl
theorem w_excA {K : PySem.W.Frag} {f : Str} {ta : TE} : tExcA K f ta σ H Q = ta σ H fun x H1 => ∃ a C dx v, x = .ref a ∧ H1 a = some (excD (some dx) C a) ∧ H1 dx = some (.xd [(f, v)]) ∧ ExcA K C f ∧ Q v H1 := rfl
end
/-- try: y = f(..) except C as n: suite -/
def tTryA (sp : Sp) (K : PySem.W.Frag) (c : Value) (j i : Nat) (t : TA) (ts : Addr → TS) : TS := fun D σ H => t σ H fun vs H1 => sp vs H1 (fun v H2 => D.nx (σ.set j (some v)) H2) fun cls dO H2 =>
  ∃ C, cls = .ref C ∧ PySem.W.exmOne K (.ref C) c = some true ∧ ∀ a, H2 a = none → ts a { nx := fun σ' H' => D.nx (σ'.set i none) H', rt := D.rt, bk := fun σ' H' => D.bk (σ'.set i none) H', ct := fun σ' H' => D.ct (σ'.set i none) H' } (σ.set i (some (.ref a))) (upd H2 a (excD dO C a))
end L2

set_option Elab.async false
set_option linter.all false
set_option maxRecDepth 100000
set_option maxHeartbeats 4000000
/-! An exception of one's own that passes through a def. -/
namespace L2
open PySem PySem.Spec PyProof.Rows
theorem pass_def {P : Program} {w : World} {K : PySem.W.Frag} {mg : Str → Option Value} {base : Heap} {N : List Str} {qual : Str} {scope : Scope} {f : Addr} {cd : Value} {A : Around} {outer : List Env} {s0 : Shared} {H0 : Hp} {E : XK} :
    Passes (CXx P w) (cxOf (CXx P w) P w K mg base N qual scope f cd A outer s0 H0 E) E := by
  intro pins σ H s e s' I hc
  generalize hX : cxOf (CXx P w) P w K mg base N qual scope f cd A outer s0 H0 E = X at I hc ⊢
  have hst : X.stack = X.env :: X.outer := by rw [← hX]; rfl
  have hfr : X.env.frame = some X.env.locals := by rw [← hX]; rfl
  have hxe : X.xe = fun e s' => wpAny (model X.prog X.w) X.A (leaving X.env e) (fun _ s'' => CXx X.prog X.w X.outer X.H₀ X.s₀ E e s'') (fun e' s'' => CXx X.prog X.w X.outer X.H₀ X.s₀ E e' s'') s' := by rw [← hX]; rfl
  have hex : X.ex = [] := by rw [← hX]; rfl
  have hP : X.prog = P := by rw [← hX]; rfl
  have hw : X.w = w := by rw [← hX]; rfl
  have hfs : frs X.stack = X.env.locals :: X.fs := by rw [hst]; unfold frs; rw [List.filterMap_cons, hfr]; rfl
  clear hX
  subst hP hw
  rw [hxe]
  obtain ⟨a, C, t, H', B, dO, rfl, os, bare, un, hok, f1, cov, ct, hE⟩ := hc
  refine wpAny_pres (Pres.leave (e := a)) ct ?_
  refine wpAny_leaves_onW (base := B) (outer := X.outer) (L := X.env.locals) (by rw [I.ok.frames, hst]) hfr (hst ▸ f1) fun h2 f4 up ct2 => ?_
  have lt0 : ∀ b o, X.s₀.heap.get? b = some o → b ≠ X.env.locals := fun b o e1 => Nat.ne_of_lt (Nat.lt_of_lt_of_le (Heap.lt_size e1) I.ok.above)
  have out : ∀ b o, X.s₀.heap.get? b = some o → b ∉ X.fs → b ∉ frs X.stack := fun b o e1 e2 z => by
    rw [hfs] at z
    exact (List.mem_cons.mp z).elim (lt0 b o e1) e2
  have mem : ∀ b, b ∈ X.fs → b ∈ frs X.stack := fun b m => by rw [hfs]; exact List.mem_cons_of_mem _ m
  have same : ∀ b o ob, B.get? b = some ob → s'.heap.get? b = some o → h2.get? b = some o := fun b o ob e e1 => by
    have e2 := f1.1 b ob e
    rw [e1] at e2; cases e2
    exact f4.1 b o e
  have fr : ∀ b o, s'.heap.get? b = some o → b ∈ frs X.stack → ∃ sl, h2.get? b = some { o with slots := sl } := fun b o e m => by
    obtain ⟨_, o1, e1, nf⟩ := f1.2.2.1.mem m
    rw [e] at e1; cases e1
    exact up b o e nf
  have u := I.base
  rw [hex] at u
  refine ⟨a, C, t, H', B, dO, rfl, os.trans I.os, bare, ⟨fun b o e1 e2 e3 e4 => ?_, fun b o e1 e2 e3 e4 => ?_, fun b o e1 e2 e4 => ?_, fun b o e1 e2 => ?_, fun b xs e1 => ?_, fun b o v e1 => ?_, fun b ps e1 => ?_⟩, fun b o e1 => ?_, f4, ⟨fun b o e1 e2 => ?_, cov.trk⟩, ct2, hE⟩
  · have k1 := u.keep b o e1 e2 e3 e4
    have n1 := out b o e1 e3
    have k2 := un.keep b o k1 (u.free b o e1 e2 e4) n1 (by simp)
    obtain ⟨ob, q⟩ := cov.old b o k1 n1
    exact same b o ob q k2
  · obtain ⟨sl, q⟩ := u.slot b o e1 e2 e3 e4
    obtain ⟨sl1, q1⟩ := un.slot b _ q (u.free b o e1 e2 e4) (mem b e3) (by simp)
    obtain ⟨sl2, q2⟩ := fr b _ q1 (mem b e3)
    exact ⟨sl2, q2⟩
  · obtain ⟨o', q⟩ := u.there b o e1 e4
    exact un.free b o' q (u.free b o e1 e2 e4) (by simp)
  · obtain ⟨o', q⟩ := u.there b o e1 e2
    obtain ⟨o2, q2⟩ := un.there b o' q (by simp)
    by_cases m : b ∈ frs X.stack
    · obtain ⟨sl, q'⟩ := fr b o2 q2 m
      exact ⟨_, q'⟩
    · obtain ⟨ob, q'⟩ := cov.old b o' q m
      exact ⟨_, f4.1 b ob q'⟩
  · exact un.tups b xs (u.tups b xs e1)
  · exact un.frzs b o v (u.frzs b o v e1)
  · obtain ⟨m1, q1⟩ := u.tbls b ps e1
    obtain ⟨m2, q2⟩ := un.tbls b _ q1
    exact ⟨m1 ++ m2, by rw [q2, Array.append_assoc]⟩
  · refine (hok b o e1).stay (fun c v hc q => ?_) (fun _ q => q) fun _ _ q => q
    obtain ⟨ob, q'⟩ : ∃ ob, B.get? c = some ob := by
      rcases hc with r | r
      · rw [r]; exact cov.trk b o e1
      · exact cov.trk c _ r
    exact same c v ob q' q
  · obtain ⟨o', q⟩ := u.there b o e1 (by simp)
    exact cov.old b o' q (out b o e1 e2)
section
variable {P : Program} {w : World} {K : PySem.W.Frag} {mg : Str → Option Value} {base : Heap} {N : List Str} {qual : Str} {scope : Scope} {f : Addr} {cd : Value} {A : Around} {outer : List Env} {s0 : Shared} {H0 : Hp} {E : XK}
/-- f(..) whose exceptions leave this def, too -/
theorem qpe_callXP {k : Nat} {x : Str} {st : Stmt} {ps : List Str} {sp : Sp} {e : Expr} {es : List Expr} {t : TA} {p pos : Pos} (D : DefX P w K mg base k x st ps sp) (hr : Room k (cxOf (CXx P w) P w K mg base N qual scope f cd A outer s0 H0 E).A) (hg : Gl (cxOf (CXx P w) P w K mg base N qual scope f cd A outer s0 H0 E) x)
    (ha : QA (cxOf (CXx P w) P w K mg base N qual scope f cd A outer s0 H0 E) (e :: es) t) (hdb : (x == ("__debug__" : Str)) = false := by decide)
    (he : starEach (e :: es) (cxOf (CXx P w) P w K mg base N qual scope f cd A outer s0 H0 E).env = (false, eval e (cxOf (CXx P w) P w K mg base N qual scope f cd A outer s0 H0 E).env) :: starEach es (cxOf (CXx P w) P w K mg base N qual scope f cd A outer s0 H0 E).env := by rfl)
    (hpl : (backTo pos (starEach es (cxOf (CXx P w) P w K mg base N qual scope f cd A outer s0 H0 E).env)).any (·.1) = false := by rfl) :
    QE (cxOf (CXx P w) P w K mg base N qual scope f cd A outer s0 H0 E) (.Call (.Name x p) (e :: es) [] pos) (tCall sp [] E t) := by
  obtain ⟨g, fd, F, m, b, G⟩ := D.ex
  exact ⟨pe_call (X := cxOf (CXx P w) P w K mg base N qual scope f cd A outer s0 H0 E) G hr hg m F.kp b .nil pass_def ha.h hdb he hpl⟩
end
end L2
namespace L2
open PySem PySem.Spec PyProof.Rows
/-- try: f(..) except C: suite, without a name -/
def tTry0 (sp : Sp) (K : PySem.W.Frag) (c : Value) (t : TA) (ts : Addr → TS) : TS := fun D σ H => t σ H fun vs H1 => sp vs H1 (fun _ H2 => D.nx σ H2) fun cls dO H2 =>
  ∃ C, cls = Value.ref C ∧ PySem.W.exmOne K (.ref C) c = some true ∧ ∀ a, H2 a = none → ts a D σ (upd H2 a (excD dO C a))
end L2
namespace L2
open PySem
end L2

set_option Elab.async false
set_option linter.all false
set_option maxRecDepth 100000
set_option maxHeartbeats 4000000
/-! Displays of plain data, read whole. -/
namespace Rm
open PySem L2
/-- a part of the heap, in which new objects show -/
structure View where
  φ : Hp → Hp
  ok : Hp → Prop
  new : ∀ {H t o}, ok H → H t = none → ok (upd H t o) ∧ Same (φ H) (φ (upd H t o)) ∧ φ (upd H t o) t = some o
def View.all : View := ⟨id, fun _ => True, fun _ h => ⟨trivial, (Same.refl _).new h, upd_same⟩⟩
def View.but (m : Addr) : View := ⟨fun H => wo H m, fun H => ∃ o, H m = some o, fun {H t o} ⟨u, hu⟩ h => ⟨⟨u, by rw [upd_ne (ne_of_none hu h)]; exact hu⟩, wo_new h, wo_at (ne_of_none hu h).symm upd_same⟩⟩
structure DE (w : View) (σ : St) (H0 : Hp) (te : TE) (d : PyData) : Prop where
  run : ∀ (H : Hp) (Q : VK), w.ok H → Same H0 H → Same (w.φ H0) (w.φ H) → (∀ x H', w.ok H' → Same H H' → Same (w.φ H) (w.φ H') → Dat (w.φ H') x d → Q x H') → te σ H Q
structure DA (w : View) (σ : St) (H0 : Hp) (ta : TA) (ds : List PyData) : Prop where
  run : ∀ (H : Hp) (Q : List V → Hp → Prop), w.ok H → Same H0 H → Same (w.φ H0) (w.φ H) → (∀ xs H', w.ok H' → Same H H' → Same (w.φ H) (w.φ H') → DatL (w.φ H') xs ds → Q xs H') → ta σ H Q
section
variable {w : View} {σ : St} {H0 : Hp}
end
end Rm
namespace Rm
open PySem L2
end Rm

set_option Elab.async false
set_option linter.all false
set_option maxRecDepth 100000
set_option maxHeartbeats 4000000
/-! Specs of k31: codes read, by stacks; the place of a refusal. -/
namespace L2
open PySem PySem.Spec PyProof.Rows
/-- a text so many times, none and once as well -/
def repT (z : Str) (n : Nat) : Str := ⟨(List.replicate n z.cps).foldl (· ++ ·) #[]⟩
def rRepT : R2 := fun x y H Q => ∃ (z : Str) (n : Nat), x = .str z ∧ y = .int n ∧ n ≤ 1000 ∧ 1 ≤ z.length ∧ z.length ≤ 1000 ∧ z.length * n ≤ 1000 ∧ (repT z n).length ≤ 1000 ∧ Q (.str (repT z n)) H
theorem op_repT {X : Cx} : OpR X (binaryOp .Mult) rRepT := by
  intro pins s σ H x y v u Q I rx ry h
  obtain ⟨z, n, rfl, rfl, h3, h4, h5, h6, h7, q⟩ := h
  obtain ⟨t, rfl⟩ := rx
  obtain ⟨t', rfl⟩ := ry
  refine PySem.P.mul_str (by rw [decide_eq_false (by omega), decide_eq_false (by omega)]; rfl) (fun _ _ => ?_) (fun _ _ => ?_) ?_
  · have : (1000 : Int) ≤ (2 ^ 63 - 1) / (n : Int) := by
      rw [Int.le_ediv_iff_mul_le (by omega)]
      omega
    omega
  · unfold Builtin.Str.tooLong
    exact decide_eq_false (by have := small1000 h6; simp; omega)
  · match n, h3, h6, h7, q with
    | 0, _, _, _, q =>
      rw [if_pos (by decide)]
      exact ⟨by decide, .str Str.empty, H, I.tok _, ⟨_, rfl⟩, q⟩
    | 1, _, _, _, q =>
      rw [if_neg (by decide), if_pos (by simp)]
      have e : repT z 1 = z := by
        obtain ⟨c⟩ := z
        show Str.mk (#[] ++ c) = _
        rw [Array.empty_append]
      rw [e] at q
      exact ⟨.str z, H, I, ⟨_, rfl⟩, q⟩
    | n + 2, h3, h6, h7, q =>
      have e1 : (((n + 2 : Nat) : Int) == 1 || z.length == 0) = false := by
        rw [Bool.or_eq_false_iff]
        exact ⟨by simp; omega, by simp; omega⟩
      rw [if_neg (by omega), if_neg (by rw [e1]; exact fun z => nomatch z)]
      exact ⟨Nat.le_of_lt (small1000 h7), .str (repT z (n + 2)), H, I.tok _, ⟨_, rfl⟩, q⟩
end L2
namespace Rm
open PySem L2
abbrev Lts (cs : List Nat) : Prop := ∀ c ∈ cs, isLt c
/-- the sides by their sign -/
def sdc (b : Bool) : Nat := if b then 114 else 108
def bL (b : Bool) : List Int := if b then [] else [0]
def bR (b : Bool) : List Int := if b then [0] else []
theorem sd_ends (b : Bool) : sideEnds (sdc b) = (bL b, bR b) := by cases b <;> rfl
theorem sdE (b : Bool) : sd b = ⟨#[sdc b]⟩ := by cases b <;> decide +kernel
theorem run_path {b : Bool} {cs : List Nat} (hl : Lts cs) (h : resF (bL b) (bR b) cs 0 = none) : ∀ i, i ≤ cs.length → ∃ L R, Run b cs i L R ∧ resF L R (cs.drop i) i = none
  | 0, _ => ⟨_, _, Run.zero b cs, by rw [List.drop_zero]; exact h⟩
  | i + 1, hi => by
    obtain ⟨L, R, r, e⟩ := run_path hl h i (by omega)
    have hc : cs[i]? = some cs[i] := List.getElem?_eq_getElem (by omega)
    have lt := hl _ (List.mem_of_getElem? hc)
    rw [List.drop_eq_getElem_cons (by omega : i < cs.length)] at e
    cases g : goF L R cs[i] with
    | none => rw [resF_no g] at e; cases e
    | some p =>
      obtain ⟨L', R'⟩ := p
      rw [resF_go g] at e
      exact ⟨L', R', r.step hc lt g, e⟩
theorem run_end {b : Bool} {cs : List Nat} (hl : Lts cs) (h : resF (bL b) (bR b) cs 0 = none) : ∃ L R, Run b cs cs.length L R ∧ L.length + R.length = 1 := by
  obtain ⟨L, R, r, e⟩ := run_path hl h cs.length (Nat.le_refl _)
  rw [List.drop_length] at e
  refine ⟨L, R, r, ?_⟩
  unfold resF at e
  split at e
  · assumption
  · cases e
theorem stk_ne {b : Bool} {cs : List Nat} (hl : Lts cs) (h : resF (bL b) (bR b) cs 0 = none) (k : Bool) (i : Nat) (hi : i < cs.length) (hk : isIn k (cs.getD i 0) = false) : (stN k b cs i).1 ≠ [] := by
  obtain ⟨L, R, r, e⟩ := run_path hl h i (by omega)
  have hc : cs[i]? = some cs[i] := List.getElem?_eq_getElem (by omega)
  have lt := hl _ (List.mem_of_getElem? hc)
  rw [List.drop_eq_getElem_cons (by omega : i < cs.length)] at e
  have eg : cs.getD i 0 = cs[i] := by rw [List.getD_eq_getElem?_getD, hc]; rfl
  rw [eg] at hk
  cases g : goF L R cs[i] with
  | none => rw [resF_no g] at e; cases e
  | some p =>
    obtain ⟨L', R'⟩ := p
    obtain ⟨n1, n2, _, _⟩ := go_sizes lt g
    cases k
    · exact List.length_pos_iff.mp (by rw [r.ll]; exact List.length_pos_iff.mpr (n1 hk))
    · exact List.length_pos_iff.mp (by rw [r.rl]; exact List.length_pos_iff.mpr (n2 hk))
theorem res_mat {b : Bool} {cs : List Nat} (hl : Lts cs) (h : resF (bL b) (bR b) cs 0 = none) : Mat cs.length b (fin2 b cs) := by
  obtain ⟨L, R, r, _⟩ := run_end hl h
  exact mat_of fun k => by cases k; exact r.li; exact r.ri
/-- a dict by rows -/
structure RepM (kvs : List (Key × V)) (n : Nat) (m : Nat → Option Nat) : Prop where
  get : ∀ r, r ≤ n → valV kvs (.inl (r : Int) : Key) = (m r).map fun x => V.int (x : Nat)
  len : kvs.length ≤ 100
theorem RepM.nil {n : Nat} : RepM [] n (fun _ => none) := ⟨fun _ _ => rfl, by decide⟩
def ordF (f : Bool → Nat → Option Nat) (b : Bool) (n : Nat) : List Int := (List.range n).map fun i => ((pth f b (i + 1)).1 : Int)
def NoAt (H : Hp) (C : Addr) (i : Nat) : Value → Option Addr → Hp → Prop := fun cls dO H' => cls = .ref C ∧ ∃ dx, dO = some dx ∧ H' dx = some (.xd [("at", .int i)]) ∧ Same H H'
def CodeAt (H : Hp) (a : Addr) (b : Bool) (cs : List Nat) : Prop := ∃ o T, H a = some (.tup [.str (sd b), .ref o]) ∧ 1 ≤ T ∧ T ≤ 2 * cs.length + 4 ∧ Vld cs.length b (fin2 b cs) T ∧ (pth (fin2 b cs) b T).1 = cs.length + 1 ∧ H o = some (.tup ((ordF (fin2 b cs) b (T - 1)).map V.int))
def spLeading : Sp := fun vs H Q _ => ∃ L R : List Int, vs = [.str (tx (stx L R))] ∧ L.length + R.length ≤ 400 ∧ Q (.int ((L.length + R.length : Nat) : Int)) H
def spVetCode (C : Addr) : Sp := fun vs H Q E => ∃ (b : Bool) (cs : List Nat), vs = [.str (sd b), .str (tx cs)] ∧ Lts cs ∧ cs.length ≤ 20 ∧
  (∀ i, resF (bL b) (bR b) cs 0 = some i → ∀ H' dx, Same H H' → H' dx = some (.xd [("at", .int (i : Nat))]) → E (.ref C) (some dx) H') ∧ (resF (bL b) (bR b) cs 0 = none → ∀ H', Same H H' → Q (.bl true) H')
def spRowsA : Sp := fun vs H Q _ => ∃ (k b : Bool) (cs : List Nat), vs = [.str (tx cs), .str (tx [97, if k then 99 else 98]), .bl (decide (k = b))] ∧ Lts cs ∧ cs.length ≤ 20 ∧ (∀ i, i < cs.length → isIn k (cs.getD i 0) = false → (stN k b cs i).1 ≠ []) ∧
  ∀ d kvs H', Same H H' → H d = none → H' d = some (.dK kvs) → RepM kvs cs.length (fin2 b cs k) → Q (.ref d) H'
theorem RepM.put {kvs : List (Key × V)} {n a b : Nat} {m : Nat → Option Nat} (h : RepM kvs n m) (hl : kvs.length < 100) : RepM (putK kvs (.inl (a : Int) : Key) (.int (b : Nat))) n (fun x => if x = a then some b else m x) := by
  refine ⟨fun r hr => ?_, by have := length_putK kvs (.inl (a : Int) : Key) (.int (b : Nat)); omega⟩
  rw [valV_put]
  by_cases e : r = a
  · subst e; rw [if_pos rfl, if_pos rfl]; rfl
  · have ne : ¬ ((.inl (r : Int) : Key) = .inl (a : Int)) := fun z => e (by have := Sum.inl.inj z; omega)
    rw [if_neg ne, if_neg e]
    exact h.get r hr
theorem RepM.congr {kvs : List (Key × V)} {n : Nat} {m m' : Nat → Option Nat} (h : RepM kvs n m) (e : ∀ x, x ≤ n → m x = m' x) : RepM kvs n m' := ⟨fun r hr => by rw [h.get r hr, e r hr], h.len⟩
theorem mset_eq {m : Nat → Option Nat} {a o : Nat} (h : o ≠ a) : (fun x => if x = o then some a else (fun x => if x = a then some o else m x) x) = mset m a o := by
  funext x
  unfold mset
  by_cases e : x = a
  · subst e; simp [Ne.symm h]
  · simp [e]
def finP (n : Nat) (W : List Nat) (m : Nat → Option Nat) (j : Nat) : Nat → Option Nat := fun x => if x ∈ W.take j then some (n + 1) else m x
theorem finP_step {n o j : Nat} {W : List Nat} {m : Nat → Option Nat} (h : W[j]? = some o) : (fun x => if x = o then some (n + 1) else finP n W m j x) = finP n W m (j + 1) := by
  funext x
  unfold finP
  rw [List.take_add_one, h]
  by_cases e : x = o
  · subst e; simp
  · simp [e]
theorem stN_len (k b : Bool) (cs : List Nat) : ∀ i, (stN k b cs i).1.length ≤ i + 1
  | 0 => by unfold stN st0; dsimp only; split <;> simp
  | i + 1 => by
    have := stN_len k b cs i
    show (stp k _ _ _).1.length ≤ _
    rw [stp_len]
    split <;> omega
def spDecoded (C : Addr) : Sp := fun vs H Q E => ∃ (b : Bool) (cs : List Nat), vs = [.str (sd b), .str (tx cs)] ∧ Lts cs ∧ cs.length ≤ 20 ∧
  (∀ i, resF (bL b) (bR b) cs 0 = some i → ∀ H' dx, Same H H' → H' dx = some (.xd [("at", .int (i : Nat))]) → E (.ref C) (some dx) H') ∧ (resF (bL b) (bR b) cs 0 = none → ∀ a H', Same H H' → CodeAt H' a b cs → Q (.ref a) H')
theorem pth_hand {f : Bool → Nat → Option Nat} {b : Bool} (i : Nat) : (pth f b (i + 1)).2 = !(pth f b i).2 := rfl
theorem ordF_snoc {f : Bool → Nat → Option Nat} {b : Bool} (i : Nat) : ordF f b (i + 1) = ordF f b i ++ [((pth f b (i + 1)).1 : Int)] := by unfold ordF; rw [List.range_succ, List.map_append]; rfl
theorem ordF_len {f : Bool → Nat → Option Nat} {b : Bool} (i : Nat) : (ordF f b i).length = i := by simp [ordF]
/-- the law's stacks and rows behind i rows, the middle among them -/
def SS (b : Bool) (cs : List Nat) (u : Bool) (i : Nat) : SkM := if i ≤ cs.length then stN u b cs i else ([], fin2 b cs u)
def spOrdOf : Sp := fun vs H Q _ => ∃ (b : Bool) (cs : List Nat), vs = [.str (sd b), .str (tx cs)] ∧ Lts cs ∧ cs.length ≤ 20 ∧ resF (bL b) (bR b) cs 0 = none ∧
  ∀ o T H', Same H H' → 1 ≤ T → Vld cs.length b (fin2 b cs) T → (pth (fin2 b cs) b T).1 = cs.length + 1 → H' o = some (.tup ((ordF (fin2 b cs) b (T - 1)).map V.int)) → Q (.ref o) H'
structure OS (H : Hp) (ls lr : Addr) (A D : Bool → Addr) : Prop where
  l : H ls = some (.lst [.ref (A false), .ref (A true)])
  r : H lr = some (.lst [.ref (D false), .ref (D true)])
structure OSt (H : Hp) (A D : Bool → Addr) (b : Bool) (cs : List Nat) (u : Bool) (i : Nat) : Prop where
  st : H (A u) = some (.lst (natV (SS b cs u i).1))
  rw : ∃ kk, H (D u) = some (.dK kk) ∧ kk.length ≤ 2 * i ∧ RepM kk cs.length (SS b cs u i).2
  le : ∀ x ∈ (SS b cs u i).1, x ≤ i
/-- the six places of order_of -/
structure Six (ls lr : Addr) (A D : Bool → Addr) : Prop where
  aa : A false ≠ A true
  dd : D false ≠ D true
  ad : ∀ u v, A u ≠ D v
  la : ∀ u, ls ≠ A u
  ld : ∀ u, ls ≠ D u
  ra : ∀ u, lr ≠ A u
  rd : ∀ u, lr ≠ D u
section
variable {H : Hp} {ls lr : Addr} {A D : Bool → Addr} {b : Bool} {cs : List Nat} {u v : Bool} {i : Nat} {o : HO}
end
/-- what is due of a code -/
def ResAt (H : Hp) (a : Addr) (b : Bool) (cs : List Nat) : Prop := (∃ i : Nat, resF (bL b) (bR b) cs 0 = some i ∧ H a = some (.tup [.str (Str.ofString "no code"), .int i])) ∨
  (resF (bL b) (bR b) cs 0 = none ∧ ∃ o T, H a = some (.tup [.str (sd b), .ref o]) ∧ 1 ≤ T ∧ Vld cs.length b (fin2 b cs) T ∧ (pth (fin2 b cs) b T).1 = cs.length + 1 ∧ H o = some (.tup ((ordF (fin2 b cs) b (T - 1)).map V.int)))
def spRes : Sp := fun vs H Q _ => ∃ (b : Bool) (cs : List Nat), vs = [.str (sd b), .str (tx cs)] ∧ Lts cs ∧ cs.length ≤ 20 ∧ ∀ a H', Same H H' → ResAt H' a b cs → Q (.ref a) H'
def spClosing : Sp := fun vs H Q _ => ∃ (a : Addr) (L R : List Int), vs = [.ref a] ∧ EndsAt H a L R ∧ EE L R ∧ 1 < L.length + R.length ∧ L.length + R.length ≤ 100 ∧ ∀ best H', Same H H' → Near (L ++ R.reverse) L.length best → Q (.str ⟨#[clC L.length best]⟩) H'
def spCodeBy : Sp := fun vs H Q _ => ∃ (r : Int) (b : Bool) (m : Nat), vs = [.int r, .str (sd b), .int m] ∧ m ≤ 5 ∧ ∀ cs H', Same H H' → Lts cs → cs.length ≤ 20 → Q (.str (tx cs)) H'
/-- the best place among those gone through -/
def BestV (L : List Int) (p i : Nat) (v : V) : Prop := (v = .non ∧ ∀ k, k < i → ¬ dB L k) ∨ ∃ best : Nat, v = .int best ∧ dB L best ∧ ∀ k, k < i → dB L k → ((best : Int) - p).natAbs ≤ ((k : Int) - p).natAbs
theorem cond_gen {tc : TT} {σ : L2.St} {H : Hp} {C0 : Bool → Hp → Prop} (P : Bool → Hp → Prop) (h : ∀ C : Bool → Hp → Prop, (∀ k H', P k H' → C k H') → tc σ H C) (hk : ∀ k H', P k H' → C0 k H') : tc σ H C0 := h C0 hk
theorem lts_snoc {cs : List Nat} {c : Nat} (h : Lts cs) (hc : isLt c) : Lts (cs ++ [c]) := fun x hx => by
  rcases List.mem_append.mp hx with h1 | h1
  · exact h x h1
  · simp at h1; subst h1; exact hc
theorem abcd_at (r : Int) : ∃ c : Nat, atI (Str.ofString "abcd").cps.toList (r % 4) = some c ∧ isLt c := by
  have h : r % 4 = 0 ∨ r % 4 = 1 ∨ r % 4 = 2 ∨ r % 4 = 3 := by omega
  rcases h with e | e | e | e <;> rw [e]
  · exact ⟨97, by decide +kernel, .inl rfl⟩
  · exact ⟨98, by decide +kernel, .inr (.inl rfl)⟩
  · exact ⟨99, by decide +kernel, .inr (.inr (.inl rfl))⟩
  · exact ⟨100, by decide +kernel, .inr (.inr (.inr rfl))⟩
theorem clC_lt (p best : Nat) : isLt (clC p best) := by
  unfold clC
  split
  · exact .inr (.inr (.inr rfl))
  · split
    · exact .inr (.inr (.inl rfl))
    · exact .inr (.inl rfl)
theorem repT_tx (w : List Nat) : ∀ n, repT (tx w) n = tx ((List.replicate n w).flatten)
  | 0 => rfl
  | n + 1 => by
    have h : ∀ (l : List (Array Nat)) (a : Array Nat), l.foldl (· ++ ·) a = a ++ l.foldl (· ++ ·) #[] := by
      intro l
      induction l with
      | nil => intro a; simp
      | cons x l ih => intro a; rw [List.foldl_cons, List.foldl_cons, ih (a ++ x), ih (#[] ++ x)]; simp
    have ih := repT_tx w n
    unfold repT at ih ⊢
    rw [List.replicate_succ, List.foldl_cons, h]
    have e := congrArg Str.cps ih
    dsimp only at e
    rw [e, List.replicate_succ, List.flatten_cons, ← tx_app]
    show Str.mk _ = Str.mk _
    simp
theorem rep_len (w : List Nat) (n : Nat) : ((List.replicate n w).flatten).length = n * w.length := by induction n with
  | zero => simp
  | succ n ih => rw [List.replicate_succ, List.flatten_cons, List.length_append, ih, Nat.succ_mul]; omega
def resD (b : Bool) (ns : List Int) : PyData := .tuple [.str (sd b), .tuple (ns.map PyData.int)]
end Rm

set_option Elab.async false
set_option linter.all false
set_option maxRecDepth 100000
set_option maxHeartbeats 4000000
/-! isinstance(e, (classes)). -/
namespace L2
open PySem PySem.Spec PyProof.Rows
def rIsiET (K : PySem.W.Frag) : List V → Hp → VK → Prop := fun xs H Q => ∃ (a C tp : Addr) (cs : List Addr) (b : Bool), xs = [.ref a, .ref tp] ∧ H a = some (excO C a) ∧ ExcK K C ∧ H tp = some (.tup (cs.map V.ref)) ∧ PySem.W.kitAny K (.ref C) (cs.map Value.ref) = some b ∧ Q (.bl b) H
theorem vals_refs : ∀ {cs : List Addr} {us : List Value}, Vals (cs.map V.ref) us → us = cs.map Value.ref
  | [], _, .nil => rfl
  | c :: cs, _, .cons r t => by
    rw [vals_refs t]
    cases r
    rfl
theorem kitAny_no {K : PySem.W.Frag} {t : Value} : ∀ {cs : List Addr}, (∀ c ∈ cs, PySem.W.kitOne K t (.ref c) = some false) → PySem.W.kitAny K t (cs.map Value.ref) = some false
  | [], _ => rfl
  | c :: cs, h => by
    show (match PySem.W.kitOne K t (.ref c) with | some true => some true | some false => PySem.W.kitAny K t (cs.map Value.ref) | none => none) = some false
    rw [h c (by simp)]
    exact kitAny_no fun d hd => h d (List.mem_cons_of_mem _ hd)
end L2

set_option Elab.async false
set_option linter.all false
set_option maxRecDepth 100000
set_option maxHeartbeats 4000000
/-! f'..{x!r}' of plain data; isinstance of a caught exception that has a dict. -/
namespace L2
open PySem PySem.Spec PyProof.Rows
/-- plain data that Crossed may be told -/
def okC (v : V) (H : Hp) : Prop := ∃ a d, v = .ref a ∧ Dat H v d ∧ d.showable = true ∧ d.hasDict = false ∧ d.depth ≤ 10 ∧ d.shown.length ≤ 500
abbrev pB (a b : Int) : PyData := .tuple [.int a, .int b]
def tFsR (ta tb : TE) : TE := fun σ H Q => ta σ H fun x H1 => ∃ c, x = .str c ∧ c.length ≤ 400 ∧ tb σ H1 fun y H2 => okC y H2 ∧ ∀ z, Q (.str z) H2
section
variable {X : Cx}
end
/-! ### isinstance(e, ..) of an exception with a dict -/
theorem exc_classD {prog : Program} {w : World} {A : Around} {E : Value → Shared → Prop} {s : Shared} {K : PySem.W.Frag} {a C N : Addr} {o : Obj} {od : Option Obj} {bs bm bmB : List Value} {nm q : Str} {hdct : Bool} {sn : List Str} {sub : List Value} {ab : Bool} {col : Option Bool} {dd : Option Addr} {k0 k1 k2 k3 k5 : Option Value} {B newId : String} {Q : Option Value → Shared → Prop}
    (X : K.In s.heap) (I : PySem.W.InstAt s.heap a o C od) (hga : PySem.W.findIn K (.ref C) "__getattribute__" = some (some (.builtin "BaseException.__getattribute__"))) (hgt : PySem.W.findIn K (.ref C) "__getattr__" = some none)
    (hf : PySem.W.findObj K C od "__class__" = some (.bind (.builtin "getset_descriptor.__get__") (.builtin "object.__class__"))) (hm : PySem.W.mroIn K C (.type "object") = some true) (FB : ExcAttrBase B bmB)
    (hC : s.heap.get? C = some (excClassObj nm q C N bs bm hdct sn sub ab col dd k0 k1 k2 k3 k5 newId)) (T : OwnTailQ s.heap bmB bm) (hq : Q (some (.ref C)) { s with toks := s.toks + 1 }) : wpAny (model prog w) A (getAttr? (.ref a) "__class__") Q E s := by
  obtain ⟨h, g, d, t, os⟩ := s
  unfold getAttr?
  refine wpAny_bind (wpAny_mkText ?_)
  unfold getAttrBy?
  refine wpAny_bind (wpAny_attempt ?_)
  unfold getAttrBy
  refine wpAny_holding (wpAny_bind (PySem.W.Looks.at (PySem.W.InstAt.type I) (wpAny_bind (PySem.W.Looks.at (PySem.W.looks_findIn X hga) ?_))))
  refine wpAny_ite_false (by rfl) ?_
  unfold getAttrByItsOwn hookBefore
  refine wpAny_bind (wpAny_ite_true (by rfl) (PySem.W.Looks.at (PySem.W.looks_findIn X hgt) (wpAny_bind (wpAny_attempt (wpAny_holding ?_)))))
  unfold callGetattribute boundAndCalled
  refine wpAny_ite_false (by rfl) (wpAny_bind (wpAny_of_eq (FB.ga.bind (Value.ref a)) (wpAny_call (codeAny_call_builtin FB.ga.plain F.entry_bexc_ga (wpAny_check_ga_own FB hC T I.at_ I.cls ?_)))))
  unfold Builtin.«object.__getattribute__»
  refine wpAny_bind ?_
  unfold slotArgs
  refine wpAny_ite_false (by rfl) (wpAny_ite_false (by rfl) (wpAny_pure ?_))
  show wpAny _ _ (Bind.bind (Builtin.ObjectAttr.attrName (Value.str (Str.ofString "__class__") _)) _) _ _ _
  refine wpAny_bind ?_
  unfold Builtin.ObjectAttr.attrName
  refine wpAny_pure ?_
  refine wpAny_bind (PySem.W.Looks.at (PySem.W.InstAt.type I) (wpAny_bind (PySem.W.Looks.at (PySem.W.looks_find X I hf) ?_)))
  unfold Builtin.ObjectAttr.bindTo
  refine wpAny_bind (wpAny_holding (wpAny_call (PySem.W.class_get X I hm ?_)))
  refine wpAny_pure ?_
  refine PySem.W.handed_on rfl ?_
  exact wpAny_pure hq
/-- what is asked of the class, where the exception has a dict -/
structure ExcKD (K : PySem.W.Frag) (C : Addr) : Prop where
  ga : PySem.W.findIn K (.ref C) "__getattribute__" = some (some (.builtin "BaseException.__getattribute__"))
  gt : PySem.W.findIn K (.ref C) "__getattr__" = some none
  fo : ∀ od : Obj, PySem.W.findObj K C (some od) "__class__" = some (.bind (.builtin "getset_descriptor.__get__") (.builtin "object.__class__"))
  mro : PySem.W.mroIn K C (.type "object") = some true
  lk : ∃ c dd cd sl, K.lookup C = some ⟨c, dd, .cls cd, sl⟩
  own : ∃ B bmB, ExcAttrBase B bmB ∧ ∀ h : Heap, K.In h → ∃ nm q N bs bm hdct sn sub ab col dd k0 k1 k2 k3 k5 newId, h.get? C = some (excClassObj nm q C N bs bm hdct sn sub ab col dd k0 k1 k2 k3 k5 newId) ∧ OwnTailQ h bmB bm
def ExcHD (C a : Addr) (h : Heap) : Prop := ∃ o od, PySem.W.InstAt h a o C (some od)
theorem kitx_excD {K : PySem.W.Frag} {C a : Addr} (k : ExcKD K C) : PySem.W.KitX K (.ref a) (.ref C) (ExcHD C a) := by
  obtain ⟨c, dd, cd, sl, lk⟩ := k.lk
  refine ⟨fun M h _ x => ?_, fun M h X _ A Q E s kp hq => ?_, fun h tp dd' its n sl' X htp => ?_, fun {prog w A E Q s} X x hq => ?_⟩
  · obtain ⟨o, od, I⟩ := x
    exact PySem.W.InstAt.type I
  · exact wpAny_bind (wpAny_loadPart (kp C _ (X C _ lk)) (wpAny_pure hq))
  · refine Bool.eq_false_iff.mpr fun q => ?_
    have e := Value.ref.inj (beq_iff_eq.mp q)
    subst e
    rw [X C _ lk] at htp
    cases htp
  · obtain ⟨o, od, I⟩ := x
    obtain ⟨B, bmB, FB, ow⟩ := k.own
    obtain ⟨nm, q, N, bs, bm, hdct, sn, sub, ab, col, dd, k0, k1, k2, k3, k5, newId, hC, T⟩ := ow s.heap X
    exact exc_classD X I k.ga k.gt (k.fo od) k.mro FB hC T hq
/-- an exception of the class C, with or without a dict -/
inductive ExcAt (K : PySem.W.Frag) (H : Hp) (a C : Addr) : Prop
  | bare : H a = some (excO C a) → ExcK K C → ExcAt K H a C
  | dict {dx : Addr} {f : Str} {v : V} : H a = some (excD (some dx) C a) → H dx = some (.xd [(f, v)]) → ExcKD K C → ExcAt K H a C
theorem ExcAt.same {K : PySem.W.Frag} {H H' : Hp} {a C : Addr} (h : ExcAt K H a C) (s : Same H H') : ExcAt K H' a C := by
  cases h with
  | bare h k => exact .bare (s _ _ h) k
  | dict h h2 k => exact .dict (s _ _ h) (s _ _ h2) k
theorem ExcAt.kit {X : Cx} {pins : List (Addr × Obj)} {σ : St} {H : Hp} {s : Shared} {a C : Addr} (I : Inv X pins σ H s) (h : ExcAt X.K H a C) : ∃ R : Heap → Prop, PySem.W.KitX X.K (.ref a) (.ref C) R ∧ R s.heap := by
  cases h with
  | bare h k => exact ⟨_, kitx_exc k, (I.hok a _ h).1⟩
  | dict h h2 k =>
    refine ⟨_, kitx_excD k, ?_⟩
    obtain ⟨⟨⟨o, o1, o2⟩, o', vs, o3, ⟨o4, o5⟩, o6⟩, _⟩ := I.hok a _ h
    rw [o1] at o3
    cases o3
    obtain ⟨mA, n1, rl⟩ := I.hok _ _ h2
    obtain ⟨od, d1, d2⟩ := lookIn_ns n1
    exact ⟨o, od, o1, o2, by unfold PySem.W.notCls; rw [o5], by rw [o4]; exact d1⟩
def rIsiD (K : PySem.W.Frag) : List V → Hp → VK → Prop := fun xs H Q => ∃ a C c cv b, xs = [.ref a, c] ∧ ExcAt K H a C ∧ ((∃ T, c = .ty T ∧ cv = Value.type T) ∨ ∃ D, c = .ref D ∧ cv = Value.ref D) ∧ PySem.W.kitOne K (.ref C) cv = some b ∧ Q (.bl b) H
theorem call_isiD {X : Cx} : CallR X (.builtin "isinstance") (rIsiD X.K) := by
  intro pins s σ H xs us Q I r h
  obtain ⟨a, C, c, cv, b, rfl, hC, hc, e, q⟩ := h
  obtain ⟨u, w, rfl, rx, rw'⟩ := Vals.two r
  cases (show u = Value.ref a from rx)
  have ew : w = cv := by
    rcases hc with ⟨T, rfl, rfl⟩ | ⟨D, rfl, rfl⟩
    · exact rw'
    · exact rw'
  subst ew
  obtain ⟨R, kx, hx⟩ := hC.kit I
  exact PySem.W.kia_one kx I.kIn hx e (fun z => nomatch z) fun tk => ⟨.bl b, H, I.tok tk, rfl, q⟩
theorem call_isiD' {X : Cx} {K : PySem.W.Frag} (h : X.K = K) : CallR X (.builtin "isinstance") (rIsiD K) := h ▸ call_isiD
def rIsiDT (K : PySem.W.Frag) : List V → Hp → VK → Prop := fun xs H Q => ∃ (a C tp : Addr) (cs : List Addr) (b : Bool), xs = [.ref a, .ref tp] ∧ ExcAt K H a C ∧ H tp = some (.tup (cs.map V.ref)) ∧ PySem.W.kitAny K (.ref C) (cs.map Value.ref) = some b ∧ Q (.bl b) H
theorem call_isiDT {X : Cx} : CallR X (.builtin "isinstance") (rIsiDT X.K) := by
  intro pins s σ H xs us Q I r h
  obtain ⟨a, C, tp, cs, b, rfl, hC, ht, e, q⟩ := h
  obtain ⟨u, w, rfl, rx, rw'⟩ := Vals.two r
  cases (show u = Value.ref a from rx)
  cases (show w = Value.ref tp from rw')
  obtain ⟨R, kx, hx⟩ := hC.kit I
  obtain ⟨hz, its, rv, o, ho, hcls, n, hdat⟩ := (show ObjOk X.prog X.w H s.heap tp (.tup (cs.map V.ref)) from I.hok tp _ ht)
  have ei := vals_refs rv
  subst ei
  obtain ⟨oc, od, oda, osl⟩ := o
  dsimp only at hcls hdat
  subst hcls hdat
  exact PySem.W.kia_tup kx I.kIn hx ho e (fun z => nomatch z) fun tk => ⟨.bl b, H, I.tok tk, rfl, q⟩
theorem call_isiDT' {X : Cx} {K : PySem.W.Frag} (h : X.K = K) : CallR X (.builtin "isinstance") (rIsiDT K) := h ▸ call_isiDT
theorem isiD {K : PySem.W.Frag} {a C D : Addr} {H : Hp} {b : Bool} {Q : VK} (hC : ExcAt K H a C) (e : PySem.W.kitOne K (.ref C) (.ref D) = some b) (q : Q (.bl b) H) : rIsiD K [.ref a, .ref D] H Q := ⟨a, C, _, _, b, rfl, hC, .inr ⟨D, rfl, rfl⟩, e, q⟩
theorem isiDT {K : PySem.W.Frag} {a C : Addr} {T : String} {H : Hp} {b : Bool} {Q : VK} (hC : ExcAt K H a C) (e : PySem.W.kitOne K (.ref C) (.type T) = some b) (q : Q (.bl b) H) : rIsiD K [.ref a, .ty T] H Q := ⟨a, C, _, _, b, rfl, hC, .inl ⟨T, rfl, rfl⟩, e, q⟩
/-- the classes ds in their order, of which C is the one of number due -/
structure JstD (K : PySem.W.Frag) (C : Addr) (ds : List Addr) (due : Nat) : Prop where
  kit : ∀ j d, ds[j]? = some d → PySem.W.kitOne K (.ref C) (.ref d) = some (decide (j = due))
  val : PySem.W.kitOne K (.ref C) (.type "ValueError") = some true
theorem Jst.d {K : PySem.W.Frag} {C : Addr} {ds : List Addr} {due : Nat} (h : Jst K C ds due) : JstD K C ds due := ⟨h.kit, h.val⟩
theorem excKD_of {K : PySem.W.Frag} {C R N NR : Addr} {nm q : Str} {bs bmB : List Value} {hdct : Bool} {sn : List Str} {sub : List Value} {ab : Bool} {col : Option Bool} {dd dR : Option Addr} {k0 k1 k2 k3 k5 : Option Value} {newId : String} {cR : Value} {cdR : ClassData} {slR : Array (Option Value)} {f : Str}
    (lkC : K.lookup C = some (excClassObj nm q C N bs (.ref R :: bmB) hdct sn sub ab col dd k0 k1 k2 k3 k5 newId)) (A : ExcA K C f) (gc : PySem.W.findIn K (.ref C) "__class__" = some (some (.builtin "object.__class__")))
    (sp : PySem.W.specialIn K (.builtin "object.__class__") "__get__" = some (some (.builtin "getset_descriptor.__get__"))) (tk : PySem.W.takesIn K (.builtin "object.__class__") = some true) (mr : PySem.W.mroIn K C (.type "object") = some true) : ExcKD K C :=
  ⟨A.ga, A.gt, fun od => PySem.W.findObj_data (by unfold PySem.W.clsIn; rw [lkC]; rfl) gc sp tk, mr, ⟨_, _, _, _, lkC⟩, A.own⟩
end L2
namespace L2
open PySem PySem.Spec PyProof.Rows
theorem Def.weak {P : Program} {w : World} {K : PySem.W.Frag} {mg : Str → Option Value} {base : Heap} {k : Nat} {x : Str} {st : Stmt} {ps : List Str} {sp sp' : Sp} (D : Def P w K mg base k x st ps sp) (h : ∀ vs H Q E, sp' vs H Q E → sp vs H Q E) : Def P w K mg base k x st ps sp' := by
  obtain ⟨f, fd, F, m, b, G⟩ := D.ex
  exact ⟨f, fd, F, m, b, fun vs H Q E z => G.len vs H Q E (h _ _ _ _ z), fun A outer s H args us vs Q E r e0 bt v z => G.run A outer s H args us vs Q E r e0 bt v (h _ _ _ _ z)⟩
end L2

set_option Elab.async false
set_option linter.all false
set_option maxRecDepth 100000
set_option maxHeartbeats 4000000
/-! Displays of things that hang on tuples, one item of them. -/
namespace Rm
open PySem L2 PyProof.Rows
section
variable {σ : L2.St} {H0 : Hp} {K : PySem.W.Frag}
abbrev D1 (σ : L2.St) (H0 : Hp) (te : TE) (d : PyData) : Prop := DE View.all σ H0 te d
abbrev D2 (σ : L2.St) (H0 : Hp) (ta : TA) (ds : List PyData) : Prop := DA View.all σ H0 ta ds
end
end Rm

set_option Elab.async false
set_option linter.all false
set_option maxRecDepth 100000
set_option maxHeartbeats 4000000
/-! Specs of k32: what is no code. -/
namespace Rm
open PySem L2
def ltB (c : Nat) : Bool := c == 97 || (c == 98 || (c == 99 || c == 100))
theorem ltB_iff {c : Nat} : ltB c = true ↔ isLt c := by unfold ltB isLt; simp
def goX (L R : List Int) (c : Nat) : Option (List Int × List Int) := if ltB c then goF L R c else none
theorem goX_lt {L R : List Int} {c : Nat} (h : isLt c) : goX L R c = goF L R c := by unfold goX; rw [if_pos (ltB_iff.mpr h)]
theorem goX_no {L R : List Int} {c : Nat} (h : ¬ isLt c) : goX L R c = none := by unfold goX; rw [if_neg fun z => h (ltB_iff.mp z)]
theorem goX_some {L R : List Int} {c : Nat} {p : List Int × List Int} (h : goX L R c = some p) : isLt c ∧ goF L R c = some p := by
  by_cases z : isLt c
  · rw [goX_lt z] at h; exact ⟨z, h⟩
  · rw [goX_no z] at h; cases h
def resX (L R : List Int) : List Nat → Nat → Option Nat
  | [], i => if L.length + R.length = 1 then none else some i
  | c :: cs, i => match goX L R c with | none => some i | some p => resX p.1 p.2 cs (i + 1)
theorem resX_no {L R : List Int} {c : Nat} {cs : List Nat} {i : Nat} (h : goX L R c = none) : resX L R (c :: cs) i = some i := by simp only [resX, h]
theorem resX_go {L R L' R' : List Int} {c : Nat} {cs : List Nat} {i : Nat} (h : goX L R c = some (L', R')) : resX L R (c :: cs) i = resX L' R' cs (i + 1) := by simp only [resX, h]
theorem resX_none : ∀ (cs : List Nat) {L R : List Int} {i : Nat}, resX L R cs i = none → Lts cs ∧ resF L R cs i = none
  | [], _, _, _, h => ⟨(fun x hx => by cases hx), h⟩
  | c :: cs, L, R, i, h => by
    cases g : goX L R c with
    | none => rw [resX_no g] at h; cases h
    | some p =>
      obtain ⟨L', R'⟩ := p
      rw [resX_go g] at h
      obtain ⟨h1, h2⟩ := resX_none cs h
      obtain ⟨lc, g2⟩ := goX_some g
      refine ⟨fun x hx => ?_, by rw [resF_go g2]; exact h2⟩
      rcases List.mem_cons.mp hx with rfl | z
      · exact lc
      · exact h1 x z
/-- the place at which a thing fails to be a code -/
def cdRes (b : Bool) : PyData → Option Nat
  | .str z => if z.cps.toList.length ≤ 20 then resX (bL b) (bR b) z.cps.toList 0 else some 0
  | _ => some 0
def ascD : PyData → Prop
  | .str z => (∀ c ∈ z.cps.toList, c < 128) ∧ z.cps.toList.length ≤ 100
  | _ => True
theorem str_tx (z : Str) : z = tx z.cps.toList := by obtain ⟨c⟩ := z; simp [tx]
theorem ascD_tx {cs : List Nat} (h : ∀ c ∈ cs, c < 128) (hl : cs.length ≤ 100) : ascD (.str (tx cs)) := by show (∀ c ∈ (tx cs).cps.toList, c < 128) ∧ (tx cs).cps.toList.length ≤ 100; rw [tx_cps]; exact ⟨h, hl⟩
theorem cdRes_tx {b : Bool} {cs : List Nat} : cdRes b (.str (tx cs)) = if cs.length ≤ 20 then resX (bL b) (bR b) cs 0 else some 0 := by show (if (tx cs).cps.toList.length ≤ 20 then resX (bL b) (bR b) (tx cs).cps.toList 0 else some 0) = _; rw [tx_cps]
def spGoX : Sp := fun vs H Q _ => ∃ (a : Addr) (L R : List Int) (c : Nat), vs = [.ref a, .str ⟨#[c]⟩] ∧ EndsAt H a L R ∧ EE L R ∧ L.length + R.length ≤ 400 ∧ ∀ v H', Same H H' → GoV H' v (goX L R c) → Q v H'
def spVetX (C : Addr) : Sp := fun vs H Q E => ∃ (b : Bool) (v : V) (d : PyData), vs = [.str (sd b), v] ∧ Dat H v d ∧ ascD d ∧
  (∀ i, cdRes b d = some i → ∀ H' dx, Same H H' → H' dx = some (.xd [("at", .int (i : Nat))]) → E (.ref C) (some dx) H') ∧ (cdRes b d = none → ∀ H', Same H H' → Q (.bl true) H')
def spDecX (C M : Addr) : Sp := fun vs H Q E => ∃ (s v : V) (ds d : PyData), vs = [s, v] ∧ Dat H s ds ∧ Pl ds 60 ∧ Dat H v d ∧ ascD d ∧ (sideD ds = false → E (.ref M) none H) ∧
  ∀ b, s = .str (sd b) → (∀ i, cdRes b d = some i → ∀ H' dx, Same H H' → H' dx = some (.xd [("at", .int (i : Nat))]) → E (.ref C) (some dx) H') ∧
    (cdRes b d = none → ∀ cs a H', v = .str (tx cs) → Same H H' → CodeAt H' a b cs → Q (.ref a) H')
/-- what kinds tells -/
def kdRes (b : Bool) (d : PyData) : PyData := match cdRes b d with
  | some i => .list [.str (Str.ofString "no code"), .int (i : Nat)]
  | none => .list [.str (Str.ofString "told")]
def noMz : PyData := .list [.str (Str.ofString "no maze"), .bool true]
def spKinds : Sp := fun vs H Q _ => ∃ (s v : V) (ds d : PyData), vs = [s, v] ∧ Dat H s ds ∧ Pl ds 60 ∧ Dat H v d ∧ ascD d ∧
  (sideD ds = false → ∀ r H', Same H H' → Dat H' r noMz → Q r H') ∧ ∀ b, s = .str (sd b) → ∀ r H', Same H H' → Dat H' r (kdRes b d) → Q r H'
def spWrongAt : Sp := fun vs H Q _ => ∃ (b : Bool) (cs : List Nat), vs = [.str (sd b), .str (tx cs)] ∧ cs.length ≤ 20 ∧ ∀ H', Same H H' → Q (match resX (bL b) (bR b) cs 0 with | some i => .int (i : Nat) | none => .non) H'
def spSpoil : Sp := fun vs H Q _ => ∃ (c : Int) (cs : List Nat), vs = [.int c, .str (tx cs)] ∧ Lts cs ∧ cs.length ≤ 20 ∧ ∀ v d H', Same H H' → Dat H' v d → ascD d → Pl d 60 → Q v H'
theorem sideD_sd {d : PyData} {H : Hp} {s : V} (h : Dat H s d) (e : sideD d = true) : ∃ b, s = .str (sd b) := by
  cases h <;> simp only [sideD, Bool.false_eq_true] at e
  rename_i z
  rw [Bool.or_eq_true, decide_eq_true_eq, decide_eq_true_eq] at e
  rcases e with rfl | rfl
  · exact ⟨false, by decide +kernel⟩
  · exact ⟨true, by decide +kernel⟩
theorem sideD_of (b : Bool) : sideD (.str (sd b)) = true := by cases b <;> decide +kernel
end Rm
namespace Rm
open PySem L2
theorem go_weak : ∀ vs H Q E, spGo vs H Q E → spGoX vs H Q E := fun vs H Q E ⟨a, L, R, c, e, ea, lc, ee, hl, q⟩ => ⟨a, L, R, c, e, ea, ee, hl, fun v H' s g => q v H' s (by rw [goX_lt lc] at g; exact g)⟩
theorem tx_get {cs : List Nat} {i : Nat} : (tx cs).cps[i]? = cs[i]? := by simp [tx]
theorem tx_ascA {cs : List Nat} (h : ∀ c ∈ cs, c < 128) : (tx cs).cps.all (· < 128) = true := by
  rw [Array.all_eq_true']
  intro x hx
  have := h x (by simpa [tx] using hx)
  exact decide_eq_true this
theorem tx_asc {cs : List Nat} (h : Lts cs) : (tx cs).cps.all (· < 128) = true := tx_ascA fun x hx => by rcases h x hx with z | z | z | z <;> omega
theorem in_abcdX {c : Nat} (h : c < 128) : (Builtin.Str.occurrences (Str.ofString "abcd") ⟨#[c]⟩ 0 (Str.ofString "abcd").length 1).isEmpty = !ltB c := by
  have : ∀ c : Fin 128, (Builtin.Str.occurrences (Str.ofString "abcd") ⟨#[c.val]⟩ 0 (Str.ofString "abcd").length 1).isEmpty = !ltB c.val := by decide +kernel
  exact this ⟨c, h⟩
end Rm
namespace Rm
open PySem L2
theorem lay_tx {cs : List Nat} (h : ∀ c ∈ cs, c < 128) : (PyData.str (tx cs)).canLay0 = true := by
  show PyData.strOk (tx cs) = true
  unfold PyData.strOk
  rw [Array.all_eq_true']
  intro x hx
  have := h x (by simpa [tx] using hx)
  exact decide_eq_true (by omega)
end Rm

set_option Elab.async false
set_option linter.all false
set_option maxRecDepth 100000
set_option maxHeartbeats 4000000
namespace Rm
open PySem L2 PyProof.Rows
def top (i : Nat) : Stmt := PySem.Challenge.pw_ringmaze_k32_no_codes.main.body.getD i (.Pass ⟨0, 0, 0, 0⟩)
abbrev s_is_side : Stmt := top 15
theorem sc_is_side : FnScope ["thing"] ["thing"] (defScope s_is_side) := ⟨rfl, rfl, rfl, by decide +kernel, rfl, by decide +kernel, by decide +kernel⟩
-- slots: 0 thing
abbrev s_other_side : Stmt := top 17
theorem sc_other_side : FnScope ["side"] ["side"] (defScope s_other_side) := ⟨rfl, rfl, rfl, by decide +kernel, rfl, by decide +kernel, by decide +kernel⟩
-- slots: 0 side
abbrev s_begun : Stmt := top 20
theorem sc_begun : FnScope ["side"] ["side"] (defScope s_begun) := ⟨rfl, rfl, rfl, by decide +kernel, rfl, by decide +kernel, by decide +kernel⟩
-- slots: 0 side
abbrev s_leading_on : Stmt := top 21
theorem sc_leading_on : FnScope ["state"] ["state"] (defScope s_leading_on) := ⟨rfl, rfl, rfl, by decide +kernel, rfl, by decide +kernel, by decide +kernel⟩
-- slots: 0 state
abbrev s_other_end : Stmt := top 22
theorem sc_other_end : FnScope ["signs", "place", "stride", "depth", "here"] ["signs", "place"] (defScope s_other_end) := ⟨rfl, rfl, rfl, by decide +kernel, rfl, by decide +kernel, by decide +kernel⟩
-- slots: 0 signs, 1 place, 2 stride, 3 depth, 4 here
abbrev s_joined : Stmt := top 23
theorem sc_joined : FnScope ["left", "right", "signs", "inner_right", "inner_left", "far", "marks", "place", "mark"] ["left", "right"] (defScope s_joined) := ⟨rfl, rfl, rfl, by decide +kernel, rfl, by decide +kernel, by decide +kernel⟩
-- slots: 0 left, 1 right, 2 signs, 3 inner_right, 4 inner_left, 5 far, 6 marks, 7 place, 8 mark
abbrev s_step : Stmt := top 24
theorem sc_step : FnScope ["state", "letter", "halves", "left", "right"] ["state", "letter"] (defScope s_step) := ⟨rfl, rfl, rfl, by decide +kernel, rfl, by decide +kernel, by decide +kernel⟩
-- slots: 0 state, 1 letter, 2 halves, 3 left, 4 right
abbrev s_vet_code : Stmt := top 28
theorem sc_vet_code : FnScope ["side", "code", "state", "at", "sign"] ["side", "code"] (defScope s_vet_code) := ⟨rfl, rfl, rfl, by decide +kernel, rfl, by decide +kernel, by decide +kernel⟩
-- slots: 0 side, 1 code, 2 state, 3 at, 4 sign
abbrev s_rows_across : Stmt := top 29
theorem sc_rows_across : FnScope ["code", "inwards", "begins_here", "told", "waiting", "place", "letter", "row", "outer"] ["code", "inwards", "begins_here"] (defScope s_rows_across) := ⟨rfl, rfl, rfl, by decide +kernel, rfl, by decide +kernel, by decide +kernel⟩
-- slots: 0 code, 1 inwards, 2 begins_here, 3 told, 4 waiting, 5 place, 6 letter, 7 row, 8 outer
abbrev s_decoded : Stmt := top 30
theorem sc_decoded : FnScope ["side", "code", "across", "order", "bow_side", "row"] ["side", "code"] (defScope s_decoded) := ⟨rfl, rfl, rfl, by decide +kernel, rfl, by decide +kernel, by decide +kernel⟩
-- slots: 0 side, 1 code, 2 across, 3 order, 4 bow_side, 5 row
abbrev s_cell_at : Stmt := top 32
theorem sc_cell_at : FnScope ["_law_script", "_law_k"] ["_law_script", "_law_k"] (defScope s_cell_at) := ⟨rfl, rfl, rfl, by decide +kernel, rfl, by decide +kernel, by decide +kernel⟩
-- slots: 0 script, 1 k
abbrev s_mixed : Stmt := top 33
theorem sc_mixed : FnScope ["_law_cell", "_law_rest"] ["_law_cell"] (defScope s_mixed) := ⟨rfl, rfl, rfl, by decide +kernel, rfl, by decide +kernel, by decide +kernel⟩
-- slots: 0 cell, 1 rest
abbrev s_rest_of : Stmt := top 34
theorem sc_rest_of : FnScope ["_law_cell", "_law_top"] ["_law_cell"] (defScope s_rest_of) := ⟨rfl, rfl, rfl, by decide +kernel, rfl, by decide +kernel, by decide +kernel⟩
-- slots: 0 cell, 1 top
abbrev s_go : Stmt := top 35
theorem sc_go : FnScope ["_law_ends", "_law_letter", "_law_left", "_law_right", "_law_new", "_law_low", "_law_high"] ["_law_ends", "_law_letter"] (defScope s_go) := ⟨rfl, rfl, rfl, by decide +kernel, rfl, by decide +kernel, by decide +kernel⟩
-- slots: 0 ends, 1 letter, 2 left, 3 right, 4 new, 5 low, 6 high
abbrev s_at_first : Stmt := top 36
theorem sc_at_first : FnScope ["_law_side"] ["_law_side"] (defScope s_at_first) := ⟨rfl, rfl, rfl, by decide +kernel, rfl, by decide +kernel, by decide +kernel⟩
-- slots: 0 side
abbrev s_closing : Stmt := top 37
theorem sc_closing : FnScope ["_law_ends", "_law_row", "_law_here", "_law_best", "_law_k"] ["_law_ends"] (defScope s_closing) := ⟨rfl, rfl, rfl, by decide +kernel, rfl, by decide +kernel, by decide +kernel⟩
-- slots: 0 ends, 1 row, 2 here, 3 best, 4 k
abbrev s_code_by : Stmt := top 38
theorem sc_code_by : FnScope ["_law_rest", "_law_side", "_law_many", "_law_ends", "_law_code", "_law_letter"] ["_law_rest", "_law_side", "_law_many"] (defScope s_code_by) := ⟨rfl, rfl, rfl, by decide +kernel, rfl, by decide +kernel, by decide +kernel⟩
-- slots: 0 rest, 1 side, 2 many, 3 ends, 4 code, 5 letter
abbrev s_wrong_at : Stmt := top 39
theorem sc_wrong_at : FnScope ["_law_side", "_law_code", "_law_ends", "_law_at"] ["_law_side", "_law_code"] (defScope s_wrong_at) := ⟨rfl, rfl, rfl, by decide +kernel, rfl, by decide +kernel, by decide +kernel⟩
-- slots: 0 side, 1 code, 2 ends, 3 at
abbrev s_spoiled : Stmt := top 40
theorem sc_spoiled : FnScope ["_law_cell", "_law_code", "_law_at", "_law_signs"] ["_law_cell", "_law_code"] (defScope s_spoiled) := ⟨rfl, rfl, rfl, by decide +kernel, rfl, by decide +kernel, by decide +kernel⟩
-- slots: 0 cell, 1 code, 2 at, 3 signs
abbrev s_kinds : Stmt := top 41
theorem sc_kinds : FnScope ["_law_side", "_law_code", "e", "_law_odd"] ["_law_side", "_law_code"] (defScope s_kinds) := ⟨rfl, rfl, rfl, by decide +kernel, rfl, by decide +kernel, by decide +kernel⟩
-- slots: 0 side, 1 code, 2 e, 3 odd
abbrev s_law : Stmt := top 42
theorem sc_law : FnScope ["_law_script", "_law_head", "_law_side", "_law_code", "_law_bad", "_law_odd", "_law_at"] ["_law_script"] (defScope s_law) := ⟨rfl, rfl, rfl, by decide +kernel, rfl, by decide +kernel, by decide +kernel⟩
-- slots: 0 script, 1 head, 2 side, 3 code, 4 bad, 5 odd, 6 at
abbrev s_ini_NoCode : Stmt := L2.iniS (top 8)
theorem sc_ini_NoCode : FnScope ["self", "at"] ["self", "at"] (defScope s_ini_NoCode) := ⟨rfl, rfl, rfl, by decide +kernel, rfl, by decide +kernel, by decide +kernel⟩
structure Blt (mg : Str → Option Value) : Prop where
  ValueError : mg "ValueError" = none
  len : mg "len" = none
  list : mg "list" = none
  sorted : mg "sorted" = none
  zip : mg "zip" = none
  max : mg "max" = none
  min : mg "min" = none
  int : mg "int" = none
  range : mg "range" = none
  isinstance : mg "isinstance" = none
  str : mg "str" = none
  reversed : mg "reversed" = none
  enumerate : mg "enumerate" = none
  tuple : mg "tuple" = none
  abs : mg "abs" = none
  bool : mg "bool" = none
  MOST_RINGS : ∃ t, mg "MOST_RINGS" = some (.int 20 t)
  LETTERS : ∃ t, mg "LETTERS" = some (.str (Str.ofString "abcd") t)
  LEFT_INWARDS : ∃ t, mg "LEFT_INWARDS" = some (.str (Str.ofString "ab") t)
  RIGHT_INWARDS : ∃ t, mg "RIGHT_INWARDS" = some (.str (Str.ofString "ac") t)
local macro_rules | `(tactic| walk_at "wp") => `(tactic| (try dsimp (maxSteps := 3000000) only [L2.w_varS, L2.w_c, L2.w_op, L2.w_un, L2.w_aug, L2.w_K, L2.w_test, L2.w_tB, L2.w_and, L2.w_or, L2.w_not, L2.w_andV, L2.w_orV, L2.w_notV, L2.w_if, L2.w_seq, L2.w_next, L2.w_brk, L2.w_cont, L2.w_drop, L2.w_ret, L2.w_retN, L2.w_ifS, L2.w_asg, L2.w_gName, L2.w_set0, L2.w_setS, L2.w_nil, L2.w_cons, L2.w_cb, L2.w_tup, L2.w_lst, L2.w_call, L2.w_bm, L2.w_bm0, L2.w_chain, L2.w_chain3, L2.w_for1, L2.w_for2, L2.w_forL, L2.w_forT, L2.w_gTup, L2.w_dnewK, L2.w_dput, L2.w_dget, L2.w_forE, L2.w_try, L2.w_raise, L2.w_forS, L2.w_compL, L2.w_comp1, L2.w_noif, L2.w_init0, L2.w_initS, L2.w_initN, L2.w_get0, L2.w_getS, L2.w_gSub, L2.w_sl, L2.w_part, L2.w_nopart]); (try simp (maxSteps := 3000000) only [L2.w_var0, L2.w_varS, L2.w_c, L2.w_op, L2.w_un, L2.w_I0, L2.w_I, L2.w_U, L2.w_eqI, L2.w_neI, L2.w_eqS, L2.w_neS, L2.w_eqB, L2.w_neB, L2.w_exB, L2.w_exI, L2.w_exB2, L2.w_addS, L2.w_aug, L2.w_ip, if_true, if_false, Bool.false_eq_true, L2.w_K, L2.w_exR, L2.w_exR2, L2.w_ex1I, L2.w_ex1S, L2.w_ex1R, L2.w_ex2R, L2.w_ex2I, L2.w_int1, L2.w_ixS, L2.w_ixL, L2.w_ixT, L2.w_app, L2.w_pop, L2.w_test, L2.w_tB, L2.w_and, L2.w_or, L2.w_not, L2.w_andV, L2.w_orV, L2.w_notV, L2.w_if, L2.w_seq, L2.w_next, L2.w_brk, L2.w_cont, L2.w_drop, L2.w_ret, L2.w_retN, L2.w_ifS, L2.w_asg, L2.w_gName, L2.w_set0, L2.w_setS, L2.w_nil, L2.w_cons, L2.w_cb, L2.w_tup, L2.w_lst, L2.w_call, L2.w_bm, L2.w_bm0, L2.w_chain, L2.w_chain3, L2.w_for1, L2.w_for2, L2.w_forL, L2.w_forT, L2.w_gTup, L2.w_gNil, L2.w_gCons, List.append_nil, decide_eq_true_eq, Bool.not_eq_true', decide_eq_false_iff_not, L2.w_disp, L2.w_pr0, L2.w_prS, L2.w_dnewK, L2.w_dput, L2.w_dget, L2.w_forE, L2.w_try, L2.w_raise, L2.w_forS, L2.w_compL, L2.w_comp1, L2.w_noif, L2.w_exS, L2.w_init0, L2.w_initS, L2.w_initN, L2.w_get0, L2.w_getS, L2.w_gSub, L2.w_sl, L2.w_part, L2.w_nopart, L2.w_slS, L2.w_forZS, L2.w_rev, L2.w_initB, L2.w_setE, L2.w_fs, L2.w_raiseV, L2.w_excA]))
section
variable {P : Program} {w : World} {K : PySem.W.Frag} {mg : Str → Option Value} {base : Heap}
theorem ok_begun (E : Fn K mg "begun" s_begun ["side"]) : Def P w K mg base 1 "begun" s_begun ["side"] spBegun := E.mk' fun f fd F => by
  refine F.okS sc_begun (fun vs H Q E h => ?_) (fun cdv A outer s H vs Q E hr h => ?_)
  · obtain ⟨c, rfl, _⟩ := h
    rfl
  · obtain ⟨c, rfl, q⟩ := h
    refine ⟨[some (.str ⟨#[c]⟩)], _, rfl, (L2.QSs.h (qpss_one (qps_ret (qpe_ifExp (qpt_cmpR op_eq (qpv 0) qpe_str (nomark _)) qpe_str qpe_str)))), ?_⟩
    walk_at "wp"
    rw [s_l, s_sb, s_bs]
    simp only [eq_one]
    unfold sideEnds at q
    refine ite2 (fun h => ?_) (fun h => ?_)
    · rw [if_pos h] at q; dsimp only at q; rw [stx_l] at q; exact q
    · rw [if_neg h] at q; dsimp only at q; rw [stx_r] at q; exact q
theorem ok_leading_on (B : Blt mg) (E : Fn K mg "leading_on" s_leading_on ["state"]) : Def P w K mg base 1 "leading_on" s_leading_on ["state"] spLead := E.mk' fun f fd F => by
  refine F.okS sc_leading_on (fun vs H Q E h => ?_) (fun cdv A outer s H vs Q E hr h => ?_)
  · obtain ⟨L, R, rfl, _⟩ := h
    rfl
  · obtain ⟨L, R, rfl, hl, q⟩ := h
    refine ⟨[some (.str (tx (stx L R)))], _, rfl, (L2.QSs.h (qpss_one (qps_ret (qpe_op op_sub (qpe_callB call_len_str (by rfl) B.len PySem.boot_len (qpa_Name (qpv 0) qpa_nil)) qpe_int)))), ?_⟩
    walk_at "wp"
    rw [tx_len, stx_len]
    refine ⟨sm9 (by omega), ?_⟩
    have e : ((L.length + R.length + 1 : Nat) : Int) - 1 = ((L.length + R.length : Nat) : Int) := by omega
    rw [e]
    exact q
theorem ok_other_end (E : Fn K mg "other_end" s_other_end ["signs", "place"]) : Def P w K mg base 1 "other_end" s_other_end ["signs", "place"] spOtherE := E.mk' fun f fd F => by
  refine F.okS sc_other_end (fun vs H Q E h => ?_) (fun cdv A outer s H vs Q E hr h => ?_)
  · obtain ⟨a, cs, p, q, rfl, _⟩ := h
    rfl
  · obtain ⟨a, cs, p, q, rfl, ha, hl, far, hq⟩ := h
    have rd : ∀ (i c : Nat), cs[i]? = some c → atI (cs.map sg1) (i : Int) = some (V.str ⟨#[c]⟩) := fun i c h => atI_nat (by rw [List.getElem?_map, h]; rfl)
    refine ⟨[some (.ref a), some (.int (p : Nat)), none, none, none], _, rfl, (L2.QSs.h (qpss_cons (qps_if (qpt_cmpR op_eq (qpe_ix ix_list (qpv 0) (qpv 1) (fun _ _ => rfl)) qpe_str (nomark _))
      (qpss_one (qps_ret (qpv 1)))
      qpss_nil)
      (qpss_cons (qps_set (i := 2) sc_other_end.nd rfl (Or.inl rfl) (qpe_ifExp (qpt_cmpR op_eq (qpe_ix ix_list (qpv 0) (qpv 1) (fun _ _ => rfl)) qpe_str (nomark _)) qpe_int (qpe_un un_neg qpe_int)))
      (qpss_cons (qps_set (i := 3) sc_other_end.nd rfl (Or.inl rfl) (qpv 2))
      (qpss_cons (qps_set (i := 4) sc_other_end.nd rfl (Or.inl rfl) (qpv 1))
      (qpss_cons (qps_while PassesOwn.never (qpt_cmpR op_ne (qpv 3) qpe_int (nomark _))
      (qpss_cons (qps_aug (i := 4) sc_other_end.nd rfl (Or.inl rfl) (qpv 2) ip_add)
        (qpss_one (qps_if (qpt_cmpR op_eq (qpe_ix ix_list (qpv 0) (qpv 4) (fun _ _ => rfl)) qpe_str (nomark _))
        (qpss_one (qps_aug (i := 3) sc_other_end.nd rfl (Or.inl rfl) qpe_int ip_add))
        (qpss_one (qps_if (qpt_cmpR op_eq (qpe_ix ix_list (qpv 0) (qpv 4) (fun _ _ => rfl)) qpe_str (nomark _))
          (qpss_one (qps_aug (i := 3) sc_other_end.nd rfl (Or.inl rfl) qpe_int ip_sub))
          qpss_nil))))))
      (qpss_one (qps_ret (qpv 4))))))))), ?_⟩
    rcases far.walk with ⟨h0, rfl⟩ | ⟨st, n, d, hs, d0, dn, dz, eq, stp⟩
    · walk_at "wp"
      refine ⟨_, _, SqL.of ha, rd _ _ h0, ?_⟩
      walk_at "wp"
      rw [s_st, s_op]
      simp only [eq_one, if_true]
      exact hq
    · rcases hs with ⟨rfl, h0⟩ | ⟨rfl, h0⟩
      · walk_at "wp"
        refine ⟨_, _, SqL.of ha, rd _ _ h0, ?_⟩
        walk_at "wp"
        simp only [s_st, s_op, s_cl, eq_one]
        refine ifN (by decide) ⟨_, _, SqL.of ha, rd _ _ h0, ?_⟩
        walk_at "wp"
        simp only [s_st, s_op, s_cl, eq_one]
        refine ifY (by decide) ?_
        refine ⟨fun m σ H3 => ∃ j : Nat, j ≤ n ∧ m = n - j ∧ σ = [some (.ref a), some (.int (p : Nat)), some (.int 1), some (.int (d j)), some (.int ((p : Int) + 1 * j))] ∧ H3 = H, ⟨_, 0, Nat.zero_le _, rfl, by simp [d0], rfl⟩, ?_⟩
        rintro m σ H3 ⟨j, hj, rfl, rfl, rfl⟩
        walk_at "wp"
        refine ite2 (fun h => ?_) (fun h => ?_)
        · have hjn : j < n := by
            rcases Nat.lt_or_ge j n with z | z
            · exact z
            · have : j = n := by omega
              subst this; exact absurd dz h
          obtain ⟨i, c, ei, hc, ed⟩ := stp j hjn
          rw [ei]
          refine ⟨_, fun _ _ z => z, _, _, SqL.of ha, rd _ _ hc, ?_⟩
          walk_at "wp"
          simp only [s_st, s_op, s_cl, eq_one]
          have fin : d (j + 1) = d j + vl c := ed
          unfold vl at fin
          have ej : (p : Int) + 1 * ((j + 1 : Nat) : Int) = i := by rw [← ei]; omega
          refine ite2 (fun hc1 => ?_) (fun hc1 => ⟨_, _, SqL.of ha, rd _ _ hc, ?_⟩)
          · rw [if_pos hc1] at fin
            exact ⟨n - (j + 1), by omega, j + 1, hjn, rfl, by rw [fin, ej], trivial⟩
          · walk_at "wp"
            simp only [s_st, s_op, s_cl, eq_one]
            rw [if_neg hc1] at fin
            refine ite2 (fun hc2 => ?_) (fun hc2 => ?_)
            · rw [if_pos hc2] at fin
              exact ⟨n - (j + 1), by omega, j + 1, hjn, rfl, by rw [fin, ej]; rfl, trivial⟩
            · rw [if_neg hc2] at fin
              exact ⟨n - (j + 1), by omega, j + 1, hjn, rfl, by rw [fin, ej, Int.add_zero], trivial⟩
        · have hjn : j = n := by
            rcases Nat.lt_or_ge j n with z | z
            · exact absurd (Classical.not_not.mp h) (dn j z)
            · omega
          subst hjn
          rw [eq]
          exact hq
      · walk_at "wp"
        refine ⟨_, _, SqL.of ha, rd _ _ h0, ?_⟩
        walk_at "wp"
        simp only [s_st, s_op, s_cl, eq_one]
        refine ifN (by decide) ⟨_, _, SqL.of ha, rd _ _ h0, ?_⟩
        walk_at "wp"
        simp only [s_st, s_op, s_cl, eq_one]
        refine ifN (by decide) ?_
        refine ⟨fun m σ H3 => ∃ j : Nat, j ≤ n ∧ m = n - j ∧ σ = [some (.ref a), some (.int (p : Nat)), some (.int (-1)), some (.int (d j)), some (.int ((p : Int) + (-1) * j))] ∧ H3 = H, ⟨_, 0, Nat.zero_le _, rfl, by simp [d0], rfl⟩, ?_⟩
        rintro m σ H3 ⟨j, hj, rfl, rfl, rfl⟩
        walk_at "wp"
        refine ite2 (fun h => ?_) (fun h => ?_)
        · have hjn : j < n := by
            rcases Nat.lt_or_ge j n with z | z
            · exact z
            · have : j = n := by omega
              subst this; exact absurd dz h
          obtain ⟨i, c, ei, hc, ed⟩ := stp j hjn
          rw [ei]
          refine ⟨_, fun _ _ z => z, _, _, SqL.of ha, rd _ _ hc, ?_⟩
          walk_at "wp"
          simp only [s_st, s_op, s_cl, eq_one]
          have fin : d (j + 1) = d j + vl c := ed
          unfold vl at fin
          have ej : (p : Int) + (-1) * ((j + 1 : Nat) : Int) = i := by rw [← ei]; omega
          refine ite2 (fun hc1 => ?_) (fun hc1 => ⟨_, _, SqL.of ha, rd _ _ hc, ?_⟩)
          · rw [if_pos hc1] at fin
            exact ⟨n - (j + 1), by omega, j + 1, hjn, rfl, by rw [fin, ej], trivial⟩
          · walk_at "wp"
            simp only [s_st, s_op, s_cl, eq_one]
            rw [if_neg hc1] at fin
            refine ite2 (fun hc2 => ?_) (fun hc2 => ?_)
            · rw [if_pos hc2] at fin
              exact ⟨n - (j + 1), by omega, j + 1, hjn, rfl, by rw [fin, ej]; rfl, trivial⟩
            · rw [if_neg hc2] at fin
              exact ⟨n - (j + 1), by omega, j + 1, hjn, rfl, by rw [fin, ej, Int.add_zero], trivial⟩
        · have hjn : j = n := by
            rcases Nat.lt_or_ge j n with z | z
            · exact absurd (Classical.not_not.mp h) (dn j z)
            · omega
          subst hjn
          rw [eq]
          exact hq
theorem ok_joined (B : Blt mg) (E : Fn K mg "joined" s_joined ["left", "right"]) (D_other_end : Def P w K mg base 1 "other_end" s_other_end ["signs", "place"] spOtherE) : Def P w K mg base 2 "joined" s_joined ["left", "right"] spJoinS := E.mk' fun f fd F => by
  refine F.okS sc_joined (fun vs H Q E h => ?_) (fun cdv A outer s H vs Q E hr h => ?_)
  · obtain ⟨L, R, x, y, rfl, _⟩ := h
    rfl
  · obtain ⟨L, R, x, y, rfl, EE, hl, q⟩ := h
    have hA := sgp_all (P := L) (Q := R) (x := x) (y := y)
    have lA : (tx (sgp [] (L ++ [x]))).length = L.length + 1 := by rw [tx_len, sgp_len]; simp
    have lB : (tx (sgp (L ++ [x]) (R ++ [y]).reverse)).length = R.length + 1 := by rw [tx_len, sgp_len]; simp
    refine ⟨[some (.str (tx (sgp [] (L ++ [x])))), some (.str (tx (sgp (L ++ [x]) (R ++ [y]).reverse))), none, none, none, none, none, none, none], _, rfl, (L2.QSs.h (qpss_cons (qps_set (i := 2) sc_joined.nd rfl (Or.inl rfl) (qpe_callTy (call_list_txt rfl) (by rfl) B.list PyProof.Rows.boot_list (qpa_BinOp (qpe_op op_add_str (qpv 0) (qpv 1)) qpa_nil)))
      (qpss_cons (qps_set (i := 3) sc_joined.nd rfl (Or.inl rfl) (qpe_callB call_len_str (by rfl) B.len PySem.boot_len (qpa_Name (qpv 0) qpa_nil)))
      (qpss_cons (qps_set (i := 4) sc_joined.nd rfl (Or.inl rfl) (qpe_op op_sub (qpv 3) qpe_int))
      (qpss_cons (qps_set (i := 5) sc_joined.nd rfl (Or.inl rfl) (qpe_lst (qpa_Call (qpe_callD D_other_end (hr.mono (by decide)) (by rfl) (qpa_Name (qpv 2) (qpa_Name (qpv 4) qpa_nil))) (qpa_Call (qpe_callD D_other_end (hr.mono (by decide)) (by rfl) (qpa_Name (qpv 2) (qpa_Name (qpv 3) qpa_nil))) qpa_nil))))
      (qpss_cons (qps_if (qpt_cmpR op_eq (qpe_ix ix_list (qpv 5) qpe_int (fun _ _ => rfl)) (qpv 3) (nomark _))
      (qpss_one (qps_ret qpe_non))
      qpss_nil)
      (qpss_cut (qps_set (i := 6) sc_joined.nd rfl (Or.inl rfl) (qpe_ifExp (qpt_cmpR (op_inD (hu_64 hr)) qpe_str (qpe_tup (qpa_Subscript (qpe_ix ix_list (qpv 2) (qpv 4) (fun _ _ => rfl)) (qpa_Subscript (qpe_ix ix_list (qpv 2) (qpv 3) (fun _ _ => rfl)) qpa_nil))) (by with_unfolding_all rfl)) qpe_str qpe_str))
      (qpss_cons (qps_for PassesOwn.never rfl (qpi_zipS (by rfl) B.zip (qpa_Call (qpe_callB call_sorted_ints (by rfl) B.sorted PyProof.Rows.boot_sorted (qpa_Name (qpv 5) qpa_nil)) (qpa_Name (qpv 6) qpa_nil))) (qpg_tup (n := 2) rfl (qpgs_cons (qpg_name (i := 7) sc_joined.nd rfl (Or.inl rfl)) (qpgs_cons (qpg_name (i := 8) sc_joined.nd rfl (Or.inl rfl)) qpgs_nil)))
      (qpss_one (qps_asg (qpv 8) (qpg_sub (qpv 2) (qpv 7) set_list))))
      (qpss_one (qps_ret (qpe_op op_add_str (qpe_op op_add_str (qpe_bm PySem.F.plainAttrs_str PySem.F.slot_str_join PySem.F.type_str_join mt_join qpe_str (qpa_Subscript (qpe_slice sl_list (qpv 2) qpo_none (qpo_some (qpv 4))) qpa_nil)) qpe_str) (qpe_bm PySem.F.plainAttrs_str PySem.F.slot_str_join PySem.F.type_str_join mt_join qpe_str (qpa_Subscript (qpe_slice sl_list (qpv 2) (qpo_some (qpe_op op_add (qpv 3) qpe_int)) qpo_none) qpa_nil))))))))))))), ?_⟩
    walk_at "wp"
    rw [tx_app, hA, tx_cps, tx_size, lA, lB, show (fun c : Nat => V.str (⟨#[c]⟩ : Str)) = sg1 from rfl]
    obtain ⟨s0, s1⟩ := sg_at (P := L) (Q := R.reverse) (x := x) (y := y)
    have c0 := sgz_in L x
    have c1 := sgz_in (L ++ [x]) y
    have z0 := sgz_zero (pre := L) (x := x) (EE.nn x (by simp))
    have z1 := sgz_zero (pre := L ++ [x]) (x := y) (EE.nn y (by simp))
    have lC : (sgp [] (L ++ x :: y :: R.reverse)).length = L.length + R.length + 2 := by rw [sgp_len]; simp; omega
    have e1 : ((L.length + 1 : Nat) : Int) - 1 = (L.length : Nat) := by omega
    rw [goF_d] at q
    refine ⟨sm9 (by omega), by omega, fun l nl => ⟨sm9 (by omega), ?_⟩⟩
    rw [e1]
    by_cases exy : x = y
    · subst exy
      rw [if_pos rfl] at q
      have f0 := far_same EE
      have f1 := far_same2 EE
      refine ⟨l, _, L.length, L.length + 1, rfl, upd_same, by omega, f0, l, _, L.length + 1, L.length, rfl, upd_same, by omega, f1, (by show 2 ≤ sizeLine; decide), fun p np => ⟨_, _, SqL.of upd_same, rfl, ?_⟩⟩
      walk_at "wp"
      exact (q _ (((Same.refl H).new nl).trans ((Same.refl _).new np)))
    · rw [if_neg exy] at q
      obtain ⟨q0, q1, f0, f1, n1, n2, b0, b1, m0, m1, hm, ht⟩ := stx_d EE exy
      generalize sgp [] (L ++ x :: y :: R.reverse) = cs at *
      have h1 : upd H l (.lst (cs.map sg1)) l = some (.lst (cs.map sg1)) := upd_same
      have sH := (Same.refl H).new (o := .lst (cs.map sg1)) nl
      refine ⟨l, cs, L.length, q0, rfl, h1, by omega, f0, l, cs, L.length + 1, q1, rfl, h1, by omega, f1, (by show 2 ≤ sizeLine; decide), fun p np => ⟨_, _, SqL.of upd_same, rfl, ?_⟩⟩
      walk_at "wp"
      refine ifN (by omega) ?_
      have npl : l ≠ p := ne_of_none h1 np
      have h2 : upd (upd H l (.lst (cs.map sg1))) p (.lst [V.int q0, V.int q1]) l = some (.lst (cs.map sg1)) := by rw [upd_ne npl]; exact h1
      have hp2 : upd (upd H l (.lst (cs.map sg1))) p (.lst [V.int q0, V.int q1]) p = some (.lst [V.int q0, V.int q1]) := upd_same
      have s2 := sH.trans ((Same.refl _).new (o := .lst [V.int q0, V.int q1]) np)
      generalize upd (upd H l (.lst (cs.map sg1))) p (.lst [V.int q0, V.int q1]) = H2 at h2 hp2 s2 ⊢
      refine cut_intro (fun σ H' => σ = [some (.str (tx (sgp [] (L ++ [x])))), some (.str (tx (sgp (L ++ [x]) (R ++ [y]).reverse))), some (.ref l), some (.int ((L.length + 1 : Nat) : Int)), some (.int (L.length : Nat)), some (.ref p), some (.str (tx [m0, m1])), none, none] ∧ Same H2 H') ?_ ?_
      · walk_at "wp"
        refine ⟨_, sg1 (sgz L x), SqL.of h2, atI_nat (by rw [List.getElem?_map, s0]; rfl), _, sg1 (sgz (L ++ [x]) y), SqL.of h2, atI_nat (by rw [List.getElem?_map, s1]; rfl), (by show 2 ≤ sizeLine; decide), fun t nt => in_stars c0 c1 upd_same ⟨_, rfl, ?_⟩⟩
        simp only [s_ss, s_oc]
        rcases hm with ⟨hz, rfl, rfl⟩ | ⟨hz, rfl, rfl⟩
        · refine ifY ?_ ⟨rfl, (Same.refl _).new nt⟩
          rcases hz with z | z
          · rw [decide_eq_true (z0.mpr z)]; rfl
          · rw [decide_eq_true (z1.mpr z), Bool.or_true]
        · refine ifN ?_ ⟨rfl, (Same.refl _).new nt⟩
          rw [decide_eq_false (fun z => hz (.inl (z0.mp z))), decide_eq_false (fun z => hz (.inr (z1.mp z)))]
          decide
      · rintro σ H3 ⟨rfl, s3⟩
        have hl3 := s3 _ _ h2
        have s03 : Same H H3 := s2.trans s3
        have hz : (m0 = 42 ∨ m0 = 40) ∧ (m1 = 42 ∨ m1 = 41) := by rcases hm with ⟨_, rfl, rfl⟩ | ⟨_, rfl, rfl⟩ <;> simp
        walk_at "wp"
        refine ⟨p, [(q0 : Int), (q1 : Int)], rfl, SqL.of (s3 _ _ hp2), (by show 2 < 64; decide), fun l2 ms nl2 pm ps' => ?_⟩
        have em := perm_two pm ps'
        subst em
        have nll : l ≠ l2 := ne_of_none hl3 nl2
        refine ⟨l2, tx [m0, m1], rfl, ⟨_, SqL.of upd_same⟩, tx_ascii (by intro c hc; simp at hc; omega), for_zipS (xs := [V.int ((min q0 q1 : Nat) : Int), V.int ((max q0 q1 : Nat) : Int)]) (by rw [tx_size]; exact Nat.le_refl 2)
          (fun i σ H' => ∃ x7 x8, σ = [some (.str (tx (sgp [] (L ++ [x])))), some (.str (tx (sgp (L ++ [x]) (R ++ [y]).reverse))), some (.ref l), some (.int ((L.length + 1 : Nat) : Int)), some (.int (L.length : Nat)), some (.ref p), some (.str (tx [m0, m1])), x7, x8] ∧ Same H H' ∧ H' l2 = some (.lst [V.int ((min q0 q1 : Nat) : Int), V.int ((max q0 q1 : Nat) : Int)]) ∧
            H' l = some (.lst ((match i with | 0 => cs | 1 => cs.set (min q0 q1) m0 | _ => (cs.set (min q0 q1) m0).set (max q0 q1) m1).map sg1)))
          ⟨none, none, rfl, s03.trans ((Same.refl _).new nl2), upd_same, by rw [upd_ne nll]; exact hl3⟩ (fun i σ H' ⟨_, _, _, _, e, _⟩ => SqL.of e) ?_ ?_⟩
        · rintro i v c σ H' t hv hc ⟨x7, x8, rfl, sm, h4, h5⟩ nt
          have ntl : l ≠ t := ne_of_none h5 nt
          have ntl2 : l2 ≠ t := ne_of_none h4 nt
          walk_at "wp"
          refine ⟨_, SqT.of upd_same, rfl, ?_⟩
          walk_at "wp"
          have h5' : upd H' t (.tup [v, V.str ⟨#[c]⟩]) l = H' l := upd_ne ntl
          rw [h5] at h5'
          have sm2 : Same H (upd H' t (.tup [v, V.str ⟨#[c]⟩])) := sm.trans ((Same.refl _).new nt)
          match i, hv, hc, h5' with
          | 0, hv, hc, h5' =>
            have ec : c = m0 := by simpa [tx] using hc.symm
            subst ec
            cases hv
            have h6 : _ = some (HO.lst (cs.map sg1)) := h5'
            refine ⟨l, _, _, min q0 q1, rfl, rfl, h6, ?_, _, _, rfl, sm2.new nl, ?_, ?_⟩
            · unfold ixN; rw [List.length_map, if_pos (by omega), if_pos (by omega), Int.toNat_natCast]
            · rw [upd_ne (Ne.symm nll), upd_ne ntl2]; exact h4
            · rw [upd_same]; exact congrArg (fun z => some (HO.lst z)) (sg_set cs (min q0 q1) c)
          | 1, hv, hc, h5' =>
            have ec : c = m1 := by simpa [tx] using hc.symm
            subst ec
            cases hv
            have h6 : _ = some (HO.lst ((cs.set (min q0 q1) m0).map sg1)) := h5'
            refine ⟨l, _, _, max q0 q1, rfl, rfl, h6, ?_, _, _, rfl, sm2.new nl, ?_, ?_⟩
            · unfold ixN; rw [List.length_map, List.length_set, if_pos (by omega), if_pos (by omega), Int.toNat_natCast]
            · rw [upd_ne (Ne.symm nll), upd_ne ntl2]; exact h4
            · rw [upd_same]; exact congrArg (fun z => some (HO.lst z)) (sg_set (cs.set (min q0 q1) m0) (max q0 q1) c)
          | i + 2, hv, _, _ => simp at hv
        · rintro σ H' ⟨x7, x8, rfl, sm, h4, h5⟩
          have h5 : H' l = some (.lst (((cs.set (min q0 q1) m0).set (max q0 q1) m1).map sg1)) := h5
          have ld : ((cs.set (min q0 q1) m0).set (max q0 q1) m1).length = L.length + R.length + 2 := by rw [List.length_set, List.length_set, lC]
          generalize (cs.set (min q0 q1) m0).set (max q0 q1) m1 = ds at h5 ld ht
          walk_at "wp"
          refine ⟨rfl, slP_to h5 (by rw [List.length_map]; omega) fun p1 H1 n1 t1 g1 => ?_⟩
          rw [← List.map_take, sg_strs] at g1
          have lt1 : (ds.take L.length).length ≤ 900 := by rw [List.length_take]; omega
          refine ⟨_, p1, _, rfl, rfl, SqL.of g1, tx_joinOk lt1, ?_⟩
          rw [tx_join, s_bar]
          refine ⟨_, _, rfl, rfl, by rw [tx_len, tx_len]; exact sm9 (by rw [List.length_take]; simp; omega), rfl, ?_⟩
          have e2 : ((L.length + 1 : Nat) : Int) + 1 = ((L.length + 2 : Nat) : Int) := by omega
          rw [e2]
          refine slP_from (t1 _ _ h5) (by rw [List.length_map]; omega) fun p2 H2' n2' t2 g2 => ?_
          rw [← List.map_drop, sg_strs] at g2
          have lt2 : (ds.drop (L.length + 2)).length ≤ 900 := by rw [List.length_drop]; omega
          refine ⟨_, p2, _, rfl, rfl, SqL.of g2, tx_joinOk lt2, ?_⟩
          rw [tx_join]
          refine ⟨_, _, rfl, rfl, ?_, ?_⟩
          · rw [tx_app, tx_len, tx_len]
            exact sm9 (by simp; omega)
          · rw [tx_app, tx_app, List.append_assoc, List.singleton_append, ht]
            exact q _ (sm.trans (t1.trans t2))
theorem ok_step (B : Blt mg) (E : Fn K mg "step" s_step ["state", "letter"]) (D_joined : Def P w K mg base 2 "joined" s_joined ["left", "right"] spJoinS) : Def P w K mg base 3 "step" s_step ["state", "letter"] spStep := E.mk' fun f fd F => by
  refine F.okS sc_step (fun vs H Q E h => ?_) (fun cdv A outer s H vs Q E hr h => ?_)
  · obtain ⟨L, R, c, rfl, _⟩ := h
    rfl
  · obtain ⟨L, R, c, rfl, hc, EE, hl, q⟩ := h
    have l1 := sgp_len L []
    have l2 : (sgp L R.reverse).length = R.length := by rw [sgp_len]; simp
    have sp : Txt.split (tx (stx L R)) (Str.ofString "|") = [tx (sgp [] L), tx (sgp L R.reverse)] := by rw [s_bar]; exact split_bar (no_bar [] L) (no_bar L R.reverse)
    refine ⟨[some (.str (tx (stx L R))), some (.str ⟨#[c]⟩), none, none, none], _, rfl, (L2.QSs.h (qpss_cons (qps_set (i := 2) sc_step.nd rfl (Or.inl rfl) (qpe_bm PySem.F.plainAttrs_str PySem.F.slot_str_split PySem.F.type_str_split mt_split (qpv 0) (qpa_Constant qpe_str qpa_nil)))
      (qpss_cons (qps_set (i := 3) sc_step.nd rfl (Or.inl rfl) (qpe_ix ix_list (qpv 2) qpe_int (fun _ _ => rfl)))
      (qpss_cons (qps_set (i := 4) sc_step.nd rfl (Or.inl rfl) (qpe_ix ix_list (qpv 2) qpe_int (fun _ _ => rfl)))
      (qpss_cons (qps_if (qpt_cmpR op_eq (qpv 1) qpe_str (nomark _))
      (qpss_one (qps_ret (qpe_op op_add_str (qpe_op op_add_str (qpv 3) qpe_str) (qpv 4))))
      qpss_nil)
      (qpss_cons (qps_if (qpt_cmpR op_eq (qpv 1) qpe_str (nomark _))
      (qpss_one (qps_ret (qpe_ifExp (qpt_truth (qpv 4) (fun _ => rfl)) (qpe_op op_add_str (qpe_op op_add_str (qpe_op op_add_str (qpv 3) (qpe_ix ix_str (qpv 4) qpe_int (fun _ _ => rfl))) qpe_str) (qpe_slice sl_str (qpv 4) (qpo_some qpe_int) qpo_none)) qpe_non)))
      qpss_nil)
      (qpss_cons (qps_if (qpt_cmpR op_eq (qpv 1) qpe_str (nomark _))
      (qpss_one (qps_ret (qpe_ifExp (qpt_truth (qpv 3) (fun _ => rfl)) (qpe_op op_add_str (qpe_op op_add_str (qpe_op op_add_str (qpe_slice sl_str (qpv 3) qpo_none (qpo_some (qpe_un un_neg qpe_int))) qpe_str) (qpe_ix ix_str (qpv 3) (qpe_un un_neg qpe_int) (fun _ _ => rfl))) (qpv 4)) qpe_non)))
      qpss_nil)
      (qpss_one (qps_ret (qpe_ifExp (QW.pt (qpw_and (qpt_truth (qpv 3) (fun _ => rfl)) (qpw_and1 (qpt_truth (qpv 4) (fun _ => rfl))))) (qpe_callD D_joined (hr.mono (by decide)) (by rfl) (qpa_Name (qpv 3) (qpa_Name (qpv 4) qpa_nil))) qpe_non)))))))))), ?_⟩
    walk_at "wp"
    refine ⟨rfl, tx (stx L R), _, rfl, rfl, by decide +kernel, by rw [tx_len, stx_len]; omega, fun l nl => ?_⟩
    rw [sp]
    refine ⟨l, _, 0, .str (tx (sgp [] L)), rfl, rfl, SqL.of upd_same, rfl, ?_⟩
    refine ⟨l, _, 1, .str (tx (sgp L R.reverse)), rfl, rfl, SqL.of upd_same, rfl, ?_⟩
    simp only [s_a, s_b, s_c, s_d, s_bar, s_obc, eq_one]
    have sH := (Same.refl H).new (o := .lst (List.map V.str [tx (sgp [] L), tx (sgp L R.reverse)])) nl
    generalize upd H l (.lst (List.map V.str [tx (sgp [] L), tx (sgp L R.reverse)])) = H1 at *
    have qq := q H1 sH
    clear sp nl
    rcases hc with rfl | rfl | rfl | rfl
    · refine ifY rfl ⟨_, _, rfl, rfl, ?_, _, _, rfl, rfl, ?_, ?_⟩
      · rw [tx_len, tx_len]; exact sm9 (by simp; omega)
      · rw [tx_app, tx_len, tx_len]; exact sm9 (by simp; omega)
      · rw [tx_app, tx_app, stx_a EE]; exact qq
    · refine ifN (by decide) (ifY rfl ?_)
      by_cases hR : R = []
      · subst hR
        rw [goF_b0] at qq
        exact ⟨_, tru_tx (by omega), ifN (by simp [sgp]) qq⟩
      · obtain ⟨R', v, rfl⟩ := last_of hR
        rw [goF_b] at qq
        rw [sgp_Rb] at l2 ⊢
        simp at l2 hl
        refine ⟨_, tru_tx (by simp; omega), ifY rfl ⟨_, 0, sgz L v, rfl, rfl, ?_, tx_at (i := 0) rfl, _, _, rfl, rfl, ?_, ?_, ?_⟩⟩
        · rw [tx_len]; exact sm9 (by simp; omega)
        · rw [one_tx, tx_len, tx_len]; exact sm9 (by simp; omega)
        · rw [one_tx, tx_app, tx_len, tx_len]; exact sm9 (by simp; omega)
        · have e := tx_from (cs := sgz L v :: sgp (L ++ [v]) R'.reverse) (p := 1) (by simp)
          refine ⟨_, rfl, ?_, ?_⟩
          · rw [tx_len]; exact sm9 (by simp; omega)
          · have e' : Txt.slice (tx (sgz L v :: sgp (L ++ [v]) R'.reverse)) (some 1) none = tx (sgp (L ++ [v]) R'.reverse) := e
            rw [e']
            refine ⟨_, _, rfl, rfl, ?_, ?_⟩
            · rw [one_tx, tx_app, tx_app, tx_len, tx_len]; exact sm9 (by simp; omega)
            · have f := stx_b (L := L) (Q := R') (v := v)
              rw [one_tx, tx_app, tx_app, tx_app, List.append_assoc (sgp [] L ++ [sgz L v]) [124], List.singleton_append, f]
              exact qq
    · refine ifN (by decide) (ifN (by decide) (ifY rfl ?_))
      by_cases hL : L = []
      · subst hL
        rw [goF_c0] at qq
        exact ⟨_, tru_tx (by simp [sgp]), ifN (by decide) qq⟩
      · obtain ⟨L', v, rfl⟩ := last_of hL
        rw [goF_c] at qq
        have e := tx_last (P := sgp [] L') (c := sgz L' v)
        rw [sgp_Lc] at l1 ⊢
        simp at l1 hl
        refine ⟨_, tru_tx (by simp; omega), ifY (by simp) ⟨_, rfl, ?_, ?_⟩⟩
        · rw [tx_len]; exact sm9 (by simp; omega)
        · rw [e]
          refine ⟨_, _, rfl, rfl, ?_, _, -1, sgz L' v, rfl, rfl, ?_, by rw [tx_cps]; exact atI_last, _, _, rfl, rfl, ?_, _, _, rfl, rfl, ?_, ?_⟩
          · rw [tx_len, tx_len]; exact sm9 (by simp; omega)
          · rw [tx_len]; exact sm9 (by simp; omega)
          · rw [one_tx, tx_app, tx_len, tx_len]; exact sm9 (by simp; omega)
          · rw [one_tx, tx_app, tx_app, tx_len, tx_len]; exact sm9 (by simp; omega)
          · have f := stx_c (P := L') (R := R) (v := v)
            rw [one_tx, tx_app, tx_app, tx_app]
            have g : sgp [] L' ++ [124] ++ [sgz L' v] ++ sgp (L' ++ [v]) R.reverse = sgp [] L' ++ 124 :: (sgz L' v :: sgp (L' ++ [v]) R.reverse) := by simp
            rw [g, f]
            exact qq
    · refine ifN (by decide) (ifN (by decide) (ifN (by decide) ?_))
      by_cases hL : L = []
      · subst hL
        rw [goF_d0] at qq
        exact ⟨_, tru_tx (by simp [sgp]), ifN (by decide) qq⟩
      · by_cases hR : R = []
        · subst hR
          rw [goF_d1] at qq
          obtain ⟨L', v, rfl⟩ := last_of hL
          exact ⟨_, tru_tx (by rw [l1]; omega), ifY (by rw [sgp_Lc]; simp) ⟨_, tru_tx (by omega), ifN (by simp [sgp]) qq⟩⟩
        · obtain ⟨L', x, rfl⟩ := last_of hL
          obtain ⟨R', y, rfl⟩ := last_of hR
          refine ⟨_, tru_tx (by omega), ifY (by rw [sgp_Lc]; simp) ⟨_, tru_tx (by omega), ifY (by rw [sgp_Rb]; rfl) ⟨L', R', x, y, rfl, EE, by simp at hl; omega, fun H' s' => q H' (sH.trans s')⟩⟩⟩
theorem ok_ini_NoCode {R C fi : Addr} {fd : FuncData} {bmB : List Value} {B newId initId : String} (O : IniCls "NoCode" C fi bmB newId mg base) (F0 : ExcBaseFacts B newId initId bmB) (u : UpK K R initId) (hR : mg "RingError" = some (.ref R)) (k : IniK K C "at") (F : Fun K "__init__" "NoCode.__init__" s_ini_NoCode fi fd) :
    FnOk P w K mg base CX0 1 fi fd ["self", "at"] (spIni C "at" okN) := by
  refine F.okS sc_ini_NoCode (fun vs H Q E h => ?_) (fun cdv A outer s H vs Q E hr h => ?_)
  · obtain ⟨e, v, rfl, _⟩ := h
    rfl
  · obtain ⟨e, v, rfl, ⟨n, rfl, hn⟩, he, q⟩ := h
    refine ⟨[some (.ref e), some (.int n)], _, rfl, (L2.QSs.h (qpss_cons (qps_expr (qpe_initB F0 O hR u (by rfl) (qpa_cons (qpv 0) (qpa_cons (qpe_fs qpe_str (qpv 1)) qpa_nil)))) (qpss_one (qps_setE k (qpv 0) (qpv 1))))), ?_⟩
    walk_at "wp"
    exact ⟨by decide +kernel, n, rfl, hn, fun z => ⟨e, _, rfl, he, he, fun dx nd ne => q dx nd ne⟩⟩
theorem ok_vet_code {c_NoCode : Addr} (O_NoCode : DefI P w K mg base 1 "NoCode" c_NoCode "at" okN) (B : Blt mg) (E : Fn K mg "vet_code" s_vet_code ["side", "code"]) (D_begun : Def P w K mg base 1 "begun" s_begun ["side"] spBegun) (D_step : Def P w K mg base 3 "step" s_step ["state", "letter"] spStep) (D_leading_on : Def P w K mg base 1 "leading_on" s_leading_on ["state"] spLead) : DefX P w K mg base 4 "vet_code" s_vet_code ["side", "code"] (spVetX c_NoCode) := E.mkX fun f fd F => by
  refine F.okX sc_vet_code (fun vs H Q E h => ?_) (fun cdv A outer s H vs Q E hr h => ?_)
  · obtain ⟨b, v, d, rfl, _⟩ := h
    rfl
  · obtain ⟨b, v, d, rfl, hd, ha, qE, q⟩ := h
    refine ⟨[some (.str (sd b)), some v, none, none, none], _, rfl, (L2.QSs.h (qpss_cons (qps_if (qpt_nox (QW.pt (qpw_or (qpt_not (qpt_val (qpe_callB call_isi (by rfl) B.isinstance PyProof.Rows.boot_isinstance (qpa_Name (qpv 1) (qpa_Name (qpe_bltn (v := .ty "str") (by rfl) B.str PyProof.Rows.boot_str rfl) qpa_nil))))) (qpw_or1 (qpt_cmpR op_gt (qpe_callB call_len_str (by rfl) B.len PySem.boot_len (qpa_Name (qpv 1) qpa_nil)) (qpe_globI (by rfl) B.MOST_RINGS) (nomark _))))))
      (qpss_one (qps_raiseI raisV_def O_NoCode (hr.mono (by omega)) (by rfl) (qpa_Constant qpe_int qpa_nil)))
      qpss_nil)
      (qpss_cons (qps_nox (qps_set (i := 2) sc_vet_code.nd rfl (Or.inl rfl) (qpe_callD D_begun (hr.mono (by decide)) (by rfl) (qpa_Name (qpv 0) qpa_nil))))
      (qpss_cons (qps_for PassesOwn.leaving rfl (qpi_enum (by rfl) B.enumerate (qpa_Name (qpv 1) qpa_nil)) (qpg_tup (n := 2) rfl (qpgs_cons (qpg_name (i := 3) sc_vet_code.nd rfl (Or.inl rfl)) (qpgs_cons (qpg_name (i := 4) sc_vet_code.nd rfl (Or.inl rfl)) qpgs_nil)))
      (qpss_cons (qps_nox (qps_set (i := 2) sc_vet_code.nd rfl (Or.inl rfl) (qpe_ifExp (qpt_cmpR op_in_str (qpv 4) (qpe_globS (by rfl) B.LETTERS) (by with_unfolding_all rfl)) (qpe_callD D_step (hr.mono (by decide)) (by rfl) (qpa_Name (qpv 2) (qpa_Name (qpv 4) qpa_nil))) qpe_non)))
        (qpss_one (qps_if (qpt_nox (qpt_cmpR op_isN (qpv 2) qpe_non (nomark _)))
        (qpss_one (qps_raiseI raisV_def O_NoCode (hr.mono (by omega)) (by rfl) (qpa_Name (qpv 3) qpa_nil)))
        qpss_nil))))
      (qpss_cons (qps_if (qpt_nox (qpt_cmpR op_ne (qpe_callD D_leading_on (hr.mono (by decide)) (by rfl) (qpa_Name (qpv 2) qpa_nil)) qpe_int (nomark _)))
      (qpss_one (qps_raiseI raisV_def O_NoCode (hr.mono (by omega)) (by rfl) (qpa_Call (qpe_callB call_len_str (by rfl) B.len PySem.boot_len (qpa_Name (qpv 1) qpa_nil)) qpa_nil)))
      qpss_nil)
      (qpss_one (qps_nox (qps_ret qpe_bl)))))))), ?_⟩
    by_cases hs : isS d = true
    case neg =>
      walk_at "wp"
      have e0 : cdRes b d = some 0 := by cases d <;> first | rfl | exact absurd rfl hs
      refine isi_str hd ⟨_, rfl, ifY (by simpa using hs) ⟨_, rfl, ⟨0, rfl, by decide⟩, fun dx nd => qE 0 e0 _ dx ((Same.refl _).new nd) upd_same⟩⟩
    obtain ⟨cs, rfl, rfl⟩ : ∃ cs, v = .str (tx cs) ∧ d = .str (tx cs) := by
      cases hd with
      | str z => exact ⟨z.cps.toList, by rw [← str_tx], by rw [← str_tx]⟩
      | _ => exact absurd hs (fun z => nomatch z)
    walk_at "wp"
    rw [cdRes_tx] at qE q
    have ha' : (∀ c ∈ cs, c < 128) ∧ cs.length ≤ 100 := by
      have : (∀ c ∈ (tx cs).cps.toList, c < 128) ∧ (tx cs).cps.toList.length ≤ 100 := ha
      rwa [tx_cps] at this
    obtain ⟨asc, hl100⟩ := ha'
    refine isi_str (.str _) ⟨true, rfl, ifN (by decide) ?_⟩
    refine ⟨by rw [tx_len]; exact sm9 (by omega), ?_⟩
    by_cases hn : cs.length ≤ 20
    case neg =>
      rw [if_neg hn] at qE
      refine ifY (by rw [tx_len]; omega) ⟨_, rfl, ⟨0, rfl, by decide⟩, fun dx nd => qE 0 rfl _ dx ((Same.refl _).new nd) upd_same⟩
    rw [if_pos hn] at qE q
    refine ifN (by rw [tx_len]; omega) ⟨sdc b, by rw [sdE], ?_⟩
    rw [sd_ends]
    walk_at "wp"
    refine ⟨tx_ascA asc, for_enum (x := tx cs) (fun i σ H2 => ∃ (L R : List Int) (x3 x4 : Option V), σ = [some (.str (sd b)), some (.str (tx cs)), some (.str (tx (stx L R))), x3, x4] ∧ Same H H2 ∧ EE L R ∧ L.length + R.length ≤ 2 * i + 1 ∧ resX (bL b) (bR b) cs 0 = resX L R (cs.drop i) i)
      ⟨bL b, bR b, _, _, rfl, Same.refl _, (by cases b; exact EE.one; exact EE.two), by cases b <;> decide, by rw [List.drop_zero]⟩ ?_ ?_⟩
    · rintro i c σ H2 p hc ⟨L, R, x3, x4, rfl, sm, ee, hl, er⟩ np
      have hc' : cs[i]? = some c := by rw [← hc, tx_get]
      have hi := (List.getElem?_eq_some_iff.mp hc').1
      have c128 := asc c (List.mem_of_getElem? hc')
      have ed : cs.drop i = c :: cs.drop (i + 1) := by rw [List.drop_eq_getElem_cons hi]; congr 1; exact (List.getElem?_eq_some_iff.mp hc').2
      have s2 := sm.trans ((Same.refl _).new (o := .tup [.int i, .str ⟨#[c]⟩]) np)
      rw [ed] at er
      walk_at "wp"
      refine ⟨_, SqT.of upd_same, rfl, ?_⟩
      walk_at "wp"
      rw [in_abcdX c128]
      by_cases lb : ltB c = true
      case neg =>
        have g : goX L R c = none := by unfold goX; rw [if_neg lb]
        rw [resX_no g] at er
        exact ifN (by simpa using lb) ⟨trivial, _, rfl, ⟨i, rfl, by omega⟩, fun dx nd => qE i er _ dx (s2.trans ((Same.refl _).new nd)) upd_same⟩
      have lc := ltB_iff.mp lb
      refine ifY (by rw [lb]; rfl) ⟨L, R, c, rfl, lc, ee, by omega, fun H3 s3 => ?_⟩
      have s4 := s2.trans s3
      cases g : goF L R c with
      | none =>
        rw [resX_no ((goX_lt lc).trans g)] at er
        exact ⟨trivial, ifY rfl ⟨_, rfl, ⟨i, rfl, by omega⟩, fun dx nd => qE i er _ dx (s4.trans ((Same.refl _).new nd)) upd_same⟩⟩
      | some pr =>
        obtain ⟨L', R'⟩ := pr
        rw [resX_go ((goX_lt lc).trans g)] at er
        refine ⟨trivial, ifN (fun z => nomatch z) ⟨L', R', _, _, rfl, s4, ee.go lc g, ?_, er⟩⟩
        have := goF_pairs lc g
        omega
    · rintro σ H2 ⟨L, R, x3, x4, rfl, sm, ee, hl, er⟩
      rw [tx_size] at er hl
      rw [List.drop_length] at er
      have er2 : resX (bL b) (bR b) cs 0 = if L.length + R.length = 1 then none else some cs.length := er
      walk_at "wp"
      refine ⟨L, R, rfl, by omega, ?_⟩
      walk_at "wp"
      by_cases e1 : L.length + R.length = 1
      · rw [if_pos e1] at er2
        exact ifN (fun z => by omega) (q er2 _ sm)
      · rw [if_neg e1] at er2
        refine ifY (by omega) ⟨by rw [tx_len]; exact sm9 (by omega), _, rfl, ⟨cs.length, by rw [tx_len], by omega⟩, fun dx nd => ?_⟩
        rw [tx_len]
        exact qE _ er2 _ dx (sm.trans ((Same.refl _).new nd)) upd_same
theorem in_inw {k : Bool} {c : Nat} (h : isLt c) : (Builtin.Str.occurrences (tx [97, if k = true then 99 else 98]) ⟨#[c]⟩ 0 (tx [97, if k = true then 99 else 98]).length 1).isEmpty = !(isIn k c) := by
  cases k <;> rcases h with rfl | rfl | rfl | rfl <;> decide +kernel
theorem ok_rows_across (B : Blt mg) (E : Fn K mg "rows_across" s_rows_across ["code", "inwards", "begins_here"]) : Def P w K mg base 1 "rows_across" s_rows_across ["code", "inwards", "begins_here"] spRowsA := E.mk' fun f fd F => by
  refine F.okS sc_rows_across (fun vs H Q E h => ?_) (fun cdv A outer s H vs Q E hr h => ?_)
  · obtain ⟨k, b, cs, rfl, _⟩ := h
    rfl
  · obtain ⟨k, b, cs, rfl, lt, hn, ne, q⟩ := h
    refine ⟨[some (.str (tx cs)), some (.str (tx [97, if k then 99 else 98])), some (.bl (decide (k = b))), none, none, none, none, none, none], _, rfl, (L2.QSs.h (qpss_cons (qps_set (i := 3) sc_rows_across.nd rfl (Or.inl rfl) qpe_dnewK)
      (qpss_cut (qps_set (i := 4) sc_rows_across.nd rfl (Or.inl rfl) (qpe_ifExp (qpt_truth (qpv 2) (fun _ => rfl)) (qpe_lst (qpa_Constant qpe_int qpa_nil)) (qpe_lst qpa_nil)))
      (qpss_cut (qps_for PassesOwn.never rfl (qpi_enum (by rfl) B.enumerate (qpa_Name (qpv 0) qpa_nil)) (qpg_tup (n := 2) rfl (qpgs_cons (qpg_name (i := 5) sc_rows_across.nd rfl (Or.inl rfl)) (qpgs_cons (qpg_name (i := 6) sc_rows_across.nd rfl (Or.inl rfl)) qpgs_nil)))
      (qpss_cons (qps_set (i := 7) sc_rows_across.nd rfl (Or.inl rfl) (qpe_op op_add (qpv 5) qpe_int))
        (qpss_one (qps_if (qpt_cmpR op_in_str (qpv 6) (qpv 1) (by with_unfolding_all rfl))
        (qpss_one (qps_expr (qpe_bm PySem.F.plainAttrs_list PySem.F.slot_list_append PySem.F.type_list_append mt_append (qpv 4) (qpa_Name (qpv 7) qpa_nil))))
        (qpss_cons (qps_set (i := 8) sc_rows_across.nd rfl (Or.inl rfl) (qpe_bm0 PySem.F.plainAttrs_list PySem.F.slot_list_pop PySem.F.type_list_pop mt_pop (qpv 4)))
          (qpss_cons (qps_dput (hu_1 hr) (qpv 3) (qpv 7) (qpv 8) rfl)
          (qpss_one (qps_dput (hu_1 hr) (qpv 3) (qpv 8) (qpv 7) rfl))))))))
      (qpss_cons (qps_for PassesOwn.never rfl (qpi_list (qpv 4)) (qpg_name (i := 8) sc_rows_across.nd rfl (Or.inl rfl))
      (qpss_one (qps_dput (hu_1 hr) (qpv 3) (qpv 8) (qpe_op op_add (qpe_callB call_len_str (by rfl) B.len PySem.boot_len (qpa_Name (qpv 0) qpa_nil)) qpe_int) rfl)))
      (qpss_one (qps_ret (qpv 3)))))))), ?_⟩
    walk_at "wp"
    intro d nd
    have sd0 := (Same.refl H).new (o := .dK []) nd
    refine cut_intro (fun σ H' => ∃ wl, σ = [some (.str (tx cs)), some (.str (tx [97, if k then 99 else 98])), some (.bl (decide (k = b))), some (.ref d), some (.ref wl), none, none, none, none] ∧ Same H H' ∧ H wl = none ∧ wl ≠ d ∧ H' d = some (.dK []) ∧ H' wl = some (.lst (natV (st0 k b).1))) ?_ ?_
    · walk_at "wp"
      refine ⟨decide (k = b), rfl, ?_⟩
      have go : ∀ l p, upd H d (.dK []) p = none → l = natV (st0 k b).1 → ∃ wl, ([some (.str (tx cs)), some (.str (tx [97, if k then 99 else 98])), some (.bl (decide (k = b))), some (.ref d), some (.ref p), none, none, none, none] : L2.St) = [some (.str (tx cs)), some (.str (tx [97, if k then 99 else 98])), some (.bl (decide (k = b))), some (.ref d), some (.ref wl), none, none, none, none] ∧ Same H (upd (upd H d (.dK [])) p (.lst l)) ∧ H wl = none ∧ wl ≠ d ∧ upd (upd H d (.dK [])) p (.lst l) d = some (.dK []) ∧ upd (upd H d (.dK [])) p (.lst l) wl = some (.lst (natV (st0 k b).1)) := fun l p np e => by
        have nep : d ≠ p := fun z => by subst z; rw [upd_same] at np; cases np
        exact ⟨p, rfl, sd0.trans ((Same.refl _).new np), sd0.free np, nep.symm, by rw [upd_ne nep, upd_same], by rw [upd_same, e]⟩
      by_cases e : k = b
      · exact ifY (by simp [e]) ⟨(by show 1 ≤ sizeLine; decide), fun p np => go _ p np (by unfold st0; dsimp only; rw [if_pos e]; rfl)⟩
      · exact ifN (by simp [e]) ⟨Nat.zero_le _, fun p np => go _ p np (by unfold st0; dsimp only; rw [if_neg e]; rfl)⟩
    · rintro σ H1 ⟨wl, rfl, s1, nw, nwd, hd1, hw1⟩
      walk_at "wp"
      refine cut_intro (fun σ H' => ∃ (x5 x6 x7 x8 : Option V) (kvs : List (Key × V)), σ = [some (.str (tx cs)), some (.str (tx [97, if k then 99 else 98])), some (.bl (decide (k = b))), some (.ref d), some (.ref wl), x5, x6, x7, x8] ∧ Same H H' ∧ H' d = some (.dK kvs) ∧ kvs.length ≤ 40 ∧ RepM kvs cs.length (stN k b cs cs.length).2 ∧ H' wl = some (.lst (natV (stN k b cs cs.length).1))) ?_ ?_
      · walk_at "wp"
        refine ⟨tx_asc lt, for_enum (x := tx cs) (fun i σ H' => ∃ (x5 x6 x7 x8 : Option V) (kvs : List (Key × V)), σ = [some (.str (tx cs)), some (.str (tx [97, if k then 99 else 98])), some (.bl (decide (k = b))), some (.ref d), some (.ref wl), x5, x6, x7, x8] ∧ Same H H' ∧ H' d = some (.dK kvs) ∧ kvs.length ≤ 2 * i ∧ RepM kvs cs.length (stN k b cs i).2 ∧ (∀ x ∈ (stN k b cs i).1, x ≤ i) ∧ H' wl = some (.lst (natV (stN k b cs i).1)))
          ⟨_, _, _, _, [], rfl, s1, hd1, Nat.zero_le _, RepM.nil, fun x hx => by (unfold stN st0 at hx; dsimp only at hx; split at hx <;> simp at hx; omega), hw1⟩ ?_ ?_⟩
        · rintro i c σ H2 p hc ⟨x5, x6, x7, x8, kvs, rfl, sm, hd2, hk, rp, le, hw2⟩ np
          have hc' : cs[i]? = some c := by rw [← hc, tx_get]
          have hi := (List.getElem?_eq_some_iff.mp hc').1
          have lc := lt c (List.mem_of_getElem? hc')
          have eg : cs.getD i 0 = c := by rw [List.getD_eq_getElem?_getD, hc']; rfl
          have s2 := sm.trans ((Same.refl _).new (o := .tup [.int i, .str ⟨#[c]⟩]) np)
          have dp : d ≠ p := ne_of_none hd2 np
          have wp : wl ≠ p := ne_of_none hw2 np
          have hd3 : upd H2 p (.tup [.int i, .str ⟨#[c]⟩]) d = some (.dK kvs) := by rw [upd_ne dp]; exact hd2
          have hw3 : upd H2 p (.tup [.int i, .str ⟨#[c]⟩]) wl = some (.lst (natV (stN k b cs i).1)) := by rw [upd_ne wp]; exact hw2
          have sl := stN_len k b cs i
          walk_at "wp"
          refine ⟨_, SqT.of upd_same, rfl, ?_⟩
          generalize upd H2 p (.tup [.int i, .str ⟨#[c]⟩]) = H3 at s2 hd3 hw3 ⊢
          walk_at "wp"
          have ei : (i : Int) + 1 = ((i + 1 : Nat) : Int) := by omega
          rw [ei, in_inw lc]
          by_cases hin : isIn k c = true
          · have es : stN k b cs (i + 1) = ((stN k b cs i).1 ++ [i + 1], (stN k b cs i).2) := by show stp k _ _ _ = _; rw [eg, stp_in hin]
            refine ifY (by rw [hin]; rfl) ⟨w_tyL hw3, _, hw3, by rw [natV_len]; exact small1000 (by omega), _, _, _, _, kvs, rfl, s2.new nw, by rw [upd_ne nwd.symm]; exact hd3, by omega, by rw [es]; exact rp, ?_, by rw [upd_same, es, natV_snoc]⟩
            rw [es]
            intro x hx
            rcases List.mem_append.mp hx with h1 | h1
            · have := le x h1; omega
            · simp at h1; omega
          · have hin' : isIn k c = false := by simpa using hin
            obtain ⟨Pq, o, eo⟩ := last_nat (ne i hi (by rw [eg]; exact hin'))
            have es : stN k b cs (i + 1) = (Pq, mset (stN k b cs i).2 (i + 1) o) := by show stp k _ _ _ = _; rw [eg, stp_out hin' eo]
            have ole : o ≤ i := le o (by rw [eo]; simp)
            rw [eo] at hw3
            refine ifN (by rw [hin']; decide) ⟨w_tyL hw3, _, .int o, hw3, natV_last Pq o, ?_⟩
            rw [natV_drop]
            have l1 : kvs.length < sizeLine := small1000 (by omega)
            have l2 : (putK kvs (.inl ((i + 1 : Nat) : Int) : Key) (.int (o : Nat))).length < sizeLine := small1000 (by have := length_putK kvs (.inl ((i + 1 : Nat) : Int) : Key) (.int (o : Nat)); omega)
            have hd4 : upd H3 wl (.lst (natV Pq)) d = some (.dK kvs) := by rw [upd_ne nwd.symm]; exact hd3
            have r1 := rp.put (a := i + 1) (b := o) (by omega)
            have ln1 := length_putK kvs (.inl ((i + 1 : Nat) : Int) : Key) (.int (o : Nat))
            have r2 := r1.put (a := o) (b := i + 1) (by omega)
            rw [mset_eq (by omega)] at r2
            have ln2 := length_putK (putK kvs (.inl ((i + 1 : Nat) : Int) : Key) (.int (o : Nat))) (.inl (o : Int) : Key) (.int ((i + 1 : Nat)))
            refine ⟨_, DPut.k (k := .inl ((i + 1 : Nat) : Int)) hd4 l1, _, DPut.k (k := .inl (o : Int)) upd_same l2, _, _, _, _, _, rfl, ((s2.new nw).new nd).new nd, upd_same, by omega, by rw [es]; exact r2, ?_, ?_⟩
            · rw [es]
              intro x hx
              have := le x (by rw [eo]; exact List.mem_append_left _ hx)
              omega
            · rw [upd_ne nwd, upd_ne nwd, upd_same, es]
        · rintro σ H2 ⟨x5, x6, x7, x8, kvs, rfl, sm, hd2, hk, rp, le, hw2⟩
          rw [tx_size] at hk rp hw2
          exact ⟨_, _, _, _, kvs, rfl, sm, hd2, by omega, rp, hw2⟩
      · rintro σ H2 ⟨x5, x6, x7, x8, kvs, rfl, sm, hd2, hk, rp, hw2⟩
        have sl := stN_len k b cs cs.length
        walk_at "wp"
        have wd : wl ≠ d := nwd
        refine ⟨⟨_, SqL.of hw2⟩, for_list (xs := natV (stN k b cs cs.length).1) (fun j σ H' => ∃ (x8 : Option V) (kvs : List (Key × V)), σ = [some (.str (tx cs)), some (.str (tx [97, if k then 99 else 98])), some (.bl (decide (k = b))), some (.ref d), some (.ref wl), x5, x6, x7, x8] ∧ Same H H' ∧ H' d = some (.dK kvs) ∧ kvs.length ≤ 40 + j ∧ RepM kvs cs.length (finP cs.length (stN k b cs cs.length).1 (stN k b cs cs.length).2 j) ∧ H' wl = some (.lst (natV (stN k b cs cs.length).1)))
          ⟨_, kvs, rfl, sm, hd2, hk, rp.congr fun x _ => by simp [finP], hw2⟩ ?_ ?_ ?_⟩
        · rintro j σ H' _ ⟨_, _, _, _, _, _, _, h⟩
          exact SqL.of h
        · rintro j x σ H3 hx ⟨x8', kvs', rfl, s3, hd3, hk3, rp3, hw3⟩
          obtain ⟨o, ho, rfl⟩ := got_map hx
          have hj := (List.getElem?_eq_some_iff.mp ho).1
          walk_at "wp"
          rw [tx_len]
          refine ⟨sm9 (by omega), _, DPut.k (k := .inl (o : Int)) hd3 (small1000 (by omega)), _, _, rfl, s3.new nd, upd_same, ?_, ?_, by rw [upd_ne wd]; exact hw3⟩
          · have := length_putK kvs' (.inl (o : Int) : Key) (.int (((cs.length : Nat) : Int) + 1)); omega
          · have r1 := rp3.put (a := o) (b := cs.length + 1) (by omega)
            rw [finP_step ho] at r1
            exact r1
        · rintro σ H3 ⟨x8', kvs', rfl, s3, hd3, hk3, rp3, hw3⟩
          walk_at "wp"
          refine q d kvs' H3 s3 nd hd3 (rp3.congr fun x _ => ?_)
          unfold finP fin2 finF
          rw [natV_len, List.take_length]
theorem ok_is_side (G_SIDES : ∃ a, mg "SIDES" = some (.ref a) ∧ ∀ H, SqT K H a (([("l" : Str), "r"] : List Str).map V.str)) (E : Fn K mg "is_side" s_is_side ["thing"]) : Def P w K mg base 1 "is_side" s_is_side ["thing"] spIsSide := E.mk' fun f fd F => by
  refine F.okS sc_is_side (fun vs H Q E h => ?_) (fun cdv A outer s H vs Q E hr h => ?_)
  · obtain ⟨x, d, rfl, _⟩ := h
    rfl
  · obtain ⟨x, d, rfl, hd, pl, q⟩ := h
    refine ⟨[some x], _, rfl, (L2.QSs.h (qpss_one (qps_ret (qpe_cmpR (op_inD (hu_64 hr)) (qpv 0) (qpe_globR (by rfl) G_SIDES) (by with_unfolding_all rfl))))), ?_⟩
    walk_at "wp"
    intro a ha
    refine ⟨d, [.str (Str.ofString "l"), .str (Str.ofString "r")], a, _, hd.rep, rfl, .inr (ha H), .cons (.str _) (.cons (.str _) .nil), pl.lay, by decide +kernel, pl.deep, ?_⟩
    rw [side_any]
    exact q
theorem ok_other_side (E : Fn K mg "other_side" s_other_side ["side"]) : Def P w K mg base 1 "other_side" s_other_side ["side"] spOther := E.mk' fun f fd F => by
  refine F.okS sc_other_side (fun vs H Q E h => ?_) (fun cdv A outer s H vs Q E hr h => ?_)
  · obtain ⟨b, rfl, _⟩ := h
    rfl
  · obtain ⟨b, rfl, q⟩ := h
    refine ⟨[some (.str (sd b))], _, rfl, (L2.QSs.h (qpss_one (qps_ret (qpe_ifExp (qpt_cmpR op_eq (qpv 0) qpe_str (nomark _)) qpe_str qpe_str)))), ?_⟩
    walk_at "wp"
    simp only [sd_l]
    refine ite2 (fun h => ?_) (fun h => ?_)
    · subst h; exact q
    · have e : b = true := by cases b; exact absurd rfl h; rfl
      subst e; exact q
theorem ok_decoded {c_NoCode c_NoMaze : Addr} (O_NoMaze : OwnCls "NoMaze" c_NoMaze [.type "ValueError", .type "Exception", .type "BaseException", .type "object"] "ValueError.__new__" mg base) (B : Blt mg) (E : Fn K mg "decoded" s_decoded ["side", "code"]) (D_is_side : Def P w K mg base 1 "is_side" s_is_side ["thing"] spIsSide) (D_other_side : Def P w K mg base 1 "other_side" s_other_side ["side"] spOther) (D_vet_code : DefX P w K mg base 4 "vet_code" s_vet_code ["side", "code"] (spVetX c_NoCode)) (D_rows_across : Def P w K mg base 1 "rows_across" s_rows_across ["code", "inwards", "begins_here"] spRowsA) : DefX P w K mg base 5 "decoded" s_decoded ["side", "code"] (spDecX c_NoCode c_NoMaze) := E.mkX fun f fd F => by
  refine F.okX sc_decoded (fun vs H Q E h => ?_) (fun cdv A outer s H vs Q E hr h => ?_)
  · obtain ⟨sv, v, ds, d, rfl, _⟩ := h
    rfl
  · obtain ⟨sv, v, ds, d, rfl, hds, pds, hd, asc, qM, qq⟩ := h
    refine ⟨[some sv, some v, none, none, none, none], _, rfl, (L2.QSs.h (qpss_cons (qps_if (qpt_nox (qpt_not (qpt_val (qpe_callD D_is_side (hr.mono (by decide)) (by rfl) (qpa_Name (qpv 0) qpa_nil)))))
      (qpss_one (qps_raise rais_def O_NoMaze PySem.F.excBase_ValueError rfl (by rfl) (qpa_Constant qpe_str qpa_nil)))
      qpss_nil)
      (qpss_cons (qps_expr (qpe_callXP D_vet_code (hr.mono (by decide)) (by rfl) (qpa_Name (qpv 0) (qpa_Name (qpv 1) qpa_nil))))
      (qpss_cut (qps_nox (qps_set (i := 2) sc_decoded.nd rfl (Or.inl rfl) (qpe_disp (qpps_cons qpe_str (qpe_callD D_rows_across (hr.mono (by decide)) (by rfl) (qpa_Name (qpv 1) (qpa_Name (qpe_globS (by rfl) B.LEFT_INWARDS) (qpa_Compare (qpe_cmpR op_eq (qpv 0) qpe_str (nomark _)) qpa_nil)))) (qpps_cons qpe_str (qpe_callD D_rows_across (hr.mono (by decide)) (by rfl) (qpa_Name (qpv 1) (qpa_Name (qpe_globS (by rfl) B.RIGHT_INWARDS) (qpa_Compare (qpe_cmpR op_eq (qpv 0) qpe_str (nomark _)) qpa_nil)))) qpps_nil)) rfl rfl (fun z => nomatch z) (by decide))))
      (qpss_cons (qps_nox (qps_set (i := 3) sc_decoded.nd rfl (Or.inl rfl) (qpe_lst qpa_nil)))
      (qpss_cons (qps_nox (qps_set (i := 4) sc_decoded.nd rfl (Or.inl rfl) (qpv 0)))
      (qpss_cons (qps_nox (qps_set (i := 5) sc_decoded.nd rfl (Or.inl rfl) (qpe_dget (hu_1 hr) (qpe_dget (hu_1 hr) (qpv 2) (qpv 4) (fun _ _ => rfl)) qpe_int (fun _ _ => rfl))))
      (qpss_cons (qps_nox (qps_while PassesOwn.never (qpt_cmpR op_le (qpv 5) (qpe_callB call_len_str (by rfl) B.len PySem.boot_len (qpa_Name (qpv 1) qpa_nil)) (nomark _))
      (qpss_cons (qps_expr (qpe_bm PySem.F.plainAttrs_list PySem.F.slot_list_append PySem.F.type_list_append mt_append (qpv 3) (qpa_Name (qpv 5) qpa_nil)))
        (qpss_cons (qps_set (i := 4) sc_decoded.nd rfl (Or.inl rfl) (qpe_callD D_other_side (hr.mono (by decide)) (by rfl) (qpa_Name (qpv 4) qpa_nil)))
        (qpss_one (qps_set (i := 5) sc_decoded.nd rfl (Or.inl rfl) (qpe_dget (hu_1 hr) (qpe_dget (hu_1 hr) (qpv 2) (qpv 4) (fun _ _ => rfl)) (qpv 5) (fun _ _ => rfl))))))))
      (qpss_one (qps_nox (qps_ret (qpe_tup (qpa_Name (qpv 0) (qpa_Call (qpe_callTy call_tuple_of (by rfl) B.tuple PyProof.Rows.boot_tuple (qpa_Name (qpv 3) qpa_nil)) qpa_nil)))))))))))))), ?_⟩
    by_cases sb : sideD ds = true
    case neg =>
      walk_at "wp"
      refine ⟨_, _, rfl, hds, pds, _, rfl, ifY (by simpa using sb) ⟨by decide, qM (by simpa using sb)⟩⟩
    obtain ⟨b, rfl⟩ := sideD_sd hds sb
    obtain ⟨qE, q⟩ := qq b rfl
    walk_at "wp"
    refine ⟨_, _, rfl, hds, pds, ?_⟩
    rw [sb]
    refine ⟨true, rfl, ifN (by decide) ⟨b, v, d, rfl, hd, asc, qE, fun hr1 H1 s1 => ?_⟩⟩
    obtain ⟨cs, rfl, rfl⟩ : ∃ cs, v = .str (tx cs) ∧ d = .str (tx cs) := by
      cases hd with
      | str z => exact ⟨z.cps.toList, by rw [← str_tx], by rw [← str_tx]⟩
      | _ => cases hr1
    rw [cdRes_tx] at hr1
    have hn : cs.length ≤ 20 := by
      apply Decidable.byContradiction
      intro z
      rw [if_neg z] at hr1
      cases hr1
    have q : ∀ a H', Same H H' → CodeAt H' a b cs → Q (.ref a) H' := fun a H' z1 z2 => q (by rw [cdRes_tx]; exact hr1) cs a H' rfl z1 z2
    rw [if_pos hn] at hr1
    obtain ⟨lt, hr0⟩ := resX_none cs hr1
    obtain ⟨T, t1, t2, VT, eT⟩ := (res_mat lt hr0).ends
    have a1 : Str.ofString "ab" = tx [97, if false = true then 99 else 98] := by decide +kernel
    have a2 : Str.ofString "ac" = tx [97, if true = true then 99 else 98] := by decide +kernel
    refine cut_intro (fun σ H' => ∃ (dd : Addr) (kvs : List (Key × V)) (D : Bool → Addr), σ = [some (.str (sd b)), some (.str (tx cs)), some (.ref dd), none, none, none] ∧ Same H H' ∧ H' dd = some (.dK kvs) ∧ ∀ u, valV kvs (.inr (sd u) : Key) = some (.ref (D u)) ∧ ∃ kk, H' (D u) = some (.dK kk) ∧ RepM kk cs.length (fin2 b cs u)) ?_ ?_
    · walk_at "wp"
      intro dd nd
      refine ⟨false, b, cs, by rw [← a1]; cases b <;> simp [sd_l], lt, hn, stk_ne lt hr0 false, fun d1 k1 H2 s2 n1 h1 r1 => ?_⟩
      walk_at "wp"
      refine ⟨true, b, cs, by rw [← a2]; cases b <;> simp [sd_r], lt, hn, stk_ne lt hr0 true, fun d2 k2 H3 s3 n2 h2 r2 => ?_⟩
      walk_at "wp"
      have f1 : dd ≠ d1 := ne_of_none upd_same n1
      have f2 : dd ≠ d2 := ne_of_none (s2 _ _ upd_same) n2
      refine ⟨s3 _ _ (s2 _ _ upd_same), [((.inr (Str.ofString "l") : Key), V.ref d1), (.inr (Str.ofString "r"), .ref d2)], rfl, (by show 2 ≤ 15; decide), dd, _, fun u => if u then d2 else d1, rfl, (((s1.trans ((Same.refl _).new nd)).trans s2).trans s3).new (s1.free nd), upd_same, fun u => ?_⟩
      cases u
      · exact ⟨rfl, k1, by show upd _ _ _ d1 = _; rw [upd_ne f1.symm]; exact s3 _ _ h1, r1⟩
      · exact ⟨rfl, k2, by show upd _ _ _ d2 = _; rw [upd_ne f2.symm]; exact h2, r2⟩
    · rintro σ H2 ⟨dd, kvs, D, rfl, s2, hdd, hD⟩
      walk_at "wp"
      refine ⟨Nat.zero_le _, fun p np => ?_⟩
      have pd : dd ≠ p := ne_of_none hdd np
      have pD : ∀ u, D u ≠ p := fun u => by obtain ⟨_, kk, h, _⟩ := hD u; exact ne_of_none h np
      have nH : H p = none := s2.free np
      have look : ∀ (H' : Hp) (u : Bool) (r y : Nat), H' dd = some (.dK kvs) → (∀ u, ∃ kk, H' (D u) = some (.dK kk) ∧ RepM kk cs.length (fin2 b cs u)) → r ≤ cs.length → fin2 b cs u r = some y → DGet H' dd (.str (sd u)) (some (.ref (D u))) ∧ DGet H' (D u) (.int (r : Nat)) (some (.int (y : Nat))) := fun H' u r y h1 h2 hr hf => by
        obtain ⟨kk, g1, g2⟩ := h2 u
        have e1 := DGet.k (k := .inr (sd u)) h1
        rw [(hD u).1] at e1
        have e2 := DGet.k (k := .inl (r : Int)) g1
        rw [g2.get r hr, hf] at e2
        exact ⟨e1, e2⟩
      have hd0 : upd H2 p (.lst []) dd = some (.dK kvs) := by rw [upd_ne pd]; exact hdd
      have hD0 : ∀ u, ∃ kk, upd H2 p (.lst []) (D u) = some (.dK kk) ∧ RepM kk cs.length (fin2 b cs u) := fun u => by obtain ⟨_, kk, h, r⟩ := hD u; exact ⟨kk, by rw [upd_ne (pD u)]; exact h, r⟩
      obtain ⟨g1, g2⟩ := look _ b 0 _ hd0 hD0 (Nat.zero_le _) (VT.st 0 (by omega))
      refine ⟨_, g1, _, _, rfl, g2, ?_⟩
      refine ⟨fun m σ H' => ∃ (j : Nat), σ = [some (.str (sd b)), some (.str (tx cs)), some (.ref dd), some (.ref p), some (.str (sd (pth (fin2 b cs) b j).2)), some (.int ((pth (fin2 b cs) b (j + 1)).1 : Nat))] ∧ Same H H' ∧ H' dd = some (.dK kvs) ∧ (∀ u, ∃ kk, H' (D u) = some (.dK kk) ∧ RepM kk cs.length (fin2 b cs u)) ∧ H' p = some (.lst ((ordF (fin2 b cs) b j).map V.int)) ∧ j + 1 ≤ T ∧ m = T - j, ⟨_, 0, rfl, s2.new nH, hd0, hD0, upd_same, t1, rfl⟩, ?_⟩
      rintro m σ H3 ⟨j, rfl, s3, hd3, hD3, hl3, hj, rfl⟩
      walk_at "wp"
      refine ⟨by rw [tx_len]; exact sm9 (by omega), ?_⟩
      rw [tx_len]
      refine ite2 (fun hle => ?_) (fun hgt => ?_)
      · have hjT : j + 1 < T := by
          apply Decidable.byContradiction
          intro z
          have : j + 1 = T := by omega
          rw [this, eT] at hle
          omega
        obtain ⟨g3, g4⟩ := look (upd H3 p (.lst ((ordF (fin2 b cs) b (j + 1)).map V.int))) (pth (fin2 b cs) b (j + 1)).2 _ _ (by rw [upd_ne pd]; exact hd3) (fun u => by obtain ⟨kk, h, r⟩ := hD3 u; exact ⟨kk, by rw [upd_ne (pD u)]; exact h, r⟩) (VT.le (j + 1) hjT) (VT.st (j + 1) hjT)
        refine ⟨fun σ' H' => σ' = [some (.str (sd b)), some (.str (tx cs)), some (.ref dd), some (.ref p), some (.str (sd (pth (fin2 b cs) b (j + 1)).2)), some (.int ((pth (fin2 b cs) b (j + 1 + 1)).1 : Nat))] ∧ Same H H' ∧ H' dd = some (.dK kvs) ∧ (∀ u, ∃ kk, H' (D u) = some (.dK kk) ∧ RepM kk cs.length (fin2 b cs u)) ∧ H' p = some (.lst ((ordF (fin2 b cs) b (j + 1)).map V.int)), fun σ' H' ⟨e, a, c, d, f⟩ => ⟨T - (j + 1), by omega, j + 1, e, a, c, d, f, hjT, rfl⟩, ?_⟩
        have el : (ordF (fin2 b cs) b j).map V.int ++ [V.int ((pth (fin2 b cs) b (j + 1)).1 : Nat)] = (ordF (fin2 b cs) b (j + 1)).map V.int := by rw [ordF_snoc, List.map_append]; rfl
        refine ⟨w_tyL hl3, _, hl3, by rw [List.length_map, ordF_len]; exact small1000 (by omega), ?_⟩
        rw [el]
        refine ⟨_, rfl, ?_⟩
        walk_at "wp"
        rw [← pth_hand]
        exact ⟨_, g3, _, _, rfl, g4, rfl, s3.new nH, by rw [upd_ne pd]; exact hd3, fun u => by obtain ⟨kk, h, r⟩ := hD3 u; exact ⟨kk, by rw [upd_ne (pD u)]; exact h, r⟩, upd_same⟩
      · have ejT : j + 1 = T := by
          apply Decidable.byContradiction
          intro z
          have := VT.le (j + 1) (by omega)
          omega
        refine ⟨_, .inl ⟨SqL.of hl3, fun o no => ⟨(by show 2 ≤ sizeLine; decide), fun r nr => ?_⟩⟩⟩
        have ne : o ≠ r := fun z => by subst z; rw [upd_same] at nr; cases nr
        refine q r _ ((s3.trans ((Same.refl _).new no)).trans ((Same.refl _).new nr)) ⟨o, T, upd_same, t1, t2, VT, eT, ?_⟩
        rw [upd_ne ne, upd_same, ← ejT]
        rfl
theorem ok_cell_at (B : Blt mg) (E : Fn K mg "_law_cell_at" s_cell_at ["_law_script", "_law_k"]) : Def P w K mg base 1 "_law_cell_at" s_cell_at ["_law_script", "_law_k"] (spCellA K) := E.mk' fun f fd F => by
  refine F.okS sc_cell_at (fun vs H Q E h => ?_) (fun cdv A outer s H vs Q E hr h => ?_)
  · obtain ⟨a, ns, k, rfl, _⟩ := h
    rfl
  · obtain ⟨a, ns, k, rfl, hS, q⟩ := h
    refine ⟨[some (.ref a), some (.int k)], _, rfl, (L2.QSs.h (qpss_cons (qps_if (qpt_cmpR op_lt (qpv 1) (qpe_callB call_len_seq (by rfl) B.len PySem.boot_len (qpa_Name (qpv 0) qpa_nil)) (nomark _))
      (qpss_one (qps_ret (qpe_ix ix_list (qpv 0) (qpv 1) (fun _ _ => rfl))))
      qpss_nil)
      (qpss_one (qps_ret (qpe_op op_add (qpe_op op_mul qpe_int (qpv 1)) qpe_int))))), ?_⟩
    walk_at "wp"
    refine ⟨_, .inl hS, ?_⟩
    rw [List.length_map]
    refine ite2 (fun h => ?_) (fun h => ?_)
    · have hk : k < ns.length := by omega
      refine ⟨_, .int (ns.getD k 0), hS, atI_nat ?_, q _⟩
      simp [List.getElem?_map, hk]
    · exact ⟨.inl ⟨by decide, by decide⟩, q _⟩
theorem ok_mixed (E : Fn K mg "_law_mixed" s_mixed ["_law_cell"]) : Def P w K mg base 1 "_law_mixed" s_mixed ["_law_cell"] spMixedN := E.mk' fun f fd F => by
  refine F.okS sc_mixed (fun vs H Q E h => ?_) (fun cdv A outer s H vs Q E hr h => ?_)
  · obtain ⟨n, rfl, _⟩ := h
    rfl
  · obtain ⟨n, rfl, q⟩ := h
    refine ⟨[some (.int n), none], _, rfl, (L2.QSs.h (qpss_cons (qps_set (i := 1) sc_mixed.nd rfl (Or.inl rfl) (qpe_op op_mod (qpe_op op_mul (qpe_op op_add (qpe_op op_mod (qpv 0) (qpe_op op_pow qpe_int qpe_int)) qpe_int) qpe_int) (qpe_op op_sub (qpe_op op_pow qpe_int qpe_int) qpe_int)))
      (qpss_one (qps_ret (qpe_op op_fdiv (qpe_op op_mod (qpe_op op_mul (qpv 1) qpe_int) (qpe_op op_sub (qpe_op op_pow qpe_int qpe_int) qpe_int)) qpe_int))))), ?_⟩
    walk_at "wp"
    refine ⟨⟨by decide, by decide, by decide⟩, by decide, .inr ⟨by decide, by decide⟩, ⟨by decide, by decide, by decide⟩, by decide, .inr ⟨by decide, by decide⟩, ⟨by decide, by decide, by decide⟩, by decide, ⟨by decide, by decide⟩, ?_⟩
    have e : ((2 : Int) ^ Int.toNat 61 - 1) = 2305843009213693951 := by decide
    rw [e]
    refine q _ ?_ ?_ <;> omega
theorem ok_rest_of (E : Fn K mg "_law_rest_of" s_rest_of ["_law_cell"]) (D_mixed : Def P w K mg base 1 "_law_mixed" s_mixed ["_law_cell"] spMixedN) : Def P w K mg base 2 "_law_rest_of" s_rest_of ["_law_cell"] spRestN := E.mk' fun f fd F => by
  refine F.okS sc_rest_of (fun vs H Q E h => ?_) (fun cdv A outer s H vs Q E hr h => ?_)
  · obtain ⟨n, rfl, _⟩ := h
    rfl
  · obtain ⟨n, rfl, q⟩ := h
    refine ⟨[some (.int n), none], _, rfl, (L2.QSs.h (qpss_cons (qps_if (qpt_cmpR op_eq (qpe_op op_mod (qpv 0) qpe_int) qpe_int (nomark _))
      (qpss_one (qps_ret (qpe_callD D_mixed (hr.mono (by decide)) (by rfl) (qpa_BinOp (qpe_op op_fdiv (qpv 0) qpe_int) qpa_nil))))
      qpss_nil)
      (qpss_cons (qps_set (i := 1) sc_rest_of.nd rfl (Or.inl rfl) qpe_int)
      (qpss_cons (qps_while PassesOwn.never (qpt_cmpR op_le (qpv 1) (qpe_op op_fdiv (qpv 0) qpe_int) (nomark _))
      (qpss_one (qps_set (i := 1) sc_rest_of.nd rfl (Or.inl rfl) (qpe_op op_mul qpe_int (qpv 1)))))
      (qpss_one (qps_ret (qpe_op op_add (qpe_op op_fdiv (qpv 0) qpe_int) (qpe_op op_mul (qpv 1) (qpe_callD D_mixed (hr.mono (by decide)) (by rfl) (qpa_BinOp (qpe_op op_fdiv (qpv 0) qpe_int) qpa_nil)))))))))), ?_⟩
    walk_at "wp"
    refine ⟨by decide, ite2 (fun h => ⟨⟨by decide, by decide⟩, _, rfl, fun m _ _ => q m⟩) (fun h => ?_)⟩
    refine ⟨fun m σ H3 => ∃ t : Int, σ = [some (.int n), some (.int t)] ∧ 1 ≤ t ∧ m = (n / 2 + 1 - t).toNat ∧ H3 = H, ⟨_, 1, rfl, by decide, rfl, rfl⟩, ?_⟩
    rintro m σ H3 ⟨t, rfl, ht, rfl, rfl⟩
    walk_at "wp"
    refine ⟨⟨by decide, by decide⟩, ite2 (fun h => ?_) (fun h => ?_)⟩
    · refine ⟨_, fun _ _ z => z, .inl ⟨by decide, by decide⟩, _, ?_, 4 * t, rfl, by omega, rfl, rfl⟩
      omega
    · refine ⟨⟨by decide, by decide⟩, ⟨by decide, by decide⟩, _, rfl, fun m h1 h2 => ?_⟩
      walk_at "wp"
      exact ⟨.inr ⟨by omega, by omega⟩, q _⟩
theorem comp_rn {H : Hp} {a0 : Addr} {ns : List Int} {lo hi : Int} {Q : VK} (h : H a0 = some (.lst (ns.map V.int))) (hl : ns.length ≤ 900) (q : ∀ p H', Same H H' → H' p = some (.lst ((ns.map (rn lo hi)).map V.int)) → Q (.ref p) H') :
    CompJ (Itl K a0) (gName 0) tNoIf (tOp (rIxL K) (tLst (tCons (tVar 0) (tCons (tVar 1) tNil))) (tCB (fun xs H Q => (∃ i, xs = [V.int i] ∧ Q (V.int i) H) ∨ ∃ k, xs = [V.bl k] ∧ Q (V.int (if k = true then 1 else 0)) H) (tCons (tOp rEq (tVar 0) (tVar 2)) tNil))) Q [none, some (V.int lo), some (V.int hi)] H := by
  refine comp_list (xs := ns.map V.int) (fun i ys σ H' => Same H H' ∧ ys = ((ns.take i).map (rn lo hi)).map V.int ∧ ∃ x0, σ = [x0, some (V.int lo), some (V.int hi)]) ⟨Same.refl _, by simp, _, rfl⟩ ?_ (by rw [List.length_map]; exact sm9 hl) ?_ ?_
  · rintro i ys σ H' ⟨sm, rfl, _⟩
    exact ⟨SqL.of (sm _ _ h), by simp; omega⟩
  · rintro i x ys σ H' N hx ⟨sm, rfl, x0, rfl⟩ hN
    obtain ⟨v, hv, rfl⟩ := got_map hx
    have etk : ns.take (i + 1) = ns.take i ++ [v] := by rw [List.take_add_one, hv]; rfl
    walk_at "wp"
    refine ⟨(by show 2 ≤ sizeLine; decide), fun p np => ⟨_, V.int (rn lo hi v), SqL.of upd_same, ?_, hN _ _ _ ⟨sm.trans ((Same.refl _).new np), ?_, _, rfl⟩⟩⟩
    · unfold rn
      by_cases e : v = hi
      · rw [if_pos e, if_pos e]; rfl
      · rw [if_neg e, if_neg e]; rfl
    · rw [etk]; simp
  · rintro ys σ H' p ⟨sm, rfl, _⟩ np
    have eL : (ns.map V.int).length = ns.length := List.length_map ..
    rw [eL, List.take_length]
    exact q p _ (sm.trans ((Same.refl _).new np)) upd_same
theorem ok_go (B : Blt mg) (E : Fn K mg "_law_go" s_go ["_law_ends", "_law_letter"]) : Def P w K mg base 1 "_law_go" s_go ["_law_ends", "_law_letter"] spGoX := E.mk' fun f fd F => by
  refine F.okS sc_go (fun vs H Q E h => ?_) (fun cdv A outer s H vs Q E hr h => ?_)
  · obtain ⟨a, L, R, c, rfl, _⟩ := h
    rfl
  · obtain ⟨a, L, R, c, rfl, ⟨l, r, ha, hL, hR⟩, EE, hl, q⟩ := h
    have two : (2 : Nat) ≤ sizeLine := by decide
    have one : (1 : Nat) ≤ sizeLine := by decide
    refine ⟨[some (.ref a), some (.str ⟨#[c]⟩), none, none, none, none, none], _, rfl, (L2.QSs.h (qpss_cons (qps_asg (qpv 0) (qpg_tup (n := 2) rfl (qpgs_cons (qpg_name (i := 2) sc_go.nd rfl (Or.inl rfl)) (qpgs_cons (qpg_name (i := 3) sc_go.nd rfl (Or.inl rfl)) qpgs_nil))))
      (qpss_cons (qps_if (qpt_cmpR op_eq (qpv 1) qpe_str (nomark _))
      (qpss_cons (qps_set (i := 4) sc_go.nd rfl (Or.inl rfl) (qpe_op op_add qpe_int (qpe_callB (call_max_l rfl) (by rfl) B.max PyProof.Rows.boot_max (qpa_BinOp (qpe_op op_cat (qpv 2) (qpv 3)) qpa_nil))))
        (qpss_one (qps_ret (qpe_tup (qpa_BinOp (qpe_op op_cat (qpv 2) (qpe_lst (qpa_Name (qpv 4) qpa_nil))) (qpa_BinOp (qpe_op op_cat (qpv 3) (qpe_lst (qpa_Name (qpv 4) qpa_nil))) qpa_nil))))))
      qpss_nil)
      (qpss_cons (qps_if (QW.pt (qpw_and (qpt_cmpR op_eq (qpv 1) qpe_str (nomark _)) (qpw_and1 (qpt_cmpR op_gt (qpe_callB call_len_seq (by rfl) B.len PySem.boot_len (qpa_Name (qpv 3) qpa_nil)) qpe_int (nomark _)))))
      (qpss_one (qps_ret (qpe_tup (qpa_BinOp (qpe_op op_cat (qpv 2) (qpe_slice sl_list (qpv 3) (qpo_some (qpe_un un_neg qpe_int)) qpo_none)) (qpa_Subscript (qpe_slice sl_list (qpv 3) qpo_none (qpo_some (qpe_un un_neg qpe_int))) qpa_nil)))))
      qpss_nil)
      (qpss_cons (qps_if (QW.pt (qpw_and (qpt_cmpR op_eq (qpv 1) qpe_str (nomark _)) (qpw_and1 (qpt_cmpR op_gt (qpe_callB call_len_seq (by rfl) B.len PySem.boot_len (qpa_Name (qpv 2) qpa_nil)) qpe_int (nomark _)))))
      (qpss_one (qps_ret (qpe_tup (qpa_Subscript (qpe_slice sl_list (qpv 2) qpo_none (qpo_some (qpe_un un_neg qpe_int))) (qpa_BinOp (qpe_op op_cat (qpv 3) (qpe_slice sl_list (qpv 2) (qpo_some (qpe_un un_neg qpe_int)) qpo_none)) qpa_nil)))))
      qpss_nil)
      (qpss_cons (qps_if (QW.pt (qpw_or (qpt_cmpR op_ne (qpv 1) qpe_str (nomark _)) (qpw_or (qpt_cmpR op_eq (qpe_callB call_len_seq (by rfl) B.len PySem.boot_len (qpa_Name (qpv 2) qpa_nil)) qpe_int (nomark _)) (qpw_or (qpt_cmpR op_eq (qpe_callB call_len_seq (by rfl) B.len PySem.boot_len (qpa_Name (qpv 3) qpa_nil)) qpe_int (nomark _)) (qpw_or1 (qpt_cmpR op_eq (qpe_ix ix_list (qpv 2) (qpe_un un_neg qpe_int) (fun _ _ => rfl)) (qpe_ix ix_list (qpv 3) (qpe_un un_neg qpe_int) (fun _ _ => rfl)) (nomark _)))))))
      (qpss_one (qps_ret qpe_non))
      qpss_nil)
      (qpss_cons (qps_set (i := 5) sc_go.nd rfl (Or.inr rfl) (qpe_callB (call_min2 rfl) (by rfl) B.min PyProof.Rows.boot_min (qpa_Subscript (qpe_ix ix_list (qpv 2) (qpe_un un_neg qpe_int) (fun _ _ => rfl)) (qpa_Subscript (qpe_ix ix_list (qpv 3) (qpe_un un_neg qpe_int) (fun _ _ => rfl)) qpa_nil))))
      (qpss_cons (qps_set (i := 6) sc_go.nd rfl (Or.inr rfl) (qpe_callB (call_max2 rfl) (by rfl) B.max PyProof.Rows.boot_max (qpa_Subscript (qpe_ix ix_list (qpv 2) (qpe_un un_neg qpe_int) (fun _ _ => rfl)) (qpa_Subscript (qpe_ix ix_list (qpv 3) (qpe_un un_neg qpe_int) (fun _ _ => rfl)) qpa_nil))))
      (qpss_one (qps_ret (qpe_tup (qpa_ListComp (qpe_comp (own := ["_law_end"]) (ns := ["_law_low", "_law_high"]) (caps := [5, 6]) rfl ⟨rfl, by decide +kernel, by decide +kernel, by decide +kernel⟩ (.cons rfl rfl (.inl rfl) (.cons rfl rfl (.inl rfl) .nil)) (qpi_list (qpe_slice sl_list (qpv 2) qpo_none (qpo_some (qpe_un un_neg qpe_int)))) (fun C s H fp pn => (qpg_name (i := 0) (show List.Nodup ((["_law_end"] : List Str) ++ (["_law_low", "_law_high"] : List Str)) by decide +kernel) rfl (Or.inl rfl))) (fun C s H fp pn => qpf_nil) (fun C s H fp pn => (qpe_ix (ix_list' (K := K) rfl) (qpe_lst (qpa_Name (qpv 0) (qpa_Name (qpv 1) qpa_nil))) (qpe_callTy call_int1 (by rfl) B.int PyProof.Rows.boot_int (qpa_Compare (qpe_cmpR op_eq (qpv 0) (qpv 2) (nomark _)) qpa_nil)) (fun _ _ => rfl)))) (qpa_ListComp (qpe_comp (own := ["_law_end"]) (ns := ["_law_low", "_law_high"]) (caps := [5, 6]) rfl ⟨rfl, by decide +kernel, by decide +kernel, by decide +kernel⟩ (.cons rfl rfl (.inl rfl) (.cons rfl rfl (.inl rfl) .nil)) (qpi_list (qpe_slice sl_list (qpv 3) qpo_none (qpo_some (qpe_un un_neg qpe_int)))) (fun C s H fp pn => (qpg_name (i := 0) (show List.Nodup ((["_law_end"] : List Str) ++ (["_law_low", "_law_high"] : List Str)) by decide +kernel) rfl (Or.inl rfl))) (fun C s H fp pn => qpf_nil) (fun C s H fp pn => (qpe_ix (ix_list' (K := K) rfl) (qpe_lst (qpa_Name (qpv 0) (qpa_Name (qpv 1) qpa_nil))) (qpe_callTy call_int1 (by rfl) B.int PyProof.Rows.boot_int (qpa_Compare (qpe_cmpR op_eq (qpv 0) (qpv 2) (nomark _)) qpa_nil)) (fun _ _ => rfl)))) qpa_nil))))))))))))), ?_⟩
    walk_at "wp"
    refine ⟨_, SqT.of ha, rfl, ?_⟩
    walk_at "wp"
    simp only [s_a, s_b, s_c, s_d, eq_one]
    by_cases hc : isLt c
    case neg =>
      rw [goX_no hc] at q
      exact ifN (fun z => hc (.inl z)) (ifN (fun z => hc (.inr (.inl z))) (ifN (fun z => hc (.inr (.inr (.inl z)))) (ifY (fun z => hc (.inr (.inr (.inr z)))) (q _ _ (Same.refl _) rfl))))
    rw [goX_lt hc] at q
    rcases hc with rfl | rfl | rfl | rfl
    · refine ifY rfl (catP hL hR (by simp; omega) fun p1 H1 n1 s1 h1 => ?_)
      rw [← List.map_append] at h1
      have z1 := EE.z1
      have cl := List.count_le_length (a := (0 : Int)) (l := L ++ R.reverse)
      have nn : ∀ x ∈ L ++ R, 0 ≤ x := fun x hx => EE.nn x (by simpa using hx)
      have hpos : 0 < (L ++ R).length := by rw [z1] at cl; simp at cl ⊢; omega
      refine ⟨p1, L ++ R, rfl, SqL.of h1, hpos, fun M hM hmx => ?_⟩
      have eM := mx_eq hM (nn M hM) hmx
      walk_at "wp"
      refine ⟨one, fun p2 n2 => ?_⟩
      have s2 := (Same.refl H1).new (o := .lst [V.int (1 + M)]) n2
      refine catP ((s1.trans s2) _ _ hL) upd_same (by simp; omega) fun p3 H3 n3 s3 h3 => ⟨one, fun p4 n4 => ?_⟩
      have s4 := (Same.refl H3).new (o := .lst [V.int (1 + M)]) n4
      have s04 := s1.trans (s2.trans (s3.trans s4))
      refine catP (s04 _ _ hR) upd_same (by simp; omega) fun p5 H5 n5 s5 h5 => ⟨two, fun b nb => ?_⟩
      have s05 := s04.trans s5
      rw [eM] at h3 h5
      have h3' : H5 p3 = some (.lst ((L ++ [1 + mx (L ++ R)]).map V.int)) := by rw [ints_snoc]; exact (s4.trans s5) _ _ h3
      have h5' : H5 p5 = some (.lst ((R ++ [1 + mx (L ++ R)]).map V.int)) := by rw [ints_snoc]; exact h5
      exact q _ _ (s05.trans ((Same.refl _).new nb)) ⟨b, rfl, EndsAt.new h3' h5' nb⟩
    · refine ifN (by decide) (ifY rfl ⟨_, .inl (SqL.of hR), ?_⟩)
      by_cases hR0 : R = []
      · subst hR0
        rw [goF_b0] at q
        exact ifN (by simp) (ifN (by decide) (ifY (by decide) (q _ _ (Same.refl _) rfl)))
      · obtain ⟨R', v, rfl⟩ := last_of hR0
        rw [goF_b] at q
        have hR' := hR
        rw [ints_snoc] at hR'
        refine ifY (by simp) (slP_end hR' fun p1 H1 n1 s1 h1 => catP (s1 _ _ hL) h1 (by simp; simp at hl; omega) fun p2 H2 n2 s2 h2 => slP_ini ((s1.trans s2) _ _ hR') fun p3 H3 n3 s3 h3 => ⟨two, fun b nb => ?_⟩)
        have h2' : H3 p2 = some (.lst ((L ++ [v]).map V.int)) := by rw [ints_snoc]; exact s3 _ _ h2
        exact q _ _ ((s1.trans (s2.trans s3)).trans ((Same.refl _).new nb)) ⟨b, rfl, EndsAt.new h2' h3 nb⟩
    · refine ifN (by decide) (ifN (by decide) (ifY rfl ⟨_, .inl (SqL.of hL), ?_⟩))
      by_cases hL0 : L = []
      · subst hL0
        rw [goF_c0] at q
        exact ifN (by simp) (ifY (by decide) (q _ _ (Same.refl _) rfl))
      · obtain ⟨L', v, rfl⟩ := last_of hL0
        rw [goF_c] at q
        have hL' := hL
        rw [ints_snoc] at hL'
        refine ifY (by simp) (slP_ini hL' fun p1 H1 n1 s1 h1 => slP_end (s1 _ _ hL') fun p2 H2 n2 s2 h2 => catP ((s1.trans s2) _ _ hR) h2 (by simp; simp at hl; omega) fun p3 H3 n3 s3 h3 => ⟨two, fun b nb => ?_⟩)
        have h3' : H3 p3 = some (.lst ((R ++ [v]).map V.int)) := by rw [ints_snoc]; exact h3
        exact q _ _ ((s1.trans (s2.trans s3)).trans ((Same.refl _).new nb)) ⟨b, rfl, EndsAt.new ((s2.trans s3) _ _ h1) h3' nb⟩
    · refine ifN (by decide) (ifN (by decide) (ifN (by decide) (ifN (by decide) ⟨_, .inl (SqL.of hL), ?_⟩)))
      by_cases hL0 : L = []
      · subst hL0
        rw [goF_d0] at q
        exact ifY rfl (q _ _ (Same.refl _) rfl)
      · obtain ⟨L', x, rfl⟩ := last_of hL0
        refine ifN (by simp; omega) ⟨_, .inl (SqL.of hR), ?_⟩
        by_cases hR0 : R = []
        · subst hR0
          rw [goF_d1] at q
          exact ifY rfl (q _ _ (Same.refl _) rfl)
        · obtain ⟨R', y, rfl⟩ := last_of hR0
          rw [goF_d] at q
          have hL' := hL
          have hR' := hR
          rw [ints_snoc] at hL' hR'
          refine ifN (by simp; omega) ⟨_, _, SqL.of hL', atI_last, _, _, SqL.of hR', atI_last, ?_⟩
          walk_at "wp"
          by_cases exy : x = y
          · rw [if_pos exy] at q
            exact ifY exy (q _ _ (Same.refl _) rfl)
          · rw [if_neg exy] at q
            refine ifN exy ⟨_, _, SqL.of hL', atI_last, _, _, SqL.of hR', atI_last, _, _, rfl, _, _, SqL.of hL', atI_last, _, _, SqL.of hR', atI_last, _, _, rfl, ?_⟩
            have e1 : (if y < x then y else x) = min x y := by rw [Int.min_def]; split <;> split <;> omega
            have e2 : (if y > x then y else x) = max x y := by rw [Int.max_def]; split <;> split <;> omega
            rw [e1, e2]
            walk_at "wp"
            simp at hl
            refine slP_ini hL' fun p1 H1 n1 s1 h1 => ⟨p1, rfl, ⟨_, SqL.of h1⟩, comp_rn h1 (by omega) fun p2 H2 s2 h2 => slP_ini ((s1.trans s2) _ _ hR') fun p3 H3 n3 s3 h3 => ⟨p3, rfl, ⟨_, SqL.of h3⟩, comp_rn h3 (by omega) fun p4 H4 s4 h4 => ⟨two, fun b nb => ?_⟩⟩⟩
            exact q _ _ ((s1.trans (s2.trans (s3.trans s4))).trans ((Same.refl _).new nb)) ⟨b, rfl, EndsAt.new ((s3.trans s4) _ _ h2) h4 nb⟩
theorem ok_at_first (E : Fn K mg "_law_at_first" s_at_first ["_law_side"]) : Def P w K mg base 1 "_law_at_first" s_at_first ["_law_side"] spFirst := E.mk' fun f fd F => by
  refine F.okS sc_at_first (fun vs H Q E h => ?_) (fun cdv A outer s H vs Q E hr h => ?_)
  · obtain ⟨c, rfl, _⟩ := h
    rfl
  · obtain ⟨c, rfl, q⟩ := h
    refine ⟨[some (.str ⟨#[c]⟩)], _, rfl, (L2.QSs.h (qpss_cons (qps_if (qpt_cmpR op_eq (qpv 0) qpe_str (nomark _))
      (qpss_one (qps_ret (qpe_tup (qpa_List (qpe_lst (qpa_Constant qpe_int qpa_nil)) (qpa_List (qpe_lst qpa_nil) qpa_nil)))))
      qpss_nil)
      (qpss_one (qps_ret (qpe_tup (qpa_List (qpe_lst qpa_nil) (qpa_List (qpe_lst (qpa_Constant qpe_int qpa_nil)) qpa_nil))))))), ?_⟩
    walk_at "wp"
    rw [s_l]
    simp only [eq_one]
    unfold sideEnds at q
    refine ite2 (fun h => ?_) (fun h => ?_)
    · rw [if_pos h] at q
      refine ⟨by decide, fun l nl => ⟨Nat.zero_le _, fun r nr => ⟨(by show 2 ≤ sizeLine; decide), fun a na => ?_⟩⟩⟩
      have hl := upd_ne (o := .lst []) (H := upd H l (.lst [V.int 0])) (fun z : l = r => by rw [z, upd_same] at nr; cases nr)
      rw [upd_same] at hl
      exact q a _ ((((Same.refl H).new nl).trans ((Same.refl _).new nr)).trans ((Same.refl _).new na)) (EndsAt.new (L := [0]) (R := []) hl upd_same na)
    · rw [if_neg h] at q
      refine ⟨Nat.zero_le _, fun l nl => ⟨by decide, fun r nr => ⟨(by show 2 ≤ sizeLine; decide), fun a na => ?_⟩⟩⟩
      have hl := upd_ne (o := .lst [V.int 0]) (H := upd H l (.lst [])) (fun z : l = r => by rw [z, upd_same] at nr; cases nr)
      rw [upd_same] at hl
      exact q a _ ((((Same.refl H).new nl).trans ((Same.refl _).new nr)).trans ((Same.refl _).new na)) (EndsAt.new (L := []) (R := [0]) hl upd_same na)
theorem ok_closing (B : Blt mg) (E : Fn K mg "_law_closing" s_closing ["_law_ends"]) : Def P w K mg base 1 "_law_closing" s_closing ["_law_ends"] spClosing := E.mk' fun f fd F => by
  refine F.okS sc_closing (fun vs H Q E h => ?_) (fun cdv A outer s H vs Q E hr h => ?_)
  · obtain ⟨a, L, R, rfl, _⟩ := h
    rfl
  · obtain ⟨a, L, R, rfl, ⟨l, r, ha, hL, hR⟩, ee, h1, h2, q⟩ := h
    refine ⟨[some (.ref a), none, none, none, none], _, rfl, (L2.QSs.h (qpss_cons (qps_set (i := 1) sc_closing.nd rfl (Or.inl rfl) (qpe_op op_cat (qpe_ix ix_tup (qpv 0) qpe_int (fun _ _ => rfl)) (qpe_listrev rfl (by rfl) B.list (by rfl) B.reversed (qpe_ix ix_tup (qpv 0) qpe_int (fun _ _ => rfl)))))
      (qpss_cons (qps_set (i := 2) sc_closing.nd rfl (Or.inl rfl) (qpe_callB call_len_seq (by rfl) B.len PySem.boot_len (qpa_Subscript (qpe_ix ix_tup (qpv 0) qpe_int (fun _ _ => rfl)) qpa_nil)))
      (qpss_cons (qps_set (i := 3) sc_closing.nd rfl (Or.inl rfl) qpe_non)
      (qpss_cons (qps_for PassesOwn.never rfl (qpi_range2 (by rfl) B.range (qpa_Constant qpe_int (qpa_Call (qpe_callB call_len_seq (by rfl) B.len PySem.boot_len (qpa_Name (qpv 1) qpa_nil)) qpa_nil))) (qpg_name (i := 4) sc_closing.nd rfl (Or.inl rfl))
      (qpss_one (qps_if (QW.pt (qpw_and (qpt_cmpR op_ne (qpe_ix ix_list (qpv 1) (qpe_op op_sub (qpv 4) qpe_int) (fun _ _ => rfl)) (qpe_ix ix_list (qpv 1) (qpv 4) (fun _ _ => rfl)) (nomark _)) (qpw_and1 (QW.pt (qpw_or (qpt_cmpR op_isN (qpv 3) qpe_non (nomark _)) (qpw_or1 (qpt_cmpR op_lt (qpe_callB call_abs (by rfl) B.abs PyProof.Rows.boot_abs (qpa_BinOp (qpe_op op_sub (qpv 4) (qpv 2)) qpa_nil)) (qpe_callB call_abs (by rfl) B.abs PyProof.Rows.boot_abs (qpa_BinOp (qpe_op op_sub (qpv 3) (qpv 2)) qpa_nil)) (nomark _))))))))
        (qpss_one (qps_set (i := 3) sc_closing.nd rfl (Or.inl rfl) (qpv 4)))
        qpss_nil)))
      (qpss_cons (qps_if (qpt_cmpR op_eq (qpv 3) (qpv 2) (nomark _))
      (qpss_one (qps_ret qpe_str))
      qpss_nil)
      (qpss_one (qps_ret (qpe_ix ix_list (qpe_lst (qpa_Constant qpe_str (qpa_Constant qpe_str qpa_nil))) (qpe_callTy call_int1 (by rfl) B.int PyProof.Rows.boot_int (qpa_Compare (qpe_cmpR op_lt (qpv 3) (qpv 2) (nomark _)) qpa_nil)) (fun _ _ => rfl)))))))))), ?_⟩
    walk_at "wp"
    have two : (2 : Nat) ≤ sizeLine := by decide
    refine ⟨_, _, SqT.of ha, rfl, _, _, SqT.of ha, rfl, r, _, rfl, hR, by rw [List.length_map]; omega, fun p1 n1 => ?_⟩
    have s1 := (Same.refl H).new (o := .lst (R.map V.int).reverse) n1
    have hL1 := s1 _ _ hL
    refine catP hL1 upd_same (by simp; omega) fun p2 H2 n2 s2 h2' => ?_
    have s3 := s1.trans s2
    have hrow : H2 p2 = some (.lst ((L ++ R.reverse).map V.int)) := by rw [h2', List.map_append, List.map_reverse]
    have wl : (L ++ R.reverse).length = L.length + R.length := by simp
    have h3 : 3 ≤ (L ++ R.reverse).length := ee.three (by omega)
    have th : Th (L ++ R.reverse) := ee.th
    generalize hW : L ++ R.reverse = W at *
    refine ⟨_, _, SqT.of (s3 _ _ ha), rfl, l, _, rfl, .inl (SqL.of (s3 _ _ hL)), p2, _, rfl, .inl (SqL.of hrow), ⟨by decide, by decide, by omega, by rw [List.length_map]; omega⟩, ?_⟩
    rw [List.length_map, List.length_map, show ((W.length : Int) - 1).toNat = W.length - 1 by omega]
    refine for_range (n := W.length - 1) (fun i σ H' => ∃ (v : V) (x4 : Option V), σ = [some (.ref a), some (.ref p2), some (.int (L.length : Nat)), some v, x4] ∧ Same H H' ∧ H' p2 = some (.lst (W.map V.int)) ∧ BestV W L.length (1 + i) v) ⟨_, _, rfl, s3, hrow, .inl ⟨rfl, fun k hk z => by have := z.1; omega⟩⟩ ?_ ?_
    · rintro i σ H3 hi ⟨v, x4, rfl, s4, hr3, bv⟩
      have g1 : W[i]? = some W[i] := List.getElem?_eq_getElem (by omega)
      have g2 : W[i+1]? = some W[i+1] := List.getElem?_eq_getElem (by omega)
      have a1 : atI (W.map V.int) ((1 : Int) + i - 1) = some (.int W[i]) := by rw [show (1 : Int) + i - 1 = ((i : Nat) : Int) by omega]; exact atI_nat (by rw [List.getElem?_map, g1]; rfl)
      have a2 : atI (W.map V.int) ((1 : Int) + i) = some (.int W[i+1]) := by rw [show (1 : Int) + i = ((i + 1 : Nat) : Int) by omega]; exact atI_nat (by rw [List.getElem?_map, g2]; rfl)
      have dE : dB W (1 + i) ↔ W[i] ≠ W[i+1] := by
        unfold dB
        rw [show 1 + i - 1 = i by omega, show 1 + i = i + 1 by omega, g1, g2]
        constructor
        · rintro ⟨_, _, z⟩ e; exact z (by rw [e])
        · intro z; exact ⟨by omega, by omega, fun e => z (Option.some.inj e)⟩
      have keep : ∀ v, BestV W L.length (1 + i) v → ¬ dB W (1 + i) → BestV W L.length (1 + (i + 1)) v := fun v h nd => by
        rcases h with ⟨rfl, h⟩ | ⟨best, rfl, h1, h⟩
        · exact .inl ⟨rfl, fun k hk => by
            by_cases e : k = 1 + i
            · rw [e]; exact nd
            · exact h k (by omega)⟩
        · exact .inr ⟨best, rfl, h1, fun k hk hd => by
            by_cases e : k = 1 + i
            · rw [e] at hd; exact absurd hd nd
            · exact h k (by omega) hd⟩
      walk_at "wp"
      refine ⟨_, _, SqL.of hr3, a1, _, _, SqL.of hr3, a2, ?_⟩
      walk_at "wp"
      have ek : (1 : Int) + i = ((1 + i : Nat) : Int) := by omega
      refine ite2 (fun hne => ⟨trivial, ?_⟩) (fun heq => ⟨v, _, rfl, s4, hr3, keep v bv (fun z => heq (dE.mp z))⟩)
      have hd := dE.mpr hne
      rcases bv with ⟨rfl, h⟩ | ⟨best, rfl, h1', h⟩
      · refine ifY rfl ⟨_, _, rfl, s4, hr3, .inr ⟨1 + i, by rw [ek], hd, fun k hk hk2 => ?_⟩⟩
        by_cases e : k = 1 + i
        · rw [e]; exact Nat.le_refl _
        · exact absurd hk2 (h k (by omega))
      · refine ifN (fun z => nomatch z) ?_
        walk_at "wp"
        refine ite2 (fun hlt => ⟨_, _, rfl, s4, hr3, .inr ⟨1 + i, by rw [ek], hd, fun k hk hk2 => ?_⟩⟩) (fun hge => ⟨_, _, rfl, s4, hr3, .inr ⟨best, rfl, h1', fun k hk hk2 => ?_⟩⟩)
        · by_cases e : k = 1 + i
          · rw [e]; exact Nat.le_refl _
          · have := h k (by omega) hk2
            split at hlt <;> split at hlt <;> omega
        · by_cases e : k = 1 + i
          · subst e
            split at hge <;> split at hge <;> omega
          · exact h k (by omega) hk2
    · rintro σ H3 ⟨v, x4, rfl, s4, hr3, bv⟩
      obtain ⟨best, rfl, bd, bm⟩ : ∃ best : Nat, v = .int best ∧ dB W best ∧ ∀ k, k < W.length → dB W k → ((best : Int) - L.length).natAbs ≤ ((k : Int) - L.length).natAbs := by
        rcases bv with ⟨rfl, h⟩ | ⟨best, rfl, h1, h⟩
        · obtain ⟨k, hk⟩ := has_dB th h3
          exact absurd hk (h k (by have := hk.2.1; omega))
        · exact ⟨best, rfl, h1, fun k hk hd => h k (by omega) hd⟩
      have N : Near W L.length best := ⟨bd, fun k hk => bm k hk.2.1 hk⟩
      walk_at "wp"
      refine ite2 (fun e => ?_) (fun e => ⟨two, fun p np => ⟨_, .str ⟨#[clC L.length best]⟩, SqL.of upd_same, ?_, q best _ (s4.trans ((Same.refl _).new np)) N⟩⟩)
      · have := q best H3 s4 N
        rw [show clC L.length best = 100 by unfold clC; rw [if_pos (by omega)]] at this
        rw [s_d]
        exact this
      · have ne : ¬ best = L.length := fun z => e (by rw [z])
        by_cases c : best < L.length
        · rw [show clC L.length best = 99 by unfold clC; rw [if_neg ne, if_pos c], if_pos (by omega), s_b, s_c]; rfl
        · rw [show clC L.length best = 98 by unfold clC; rw [if_neg ne, if_neg c], if_neg (by omega), s_b, s_c]; rfl
theorem ok_code_by (B : Blt mg) (E : Fn K mg "_law_code_by" s_code_by ["_law_rest", "_law_side", "_law_many"]) (D_at_first : Def P w K mg base 1 "_law_at_first" s_at_first ["_law_side"] spFirst) (D_go : Def P w K mg base 1 "_law_go" s_go ["_law_ends", "_law_letter"] spGo) (D_closing : Def P w K mg base 1 "_law_closing" s_closing ["_law_ends"] spClosing) : Def P w K mg base 2 "_law_code_by" s_code_by ["_law_rest", "_law_side", "_law_many"] spCodeBy := E.mk' fun f fd F => by
  refine F.okS sc_code_by (fun vs H Q E h => ?_) (fun cdv A outer s H vs Q E hr h => ?_)
  · obtain ⟨r, b, m, rfl, _⟩ := h
    rfl
  · obtain ⟨r, b, m, rfl, hm, q⟩ := h
    refine ⟨[some (.int r), some (.str (sd b)), some (.int m), none, none, none], _, rfl, (L2.QSs.h (qpss_cons (qps_set (i := 3) sc_code_by.nd rfl (Or.inl rfl) (qpe_callD D_at_first (hr.mono (by decide)) (by rfl) (qpa_Name (qpv 1) qpa_nil)))
      (qpss_cons (qps_set (i := 4) sc_code_by.nd rfl (Or.inl rfl) qpe_str)
      (qpss_cons (qps_while PassesOwn.never (QW.pt (qpw_or (qpt_cmpR op_lt (qpe_callB call_len_str (by rfl) B.len PySem.boot_len (qpa_Name (qpv 4) qpa_nil)) (qpv 2) (nomark _)) (qpw_or1 (qpt_cmpR op_gt (qpe_callB call_len_seq (by rfl) B.len PySem.boot_len (qpa_BinOp (qpe_op op_cat (qpe_ix ix_tup (qpv 3) qpe_int (fun _ _ => rfl)) (qpe_ix ix_tup (qpv 3) qpe_int (fun _ _ => rfl))) qpa_nil)) qpe_int (nomark _)))))
      (qpss_cons (qps_set (i := 5) sc_code_by.nd rfl (Or.inl rfl) (qpe_ifExp (qpt_cmpR op_ge (qpe_callB call_len_str (by rfl) B.len PySem.boot_len (qpa_Name (qpv 4) qpa_nil)) (qpv 2) (nomark _)) (qpe_callD D_closing (hr.mono (by decide)) (by rfl) (qpa_Name (qpv 3) qpa_nil)) (qpe_ix ix_str qpe_str (qpe_op op_mod (qpv 0) qpe_int) (fun _ _ => rfl))))
        (qpss_cons (qps_if (QW.pt (qpw_and (qpt_cmpR op_lt (qpe_callB call_len_str (by rfl) B.len PySem.boot_len (qpa_Name (qpv 4) qpa_nil)) (qpv 2) (nomark _)) (qpw_and1 (qpt_cmpR op_isN (qpe_callD D_go (hr.mono (by decide)) (by rfl) (qpa_Name (qpv 3) (qpa_Name (qpv 5) qpa_nil))) qpe_non (nomark _)))))
        (qpss_one (qps_set (i := 5) sc_code_by.nd rfl (Or.inl rfl) qpe_str))
        qpss_nil)
        (qpss_cons (qps_set (i := 0) sc_code_by.nd rfl (Or.inl rfl) (qpe_op op_fdiv (qpv 0) qpe_int))
        (qpss_cons (qps_set (i := 3) sc_code_by.nd rfl (Or.inl rfl) (qpe_callD D_go (hr.mono (by decide)) (by rfl) (qpa_Name (qpv 3) (qpa_Name (qpv 5) qpa_nil))))
        (qpss_one (qps_set (i := 4) sc_code_by.nd rfl (Or.inl rfl) (qpe_op op_add_str (qpv 4) (qpv 5)))))))))
      (qpss_one (qps_ret (qpv 4))))))), ?_⟩
    walk_at "wp"
    refine ⟨sdc b, by rw [sdE], fun a0 H1 s1 e0 => ?_⟩
    rw [sd_ends] at e0
    walk_at "wp"
    refine ⟨fun M σ H2 => ∃ (r' : Int) (cs : List Nat) (L R : List Int) (a : Addr) (x5 : Option V), σ = [some (.int r'), some (.str (sd b)), some (.int m), some (.ref a), some (.str (tx cs)), x5] ∧ Same H H2 ∧ EndsAt H2 a L R ∧ EE L R ∧ Lts cs ∧ L.length + R.length ≤ 2 * cs.length + 1 ∧ (cs.length ≤ m ∨ (m ≤ cs.length ∧ cs.length + Pc L R ≤ 20)) ∧ M = 40 - cs.length,
      ⟨_, r, [], bL b, bR b, a0, _, rfl, s1, e0, (by cases b; exact EE.one; exact EE.two), (fun x hx => by cases hx), by cases b <;> decide, .inl (Nat.zero_le _), rfl⟩, ?_⟩
    rintro M σ H2 ⟨r', cs, L, R, a, x5, rfl, s2, ea, ee, lt, hs, hi, rfl⟩
    have hle : cs.length ≤ 20 := by omega
    refine cond_gen (fun k H' => Same H H' ∧ Same H2 H' ∧ (k = true → cs.length < m ∨ 1 < L.length + R.length) ∧ (k = false → m ≤ cs.length ∧ L.length + R.length ≤ 1)) (fun C hC => ?_) ?_
    · obtain ⟨l, r2, ha, hL, hR⟩ := ea
      walk_at "wp"
      rw [tx_len]
      refine ⟨sm9 (by omega), ?_⟩
      refine ite2 (fun h => hC true H2 ⟨s2, Same.refl _, fun _ => .inl (by omega), fun z => nomatch z⟩) (fun h => ?_)
      refine ⟨_, _, SqT.of ha, rfl, _, _, SqT.of ha, rfl, catP hL hR (by rw [List.length_map, List.length_map]; omega) fun p1 H3 n1 s3 h3 => ⟨p1, _, rfl, .inl (SqL.of h3), ?_⟩⟩
      rw [List.length_append, List.length_map, List.length_map]
      refine hC _ H3 ⟨s2.trans s3, s3, fun z => .inr (by have := of_decide_eq_true z; omega), fun z => ⟨by omega, by have := of_decide_eq_false z; omega⟩⟩
    · rintro k H3 ⟨s3, s32, k1, k2⟩
      cases k
      · obtain ⟨h1, h2⟩ := k2 rfl
        walk_at "wp"
        exact q cs H3 s3 lt hle
      · have h1 := k1 rfl
        have ea3 := ea.same s32
        walk_at "wp"
        refine ⟨fun σ' H' => ∃ (r' : Int) (cs' : List Nat) (L R : List Int) (a : Addr) (x5 : Option V), σ' = [some (.int r'), some (.str (sd b)), some (.int m), some (.ref a), some (.str (tx cs')), x5] ∧ Same H H' ∧ EndsAt H' a L R ∧ EE L R ∧ Lts cs' ∧ L.length + R.length ≤ 2 * cs'.length + 1 ∧ (cs'.length ≤ m ∨ (m ≤ cs'.length ∧ cs'.length + Pc L R ≤ 20)) ∧ cs'.length = cs.length + 1, fun σ' H' ⟨r', cs', L, R, a, x5, e1, e2, e3, e4, e5, e6, e7, e8⟩ => ⟨40 - cs'.length, by omega, r', cs', L, R, a, x5, e1, e2, e3, e4, e5, e6, e7, rfl⟩, by rw [tx_len]; exact sm9 (by omega), ?_⟩
        have nxt : ∀ (H4 : Hp) (c : Nat) (L' R' : List Int) (v : V) (x5 : Option V) (r1 : Int), Same H H4 → GoV H4 v (some (L', R')) → isLt c → goF L R c = some (L', R') → (cs.length + 1 ≤ m ∨ (m ≤ cs.length + 1 ∧ cs.length + 1 + Pc L' R' ≤ 20)) → ∃ (r' : Int) (cs' : List Nat) (L R : List Int) (a : Addr) (x5' : Option V), ([some (.int r1), some (.str (sd b)), some (.int m), some v, some (.str (tx cs ++ ⟨#[c]⟩)), x5] : L2.St) = [some (.int r'), some (.str (sd b)), some (.int m), some (.ref a), some (.str (tx cs')), x5'] ∧ Same H H4 ∧ EndsAt H4 a L R ∧ EE L R ∧ Lts cs' ∧ L.length + R.length ≤ 2 * cs'.length + 1 ∧ (cs'.length ≤ m ∨ (m ≤ cs'.length ∧ cs'.length + Pc L R ≤ 20)) ∧ cs'.length = cs.length + 1 := fun H4 c L' R' v x5 r1 z1 z2 z3 z4 z5 => by
          obtain ⟨a', rfl, ea'⟩ := z2
          have := goF_pairs z3 z4
          have el : (cs ++ [c]).length = cs.length + 1 := by simp
          exact ⟨r1, cs ++ [c], L', R', a', x5, by rw [← tx_app]; rfl, z1, ea', ee.go z3 z4, lts_snoc lt z3, by omega, by rw [el]; exact z5, el⟩
        have cd : CDiv r' 4 := ⟨by decide, by decide⟩
        have sl : ∀ c : Nat, (tx cs).length + (⟨#[c]⟩ : Str).length ≤ sizeLine := fun c => by rw [tx_len]; exact sm9 (by show cs.length + 1 ≤ 900; omega)
        rw [tx_len]
        refine ite2 (fun hm1 => ?_) (fun hm1 => ?_)
        · have hs1 : 1 < L.length + R.length := by omega
          refine ⟨a, L, R, rfl, ea3, ee, hs1, by omega, fun best H4 s4 N => ?_⟩
          obtain ⟨L', R', g, ee', pc⟩ := close_go ee hs1 N
          have p20 : cs.length + Pc L R ≤ 20 := by
            rcases hi with h | h
            · have := Pc_le ee; omega
            · exact h.2
          refine ⟨sm9 (by omega), ifN (by omega) ⟨cd, a, L, R, clC L.length best, rfl, ea3.same s4, clC_lt _ _, ee, by omega, fun v H5 s5 gv => ⟨_, _, rfl, rfl, sl _, ?_⟩⟩⟩
          rw [g] at gv
          exact nxt H5 _ L' R' v _ _ ((s3.trans s4).trans s5) gv (clC_lt _ _) g (.inr ⟨by omega, by omega⟩)
        · obtain ⟨c, hc, lc⟩ := abcd_at r'
          refine ⟨by decide, by decide +kernel, c, hc, sm9 (by omega), ifY (by omega) ⟨a, L, R, c, rfl, ea3, lc, ee, by omega, fun v H4 s4 gv => ⟨trivial, ?_⟩⟩⟩
          cases g : goF L R c with
          | none =>
            rw [g] at gv
            refine ifY gv ⟨cd, a, L, R, 97, by rw [s_a]; rfl, ea3.same s4, .inl rfl, ee, by omega, fun v2 H5 s5 gv2 => ?_⟩
            obtain ⟨L', R', ga⟩ := goF_a L R
            rw [ga] at gv2
            rw [s_a, ← tx_len cs]
            exact ⟨sl 97, nxt H5 97 L' R' v2 _ _ ((s3.trans s4).trans s5) gv2 (.inl rfl) ga (.inl (by omega))⟩
          | some pr =>
            obtain ⟨L', R'⟩ := pr
            rw [g] at gv
            obtain ⟨a', rfl, ea'⟩ := gv
            refine ifN (fun z => nomatch z) ⟨cd, a, L, R, c, rfl, ea3.same s4, lc, ee, by omega, fun v2 H5 s5 gv2 => ?_⟩
            rw [g] at gv2
            rw [← tx_len cs]
            exact ⟨sl c, nxt H5 c L' R' v2 _ _ ((s3.trans s4).trans s5) gv2 lc g (.inl (by omega))⟩
theorem ok_wrong_at (B : Blt mg) (E : Fn K mg "_law_wrong_at" s_wrong_at ["_law_side", "_law_code"]) (D_at_first : Def P w K mg base 1 "_law_at_first" s_at_first ["_law_side"] spFirst) (D_go : Def P w K mg base 1 "_law_go" s_go ["_law_ends", "_law_letter"] spGoX) : Def P w K mg base 2 "_law_wrong_at" s_wrong_at ["_law_side", "_law_code"] spWrongAt := E.mk' fun f fd F => by
  refine F.okS sc_wrong_at (fun vs H Q E h => ?_) (fun cdv A outer s H vs Q E hr h => ?_)
  · obtain ⟨b, cs, rfl, _⟩ := h
    rfl
  · obtain ⟨b, cs, rfl, hn, q⟩ := h
    refine ⟨[some (.str (sd b)), some (.str (tx cs)), none, none], _, rfl, (L2.QSs.h (qpss_cons (qps_set (i := 2) sc_wrong_at.nd rfl (Or.inl rfl) (qpe_callD D_at_first (hr.mono (by decide)) (by rfl) (qpa_Name (qpv 0) qpa_nil)))
      (qpss_cons (qps_for PassesOwn.never rfl (qpi_range1 (by rfl) B.range (qpa_Call (qpe_callB call_len_str (by rfl) B.len PySem.boot_len (qpa_Name (qpv 1) qpa_nil)) qpa_nil)) (qpg_name (i := 3) sc_wrong_at.nd rfl (Or.inl rfl))
      (qpss_cons (qps_set (i := 2) sc_wrong_at.nd rfl (Or.inl rfl) (qpe_callD D_go (hr.mono (by decide)) (by rfl) (qpa_Name (qpv 2) (qpa_Subscript (qpe_ix ix_str (qpv 1) (qpv 3) (fun _ _ => rfl)) qpa_nil))))
        (qpss_one (qps_if (qpt_cmpR op_isN (qpv 2) qpe_non (nomark _))
        (qpss_one (qps_ret (qpv 3)))
        qpss_nil))))
      (qpss_cons (qps_if (qpt_cmpR op_eq (qpe_callB call_len_seq (by rfl) B.len PySem.boot_len (qpa_BinOp (qpe_op op_cat (qpe_ix ix_tup (qpv 2) qpe_int (fun _ _ => rfl)) (qpe_ix ix_tup (qpv 2) qpe_int (fun _ _ => rfl))) qpa_nil)) qpe_int (nomark _))
      (qpss_one (qps_ret qpe_non))
      qpss_nil)
      (qpss_one (qps_ret (qpe_callB call_len_str (by rfl) B.len PySem.boot_len (qpa_Name (qpv 1) qpa_nil)))))))), ?_⟩
    walk_at "wp"
    refine ⟨sdc b, by rw [sdE], fun a0 H1 s1 e0 => ?_⟩
    rw [sd_ends] at e0
    walk_at "wp"
    rw [tx_len]
    refine ⟨sm9 (by omega), by omega, by omega, ?_⟩
    rw [show ((cs.length : Nat) : Int).toNat = cs.length by omega]
    refine for_range (n := cs.length) (fun i σ H2 => ∃ (L R : List Int) (a : Addr) (x3 : Option V), σ = [some (.str (sd b)), some (.str (tx cs)), some (.ref a), x3] ∧ Same H H2 ∧ EndsAt H2 a L R ∧ EE L R ∧ L.length + R.length ≤ 2 * i + 1 ∧ resX (bL b) (bR b) cs 0 = resX L R (cs.drop i) i)
      ⟨bL b, bR b, a0, _, rfl, s1, e0, (by cases b; exact EE.one; exact EE.two), by cases b <;> decide, by rw [List.drop_zero]⟩ ?_ ?_
    · rintro i σ H2 hi ⟨L, R, a, x3, rfl, s2, ea, ee, hl, er⟩
      have hc : cs[i]? = some cs[i] := List.getElem?_eq_getElem hi
      have ed : cs.drop i = cs[i] :: cs.drop (i + 1) := List.drop_eq_getElem_cons hi
      rw [ed] at er
      walk_at "wp"
      refine ⟨by rw [tx_len]; exact sm9 (by omega), cs[i], by rw [tx_cps, Int.zero_add]; exact atI_nat hc, a, L, R, cs[i], rfl, ea, ee, by omega, fun v H3 s3 gv => ?_⟩
      cases g : goX L R cs[i] with
      | none =>
        rw [g] at gv
        rw [resX_no g] at er
        refine ⟨trivial, ifY gv ?_⟩
        have := q _ (s2.trans s3)
        rw [er] at this
        rw [Int.zero_add]
        exact this
      | some pr =>
        obtain ⟨L', R'⟩ := pr
        rw [g] at gv
        rw [resX_go g] at er
        obtain ⟨lc, g2⟩ := goX_some g
        obtain ⟨a', rfl, ea'⟩ := gv
        refine ⟨trivial, ifN (fun z => nomatch z) ⟨L', R', a', _, rfl, s2.trans s3, ea', ee.go lc g2, ?_, er⟩⟩
        have := goF_pairs lc g2
        omega
    · rintro σ H2 ⟨L, R, a, x3, rfl, s2, ea, ee, hl, er⟩
      rw [List.drop_length] at er
      have er2 : resX (bL b) (bR b) cs 0 = if L.length + R.length = 1 then none else some cs.length := er
      obtain ⟨l, r, ha, hL, hR⟩ := ea
      walk_at "wp"
      refine ⟨_, _, SqT.of ha, rfl, _, _, SqT.of ha, rfl, catP hL hR (by rw [List.length_map, List.length_map]; omega) fun p1 H3 n1 s3 h3 => ⟨p1, _, rfl, .inl (SqL.of h3), ?_⟩⟩
      rw [List.length_append, List.length_map, List.length_map, tx_len]
      have qq := q _ (s2.trans s3)
      rw [er2] at qq
      by_cases e1 : L.length + R.length = 1
      · rw [if_pos e1] at qq
        exact ifY (by omega) qq
      · rw [if_neg e1] at qq
        exact ifN (by omega) ⟨sm9 (by omega), qq⟩
theorem ok_spoiled (B : Blt mg) (E : Fn K mg "_law_spoiled" s_spoiled ["_law_cell", "_law_code"]) : Def P w K mg base 1 "_law_spoiled" s_spoiled ["_law_cell", "_law_code"] spSpoil := E.mk' fun f fd F => by
  refine F.okS sc_spoiled (fun vs H Q E h => ?_) (fun cdv A outer s H vs Q E hr h => ?_)
  · obtain ⟨c, cs, rfl, _⟩ := h
    rfl
  · obtain ⟨c, cs, rfl, lt, hn, q⟩ := h
    refine ⟨[some (.int c), some (.str (tx cs)), none, none], _, rfl, (L2.QSs.h (qpss_cons (qps_set (i := 2) sc_spoiled.nd rfl (Or.inl rfl) (qpe_op op_mod (qpe_op op_fdiv (qpv 0) qpe_int) (qpe_op op_add (qpe_callB call_len_str (by rfl) B.len PySem.boot_len (qpa_Name (qpv 1) qpa_nil)) qpe_int)))
      (qpss_cons (qps_set (i := 3) sc_spoiled.nd rfl (Or.inl rfl) qpe_str)
      (qpss_cons (qps_if (qpt_cmpR op_eq (qpe_op op_mod (qpv 0) qpe_int) qpe_int (nomark _))
      (qpss_one (qps_ret (qpe_ix ix_list (qpe_lst (qpa_Constant qpe_non (qpa_Constant qpe_int (qpa_Constant qpe_bl (qpa_List (qpe_lst (qpa_Constant qpe_str qpa_nil)) (qpa_Tuple (qpe_tup (qpa_Constant qpe_str (qpa_Constant qpe_str qpa_nil))) (qpa_List (qpe_lst qpa_nil) qpa_nil))))))) (qpe_op op_mod (qpe_op op_fdiv (qpv 0) qpe_int) qpe_int) (fun _ _ => rfl))))
      qpss_nil)
      (qpss_cons (qps_if (qpt_cmpR op_eq (qpe_op op_mod (qpv 0) qpe_int) qpe_int (nomark _))
      (qpss_one (qps_ret (qpe_op op_add_str (qpe_op op_add_str (qpv 1) (qpe_op op_repT qpe_str qpe_int)) (qpe_ix ix_str qpe_str (qpe_op op_mod (qpe_op op_fdiv (qpv 0) qpe_int) qpe_int) (fun _ _ => rfl)))))
      qpss_nil)
      (qpss_cons (qps_if (qpt_cmpR op_eq (qpe_op op_mod (qpv 0) qpe_int) qpe_int (nomark _))
      (qpss_one (qps_ret (qpe_op op_add_str (qpv 1) qpe_str)))
      qpss_nil)
      (qpss_one (qps_ret (qpe_op op_add_str (qpe_op op_add_str (qpe_slice sl_str (qpv 1) qpo_none (qpo_some (qpv 2))) (qpe_ix ix_str (qpv 3) (qpe_op op_mod (qpe_op op_fdiv (qpv 0) qpe_int) qpe_int) (fun _ _ => rfl))) (qpe_slice sl_str (qpv 1) (qpo_some (qpv 2)) qpo_none)))))))))), ?_⟩
    walk_at "wp"
    have cd : ∀ x : Int, CDiv x 8 := fun x => ⟨by decide, by decide⟩
    have asc : ∀ x ∈ cs, x < 128 := fun x hx => by rcases lt x hx with h | h | h | h <;> omega
    have out : ∀ (ds : List Nat) (H' : Hp), Same H H' → (∀ x ∈ ds, x < 128) → ds.length ≤ 100 → Q (.str (tx ds)) H' := fun ds H' s1 h1 h2 => q _ _ H' s1 (.str _) (ascD_tx h1 h2) ⟨lay_tx h1, Nat.zero_le _⟩
    rw [tx_len]
    refine ⟨cd _, sm9 (by omega), by omega, by decide, ite2 (fun _ => ?_) (fun _ => ⟨by decide, ite2 (fun _ => ?_) (fun _ => ⟨by decide, ite2 (fun _ => ?_) (fun _ => ?_)⟩)⟩)⟩
    · refine ⟨by decide, fun p1 n1 => ⟨by decide, fun p2 n2 => ⟨by decide, fun p3 n3 => ⟨(by show 6 ≤ sizeLine; decide), fun p4 n4 => ⟨cd _, by decide, ?_⟩⟩⟩⟩⟩
      have i0 : 0 ≤ c / 8 % 6 := Int.emod_nonneg _ (by decide)
      have i1 : c / 8 % 6 < 6 := Int.emod_lt_of_pos _ (by decide)
      have s1 := (Same.refl H).new (o := .lst [V.str (Str.ofString "a")]) n1
      have h1 : upd H p1 (.lst [V.str (Str.ofString "a")]) p1 = some (.lst [V.str (Str.ofString "a")]) := upd_same
      generalize upd H p1 (.lst [V.str (Str.ofString "a")]) = H1 at s1 h1 n2 n3 n4 ⊢
      have s2 := (Same.refl H1).new (o := .tup [V.str (Str.ofString "a"), V.str (Str.ofString "d")]) n2
      have h2 : upd H1 p2 (.tup [V.str (Str.ofString "a"), V.str (Str.ofString "d")]) p2 = some (.tup [V.str (Str.ofString "a"), V.str (Str.ofString "d")]) := upd_same
      generalize upd H1 p2 (.tup [V.str (Str.ofString "a"), V.str (Str.ofString "d")]) = H2 at s2 h2 n3 n4 ⊢
      have s3 := (Same.refl H2).new (o := .lst []) n3
      have h3 : upd H2 p3 (.lst []) p3 = some (.lst []) := upd_same
      generalize upd H2 p3 (.lst []) = H3 at s3 h3 n4 ⊢
      have s4 := (Same.refl H3).new (o := .lst [V.non, V.int 3, V.bl true, V.ref p1, V.ref p2, V.ref p3]) n4
      have h4 : upd H3 p4 (.lst [V.non, V.int 3, V.bl true, V.ref p1, V.ref p2, V.ref p3]) p4 = some (.lst [V.non, V.int 3, V.bl true, V.ref p1, V.ref p2, V.ref p3]) := upd_same
      generalize upd H3 p4 (.lst [V.non, V.int 3, V.bl true, V.ref p1, V.ref p2, V.ref p3]) = H4 at s4 h4 ⊢
      obtain ⟨v, hv, d, hd, ha, hp⟩ := atI_all (xs := [V.non, V.int 3, V.bl true, V.ref p1, V.ref p2, V.ref p3]) (i := c / 8 % 6) (P := fun v => ∃ d, Dat H4 v d ∧ ascD d ∧ Pl d 60) i0 i1 (by
        intro x hx
        simp only [List.mem_cons, List.not_mem_nil, or_false] at hx
        rcases hx with rfl | rfl | rfl | rfl | rfl | rfl
        · exact ⟨_, .non, trivial, rfl, Nat.zero_le _⟩
        · exact ⟨_, .int _, trivial, rfl, Nat.zero_le _⟩
        · exact ⟨_, .bl _, trivial, rfl, Nat.zero_le _⟩
        · exact ⟨_, .lst (s4 _ _ (s3 _ _ (s2 _ _ h1))) (.cons (.str _) .nil), trivial, by decide +kernel, by decide⟩
        · exact ⟨_, .tup (s4 _ _ (s3 _ _ h2)) (.cons (.str _) (.cons (.str _) .nil)), trivial, by decide +kernel, by decide⟩
        · exact ⟨_, .lst (s4 _ _ h3) .nil, trivial, by decide +kernel, by decide⟩)
      exact ⟨_, v, SqL.of h4, hv, q v d _ (s1.trans (s2.trans (s3.trans s4))) hd ha hp⟩
    · obtain ⟨x, hx, lx⟩ := abcd_at (c / 8)
      have e1 : Str.ofString "ad" = tx [97, 100] := by decide +kernel
      have rl := rep_len [97, 100] 10
      refine ⟨Str.ofString "ad", 10, rfl, rfl, by decide, by decide +kernel, by decide +kernel, by decide +kernel, by decide +kernel, _, _, rfl, rfl, ?_, cd _, by decide, by decide +kernel, x, hx, ?_, ?_⟩
      · rw [e1, repT_tx, tx_len, tx_len]; exact sm9 (by simp at rl ⊢; omega)
      · rw [e1, repT_tx, tx_app, tx_len]; exact sm9 (by show _ + 1 ≤ 900; simp at rl ⊢; omega)
      · rw [e1, repT_tx, tx_app]
        have := out ((cs ++ (List.replicate 10 [97, 100]).flatten) ++ [x]) H (Same.refl _) ?_ (by simp at rl ⊢; omega)
        · rw [← tx_app] at this; exact this
        · intro y hy
          rcases List.mem_append.mp hy with h | h
          · rcases List.mem_append.mp h with h | h
            · exact asc y h
            · simp at h; omega
          · simp at h; subst h; rcases lx with h | h | h | h <;> omega
    · have e1 : Str.ofString "a" = tx [97] := by decide +kernel
      rw [e1, tx_len]
      refine ⟨sm9 (by simp; omega), ?_⟩
      rw [tx_app]
      refine out _ H (Same.refl _) (fun y hy => ?_) (by simp; omega)
      rcases List.mem_append.mp hy with h | h
      · exact asc y h
      · simp at h; subst h; decide
    · have i0 : 0 ≤ c / 8 % 13 := Int.emod_nonneg _ (by decide)
      have i1 : c / 8 % 13 < 13 := Int.emod_lt_of_pos _ (by decide)
      have k0 : 0 ≤ c / 8 % ((cs.length : Int) + 1) := Int.emod_nonneg _ (by omega)
      have k1 : c / 8 % ((cs.length : Int) + 1) < (cs.length : Int) + 1 := Int.emod_lt_of_pos _ (by omega)
      obtain ⟨n, hk⟩ := Int.eq_ofNat_of_zero_le k0
      rw [hk] at k1 ⊢
      have hnl : n ≤ cs.length := by omega
      obtain ⟨x, hx, lx⟩ := atI_allG (xs := (Str.ofString "eABCD ab|*(1-").cps.toList) (i := c / 8 % 13) (P := fun x => x < 128) i0 (by show _ < (((Str.ofString "eABCD ab|*(1-").cps.toList.length : Nat) : Int); rw [show (Str.ofString "eABCD ab|*(1-").cps.toList.length = 13 by decide +kernel]; exact i1) (by decide +kernel)
      rw [tx_to hnl, tx_from hnl]
      have e0 : (⟨#[x]⟩ : Str) = tx [x] := rfl
      refine ⟨sm9 (by omega), cd _, by decide, by decide +kernel, x, hx, ?_, sm9 (by omega), ?_, ?_⟩
      · rw [tx_len]; exact sm9 (by show _ + 1 ≤ 900; simp; omega)
      · rw [e0, tx_app, tx_len, tx_len]; exact sm9 (by simp; omega)
      · rw [e0, tx_app, tx_app]
        refine out _ H (Same.refl _) (fun y hy => ?_) (by simp; omega)
        rcases List.mem_append.mp hy with h | h
        · rcases List.mem_append.mp h with h | h
          · exact asc y (List.mem_of_mem_take h)
          · simp at h; subst h; exact lx
        · exact asc y (List.mem_of_mem_drop h)
theorem ok_kinds {c_NoMaze c_Crossed c_NoWord c_NoDrawing c_NoBow c_NoRound c_NoCode c_NoNumber c_NoName c_NoRow c_RingError : Addr} (B : Blt mg) (C_RingError : mg "RingError" = some (.ref c_RingError)) (C_NoMaze : mg "NoMaze" = some (.ref c_NoMaze)) (C_Crossed : mg "Crossed" = some (.ref c_Crossed)) (C_NoWord : mg "NoWord" = some (.ref c_NoWord)) (C_NoDrawing : mg "NoDrawing" = some (.ref c_NoDrawing)) (C_NoBow : mg "NoBow" = some (.ref c_NoBow))
    (C_NoRound : mg "NoRound" = some (.ref c_NoRound)) (C_NoCode : mg "NoCode" = some (.ref c_NoCode)) (C_NoNumber : mg "NoNumber" = some (.ref c_NoNumber)) (C_NoName : mg "NoName" = some (.ref c_NoName)) (C_NoRow : mg "NoRow" = some (.ref c_NoRow)) (XMM : PySem.W.exmOne K (.ref c_NoMaze) (.ref c_RingError) = some true) (XMC : PySem.W.exmOne K (.ref c_NoCode) (.ref c_RingError) = some true) (KM : ExcK K c_NoMaze) (KC : ExcKD K c_NoCode) (IA : ExcA K c_NoCode "at")
    (JM : JstD K c_NoMaze [c_NoMaze, c_Crossed, c_NoWord, c_NoDrawing, c_NoBow, c_NoRound, c_NoCode, c_NoNumber, c_NoName, c_NoRow] 0) (JC : JstD K c_NoCode [c_NoMaze, c_Crossed, c_NoWord, c_NoDrawing, c_NoBow, c_NoRound, c_NoCode, c_NoNumber, c_NoName, c_NoRow] 6)
    (E : Fn K mg "_law_kinds" s_kinds ["_law_side", "_law_code"]) (D_decoded : DefX P w K mg base 5 "decoded" s_decoded ["side", "code"] (spDecX c_NoCode c_NoMaze)) : Def P w K mg base 6 "_law_kinds" s_kinds ["_law_side", "_law_code"] spKinds := E.mk' fun f fd F => by
  refine F.okS sc_kinds (fun vs H Q E h => ?_) (fun cdv A outer s H vs Q E hr h => ?_)
  · obtain ⟨sv, v, ds, d, rfl, _⟩ := h
    rfl
  · obtain ⟨sv, v, ds, d, rfl, hds, pds, hd, asc, qM, qC⟩ := h
    have two : (2 : Nat) ≤ sizeLine := by decide
    have eight : (8 : Nat) ≤ sizeLine := by decide
    have oth : ∀ {C : Addr} {n : Nat}, JstD K C [c_NoMaze, c_Crossed, c_NoWord, c_NoDrawing, c_NoBow, c_NoRound, c_NoCode, c_NoNumber, c_NoName, c_NoRow] n → (n = 0 ∨ n = 6) → ∀ c ∈ [c_Crossed, c_NoBow, c_NoDrawing, c_NoName, c_NoNumber, c_NoRound, c_NoRow, c_NoWord], PySem.W.kitOne K (.ref C) (.ref c) = some false := by
      intro C n J hn c hc
      have one : ∀ j, j ≠ n → ∀ d, [c_NoMaze, c_Crossed, c_NoWord, c_NoDrawing, c_NoBow, c_NoRound, c_NoCode, c_NoNumber, c_NoName, c_NoRow][j]? = some d → PySem.W.kitOne K (.ref C) (.ref d) = some false := fun j hj d hd => by rw [J.kit j d hd, decide_eq_false hj]
      simp only [List.mem_cons, List.not_mem_nil, or_false] at hc
      rcases hc with h | h | h | h | h | h | h | h <;> subst h
      · exact one 1 (by omega) _ rfl
      · exact one 4 (by omega) _ rfl
      · exact one 3 (by omega) _ rfl
      · exact one 8 (by omega) _ rfl
      · exact one 7 (by omega) _ rfl
      · exact one 5 (by omega) _ rfl
      · exact one 9 (by omega) _ rfl
      · exact one 2 (by omega) _ rfl
    refine ⟨[some sv, some v, none, none], _, rfl, (L2.QSs.h (qpss_cons (qps_tryD D_decoded rfl rfl (hr.mono (by decide)) (by rfl) (qpa_Name (qpv 0) (qpa_Name (qpv 1) qpa_nil)) (by rfl) C_RingError sc_kinds.nd (i := 2) rfl rfl (fun a => (qpss_cons (qps_set (i := 3) sc_kinds.nd rfl (Or.inl rfl) (qpe_callB (call_isiDT' (K := K) rfl) (by rfl) B.isinstance PyProof.Rows.boot_isinstance (qpa_Name (qpv 2) (qpa_Tuple (qpe_tup (qpa_Name (qpe_globC (by rfl) C_Crossed) (qpa_Name (qpe_globC (by rfl) C_NoBow) (qpa_Name (qpe_globC (by rfl) C_NoDrawing) (qpa_Name (qpe_globC (by rfl) C_NoName) (qpa_Name (qpe_globC (by rfl) C_NoNumber) (qpa_Name (qpe_globC (by rfl) C_NoRound) (qpa_Name (qpe_globC (by rfl) C_NoRow) (qpa_Name (qpe_globC (by rfl) C_NoWord) qpa_nil))))))))) qpa_nil))))
        (qpss_cons (qps_if (QW.pt (qpw_or (qpt_val (qpv 3)) (qpw_or1 (qpt_not (qpt_val (qpe_callB (call_isiD' (K := K) rfl) (by rfl) B.isinstance PyProof.Rows.boot_isinstance (qpa_Name (qpv 2) (qpa_Name (qpe_bltn (v := .ty "ValueError") (by rfl) B.ValueError L2.boot_ValueError rfl) qpa_nil))))))))
        (qpss_one (qps_ret (qpe_lst (qpa_Constant qpe_str qpa_nil))))
        qpss_nil)
        (qpss_cons (qps_if (QW.pt (qpw_and (qpt_val (qpe_callB (call_isiD' (K := K) rfl) (by rfl) B.isinstance PyProof.Rows.boot_isinstance (qpa_Name (qpv 2) (qpa_Name (qpe_globC (by rfl) C_NoCode) qpa_nil)))) (qpw_and1 (qpt_not (qpt_val (qpe_callB (call_isiD' (K := K) rfl) (by rfl) B.isinstance PyProof.Rows.boot_isinstance (qpa_Name (qpv 2) (qpa_Name (qpe_globC (by rfl) C_NoMaze) qpa_nil))))))))
        (qpss_one (qps_ret (qpe_lst (qpa_Constant qpe_str (qpa_Subscript (qpe_ix ix_list (qpe_lst (qpa_Attribute (qpe_excA (qpv 2)) (qpa_Constant qpe_str qpa_nil))) (qpe_callTy call_int1 (by rfl) B.int PyProof.Rows.boot_int (qpa_Call (qpe_callB call_isi (by rfl) B.isinstance PyProof.Rows.boot_isinstance (qpa_Attribute (qpe_excA (qpv 2)) (qpa_Name (qpe_bltn (v := .ty "bool") (by rfl) B.bool PyProof.Rows.boot_bool rfl) qpa_nil))) qpa_nil)) (fun _ _ => rfl)) qpa_nil)))))
        qpss_nil)
        (qpss_one (qps_ret (qpe_lst (qpa_Constant qpe_str (qpa_BoolOp (qpe_and (qpe_callB (call_isiD' (K := K) rfl) (by rfl) B.isinstance PyProof.Rows.boot_isinstance (qpa_Name (qpv 2) (qpa_Name (qpe_globC (by rfl) C_NoMaze) qpa_nil))) (qpe_one (qpe_not (qpe_callB (call_isiD' (K := K) rfl) (by rfl) B.isinstance PyProof.Rows.boot_isinstance (qpa_Name (qpv 2) (qpa_Name (qpe_globC (by rfl) C_NoCode) qpa_nil)))))) qpa_nil))))))))))
      (qpss_one (qps_ret (qpe_lst (qpa_Constant qpe_str qpa_nil)))))), ?_⟩
    walk_at "wp"
    refine ⟨sv, v, ds, d, rfl, hds, pds, hd, asc, fun sf => ?_, fun b e => ⟨fun i hi H1 dx s1 hdx => ?_, fun hn cs a H1 e2 s1 ca => ?_⟩⟩
    · refine ⟨c_NoMaze, rfl, XMM, fun a na => ?_⟩
      have hx : ExcAt K (upd H a (excO c_NoMaze a)) a c_NoMaze := .bare upd_same KM
      have s1 : Same H (upd H a (excO c_NoMaze a)) := (Same.refl H).new na
      walk_at "wp"
      refine ⟨eight, fun p np => ?_⟩
      have hx2 := hx.same ((Same.refl _).new (o := .tup [V.ref c_Crossed, V.ref c_NoBow, V.ref c_NoDrawing, V.ref c_NoName, V.ref c_NoNumber, V.ref c_NoRound, V.ref c_NoRow, V.ref c_NoWord]) np)
      have s2 := s1.trans ((Same.refl _).new (o := .tup [V.ref c_Crossed, V.ref c_NoBow, V.ref c_NoDrawing, V.ref c_NoName, V.ref c_NoNumber, V.ref c_NoRound, V.ref c_NoRow, V.ref c_NoWord]) np)
      refine ⟨a, c_NoMaze, p, [c_Crossed, c_NoBow, c_NoDrawing, c_NoName, c_NoNumber, c_NoRound, c_NoRow, c_NoWord], false, rfl, hx2, upd_same, kitAny_no (oth JM (.inl rfl)), ?_⟩
      walk_at "wp"
      refine isiDT hx2 JM.val ⟨_, rfl, ifN (fun z => nomatch z) (isiD hx2 (JM.kit 6 _ rfl) ⟨_, rfl, ifN (by decide) (isiD hx2 (JM.kit 0 _ rfl) ⟨_, rfl, ifY rfl (isiD hx2 (JM.kit 6 _ rfl) ⟨_, rfl, two, fun p1 n1 => ?_⟩)⟩)⟩)⟩
      exact qM sf _ _ (s2.trans ((Same.refl _).new n1)) (.lst upd_same (.cons (.str _) (.cons (.bl _) .nil)))
    · refine ⟨c_NoCode, rfl, XMC, fun a na => ?_⟩
      have ea : upd H1 a (excD (some dx) c_NoCode a) a = some (excD (some dx) c_NoCode a) := upd_same
      have ed : upd H1 a (excD (some dx) c_NoCode a) dx = some (.xd [("at", .int (i : Nat))]) := by rw [upd_ne (ne_of_none hdx na)]; exact hdx
      have hx : ExcAt K (upd H1 a (excD (some dx) c_NoCode a)) a c_NoCode := .dict ea ed KC
      have s1' : Same H (upd H1 a (excD (some dx) c_NoCode a)) := s1.trans ((Same.refl H1).new na)
      walk_at "wp"
      generalize upd H1 a (excD (some dx) c_NoCode a) = H2 at ea ed hx s1' ⊢
      refine ⟨eight, fun p np => ?_⟩
      have t2 := (Same.refl H2).new (o := .tup [V.ref c_Crossed, V.ref c_NoBow, V.ref c_NoDrawing, V.ref c_NoName, V.ref c_NoNumber, V.ref c_NoRound, V.ref c_NoRow, V.ref c_NoWord]) np
      have hp : upd H2 p (.tup [V.ref c_Crossed, V.ref c_NoBow, V.ref c_NoDrawing, V.ref c_NoName, V.ref c_NoNumber, V.ref c_NoRound, V.ref c_NoRow, V.ref c_NoWord]) p = some (.tup ([c_Crossed, c_NoBow, c_NoDrawing, c_NoName, c_NoNumber, c_NoRound, c_NoRow, c_NoWord].map V.ref)) := upd_same
      generalize upd H2 p (.tup [V.ref c_Crossed, V.ref c_NoBow, V.ref c_NoDrawing, V.ref c_NoName, V.ref c_NoNumber, V.ref c_NoRound, V.ref c_NoRow, V.ref c_NoWord]) = H3 at t2 hp ⊢
      have hx2 := hx.same t2
      have s2 := s1'.trans t2
      refine ⟨a, c_NoCode, p, [c_Crossed, c_NoBow, c_NoDrawing, c_NoName, c_NoNumber, c_NoRound, c_NoRow, c_NoWord], false, rfl, hx2, hp, kitAny_no (oth JC (.inr rfl)), ?_⟩
      walk_at "wp"
      refine isiDT hx2 JC.val ⟨_, rfl, ifN (fun z => nomatch z) (isiD hx2 (JC.kit 6 _ rfl) ⟨_, rfl, ifY rfl (isiD hx2 (JC.kit 0 _ rfl) ⟨_, rfl, ifY (by decide) ⟨a, c_NoCode, dx, _, rfl, t2 _ _ ea, t2 _ _ ed, IA, two, fun p1 n1 => ?_⟩⟩)⟩)⟩
      have t3 := (Same.refl H3).new (o := .lst [V.int ((i : Nat) : Int), V.str (Str.ofString "a truth")]) n1
      refine ⟨a, c_NoCode, dx, _, rfl, (t2.trans t3) _ _ ea, (t2.trans t3) _ _ ed, IA, isi_bool (.int _) ?_⟩
      refine .inr ⟨false, rfl, _, _, SqL.of upd_same, rfl, two, fun p2 n2 => ?_⟩
      refine qC b e _ _ ((s2.trans t3).trans ((Same.refl _).new n2)) ?_
      unfold kdRes
      rw [hi]
      exact .lst upd_same (.cons (.str _) (.cons (.int _) .nil))
    · walk_at "wp"
      refine ⟨by decide, fun p np => qC b e _ _ (s1.trans ((Same.refl _).new np)) ?_⟩
      unfold kdRes
      rw [hn]
      exact .lst upd_same (.cons (.str _) .nil)
theorem ok_law (B : Blt mg) (E : Fn K mg "law" s_law ["_law_script"]) (D_cell_at : Def P w K mg base 1 "_law_cell_at" s_cell_at ["_law_script", "_law_k"] (spCellA K)) (D_rest_of : Def P w K mg base 2 "_law_rest_of" s_rest_of ["_law_cell"] spRestN) (D_code_by : Def P w K mg base 2 "_law_code_by" s_code_by ["_law_rest", "_law_side", "_law_many"] spCodeBy) (D_spoiled : Def P w K mg base 1 "_law_spoiled" s_spoiled ["_law_cell", "_law_code"] spSpoil) (D_wrong_at : Def P w K mg base 2 "_law_wrong_at" s_wrong_at ["_law_side", "_law_code"] spWrongAt) (D_kinds : Def P w K mg base 6 "_law_kinds" s_kinds ["_law_side", "_law_code"] spKinds) : Def P w K mg base 7 "law" s_law ["_law_script"] (spLaw K) := E.mk' fun f fd F => by
  refine F.okS sc_law (fun vs H Q E h => ?_) (fun cdv A outer s H vs Q E hr h => ?_)
  · obtain ⟨a, ns, rfl, _⟩ := h
    rfl
  · obtain ⟨a, ns, rfl, hS, hl, q⟩ := h
    refine ⟨[some (.ref a), none, none, none, none, none, none], _, rfl, (L2.QSs.h (qpss_cons (qps_set (i := 1) sc_law.nd rfl (Or.inl rfl) (qpe_callD D_cell_at (hr.mono (by decide)) (by rfl) (qpa_Name (qpv 0) (qpa_Constant qpe_int qpa_nil))))
      (qpss_cons (qps_set (i := 2) sc_law.nd rfl (Or.inl rfl) (qpe_ix ix_str qpe_str (qpe_op op_mod (qpv 1) qpe_int) (fun _ _ => rfl)))
      (qpss_cons (qps_set (i := 3) sc_law.nd rfl (Or.inl rfl) (qpe_callD D_code_by (hr.mono (by decide)) (by rfl) (qpa_Call (qpe_callD D_rest_of (hr.mono (by decide)) (by rfl) (qpa_Call (qpe_callD D_cell_at (hr.mono (by decide)) (by rfl) (qpa_Name (qpv 0) (qpa_Constant qpe_int qpa_nil))) qpa_nil)) (qpa_Name (qpv 2) (qpa_BinOp (qpe_op op_mod (qpe_op op_fdiv (qpv 1) qpe_int) qpe_int) qpa_nil)))))
      (qpss_cons (qps_set (i := 4) sc_law.nd rfl (Or.inl rfl) (qpe_callD D_spoiled (hr.mono (by decide)) (by rfl) (qpa_Call (qpe_callD D_cell_at (hr.mono (by decide)) (by rfl) (qpa_Name (qpv 0) (qpa_Constant qpe_int qpa_nil))) (qpa_Name (qpv 3) qpa_nil))))
      (qpss_cons (qps_set (i := 5) sc_law.nd rfl (Or.inl rfl) (qpe_ix ix_list (qpe_lst (qpa_Constant qpe_str (qpa_Constant qpe_str (qpa_Constant qpe_str (qpa_Constant qpe_non (qpa_Constant qpe_int (qpa_Constant qpe_str (qpa_List (qpe_lst (qpa_Constant qpe_str qpa_nil)) (qpa_Constant qpe_str qpa_nil))))))))) (qpe_op op_mod (qpe_op op_fdiv (qpv 1) qpe_int) qpe_int) (fun _ _ => rfl)))
      (qpss_cons (qps_if (QW.pt (qpw_or (qpt_cmpR (op_neD (hu_64 hr)) (qpe_callD D_kinds (hr.mono (by decide)) (by rfl) (qpa_Name (qpv 5) (qpa_Name (qpv 3) qpa_nil))) (qpe_lst (qpa_Constant qpe_str (qpa_Constant qpe_bl qpa_nil))) (nomark _)) (qpw_or1 (qpt_cmpR (op_neD (hu_64 hr)) (qpe_callD D_kinds (hr.mono (by decide)) (by rfl) (qpa_Name (qpv 5) (qpa_Name (qpv 4) qpa_nil))) (qpe_lst (qpa_Constant qpe_str (qpa_Constant qpe_bl qpa_nil))) (nomark _)))))
      (qpss_one (qps_ret qpe_bl))
      qpss_nil)
      (qpss_cons (qps_if (QW.pt (qpw_or (qpt_not (qpt_val (qpe_callB call_isi (by rfl) B.isinstance PyProof.Rows.boot_isinstance (qpa_Name (qpv 4) (qpa_Name (qpe_bltn (v := .ty "str") (by rfl) B.str PyProof.Rows.boot_str rfl) qpa_nil))))) (qpw_or1 (qpt_cmpR op_gt (qpe_callB call_len_str (by rfl) B.len PySem.boot_len (qpa_Name (qpv 4) qpa_nil)) qpe_int (nomark _)))))
      (qpss_one (qps_ret (qpe_cmpR (op_eqD (hu_64 hr)) (qpe_callD D_kinds (hr.mono (by decide)) (by rfl) (qpa_Name (qpv 2) (qpa_Name (qpv 4) qpa_nil))) (qpe_lst (qpa_Constant qpe_str (qpa_Constant qpe_int qpa_nil))) (nomark _))))
      qpss_nil)
      (qpss_cons (qps_set (i := 6) sc_law.nd rfl (Or.inl rfl) (qpe_callD D_wrong_at (hr.mono (by decide)) (by rfl) (qpa_Name (qpv 2) (qpa_Name (qpv 4) qpa_nil))))
      (qpss_cons (qps_if (qpt_cmpR op_isN (qpv 6) qpe_non (nomark _))
      (qpss_one (qps_ret (qpe_cmpR (op_eqD (hu_64 hr)) (qpe_callD D_kinds (hr.mono (by decide)) (by rfl) (qpa_Name (qpv 2) (qpa_Name (qpv 4) qpa_nil))) (qpe_lst (qpa_Constant qpe_str qpa_nil)) (nomark _))))
      qpss_nil)
      (qpss_one (qps_ret (qpe_cmpR (op_eqD (hu_64 hr)) (qpe_callD D_kinds (hr.mono (by decide)) (by rfl) (qpa_Name (qpv 2) (qpa_Name (qpv 4) qpa_nil))) (qpe_lst (qpa_Constant qpe_str (qpa_Name (qpv 6) qpa_nil))) (nomark _)))))))))))))), ?_⟩
    walk_at "wp"
    refine ⟨a, ns, 0, rfl, hS, fun c0 => ?_⟩
    walk_at "wp"
    have hb : ∃ b : Bool, atI (Str.ofString "lr").cps.toList (c0 % 2) = some (sdc b) := by
      have h : c0 % 2 = 0 ∨ c0 % 2 = 1 := by omega
      rcases h with e | e <;> rw [e]
      · exact ⟨false, by decide +kernel⟩
      · exact ⟨true, by decide +kernel⟩
    obtain ⟨b, hb1⟩ := hb
    have k0 : 0 ≤ c0 / 2 % 5 := Int.emod_nonneg _ (by decide)
    have k1 : c0 / 2 % 5 < 5 := Int.emod_lt_of_pos _ (by decide)
    refine ⟨by decide, by decide +kernel, sdc b, hb1, a, ns, 1, rfl, hS, fun c1 => ⟨c1, rfl, fun rest => ⟨⟨by decide, by decide⟩, by decide, rest, b, (c0 / 2 % 5).toNat, by rw [Int.toNat_of_nonneg k0, sdE], by omega, fun cs H1 s1 lt hn => ?_⟩⟩⟩
    rw [← sdE]
    walk_at "wp"
    refine ⟨a, ns, 2, rfl, s1.seq hS, fun c2 => ⟨c2, cs, rfl, lt, hn, fun v d H2 s2 hd ha hp => ?_⟩⟩
    walk_at "wp"
    refine ⟨by decide, fun p1 n1 => ⟨(by show 8 ≤ sizeLine; decide), fun p2 n2 => ⟨⟨by decide, by decide⟩, by decide, ?_⟩⟩⟩
    have i0 : 0 ≤ c0 / 10 % 8 := Int.emod_nonneg _ (by decide)
    have i1 : c0 / 10 % 8 < 8 := Int.emod_lt_of_pos _ (by decide)
    have t1 := (Same.refl H2).new (o := .lst [V.str (Str.ofString "l")]) n1
    have h1 : upd H2 p1 (.lst [V.str (Str.ofString "l")]) p1 = some (.lst [V.str (Str.ofString "l")]) := upd_same
    generalize upd H2 p1 (.lst [V.str (Str.ofString "l")]) = H3 at t1 h1 n2 ⊢
    have t2 := (Same.refl H3).new (o := .lst [V.str (Str.ofString ""), V.str (Str.ofString "L"), V.str (Str.ofString "left"), V.non, V.int 0, V.str (Str.ofString "lr"), V.ref p1, V.str (Str.ofString " r")]) n2
    have h2 : upd H3 p2 (.lst [V.str (Str.ofString ""), V.str (Str.ofString "L"), V.str (Str.ofString "left"), V.non, V.int 0, V.str (Str.ofString "lr"), V.ref p1, V.str (Str.ofString " r")]) p2 = some (.lst [V.str (Str.ofString ""), V.str (Str.ofString "L"), V.str (Str.ofString "left"), V.non, V.int 0, V.str (Str.ofString "lr"), V.ref p1, V.str (Str.ofString " r")]) := upd_same
    generalize upd H3 p2 (.lst [V.str (Str.ofString ""), V.str (Str.ofString "L"), V.str (Str.ofString "left"), V.non, V.int 0, V.str (Str.ofString "lr"), V.ref p1, V.str (Str.ofString " r")]) = H4 at t2 h2 ⊢
    obtain ⟨o, ho, od, hod, po, so⟩ := atI_all (xs := [V.str (Str.ofString ""), V.str (Str.ofString "L"), V.str (Str.ofString "left"), V.non, V.int 0, V.str (Str.ofString "lr"), V.ref p1, V.str (Str.ofString " r")]) (i := c0 / 10 % 8) (P := fun v => ∃ d, Dat H4 v d ∧ Pl d 60 ∧ sideD d = false) i0 i1 (by
      intro x hx
      simp only [List.mem_cons, List.not_mem_nil, or_false] at hx
      rcases hx with rfl | rfl | rfl | rfl | rfl | rfl | rfl | rfl
      · exact ⟨_, .str _, ⟨by decide +kernel, by decide⟩, by decide +kernel⟩
      · exact ⟨_, .str _, ⟨by decide +kernel, by decide⟩, by decide +kernel⟩
      · exact ⟨_, .str _, ⟨by decide +kernel, by decide⟩, by decide +kernel⟩
      · exact ⟨_, .non, ⟨by decide +kernel, by decide⟩, by decide +kernel⟩
      · exact ⟨_, .int _, ⟨by decide +kernel, by decide⟩, by decide +kernel⟩
      · exact ⟨_, .str _, ⟨by decide +kernel, by decide⟩, by decide +kernel⟩
      · exact ⟨_, .lst (t2 _ _ h1) (.cons (.str _) .nil), ⟨by decide +kernel, by decide⟩, by decide +kernel⟩
      · exact ⟨_, .str _, ⟨by decide +kernel, by decide⟩, by decide +kernel⟩)
    have s4 := (s1.trans s2).trans (t1.trans t2)
    have hd4 := (hd.same t1).same t2
    have asc : ∀ x ∈ cs, x < 128 := fun x hx => by rcases lt x hx with h | h | h | h <;> omega
    have fin : ∀ (b : Bool) (r : V) (x : PyData) (p : Addr) (Q' : VK) (H5 : Hp), H5 p = none → Dat H5 r (kdRes b d) → ∀ (xs : List V), kdRes b d = x → Dat (upd H5 p (.lst xs)) (.ref p) x → x.canLay0 = true → x.depth ≤ 60 → Q' (.bl true) (upd H5 p (.lst xs)) → rEqD K false r (.ref p) (upd H5 p (.lst xs)) Q' := by
      intro b r x p Q' H5 np hr xs ex hx lx dx hq
      refine ⟨_, _, (hr.same ((Same.refl H5).new np)).rep, hx.rep, by rw [ex]; exact lx, lx, by rw [ex, Nat.min_self]; exact dx, ?_⟩
      rw [ex]
      show Q' (.bl (PyData.eqv x x)) _
      rw [PySem.SeqAt.eqv_refl x lx]
      exact hq
    have nm : ∀ (r : V) (p : Addr) (Q' : VK) (H5 : Hp), H5 p = none → Dat H5 r noMz → Q' (.bl false) (upd H5 p (.lst [V.str (Str.ofString "no maze"), V.bl true])) → rEqD K true r (.ref p) (upd H5 p (.lst [V.str (Str.ofString "no maze"), V.bl true])) Q' := by
      intro r p Q' H5 np hr hq
      exact ⟨noMz, noMz, (hr.same ((Same.refl H5).new np)).rep, (Dat.lst upd_same (.cons (.str _) (.cons (.bl _) .nil))).rep, by decide +kernel, by decide +kernel, by decide, hq⟩
    refine ⟨_, o, SqL.of h2, ho, o, _, od, _, rfl, hod, po, .str _, ascD_tx asc (by omega), fun _ r1 H5 s5 hr1 => ⟨by decide, fun p3 n3 => nm _ _ _ _ n3 hr1 ⟨false, rfl, ifN (by decide) ?_⟩⟩, fun b' e => by subst e; cases hod; rw [sideD_of] at so; cases so⟩
    have s5' := s5.trans ((Same.refl H5).new (o := .lst [V.str (Str.ofString "no maze"), V.bl true]) n3)
    generalize upd H5 p3 (.lst [V.str (Str.ofString "no maze"), V.bl true]) = H6 at s5' ⊢
    refine ⟨o, v, od, d, rfl, hod.same s5', po, hd4.same s5', ha, fun _ r2 H7 s7 hr2 => ⟨by decide, fun p4 n4 => nm _ _ _ _ n4 hr2 ⟨false, rfl, ifN (by decide) ?_⟩⟩, fun b' e => by subst e; cases hod; rw [sideD_of] at so; cases so⟩
    have s7' := s5'.trans (s7.trans ((Same.refl H7).new (o := .lst [V.str (Str.ofString "no maze"), V.bl true]) n4))
    generalize upd H7 p4 (.lst [V.str (Str.ofString "no maze"), V.bl true]) = H8 at s7' ⊢
    have hd8 := hd4.same s7'
    have sdP : Pl (.str (sd b)) 60 := ⟨by cases b <;> decide +kernel, Nat.zero_le _⟩
    refine isi_str hd8 ⟨_, rfl, ?_⟩
    by_cases hs : isS d = true
    case neg =>
      refine ifY (by simpa using hs) ⟨_, v, _, d, rfl, .str _, sdP, hd8, ha, (fun z => by rw [sideD_of] at z; cases z), fun b' e r H9 s9 hr9 => ⟨by decide, fun p np => ?_⟩⟩
      have e0 : kdRes b' d = .list [.str (Str.ofString "no code"), .int ((0 : Nat) : Int)] := by unfold kdRes; rw [show cdRes b' d = some 0 by cases d <;> first | rfl | exact absurd rfl hs]
      exact fin b' r _ p _ H9 np hr9 _ e0 (.lst upd_same (.cons (.str _) (.cons (.int _) .nil))) (by decide +kernel) (by decide) (q _)
    obtain ⟨ds, rfl, rfl⟩ : ∃ cs, v = .str (tx cs) ∧ d = .str (tx cs) := by
      cases hd with
      | str z => exact ⟨z.cps.toList, by rw [← str_tx], by rw [← str_tx]⟩
      | _ => exact absurd hs (fun z => nomatch z)
    have ha' : (∀ c ∈ ds, c < 128) ∧ ds.length ≤ 100 := by
      have : (∀ c ∈ (tx ds).cps.toList, c < 128) ∧ (tx ds).cps.toList.length ≤ 100 := ha
      rwa [tx_cps] at this
    refine ifN (fun z => nomatch z) ?_
    walk_at "wp"
    rw [tx_len]
    refine ⟨sm9 (by omega), ite2 (fun hg => ?_) (fun hg => ?_)⟩
    · refine ⟨_, _, _, _, rfl, .str _, sdP, hd8, ha, (fun z => by rw [sideD_of] at z; cases z), fun b' e r H9 s9 hr9 => ⟨by decide, fun p np => ?_⟩⟩
      have e0 : kdRes b' (.str (tx ds)) = .list [.str (Str.ofString "no code"), .int ((0 : Nat) : Int)] := by unfold kdRes; rw [cdRes_tx, if_neg (by omega)]
      exact fin b' r _ p _ H9 np hr9 _ e0 (.lst upd_same (.cons (.str _) (.cons (.int _) .nil))) (by decide +kernel) (by decide) (q _)
    · refine ⟨b, ds, rfl, by omega, fun H9 s9 => ?_⟩
      cases hres : resX (bL b) (bR b) ds 0 with
      | none =>
        walk_at "wp"
        refine ⟨trivial, ?_⟩
        refine ⟨_, _, _, _, rfl, .str _, sdP, .str _, ha, (fun z => by rw [sideD_of] at z; cases z), fun b' e r H10 s10 hr10 => ⟨by decide, fun p np => ?_⟩⟩
        have eb : b' = b := (sd_inj (V.str.inj e)).symm
        subst eb
        have e0 : kdRes b' (.str (tx ds)) = .list [.str (Str.ofString "told")] := by unfold kdRes; rw [cdRes_tx, if_pos (by omega), hres]
        exact fin b' r _ p _ H10 np hr10 _ e0 (.lst upd_same (.cons (.str _) .nil)) (by decide +kernel) (by decide) (q _)
      | some i =>
        walk_at "wp"
        refine ⟨trivial, ?_⟩
        refine ⟨_, _, _, _, rfl, .str _, sdP, .str _, ha, (fun z => by rw [sideD_of] at z; cases z), fun b' e r H10 s10 hr10 => ⟨(by show 2 ≤ sizeLine; decide), fun p np => ?_⟩⟩
        have eb : b' = b := (sd_inj (V.str.inj e)).symm
        subst eb
        have e0 : kdRes b' (.str (tx ds)) = .list [.str (Str.ofString "no code"), .int (i : Nat)] := by unfold kdRes; rw [cdRes_tx, if_pos (by omega), hres]
        refine fin b' r _ p _ H10 np hr10 _ e0 (.lst upd_same (.cons (.str _) (.cons (.int _) .nil))) ?_ ?_ (q _)
        · show (PyData.strOk (Str.ofString "no code") && (true && true)) = true
          decide +kernel
        · show 1 + max 0 (max 0 0) ≤ 60
          decide
end
theorem fn_mk {K : PySem.W.Frag} {h : Heap} {mg : Str → Option Value} (X : K.In h) (G : h.Ns mainGlobals mg) {x : Str} {st : Stmt} {ps : List Str} {f : Addr} {oc : Value} {od an : Option Addr} {osl : Array (Option Value)} {kV doc pm cdv ct : Value}
    (a : PySem.W.nsIn K mainGlobals x = some (some (.ref f))) (l : K.lookup f = some ⟨oc, od, .func (PySem.W.fnOf x x (defArgs st) (defBody st) (defScope st) .none kV doc pm an cdv ct), osl⟩) (c : PySem.W.codeIn K cdv x = true) (k : PySem.W.keepIn K (.ref f) = true)
    (hb : ∀ (kV doc pm : Value) (an : Option Addr) (cdv ct : Value) (us : List Value), us.length = ps.length → bindArgs (PySem.W.fnOf x x (defArgs st) (defBody st) (defScope st) .none kV doc pm an cdv ct) ⟨us, []⟩ = pure (ps.zip us)) : Fn K mg x st ps :=
  have F := fun_mk (st := st) l c k
  ⟨f, _, F, PySem.W.mg_of X G a, F.binds hb⟩
theorem all_mk {l : PySem.W.OpenLaw} {w : World} {K : PySem.W.Frag} {h : Heap} {mg : Str → Option Value} {fa : Addr} (X : K.In h) (G : h.Ns mainGlobals mg) (hfa : mg "law" = some (.ref fa))
    {f_is_side : Addr} {od_is_side an_is_side : Option Addr} {sl_is_side : Array (Option Value)} {oc_is_side kV_is_side dc_is_side pm_is_side cd_is_side ct_is_side : Value}
    (a_is_side : PySem.W.nsIn K mainGlobals "is_side" = some (some (.ref f_is_side))) (l_is_side : K.lookup f_is_side = some ⟨oc_is_side, od_is_side, .func (PySem.W.fnOf "is_side" "is_side" (defArgs s_is_side) (defBody s_is_side) (defScope s_is_side) .none kV_is_side dc_is_side pm_is_side an_is_side cd_is_side ct_is_side), sl_is_side⟩) (c_is_side : PySem.W.codeIn K cd_is_side "is_side" = true) (k_is_side : PySem.W.keepIn K (.ref f_is_side) = true)
    {f_other_side : Addr} {od_other_side an_other_side : Option Addr} {sl_other_side : Array (Option Value)} {oc_other_side kV_other_side dc_other_side pm_other_side cd_other_side ct_other_side : Value}
    (a_other_side : PySem.W.nsIn K mainGlobals "other_side" = some (some (.ref f_other_side))) (l_other_side : K.lookup f_other_side = some ⟨oc_other_side, od_other_side, .func (PySem.W.fnOf "other_side" "other_side" (defArgs s_other_side) (defBody s_other_side) (defScope s_other_side) .none kV_other_side dc_other_side pm_other_side an_other_side cd_other_side ct_other_side), sl_other_side⟩) (c_other_side : PySem.W.codeIn K cd_other_side "other_side" = true) (k_other_side : PySem.W.keepIn K (.ref f_other_side) = true)
    {f_begun : Addr} {od_begun an_begun : Option Addr} {sl_begun : Array (Option Value)} {oc_begun kV_begun dc_begun pm_begun cd_begun ct_begun : Value}
    (a_begun : PySem.W.nsIn K mainGlobals "begun" = some (some (.ref f_begun))) (l_begun : K.lookup f_begun = some ⟨oc_begun, od_begun, .func (PySem.W.fnOf "begun" "begun" (defArgs s_begun) (defBody s_begun) (defScope s_begun) .none kV_begun dc_begun pm_begun an_begun cd_begun ct_begun), sl_begun⟩) (c_begun : PySem.W.codeIn K cd_begun "begun" = true) (k_begun : PySem.W.keepIn K (.ref f_begun) = true)
    {f_leading_on : Addr} {od_leading_on an_leading_on : Option Addr} {sl_leading_on : Array (Option Value)} {oc_leading_on kV_leading_on dc_leading_on pm_leading_on cd_leading_on ct_leading_on : Value}
    (a_leading_on : PySem.W.nsIn K mainGlobals "leading_on" = some (some (.ref f_leading_on))) (l_leading_on : K.lookup f_leading_on = some ⟨oc_leading_on, od_leading_on, .func (PySem.W.fnOf "leading_on" "leading_on" (defArgs s_leading_on) (defBody s_leading_on) (defScope s_leading_on) .none kV_leading_on dc_leading_on pm_leading_on an_leading_on cd_leading_on ct_leading_on), sl_leading_on⟩) (c_leading_on : PySem.W.codeIn K cd_leading_on "leading_on" = true) (k_leading_on : PySem.W.keepIn K (.ref f_leading_on) = true)
    {f_other_end : Addr} {od_other_end an_other_end : Option Addr} {sl_other_end : Array (Option Value)} {oc_other_end kV_other_end dc_other_end pm_other_end cd_other_end ct_other_end : Value}
    (a_other_end : PySem.W.nsIn K mainGlobals "other_end" = some (some (.ref f_other_end))) (l_other_end : K.lookup f_other_end = some ⟨oc_other_end, od_other_end, .func (PySem.W.fnOf "other_end" "other_end" (defArgs s_other_end) (defBody s_other_end) (defScope s_other_end) .none kV_other_end dc_other_end pm_other_end an_other_end cd_other_end ct_other_end), sl_other_end⟩) (c_other_end : PySem.W.codeIn K cd_other_end "other_end" = true) (k_other_end : PySem.W.keepIn K (.ref f_other_end) = true)
    {f_joined : Addr} {od_joined an_joined : Option Addr} {sl_joined : Array (Option Value)} {oc_joined kV_joined dc_joined pm_joined cd_joined ct_joined : Value}
    (a_joined : PySem.W.nsIn K mainGlobals "joined" = some (some (.ref f_joined))) (l_joined : K.lookup f_joined = some ⟨oc_joined, od_joined, .func (PySem.W.fnOf "joined" "joined" (defArgs s_joined) (defBody s_joined) (defScope s_joined) .none kV_joined dc_joined pm_joined an_joined cd_joined ct_joined), sl_joined⟩) (c_joined : PySem.W.codeIn K cd_joined "joined" = true) (k_joined : PySem.W.keepIn K (.ref f_joined) = true)
    {f_step : Addr} {od_step an_step : Option Addr} {sl_step : Array (Option Value)} {oc_step kV_step dc_step pm_step cd_step ct_step : Value}
    (a_step : PySem.W.nsIn K mainGlobals "step" = some (some (.ref f_step))) (l_step : K.lookup f_step = some ⟨oc_step, od_step, .func (PySem.W.fnOf "step" "step" (defArgs s_step) (defBody s_step) (defScope s_step) .none kV_step dc_step pm_step an_step cd_step ct_step), sl_step⟩) (c_step : PySem.W.codeIn K cd_step "step" = true) (k_step : PySem.W.keepIn K (.ref f_step) = true)
    {f_vet_code : Addr} {od_vet_code an_vet_code : Option Addr} {sl_vet_code : Array (Option Value)} {oc_vet_code kV_vet_code dc_vet_code pm_vet_code cd_vet_code ct_vet_code : Value}
    (a_vet_code : PySem.W.nsIn K mainGlobals "vet_code" = some (some (.ref f_vet_code))) (l_vet_code : K.lookup f_vet_code = some ⟨oc_vet_code, od_vet_code, .func (PySem.W.fnOf "vet_code" "vet_code" (defArgs s_vet_code) (defBody s_vet_code) (defScope s_vet_code) .none kV_vet_code dc_vet_code pm_vet_code an_vet_code cd_vet_code ct_vet_code), sl_vet_code⟩) (c_vet_code : PySem.W.codeIn K cd_vet_code "vet_code" = true) (k_vet_code : PySem.W.keepIn K (.ref f_vet_code) = true)
    {f_rows_across : Addr} {od_rows_across an_rows_across : Option Addr} {sl_rows_across : Array (Option Value)} {oc_rows_across kV_rows_across dc_rows_across pm_rows_across cd_rows_across ct_rows_across : Value}
    (a_rows_across : PySem.W.nsIn K mainGlobals "rows_across" = some (some (.ref f_rows_across))) (l_rows_across : K.lookup f_rows_across = some ⟨oc_rows_across, od_rows_across, .func (PySem.W.fnOf "rows_across" "rows_across" (defArgs s_rows_across) (defBody s_rows_across) (defScope s_rows_across) .none kV_rows_across dc_rows_across pm_rows_across an_rows_across cd_rows_across ct_rows_across), sl_rows_across⟩) (c_rows_across : PySem.W.codeIn K cd_rows_across "rows_across" = true) (k_rows_across : PySem.W.keepIn K (.ref f_rows_across) = true)
    {f_decoded : Addr} {od_decoded an_decoded : Option Addr} {sl_decoded : Array (Option Value)} {oc_decoded kV_decoded dc_decoded pm_decoded cd_decoded ct_decoded : Value}
    (a_decoded : PySem.W.nsIn K mainGlobals "decoded" = some (some (.ref f_decoded))) (l_decoded : K.lookup f_decoded = some ⟨oc_decoded, od_decoded, .func (PySem.W.fnOf "decoded" "decoded" (defArgs s_decoded) (defBody s_decoded) (defScope s_decoded) .none kV_decoded dc_decoded pm_decoded an_decoded cd_decoded ct_decoded), sl_decoded⟩) (c_decoded : PySem.W.codeIn K cd_decoded "decoded" = true) (k_decoded : PySem.W.keepIn K (.ref f_decoded) = true)
    {f_cell_at : Addr} {od_cell_at an_cell_at : Option Addr} {sl_cell_at : Array (Option Value)} {oc_cell_at kV_cell_at dc_cell_at pm_cell_at cd_cell_at ct_cell_at : Value}
    (a_cell_at : PySem.W.nsIn K mainGlobals "_law_cell_at" = some (some (.ref f_cell_at))) (l_cell_at : K.lookup f_cell_at = some ⟨oc_cell_at, od_cell_at, .func (PySem.W.fnOf "_law_cell_at" "_law_cell_at" (defArgs s_cell_at) (defBody s_cell_at) (defScope s_cell_at) .none kV_cell_at dc_cell_at pm_cell_at an_cell_at cd_cell_at ct_cell_at), sl_cell_at⟩) (c_cell_at : PySem.W.codeIn K cd_cell_at "_law_cell_at" = true) (k_cell_at : PySem.W.keepIn K (.ref f_cell_at) = true)
    {f_mixed : Addr} {od_mixed an_mixed : Option Addr} {sl_mixed : Array (Option Value)} {oc_mixed kV_mixed dc_mixed pm_mixed cd_mixed ct_mixed : Value}
    (a_mixed : PySem.W.nsIn K mainGlobals "_law_mixed" = some (some (.ref f_mixed))) (l_mixed : K.lookup f_mixed = some ⟨oc_mixed, od_mixed, .func (PySem.W.fnOf "_law_mixed" "_law_mixed" (defArgs s_mixed) (defBody s_mixed) (defScope s_mixed) .none kV_mixed dc_mixed pm_mixed an_mixed cd_mixed ct_mixed), sl_mixed⟩) (c_mixed : PySem.W.codeIn K cd_mixed "_law_mixed" = true) (k_mixed : PySem.W.keepIn K (.ref f_mixed) = true)
    {f_rest_of : Addr} {od_rest_of an_rest_of : Option Addr} {sl_rest_of : Array (Option Value)} {oc_rest_of kV_rest_of dc_rest_of pm_rest_of cd_rest_of ct_rest_of : Value}
    (a_rest_of : PySem.W.nsIn K mainGlobals "_law_rest_of" = some (some (.ref f_rest_of))) (l_rest_of : K.lookup f_rest_of = some ⟨oc_rest_of, od_rest_of, .func (PySem.W.fnOf "_law_rest_of" "_law_rest_of" (defArgs s_rest_of) (defBody s_rest_of) (defScope s_rest_of) .none kV_rest_of dc_rest_of pm_rest_of an_rest_of cd_rest_of ct_rest_of), sl_rest_of⟩) (c_rest_of : PySem.W.codeIn K cd_rest_of "_law_rest_of" = true) (k_rest_of : PySem.W.keepIn K (.ref f_rest_of) = true)
    {f_go : Addr} {od_go an_go : Option Addr} {sl_go : Array (Option Value)} {oc_go kV_go dc_go pm_go cd_go ct_go : Value}
    (a_go : PySem.W.nsIn K mainGlobals "_law_go" = some (some (.ref f_go))) (l_go : K.lookup f_go = some ⟨oc_go, od_go, .func (PySem.W.fnOf "_law_go" "_law_go" (defArgs s_go) (defBody s_go) (defScope s_go) .none kV_go dc_go pm_go an_go cd_go ct_go), sl_go⟩) (c_go : PySem.W.codeIn K cd_go "_law_go" = true) (k_go : PySem.W.keepIn K (.ref f_go) = true)
    {f_at_first : Addr} {od_at_first an_at_first : Option Addr} {sl_at_first : Array (Option Value)} {oc_at_first kV_at_first dc_at_first pm_at_first cd_at_first ct_at_first : Value}
    (a_at_first : PySem.W.nsIn K mainGlobals "_law_at_first" = some (some (.ref f_at_first))) (l_at_first : K.lookup f_at_first = some ⟨oc_at_first, od_at_first, .func (PySem.W.fnOf "_law_at_first" "_law_at_first" (defArgs s_at_first) (defBody s_at_first) (defScope s_at_first) .none kV_at_first dc_at_first pm_at_first an_at_first cd_at_first ct_at_first), sl_at_first⟩) (c_at_first : PySem.W.codeIn K cd_at_first "_law_at_first" = true) (k_at_first : PySem.W.keepIn K (.ref f_at_first) = true)
    {f_closing : Addr} {od_closing an_closing : Option Addr} {sl_closing : Array (Option Value)} {oc_closing kV_closing dc_closing pm_closing cd_closing ct_closing : Value}
    (a_closing : PySem.W.nsIn K mainGlobals "_law_closing" = some (some (.ref f_closing))) (l_closing : K.lookup f_closing = some ⟨oc_closing, od_closing, .func (PySem.W.fnOf "_law_closing" "_law_closing" (defArgs s_closing) (defBody s_closing) (defScope s_closing) .none kV_closing dc_closing pm_closing an_closing cd_closing ct_closing), sl_closing⟩) (c_closing : PySem.W.codeIn K cd_closing "_law_closing" = true) (k_closing : PySem.W.keepIn K (.ref f_closing) = true)
    {f_code_by : Addr} {od_code_by an_code_by : Option Addr} {sl_code_by : Array (Option Value)} {oc_code_by kV_code_by dc_code_by pm_code_by cd_code_by ct_code_by : Value}
    (a_code_by : PySem.W.nsIn K mainGlobals "_law_code_by" = some (some (.ref f_code_by))) (l_code_by : K.lookup f_code_by = some ⟨oc_code_by, od_code_by, .func (PySem.W.fnOf "_law_code_by" "_law_code_by" (defArgs s_code_by) (defBody s_code_by) (defScope s_code_by) .none kV_code_by dc_code_by pm_code_by an_code_by cd_code_by ct_code_by), sl_code_by⟩) (c_code_by : PySem.W.codeIn K cd_code_by "_law_code_by" = true) (k_code_by : PySem.W.keepIn K (.ref f_code_by) = true)
    {f_wrong_at : Addr} {od_wrong_at an_wrong_at : Option Addr} {sl_wrong_at : Array (Option Value)} {oc_wrong_at kV_wrong_at dc_wrong_at pm_wrong_at cd_wrong_at ct_wrong_at : Value}
    (a_wrong_at : PySem.W.nsIn K mainGlobals "_law_wrong_at" = some (some (.ref f_wrong_at))) (l_wrong_at : K.lookup f_wrong_at = some ⟨oc_wrong_at, od_wrong_at, .func (PySem.W.fnOf "_law_wrong_at" "_law_wrong_at" (defArgs s_wrong_at) (defBody s_wrong_at) (defScope s_wrong_at) .none kV_wrong_at dc_wrong_at pm_wrong_at an_wrong_at cd_wrong_at ct_wrong_at), sl_wrong_at⟩) (c_wrong_at : PySem.W.codeIn K cd_wrong_at "_law_wrong_at" = true) (k_wrong_at : PySem.W.keepIn K (.ref f_wrong_at) = true)
    {f_spoiled : Addr} {od_spoiled an_spoiled : Option Addr} {sl_spoiled : Array (Option Value)} {oc_spoiled kV_spoiled dc_spoiled pm_spoiled cd_spoiled ct_spoiled : Value}
    (a_spoiled : PySem.W.nsIn K mainGlobals "_law_spoiled" = some (some (.ref f_spoiled))) (l_spoiled : K.lookup f_spoiled = some ⟨oc_spoiled, od_spoiled, .func (PySem.W.fnOf "_law_spoiled" "_law_spoiled" (defArgs s_spoiled) (defBody s_spoiled) (defScope s_spoiled) .none kV_spoiled dc_spoiled pm_spoiled an_spoiled cd_spoiled ct_spoiled), sl_spoiled⟩) (c_spoiled : PySem.W.codeIn K cd_spoiled "_law_spoiled" = true) (k_spoiled : PySem.W.keepIn K (.ref f_spoiled) = true)
    {f_kinds : Addr} {od_kinds an_kinds : Option Addr} {sl_kinds : Array (Option Value)} {oc_kinds kV_kinds dc_kinds pm_kinds cd_kinds ct_kinds : Value}
    (a_kinds : PySem.W.nsIn K mainGlobals "_law_kinds" = some (some (.ref f_kinds))) (l_kinds : K.lookup f_kinds = some ⟨oc_kinds, od_kinds, .func (PySem.W.fnOf "_law_kinds" "_law_kinds" (defArgs s_kinds) (defBody s_kinds) (defScope s_kinds) .none kV_kinds dc_kinds pm_kinds an_kinds cd_kinds ct_kinds), sl_kinds⟩) (c_kinds : PySem.W.codeIn K cd_kinds "_law_kinds" = true) (k_kinds : PySem.W.keepIn K (.ref f_kinds) = true)
    {f_law : Addr} {od_law an_law : Option Addr} {sl_law : Array (Option Value)} {oc_law kV_law dc_law pm_law cd_law ct_law : Value}
    (a_law : PySem.W.nsIn K mainGlobals "law" = some (some (.ref f_law))) (l_law : K.lookup f_law = some ⟨oc_law, od_law, .func (PySem.W.fnOf "law" "law" (defArgs s_law) (defBody s_law) (defScope s_law) .none kV_law dc_law pm_law an_law cd_law ct_law), sl_law⟩) (c_law : PySem.W.codeIn K cd_law "law" = true) (k_law : PySem.W.keepIn K (.ref f_law) = true)
    {t_MOST_RINGS : Tok} (y_MOST_RINGS : PySem.W.nsIn K mainGlobals "MOST_RINGS" = some (some (.int 20 t_MOST_RINGS)))
    {t_LETTERS : Tok} (y_LETTERS : PySem.W.nsIn K mainGlobals "LETTERS" = some (some (.str (Str.ofString "abcd") t_LETTERS)))
    {t_LEFT_INWARDS : Tok} (y_LEFT_INWARDS : PySem.W.nsIn K mainGlobals "LEFT_INWARDS" = some (some (.str (Str.ofString "ab") t_LEFT_INWARDS)))
    {t_RIGHT_INWARDS : Tok} (y_RIGHT_INWARDS : PySem.W.nsIn K mainGlobals "RIGHT_INWARDS" = some (some (.str (Str.ofString "ac") t_RIGHT_INWARDS)))
    {c_RingError : Addr} (y_RingError : PySem.W.nsIn K mainGlobals "RingError" = some (some (.ref c_RingError)))
    {c_NoMaze : Addr} (y_NoMaze : PySem.W.nsIn K mainGlobals "NoMaze" = some (some (.ref c_NoMaze)))
    {c_Crossed : Addr} (y_Crossed : PySem.W.nsIn K mainGlobals "Crossed" = some (some (.ref c_Crossed)))
    {c_NoWord : Addr} (y_NoWord : PySem.W.nsIn K mainGlobals "NoWord" = some (some (.ref c_NoWord)))
    {c_NoDrawing : Addr} (y_NoDrawing : PySem.W.nsIn K mainGlobals "NoDrawing" = some (some (.ref c_NoDrawing)))
    {c_NoBow : Addr} (y_NoBow : PySem.W.nsIn K mainGlobals "NoBow" = some (some (.ref c_NoBow)))
    {c_NoRound : Addr} (y_NoRound : PySem.W.nsIn K mainGlobals "NoRound" = some (some (.ref c_NoRound)))
    {c_NoCode : Addr} (y_NoCode : PySem.W.nsIn K mainGlobals "NoCode" = some (some (.ref c_NoCode)))
    {c_NoNumber : Addr} (y_NoNumber : PySem.W.nsIn K mainGlobals "NoNumber" = some (some (.ref c_NoNumber)))
    {c_NoName : Addr} (y_NoName : PySem.W.nsIn K mainGlobals "NoName" = some (some (.ref c_NoName)))
    {c_NoRow : Addr} (y_NoRow : PySem.W.nsIn K mainGlobals "NoRow" = some (some (.ref c_NoRow)))
    {NR : Addr} {dR_x dM_x : Option Addr} {cdR_x : ClassData} {slR_x slM_x : Array (Option Value)} {cM_x : Value} {es2_x : Array DictEntry} {ep2_x : Nat}
    (x_lkR : K.lookup c_RingError = some ⟨.type "type", dR_x, .cls cdR_x, slR_x⟩) (x_eR : cdR_x.ns = NR) (x_lkM : K.lookup NR = some ⟨cM_x, dM_x, .dict es2_x ep2_x, slM_x⟩) (x_nR : L2.strKeys es2_x = true)
    (x_r1 : PySem.W.nsIn K NR "__init__" = some none)
    (x_r2 : PySem.W.nsIn K NR "__getattribute__" = some none)
    (x_r3 : PySem.W.nsIn K NR "__getattr__" = some none)
    (x_r4 : PySem.W.nsIn K NR "args" = some none)
    (x_sp : PySem.W.specialIn K (.builtin "object.__class__") "__get__" = some (some (.builtin "getset_descriptor.__get__"))) (x_tk : PySem.W.takesIn K (.builtin "object.__class__") = some true) (x_rb : PySem.W.mroIn K c_RingError (.type "BaseException") = some true)
    (x_rd : PySem.W.readsIn K c_RingError (.type "type") = true) (x_sg : PySem.W.specialIn K (.ref c_RingError) "__getattribute__" = some (some (.builtin "type.__getattribute__"))) (x_fi : PySem.W.findCls K (.ref c_RingError) (.type "type") "__init__" = some (.val (.builtin "ValueError.__init__")))
    {d_Crossed : Option Addr} {cd_Crossed : ClassData} {sl_Crossed : Array (Option Value)} (x_lk_Crossed : K.lookup c_Crossed = some ⟨.type "type", d_Crossed, .cls cd_Crossed, sl_Crossed⟩)
    {d_NoWord : Option Addr} {cd_NoWord : ClassData} {sl_NoWord : Array (Option Value)} (x_lk_NoWord : K.lookup c_NoWord = some ⟨.type "type", d_NoWord, .cls cd_NoWord, sl_NoWord⟩)
    {d_NoDrawing : Option Addr} {cd_NoDrawing : ClassData} {sl_NoDrawing : Array (Option Value)} (x_lk_NoDrawing : K.lookup c_NoDrawing = some ⟨.type "type", d_NoDrawing, .cls cd_NoDrawing, sl_NoDrawing⟩)
    {d_NoBow : Option Addr} {cd_NoBow : ClassData} {sl_NoBow : Array (Option Value)} (x_lk_NoBow : K.lookup c_NoBow = some ⟨.type "type", d_NoBow, .cls cd_NoBow, sl_NoBow⟩)
    {d_NoRound : Option Addr} {cd_NoRound : ClassData} {sl_NoRound : Array (Option Value)} (x_lk_NoRound : K.lookup c_NoRound = some ⟨.type "type", d_NoRound, .cls cd_NoRound, sl_NoRound⟩)
    {d_NoNumber : Option Addr} {cd_NoNumber : ClassData} {sl_NoNumber : Array (Option Value)} (x_lk_NoNumber : K.lookup c_NoNumber = some ⟨.type "type", d_NoNumber, .cls cd_NoNumber, sl_NoNumber⟩)
    {d_NoName : Option Addr} {cd_NoName : ClassData} {sl_NoName : Array (Option Value)} (x_lk_NoName : K.lookup c_NoName = some ⟨.type "type", d_NoName, .cls cd_NoName, sl_NoName⟩)
    {d_NoRow : Option Addr} {cd_NoRow : ClassData} {sl_NoRow : Array (Option Value)} (x_lk_NoRow : K.lookup c_NoRow = some ⟨.type "type", d_NoRow, .cls cd_NoRow, sl_NoRow⟩)
    {N_NoMaze : Addr} {nm_NoMaze q_NoMaze : Str} {bs_NoMaze : List Value} {hd_NoMaze : Bool} {sn_NoMaze : List Str} {sub_NoMaze : List Value} {ab_NoMaze : Bool} {col_NoMaze : Option Bool} {dd_NoMaze dN_NoMaze : Option Addr} {k0_NoMaze k1_NoMaze k2_NoMaze k3_NoMaze k5_NoMaze : Option Value} {slN_NoMaze : Array (Option Value)} {cN_NoMaze : Value} {es_NoMaze : Array DictEntry} {ep_NoMaze : Nat}
    (e_NoMaze_lkC : K.lookup c_NoMaze = some (excClassObj nm_NoMaze q_NoMaze c_NoMaze N_NoMaze bs_NoMaze (.ref c_RingError :: [.type "ValueError", .type "Exception", .type "BaseException", .type "object"]) hd_NoMaze sn_NoMaze sub_NoMaze ab_NoMaze col_NoMaze dd_NoMaze k0_NoMaze k1_NoMaze k2_NoMaze k3_NoMaze k5_NoMaze "ValueError.__new__")) (e_NoMaze_lkN : K.lookup N_NoMaze = some ⟨cN_NoMaze, dN_NoMaze, .dict es_NoMaze ep_NoMaze, slN_NoMaze⟩) (e_NoMaze_nC : L2.strKeys es_NoMaze = true)
    (e_NoMaze_iC : PySem.W.nsIn K N_NoMaze "__init__" = some none)
    (e_NoMaze_ga : PySem.W.findIn K (.ref c_NoMaze) "__getattribute__" = some (some (.builtin "BaseException.__getattribute__"))) (e_NoMaze_gt : PySem.W.findIn K (.ref c_NoMaze) "__getattr__" = some none) (e_NoMaze_gc : PySem.W.findIn K (.ref c_NoMaze) "__class__" = some (some (.builtin "object.__class__"))) (e_NoMaze_mr : PySem.W.mroIn K c_NoMaze (.type "object") = some true)
    (e_NoMaze_cr : PySem.W.mroIn K c_NoMaze (.ref c_RingError) = some true) (e_NoMaze_vt : PySem.W.mroIn K c_NoMaze (.type "ValueError") = some true) (e_NoMaze_cs : PySem.W.mroIn K c_NoMaze (.ref c_NoMaze) = some true) (e_NoMaze_cb : PySem.W.mroIn K c_NoMaze (.type "BaseException") = some true)
    (e_NoMaze_mr_Crossed : PySem.W.mroIn K c_NoMaze (.ref c_Crossed) = some false) (e_NoMaze_ne_Crossed : (Value.ref c_NoMaze == Value.ref c_Crossed) = false)
    (e_NoMaze_mr_NoWord : PySem.W.mroIn K c_NoMaze (.ref c_NoWord) = some false) (e_NoMaze_ne_NoWord : (Value.ref c_NoMaze == Value.ref c_NoWord) = false)
    (e_NoMaze_mr_NoDrawing : PySem.W.mroIn K c_NoMaze (.ref c_NoDrawing) = some false) (e_NoMaze_ne_NoDrawing : (Value.ref c_NoMaze == Value.ref c_NoDrawing) = false)
    (e_NoMaze_mr_NoBow : PySem.W.mroIn K c_NoMaze (.ref c_NoBow) = some false) (e_NoMaze_ne_NoBow : (Value.ref c_NoMaze == Value.ref c_NoBow) = false)
    (e_NoMaze_mr_NoRound : PySem.W.mroIn K c_NoMaze (.ref c_NoRound) = some false) (e_NoMaze_ne_NoRound : (Value.ref c_NoMaze == Value.ref c_NoRound) = false)
    (e_NoMaze_mr_NoCode : PySem.W.mroIn K c_NoMaze (.ref c_NoCode) = some false) (e_NoMaze_ne_NoCode : (Value.ref c_NoMaze == Value.ref c_NoCode) = false)
    (e_NoMaze_mr_NoNumber : PySem.W.mroIn K c_NoMaze (.ref c_NoNumber) = some false) (e_NoMaze_ne_NoNumber : (Value.ref c_NoMaze == Value.ref c_NoNumber) = false)
    (e_NoMaze_mr_NoName : PySem.W.mroIn K c_NoMaze (.ref c_NoName) = some false) (e_NoMaze_ne_NoName : (Value.ref c_NoMaze == Value.ref c_NoName) = false)
    (e_NoMaze_mr_NoRow : PySem.W.mroIn K c_NoMaze (.ref c_NoRow) = some false) (e_NoMaze_ne_NoRow : (Value.ref c_NoMaze == Value.ref c_NoRow) = false)
    {N_NoCode : Addr} {nm_NoCode q_NoCode : Str} {bs_NoCode : List Value} {sn_NoCode : List Str} {sub_NoCode : List Value} {ab_NoCode : Bool} {col_NoCode : Option Bool} {dd_NoCode dN_NoCode : Option Addr} {k0_NoCode k1_NoCode k2_NoCode k3_NoCode k5_NoCode : Option Value} {slN_NoCode : Array (Option Value)} {cN_NoCode : Value} {es_NoCode : Array DictEntry} {ep_NoCode : Nat}
    {fi_NoCode : Addr} {od_NoCode an_NoCode : Option Addr} {sl_NoCode : Array (Option Value)} {oc_NoCode kV_NoCode dc_NoCode pm_NoCode cd_NoCode ct_NoCode : Value}
    (e_NoCode_lkC : K.lookup c_NoCode = some (excClassObj nm_NoCode q_NoCode c_NoCode N_NoCode bs_NoCode (.ref c_RingError :: [.type "ValueError", .type "Exception", .type "BaseException", .type "object"]) true sn_NoCode sub_NoCode ab_NoCode col_NoCode dd_NoCode k0_NoCode k1_NoCode k2_NoCode k3_NoCode k5_NoCode "ValueError.__new__")) (e_NoCode_lkN : K.lookup N_NoCode = some ⟨cN_NoCode, dN_NoCode, .dict es_NoCode ep_NoCode, slN_NoCode⟩) (e_NoCode_nC : L2.strKeys es_NoCode = true)
    (e_NoCode_iC : PySem.W.nsIn K N_NoCode "__init__" = some (some (.ref fi_NoCode)))
    (e_NoCode_ga : PySem.W.findIn K (.ref c_NoCode) "__getattribute__" = some (some (.builtin "BaseException.__getattribute__"))) (e_NoCode_gt : PySem.W.findIn K (.ref c_NoCode) "__getattr__" = some none) (e_NoCode_gc : PySem.W.findIn K (.ref c_NoCode) "__class__" = some (some (.builtin "object.__class__"))) (e_NoCode_mr : PySem.W.mroIn K c_NoCode (.type "object") = some true)
    (e_NoCode_cr : PySem.W.mroIn K c_NoCode (.ref c_RingError) = some true) (e_NoCode_vt : PySem.W.mroIn K c_NoCode (.type "ValueError") = some true) (e_NoCode_cs : PySem.W.mroIn K c_NoCode (.ref c_NoCode) = some true) (e_NoCode_cb : PySem.W.mroIn K c_NoCode (.type "BaseException") = some true)
    (e_NoCode_mr_NoMaze : PySem.W.mroIn K c_NoCode (.ref c_NoMaze) = some false) (e_NoCode_ne_NoMaze : (Value.ref c_NoCode == Value.ref c_NoMaze) = false)
    (e_NoCode_mr_Crossed : PySem.W.mroIn K c_NoCode (.ref c_Crossed) = some false) (e_NoCode_ne_Crossed : (Value.ref c_NoCode == Value.ref c_Crossed) = false)
    (e_NoCode_mr_NoWord : PySem.W.mroIn K c_NoCode (.ref c_NoWord) = some false) (e_NoCode_ne_NoWord : (Value.ref c_NoCode == Value.ref c_NoWord) = false)
    (e_NoCode_mr_NoDrawing : PySem.W.mroIn K c_NoCode (.ref c_NoDrawing) = some false) (e_NoCode_ne_NoDrawing : (Value.ref c_NoCode == Value.ref c_NoDrawing) = false)
    (e_NoCode_mr_NoBow : PySem.W.mroIn K c_NoCode (.ref c_NoBow) = some false) (e_NoCode_ne_NoBow : (Value.ref c_NoCode == Value.ref c_NoBow) = false)
    (e_NoCode_mr_NoRound : PySem.W.mroIn K c_NoCode (.ref c_NoRound) = some false) (e_NoCode_ne_NoRound : (Value.ref c_NoCode == Value.ref c_NoRound) = false)
    (e_NoCode_mr_NoNumber : PySem.W.mroIn K c_NoCode (.ref c_NoNumber) = some false) (e_NoCode_ne_NoNumber : (Value.ref c_NoCode == Value.ref c_NoNumber) = false)
    (e_NoCode_mr_NoName : PySem.W.mroIn K c_NoCode (.ref c_NoName) = some false) (e_NoCode_ne_NoName : (Value.ref c_NoCode == Value.ref c_NoName) = false)
    (e_NoCode_mr_NoRow : PySem.W.mroIn K c_NoCode (.ref c_NoRow) = some false) (e_NoCode_ne_NoRow : (Value.ref c_NoCode == Value.ref c_NoRow) = false)
    (e_NoCode_sa : PySem.W.findIn K (.ref c_NoCode) "__setattr__" = some (some (.builtin "object.__setattr__"))) (e_NoCode_no : PySem.W.findIn K (.ref c_NoCode) "at" = some none)
    (e_NoCode_fl : K.lookup fi_NoCode = some ⟨oc_NoCode, od_NoCode, .func (PySem.W.fnOf "__init__" "NoCode.__init__" (defArgs s_ini_NoCode) (defBody s_ini_NoCode) (defScope s_ini_NoCode) .none kV_NoCode dc_NoCode pm_NoCode an_NoCode cd_NoCode ct_NoCode), sl_NoCode⟩) (e_NoCode_fc : PySem.W.codeIn K cd_NoCode "NoCode.__init__" = true) (e_NoCode_fk : PySem.W.keepIn K (.ref fi_NoCode) = true) (e_NoCode_ty : PySem.W.typeIn K (.ref fi_NoCode) = some (.type "function")) (e_NoCode_kc : PySem.W.keepIn K (.ref c_NoCode) = true)
    {q_SIDES : Addr} {o_SIDES : Obj} (y_SIDES : PySem.W.nsIn K mainGlobals "SIDES" = some (some (.ref q_SIDES))) (l_SIDES : K.lookup q_SIDES = some o_SIDES) (t_SIDES : L2.StrTup o_SIDES ["l", "r"])
    (z_ValueError : PySem.W.nsIn K mainGlobals "ValueError" = some none) (z_len : PySem.W.nsIn K mainGlobals "len" = some none) (z_list : PySem.W.nsIn K mainGlobals "list" = some none) (z_sorted : PySem.W.nsIn K mainGlobals "sorted" = some none) (z_zip : PySem.W.nsIn K mainGlobals "zip" = some none) (z_max : PySem.W.nsIn K mainGlobals "max" = some none) (z_min : PySem.W.nsIn K mainGlobals "min" = some none) (z_int : PySem.W.nsIn K mainGlobals "int" = some none) (z_range : PySem.W.nsIn K mainGlobals "range" = some none) (z_isinstance : PySem.W.nsIn K mainGlobals "isinstance" = some none) (z_str : PySem.W.nsIn K mainGlobals "str" = some none) (z_reversed : PySem.W.nsIn K mainGlobals "reversed" = some none) (z_enumerate : PySem.W.nsIn K mainGlobals "enumerate" = some none) (z_tuple : PySem.W.nsIn K mainGlobals "tuple" = some none) (z_abs : PySem.W.nsIn K mainGlobals "abs" = some none) (z_bool : PySem.W.nsIn K mainGlobals "bool" = some none) :
    ∃ fd : FuncData, (∀ (s : Shared) (v : Value), BindsTo s fd ⟨[v], []⟩ [("_law_script", v)]) ∧ ∀ base : Heap, K.In base → base.Ns mainGlobals mg → FnOk l.prog w K mg base CX0 7 fa fd ["_law_script"] (spLaw K) := by
  have B : Blt mg := ⟨PySem.W.mg_none_of X G z_ValueError, PySem.W.mg_none_of X G z_len, PySem.W.mg_none_of X G z_list, PySem.W.mg_none_of X G z_sorted, PySem.W.mg_none_of X G z_zip, PySem.W.mg_none_of X G z_max, PySem.W.mg_none_of X G z_min, PySem.W.mg_none_of X G z_int, PySem.W.mg_none_of X G z_range, PySem.W.mg_none_of X G z_isinstance, PySem.W.mg_none_of X G z_str, PySem.W.mg_none_of X G z_reversed, PySem.W.mg_none_of X G z_enumerate, PySem.W.mg_none_of X G z_tuple, PySem.W.mg_none_of X G z_abs, PySem.W.mg_none_of X G z_bool, ⟨_, PySem.W.mg_of X G y_MOST_RINGS⟩, ⟨_, PySem.W.mg_of X G y_LETTERS⟩, ⟨_, PySem.W.mg_of X G y_LEFT_INWARDS⟩, ⟨_, PySem.W.mg_of X G y_RIGHT_INWARDS⟩⟩
  have C_RingError : mg "RingError" = some (.ref c_RingError) := PySem.W.mg_of X G y_RingError
  have C_NoMaze : mg "NoMaze" = some (.ref c_NoMaze) := PySem.W.mg_of X G y_NoMaze
  have C_Crossed : mg "Crossed" = some (.ref c_Crossed) := PySem.W.mg_of X G y_Crossed
  have C_NoWord : mg "NoWord" = some (.ref c_NoWord) := PySem.W.mg_of X G y_NoWord
  have C_NoDrawing : mg "NoDrawing" = some (.ref c_NoDrawing) := PySem.W.mg_of X G y_NoDrawing
  have C_NoBow : mg "NoBow" = some (.ref c_NoBow) := PySem.W.mg_of X G y_NoBow
  have C_NoRound : mg "NoRound" = some (.ref c_NoRound) := PySem.W.mg_of X G y_NoRound
  have C_NoCode : mg "NoCode" = some (.ref c_NoCode) := PySem.W.mg_of X G y_NoCode
  have C_NoNumber : mg "NoNumber" = some (.ref c_NoNumber) := PySem.W.mg_of X G y_NoNumber
  have C_NoName : mg "NoName" = some (.ref c_NoName) := PySem.W.mg_of X G y_NoName
  have C_NoRow : mg "NoRow" = some (.ref c_NoRow) := PySem.W.mg_of X G y_NoRow
  have XF_NoMaze : L2.ExcK K c_NoMaze ∧ ∀ base : Heap, K.In base → base.Ns mainGlobals mg → OwnCls "NoMaze" c_NoMaze [.type "ValueError", .type "Exception", .type "BaseException", .type "object"] "ValueError.__new__" mg base := ⟨(L2.exc_facts X G y_NoMaze e_NoMaze_lkC x_lkR (L2.nsOk_of e_NoMaze_lkN e_NoMaze_nC) e_NoMaze_iC x_eR (L2.nsOk_of x_lkM x_nR) x_r1 x_r2 x_r3 x_r4 F.attrBase_ValueError e_NoMaze_ga e_NoMaze_gt e_NoMaze_gc x_sp x_tk e_NoMaze_mr).2, fun base KB GB => (L2.exc_facts KB GB y_NoMaze e_NoMaze_lkC x_lkR (L2.nsOk_of e_NoMaze_lkN e_NoMaze_nC) e_NoMaze_iC x_eR (L2.nsOk_of x_lkM x_nR) x_r1 x_r2 x_r3 x_r4 F.attrBase_ValueError e_NoMaze_ga e_NoMaze_gt e_NoMaze_gc x_sp x_tk e_NoMaze_mr).1⟩
  have XJ_NoMaze : L2.Jst K c_NoMaze [c_NoMaze, c_Crossed, c_NoWord, c_NoDrawing, c_NoBow, c_NoRound, c_NoCode, c_NoNumber, c_NoName, c_NoRow] 0 := ⟨XF_NoMaze.1, fun j d h => match j, h with | 0, h => by cases h; exact L2.kit_self | 1, h => by cases h; exact L2.kit_other e_NoMaze_ne_Crossed x_lk_Crossed e_NoMaze_mr_Crossed | 2, h => by cases h; exact L2.kit_other e_NoMaze_ne_NoWord x_lk_NoWord e_NoMaze_mr_NoWord | 3, h => by cases h; exact L2.kit_other e_NoMaze_ne_NoDrawing x_lk_NoDrawing e_NoMaze_mr_NoDrawing | 4, h => by cases h; exact L2.kit_other e_NoMaze_ne_NoBow x_lk_NoBow e_NoMaze_mr_NoBow | 5, h => by cases h; exact L2.kit_other e_NoMaze_ne_NoRound x_lk_NoRound e_NoMaze_mr_NoRound | 6, h => by cases h; exact L2.kit_other e_NoMaze_ne_NoCode e_NoCode_lkC e_NoMaze_mr_NoCode | 7, h => by cases h; exact L2.kit_other e_NoMaze_ne_NoNumber x_lk_NoNumber e_NoMaze_mr_NoNumber | 8, h => by cases h; exact L2.kit_other e_NoMaze_ne_NoName x_lk_NoName e_NoMaze_mr_NoName | 9, h => by cases h; exact L2.kit_other e_NoMaze_ne_NoRow x_lk_NoRow e_NoMaze_mr_NoRow | j + 10, h => by simp at h, L2.kit_type (by decide) e_NoMaze_vt⟩
  have XM_NoMaze : PySem.W.exmOne K (.ref c_NoMaze) (.ref c_RingError) = some true := L2.exm_own x_lkR e_NoMaze_cr x_rb
  have XS_NoMaze : PySem.W.exmOne K (.ref c_NoMaze) (.ref c_NoMaze) = some true := L2.exm_own e_NoMaze_lkC e_NoMaze_cs e_NoMaze_cb
  have XN_NoMaze_NoCode : PySem.W.exmOne K (.ref c_NoMaze) (.ref c_NoCode) = some false := L2.exm_own e_NoCode_lkC e_NoMaze_mr_NoCode e_NoCode_cb
  have IF_NoCode := fun (base : Heap) (KB : K.In base) (GB : base.Ns mainGlobals mg) => L2.exc_factsI (f := "at") KB GB y_NoCode e_NoCode_lkC x_lkR (L2.nsOk_of e_NoCode_lkN e_NoCode_nC) e_NoCode_iC x_eR (L2.nsOk_of x_lkM x_nR) x_r1 x_r2 x_r3 x_r4 F.attrBase_ValueError e_NoCode_ga e_NoCode_gt e_NoCode_sa e_NoCode_no (by simp) F.store_ValueError.passes
  have IA_NoCode : L2.ExcA K c_NoCode "at" := (IF_NoCode h X G).2.1
  have FI_NoCode := fun_mk (st := s_ini_NoCode) e_NoCode_fl e_NoCode_fc e_NoCode_fk
  have XK_NoCode : L2.ExcKD K c_NoCode := L2.excKD_of (cR := .type "type") (cdR := cdR_x) (dR := dR_x) (slR := slR_x) (NR := NR) e_NoCode_lkC IA_NoCode e_NoCode_gc x_sp x_tk e_NoCode_mr
  have XJ_NoCode : L2.JstD K c_NoCode [c_NoMaze, c_Crossed, c_NoWord, c_NoDrawing, c_NoBow, c_NoRound, c_NoCode, c_NoNumber, c_NoName, c_NoRow] 6 := ⟨fun j d h => match j, h with | 0, h => by cases h; exact L2.kit_other e_NoCode_ne_NoMaze e_NoMaze_lkC e_NoCode_mr_NoMaze | 1, h => by cases h; exact L2.kit_other e_NoCode_ne_Crossed x_lk_Crossed e_NoCode_mr_Crossed | 2, h => by cases h; exact L2.kit_other e_NoCode_ne_NoWord x_lk_NoWord e_NoCode_mr_NoWord | 3, h => by cases h; exact L2.kit_other e_NoCode_ne_NoDrawing x_lk_NoDrawing e_NoCode_mr_NoDrawing | 4, h => by cases h; exact L2.kit_other e_NoCode_ne_NoBow x_lk_NoBow e_NoCode_mr_NoBow | 5, h => by cases h; exact L2.kit_other e_NoCode_ne_NoRound x_lk_NoRound e_NoCode_mr_NoRound | 6, h => by cases h; exact L2.kit_self | 7, h => by cases h; exact L2.kit_other e_NoCode_ne_NoNumber x_lk_NoNumber e_NoCode_mr_NoNumber | 8, h => by cases h; exact L2.kit_other e_NoCode_ne_NoName x_lk_NoName e_NoCode_mr_NoName | 9, h => by cases h; exact L2.kit_other e_NoCode_ne_NoRow x_lk_NoRow e_NoCode_mr_NoRow | j + 10, h => by simp at h, L2.kit_type (by decide) e_NoCode_vt⟩
  have XM_NoCode : PySem.W.exmOne K (.ref c_NoCode) (.ref c_RingError) = some true := L2.exm_own x_lkR e_NoCode_cr x_rb
  have XS_NoCode : PySem.W.exmOne K (.ref c_NoCode) (.ref c_NoCode) = some true := L2.exm_own e_NoCode_lkC e_NoCode_cs e_NoCode_cb
  have XN_NoCode_NoMaze : PySem.W.exmOne K (.ref c_NoCode) (.ref c_NoMaze) = some false := L2.exm_own e_NoMaze_lkC e_NoCode_mr_NoMaze e_NoMaze_cb
  have UK : L2.UpK K c_RingError "ValueError.__init__" := ⟨x_rd, x_sg, x_fi, L2.handed_ve⟩
  have G_SIDES := L2.glob_tup X G y_SIDES l_SIDES t_SIDES
  have E_is_side : Fn K mg "is_side" s_is_side ["thing"] := fn_mk X G a_is_side l_is_side c_is_side k_is_side fun _ _ _ _ _ _ => L2.us1 fun _ => rfl
  have E_other_side : Fn K mg "other_side" s_other_side ["side"] := fn_mk X G a_other_side l_other_side c_other_side k_other_side fun _ _ _ _ _ _ => L2.us1 fun _ => rfl
  have E_begun : Fn K mg "begun" s_begun ["side"] := fn_mk X G a_begun l_begun c_begun k_begun fun _ _ _ _ _ _ => L2.us1 fun _ => rfl
  have E_leading_on : Fn K mg "leading_on" s_leading_on ["state"] := fn_mk X G a_leading_on l_leading_on c_leading_on k_leading_on fun _ _ _ _ _ _ => L2.us1 fun _ => rfl
  have E_other_end : Fn K mg "other_end" s_other_end ["signs", "place"] := fn_mk X G a_other_end l_other_end c_other_end k_other_end fun _ _ _ _ _ _ => L2.us2 fun _ _ => rfl
  have E_joined : Fn K mg "joined" s_joined ["left", "right"] := fn_mk X G a_joined l_joined c_joined k_joined fun _ _ _ _ _ _ => L2.us2 fun _ _ => rfl
  have E_step : Fn K mg "step" s_step ["state", "letter"] := fn_mk X G a_step l_step c_step k_step fun _ _ _ _ _ _ => L2.us2 fun _ _ => rfl
  have E_vet_code : Fn K mg "vet_code" s_vet_code ["side", "code"] := fn_mk X G a_vet_code l_vet_code c_vet_code k_vet_code fun _ _ _ _ _ _ => L2.us2 fun _ _ => rfl
  have E_rows_across : Fn K mg "rows_across" s_rows_across ["code", "inwards", "begins_here"] := fn_mk X G a_rows_across l_rows_across c_rows_across k_rows_across fun _ _ _ _ _ _ => L2.us3 fun _ _ _ => rfl
  have E_decoded : Fn K mg "decoded" s_decoded ["side", "code"] := fn_mk X G a_decoded l_decoded c_decoded k_decoded fun _ _ _ _ _ _ => L2.us2 fun _ _ => rfl
  have E_cell_at : Fn K mg "_law_cell_at" s_cell_at ["_law_script", "_law_k"] := fn_mk X G a_cell_at l_cell_at c_cell_at k_cell_at fun _ _ _ _ _ _ => L2.us2 fun _ _ => rfl
  have E_mixed : Fn K mg "_law_mixed" s_mixed ["_law_cell"] := fn_mk X G a_mixed l_mixed c_mixed k_mixed fun _ _ _ _ _ _ => L2.us1 fun _ => rfl
  have E_rest_of : Fn K mg "_law_rest_of" s_rest_of ["_law_cell"] := fn_mk X G a_rest_of l_rest_of c_rest_of k_rest_of fun _ _ _ _ _ _ => L2.us1 fun _ => rfl
  have E_go : Fn K mg "_law_go" s_go ["_law_ends", "_law_letter"] := fn_mk X G a_go l_go c_go k_go fun _ _ _ _ _ _ => L2.us2 fun _ _ => rfl
  have E_at_first : Fn K mg "_law_at_first" s_at_first ["_law_side"] := fn_mk X G a_at_first l_at_first c_at_first k_at_first fun _ _ _ _ _ _ => L2.us1 fun _ => rfl
  have E_closing : Fn K mg "_law_closing" s_closing ["_law_ends"] := fn_mk X G a_closing l_closing c_closing k_closing fun _ _ _ _ _ _ => L2.us1 fun _ => rfl
  have E_code_by : Fn K mg "_law_code_by" s_code_by ["_law_rest", "_law_side", "_law_many"] := fn_mk X G a_code_by l_code_by c_code_by k_code_by fun _ _ _ _ _ _ => L2.us3 fun _ _ _ => rfl
  have E_wrong_at : Fn K mg "_law_wrong_at" s_wrong_at ["_law_side", "_law_code"] := fn_mk X G a_wrong_at l_wrong_at c_wrong_at k_wrong_at fun _ _ _ _ _ _ => L2.us2 fun _ _ => rfl
  have E_spoiled : Fn K mg "_law_spoiled" s_spoiled ["_law_cell", "_law_code"] := fn_mk X G a_spoiled l_spoiled c_spoiled k_spoiled fun _ _ _ _ _ _ => L2.us2 fun _ _ => rfl
  have E_kinds : Fn K mg "_law_kinds" s_kinds ["_law_side", "_law_code"] := fn_mk X G a_kinds l_kinds c_kinds k_kinds fun _ _ _ _ _ _ => L2.us2 fun _ _ => rfl
  have E_law : Fn K mg "law" s_law ["_law_script"] := fn_mk X G a_law l_law c_law k_law fun _ _ _ _ _ _ => L2.us1 fun _ => rfl
  have key : ∀ base : Heap, K.In base → base.Ns mainGlobals mg → Def l.prog w K mg base 7 "law" s_law ["_law_script"] (spLaw K) := fun base KB GB => by
    have O_NoMaze := XF_NoMaze.2 base KB GB
    have O_NoCode : L2.DefI l.prog w K mg base 1 "NoCode" c_NoCode "at" L2.okN := ⟨fi_NoCode, _, _, _, _, _, _, (IF_NoCode base KB GB).1, PySem.F.excBase_ValueError, ok_ini_NoCode (IF_NoCode base KB GB).1 PySem.F.excBase_ValueError UK C_RingError (IF_NoCode h X G).2.2 FI_NoCode, e_NoCode_ty, e_NoCode_kc, FI_NoCode.binds fun _ _ _ _ _ _ => L2.us2 fun _ _ => rfl, L2.okN_stay⟩
    have D_is_side := ok_is_side (P := l.prog) (w := w) (base := base) G_SIDES E_is_side
    have D_other_side := ok_other_side (P := l.prog) (w := w) (base := base) E_other_side
    have D_begun := ok_begun (P := l.prog) (w := w) (base := base) E_begun
    have D_leading_on := ok_leading_on (P := l.prog) (w := w) (base := base) B E_leading_on
    have D_other_end := ok_other_end (P := l.prog) (w := w) (base := base) E_other_end
    have D_joined := ok_joined B E_joined D_other_end
    have D_step := ok_step B E_step D_joined
    have D_vet_code := ok_vet_code O_NoCode B E_vet_code D_begun D_step D_leading_on
    have D_rows_across := ok_rows_across (P := l.prog) (w := w) (base := base) B E_rows_across
    have D_decoded := ok_decoded O_NoMaze B E_decoded D_is_side D_other_side D_vet_code D_rows_across
    have D_cell_at := ok_cell_at (P := l.prog) (w := w) (base := base) B E_cell_at
    have D_mixed := ok_mixed (P := l.prog) (w := w) (base := base) E_mixed
    have D_rest_of := ok_rest_of E_rest_of D_mixed
    have D_go := ok_go (P := l.prog) (w := w) (base := base) B E_go
    have D_at_first := ok_at_first (P := l.prog) (w := w) (base := base) E_at_first
    have D_closing := ok_closing (P := l.prog) (w := w) (base := base) B E_closing
    have D_code_by := ok_code_by B E_code_by D_at_first (D_go.weak go_weak) D_closing
    have D_wrong_at := ok_wrong_at B E_wrong_at D_at_first D_go
    have D_spoiled := ok_spoiled (P := l.prog) (w := w) (base := base) B E_spoiled
    have D_kinds := ok_kinds B C_RingError C_NoMaze C_Crossed C_NoWord C_NoDrawing C_NoBow C_NoRound C_NoCode C_NoNumber C_NoName C_NoRow XM_NoMaze XM_NoCode XF_NoMaze.1 XK_NoCode IA_NoCode XJ_NoMaze.d XJ_NoCode E_kinds D_decoded
    exact ok_law B E_law D_cell_at D_rest_of D_code_by D_spoiled D_wrong_at D_kinds
  have e := hfa.symm.trans (PySem.W.mg_of X G a_law)
  cases e
  refine ⟨PySem.W.fnOf "law" "law" (defArgs s_law) (defBody s_law) (defScope s_law) .none kV_law dc_law pm_law an_law cd_law ct_law, fun s v => .of_eq rfl, fun base KB GB => ?_⟩
  obtain ⟨f, fd, F, m, b, ok⟩ := (key base KB GB).ex
  rw [PySem.W.mg_of X G a_law] at m
  cases m
  obtain ⟨_, _, _, _, _, _, _, _, _, rfl, lk, _⟩ := F.ex
  rw [l_law] at lk
  cases lk
  exact ok
theorem walk {l : PySem.W.OpenLaw} {q : Program} {loose : List Str} {XP : (Str → Option Value) → Heap → Prop} {YP : World → Heap → Prop} {d : DefRec} {K : Params → PySem.W.Frag} (hn : l.most = some 63) (hdf : d.params.defaults = [])
    (hY : ∀ (w : World) (h : Heap), YP w h → (K w.params).In h)
    (F : ∀ (w : World) (mg : Str → Option Value) (fa : Addr) (h : Heap), (K w.params).In h → h.Ns mainGlobals mg → mg d.name = some (.ref fa) →
      ∃ fd : FuncData, (∀ (s : Shared) (u : Value), BindsTo s fd ⟨[u], []⟩ [("_law_script", u)]) ∧ ∀ base : Heap, (K w.params).In base → base.Ns mainGlobals mg → FnOk l.prog w (K w.params) mg base CX0 7 fa fd ["_law_script"] (spLaw (K w.params))) :
    PySem.W.WalkO q loose XP YP l.row.toRowW d [] (fun f vs => PySem.call f vs) :=
  L2.walk_of (n := 63) (k := 7) (x := "_law_script") (CX := fun _ => CX0) (sp := fun w => spLaw (K w.params)) hn (by decide) hdf ⟨rfl, by decide, by decide, rfl⟩ hY F (fun _ _ a ns hl _ hS => ⟨a, ns, rfl, hS, hl, fun _ => rfl⟩) fun _ _ _ _ _ z => z
end Rm
open PySem PySem.W PyProof.Rows
set_option maxRecDepth 100000 in
set_option maxHeartbeats 0 in
theorem PySem.Challenge.cw_ringmaze_k32_no_codes_holds : PySem.Challenge.rw_ringmaze_k32_no_codes.Holds := by
  w_on; o_law; k_head; (case hw => w_witness2)
  k_fill
  refine Rm.walk (l := PySem.Challenge.rw_ringmaze_k32_no_codes) rfl rfl (fun w h Y => PySem.W.kIn_of Y) ?F
  case F =>
    intro w mg fa h KX G hmg
    refine' Rm.all_mk KX G hmg ?a_is_side ?l_is_side ?c_is_side ?k_is_side ?a_other_side ?l_other_side ?c_other_side ?k_other_side ?a_begun ?l_begun ?c_begun ?k_begun ?a_leading_on ?l_leading_on ?c_leading_on ?k_leading_on ?a_other_end ?l_other_end ?c_other_end ?k_other_end ?a_joined ?l_joined ?c_joined ?k_joined ?a_step ?l_step ?c_step ?k_step ?a_vet_code ?l_vet_code ?c_vet_code ?k_vet_code ?a_rows_across ?l_rows_across ?c_rows_across ?k_rows_across ?a_decoded ?l_decoded ?c_decoded ?k_decoded ?a_cell_at ?l_cell_at ?c_cell_at ?k_cell_at ?a_mixed ?l_mixed ?c_mixed ?k_mixed ?a_rest_of ?l_rest_of ?c_rest_of ?k_rest_of ?a_go ?l_go ?c_go ?k_go ?a_at_first ?l_at_first ?c_at_first ?k_at_first ?a_closing ?l_closing ?c_closing ?k_closing ?a_code_by ?l_code_by ?c_code_by ?k_code_by ?a_wrong_at ?l_wrong_at ?c_wrong_at ?k_wrong_at ?a_spoiled ?l_spoiled ?c_spoiled ?k_spoiled ?a_kinds ?l_kinds ?c_kinds ?k_kinds ?a_law ?l_law ?c_law ?k_law ?y_MOST_RINGS ?y_LETTERS ?y_LEFT_INWARDS ?y_RIGHT_INWARDS ?y_RingError ?y_NoMaze ?y_Crossed ?y_NoWord ?y_NoDrawing ?y_NoBow ?y_NoRound ?y_NoCode ?y_NoNumber ?y_NoName ?y_NoRow ?x_lkR ?x_eR ?x_lkM ?x_nR ?x_r1 ?x_r2 ?x_r3 ?x_r4 ?x_sp ?x_tk ?x_rb ?x_rd ?x_sg ?x_fi ?x_lk_Crossed ?x_lk_NoWord ?x_lk_NoDrawing ?x_lk_NoBow ?x_lk_NoRound ?x_lk_NoNumber ?x_lk_NoName ?x_lk_NoRow ?e_NoMaze_lkC ?e_NoMaze_lkN ?e_NoMaze_nC ?e_NoMaze_iC ?e_NoMaze_ga ?e_NoMaze_gt ?e_NoMaze_gc ?e_NoMaze_mr ?e_NoMaze_cr ?e_NoMaze_vt ?e_NoMaze_cs ?e_NoMaze_cb ?e_NoMaze_mr_Crossed ?e_NoMaze_ne_Crossed ?e_NoMaze_mr_NoWord ?e_NoMaze_ne_NoWord ?e_NoMaze_mr_NoDrawing ?e_NoMaze_ne_NoDrawing ?e_NoMaze_mr_NoBow ?e_NoMaze_ne_NoBow ?e_NoMaze_mr_NoRound ?e_NoMaze_ne_NoRound ?e_NoMaze_mr_NoCode ?e_NoMaze_ne_NoCode ?e_NoMaze_mr_NoNumber ?e_NoMaze_ne_NoNumber ?e_NoMaze_mr_NoName ?e_NoMaze_ne_NoName ?e_NoMaze_mr_NoRow ?e_NoMaze_ne_NoRow ?e_NoCode_lkC ?e_NoCode_lkN ?e_NoCode_nC ?e_NoCode_iC ?e_NoCode_ga ?e_NoCode_gt ?e_NoCode_gc ?e_NoCode_mr ?e_NoCode_cr ?e_NoCode_vt ?e_NoCode_cs ?e_NoCode_cb ?e_NoCode_mr_NoMaze ?e_NoCode_ne_NoMaze ?e_NoCode_mr_Crossed ?e_NoCode_ne_Crossed ?e_NoCode_mr_NoWord ?e_NoCode_ne_NoWord ?e_NoCode_mr_NoDrawing ?e_NoCode_ne_NoDrawing ?e_NoCode_mr_NoBow ?e_NoCode_ne_NoBow ?e_NoCode_mr_NoRound ?e_NoCode_ne_NoRound ?e_NoCode_mr_NoNumber ?e_NoCode_ne_NoNumber ?e_NoCode_mr_NoName ?e_NoCode_ne_NoName ?e_NoCode_mr_NoRow ?e_NoCode_ne_NoRow ?e_NoCode_sa ?e_NoCode_no ?e_NoCode_fl ?e_NoCode_fc ?e_NoCode_fk ?e_NoCode_ty ?e_NoCode_kc ?y_SIDES ?l_SIDES ?t_SIDES ?z_ValueError ?z_len ?z_list ?z_sorted ?z_zip ?z_max ?z_min ?z_int ?z_range ?z_isinstance ?z_str ?z_reversed ?z_enumerate ?z_tuple ?z_abs ?z_bool
    (case a_is_side => k_is)
    (case l_is_side => k_is)
    (case c_is_side => k_is)
    (case k_is_side => k_is)
    (case a_other_side => k_is)
    (case l_other_side => k_is)
    (case c_other_side => k_is)
    (case k_other_side => k_is)
    (case a_begun => k_is)
    (case l_begun => k_is)
    (case c_begun => k_is)
    (case k_begun => k_is)
    (case a_leading_on => k_is)
    (case l_leading_on => k_is)
    (case c_leading_on => k_is)
    (case k_leading_on => k_is)
    (case a_other_end => k_is)
    (case l_other_end => k_is)
    (case c_other_end => k_is)
    (case k_other_end => k_is)
    (case a_joined => k_is)
    (case l_joined => k_is)
    (case c_joined => k_is)
    (case k_joined => k_is)
    (case a_step => k_is)
    (case l_step => k_is)
    (case c_step => k_is)
    (case k_step => k_is)
    (case a_vet_code => k_is)
    (case l_vet_code => k_is)
    (case c_vet_code => k_is)
    (case k_vet_code => k_is)
    (case a_rows_across => k_is)
    (case l_rows_across => k_is)
    (case c_rows_across => k_is)
    (case k_rows_across => k_is)
    (case a_decoded => k_is)
    (case l_decoded => k_is)
    (case c_decoded => k_is)
    (case k_decoded => k_is)
    (case a_cell_at => k_is)
    (case l_cell_at => k_is)
    (case c_cell_at => k_is)
    (case k_cell_at => k_is)
    (case a_mixed => k_is)
    (case l_mixed => k_is)
    (case c_mixed => k_is)
    (case k_mixed => k_is)
    (case a_rest_of => k_is)
    (case l_rest_of => k_is)
    (case c_rest_of => k_is)
    (case k_rest_of => k_is)
    (case a_go => k_is)
    (case l_go => k_is)
    (case c_go => k_is)
    (case k_go => k_is)
    (case a_at_first => k_is)
    (case l_at_first => k_is)
    (case c_at_first => k_is)
    (case k_at_first => k_is)
    (case a_closing => k_is)
    (case l_closing => k_is)
    (case c_closing => k_is)
    (case k_closing => k_is)
    (case a_code_by => k_is)
    (case l_code_by => k_is)
    (case c_code_by => k_is)
    (case k_code_by => k_is)
    (case a_wrong_at => k_is)
    (case l_wrong_at => k_is)
    (case c_wrong_at => k_is)
    (case k_wrong_at => k_is)
    (case a_spoiled => k_is)
    (case l_spoiled => k_is)
    (case c_spoiled => k_is)
    (case k_spoiled => k_is)
    (case a_kinds => k_is)
    (case l_kinds => k_is)
    (case c_kinds => k_is)
    (case k_kinds => k_is)
    (case a_law => k_is)
    (case l_law => k_is)
    (case c_law => k_is)
    (case k_law => k_is)
    (case y_MOST_RINGS => k_is)
    (case y_LETTERS => k_is)
    (case y_LEFT_INWARDS => k_is)
    (case y_RIGHT_INWARDS => k_is)
    (case y_RingError => k_is)
    (case y_NoMaze => k_is)
    (case y_Crossed => k_is)
    (case y_NoWord => k_is)
    (case y_NoDrawing => k_is)
    (case y_NoBow => k_is)
    (case y_NoRound => k_is)
    (case y_NoCode => k_is)
    (case y_NoNumber => k_is)
    (case y_NoName => k_is)
    (case y_NoRow => k_is)
    (case x_lkR => k_is)
    (case x_eR => first | rfl | k_is)
    (case x_lkM => k_is)
    (case x_nR => first | rfl | k_is)
    (case x_r1 => k_is)
    (case x_r2 => k_is)
    (case x_r3 => k_is)
    (case x_r4 => k_is)
    (case x_sp => k_is)
    (case x_tk => k_is)
    (case x_rb => k_is)
    (case x_rd => k_is)
    (case x_sg => k_is)
    (case x_fi => k_is)
    (case x_lk_Crossed => k_is)
    (case x_lk_NoWord => k_is)
    (case x_lk_NoDrawing => k_is)
    (case x_lk_NoBow => k_is)
    (case x_lk_NoRound => k_is)
    (case x_lk_NoNumber => k_is)
    (case x_lk_NoName => k_is)
    (case x_lk_NoRow => k_is)
    (case e_NoMaze_lkC => k_is)
    (case e_NoMaze_lkN => k_is)
    (case e_NoMaze_nC => first | rfl | k_is)
    (case e_NoMaze_iC => k_is)
    (case e_NoMaze_ga => k_is)
    (case e_NoMaze_gt => k_is)
    (case e_NoMaze_gc => k_is)
    (case e_NoMaze_mr => k_is)
    (case e_NoMaze_cr => k_is)
    (case e_NoMaze_vt => k_is)
    (case e_NoMaze_cs => k_is)
    (case e_NoMaze_cb => k_is)
    (case e_NoMaze_mr_Crossed => k_is)
    (case e_NoMaze_ne_Crossed => first | rfl | k_is)
    (case e_NoMaze_mr_NoWord => k_is)
    (case e_NoMaze_ne_NoWord => first | rfl | k_is)
    (case e_NoMaze_mr_NoDrawing => k_is)
    (case e_NoMaze_ne_NoDrawing => first | rfl | k_is)
    (case e_NoMaze_mr_NoBow => k_is)
    (case e_NoMaze_ne_NoBow => first | rfl | k_is)
    (case e_NoMaze_mr_NoRound => k_is)
    (case e_NoMaze_ne_NoRound => first | rfl | k_is)
    (case e_NoMaze_mr_NoCode => k_is)
    (case e_NoMaze_ne_NoCode => first | rfl | k_is)
    (case e_NoMaze_mr_NoNumber => k_is)
    (case e_NoMaze_ne_NoNumber => first | rfl | k_is)
    (case e_NoMaze_mr_NoName => k_is)
    (case e_NoMaze_ne_NoName => first | rfl | k_is)
    (case e_NoMaze_mr_NoRow => k_is)
    (case e_NoMaze_ne_NoRow => first | rfl | k_is)
    (case e_NoCode_lkC => k_is)
    (case e_NoCode_lkN => k_is)
    (case e_NoCode_nC => first | rfl | k_is)
    (case e_NoCode_iC => k_is)
    (case e_NoCode_ga => k_is)
    (case e_NoCode_gt => k_is)
    (case e_NoCode_gc => k_is)
    (case e_NoCode_mr => k_is)
    (case e_NoCode_cr => k_is)
    (case e_NoCode_vt => k_is)
    (case e_NoCode_cs => k_is)
    (case e_NoCode_cb => k_is)
    (case e_NoCode_mr_NoMaze => k_is)
    (case e_NoCode_ne_NoMaze => first | rfl | k_is)
    (case e_NoCode_mr_Crossed => k_is)
    (case e_NoCode_ne_Crossed => first | rfl | k_is)
    (case e_NoCode_mr_NoWord => k_is)
    (case e_NoCode_ne_NoWord => first | rfl | k_is)
    (case e_NoCode_mr_NoDrawing => k_is)
    (case e_NoCode_ne_NoDrawing => first | rfl | k_is)
    (case e_NoCode_mr_NoBow => k_is)
    (case e_NoCode_ne_NoBow => first | rfl | k_is)
    (case e_NoCode_mr_NoRound => k_is)
    (case e_NoCode_ne_NoRound => first | rfl | k_is)
    (case e_NoCode_mr_NoNumber => k_is)
    (case e_NoCode_ne_NoNumber => first | rfl | k_is)
    (case e_NoCode_mr_NoName => k_is)
    (case e_NoCode_ne_NoName => first | rfl | k_is)
    (case e_NoCode_mr_NoRow => k_is)
    (case e_NoCode_ne_NoRow => first | rfl | k_is)
    (case e_NoCode_sa => k_is)
    (case e_NoCode_no => k_is)
    (case e_NoCode_fl => k_is)
    (case e_NoCode_fc => k_is)
    (case e_NoCode_fk => k_is)
    (case e_NoCode_ty => k_is)
    (case e_NoCode_kc => k_is)
    (case y_SIDES => k_is)
    (case l_SIDES => k_is)
    (case t_SIDES => exact L2.strTup_of rfl rfl (by decide) (.cons ⟨_, rfl⟩ (.cons ⟨_, rfl⟩ .nil)))
    (case z_ValueError => k_is)
    (case z_len => k_is)
    (case z_list => k_is)
    (case z_sorted => k_is)
    (case z_zip => k_is)
    (case z_max => k_is)
    (case z_min => k_is)
    (case z_int => k_is)
    (case z_range => k_is)
    (case z_isinstance => k_is)
    (case z_str => k_is)
    (case z_reversed => k_is)
    (case z_enumerate => k_is)
    (case z_tuple => k_is)
    (case z_abs => k_is)
    (case z_bool => k_is)
#print axioms PySem.Challenge.cw_ringmaze_k32_no_codes_holds

