/- Rows of grants that may be: their parts, and what may not. Plain mathematics. -/
import Derived.Test.YtbgpjboefnacgaaGra
namespace Go.Proofs.Ytbgpjboefnacgaa
open Go.RowKit
set_option linter.unusedVariables false

theorem less_iff {g h : G} : lessG g h = true ↔ g.a < h.a ∨ (g.a = h.a ∧ (g.f < h.f ∨ (g.f = h.f ∧ g.t < h.t))) := by
  unfold lessG
  split
  · simp; omega
  · split
    · simp; omega
    · simp; omega
theorem less_irr (g : G) : lessG g g = false := by
  cases h : lessG g g
  · rfl
  · have := less_iff.1 h; omega
theorem less_trans {g h k : G} (h1 : lessG g h = true) (h2 : lessG h k = true) : lessG g k = true := by
  have := less_iff.1 h1
  have := less_iff.1 h2
  exact less_iff.2 (by omega)
/-- What it is for a row that it may be. -/
theorem check_iff {up : List Nat} {l : List G} : checkG up l = true ↔ l.length ≤ 64 ∧ (∀ i (h : i < l.length), fitsG up l[i] = true) ∧ ∀ i (h : i + 1 < l.length), lessG l[i] l[i + 1] = true := by
  unfold checkG
  simp only [Bool.and_eq_true, decide_eq_true_eq, List.all_eq_true, List.mem_range]
  refine and_congr_right fun h64 => ⟨fun h => ⟨fun i hi => ?_, fun i hi => ?_⟩, fun ⟨h1, h2⟩ i hi => ?_⟩
  · have := h i hi
    unfold okG at this
    rw [getG_at l i hi] at this
    simp only [Bool.and_eq_true] at this
    exact this.1
  · have := h (i + 1) hi
    unfold okG at this
    rw [getG_at l (i + 1) hi, Nat.add_sub_cancel, getG_at l i (by omega)] at this
    simp at this
    exact this.2
  · unfold okG
    rw [getG_at l i hi, h1 i hi]
    cases i with
    | zero => simp
    | succ i =>
      rw [Nat.add_sub_cancel, getG_at l i (by omega), h2 i hi]
      simp
theorem check_take {up : List Nat} {l : List G} (h : checkG up l = true) (k : Nat) : checkG up (l.take k) = true := by
  obtain ⟨h0, h1, h2⟩ := check_iff.1 h
  refine check_iff.2 ⟨by rw [List.length_take]; omega, fun i hi => ?_, fun i hi => ?_⟩
  · rw [List.length_take] at hi
    rw [List.getElem_take]
    exact h1 i (by omega)
  · rw [List.length_take] at hi
    rw [List.getElem_take, List.getElem_take]
    exact h2 i (by omega)
theorem check_drop {up : List Nat} {l : List G} (h : checkG up l = true) (k : Nat) : checkG up (l.drop k) = true := by
  obtain ⟨h0, h1, h2⟩ := check_iff.1 h
  refine check_iff.2 ⟨by rw [List.length_drop]; omega, fun i hi => ?_, fun i hi => ?_⟩
  · rw [List.length_drop] at hi
    rw [List.getElem_drop]
    exact h1 (k + i) (by omega)
  · rw [List.length_drop] at hi
    rw [List.getElem_drop, List.getElem_drop]
    exact h2 (k + i) (by omega)
theorem check_far {up : List Nat} {l : List G} (h : checkG up l = true) (i d : Nat) (hi : i + d + 1 < l.length) : lessG (l[i]'(by omega)) l[i + d + 1] = true := by
  obtain ⟨h0, h1, h2⟩ := check_iff.1 h
  induction d with
  | zero => exact h2 i hi
  | succ d ih => exact less_trans (ih (by omega)) (h2 (i + d + 1) (by omega))
theorem check_new {up : List Nat} {l : List G} (h : checkG up l = true) (i : Nat) (hi : i < l.length) : mayG (l.take i) l[i] = false := by
  unfold mayG
  rw [decide_eq_false_iff_not]
  intro hm
  obtain ⟨j, hj, he⟩ := List.getElem_of_mem hm
  rw [List.length_take] at hj
  rw [List.getElem_take] at he
  obtain ⟨d, rfl⟩ : ∃ d, i = j + d + 1 := ⟨i - j - 1, by omega⟩
  have := check_far h j d hi
  rw [he, less_irr] at this
  exact absurd this (by simp)
theorem check_in (l : List G) (i : Nat) (hi : i < l.length) : mayG l l[i] = true := by
  unfold mayG
  simp
theorem check_twice {up : List Nat} {l : List G} (hl : 0 < l.length) : checkG up (l ++ [l[l.length - 1]'(by omega)]) = false := by
  cases h : checkG up (l ++ [l[l.length - 1]'(by omega)])
  · rfl
  · obtain ⟨h0, h1, h2⟩ := check_iff.1 h
    have := h2 (l.length - 1) (by rw [List.length_append, List.length_singleton]; omega)
    rw [List.getElem_append_left (by omega), List.getElem_append_right (by omega)] at this
    simp [less_irr] at this
theorem check_back {up : List Nat} {l : List G} (h : checkG up l = true) (hl : 2 ≤ l.length) : checkG up l.reverse = false := by
  cases hr : checkG up l.reverse
  · rfl
  · obtain ⟨h0, h1, h2⟩ := check_iff.1 h
    obtain ⟨r0, r1, r2⟩ := check_iff.1 hr
    have a := h2 (l.length - 2) (by omega)
    have b := r2 0 (by rw [List.length_reverse]; omega)
    rw [List.getElem_reverse, List.getElem_reverse] at b
    have c := less_trans a (k := l[l.length - 2]) (by
      have e1 : l.length - 1 - 0 = l.length - 2 + 1 := by omega
      have e2 : l.length - 1 - (0 + 1) = l.length - 2 := by omega
      simp only [e1, e2] at b
      exact b)
    rw [less_irr] at c
    exact absurd c (by simp)

end Go.Proofs.Ytbgpjboefnacgaa
