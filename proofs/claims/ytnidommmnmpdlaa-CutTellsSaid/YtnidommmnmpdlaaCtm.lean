/- Layer 14: where sizes are parted: mathematics; no statement. -/
import Derived.Test.YtnidommmnmpdlaaKit
namespace Go.Proofs.Ytnidommmnmpdlaa
open Go.RowKit
set_option linter.unusedVariables false

def sumZ : List Int → Int
  | [] => 0
  | x :: l => x + sumZ l
theorem sumZ_app (a b : List Int) : sumZ (a ++ b) = sumZ a + sumZ b := by
  induction a with
  | nil => simp [sumZ]
  | cons x a ih =>
    show x + sumZ (a ++ b) = x + sumZ a + sumZ b
    rw [ih]
    omega
theorem sumZ_parts (l : List Int) (k : Nat) : sumZ (l.take k) + sumZ (l.drop k) = sumZ l := by rw [← sumZ_app, List.take_append_drop]
theorem sumZ_more {l : List Int} {k : Nat} (h : k < l.length) : sumZ (l.take (k + 1)) = sumZ (l.take k) + l[k] := by
  rw [List.take_succ_eq_append_getElem h, sumZ_app]
  simp [sumZ]
theorem sumZ_pos {l : List Int} (h : ∀ x ∈ l, 0 ≤ x) : 0 ≤ sumZ l := by
  induction l with
  | nil => exact Int.le_refl 0
  | cons x l ih =>
    have h1 := h x List.mem_cons_self
    have h2 := ih (fun y hy => h y (List.mem_cons_of_mem _ hy))
    show 0 ≤ x + sumZ l
    omega
theorem sumZ_most {l : List Int} {b : Int} (h : ∀ x ∈ l, x ≤ b) : sumZ l ≤ (l.length : Int) * b := by
  induction l with
  | nil => simp [sumZ]
  | cons x l ih =>
    have h1 := h x List.mem_cons_self
    have h2 := ih (fun y hy => h y (List.mem_cons_of_mem _ hy))
    show x + sumZ l ≤ ((l.length + 1 : Nat) : Int) * b
    have h3 : ((l.length + 1 : Nat) : Int) * b = (l.length : Int) * b + b := by rw [show ((l.length + 1 : Nat) : Int) = (l.length : Int) + 1 by omega, Int.add_mul, Int.one_mul]
    omega
theorem sumZ_rev (l : List Int) : sumZ l.reverse = sumZ l := by
  induction l with
  | nil => rfl
  | cons x l ih =>
    rw [List.reverse_cons, sumZ_app, ih]
    simp [sumZ]
    omega
/-- The greater part, where l is parted at k. -/
def worseZ (l : List Int) (k : Nat) : Int := if sumZ (l.drop k) < sumZ (l.take k) then sumZ (l.take k) else sumZ (l.drop k)
theorem worseZ_max (l : List Int) (k : Nat) : worseZ l k = max (sumZ (l.take k)) (sumZ (l.drop k)) := by
  unfold worseZ
  split <;> omega
/-- The first one of the places 1 to k at which the greater part is least. -/
def bestTo (l : List Int) : Nat → Nat
  | 0 => 1
  | 1 => 1
  | k + 2 => if worseZ l (k + 2) < worseZ l (bestTo l (k + 1)) then k + 2 else bestTo l (k + 1)
theorem bestTo_more (l : List Int) {k : Nat} (h : 1 ≤ k) : bestTo l (k + 1) = if worseZ l (k + 1) < worseZ l (bestTo l k) then k + 1 else bestTo l k := by
  obtain ⟨j, rfl⟩ : ∃ j, k = j + 1 := ⟨k - 1, by omega⟩
  rfl
theorem bestTo_in (l : List Int) : ∀ k, 1 ≤ k → 1 ≤ bestTo l k ∧ bestTo l k ≤ k
  | 1, _ => ⟨Nat.le_refl _, Nat.le_refl _⟩
  | k + 2, _ => by
    have h := bestTo_in l (k + 1) (by omega)
    rw [bestTo_more l (by omega)]
    split
    · exact ⟨by omega, Nat.le_refl _⟩
    · exact ⟨h.1, by omega⟩
theorem bestTo_least (l : List Int) : ∀ k, 1 ≤ k → ∀ j, 1 ≤ j → j ≤ k → worseZ l (bestTo l k) ≤ worseZ l j ∧ (j < bestTo l k → worseZ l (bestTo l k) < worseZ l j)
  | 1, _, j, h1, h2 => by
    obtain rfl : j = 1 := by omega
    exact ⟨Int.le_refl _, fun h => absurd h (Nat.lt_irrefl _)⟩
  | k + 2, _, j, h1, h2 => by
    have ih := bestTo_least l (k + 1) (by omega)
    have hin := bestTo_in l (k + 1) (by omega)
    rw [bestTo_more l (by omega), show k + 1 + 1 = k + 2 from rfl]
    by_cases e : j = k + 2
    · subst e
      split
      · exact ⟨Int.le_refl _, fun h => absurd h (Nat.lt_irrefl _)⟩
      · rename_i h3
        exact ⟨by omega, fun h => by omega⟩
    · have h4 := ih j h1 (by omega)
      split
      · rename_i h3
        exact ⟨by omega, fun _ => by omega⟩
      · exact h4
/-- Where sizes are parted. -/
def atZ (l : List Int) : Nat := if sumZ l ≤ 122 ∨ l.length < 2 then 0 else bestTo l (l.length - 1)
theorem atZ_zero {l : List Int} (h : sumZ l ≤ 122 ∨ l.length < 2) : atZ l = 0 := if_pos h
theorem atZ_in {l : List Int} (h : ¬ (sumZ l ≤ 122 ∨ l.length < 2)) : 1 ≤ atZ l ∧ atZ l < l.length := by
  unfold atZ
  rw [if_neg h]
  have := bestTo_in l (l.length - 1) (by omega)
  omega
theorem atZ_least {l : List Int} (h : ¬ (sumZ l ≤ 122 ∨ l.length < 2)) {j : Nat} (h1 : 1 ≤ j) (h2 : j < l.length) : worseZ l (atZ l) ≤ worseZ l j ∧ (j < atZ l → worseZ l (atZ l) < worseZ l j) := by
  unfold atZ
  rw [if_neg h]
  exact bestTo_least l (l.length - 1) (by omega) j h1 (by omega)
/-- What is said of the place tells it. -/
theorem atZ_only {l : List Int} (h : ¬ (sumZ l ≤ 122 ∨ l.length < 2)) {k : Nat} (h1 : 1 ≤ k) (h2 : k < l.length) (hk : ∀ j, 1 ≤ j → j < l.length → worseZ l k ≤ worseZ l j ∧ (j < k → worseZ l k < worseZ l j)) : atZ l = k := by
  have hi := atZ_in h
  have a := atZ_least h h1 h2
  have b := hk (atZ l) hi.1 hi.2
  rcases Nat.lt_trichotomy (atZ l) k with e | e | e
  · have := b.2 e
    omega
  · exact e
  · have := a.2 e
    omega
/-- The first place at which the front has b or more. -/
theorem front_at {l : List Int} {b : Int} (hb : 0 < b) (hs : b ≤ sumZ l) (hm : ∀ x ∈ l, 0 ≤ x ∧ x ≤ 37) : ∃ k, 1 ≤ k ∧ k ≤ l.length ∧ b ≤ sumZ (l.take k) ∧ sumZ (l.take k) < b + 37 := by
  have hex : ∀ n, n ≤ l.length → b ≤ sumZ (l.take n) → ∃ k, 1 ≤ k ∧ k ≤ l.length ∧ b ≤ sumZ (l.take k) ∧ sumZ (l.take k) < b + 37 := by
    intro n
    induction n with
    | zero =>
      intro _ h
      simp [sumZ] at h
      omega
    | succ n ih =>
      intro hn h
      by_cases e : b ≤ sumZ (l.take n)
      · exact ih (by omega) e
      · refine ⟨n + 1, by omega, hn, h, ?_⟩
        rw [sumZ_more (by omega)]
        have := (hm l[n] (List.getElem_mem _)).2
        omega
  exact hex l.length (Nat.le_refl _) (by rw [List.take_length]; exact hs)
/-- Of cells of 37 at most, 159 together, both parts go into a page and neither is low. -/
theorem fits_at {l : List Int} (h : ¬ (sumZ l ≤ 122 ∨ l.length < 2)) (hm : ∀ x ∈ l, 0 ≤ x ∧ x ≤ 37) (hs : sumZ l ≤ 159) : worseZ l (atZ l) ≤ 122 ∧ 30 ≤ sumZ (l.take (atZ l)) ∧ 30 ≤ sumZ (l.drop (atZ l)) := by
  have hs1 : 122 < sumZ l := by omega
  have way : ∀ b : Int, 0 < b → b + 37 ≤ 123 → ∃ k, 1 ≤ k ∧ k < l.length ∧ b ≤ sumZ (l.take k) ∧ sumZ (l.take k) < b + 37 := fun b h1 h2 => by
    obtain ⟨k, hk1, hk2, hk3, hk4⟩ := front_at h1 (show b ≤ sumZ l by omega) hm
    refine ⟨k, hk1, ?_, hk3, hk4⟩
    by_cases e : k = l.length
    · rw [e, List.take_length] at hk4
      omega
    · omega
  obtain ⟨k, hk1, hk2, hk3, hk4⟩ := way 30 (by omega) (by omega)
  obtain ⟨j, hj1, hj2, hj3, hj4⟩ := way (sumZ l - 122) (by omega) (by omega)
  have a := (atZ_least h hk1 hk2).1
  have b := (atZ_least h hj1 hj2).1
  have p1 := sumZ_parts l k
  have p2 := sumZ_parts l j
  have p3 := sumZ_parts l (atZ l)
  rw [worseZ_max] at a b
  rw [worseZ_max] at a
  rw [worseZ_max] at b
  rw [worseZ_max]
  omega
theorem worseZ_rev {l : List Int} {k : Nat} (hk : k ≤ l.length) : worseZ l.reverse (l.length - k) = worseZ l k := by
  rw [worseZ_max, worseZ_max, List.take_reverse, List.drop_reverse, sumZ_rev, sumZ_rev, show l.length - (l.length - k) = k by omega, Int.max_comm]
theorem turned_at {l : List Int} (h : ¬ (sumZ l ≤ 122 ∨ l.length < 2)) : worseZ l (atZ l) = worseZ l.reverse (atZ l.reverse) := by
  have h2 : ¬ (sumZ l.reverse ≤ 122 ∨ l.reverse.length < 2) := by rw [sumZ_rev, List.length_reverse]; exact h
  have hi := atZ_in h
  have hi2 := atZ_in h2
  rw [List.length_reverse] at hi2
  have a := (atZ_least h (j := l.length - atZ l.reverse) (by omega) (by omega)).1
  have b := (atZ_least h2 (j := l.length - atZ l) (by omega) (by rw [List.length_reverse]; omega)).1
  rw [worseZ_rev (Nat.le_of_lt hi.2)] at b
  have c := worseZ_rev (l := l) (k := l.length - atZ l.reverse) (by omega)
  rw [show l.length - (l.length - atZ l.reverse) = atZ l.reverse by omega] at c
  omega
theorem turned_zero (l : List Int) : atZ l = 0 ↔ atZ l.reverse = 0 := by
  by_cases h : sumZ l ≤ 122 ∨ l.length < 2
  · have h2 : sumZ l.reverse ≤ 122 ∨ l.reverse.length < 2 := by rw [sumZ_rev, List.length_reverse]; exact h
    rw [atZ_zero h, atZ_zero h2]
  · have h2 : ¬ (sumZ l.reverse ≤ 122 ∨ l.reverse.length < 2) := by rw [sumZ_rev, List.length_reverse]; exact h
    have a := (atZ_in h).1
    have b := (atZ_in h2).1
    omega
theorem worseZ_nought {l : List Int} {k : Nat} (hk : k ≤ l.length) : worseZ (l ++ [0]) k = worseZ l k := by
  rw [worseZ_max, worseZ_max, List.take_append_of_le_length hk, List.drop_append_of_le_length hk, sumZ_app]
  simp [sumZ]
theorem nought_at {l : List Int} (hp : ∀ x ∈ l, 0 ≤ x) (h2 : 2 ≤ l.length) : atZ (l ++ [0]) = atZ l := by
  have hs : sumZ (l ++ [0]) = sumZ l := by rw [sumZ_app]; simp [sumZ]
  have hl : (l ++ [0]).length = l.length + 1 := by simp
  by_cases h : sumZ l ≤ 122 ∨ l.length < 2
  · rw [atZ_zero h, atZ_zero (by rw [hs, hl]; omega)]
  · have hi := atZ_in h
    refine atZ_only (by rw [hs, hl]; omega) hi.1 (by rw [hl]; omega) (fun j h1 h3 => ?_)
    rw [hl] at h3
    rw [worseZ_nought (Nat.le_of_lt hi.2)]
    by_cases e : j = l.length
    · have h4 : worseZ l (atZ l) ≤ sumZ l := by
        rw [worseZ_max]
        have p := sumZ_parts l (atZ l)
        have p1 := sumZ_pos (l := l.take (atZ l)) (fun x hx => hp x (List.mem_of_mem_take hx))
        have p2 := sumZ_pos (l := l.drop (atZ l)) (fun x hx => hp x (List.mem_of_mem_drop hx))
        omega
      have h5 : worseZ (l ++ [0]) j = sumZ l := by
        rw [worseZ_nought (Nat.le_of_eq e), worseZ_max, e, List.take_length, List.drop_length]
        have := sumZ_pos hp
        simp [sumZ]
        omega
      exact ⟨by omega, fun h6 => by omega⟩
    · rw [worseZ_nought (by omega)]
      exact atZ_least h h1 (by omega)
end Go.Proofs.Ytnidommmnmpdlaa
