/- Where a text is wrong, sign by sign: mathematics of ConfWhere's loop, no statement. -/
import Derived.Test.YtogcbmhcddcfkaaGreatDoorJMore
import Derived.Test.YtogcbmhcddcfkaaGreatDoorJ29
namespace Go.Proofs.YtogcbmhcddcfkaaGreatDoor
set_option linter.unusedVariables false

/-- Signs of one line, and which line it is now. -/
def cntW (line : Nat) : List (Nat × List UInt8) → Nat → Nat → Nat × Nat
  | [], now, k => (now, k)
  | x :: r, now, k => cntW line r (if x.1 = 10 then now + 1 else now) (if now = line ∧ x.1 ≠ 10 then k + 1 else k)
theorem cntW_in (line : Nat) (l r : List (Nat × List UInt8)) (h : ∀ x ∈ l, x.1 ≠ 10) : ∀ now k, cntW line (l ++ r) now k = cntW line r now (if now = line then k + l.length else k) := by
  induction l with
  | nil => intro now k; simp
  | cons x l ih =>
    intro now k
    have hx := h x (by simp)
    rw [List.cons_append, cntW, if_neg hx, ih (fun y hy => h y (by simp [hy]))]
    by_cases e : now = line
    · simp only [e, hx, ne_eq, not_false_eq_true, and_self, if_true, List.length_cons]
      congr 1
      omega
    · simp only [e, false_and, if_false]
theorem sign_ten (l : List UInt8) : ∀ x ∈ cut l, x.1 = 10 → (10 : UInt8) ∈ l := by
  intro x hx he
  by_cases h : l = []
  · subst h; rw [cut_nil] at hx; cases hx
  · have hw := decL_width l h
    rw [cut_cons h] at hx
    rcases List.mem_cons.1 hx with rfl | hx
    · simp only at he
      have h1 : (l.getD 0 0).toNat < 128 := (decL_low l h).1 (by omega)
      rw [decL_ascii l h1] at he
      simp only at he
      rcases l with _ | ⟨b, l⟩
      · exact absurd rfl h
      · have : b = 10 := UInt8.toNat_inj.1 (by simpa [List.getD] using he)
        subst this
        exact .head _
    · have := sign_ten (l.drop (decL l).2) x hx he
      exact List.mem_of_mem_drop this
termination_by l.length
decreasing_by
  have := decL_width l h
  rw [List.length_drop]
  omega
theorem part_ten (s : List UInt8) : (∀ b ∈ s, b ≠ 10) ∨ ∃ a t, s = a ++ 10 :: t ∧ ∀ b ∈ a, b ≠ 10 := by
  induction s with
  | nil => exact .inl fun b hb => by cases hb
  | cons b s ih =>
    by_cases hb : b = 10
    · subst hb
      exact .inr ⟨[], s, rfl, fun b hb => by cases hb⟩
    · rcases ih with h | ⟨a, t, rfl, h⟩
      · refine .inl fun x hx => ?_
        rcases List.mem_cons.1 hx with rfl | hx
        · exact hb
        · exact h x hx
      · refine .inr ⟨b :: a, t, rfl, fun x hx => ?_⟩
        rcases List.mem_cons.1 hx with rfl | hx
        · exact hb
        · exact h x hx
theorem cntW_one (line : Nat) (s : List UInt8) (h : ∀ b ∈ s, b ≠ 10) (now k : Nat) : cntW line (cut s) now k = (now + (linesN s).length - 1, k + if now ≤ line ∧ line < now + (linesN s).length then (cut ((linesN s).getD (line - now) [])).length else 0) := by
  have hc := cntW_in line (cut s) [] (fun x hx e => h 10 (sign_ten s x hx e) rfl) now k
  rw [List.append_nil] at hc
  have hl := linesN_last s h
  have h1 : (linesN s).length = 1 := by rw [hl]; rfl
  rw [hc]
  show (now, _) = _
  refine Prod.ext ?_ ?_
  · show now = now + (linesN s).length - 1
    omega
  · show (if now = line then k + (cut s).length else k) = k + _
    by_cases e : now = line
    · rw [if_pos e, if_pos (by omega)]
      have e0 : (linesN s).getD (line - now) [] = s := by rw [hl, show line - now = 0 by omega]; rfl
      rw [e0]
    · rw [if_neg e, if_neg (by omega)]
      rfl
theorem cntW_lines (line : Nat) (n : Nat) : ∀ (s : List UInt8), s.length ≤ n → ∀ now k, cntW line (cut s) now k = (now + (linesN s).length - 1, k + if now ≤ line ∧ line < now + (linesN s).length then (cut ((linesN s).getD (line - now) [])).length else 0) := by
  induction n with
  | zero =>
    intro s hs now k
    have : s = [] := List.eq_nil_of_length_eq_zero (by omega)
    subst this
    exact cntW_one line [] (fun b hb => by cases hb) now k
  | succ n ih =>
    intro s hs now k
    rcases part_ten s with h | ⟨a, t, rfl, h⟩
    · exact cntW_one line s h now k
    · have hc := cntW_in line (cut a) ((10, [10]) :: cut t) (fun x hx e => h 10 (sign_ten a x hx e) rfl) now k
      have hs2 := cut_stop a t 10 (by decide)
      rw [show (10 : UInt8).toNat = 10 from rfl] at hs2
      have hl := linesN_mid a t h
      have hll : (linesN (a ++ 10 :: t)).length = (linesN t).length + 1 := by rw [hl]; rfl
      have hne : 0 < (linesN t).length := List.length_pos_iff.2 (linesN_ne t)
      rw [hs2, hc, cntW]
      simp only [if_true, ne_eq, not_true, and_false, if_false]
      rw [ih t (by simp at hs; omega)]
      refine Prod.ext ?_ ?_
      · show now + 1 + (linesN t).length - 1 = now + (linesN (a ++ 10 :: t)).length - 1
        omega
      · show (if now = line then k + (cut a).length else k) + (if now + 1 ≤ line ∧ line < now + 1 + (linesN t).length then (cut ((linesN t).getD (line - (now + 1)) [])).length else 0) = k + (if now ≤ line ∧ line < now + (linesN (a ++ 10 :: t)).length then (cut ((linesN (a ++ 10 :: t)).getD (line - now) [])).length else 0)
        by_cases e : now = line
        · rw [if_pos e, if_neg (by omega), if_pos (by omega)]
          have e0 : (linesN (a ++ 10 :: t)).getD (line - now) [] = a := by rw [hl, show line - now = 0 by omega]; rfl
          rw [e0]
          rfl
        · rw [if_neg e]
          by_cases h1 : now + 1 ≤ line ∧ line < now + 1 + (linesN t).length
          · rw [if_pos h1, if_pos (by omega)]
            obtain ⟨d, hd⟩ : ∃ d, line - now = d + 1 := ⟨line - now - 1, by omega⟩
            have hd2 : line - (now + 1) = d := by omega
            have e0 : (linesN (a ++ 10 :: t)).getD (line - now) [] = (linesN t).getD (line - (now + 1)) [] := by rw [hl, hd, hd2]; simp [List.getD]
            rw [e0]
          · rw [if_neg h1, if_neg (by omega)]
/-- Where a text is wrong: in one of its lines, at a sign of it, or one behind. -/
theorem where_at {s : List UInt8} {c : Cf} {a k : Nat} (h : parseL (linesN s) 1 cf0 = (c, some (a, k))) :
    1 ≤ a ∧ 1 ≤ k ∧ a ≤ (cntW a (cut s) 1 0).1 ∧ k ≤ (cntW a (cut s) 1 0).2 + 1 := by
  obtain ⟨i, x, hx, ha, h1, h2⟩ := parseL_at (linesN s) 1 cf0 c a k h
  have hi := (List.getElem?_eq_some_iff.1 hx).1
  rw [cntW_lines a s.length s (Nat.le_refl _) 1 0, if_pos (by omega)]
  have e : (linesN s).getD (a - 1) [] = x := by
    rw [show a - 1 = i by omega]
    simp [List.getD, hx]
  rw [e]
  refine ⟨by omega, h1, ?_, by omega⟩
  simp only
  omega

end Go.Proofs.YtogcbmhcddcfkaaGreatDoor
