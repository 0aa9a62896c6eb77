/- Of a claim's texts: what further roots need: no statement. -/
import Derived.Test.YtogcbmhcddcfkaaGreatDoorJCoParses
namespace Go.Proofs.YtogcbmhcddcfkaaGreatDoor
open Go.RowKit
set_option linter.unusedVariables false

theorem linesN_ne (l : List UInt8) : linesN l ≠ [] := by
  cases l with
  | nil => simp [linesN]
  | cons b t =>
    unfold linesN
    split
    · simp
    · split <;> simp
theorem linesN_app (s t : List UInt8) : linesN (s ++ 10 :: t) = linesN s ++ linesN t := by
  induction s with
  | nil => simp [linesN]
  | cons b s ih =>
    show linesN (b :: (s ++ 10 :: t)) = _
    by_cases hb : b = 10
    · rw [linesN, if_pos hb, ih, linesN, if_pos hb]
      rfl
    · rw [linesN, if_neg hb, ih, linesN, if_neg hb]
      have hne := linesN_ne s
      rcases hl : linesN s with _ | ⟨x, r⟩
      · exact absurd hl hne
      · rfl
theorem parseL_app (l m : List (List UInt8)) : ∀ (a : Nat) (c : Cf), parseL (l ++ m) a c = match parseL l a c with
    | (c', some e) => (c', some e)
    | (c', none) => parseL m (a + l.length) c' := by
  induction l with
  | nil => intro a c; simp [parseL]
  | cons x l ih =>
    intro a c
    rw [List.cons_append, parseL, parseL]
    by_cases h1 : (wordsN x).1 = []
    · rw [if_pos h1, if_pos h1, ih, List.length_cons, show a + 1 + l.length = a + (l.length + 1) by omega]
    · rw [if_neg h1, if_neg h1]
      by_cases h2 : 0 < (lineN c (wordsN x).1 (wordsN x).2).2
      · rw [if_pos h2, if_pos h2]
      · rw [if_neg h2, if_neg h2, ih, List.length_cons, show a + 1 + l.length = a + (l.length + 1) by omega]
theorem parseN_stays {s t : List UInt8} {a k : Nat} {c : Cf} (h : parseL (linesN s) 1 cf0 = (c, some (a, k))) : parseN (s ++ 10 :: t) = parseN s := by
  have h2 : parseL (linesN (s ++ 10 :: t)) 1 cf0 = (c, some (a, k)) := by rw [linesN_app, parseL_app, h]
  unfold parseN
  rw [h, h2]
theorem lineN_at {c : Cf} {l : List Wd} {en B : Nat} (hl : l ≠ []) (h1 : ∀ x ∈ l, 1 ≤ x.2 ∧ x.2 ≤ B) (h2 : 1 ≤ en) (h3 : en ≤ B) (hk : 0 < (lineN c l en).2) : 1 ≤ (lineN c l en).2 ∧ (lineN c l en).2 ≤ B := by
  have hw : ∀ i, i < l.length → 1 ≤ (wAt l i).2 ∧ (wAt l i).2 ≤ B := fun i hi => by rw [wAt_at l i hi]; exact h1 _ (List.getElem_mem hi)
  refine ⟨hk, ?_⟩
  revert hk
  unfold lineN
  split
  · intro _; exact (hw 0 (List.length_pos_iff.2 hl)).2
  · split
    · rename_i p hp
      intro _
      obtain ⟨j, hj⟩ := badFrom_is hp
      unfold badAt at hj
      split at hj
      · injection hj with hj; omega
      · rename_i hjl
        have := (hw j (by omega)).2
        split at hj
        · split at hj
          · injection hj with hj; omega
          · cases hj
        · split at hj
          · injection hj with hj; omega
          · cases hj
    · split
      · rename_i hn
        intro _
        exact (hw _ hn).2
      · intro h; exact absurd h (by simp)
theorem parseL_at (ls : List (List UInt8)) : ∀ (a : Nat) (c c' : Cf) (a' k : Nat), parseL ls a c = (c', some (a', k)) → ∃ i x, ls[i]? = some x ∧ a' = a + i ∧ 1 ≤ k ∧ k ≤ (cut x).length + 1 := by
  induction ls with
  | nil => intro a c c' a' k h; simp [parseL] at h
  | cons x ls ih =>
    intro a c c' a' k h
    rw [parseL] at h
    by_cases h1 : (wordsN x).1 = []
    · rw [if_pos h1] at h
      obtain ⟨i, y, e1, e2, e3⟩ := ih _ _ _ _ _ h
      exact ⟨i + 1, y, by simpa using e1, by omega, e3⟩
    · rw [if_neg h1] at h
      by_cases h2 : 0 < (lineN c (wordsN x).1 (wordsN x).2).2
      · rw [if_pos h2] at h
        injection h with _ h
        injection h with h
        injection h with ha hk
        obtain ⟨k1, k2, k3⟩ := wordsN_at x
        have := lineN_at (c := c) (l := (wordsN x).1) (en := (wordsN x).2) (B := (cut x).length + 1) h1 (fun y hy => ⟨(k1 y hy).1, by have := (k1 y hy).2; omega⟩) k2 k3 h2
        exact ⟨0, x, by simp, by omega, by omega, by omega⟩
      · rw [if_neg h2] at h
        obtain ⟨i, y, e1, e2, e3⟩ := ih _ _ _ _ _ h
        exact ⟨i + 1, y, by simpa using e1, by omega, e3⟩
end Go.Proofs.YtogcbmhcddcfkaaGreatDoor
