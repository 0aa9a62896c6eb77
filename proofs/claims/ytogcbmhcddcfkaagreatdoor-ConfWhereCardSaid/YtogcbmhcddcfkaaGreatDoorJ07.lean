import Derived.Test.YtogcbmhcddcfkaaGreatDoorJLatq
import Derived.Test.YtogcbmhcddcfkaaGreatDoorJLatc
import Derived.Shelf.Spec.TrailingZeros
import Derived.Test.YtogcbmhcddcfkaaGreatDoorJCor1
/- Of a claim's texts, joined: Ends Late Utfa. No statement but in the last. -/
section
namespace Go.Proofs.YtogcbmhcddcfkaaGreatDoor
open Go.RowKit
set_option linter.unusedVariables false

def BoolEnd (b : Bool) (w : World) (e : Ending) (w' : World) : Prop := e = .returned (.bool b) ∧ Below w.heap.size w w'
def IntEnd (x : Int) (w : World) (e : Ending) (w' : World) : Prop := e = .returned (.int .i64 x) ∧ Below w.heap.size w w'
def U64End (x : Nat) (w : World) (e : Ending) (w' : World) : Prop := e = .returned (.int .u64 (x : Int)) ∧ Below w.heap.size w w'
def NumsEnd (l : List Nat) (w : World) (e : Ending) (w' : World) : Prop := ∃ A n c, e = .returned (.slice A n c) ∧ ArgU w' A n c l ∧ Below w.heap.size w w'
def IntsEnd (l : List Nat) (w : World) (e : Ending) (w' : World) : Prop := ∃ A c, e = .returned (.slice A l.length c) ∧ l.length ≤ c ∧ Reads w' A (l.map i64V) ∧ Below w.heap.size w w'
def PutEnd (l : List UInt8) (er : Int) (w : World) (e : Ending) (w' : World) : Prop :=
  ∃ A c, e = .returned (.tuple #[.slice A l.length c, .int .i64 er]) ∧ l.length ≤ c ∧ c ≤ maxLen ∧ Row w' 5 w.heap.size A (l.map byteV) ∧ Below w.heap.size w w'

end Go.Proofs.YtogcbmhcddcfkaaGreatDoor
end

section
namespace Go.Proofs.YtogcbmhcddcfkaaGreatDoor
open Go.RowKit Go.Shelf
set_option linter.unusedVariables false

def Base3 (w : World) : Prop := 3 < w.heap.size ∧ TabAt 3 Lib.deBruijn64tab w
theorem Base3.below {w w' : World} (h : Base3 w) (hb : Below w.heap.size w w') : Base3 w' :=
  ⟨Nat.lt_of_lt_of_le h.1 hb.size, fun j hj => (hb.cell (p := ⟨3, j, none⟩) h.1).trans (h.2 j hj)⟩

end Go.Proofs.YtogcbmhcddcfkaaGreatDoor
end

section
namespace Go.Proofs.YtogcbmhcddcfkaaGreatDoor
set_option linter.unusedVariables false

theorem decodeN_more {n n' b0 b1 b2 b3 c1 c2 c3 r k : Nat} (h : Lib.decodeN n b0 b1 b2 b3 = (r, k)) (hv : ¬ (r = 65533 ∧ k = 1)) (hn : n ≤ n') (h1 : 2 ≤ k → c1 = b1) (h2 : 3 ≤ k → c2 = b2) (h3 : 4 ≤ k → c3 = b3) : Lib.decodeN n' b0 c1 c2 c3 = (r, k) := by
  unfold Lib.decodeN at h ⊢
  by_cases a0 : b0 < 128
  · rw [if_pos a0] at h ⊢; exact h
  rw [if_neg a0] at h ⊢
  by_cases a1 : b0 / 32 = 6 ∧ (1 < n ∧ b1 / 64 = 2)
  · rw [if_pos a1] at h
    split at h
    · rename_i hq
      injection h with hr hk
      obtain rfl := h1 (by omega)
      rw [if_pos ⟨a1.1, by omega, a1.2.2⟩, if_pos hq, hr, hk]
    · injection h with hr hk
      exact absurd ⟨hr.symm, hk.symm⟩ hv
  rw [if_neg a1] at h
  by_cases a2 : b0 / 16 = 14 ∧ (1 < n ∧ b1 / 64 = 2) ∧ (2 < n ∧ b2 / 64 = 2)
  · rw [if_pos a2] at h
    split at h
    · rename_i hq
      injection h with hr hk
      obtain rfl := h1 (by omega)
      obtain rfl := h2 (by omega)
      rw [if_neg (by omega), if_pos ⟨a2.1, ⟨by omega, a2.2.1.2⟩, by omega, a2.2.2.2⟩, if_pos hq, hr, hk]
    · injection h with hr hk
      exact absurd ⟨hr.symm, hk.symm⟩ hv
  rw [if_neg a2] at h
  by_cases a3 : b0 / 8 = 30 ∧ (1 < n ∧ b1 / 64 = 2) ∧ (2 < n ∧ b2 / 64 = 2) ∧ (3 < n ∧ b3 / 64 = 2)
  · rw [if_pos a3] at h
    split at h
    · rename_i hq
      injection h with hr hk
      obtain rfl := h1 (by omega)
      obtain rfl := h2 (by omega)
      obtain rfl := h3 (by omega)
      rw [if_neg (by omega), if_neg (by omega), if_pos ⟨a3.1, ⟨by omega, a3.2.1.2⟩, ⟨by omega, a3.2.2.1.2⟩, by omega, a3.2.2.2.2⟩, if_pos hq, hr, hk]
    · injection h with hr hk
      exact absurd ⟨hr.symm, hk.symm⟩ hv
  rw [if_neg a3] at h
  injection h with hr hk
  exact absurd ⟨hr.symm, hk.symm⟩ hv
theorem decodeN_head {n b0 b1 b2 b3 r k : Nat} (h : Lib.decodeN n b0 b1 b2 b3 = (r, k)) (hv : ¬ (r = 65533 ∧ k = 1)) : b0 / 64 ≠ 2 ∧ (128 ≤ b0 → 1 < n ∧ b1 / 64 = 2) := by
  unfold Lib.decodeN at h
  by_cases a0 : b0 < 128
  · omega
  rw [if_neg a0] at h
  by_cases a1 : b0 / 32 = 6 ∧ (1 < n ∧ b1 / 64 = 2)
  · exact ⟨by omega, fun _ => a1.2⟩
  rw [if_neg a1] at h
  by_cases a2 : b0 / 16 = 14 ∧ (1 < n ∧ b1 / 64 = 2) ∧ (2 < n ∧ b2 / 64 = 2)
  · exact ⟨by omega, fun _ => a2.2.1⟩
  rw [if_neg a2] at h
  by_cases a3 : b0 / 8 = 30 ∧ (1 < n ∧ b1 / 64 = 2) ∧ (2 < n ∧ b2 / 64 = 2) ∧ (3 < n ∧ b3 / 64 = 2)
  · exact ⟨by omega, fun _ => a3.2.1⟩
  rw [if_neg a3] at h
  injection h with hr hk
  exact absurd ⟨hr.symm, hk.symm⟩ hv
theorem getD_app (s t : List UInt8) (i : Nat) (h : i < s.length) : (s ++ t).getD i 0 = s.getD i 0 := by simp [List.getD, List.getElem?_append_left h]
theorem decL_app {s t : List UInt8} (h : s ≠ []) (hv : ¬ ((decL s).1 = 65533 ∧ (decL s).2 = 1)) : decL (s ++ t) = decL s := by
  have hl : 0 < s.length := List.length_pos_iff.2 h
  have hw := decL_width s h
  obtain ⟨r, k, hd⟩ : ∃ r k, decL s = (r, k) := ⟨_, _, rfl⟩
  rw [hd] at hv hw ⊢
  simp only at hv hw
  rw [decL_at] at hd ⊢
  rw [getD_app s t 0 hl]
  refine decodeN_more hd hv (by simp) (fun hk => ?_) (fun hk => ?_) (fun hk => ?_)
  · rw [getD_app s t 1 (by omega)]
  · rw [getD_app s t 2 (by omega)]
  · rw [getD_app s t 3 (by omega)]
theorem sizeN_cons {l : List UInt8} (h : l ≠ []) : sizeN l = takesN (decL l).1 + sizeN (l.drop (decL l).2) := by
  unfold sizeN
  rw [cut_cons h]
  simp
theorem sizeN_ge (l : List UInt8) : l.length ≤ sizeN l := by
  by_cases h : l = []
  · subst h; simp
  · have hw := decL_width l h
    have ih := sizeN_ge (l.drop (decL l).2)
    have ht := decL_takes l h
    rw [sizeN_cons h]
    rw [List.length_drop] at ih
    rcases ht with ⟨h1, h2⟩ | ⟨h1, _⟩
    · rw [h2] at ih
      rw [h1, h2]
      have : takesN 65533 = 3 := rfl
      omega
    · omega
termination_by l.length
decreasing_by
  have := decL_width l h
  rw [List.length_drop]
  omega
theorem whole_head {l : List UInt8} (h : l ≠ []) (hw : wholeB l = true) : ¬ ((decL l).1 = 65533 ∧ (decL l).2 = 1) ∧ wholeB (l.drop (decL l).2) = true := by
  have hd := decL_width l h
  have ih := sizeN_ge (l.drop (decL l).2)
  have ht := decL_takes l h
  unfold wholeB at hw ⊢
  simp only [decide_eq_true_eq] at hw ⊢
  rw [sizeN_cons h] at hw
  rw [List.length_drop] at ih ⊢
  rcases ht with ⟨h1, h2⟩ | ⟨h1, h2⟩
  · have : takesN 65533 = 3 := rfl
    rw [h1, h2] at hw
    rw [h2] at ih
    omega
  · exact ⟨h2, by omega⟩
theorem cut_app (s t : List UInt8) (hw : wholeB s = true) : cut (s ++ t) = cut s ++ cut t := by
  by_cases h : s = []
  · subst h; rw [cut_nil]; rfl
  · have hd := decL_width s h
    obtain ⟨h1, h2⟩ := whole_head h hw
    have ih := cut_app (s.drop (decL s).2) t h2
    have hne : s ++ t ≠ [] := by simp [h]
    rw [cut_cons hne, cut_cons h, decL_app h h1, List.cons_append, List.take_append_of_le_length hd.2.2, List.drop_append_of_le_length hd.2.2, ih]
termination_by s.length
decreasing_by
  have := decL_width s h
  rw [List.length_drop]
  omega
theorem name_parts {l : List UInt8} (h : nameB l = true) : (cut l).all (fun x => letterB x.1) = true ∧ wholeB l = true ∧ 1 ≤ (cut l).length ∧ (cut l).length ≤ 12 := by
  unfold nameB at h
  simpa [Bool.and_eq_true, decide_eq_true_eq] using h
theorem sizeN_app {s t : List UInt8} (hw : wholeB s = true) : sizeN (s ++ t) = sizeN s + sizeN t := by
  unfold sizeN
  rw [cut_app s t hw]
  simp
theorem whole_app {s t : List UInt8} (hs : wholeB s = true) : wholeB (s ++ t) = wholeB t := by
  have h1 := sizeN_app (t := t) hs
  unfold wholeB at *
  rw [h1]
  simp only [decide_eq_true_eq] at hs
  rw [hs, List.length_append, Bool.eq_iff_iff]
  simp
theorem name_app {s t : List UInt8} (hs : nameB s = true) (ht : nameB t = true) : nameB (s ++ t) = decide ((cut (s ++ t)).length ≤ 12) := by
  obtain ⟨a1, a2, a3, _⟩ := name_parts hs
  obtain ⟨b1, b2, _, _⟩ := name_parts ht
  have e := cut_app s t a2
  unfold nameB
  rw [whole_app a2, e, List.all_append, a1, b1, b2]
  have : decide (1 ≤ (cut s ++ cut t).length) = true := by simp; omega
  rw [this]
  rfl
theorem name_sign {s t : List UInt8} {c : UInt8} (hs : nameB s = true) (ht : nameB t = true) (hc : ¬ ((97 ≤ c.toNat ∧ c.toNat ≤ 122) ∨ (65 ≤ c.toNat ∧ c.toNat ≤ 90))) : nameB (s ++ ([c] ++ t)) = false := by
  obtain ⟨a1, a2, a3, _⟩ := name_parts hs
  obtain ⟨b1, b2, b3, _⟩ := name_parts ht
  cases hn : nameB (s ++ ([c] ++ t))
  · rfl
  · exfalso
    obtain ⟨d1, d2, _, _⟩ := name_parts hn
    rw [whole_app a2] at d2
    rw [cut_app s _ a2, List.all_append, Bool.and_eq_true] at d1
    have hne : ([c] ++ t : List UInt8) ≠ [] := by simp
    have htne : t ≠ [] := by
      rintro rfl
      rw [cut_nil] at b3
      simp at b3
    obtain ⟨h1, _⟩ := whole_head hne d2
    obtain ⟨k1, _⟩ := whole_head htne b2
    by_cases h128 : c.toNat < 128
    · have hd : decL ([c] ++ t) = (c.toNat, 1) := decL_ascii _ (by simpa using h128)
      have hall := d1.2
      rw [cut_cons hne, List.all_cons, Bool.and_eq_true, hd] at hall
      have hlt := hall.1
      unfold letterB at hlt
      simp only [decide_eq_true_eq] at hlt
      omega
    · obtain ⟨r, k, hd⟩ : ∃ r k, decL ([c] ++ t) = (r, k) := ⟨_, _, rfl⟩
      obtain ⟨r', k', hd'⟩ : ∃ r k, decL t = (r, k) := ⟨_, _, rfl⟩
      rw [hd] at h1
      rw [hd'] at k1
      rw [decL_at] at hd hd'
      have p1 := (decodeN_head hd h1).2 (by simp; omega)
      have p2 := (decodeN_head hd' k1).1
      have e : (([c] ++ t : List UInt8).getD 1 0) = t.getD 0 0 := by simp
      rw [e] at p1
      exact p2 p1.2

end Go.Proofs.YtogcbmhcddcfkaaGreatDoor
end
