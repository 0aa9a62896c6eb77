/- Package grants: May: contracts, no statement. -/
import Derived.Test.YtbgpjboefnacgaaGka
namespace Go.Proofs.Ytbgpjboefnacgaa
open Go.RowKit
set_option linter.unusedVariables false

theorem g_cases (x g : G) : (x.a = g.a ∧ x.f = g.f ∧ x.t = g.t) ∨ ¬ x.a = g.a ∨ (x.a = g.a ∧ ¬ x.f = g.f) ∨ (x.a = g.a ∧ x.f = g.f ∧ ¬ x.t = g.t) := by
  by_cases h1 : x.a = g.a <;> by_cases h2 : x.f = g.f <;> by_cases h3 : x.t = g.t <;> simp [h1, h2, h3]
set_option maxHeartbeats 1000000 in
theorem gMay1_any (x g : G) (B : Nat) (w : World) (hB : Has w B 29 #[.int .i64 g.a, .int .i64 g.f, .int .i64 g.t]) :
    Calls Try.prog 34 #[gV x, .pointer (some ⟨B, 0, none⟩)] w (BoolEnd (decide (x = g)) w) := by
  obtain ⟨W, hW⟩ : ∃ W, w.alloc (.cells #[.int .i64 x.a, .int .i64 x.f, .int .i64 x.t] 29) = W := ⟨_, rfl⟩
  have hb : Below w.heap.size w W := hW ▸ (Below.refl _ w).alloc (Nat.le_refl _) _
  have h1 : Has W w.heap.size 29 #[.int .i64 x.a, .int .i64 x.f, .int .i64 x.t] := hW ▸ Has.made w 29 #[.int .i64 x.a, .int .i64 x.f, .int .i64 x.t]
  have h2 : Has W B 29 #[.int .i64 g.a, .int .i64 g.f, .int .i64 g.t] := hB.below hb hB.lt
  obtain ⟨⟨c1, c2, c3⟩, d1, d2, d3⟩ := two_boxes h1 h2 (Below.refl _ _)
  have HB := Lib.hid hb
  have HX := Lib.hid (G_ext x g)
  clear hb h1 h2 hB
  unfold gV
  rcases g_cases x g with ⟨e1, e2, e3⟩ | e1 | ⟨e1, e2⟩ | ⟨e1, e2, e3⟩
  · obtain rfl := HX.out.2 ⟨e1, e2, e3⟩
    clear e1 e2 e3 HX
    have HE : Hid (decide (x = x) = true) := Lib.hid (by simp)
    go_enter Try.func34, Try.ntmps34
    go_wp2
    go_ret
    exact ⟨ret_bool HE.out.symm, HB.out⟩
  all_goals
    have HE : Hid (decide (x = g) = false) := Lib.hid (by
      simp only [decide_eq_false_iff_not]
      intro e
      have := HX.out.1 e
      simp_all)
    try rw [e1] at hW c1
    try rw [e2] at hW c2
    go_enter Try.func34, Try.ntmps34
    go_wp2
    go_ret
    exact ⟨ret_bool HE.out.symm, HB.out⟩

theorem idx_yes {l : List G} {g : G} {k : Nat} (hk : k < l.length) (h : l[k] = g) : decide (0 ≤ (k : Int)) = mayG l g := by
  have : mayG l g = true := by unfold mayG; simp; rw [← h]; exact List.getElem_mem hk
  rw [this]
  simp
theorem idx_no {l : List G} {g : G} (h : ∀ j (h : j < l.length), l[j] ≠ g) : decide (0 ≤ (-1 : Int)) = mayG l g := by
  have : mayG l g = false := by
    unfold mayG
    simp only [decide_eq_false_iff_not]
    intro hm
    obtain ⟨j, hj, e⟩ := List.getElem_of_mem hm
    exact h j hj e
  rw [this]
  rfl
def IdxEnd (b : Bool) (w : World) (e : Ending) (w' : World) : Prop := ∃ x : Int, e = .returned (.int .i64 x) ∧ decide (0 ≤ x) = b ∧ Below w.heap.size w w'
set_option maxHeartbeats 1000000 in
theorem idxF_any (A : Option Addr) (n c B : Nat) (l : List G) (g : G) (w : World) (hl : ArgG w A n c l) (hn : n ≤ 1000000) (hB : Has w B 29 #[.int .i64 g.a, .int .i64 g.f, .int .i64 g.t]) :
    Calls Try.prog 33 #[.slice A n c, .func (.func 34) #[] #[.pointer (some ⟨B, 0, none⟩)]] w (IdxEnd (mayG l g) w) := by
  have HA := Lib.hid hl
  have HN := Lib.hid hl.len
  have HBx := Lib.hid hB
  clear hl hB
  go_enter Try.func33, Try.ntmps33
  go_wp2
  go_loopw [8] (fun i wr => ∃ k : Nat, k ≤ n ∧ i = .int .i64 k ∧ (∀ j (h : j < l.length), j < k → l[j] ≠ g) ∧ Below w.heap.size w wr) (fun i _ => n - (intOf i).toNat)
  case atStart => exact ⟨0, Nat.zero_le _, rfl, fun j _ h => absurd h (by omega), Below.refl _ _⟩
  case round =>
    obtain ⟨k, hk, rfl, hj, hB⟩ := hrel
    have HJ := Lib.hid hj
    have BW := Lib.hid hB
    clear hj hB
    by_cases hlt : k < n
    · have hkl : k < l.length := by have := HN.out; omega
      obtain ⟨b, off, rfl, c1, c2, c3⟩ := (HA.out.below BW.out).reads.gat hkl
      have HQ := Lib.hid (gMay1_any l[k] g B wr (HBx.out.below BW.out HBx.out.lt))
      unfold gV at HQ
      have i0 : (0 : Int) ≤ (k : Int) := by omega
      have i1 : (k : Int) < (n : Int) := by omega
      by_cases h0 : l[k] = g
      · have HE := Lib.hid (idx_yes hkl h0)
        have e : decide (l[k] = g) = true := by simp [h0]
        rw [e] at HQ
        clear h0 e
        generalize l[k] = x at c1 c2 c3 HQ
        clear hkl
        go_wp2_with (go_at_call 34; (with_reducible refine HQ.out.mono ?_); rintro e w1 ⟨rfl, h1⟩; have B1 := Lib.hid (below_step BW.out h1); clear h1)
        go_ret
        exact ⟨_, rfl, HE.out, B1.out⟩
      · have HX : Hid (∀ j (h : j < l.length), j < k + 1 → l[j] ≠ g) := Lib.hid (fun j h hj => by
          by_cases e2 : j = k
          · subst e2; exact h0
          · exact HJ.out j h (by omega))
        have e : decide (l[k] = g) = false := by simp [h0]
        rw [e] at HQ
        clear h0 e
        generalize l[k] = x at c1 c2 c3 HQ
        clear hkl
        go_wp2_with (go_at_call 34; (with_reducible refine HQ.out.mono ?_); rintro e w1 ⟨rfl, h1⟩; have B1 := Lib.hid (below_step BW.out h1); clear h1)
        go_roundw
        case rel => exact ⟨k + 1, by omega, by go_num, HX.out, B1.out⟩
        case measure => simp [intOf]; omega
    · obtain rfl : k = n := by omega
      have HQ := Lib.hid (idx_no (g := g) (fun j hj => HJ.out j hj (by have := HN.out; omega)))
      obtain ⟨w3, hw3⟩ : ∃ w3 : World, w3 = wr := ⟨_, rfl⟩
      subst hw3
      go_wp2
      go_ret
      exact ⟨-1, rfl, HQ.out, BW.out⟩

set_option maxHeartbeats 1000000 in
theorem gMay_any (A : Option Addr) (n c : Nat) (l : List G) (g : G) (w : World) (ht : Base4 w) (hl : ArgG w A n c l) (hn : n ≤ 1000000) :
    Calls Try.prog 14 #[.slice A n c, gV g] w (BoolEnd (mayG l g) w) := by
  have HB : Hid (Below w.heap.size w (w.alloc (.cells #[.int .i64 g.a, .int .i64 g.f, .int .i64 g.t] 29))) := Lib.hid ((Below.refl _ w).alloc (Nat.le_refl _) _)
  have HQ := Lib.hid (idxF_any A n c w.heap.size l g (w.alloc (.cells #[.int .i64 g.a, .int .i64 g.f, .int .i64 g.t] 29)) (hl.below HB.out) hn (Has.made _ _ _))
  clear hl
  unfold gV
  generalize mayG l g = r at HQ ⊢
  go_enter Try.func14, Try.ntmps14
  go_wp2_with (go_at_call 33; (with_reducible refine HQ.out.mono ?_); rintro e w1 ⟨x, rfl, hx, h1⟩; have B1 := Lib.hid (below_step HB.out h1); have HX := Lib.hid hx; clear h1 hx)
  go_ret
  exact ⟨ret_bool HX.out, B1.out⟩

end Go.Proofs.Ytbgpjboefnacgaa
