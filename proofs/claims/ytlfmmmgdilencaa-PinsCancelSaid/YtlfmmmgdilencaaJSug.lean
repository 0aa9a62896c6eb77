import Derived.Test.YtlfmmmgdilencaaJ10
/- Of a claim's texts, joined: Sug. No statement but in the last. -/
namespace Go.Proofs.Ytlfmmmgdilencaa
open Go.RowKit Go.Sort
set_option linter.unusedVariables false

theorem SU.lt {W w : World} {g off n : Nat} {d : Array Nat} (h : SU W g off n d w) (h0 : 0 < n) : g < w.heap.size := World.block_lt_of_cell? w _ (h.cell 0 h0)
theorem SU.below {W w w' : World} {g off n : Nat} {d : Array Nat} (h : SU W g off n d w) (h0 : 0 < n) (hb : Below w.heap.size w w') : SU W g off n d w' :=
  ⟨h.size, fun i hi => (hb.cell (p := ⟨g, off + i, none⟩) (h.lt h0)).trans (h.cell i hi),
   ⟨hb.os.trans h.gr.os, hb.tape.trans h.gr.tape, hb.output.trans h.gr.output, Nat.le_trans h.gr.size hb.size, fun i hi hr => (hb.block i (Nat.lt_of_lt_of_le hi h.gr.size)).trans (h.gr.block i hi hr)⟩, h.most, fun i => (hb.frozen (p := ⟨g, i, none⟩) (h.lt h0)).trans (h.free i)⟩
def hintU : Hint → Int
  | .unknown => 0
  | .increasing => 1
  | .decreasing => 2
def pivBigU (d : Array Nat) (a q : Nat) : Nat × Nat := median ltU d (medianAdjacent ltU d (a + q * 1) 0).1 (medianAdjacent ltU d (a + q * 2) (medianAdjacent ltU d (a + q * 1) 0).2).1
  (medianAdjacent ltU d (a + q * 3) (medianAdjacent ltU d (a + q * 2) (medianAdjacent ltU d (a + q * 1) 0).2).2).1 (medianAdjacent ltU d (a + q * 3) (medianAdjacent ltU d (a + q * 2) (medianAdjacent ltU d (a + q * 1) 0).2).2).2
def finPU (r : Nat × Nat) : Nat × Hint := (r.1, if r.2 = 0 then .increasing else if r.2 = 12 then .decreasing else .unknown)
set_option maxRecDepth 100000 in
set_option maxHeartbeats 8000000 in
theorem oPivotU_any {g off n : Nat} (c a b : Nat) (d : Array Nat) (W0 W : World) (h : SU W0 g off n d W) (hab : a + 8 ≤ b) (hb : b ≤ n) :
    Calls Try.prog 25 #[.slice (some ⟨g, off, none⟩) n c, .int .i64 (a : Int), .int .i64 (b : Int)] W fun e w' => e = .returned (.tuple #[.int .i64 ((choosePivot ltU d a b).1 : Int), .int .i64 (hintU (choosePivot ltU d a b).2)]) ∧ SU W0 g off n d w' := by
  have hmost := h.most
  obtain ⟨W2, hW2⟩ : ∃ W2, W.alloc (.cells #[.int .i64 0] 3) = W2 := ⟨_, rfl⟩
  have hb2 : Below W.heap.size W W2 := by rw [← hW2]; exact (Below.refl _ W).alloc (Nat.le_refl _) _
  have hq2 : Has W2 W.heap.size 3 #[.int .i64 ((0 : Nat) : Int)] := by
    rw [← hW2]
    exact Has.made _ _ _
  have C2 : Hid (CnU W0 g off n d W.heap.size 0 W2) := Lib.hid ⟨h.below (by omega) hb2, hq2, h.gr.size, by have := h.lt (by omega); omega⟩
  have HW := Lib.hid hW2
  obtain ⟨m, hm⟩ : ∃ m, b - a = m := ⟨_, rfl⟩
  obtain ⟨q, hq⟩ : ∃ q, m / 4 = q := ⟨_, rfl⟩
  have hm1 : (b : Int) - (a : Int) = (m : Int) := by omega
  have hq1 : (m : Int).tdiv 4 = (q : Int) := by rw [Int.tdiv_eq_ediv_of_nonneg (by omega)]; omega
  have hq3 : (m : Int) / 4 = (q : Int) := by omega
  have hm8 : ¬ (m : Int) < 8 := by omega
  have hm9 : (8 : Int) ≤ (m : Int) := by omega
  have hq0 : 2 ≤ q := by omega
  have hqn : a + q * 3 + 2 ≤ n := by omega
  have HCH : Hid (choosePivot ltU d a b = finPU (if 50 ≤ m then pivBigU d a q else median ltU d (a + q * 1) (a + q * 2) (a + q * 3) 0)) := Lib.hid (by
    unfold choosePivot
    simp only [hm, hq, ge_iff_le]
    rw [if_pos (show 8 ≤ m by omega)]
    rfl)
  rw [HCH.out]
  clear HCH
  by_cases h50 : 50 ≤ m
  · rw [if_pos h50]
    unfold pivBigU
    have hm50 : (50 : Int) ≤ (m : Int) := by omega
    have j1 := medianU_in (d := d) (a := a + q * 1 - 1) (b := a + q * 1) (c := a + q * 1 + 1) (s := 0) (n := n) (by omega) (by omega) (by omega)
    have A1 := Lib.hid (fun w (h : CnU W0 g off n d W.heap.size 0 w) => oMedAdjU_any c (a + q * 1) d W0 w h (by omega) (by omega) (by omega))
    unfold medianAdjacent at A1 ⊢
    generalize median ltU d (a + q * 1 - 1) (a + q * 1) (a + q * 1 + 1) 0 = r1 at j1 A1
    have j2 := medianU_in (d := d) (a := a + q * 2 - 1) (b := a + q * 2) (c := a + q * 2 + 1) (s := r1.2) (n := n) (by omega) (by omega) (by omega)
    have A2 := Lib.hid (fun w (h : CnU W0 g off n d W.heap.size r1.2 w) => oMedAdjU_any c (a + q * 2) d W0 w h (by omega) (by omega) (by omega))
    unfold medianAdjacent at A2
    generalize median ltU d (a + q * 2 - 1) (a + q * 2) (a + q * 2 + 1) r1.2 = r2 at j2 A2
    have j3 := medianU_in (d := d) (a := a + q * 3 - 1) (b := a + q * 3) (c := a + q * 3 + 1) (s := r2.2) (n := n) (by omega) (by omega) (by omega)
    have A3 := Lib.hid (fun w (h : CnU W0 g off n d W.heap.size r2.2 w) => oMedAdjU_any c (a + q * 3) d W0 w h (by omega) (by omega) (by omega))
    unfold medianAdjacent at A3
    generalize median ltU d (a + q * 3 - 1) (a + q * 3) (a + q * 3 + 1) r2.2 = r3 at j3 A3
    have A4 := Lib.hid (fun w (h : CnU W0 g off n d W.heap.size r3.2 w) => oMedianU_any c r1.1 r2.1 r3.1 d W0 w h j1.1 j2.1 j3.1 (by omega))
    rw [show ((a + q * 1 : Nat) : Int) = (a : Int) + (q : Int) by omega] at A1
    rw [show ((a + q * 2 : Nat) : Int) = (a : Int) + (q : Int) * 2 by omega] at A2
    rw [show ((a + q * 3 : Nat) : Int) = (a : Int) + (q : Int) * 3 by omega] at A3
    generalize median ltU d r1.1 r2.1 r3.1 r3.2 = r at A4
    unfold finPU
    dsimp only
    clear h hb2 hq2 hm hq j1 j2 j3 hW2
    by_cases z1 : r.2 = 0
    · rw [if_pos z1]
      obtain ⟨r0, rs⟩ := r
      dsimp only at *
      subst z1
      unfold hintU
      go_enter Try.func25, Try.ntmps25
      go_wp2_with (first
        | (go_at_call 36; (try rw [HW.out]); (with_reducible refine (A1.out W2 C2.out).mono ?_); rintro e w3 ⟨rfl, h5⟩; have C3 := Lib.hid h5; clear h5)
        | (go_at_call 36; (with_reducible refine (A2.out w3 C3.out).mono ?_); rintro e w4 ⟨rfl, h5⟩; have C4 := Lib.hid h5; clear h5)
        | (go_at_call 36; (with_reducible refine (A3.out w4 C4.out).mono ?_); rintro e w5 ⟨rfl, h5⟩; have C5 := Lib.hid h5; clear h5)
        | (go_at_call 37; (with_reducible refine (A4.out w5 C5.out).mono ?_); rintro e w6 ⟨rfl, h5⟩; have z0 := h5.bx.cell0; have E6 := Lib.hid h5.su; clear h5))
      go_ret2
      exact ⟨rfl, E6.out⟩
    · by_cases z2 : r.2 = 12
      · rw [if_neg z1, if_pos z2]
        obtain ⟨r0, rs⟩ := r
        dsimp only at *
        subst z2
        clear z1
        unfold hintU
        go_enter Try.func25, Try.ntmps25
        go_wp2_with (first
          | (go_at_call 36; (try rw [HW.out]); (with_reducible refine (A1.out W2 C2.out).mono ?_); rintro e w3 ⟨rfl, h5⟩; have C3 := Lib.hid h5; clear h5)
          | (go_at_call 36; (with_reducible refine (A2.out w3 C3.out).mono ?_); rintro e w4 ⟨rfl, h5⟩; have C4 := Lib.hid h5; clear h5)
          | (go_at_call 36; (with_reducible refine (A3.out w4 C4.out).mono ?_); rintro e w5 ⟨rfl, h5⟩; have C5 := Lib.hid h5; clear h5)
          | (go_at_call 37; (with_reducible refine (A4.out w5 C5.out).mono ?_); rintro e w6 ⟨rfl, h5⟩; have z0 := h5.bx.cell0; have E6 := Lib.hid h5.su; clear h5))
        go_ret2
        exact ⟨rfl, E6.out⟩
      · rw [if_neg z1, if_neg z2]
        obtain ⟨r0, rs⟩ := r
        dsimp only at *
        have z3 : ((rs : Int) == 0) = false := by simp; omega
        have z4 : ((rs : Int) == 12) = false := by simp; omega
        clear z1 z2
        unfold hintU
        go_enter Try.func25, Try.ntmps25
        go_wp2_with (first
          | (go_at_call 36; (try rw [HW.out]); (with_reducible refine (A1.out W2 C2.out).mono ?_); rintro e w3 ⟨rfl, h5⟩; have C3 := Lib.hid h5; clear h5)
          | (go_at_call 36; (with_reducible refine (A2.out w3 C3.out).mono ?_); rintro e w4 ⟨rfl, h5⟩; have C4 := Lib.hid h5; clear h5)
          | (go_at_call 36; (with_reducible refine (A3.out w4 C4.out).mono ?_); rintro e w5 ⟨rfl, h5⟩; have C5 := Lib.hid h5; clear h5)
          | (go_at_call 37; (with_reducible refine (A4.out w5 C5.out).mono ?_); rintro e w6 ⟨rfl, h5⟩; have z0 := h5.bx.cell0; have E6 := Lib.hid h5.su; clear h5))
        go_ret2
        exact ⟨rfl, E6.out⟩
  · rw [if_neg h50]
    have hm50 : ¬ (50 : Int) ≤ (m : Int) := by omega
    have A4 := Lib.hid (fun w (h : CnU W0 g off n d W.heap.size 0 w) => oMedianU_any c (a + q * 1) (a + q * 2) (a + q * 3) d W0 w h (by omega) (by omega) (by omega) (by omega))
    rw [show ((a + q * 1 : Nat) : Int) = (a : Int) + (q : Int) by omega, show ((a + q * 2 : Nat) : Int) = (a : Int) + (q : Int) * 2 by omega, show ((a + q * 3 : Nat) : Int) = (a : Int) + (q : Int) * 3 by omega] at A4
    generalize median ltU d (a + q * 1) (a + q * 2) (a + q * 3) 0 = r at A4
    unfold finPU
    dsimp only
    clear h hb2 hq2 hm hq hW2
    by_cases z1 : r.2 = 0
    · rw [if_pos z1]
      obtain ⟨r0, rs⟩ := r
      dsimp only at *
      subst z1
      unfold hintU
      go_enter Try.func25, Try.ntmps25
      go_wp2_with (first
        | (go_at_call 37; (try rw [HW.out]); (with_reducible refine (A4.out W2 C2.out).mono ?_); rintro e w6 ⟨rfl, h5⟩; have z0 := h5.bx.cell0; have E6 := Lib.hid h5.su; clear h5))
      go_ret2
      exact ⟨rfl, E6.out⟩
    · by_cases z2 : r.2 = 12
      · rw [if_neg z1, if_pos z2]
        obtain ⟨r0, rs⟩ := r
        dsimp only at *
        subst z2
        clear z1
        unfold hintU
        go_enter Try.func25, Try.ntmps25
        go_wp2_with (first
          | (go_at_call 37; (try rw [HW.out]); (with_reducible refine (A4.out W2 C2.out).mono ?_); rintro e w6 ⟨rfl, h5⟩; have z0 := h5.bx.cell0; have E6 := Lib.hid h5.su; clear h5))
        go_ret2
        exact ⟨rfl, E6.out⟩
      · rw [if_neg z1, if_neg z2]
        obtain ⟨r0, rs⟩ := r
        dsimp only at *
        have z3 : ((rs : Int) == 0) = false := by simp; omega
        have z4 : ((rs : Int) == 12) = false := by simp; omega
        clear z1 z2
        unfold hintU
        go_enter Try.func25, Try.ntmps25
        go_wp2_with (first
          | (go_at_call 37; (try rw [HW.out]); (with_reducible refine (A4.out W2 C2.out).mono ?_); rintro e w6 ⟨rfl, h5⟩; have z0 := h5.bx.cell0; have E6 := Lib.hid h5.su; clear h5))
        go_ret2
        exact ⟨rfl, E6.out⟩
end Go.Proofs.Ytlfmmmgdilencaa
