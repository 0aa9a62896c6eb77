import Derived.Test.YtglkmpglpddfdaaGreatDoorJ34
/- Of a claim's texts, joined: Srd. No statement but in the last. -/
namespace Go.Proofs.YtglkmpglpddfdaaGreatDoor
open Go.RowKit Go.Sort
set_option linter.unusedVariables false

section
variable {α : Type} [Inhabited α] {lt : α → α → Bool} {I : Array α → World → Prop} {blk n low g sf : Nat} {lb sb : Array Value}
def hintI : Hint → Int
  | .unknown => 0
  | .increasing => 1
  | .decreasing => 2
def pivBig (lt : α → α → Bool) (d : Array α) (a q : Nat) : Nat × Nat := median lt d (medianAdjacent lt d (a + q * 1) 0).1 (medianAdjacent lt d (a + q * 2) (medianAdjacent lt d (a + q * 1) 0).2).1
  (medianAdjacent lt d (a + q * 3) (medianAdjacent lt d (a + q * 2) (medianAdjacent lt d (a + q * 1) 0).2).2).1 (medianAdjacent lt d (a + q * 3) (medianAdjacent lt d (a + q * 2) (medianAdjacent lt d (a + q * 1) 0).2).2).2
def finP (r : Nat × Nat) : Nat × Hint := (r.1, if r.2 = 0 then .increasing else if r.2 = 12 then .decreasing else .unknown)
set_option maxRecDepth 100000 in
set_option maxHeartbeats 8000000 in
theorem choosePiv_any (S : Srt lt I blk n low g sf lb sb) (a b : Nat) (d : Array α) (W : World) (hI : I d W) (hab : a + 8 ≤ b) (hb : b ≤ n) :
    Calls Tryz.prog 98 #[.agg #[.func (.func g) #[] lb, .func (.func sf) #[] sb], .int .i64 (a : Int), .int .i64 (b : Int)] W fun e w' => e = .returned (.tuple #[.int .i64 ((choosePivot lt d a b).1 : Int), .int .i64 (hintI (choosePivot lt d a b).2)]) ∧ I d w' ∧ Below W.heap.size W w' := by
  have hmost := S.most
  obtain ⟨W2, hW2⟩ : ∃ W2, (W.alloc (.cells #[.func (.func g) #[] lb, .func (.func sf) #[] sb] 92)).alloc (.cells #[.int .i64 0] 3) = W2 := ⟨_, rfl⟩
  have hs1 : (W.alloc (.cells #[.func (.func g) #[] lb, .func (.func sf) #[] sb] 92)).heap.size = W.heap.size + 1 := by simp
  have hb2 : Below W.heap.size W W2 := by rw [← hW2]; exact (boxW_below W).alloc (boxW_below W).size _
  have hx2 : Has W2 W.heap.size 92 #[.func (.func g) #[] lb, .func (.func sf) #[] sb] := by rw [← hW2]; exact (boxW_has W).alloc _
  have hq2 : Has W2 (W.heap.size + 1) 3 #[.int .i64 ((0 : Nat) : Int)] := by
    rw [← hW2, ← hs1]
    exact Has.made _ _ _
  have hlow := S.high d W hI
  have C2 : Hid (Cn I (W.heap.size + 1) d W2 0 W2) := Lib.hid ⟨S.below _ _ _ hI hb2, hq2, gb_refl _ _⟩
  have HX := Lib.hid hx2
  have HE : Hid (∀ {w'}, W2.grownBy w' (some (W.heap.size + 1)) → Below W.heap.size W w') := Lib.hid (fun h => hb2.grown h hb2.size (fun k hk => by injection hk with hk; omega))
  have b0 := hx2.cell0
  have b1 := hx2.cell1
  have hsz : W.heap.size < W2.heap.size := hx2.lt
  obtain ⟨m, hm⟩ : ∃ m, b - a = m := ⟨_, rfl⟩
  obtain ⟨q, hq⟩ : ∃ q, m / 4 = q := ⟨_, rfl⟩
  have hm1 : (b : Int) - (a : Int) = (m : Int) := by omega
  have hq1 : (m : Int).tdiv 4 = (q : Int) := by rw [Int.tdiv_eq_ediv_of_nonneg (by omega)]; omega
  have hq3 : (m : Int) / 4 = (q : Int) := by omega
  have hm8 : ¬ (m : Int) < 8 := by omega
  have hm9 : (8 : Int) ≤ (m : Int) := by omega
  have hq0 : 2 ≤ q := by omega
  have hqn : a + q * 3 + 2 ≤ n := by omega
  have HCH : Hid (choosePivot lt d a b = finP (if 50 ≤ m then pivBig lt d a q else median lt d (a + q * 1) (a + q * 2) (a + q * 3) 0)) := Lib.hid (by
    unfold choosePivot
    simp only [hm, hq, ge_iff_le]
    rw [if_pos (show 8 ≤ m by omega)]
    rfl)
  rw [HCH.out]
  clear HCH
  by_cases h50 : 50 ≤ m
  · rw [if_pos h50]
    unfold pivBig
    have hm50 : (50 : Int) ≤ (m : Int) := by omega
    have j1 := median_in (lt := lt) (d := d) (a := a + q * 1 - 1) (b := a + q * 1) (c := a + q * 1 + 1) (s := 0) (n := n) (by omega) (by omega) (by omega)
    have A1 := Lib.hid (fun w h h' => medAdj_any S (a + q * 1) 0 (W.heap.size + 1) d w h h' (by omega) (by omega) (by omega) (by omega))
    unfold medianAdjacent at A1 ⊢
    generalize median lt d (a + q * 1 - 1) (a + q * 1) (a + q * 1 + 1) 0 = r1 at j1 A1
    have j2 := median_in (lt := lt) (d := d) (a := a + q * 2 - 1) (b := a + q * 2) (c := a + q * 2 + 1) (s := r1.2) (n := n) (by omega) (by omega) (by omega)
    have A2 := Lib.hid (fun w h h' => medAdj_any S (a + q * 2) r1.2 (W.heap.size + 1) d w h h' (by omega) (by omega) (by omega) (by omega))
    unfold medianAdjacent at A2
    generalize median lt d (a + q * 2 - 1) (a + q * 2) (a + q * 2 + 1) r1.2 = r2 at j2 A2
    have j3 := median_in (lt := lt) (d := d) (a := a + q * 3 - 1) (b := a + q * 3) (c := a + q * 3 + 1) (s := r2.2) (n := n) (by omega) (by omega) (by omega)
    have A3 := Lib.hid (fun w h h' => medAdj_any S (a + q * 3) r2.2 (W.heap.size + 1) d w h h' (by omega) (by omega) (by omega) (by omega))
    unfold medianAdjacent at A3
    generalize median lt d (a + q * 3 - 1) (a + q * 3) (a + q * 3 + 1) r2.2 = r3 at j3 A3
    have A4 := Lib.hid (fun w h h' => median_any S r1.1 r2.1 r3.1 r3.2 (W.heap.size + 1) d w h h' (by omega) j1.1 j2.1 j3.1 (by omega))
    rw [show ((a + q * 1 : Nat) : Int) = (a : Int) + (q : Int) by omega] at A1
    rw [show ((a + q * 2 : Nat) : Int) = (a : Int) + (q : Int) * 2 by omega] at A2
    rw [show ((a + q * 3 : Nat) : Int) = (a : Int) + (q : Int) * 3 by omega] at A3
    generalize median lt d r1.1 r2.1 r3.1 r3.2 = r at A4
    unfold finP
    dsimp only
    clear S hI hb2 hx2 hq2 hm hq hs1 j1 j2 j3
    by_cases z1 : r.2 = 0
    · rw [if_pos z1]
      obtain ⟨r0, rs⟩ := r
      dsimp only at *
      subst z1
      unfold hintI
      go_enter Tryz.func98, Tryz.ntmps98
      go_wp2_with (first
        | (go_at_call 122; (with_reducible refine (A1.out W2 C2.out.inv C2.out.has).mono ?_); rintro e w3 ⟨rfl, h5⟩; have C3 : Hid (Cn I (W.heap.size + 1) d W2 r1.2 w3) := Lib.hid ⟨h5.inv, h5.has, gb_trans C2.out.gr h5.gr⟩; have hx := HX.out.grown h5.gr (fun e => by injection e with e; omega); have X3 := Lib.hid hx; have p3 := hx.cell0; have q3 := hx.cell1; clear h5 hx)
        | (go_at_call 122; (with_reducible refine (A2.out w3 C3.out.inv C3.out.has).mono ?_); rintro e w4 ⟨rfl, h5⟩; have C4 : Hid (Cn I (W.heap.size + 1) d W2 r2.2 w4) := Lib.hid ⟨h5.inv, h5.has, gb_trans C3.out.gr h5.gr⟩; have hx := X3.out.grown h5.gr (fun e => by injection e with e; omega); have X4 := Lib.hid hx; have p4 := hx.cell0; have q4 := hx.cell1; clear h5 hx)
        | (go_at_call 122; (with_reducible refine (A3.out w4 C4.out.inv C4.out.has).mono ?_); rintro e w5 ⟨rfl, h5⟩; have C5 : Hid (Cn I (W.heap.size + 1) d W2 r3.2 w5) := Lib.hid ⟨h5.inv, h5.has, gb_trans C4.out.gr h5.gr⟩; have hx := X4.out.grown h5.gr (fun e => by injection e with e; omega); have X5 := Lib.hid hx; have p5 := hx.cell0; have q5 := hx.cell1; clear h5 hx)
        | (go_at_call 123; (with_reducible refine (A4.out w5 C5.out.inv C5.out.has).mono ?_); rintro e w6 ⟨rfl, h5⟩; have z0 := h5.has.cell0; have E6 : Hid (I d w6 ∧ Below W.heap.size W w6) := Lib.hid ⟨h5.inv, HE.out (gb_trans C5.out.gr h5.gr)⟩; clear h5))
      go_ret2
      exact ⟨rfl, E6.out⟩
    · by_cases z2 : r.2 = 12
      · rw [if_neg z1, if_pos z2]
        obtain ⟨r0, rs⟩ := r
        dsimp only at *
        subst z2
        clear z1
        unfold hintI
        go_enter Tryz.func98, Tryz.ntmps98
        go_wp2_with (first
          | (go_at_call 122; (with_reducible refine (A1.out W2 C2.out.inv C2.out.has).mono ?_); rintro e w3 ⟨rfl, h5⟩; have C3 : Hid (Cn I (W.heap.size + 1) d W2 r1.2 w3) := Lib.hid ⟨h5.inv, h5.has, gb_trans C2.out.gr h5.gr⟩; have hx := HX.out.grown h5.gr (fun e => by injection e with e; omega); have X3 := Lib.hid hx; have p3 := hx.cell0; have q3 := hx.cell1; clear h5 hx)
          | (go_at_call 122; (with_reducible refine (A2.out w3 C3.out.inv C3.out.has).mono ?_); rintro e w4 ⟨rfl, h5⟩; have C4 : Hid (Cn I (W.heap.size + 1) d W2 r2.2 w4) := Lib.hid ⟨h5.inv, h5.has, gb_trans C3.out.gr h5.gr⟩; have hx := X3.out.grown h5.gr (fun e => by injection e with e; omega); have X4 := Lib.hid hx; have p4 := hx.cell0; have q4 := hx.cell1; clear h5 hx)
          | (go_at_call 122; (with_reducible refine (A3.out w4 C4.out.inv C4.out.has).mono ?_); rintro e w5 ⟨rfl, h5⟩; have C5 : Hid (Cn I (W.heap.size + 1) d W2 r3.2 w5) := Lib.hid ⟨h5.inv, h5.has, gb_trans C4.out.gr h5.gr⟩; have hx := X4.out.grown h5.gr (fun e => by injection e with e; omega); have X5 := Lib.hid hx; have p5 := hx.cell0; have q5 := hx.cell1; clear h5 hx)
          | (go_at_call 123; (with_reducible refine (A4.out w5 C5.out.inv C5.out.has).mono ?_); rintro e w6 ⟨rfl, h5⟩; have z0 := h5.has.cell0; have E6 : Hid (I d w6 ∧ Below W.heap.size W w6) := Lib.hid ⟨h5.inv, HE.out (gb_trans C5.out.gr h5.gr)⟩; clear h5))
        go_ret2
        exact ⟨rfl, E6.out⟩
      · rw [if_neg z1, if_neg z2]
        obtain ⟨r0, rs⟩ := r
        dsimp only at *
        have z3 : ((rs : Int) == 0) = false := by simp; omega
        have z4 : ((rs : Int) == 12) = false := by simp; omega
        clear z1 z2
        unfold hintI
        go_enter Tryz.func98, Tryz.ntmps98
        go_wp2_with (first
          | (go_at_call 122; (with_reducible refine (A1.out W2 C2.out.inv C2.out.has).mono ?_); rintro e w3 ⟨rfl, h5⟩; have C3 : Hid (Cn I (W.heap.size + 1) d W2 r1.2 w3) := Lib.hid ⟨h5.inv, h5.has, gb_trans C2.out.gr h5.gr⟩; have hx := HX.out.grown h5.gr (fun e => by injection e with e; omega); have X3 := Lib.hid hx; have p3 := hx.cell0; have q3 := hx.cell1; clear h5 hx)
          | (go_at_call 122; (with_reducible refine (A2.out w3 C3.out.inv C3.out.has).mono ?_); rintro e w4 ⟨rfl, h5⟩; have C4 : Hid (Cn I (W.heap.size + 1) d W2 r2.2 w4) := Lib.hid ⟨h5.inv, h5.has, gb_trans C3.out.gr h5.gr⟩; have hx := X3.out.grown h5.gr (fun e => by injection e with e; omega); have X4 := Lib.hid hx; have p4 := hx.cell0; have q4 := hx.cell1; clear h5 hx)
          | (go_at_call 122; (with_reducible refine (A3.out w4 C4.out.inv C4.out.has).mono ?_); rintro e w5 ⟨rfl, h5⟩; have C5 : Hid (Cn I (W.heap.size + 1) d W2 r3.2 w5) := Lib.hid ⟨h5.inv, h5.has, gb_trans C4.out.gr h5.gr⟩; have hx := X4.out.grown h5.gr (fun e => by injection e with e; omega); have X5 := Lib.hid hx; have p5 := hx.cell0; have q5 := hx.cell1; clear h5 hx)
          | (go_at_call 123; (with_reducible refine (A4.out w5 C5.out.inv C5.out.has).mono ?_); rintro e w6 ⟨rfl, h5⟩; have z0 := h5.has.cell0; have E6 : Hid (I d w6 ∧ Below W.heap.size W w6) := Lib.hid ⟨h5.inv, HE.out (gb_trans C5.out.gr h5.gr)⟩; clear h5))
        go_ret2
        exact ⟨rfl, E6.out⟩
  · rw [if_neg h50]
    have hm50 : ¬ (50 : Int) ≤ (m : Int) := by omega
    have A4 := Lib.hid (fun w h h' => median_any S (a + q * 1) (a + q * 2) (a + q * 3) 0 (W.heap.size + 1) d w h h' (by omega) (by omega) (by omega) (by omega) (by omega))
    rw [show ((a + q * 1 : Nat) : Int) = (a : Int) + (q : Int) by omega, show ((a + q * 2 : Nat) : Int) = (a : Int) + (q : Int) * 2 by omega, show ((a + q * 3 : Nat) : Int) = (a : Int) + (q : Int) * 3 by omega] at A4
    generalize median lt d (a + q * 1) (a + q * 2) (a + q * 3) 0 = r at A4
    unfold finP
    dsimp only
    clear S hI hb2 hx2 hq2 hm hq hs1
    by_cases z1 : r.2 = 0
    · rw [if_pos z1]
      obtain ⟨r0, rs⟩ := r
      dsimp only at *
      subst z1
      unfold hintI
      go_enter Tryz.func98, Tryz.ntmps98
      go_wp2_with (first
        | (go_at_call 123; (with_reducible refine (A4.out W2 C2.out.inv C2.out.has).mono ?_); rintro e w6 ⟨rfl, h5⟩; have z0 := h5.has.cell0; have E6 : Hid (I d w6 ∧ Below W.heap.size W w6) := Lib.hid ⟨h5.inv, HE.out h5.gr⟩; clear h5))
      go_ret2
      exact ⟨rfl, E6.out⟩
    · by_cases z2 : r.2 = 12
      · rw [if_neg z1, if_pos z2]
        obtain ⟨r0, rs⟩ := r
        dsimp only at *
        subst z2
        clear z1
        unfold hintI
        go_enter Tryz.func98, Tryz.ntmps98
        go_wp2_with (first
          | (go_at_call 123; (with_reducible refine (A4.out W2 C2.out.inv C2.out.has).mono ?_); rintro e w6 ⟨rfl, h5⟩; have z0 := h5.has.cell0; have E6 : Hid (I d w6 ∧ Below W.heap.size W w6) := Lib.hid ⟨h5.inv, HE.out h5.gr⟩; clear h5))
        go_ret2
        exact ⟨rfl, E6.out⟩
      · rw [if_neg z1, if_neg z2]
        obtain ⟨r0, rs⟩ := r
        dsimp only at *
        have z3 : ((rs : Int) == 0) = false := by simp; omega
        have z4 : ((rs : Int) == 12) = false := by simp; omega
        clear z1 z2
        unfold hintI
        go_enter Tryz.func98, Tryz.ntmps98
        go_wp2_with (first
          | (go_at_call 123; (with_reducible refine (A4.out W2 C2.out.inv C2.out.has).mono ?_); rintro e w6 ⟨rfl, h5⟩; have z0 := h5.has.cell0; have E6 : Hid (I d w6 ∧ Below W.heap.size W w6) := Lib.hid ⟨h5.inv, HE.out h5.gr⟩; clear h5))
        go_ret2
        exact ⟨rfl, E6.out⟩
end

end Go.Proofs.YtglkmpglpddfdaaGreatDoor
