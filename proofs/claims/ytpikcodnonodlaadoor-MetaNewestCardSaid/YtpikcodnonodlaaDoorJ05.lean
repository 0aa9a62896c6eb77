import Derived.Test.YtpikcodnonodlaaDoorJ04
import Derived.Test.YtpikcodnonodlaaDoorJ01
import Derived.Test.YtpikcodnonodlaaDoorJ00
import Derived.Test.YtpikcodnonodlaaDoorJ03
import Derived.Lib.AppendZeros
/- Of a claim's texts, joined: Mtd Mte Ccb. No statement but in the last. -/
section
namespace Go.Proofs.YtpikcodnonodlaaDoor
open Go.RowKit
set_option linter.unusedVariables false

theorem check_all {m : Mt} (h : ∀ k, k < 6 → condB k m = true) : decide (checkM m) = true := decide_eq_true ((condB_all m).2 h)
theorem check_not {m : Mt} {k : Nat} (hk : k < 6) (h : ¬ condB k m = true) : decide (checkM m) = false := decide_eq_false (fun hh => h ((condB_all m).1 hh k hk))

set_option maxRecDepth 100000 in
set_option maxHeartbeats 4000000 in
theorem mCheck_any (m : Mt) (w : World) : Calls Tryd.prog 12 #[mtV m] w fun e w' => e = .returned (.bool (decide (checkM m))) ∧ Below w.heap.size w w' := by
  obtain ⟨label, txn, root, list, high⟩ := m
  obtain ⟨W, hW, hb, hh⟩ := mbox w ⟨label, txn, root, list, high⟩
  have HALL := Lib.hid (check_all (m := ⟨label, txn, root, list, high⟩))
  have HNOT := Lib.hid (fun k => check_not (m := ⟨label, txn, root, list, high⟩) (k := k))
  have HC0 : Hid (∀ w1, Calls Tryd.prog 40 #[mtV ⟨label, txn, root, list, high⟩] w1 fun e w' => e = .returned (.bool (condB 0 ⟨label, txn, root, list, high⟩)) ∧ Below w1.heap.size w1 w') := Lib.hid (fun w1 => mcond1_any ⟨label, txn, root, list, high⟩ w1)
  have HC1 : Hid (∀ w1, Calls Tryd.prog 41 #[mtV ⟨label, txn, root, list, high⟩] w1 fun e w' => e = .returned (.bool (condB 1 ⟨label, txn, root, list, high⟩)) ∧ Below w1.heap.size w1 w') := Lib.hid (fun w1 => mcond2_any ⟨label, txn, root, list, high⟩ w1)
  have HC2 : Hid (∀ w1, Calls Tryd.prog 42 #[mtV ⟨label, txn, root, list, high⟩] w1 fun e w' => e = .returned (.bool (condB 2 ⟨label, txn, root, list, high⟩)) ∧ Below w1.heap.size w1 w') := Lib.hid (fun w1 => mcond3_any ⟨label, txn, root, list, high⟩ w1)
  have HC3 : Hid (∀ w1, Calls Tryd.prog 43 #[mtV ⟨label, txn, root, list, high⟩] w1 fun e w' => e = .returned (.bool (condB 3 ⟨label, txn, root, list, high⟩)) ∧ Below w1.heap.size w1 w') := Lib.hid (fun w1 => mcond4_any ⟨label, txn, root, list, high⟩ w1)
  have HC4 : Hid (∀ w1, Calls Tryd.prog 45 #[mtV ⟨label, txn, root, list, high⟩] w1 fun e w' => e = .returned (.bool (condB 4 ⟨label, txn, root, list, high⟩)) ∧ Below w1.heap.size w1 w') := Lib.hid (fun w1 => mcond5_any ⟨label, txn, root, list, high⟩ w1)
  have HC5 : Hid (∀ w1, Calls Tryd.prog 46 #[mtV ⟨label, txn, root, list, high⟩] w1 fun e w' => e = .returned (.bool (condB 5 ⟨label, txn, root, list, high⟩)) ∧ Below w1.heap.size w1 w') := Lib.hid (fun w1 => mcond6_any ⟨label, txn, root, list, high⟩ w1)
  simp only [mtV, mtC] at hW hh HC0 HC1 HC2 HC3 HC4 HC5 ⊢
  have HB := Lib.hid hb
  have HH := Lib.hid hh
  have HS : Hid (W.heap.size = w.heap.size + 1) := Lib.hid (by rw [← hW]; simp)
  obtain ⟨dc, hdc⟩ : ∃ dc, decide (checkM ⟨label, txn, root, list, high⟩) = dc := ⟨_, rfl⟩
  rw [hdc] at HALL HNOT ⊢
  obtain ⟨b0, hb0⟩ : ∃ b, condB 0 ⟨label, txn, root, list, high⟩ = b := ⟨_, rfl⟩
  rw [hb0] at HC0
  have HE0 := Lib.hid hb0
  clear hb0
  obtain ⟨b1, hb1⟩ : ∃ b, condB 1 ⟨label, txn, root, list, high⟩ = b := ⟨_, rfl⟩
  rw [hb1] at HC1
  have HE1 := Lib.hid hb1
  clear hb1
  obtain ⟨b2, hb2⟩ : ∃ b, condB 2 ⟨label, txn, root, list, high⟩ = b := ⟨_, rfl⟩
  rw [hb2] at HC2
  have HE2 := Lib.hid hb2
  clear hb2
  obtain ⟨b3, hb3⟩ : ∃ b, condB 3 ⟨label, txn, root, list, high⟩ = b := ⟨_, rfl⟩
  rw [hb3] at HC3
  have HE3 := Lib.hid hb3
  clear hb3
  obtain ⟨b4, hb4⟩ : ∃ b, condB 4 ⟨label, txn, root, list, high⟩ = b := ⟨_, rfl⟩
  rw [hb4] at HC4
  have HE4 := Lib.hid hb4
  clear hb4
  obtain ⟨b5, hb5⟩ : ∃ b, condB 5 ⟨label, txn, root, list, high⟩ = b := ⟨_, rfl⟩
  rw [hb5] at HC5
  have HE5 := Lib.hid hb5
  clear hb5
  have HMC := Lib.hid (mconds_any W)
  have hsf := fun (w : World) (a : Addr) (f : Fn) (m : Mode) => run_store Tryd.prog w a (.func f #[] #[]) m rfl
  clear hb hh hdc
  go_enter Tryd.func12, Tryd.ntmps12
  go_wp2_with (go_at_call 26; (try rw [hW]); (with_reducible refine HMC.out.mono ?_); rintro r1 w1 ⟨rfl, x1, b1⟩; have X1 := Lib.hid x1; have H1 := Lib.hid (HH.out.below b1 HH.out.lt); have B1 := Lib.hid (below_step HB.out b1); clear x1 b1)
  go_loopw [7] (fun i wr => ∃ k : Nat, k ≤ 6 ∧ i = .int .i64 k ∧ (∀ j, j < k → condB j ⟨label, txn, root, list, high⟩ = true) ∧ Below w.heap.size w wr ∧ Has wr w.heap.size 24 #[.int .i64 label, .int .u64 (txn : Int), .int .i64 root, .int .i64 list, .int .i64 high] ∧ Has wr W.heap.size 60 condC) (fun i _ => 6 - (intOf i).toNat)
  case atStart => exact ⟨0, by omega, rfl, fun j hj => absurd hj (by omega), B1.out, H1.out, X1.out⟩
  case round =>
    obtain ⟨k, hk, rfl, hx, hB, hH, hC⟩ := hrel
    have HX := Lib.hid hx
    have BW := Lib.hid hB
    have HW := Lib.hid hH
    have CW := Lib.hid hC
    have m0 := hH.cell 0
    have m1 := hH.cell 1
    have m2 := hH.cell 2
    have m3 := hH.cell 3
    have m4 := hH.cell 4
    clear hx hB
    obtain ⟨w3, hw3⟩ : ∃ w3 : World, w3 = wr := ⟨_, rfl⟩
    subst hw3
    rcases k with _ | _ | _ | _ | _ | _ | _ | k
    · have q0 : w3.cell? ⟨W.heap.size, 0, none⟩ = some (.func (.func 40) #[] #[]) := hC.cell 0
      have HN : Hid (∀ j, j < 1 → (True)) := Lib.hid (fun j hj => trivial)
      have HY : Hid (b0 = true → ∀ j, j < 1 → condB j ⟨label, txn, root, list, high⟩ = true) := Lib.hid (fun h j hj => by
        by_cases hj2 : j < 0
        · exact HX.out j hj2
        · obtain rfl : j = 0 := by omega
          rw [HE0.out, h])
      have HZ : Hid (b0 = false → dc = false) := Lib.hid (fun h => HNOT.out 0 (by omega) (by rw [HE0.out, h]; simp))
      obtain ⟨w4, hw4⟩ : ∃ w4, (w3.alloc (.cells #[.func (.func 40) #[] #[]] 60)) = w4 := ⟨_, rfl⟩
      have b4 : Below w3.heap.size w3 w4 := hw4 ▸ (Below.refl _ w3).alloc (Nat.le_refl _) _
      have s0 : w4.cell? ⟨w3.heap.size, 0, none⟩ = some (.func (.func 40) #[] #[]) := hw4 ▸ (Has.made w3 60 #[.func (.func 40) #[] #[]]).cell 0
      have h4 := HW.out.below b4 HW.out.lt
      have n0 := h4.cell 0
      have n1 := h4.cell 1
      have n2 := h4.cell 2
      have n3 := h4.cell 3
      have n4 := h4.cell 4
      have H4 := Lib.hid h4
      have B4 := Lib.hid (below_step BW.out b4)
      have C4 := Lib.hid (CW.out.below b4 CW.out.lt)
      clear b4 h4 hH hC
      cases b0
      · obtain rfl := HZ.out rfl
        go_wp2_with (go_at_call 40; (try rw [hw4]); (with_reducible refine (HC0.out _).mono ?_); rintro r5 w5 ⟨rfl, b5⟩; have B5 := Lib.hid (below_step B4.out b5); clear b5)
        go_ret
        exact ⟨rfl, B5.out⟩
      · have HY2 := Lib.hid (HY.out rfl)
        go_wp2_with (go_at_call 40; (try rw [hw4]); (with_reducible refine (HC0.out _).mono ?_); rintro r5 w5 ⟨rfl, b5⟩; have H5 := Lib.hid (H4.out.below b5 H4.out.lt); have C5 := Lib.hid (C4.out.below b5 C4.out.lt); have B5 := Lib.hid (below_step B4.out b5); clear b5)
        go_roundw
        case rel => exact ⟨1, by omega, by go_num, HY2.out, B5.out, H5.out, C5.out⟩
        case measure => simp [intOf]
    · have q0 : w3.cell? ⟨W.heap.size, 1, none⟩ = some (.func (.func 41) #[] #[]) := hC.cell 1
      have HN : Hid (∀ j, j < 2 → (j < 1 → condB j ⟨label, txn, root, list, high⟩ = true)) := Lib.hid (fun j hj => HX.out j)
      have HY : Hid (b1 = true → ∀ j, j < 2 → condB j ⟨label, txn, root, list, high⟩ = true) := Lib.hid (fun h j hj => by
        by_cases hj2 : j < 1
        · exact HX.out j hj2
        · obtain rfl : j = 1 := by omega
          rw [HE1.out, h])
      have HZ : Hid (b1 = false → dc = false) := Lib.hid (fun h => HNOT.out 1 (by omega) (by rw [HE1.out, h]; simp))
      obtain ⟨w4, hw4⟩ : ∃ w4, (w3.alloc (.cells #[.func (.func 41) #[] #[]] 60)) = w4 := ⟨_, rfl⟩
      have b4 : Below w3.heap.size w3 w4 := hw4 ▸ (Below.refl _ w3).alloc (Nat.le_refl _) _
      have s0 : w4.cell? ⟨w3.heap.size, 0, none⟩ = some (.func (.func 41) #[] #[]) := hw4 ▸ (Has.made w3 60 #[.func (.func 41) #[] #[]]).cell 0
      have h4 := HW.out.below b4 HW.out.lt
      have n0 := h4.cell 0
      have n1 := h4.cell 1
      have n2 := h4.cell 2
      have n3 := h4.cell 3
      have n4 := h4.cell 4
      have H4 := Lib.hid h4
      have B4 := Lib.hid (below_step BW.out b4)
      have C4 := Lib.hid (CW.out.below b4 CW.out.lt)
      clear b4 h4 hH hC
      cases b1
      · obtain rfl := HZ.out rfl
        go_wp2_with (go_at_call 41; (try rw [hw4]); (with_reducible refine (HC1.out _).mono ?_); rintro r5 w5 ⟨rfl, b5⟩; have B5 := Lib.hid (below_step B4.out b5); clear b5)
        go_ret
        exact ⟨rfl, B5.out⟩
      · have HY2 := Lib.hid (HY.out rfl)
        go_wp2_with (go_at_call 41; (try rw [hw4]); (with_reducible refine (HC1.out _).mono ?_); rintro r5 w5 ⟨rfl, b5⟩; have H5 := Lib.hid (H4.out.below b5 H4.out.lt); have C5 := Lib.hid (C4.out.below b5 C4.out.lt); have B5 := Lib.hid (below_step B4.out b5); clear b5)
        go_roundw
        case rel => exact ⟨2, by omega, by go_num, HY2.out, B5.out, H5.out, C5.out⟩
        case measure => simp [intOf]
    · have q0 : w3.cell? ⟨W.heap.size, 2, none⟩ = some (.func (.func 42) #[] #[]) := hC.cell 2
      have HN : Hid (∀ j, j < 3 → (j < 2 → condB j ⟨label, txn, root, list, high⟩ = true)) := Lib.hid (fun j hj => HX.out j)
      have HY : Hid (b2 = true → ∀ j, j < 3 → condB j ⟨label, txn, root, list, high⟩ = true) := Lib.hid (fun h j hj => by
        by_cases hj2 : j < 2
        · exact HX.out j hj2
        · obtain rfl : j = 2 := by omega
          rw [HE2.out, h])
      have HZ : Hid (b2 = false → dc = false) := Lib.hid (fun h => HNOT.out 2 (by omega) (by rw [HE2.out, h]; simp))
      obtain ⟨w4, hw4⟩ : ∃ w4, (w3.alloc (.cells #[.func (.func 42) #[] #[]] 60)) = w4 := ⟨_, rfl⟩
      have b4 : Below w3.heap.size w3 w4 := hw4 ▸ (Below.refl _ w3).alloc (Nat.le_refl _) _
      have s0 : w4.cell? ⟨w3.heap.size, 0, none⟩ = some (.func (.func 42) #[] #[]) := hw4 ▸ (Has.made w3 60 #[.func (.func 42) #[] #[]]).cell 0
      have h4 := HW.out.below b4 HW.out.lt
      have n0 := h4.cell 0
      have n1 := h4.cell 1
      have n2 := h4.cell 2
      have n3 := h4.cell 3
      have n4 := h4.cell 4
      have H4 := Lib.hid h4
      have B4 := Lib.hid (below_step BW.out b4)
      have C4 := Lib.hid (CW.out.below b4 CW.out.lt)
      clear b4 h4 hH hC
      cases b2
      · obtain rfl := HZ.out rfl
        go_wp2_with (go_at_call 42; (try rw [hw4]); (with_reducible refine (HC2.out _).mono ?_); rintro r5 w5 ⟨rfl, b5⟩; have B5 := Lib.hid (below_step B4.out b5); clear b5)
        go_ret
        exact ⟨rfl, B5.out⟩
      · have HY2 := Lib.hid (HY.out rfl)
        go_wp2_with (go_at_call 42; (try rw [hw4]); (with_reducible refine (HC2.out _).mono ?_); rintro r5 w5 ⟨rfl, b5⟩; have H5 := Lib.hid (H4.out.below b5 H4.out.lt); have C5 := Lib.hid (C4.out.below b5 C4.out.lt); have B5 := Lib.hid (below_step B4.out b5); clear b5)
        go_roundw
        case rel => exact ⟨3, by omega, by go_num, HY2.out, B5.out, H5.out, C5.out⟩
        case measure => simp [intOf]
    · have q0 : w3.cell? ⟨W.heap.size, 3, none⟩ = some (.func (.func 43) #[] #[]) := hC.cell 3
      have HN : Hid (∀ j, j < 4 → (j < 3 → condB j ⟨label, txn, root, list, high⟩ = true)) := Lib.hid (fun j hj => HX.out j)
      have HY : Hid (b3 = true → ∀ j, j < 4 → condB j ⟨label, txn, root, list, high⟩ = true) := Lib.hid (fun h j hj => by
        by_cases hj2 : j < 3
        · exact HX.out j hj2
        · obtain rfl : j = 3 := by omega
          rw [HE3.out, h])
      have HZ : Hid (b3 = false → dc = false) := Lib.hid (fun h => HNOT.out 3 (by omega) (by rw [HE3.out, h]; simp))
      obtain ⟨w4, hw4⟩ : ∃ w4, (w3.alloc (.cells #[.func (.func 43) #[] #[]] 60)) = w4 := ⟨_, rfl⟩
      have b4 : Below w3.heap.size w3 w4 := hw4 ▸ (Below.refl _ w3).alloc (Nat.le_refl _) _
      have s0 : w4.cell? ⟨w3.heap.size, 0, none⟩ = some (.func (.func 43) #[] #[]) := hw4 ▸ (Has.made w3 60 #[.func (.func 43) #[] #[]]).cell 0
      have h4 := HW.out.below b4 HW.out.lt
      have n0 := h4.cell 0
      have n1 := h4.cell 1
      have n2 := h4.cell 2
      have n3 := h4.cell 3
      have n4 := h4.cell 4
      have H4 := Lib.hid h4
      have B4 := Lib.hid (below_step BW.out b4)
      have C4 := Lib.hid (CW.out.below b4 CW.out.lt)
      clear b4 h4 hH hC
      cases b3
      · obtain rfl := HZ.out rfl
        go_wp2_with (go_at_call 43; (try rw [hw4]); (with_reducible refine (HC3.out _).mono ?_); rintro r5 w5 ⟨rfl, b5⟩; have B5 := Lib.hid (below_step B4.out b5); clear b5)
        go_ret
        exact ⟨rfl, B5.out⟩
      · have HY2 := Lib.hid (HY.out rfl)
        go_wp2_with (go_at_call 43; (try rw [hw4]); (with_reducible refine (HC3.out _).mono ?_); rintro r5 w5 ⟨rfl, b5⟩; have H5 := Lib.hid (H4.out.below b5 H4.out.lt); have C5 := Lib.hid (C4.out.below b5 C4.out.lt); have B5 := Lib.hid (below_step B4.out b5); clear b5)
        go_roundw
        case rel => exact ⟨4, by omega, by go_num, HY2.out, B5.out, H5.out, C5.out⟩
        case measure => simp [intOf]
    · have q0 : w3.cell? ⟨W.heap.size, 4, none⟩ = some (.func (.func 45) #[] #[]) := hC.cell 4
      have HN : Hid (∀ j, j < 5 → (j < 4 → condB j ⟨label, txn, root, list, high⟩ = true)) := Lib.hid (fun j hj => HX.out j)
      have HY : Hid (b4 = true → ∀ j, j < 5 → condB j ⟨label, txn, root, list, high⟩ = true) := Lib.hid (fun h j hj => by
        by_cases hj2 : j < 4
        · exact HX.out j hj2
        · obtain rfl : j = 4 := by omega
          rw [HE4.out, h])
      have HZ : Hid (b4 = false → dc = false) := Lib.hid (fun h => HNOT.out 4 (by omega) (by rw [HE4.out, h]; simp))
      obtain ⟨w4, hw4⟩ : ∃ w4, (w3.alloc (.cells #[.func (.func 45) #[] #[]] 60)) = w4 := ⟨_, rfl⟩
      have b4 : Below w3.heap.size w3 w4 := hw4 ▸ (Below.refl _ w3).alloc (Nat.le_refl _) _
      have s0 : w4.cell? ⟨w3.heap.size, 0, none⟩ = some (.func (.func 45) #[] #[]) := hw4 ▸ (Has.made w3 60 #[.func (.func 45) #[] #[]]).cell 0
      have h4 := HW.out.below b4 HW.out.lt
      have n0 := h4.cell 0
      have n1 := h4.cell 1
      have n2 := h4.cell 2
      have n3 := h4.cell 3
      have n4 := h4.cell 4
      have H4 := Lib.hid h4
      have B4 := Lib.hid (below_step BW.out b4)
      have C4 := Lib.hid (CW.out.below b4 CW.out.lt)
      clear b4 h4 hH hC
      cases b4
      · obtain rfl := HZ.out rfl
        go_wp2_with (go_at_call 45; (try rw [hw4]); (with_reducible refine (HC4.out _).mono ?_); rintro r5 w5 ⟨rfl, b5⟩; have B5 := Lib.hid (below_step B4.out b5); clear b5)
        go_ret
        exact ⟨rfl, B5.out⟩
      · have HY2 := Lib.hid (HY.out rfl)
        go_wp2_with (go_at_call 45; (try rw [hw4]); (with_reducible refine (HC4.out _).mono ?_); rintro r5 w5 ⟨rfl, b5⟩; have H5 := Lib.hid (H4.out.below b5 H4.out.lt); have C5 := Lib.hid (C4.out.below b5 C4.out.lt); have B5 := Lib.hid (below_step B4.out b5); clear b5)
        go_roundw
        case rel => exact ⟨5, by omega, by go_num, HY2.out, B5.out, H5.out, C5.out⟩
        case measure => simp [intOf]
    · have q0 : w3.cell? ⟨W.heap.size, 5, none⟩ = some (.func (.func 46) #[] #[]) := hC.cell 5
      have HN : Hid (∀ j, j < 6 → (j < 5 → condB j ⟨label, txn, root, list, high⟩ = true)) := Lib.hid (fun j hj => HX.out j)
      have HY : Hid (b5 = true → ∀ j, j < 6 → condB j ⟨label, txn, root, list, high⟩ = true) := Lib.hid (fun h j hj => by
        by_cases hj2 : j < 5
        · exact HX.out j hj2
        · obtain rfl : j = 5 := by omega
          rw [HE5.out, h])
      have HZ : Hid (b5 = false → dc = false) := Lib.hid (fun h => HNOT.out 5 (by omega) (by rw [HE5.out, h]; simp))
      obtain ⟨w4, hw4⟩ : ∃ w4, (w3.alloc (.cells #[.func (.func 46) #[] #[]] 60)) = w4 := ⟨_, rfl⟩
      have b4 : Below w3.heap.size w3 w4 := hw4 ▸ (Below.refl _ w3).alloc (Nat.le_refl _) _
      have s0 : w4.cell? ⟨w3.heap.size, 0, none⟩ = some (.func (.func 46) #[] #[]) := hw4 ▸ (Has.made w3 60 #[.func (.func 46) #[] #[]]).cell 0
      have h4 := HW.out.below b4 HW.out.lt
      have n0 := h4.cell 0
      have n1 := h4.cell 1
      have n2 := h4.cell 2
      have n3 := h4.cell 3
      have n4 := h4.cell 4
      have H4 := Lib.hid h4
      have B4 := Lib.hid (below_step BW.out b4)
      have C4 := Lib.hid (CW.out.below b4 CW.out.lt)
      clear b4 h4 hH hC
      cases b5
      · obtain rfl := HZ.out rfl
        go_wp2_with (go_at_call 46; (try rw [hw4]); (with_reducible refine (HC5.out _).mono ?_); rintro r5 w5 ⟨rfl, b5⟩; have B5 := Lib.hid (below_step B4.out b5); clear b5)
        go_ret
        exact ⟨rfl, B5.out⟩
      · have HY2 := Lib.hid (HY.out rfl)
        go_wp2_with (go_at_call 46; (try rw [hw4]); (with_reducible refine (HC5.out _).mono ?_); rintro r5 w5 ⟨rfl, b5⟩; have H5 := Lib.hid (H4.out.below b5 H4.out.lt); have C5 := Lib.hid (C4.out.below b5 C4.out.lt); have B5 := Lib.hid (below_step B4.out b5); clear b5)
        go_roundw
        case rel => exact ⟨6, by omega, by go_num, HY2.out, B5.out, H5.out, C5.out⟩
        case measure => simp [intOf]
    · have HT := Lib.hid (HALL.out (fun k hk => HX.out k hk))
      clear hH hC
      go_wp2
      go_ret
      exact ⟨by rw [HT.out]; rfl, BW.out⟩
    · exact absurd hk (by omega)

end Go.Proofs.YtpikcodnonodlaaDoor
end

section
namespace Go.Proofs.YtpikcodnonodlaaDoor
open Go.RowKit
set_option linter.unusedVariables false

theorem mnum_any (x : Nat) (w : World) (hx : x ≤ 1000) : Calls Tryd.prog 22 #[.int .i64 (x : Int)] w (Fresh w.heap.size (numB x 2) w) := by
  have hw : IntKind.u64.wrap (x : Int) = (x : Int) := IntWalk.u64_in _ (by omega)
  have HN : Hid (∀ w1, Calls Tryd.prog 21 #[.int .u64 (x : Int), .int .i64 2] w1 (Fresh w1.heap.size (numB x 2) w1)) := Lib.hid (fun w => Num_fresh x 2 w (by omega) (by omega) (by omega))
  go_enter Tryd.func22, Tryd.ntmps22
  go_wp2_with (go_at_call 21; (with_reducible refine (HN.out _).mono ?_); rintro r1 w1 ⟨A, c, rfl, g1, g2, g3, b1⟩; have G3 := Lib.hid g3; have B1 := Lib.hid b1; clear g3 b1)
  go_ret
  exact ⟨A, c, rfl, g1, g2, G3.out, B1.out⟩
theorem stN_small (l : List UInt8) (er : Int) : (stN l er 2).1 < 65536 := by
  unfold stN
  split
  · simp
  · split
    · simp
    · split
      · simp
      · exact numOf_take_lt l 2 2 (Nat.le_refl _)
theorem stN_lt8 (l : List UInt8) (er : Int) : (stN l er 8).1 < 18446744073709551616 := by
  unfold stN
  split
  · simp
  · split
    · simp
    · split
      · simp
      · exact numOf_take_lt l 8 8 (Nat.le_refl _)
def IntEnd10 (base P : Nat) (w : World) (x : Nat) (l : List UInt8) (er : Int) (e : Ending) (w' : World) : Prop := e = .returned (.int .i64 (x : Int)) ∧ Tk w' base P l er ∧ w.grownBy w' (some P)
theorem mtakeNum_any (base P : Nat) (l : List UInt8) (er : Int) (w : World) (h : Tk w base P l er) :
    Calls Tryd.prog 52 #[.pointer (some ⟨P, 0, none⟩)] w (IntEnd10 base P w (stN l er 2).1 (stN l er 2).2.1 (stN l er 2).2.2) := by
  have HN := Lib.hid (tNum_any base P l er 2 w h)
  have hx := stN_small l er
  obtain ⟨x, l2, er2, hst⟩ : ∃ x l2 er2, stN l er 2 = (x, l2, er2) := ⟨_, _, _, rfl⟩
  rw [hst] at HN hx ⊢
  simp only at HN hx ⊢
  have hw : IntKind.i64.wrap (x : Int) = (x : Int) := IntWalk.i64_in _ (by omega)
  unfold NumEnd at HN
  clear h hst
  go_enter Tryd.func52, Tryd.ntmps52
  go_wp2_with (go_at_call 51; (with_reducible refine HN.out.mono ?_); rintro r1 w1 ⟨rfl, t1, g1⟩; have T1 := Lib.hid t1; have G1 := Lib.hid g1; clear t1 g1)
  go_ret
  exact ⟨rfl, T1.out, G1.out⟩

theorem minfo : (Tryd.prog.info? 24).map (fun i => (i.zero, i.size)) = some (some (.agg #[.int .i64 0, .int .u64 0, .int .i64 0, .int .i64 0, .int .i64 0]), 5) := by kernel_rfl
theorem zero_meta (w : World) : (zeroValue 24).run Tryd.prog w = .ok (.agg #[.int .i64 0, .int .u64 0, .int .i64 0, .int .i64 0, .int .i64 0]) w := by
  obtain ⟨i, hi, h⟩ := Option.map_eq_some_iff.1 minfo
  simp only [Prod.mk.injEq] at h
  simp [zeroValue, typeInfo, hi, h.1]
def stM5 (w : World) (B : Nat) (v0 v1 v2 v3 v4 : Value) : World := ((((w.setCell ⟨B, 0, none⟩ v0).setCell ⟨B, 1, none⟩ v1).setCell ⟨B, 2, none⟩ v2).setCell ⟨B, 3, none⟩ v3).setCell ⟨B, 4, none⟩ v4
theorem Has.setM {w : World} {B : Nat} {t : TypeId} {a0 a1 a2 a3 a4 : Value} (h : Has w B t #[a0, a1, a2, a3, a4]) (v0 v1 v2 v3 v4 : Value) : Has (stM5 w B v0 v1 v2 v3 v4) B t #[v0, v1, v2, v3, v4] := by
  have := ((((h.store 0 v0).store 1 v1).store 2 v2).store 3 v3).store 4 v4
  simpa [stM5] using this
theorem Has.setM_away {w : World} {B g : Nat} {t : TypeId} {cs : Array Value} (h : Has w g t cs) (hne : g ≠ B) (v0 v1 v2 v3 v4 : Value) : Has (stM5 w B v0 v1 v2 v3 v4) g t cs :=
  ((((h.away (p := ⟨B, 0, none⟩) hne v0).away (p := ⟨B, 1, none⟩) hne v1).away (p := ⟨B, 2, none⟩) hne v2).away (p := ⟨B, 3, none⟩) hne v3).away (p := ⟨B, 4, none⟩) hne v4
theorem below_setM {b B : Nat} {a w : World} (h : Below b a w) (hB : b ≤ B) (v0 v1 v2 v3 v4 : Value) : Below b a (stM5 w B v0 v1 v2 v3 v4) :=
  ((((h.setCell (p := ⟨B, 0, none⟩) hB v0).setCell (p := ⟨B, 1, none⟩) hB v1).setCell (p := ⟨B, 2, none⟩) hB v2).setCell (p := ⟨B, 3, none⟩) hB v3).setCell (p := ⟨B, 4, none⟩) hB v4
theorem mbox0 (w : World) (t : TypeId) : ∃ W, w.alloc (.cells #[.int .i64 0, .int .u64 0, .int .i64 0, .int .i64 0, .int .i64 0] t) = W ∧ Below w.heap.size w W ∧ Has W w.heap.size t #[.int .i64 0, .int .u64 0, .int .i64 0, .int .i64 0, .int .i64 0] ∧ W.heap.size = w.heap.size + 1 := ⟨_, rfl, (Below.refl _ w).alloc (Nat.le_refl _) _, Has.made w _ _, by simp⟩

set_option maxRecDepth 100000 in
set_option maxHeartbeats 8000000 in
theorem mRead_any (A : Option Addr) (n c : Nat) (l : List UInt8) (w : World) (h : Arg w A n c l) (hl : l.length ≤ 1000) :
    Calls Tryd.prog 29 #[.slice A n c] w fun e w' => e = .returned (mtV (readM l)) ∧ Below w.heap.size w w' := by
  have hz := zero_meta
  have hn : n = l.length := h.len
  subst hn
  obtain ⟨W, hW, hb, hh, hs⟩ := mbox0 w 24
  have HT := Lib.hid (Take_any A c l W (by omega) (h.below hb).reads)
  have HB := Lib.hid hb
  have HH := Lib.hid hh
  have HSZ := Lib.hid hs
  have hv : mtV (readM l) = .agg #[.int .i64 ((rdL l).1 : Int), .int .u64 ((rdT l).1 : Int), .int .i64 ((rdR l).1 : Int), .int .i64 ((rdS l).1 : Int), .int .i64 ((rdH l).1 : Int)] := rfl
  rw [hv]
  clear hv
  have hx1 : (rdL l).1 ≤ 255 := stN_one _ _
  have hx2 : (rdT l).1 < 18446744073709551616 := stN_lt8 _ _
  have N0 := Lib.hid (fun base P w1 (h : Tk w1 base P l 0) => tNum_any base P l 0 4 w1 h)
  have N1 : Hid (∀ base P w1, Tk w1 base P (stN l 0 4).2.1 (stN l 0 4).2.2 → Calls Tryd.prog 51 #[.pointer (some ⟨P, 0, none⟩), .int .i64 1] w1 (NumEnd base P w1 (rdL l).1 (rdL l).2.1 (rdL l).2.2)) := Lib.hid (fun base P w1 h => tNum_any base P _ _ 1 w1 h)
  have N2 : Hid (∀ base P w1, Tk w1 base P (rdL l).2.1 (rdL l).2.2 → Calls Tryd.prog 51 #[.pointer (some ⟨P, 0, none⟩), .int .i64 8] w1 (NumEnd base P w1 (rdT l).1 (rdT l).2.1 (rdT l).2.2)) := Lib.hid (fun base P w1 h => tNum_any base P _ _ 8 w1 h)
  have N3 : Hid (∀ base P w1, Tk w1 base P (rdT l).2.1 (rdT l).2.2 → Calls Tryd.prog 52 #[.pointer (some ⟨P, 0, none⟩)] w1 (IntEnd10 base P w1 (rdR l).1 (rdR l).2.1 (rdR l).2.2)) := Lib.hid (fun base P w1 h => mtakeNum_any base P _ _ w1 h)
  have N4 : Hid (∀ base P w1, Tk w1 base P (rdR l).2.1 (rdR l).2.2 → Calls Tryd.prog 52 #[.pointer (some ⟨P, 0, none⟩)] w1 (IntEnd10 base P w1 (rdS l).1 (rdS l).2.1 (rdS l).2.2)) := Lib.hid (fun base P w1 h => mtakeNum_any base P _ _ w1 h)
  have N5 : Hid (∀ base P w1, Tk w1 base P (rdS l).2.1 (rdS l).2.2 → Calls Tryd.prog 52 #[.pointer (some ⟨P, 0, none⟩)] w1 (IntEnd10 base P w1 (rdH l).1 (rdH l).2.1 (rdH l).2.2)) := Lib.hid (fun base P w1 h => mtakeNum_any base P _ _ w1 h)
  generalize rdH l = a5 at *
  generalize rdS l = a4 at *
  generalize rdR l = a3 at *
  generalize rdT l = a2 at *
  generalize rdL l = a1 at *
  generalize stN l 0 4 = a0 at *
  obtain ⟨x0, l0, e0⟩ := a0
  obtain ⟨x1, l1, e1⟩ := a1
  obtain ⟨x2, l2, e2⟩ := a2
  obtain ⟨x3, l3, e3⟩ := a3
  obtain ⟨x4, l4, e4⟩ := a4
  obtain ⟨x5, l5, e5⟩ := a5
  simp only at N0 N1 N2 N3 N4 N5 hx1 hx2 ⊢
  unfold NumEnd at N0 N1 N2
  unfold IntEnd10 at N3 N4 N5
  have hw1 : IntKind.i64.wrap (x1 : Int) = (x1 : Int) := IntWalk.i64_in _ (by omega)
  clear h hb hh hs
  go_enter Tryd.func29, Tryd.ntmps29
  go_wp2_with (first
    | (go_at_call 50; (try rw [hW]); (with_reducible refine HT.out.mono ?_); rintro r1 w1 ⟨P, rfl, t1, b1⟩; have hP : w.heap.size + 1 ≤ P := by { have := tk_base t1; have := HSZ.out; omega }; have T1 := Lib.hid t1; have X1 := Lib.hid (HH.out.below b1 HH.out.lt); have B1 := Lib.hid (below_step HB.out b1); clear t1 b1)
    | (go_at_call 51; (with_reducible refine (N0.out _ _ _ T1.out).mono ?_); rintro r2 w2 ⟨rfl, t2, g2⟩; have T2 := Lib.hid t2; have B2 := Lib.hid (B1.out.trans (below_only g2 (by omega) B1.out.size)); have y2 := X1.out.grown g2 (by intro e; injection e with e; omega); have f20 := y2.free 0; have f21 := y2.free 1; have f22 := y2.free 2; have f23 := y2.free 3; have f24 := y2.free 4; have c20 := y2.cell 0; have c21 := y2.cell 1; have c22 := y2.cell 2; have c23 := y2.cell 3; have c24 := y2.cell 4; have X2 := Lib.hid y2; clear t2 g2 y2)
    | (go_at_call 51; (with_reducible refine (N1.out _ _ _ T2.out).mono ?_); rintro r3 w3 ⟨rfl, t3, g3⟩; have T3 := Lib.hid t3; have B3 := Lib.hid (B2.out.trans (below_only g3 (by omega) B2.out.size)); have y3 := X2.out.grown g3 (by intro e; injection e with e; omega); have f30 := y3.free 0; have f31 := y3.free 1; have f32 := y3.free 2; have f33 := y3.free 3; have f34 := y3.free 4; have c30 := y3.cell 0; have c31 := y3.cell 1; have c32 := y3.cell 2; have c33 := y3.cell 3; have c34 := y3.cell 4; have X3 := Lib.hid y3; clear t3 g3 y3)
    | (go_at_call 51; (with_reducible refine (N2.out _ _ _ T3.out).mono ?_); rintro r4 w4 ⟨rfl, t4, g4⟩; have T4 := Lib.hid t4; have B4 := Lib.hid (B3.out.trans (below_only g4 (by omega) B3.out.size)); have y4 := X3.out.grown g4 (by intro e; injection e with e; omega); have f40 := y4.free 0; have f41 := y4.free 1; have f42 := y4.free 2; have f43 := y4.free 3; have f44 := y4.free 4; have c40 := y4.cell 0; have c41 := y4.cell 1; have c42 := y4.cell 2; have c43 := y4.cell 3; have c44 := y4.cell 4; have X4 := Lib.hid y4; clear t4 g4 y4)
    | (go_at_call 52; (with_reducible refine (N5.out _ _ _ T6.out).mono ?_); rintro r7 w7 ⟨rfl, t7, g7⟩; have T7 := Lib.hid t7; have B7 := Lib.hid (B6.out.trans (below_only g7 (by omega) B6.out.size)); have y7 := X6.out.grown g7 (by intro e; injection e with e; omega); have f70 := y7.free 0; have f71 := y7.free 1; have f72 := y7.free 2; have f73 := y7.free 3; have f74 := y7.free 4; have c70 := y7.cell 0; have c71 := y7.cell 1; have c72 := y7.cell 2; have c73 := y7.cell 3; have c74 := y7.cell 4; have X7 := Lib.hid y7; clear t7 g7 y7)
    | (go_at_call 52; (with_reducible refine (N4.out _ _ _ T5.out).mono ?_); rintro r6 w6 ⟨rfl, t6, g6⟩; have T6 := Lib.hid t6; have B6 := Lib.hid (B5.out.trans (below_only g6 (by omega) B5.out.size)); have y6 := X5.out.grown g6 (by intro e; injection e with e; omega); have f60 := y6.free 0; have f61 := y6.free 1; have f62 := y6.free 2; have f63 := y6.free 3; have f64 := y6.free 4; have c60 := y6.cell 0; have c61 := y6.cell 1; have c62 := y6.cell 2; have c63 := y6.cell 3; have c64 := y6.cell 4; have X6 := Lib.hid y6; clear t6 g6 y6)
    | (go_at_call 52; (with_reducible refine (N3.out _ _ _ T4.out).mono ?_); rintro r5 w5 ⟨rfl, t5, g5⟩; have T5 := Lib.hid t5; have B5 := Lib.hid (B4.out.trans (below_only g5 (by omega) B4.out.size)); have y5 := X4.out.grown g5 (by intro e; injection e with e; omega); have f50 := y5.free 0; have f51 := y5.free 1; have f52 := y5.free 2; have f53 := y5.free 3; have f54 := y5.free 4; have c50 := y5.cell 0; have c51 := y5.cell 1; have c52 := y5.cell 2; have c53 := y5.cell 3; have c54 := y5.cell 4; have X5 := Lib.hid y5; clear t5 g5 y5))
  have XE := X7.out.setM (.int .i64 (x1 : Int)) (.int .u64 (x2 : Int)) (.int .i64 (x3 : Int)) (.int .i64 (x4 : Int)) (.int .i64 (x5 : Int))
  have q0 := XE.cell 0
  have q1 := XE.cell 1
  have q2 := XE.cell 2
  have q3 := XE.cell 3
  have q4 := XE.cell 4
  unfold stM5 at q0 q1 q2 q3 q4
  refine ⟨rfl, .agg #[.int .i64 (x1 : Int), .int .u64 (x2 : Int), .int .i64 (x3 : Int), .int .i64 (x4 : Int), .int .i64 (x5 : Int)], ?_, rfl, below_setM B7.out (Nat.le_refl _) (.int .i64 (x1 : Int)) (.int .u64 (x2 : Int)) (.int .i64 (x3 : Int)) (.int .i64 (x4 : Int)) (.int .i64 (x5 : Int))⟩
  simp at q0 q1 q2 q3 q4
  simp [results, Tryd.f29, go_sem, q0, q1, q2, q3, q4]
end Go.Proofs.YtpikcodnonodlaaDoor
end

section
namespace Go.Proofs.YtpikcodnonodlaaDoor
open Go.RowKit
set_option linter.unusedVariables false

set_option maxRecDepth 100000 in
set_option maxHeartbeats 1000000 in
theorem growB_any (n : Nat) (hn : n ≤ 1000000) (w : World) :
    Calls Tryd.prog 34 #[.slice none 0 0, .int .i64 n] w fun e w' => ∃ v, e = .returned v ∧ w'.ownsRow w.heap.size 5 1 v 0 [] ∧ Below w.heap.size w w' := by
  obtain ⟨i0, hi, hz0, hz1, hz2⟩ := info_parts u8info
  rcases Nat.eq_zero_or_pos n with rfl | h0
  · go_enter Tryd.func34, Tryd.ntmps34
    go_wp2
    go_ret
    exact ⟨_, rfl, ⟨rfl, .inl ⟨rfl, rfl⟩⟩, Below.refl _ _⟩
  · have hA := fun ty => Lib.run_append_nil_zeros (P := Tryd.prog) w 26 3 ty 5 i0 (.int .u8 0) .i64 .i64 Tryd.underlying26 Tryd.underlying3 hi hz0 n h0 (by rw [hz1]; decide) (by omega) (by rw [hz2]; omega)
    have hge := grownCap_ge w n 0 5
    have hle := grownCap_le_maxLen w n 0 5 (by unfold maxLen; omega)
    have hO := World.ownsRow_made (base := w.heap.size) (e := 5) (size := 1) w.drew (Builtin.zeroCells (Value.int .u8 0).cells n ++ Builtin.zeroCells (Value.int .u8 0).cells (grownCap w n 0 5 - n)) (grownCap w n 0 5) (Nat.le_refl _) hle (by rw [Array.size_append, size_zeroCells, size_zeroCells]; show n * 1 + _ * 1 = _ * 1; omega)
    have hB : Below w.heap.size w (w.drew.alloc (.cells (Builtin.zeroCells (Value.int .u8 0).cells n ++ Builtin.zeroCells (Value.int .u8 0).cells (grownCap w n 0 5 - n)) 5)) := (Below.refl _ w).drew.alloc (Nat.le_refl _) _
    generalize (w.drew.alloc (.cells (Builtin.zeroCells (Value.int .u8 0).cells n ++ Builtin.zeroCells (Value.int .u8 0).cells (grownCap w n 0 5 - n)) 5)) = W1 at *
    generalize grownCap w n 0 5 = G at *
    have HA := Lib.hid hA
    have HO := Lib.hid hO
    have HB := Lib.hid hB
    have e0 : w.drew.heap.size = w.heap.size := rfl
    rw [e0] at HO
    unfold maxLen at hle
    clear hA hO hB e0
    go_enter Tryd.func34, Tryd.ntmps34
    go_wp2_with (at_builtin; refine Lib.wpList_append_run _ rfl _ _ _ _ rfl _ _ rfl rfl _ _ (HA.out _) ?_)
    go_ret
    exact ⟨_, rfl, HO.out, HB.out⟩

def flatH (q : List Hd) : List UInt8 := q.flatMap Hd.l
theorem flatH_snoc {q : List Hd} {k : Nat} (hk : k < q.length) : flatH (q.take (k + 1)) = flatH (q.take k) ++ (q[k]).l := by
  unfold flatH
  rw [List.take_succ_eq_append_getElem hk, List.flatMap_append]
  simp
set_option maxHeartbeats 4000000 in
theorem concatB_any (A : Option Addr) (n c : Nat) (q : List Hd) (w : World) (h : CellsA w A n c q) (hl : (flatH q).length ≤ 1000000) (hn : n ≤ 1000000) :
    Calls Tryd.prog 20 #[.slice A n c] w (Fresh w.heap.size (flatH q) w) := by
  have HA := Lib.hid h
  have HL := Lib.hid h.len
  have HG := Lib.hid (fun w => growB_any (flatH q).length hl w)
  have hmono : ∀ k, (flatH (q.take k)).length ≤ (flatH q).length := fun k => by
    have : flatH q = flatH (q.take k) ++ flatH (q.drop k) := by
      unfold flatH
      rw [← List.flatMap_append, List.take_append_drop]
    rw [this, List.length_append]
    omega
  have HM := Lib.hid hmono
  obtain ⟨i0, hi, hz0, hz1, hz2⟩ := info_parts u8info
  clear h hmono
  go_enter Tryd.func20, Tryd.ntmps20
  go_wp2
  go_loop [3, 11] (fun s i => ∃ k : Nat, k ≤ n ∧ i = .int .i64 k ∧ s = .int .i64 ((flatH (q.take k)).length : Int)) (fun _ i => n - (intOf i).toNat)
  case atStart => exact ⟨0, Nat.zero_le _, rfl, rfl⟩
  case round =>
    obtain ⟨k, hk, rfl, rfl⟩ := hrel
    by_cases hlt : k < n
    · have hkl : k < q.length := by rw [← HL.out]; exact hlt
      obtain ⟨g, off, rfl, hc⟩ := HA.out.at hkl
      have hlen := (HA.out.hdr hkl).len
      have h1 := congrArg List.length (flatH_snoc hkl)
      rw [List.length_append, ← hlen] at h1
      have h2 := HM.out (k + 1)
      rw [h1] at h2
      have HS := Lib.hid h1
      generalize (flatH (q.take k)).length = x at *
      generalize q[k] = y at *
      have hb : x + y.n ≤ 1000000 := by omega
      have hge : ¬ ((x : Int) + (y.n : Int) < 0) := by omega
      clear h1 h2 hkl hlen
      go_wp2
      go_round
      case rel => exact ⟨k + 1, by omega, by go_num, by rw [HS.out]; go_num⟩
      case measure => simp [intOf]; omega
    · obtain rfl : k = n := by omega
      have e : q.take k = q := List.take_of_length_le (by rw [← HL.out]; exact Nat.le_refl _)
      rw [e]
      go_wp2_with (go_at_call 34; (with_reducible refine (HG.out _).mono ?_); rintro r1 w1 ⟨v1, rfl, o1, b1⟩; have O1 := Lib.hid o1; have B1 := Lib.hid b1; clear o1 b1)
      go_loopw [6, 27] (fun v i wr => ∃ m : Nat, m ≤ k ∧ i = .int .i64 m ∧ wr.ownsRow w.heap.size 5 1 v (flatH (q.take m)).length ((flatH (q.take m)).map byteV) ∧ Below w.heap.size w wr) (fun _ i _ => k - (intOf i).toNat)
      case atStart => exact ⟨0, Nat.zero_le _, rfl, O1.out, B1.out⟩
      case round =>
        obtain ⟨m, hm, rfl, ho, hb⟩ := hrel
        have HO := Lib.hid ho
        have HB := Lib.hid hb
        clear ho hb
        by_cases hlt2 : m < k
        · have hkl : m < q.length := by rw [← HL.out]; exact hlt2
          have hC := HA.out.below HB.out
          obtain ⟨g, off, rfl, hc⟩ := hC.at hkl
          have hy := hC.hdr hkl
          have h1 := flatH_snoc hkl
          have h2 := HM.out (m + 1)
          rw [h1, List.length_append, ← hy.len] at h2
          have HS := Lib.hid h1
          generalize flatH (q.take m) = x at *
          generalize q[m] = y at *
          have HY := Lib.hid hy
          have HLX : Hid ((flatH (q.take (m + 1))).length = x.length + y.n) := Lib.hid (by rw [HS.out, List.length_append, ← HY.out.len])
          have HMX : Hid ((flatH (q.take (m + 1))).map byteV = x.map byteV ++ y.l.map byteV) := Lib.hid (by rw [HS.out, List.map_append])
          obtain ⟨X, hX⟩ : ∃ X, x.length = X := ⟨_, rfl⟩
          rw [hX] at HO h2 HLX
          clear hX hy h1 hkl hC
          go_wp2_with (at_builtin; refine wpList_append_bytes rfl _ _ 26 rfl w.heap.size 5 i0 Tryd.underlying26 hi hz0 hz1 hz2 _ X _ rfl HO.out y.a y.n y.c y.l rfl HY.out.len HY.out.none_ HY.out.reads ?_ ?_ ?_; (omega); (exact HB.out.size); intro v4 w4 h7 h8; have O4 := Lib.hid h7; have B4 := Lib.hid (HB.out.grown h8 HB.out.size (fun k hk => (HO.out.lt k hk).1)); clear h7 h8)
          go_roundw
          case rel => exact ⟨m + 1, by omega, by go_num, by rw [HLX.out, HMX.out]; exact O4.out, B4.out⟩
          case measure => simp [intOf]; omega
        · obtain rfl : m = k := by omega
          have e : q.take m = q := List.take_of_length_le (by rw [← HL.out]; exact Nat.le_refl _)
          rw [e] at HO
          obtain ⟨w3, hw3⟩ : ∃ w3 : World, w3 = wr := ⟨_, rfl⟩
          subst hw3
          obtain ⟨A2, c2, rfl, hc1, hc2⟩ := own_slice HO.out
          have HC1 := Lib.hid hc1
          have HC2 := Lib.hid hc2
          clear hc1 hc2
          go_wp2
          go_ret
          exact ⟨A2, c2, rfl, HC1.out, HC2.out, Row.of_own HO.out, HB.out⟩

end Go.Proofs.YtpikcodnonodlaaDoor
end
