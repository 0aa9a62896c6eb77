/- Layer 14: CutFits, whatever comes in. Written by gen/cufits.py. -/
import Derived.Test.YtnidommmnmpdlaaCtw
import Derived.Lib.MinMax
namespace Go.Proofs.Ytnidommmnmpdlaa
open Go.RowKit
set_option linter.unusedVariables false

set_option maxRecDepth 100000 in
set_option maxHeartbeats 4000000 in
theorem walkCutFits (l : List Int) (A : Option Addr) (n c : Nat) (W : World) (h : RowZ W A n c l) :
    Calls Try.prog 4 #[.slice A n c] W fun e W' => e = .returned (.bool true) ∧ Below W.heap.size W W' := by
  have hmx : Try.prog.follows .mixedOrders = true := by kernel_rfl
  have HAW := Lib.hid (awake14_any W)
  have HSZ := Lib.hid (fun w1 (b1 : Below W.heap.size W w1) => sizes14_any l A n c w1 (h.below b1))
  have HRW := Lib.hid (fun w1 (b1 : Below W.heap.size W w1) => h.below b1)
  have HN := Lib.hid h.len
  have hr1 := h.room
  have hr2 : c ≤ 9223372036854775807 := by have := h.most; unfold maxLen at this; omega
  clear h
  cases hf : fewZ l with
  | false =>
    rw [hf] at HSZ
    go_enter Try.func4, Try.ntmps4
    go_wp2_with (first
      | (go_at_call 7; (with_reducible refine HAW.out.mono ?_); rintro e w1 ⟨rfl, b1⟩; have B1 := Lib.hid b1; clear b1)
      | (go_at_call 8; (with_reducible refine (HSZ.out _ B1.out).mono ?_); rintro e w2 ⟨rfl, rfl⟩))
    go_ret
    exact ⟨rfl, B1.out⟩
  | true =>
    rw [hf] at HSZ
    have HSL := Lib.hid (fewZ_siz hf)
    have hnn : n ≤ 101 := by rw [HN.out]; exact HSL.out.2
    have HA := Lib.hid (fun w2 (x : RowZ w2 A n c l) => cuAt_any l A n c w2 x HSL.out)
    have HS := Lib.hid (fun w2 (x : RowZ w2 A n c l) => cuSum_any l A n c w2 x HSL.out)
    by_cases ca : atZ l = 0
    · have hor : sumZ l ≤ 122 ∨ n < 2 := by
        rw [HN.out]
        rcases Classical.em (sumZ l ≤ 122 ∨ l.length < 2) with hx | hx
        · exact hx
        · have := (atZ_in hx).1
          omega
      rw [ca] at HA
      generalize sumZ l = s at *
      by_cases c1 : s ≤ 122
      · clear hor
        go_enter Try.func4, Try.ntmps4
        go_wp2_with (first
          | (go_at_call 7; (with_reducible refine HAW.out.mono ?_); rintro e w1 ⟨rfl, b1⟩; have B1 := Lib.hid b1; clear b1)
          | (go_at_call 8; (with_reducible refine (HSZ.out _ B1.out).mono ?_); rintro e w2 ⟨rfl, rfl⟩)
          | (go_at_call 11; (with_reducible refine (HA.out _ (HRW.out _ B1.out)).mono ?_); rintro e w3 ⟨rfl, b3⟩; have B3 := Lib.hid (below_step B1.out b3); clear b3)
          | (go_at_call 9; (with_reducible refine (HS.out _ (HRW.out _ B3.out)).mono ?_); rintro e w4 ⟨rfl, b4⟩; have B4 := Lib.hid (below_step B3.out b4); clear b4))
        go_ret
        exact ⟨rfl, B4.out⟩
      · have c2 : (n : Int) < 2 := by omega
        clear hor
        go_enter Try.func4, Try.ntmps4
        go_wp2_with (first
          | (go_at_call 7; (with_reducible refine HAW.out.mono ?_); rintro e w1 ⟨rfl, b1⟩; have B1 := Lib.hid b1; clear b1)
          | (go_at_call 8; (with_reducible refine (HSZ.out _ B1.out).mono ?_); rintro e w2 ⟨rfl, rfl⟩)
          | (go_at_call 11; (with_reducible refine (HA.out _ (HRW.out _ B1.out)).mono ?_); rintro e w3 ⟨rfl, b3⟩; have B3 := Lib.hid (below_step B1.out b3); clear b3)
          | (go_at_call 9; (with_reducible refine (HS.out _ (HRW.out _ B3.out)).mono ?_); rintro e w4 ⟨rfl, b4⟩; have B4 := Lib.hid (below_step B3.out b4); clear b4))
        go_ret
        exact ⟨rfl, B4.out⟩
    · have hno : ¬ (sumZ l ≤ 122 ∨ l.length < 2) := fun hx => ca (atZ_zero hx)
      have ha1 := atZ_in hno
      rw [← HN.out] at ha1
      have HLE := Lib.hid (fun j (h1 : 1 ≤ j) (h2 : j < n) => atZ_least hno h1 (HN.out ▸ h2))
      have HFI := Lib.hid (fun hm hs => fits_at (l := l) hno hm hs)
      have hsm : 122 < sumZ l := by omega
      generalize atZ l = a at *
      obtain ⟨ha1, ha2⟩ := ha1
      have hmx1 := worseZ_max l a
      obtain ⟨m, hm1⟩ : ∃ m, worseZ l a = m := ⟨_, rfl⟩
      rw [hm1] at HLE HFI hmx1
      obtain ⟨AL, hAL⟩ : ∃ x, (if c = a then A else Option.map (fun x => x.add a) A) = x := ⟨_, rfl⟩
      have HX1 := Lib.hid (fun w2 (x : (fun w' : World => Below W.heap.size W w' ∧ RowZ w' A n c l) w2) => cuSum_any (l.take a) A a c w2 (x.2.front (by omega)) (HSL.out.front a))
      have HX2 := Lib.hid (fun w2 (x : (fun w' : World => Below W.heap.size W w' ∧ RowZ w' A n c l) w2) => cuSum_any (l.drop a) AL (n - a) (c - a) w2 (hAL ▸ x.2.back (by omega)) (HSL.out.back a))
      have HL1 := Lib.hid (fun w2 (x : (fun w' : World => Below W.heap.size W w' ∧ RowZ w' A n c l) w2) => cuLow_any (l.take a) A a c w2 (x.2.front (by omega)) (HSL.out.front a))
      have HL2 := Lib.hid (fun w2 (x : (fun w' : World => Below W.heap.size W w' ∧ RowZ w' A n c l) w2) => cuLow_any (l.drop a) AL (n - a) (c - a) w2 (hAL ▸ x.2.back (by omega)) (HSL.out.back a))
      have HK : Hid (∀ k : Nat, 1 ≤ k → k < n → ∃ AK x y z, (if c = k then A else Option.map (fun x => x.add k) A) = AK ∧ max x y = z ∧ m ≤ z ∧ (k < a → m < z) ∧ (∀ w2, (fun w' : World => Below W.heap.size W w' ∧ RowZ w' A n c l) w2 → Calls Try.prog 9 #[.slice A k c] w2 fun e w' => e = .returned (.int .i64 x) ∧ Below w2.heap.size w2 w') ∧ (∀ w2, (fun w' : World => Below W.heap.size W w' ∧ RowZ w' A n c l) w2 → Calls Try.prog 9 #[.slice AK (n - k) (c - k)] w2 fun e w' => e = .returned (.int .i64 y) ∧ Below w2.heap.size w2 w')) := Lib.hid (fun k h1 h2 => by
        have h3 := HLE.out k h1 h2
        exact ⟨_, sumZ (l.take k), sumZ (l.drop k), worseZ l k, rfl, (worseZ_max l k).symm, h3.1, h3.2, fun w2 x => cuSum_any (l.take k) A k c w2 (x.2.front (by omega)) (HSL.out.front k), fun w2 x => cuSum_any (l.drop k) _ (n - k) (c - k) w2 (x.2.back (by omega)) (HSL.out.back k)⟩)
      have HEL : Hid (∀ x ∈ l, 0 ≤ x ∧ x ≤ 1000) := Lib.hid HSL.out.1
      generalize sumZ (l.take a) = x1 at *
      generalize sumZ (l.drop a) = x2 at *
      generalize sumZ l = s at *
      have hm2 := hmx1.symm
      have j1 : (0 : Int) ≤ (a : Int) := by omega
      have j2 : (a : Int) ≤ (n : Int) := by omega
      have j3 : (a : Int) ≤ (c : Int) := by omega
      have j4 : ((a : Int) == 0) = false := by rw [beq_eq_false_iff_ne]; omega
      have j5 : ¬ s ≤ 122 := by omega
      have j6 : ¬ (a : Int) < 0 := by omega
      have j7 : (a : Int) < (n : Int) := by omega
      clear hno hm1 hmx1 HLE
      go_enter Try.func4, Try.ntmps4
      go_wp2_with (first
        | (go_at_call 7; (with_reducible refine HAW.out.mono ?_); rintro e w1 ⟨rfl, b1⟩; have B1 := Lib.hid b1; clear b1)
        | (go_at_call 8; (with_reducible refine (HSZ.out _ B1.out).mono ?_); rintro e w2 ⟨rfl, rfl⟩)
        | (go_at_call 11; (with_reducible refine (HA.out _ (HRW.out _ B1.out)).mono ?_); rintro e w3 ⟨rfl, b3⟩; have B3 := Lib.hid (below_step B1.out b3); clear b3)
        | (go_at_call 9; (with_reducible refine (HS.out _ (HRW.out _ B3.out)).mono ?_); rintro e w4 ⟨rfl, b4⟩; have B4 := Lib.hid (below_step B3.out b4); clear b4))
      have hSd : (fun w' : World => Below W.heap.size W w' ∧ RowZ w' A n c l) w4.drew := ⟨B4.out.drew, (HRW.out _ B4.out).below (Below.refl _ _).drew⟩
      first | (rename_i K hK; refine wp_held (fun w' : World => Below W.heap.size W w' ∧ RowZ w' A n c l) K hmx ?_ (fun _ _ h => h)) | (rename_i K hK hz; refine wp_held (fun w' : World => Below W.heap.size W w' ∧ RowZ w' A n c l) K hmx ?_ (fun _ _ h => h))
      refine wpAnyH_take (i := 0) (v := .slice A n c) (lit rfl) (by kernel_rfl) (by kernel_rfl) (by kernel_rfl) (fun _ _ _ h => h) (Or.inl ⟨by rfl, ?_⟩) hSd ?_
      · rintro w6 s1
        go_simp
      simp only [Act.put, List.setIfInBounds_toArray, List.set_cons_zero, List.set_cons_succ]
      refine wpAnyH_take (i := 1) (v := .int .i64 (a : Int)) (lit rfl) (by kernel_rfl) (by kernel_rfl) (by kernel_rfl) (fun _ _ _ h => h) (Or.inl ⟨by rfl, ?_⟩) hSd ?_
      · rintro w6 s1
        go_simp
      simp only [Act.put, List.setIfInBounds_toArray, List.set_cons_zero, List.set_cons_succ]
      refine wpAnyH_take (i := 2) (v := .slice A a c) (lit rfl) (by kernel_rfl) (by kernel_rfl) (by kernel_rfl) (fun _ _ _ h => h) (Or.inl ⟨by rfl, ?_⟩) hSd ?_
      · rintro w6 s1
        go_simp
      simp only [Act.put, List.setIfInBounds_toArray, List.set_cons_zero, List.set_cons_succ]
      refine wpAnyH_take (i := 4) (v := .slice A n c) (lit rfl) (by kernel_rfl) (by kernel_rfl) (by kernel_rfl) (fun _ _ _ h => h) (Or.inl ⟨by rfl, ?_⟩) hSd ?_
      · rintro w6 s1
        go_simp
      simp only [Act.put, List.setIfInBounds_toArray, List.set_cons_zero, List.set_cons_succ]
      refine wpAnyH_take (i := 5) (v := .int .i64 (a : Int)) (lit rfl) (by kernel_rfl) (by kernel_rfl) (by kernel_rfl) (fun _ _ _ h => h) (Or.inl ⟨by rfl, ?_⟩) hSd ?_
      · rintro w6 s1
        go_simp
      simp only [Act.put, List.setIfInBounds_toArray, List.set_cons_zero, List.set_cons_succ]
      refine wpAnyH_take (i := 6) (v := .slice AL (n - a) (c - a)) (lit rfl) (by kernel_rfl) (by kernel_rfl) (by kernel_rfl) (fun _ _ _ h => h) (Or.inl ⟨by rfl, ?_⟩) hSd ?_
      · rintro w6 s1
        go_simp
      simp only [Act.put, List.setIfInBounds_toArray, List.set_cons_zero, List.set_cons_succ]
      refine wpAnyH_ready (rs := [3]) (by kernel_rfl) (by simp) ?_
      refine AllReadyH.cons (lit rfl) (fun K5 hK5 => ?_) AllReadyH.nil
      refine step_open rfl ?_
      go_simp
      go_at_call 9
      (with_reducible refine (HX1.out _ hSd).mono ?_)
      rintro e11 w11 ⟨rfl, b11⟩
      have h11 : (fun w' : World => Below W.heap.size W w' ∧ RowZ w' A n c l) w11 := ⟨below_step hSd.1 b11, hSd.2.below b11⟩
      refine hK5.out _ _ h11 (fun _ => ?_)
      clear hK5 K5
      refine wpAnyH_ready (rs := [7]) (by kernel_rfl) (by simp) ?_
      refine AllReadyH.cons (lit rfl) (fun K5 hK5 => ?_) AllReadyH.nil
      refine step_open rfl ?_
      go_simp
      go_at_call 9
      (with_reducible refine (HX2.out _ h11).mono ?_)
      rintro e12 w12 ⟨rfl, b12⟩
      have h12 : (fun w' : World => Below W.heap.size W w' ∧ RowZ w' A n c l) w12 := ⟨below_step h11.1 b12, h11.2.below b12⟩
      refine hK5.out _ _ h12 (fun _ => ?_)
      clear hK5 K5
      refine wpAnyH_take (i := 8) (v := .int .i64 m) (lit rfl) (by kernel_rfl) (by kernel_rfl) (by kernel_rfl) (fun _ _ _ h => h) (Or.inl ⟨by rfl, ?_⟩) h12 ?_
      · rintro w6 s1
        go_simp
      simp only [Act.put, List.setIfInBounds_toArray, List.set_cons_zero, List.set_cons_succ]
      refine wpAnyH_take (i := 9) (v := .int .i64 m) (lit rfl) (by kernel_rfl) (by kernel_rfl) (by kernel_rfl) (fun _ _ _ h => h) (Or.inl ⟨by rfl, ?_⟩) h12 ?_
      · rintro w6 s1
        go_simp
      simp only [Act.put, List.setIfInBounds_toArray, List.set_cons_zero, List.set_cons_succ]
      refine wpAnyH_done (by kernel_rfl) ?_ _
      refine hK _ _ ?_
      have H12 := Lib.hid h12
      clear h11 h12 hSd
      go_wp2
      go_loopw [9] (fun i wr => ∃ k : Nat, 1 ≤ k ∧ k ≤ n ∧ i = .int .i64 (k : Int) ∧ (fun w' : World => Below W.heap.size W w' ∧ RowZ w' A n c l) wr) (fun i _ => n - (intOf i).toNat)
      case atStart => exact ⟨1, Nat.le_refl _, by omega, rfl, H12.out⟩
      case round =>
        obtain ⟨k, hk1, hk2, rfl, hs1⟩ := hrel
        have HS1 := Lib.hid hs1
        clear hs1
        by_cases hlt : k < n
        · obtain ⟨AK, x, y, z, hAK, hz, hmz, hmz2, hc1, hc2⟩ := HK.out k hk1 hlt
          have HC1 := Lib.hid hc1
          have HC2 := Lib.hid hc2
          clear hc1 hc2
          have i1 : (0 : Int) ≤ (k : Int) := by omega
          have i2 : (k : Int) ≤ (n : Int) := by omega
          have i3 : (k : Int) ≤ (c : Int) := by omega
          have i4 : (k : Int) < (n : Int) := by omega
          have i5 : ¬ z < m := by omega
          have hSd : (fun w' : World => Below W.heap.size W w' ∧ RowZ w' A n c l) wr.drew := ⟨HS1.out.1.drew, HS1.out.2.below (Below.refl _ _).drew⟩
          by_cases e : z = m
          · have i6 : ¬ (k : Int) < (a : Int) := by
              intro h1
              have := hmz2 (by omega)
              omega
            have i7 : (z == m) = true := by rw [e]; simp
            clear hmz2
            go_wp2
            first | (rename_i K hK; refine wp_held (fun w' : World => Below W.heap.size W w' ∧ RowZ w' A n c l) K hmx ?_ (fun _ _ h => h)) | (rename_i K hK hz; refine wp_held (fun w' : World => Below W.heap.size W w' ∧ RowZ w' A n c l) K hmx ?_ (fun _ _ h => h))
            refine wpAnyH_take (i := 0) (v := .slice A n c) (lit rfl) (by kernel_rfl) (by kernel_rfl) (by kernel_rfl) (fun _ _ _ h => h) (Or.inl ⟨by rfl, ?_⟩) hSd ?_
            · rintro w6 s1
              go_simp
            simp only [Act.put, List.setIfInBounds_toArray, List.set_cons_zero, List.set_cons_succ]
            refine wpAnyH_take (i := 1) (v := .int .i64 (k : Int)) (lit rfl) (by kernel_rfl) (by kernel_rfl) (by kernel_rfl) (fun _ _ _ h => h) (Or.inl ⟨by rfl, ?_⟩) hSd ?_
            · rintro w6 s1
              go_simp
            simp only [Act.put, List.setIfInBounds_toArray, List.set_cons_zero, List.set_cons_succ]
            refine wpAnyH_take (i := 2) (v := .slice A k c) (lit rfl) (by kernel_rfl) (by kernel_rfl) (by kernel_rfl) (fun _ _ _ h => h) (Or.inl ⟨by rfl, ?_⟩) hSd ?_
            · rintro w6 s1
              go_simp
            simp only [Act.put, List.setIfInBounds_toArray, List.set_cons_zero, List.set_cons_succ]
            refine wpAnyH_take (i := 4) (v := .slice A n c) (lit rfl) (by kernel_rfl) (by kernel_rfl) (by kernel_rfl) (fun _ _ _ h => h) (Or.inl ⟨by rfl, ?_⟩) hSd ?_
            · rintro w6 s1
              go_simp
            simp only [Act.put, List.setIfInBounds_toArray, List.set_cons_zero, List.set_cons_succ]
            refine wpAnyH_take (i := 5) (v := .int .i64 (k : Int)) (lit rfl) (by kernel_rfl) (by kernel_rfl) (by kernel_rfl) (fun _ _ _ h => h) (Or.inl ⟨by rfl, ?_⟩) hSd ?_
            · rintro w6 s1
              go_simp
            simp only [Act.put, List.setIfInBounds_toArray, List.set_cons_zero, List.set_cons_succ]
            refine wpAnyH_take (i := 6) (v := .slice AK (n - k) (c - k)) (lit rfl) (by kernel_rfl) (by kernel_rfl) (by kernel_rfl) (fun _ _ _ h => h) (Or.inl ⟨by rfl, ?_⟩) hSd ?_
            · rintro w6 s1
              go_simp
            simp only [Act.put, List.setIfInBounds_toArray, List.set_cons_zero, List.set_cons_succ]
            refine wpAnyH_ready (rs := [3]) (by kernel_rfl) (by simp) ?_
            refine AllReadyH.cons (lit rfl) (fun K5 hK5 => ?_) AllReadyH.nil
            refine step_open rfl ?_
            go_simp
            go_at_call 9
            (with_reducible refine (HC1.out _ hSd).mono ?_)
            rintro e13 w13 ⟨rfl, b13⟩
            have h13 : (fun w' : World => Below W.heap.size W w' ∧ RowZ w' A n c l) w13 := ⟨below_step hSd.1 b13, hSd.2.below b13⟩
            refine hK5.out _ _ h13 (fun _ => ?_)
            clear hK5 K5
            refine wpAnyH_ready (rs := [7]) (by kernel_rfl) (by simp) ?_
            refine AllReadyH.cons (lit rfl) (fun K5 hK5 => ?_) AllReadyH.nil
            refine step_open rfl ?_
            go_simp
            go_at_call 9
            (with_reducible refine (HC2.out _ h13).mono ?_)
            rintro e14 w14 ⟨rfl, b14⟩
            have h14 : (fun w' : World => Below W.heap.size W w' ∧ RowZ w' A n c l) w14 := ⟨below_step h13.1 b14, h13.2.below b14⟩
            refine hK5.out _ _ h14 (fun _ => ?_)
            clear hK5 K5
            refine wpAnyH_take (i := 8) (v := .int .i64 z) (lit rfl) (by kernel_rfl) (by kernel_rfl) (by kernel_rfl) (fun _ _ _ h => h) (Or.inl ⟨by rfl, ?_⟩) h14 ?_
            · rintro w6 s1
              go_simp
            simp only [Act.put, List.setIfInBounds_toArray, List.set_cons_zero, List.set_cons_succ]
            refine wpAnyH_take (i := 9) (v := .int .i64 z) (lit rfl) (by kernel_rfl) (by kernel_rfl) (by kernel_rfl) (fun _ _ _ h => h) (Or.inl ⟨by rfl, ?_⟩) h14 ?_
            · rintro w6 s1
              go_simp
            simp only [Act.put, List.setIfInBounds_toArray, List.set_cons_zero, List.set_cons_succ]
            refine wpAnyH_done (by kernel_rfl) ?_ _
            refine hK _ _ ?_
            go_wp2
            go_roundw
            case rel => exact ⟨k + 1, by omega, by omega, by go_num, h14⟩
            case measure => simp [intOf] <;> omega
          · have i7 : (z == m) = false := by rw [beq_eq_false_iff_ne]; exact e
            clear hmz2
            go_wp2
            first | (rename_i K hK; refine wp_held (fun w' : World => Below W.heap.size W w' ∧ RowZ w' A n c l) K hmx ?_ (fun _ _ h => h)) | (rename_i K hK hz; refine wp_held (fun w' : World => Below W.heap.size W w' ∧ RowZ w' A n c l) K hmx ?_ (fun _ _ h => h))
            refine wpAnyH_take (i := 0) (v := .slice A n c) (lit rfl) (by kernel_rfl) (by kernel_rfl) (by kernel_rfl) (fun _ _ _ h => h) (Or.inl ⟨by rfl, ?_⟩) hSd ?_
            · rintro w6 s1
              go_simp
            simp only [Act.put, List.setIfInBounds_toArray, List.set_cons_zero, List.set_cons_succ]
            refine wpAnyH_take (i := 1) (v := .int .i64 (k : Int)) (lit rfl) (by kernel_rfl) (by kernel_rfl) (by kernel_rfl) (fun _ _ _ h => h) (Or.inl ⟨by rfl, ?_⟩) hSd ?_
            · rintro w6 s1
              go_simp
            simp only [Act.put, List.setIfInBounds_toArray, List.set_cons_zero, List.set_cons_succ]
            refine wpAnyH_take (i := 2) (v := .slice A k c) (lit rfl) (by kernel_rfl) (by kernel_rfl) (by kernel_rfl) (fun _ _ _ h => h) (Or.inl ⟨by rfl, ?_⟩) hSd ?_
            · rintro w6 s1
              go_simp
            simp only [Act.put, List.setIfInBounds_toArray, List.set_cons_zero, List.set_cons_succ]
            refine wpAnyH_take (i := 4) (v := .slice A n c) (lit rfl) (by kernel_rfl) (by kernel_rfl) (by kernel_rfl) (fun _ _ _ h => h) (Or.inl ⟨by rfl, ?_⟩) hSd ?_
            · rintro w6 s1
              go_simp
            simp only [Act.put, List.setIfInBounds_toArray, List.set_cons_zero, List.set_cons_succ]
            refine wpAnyH_take (i := 5) (v := .int .i64 (k : Int)) (lit rfl) (by kernel_rfl) (by kernel_rfl) (by kernel_rfl) (fun _ _ _ h => h) (Or.inl ⟨by rfl, ?_⟩) hSd ?_
            · rintro w6 s1
              go_simp
            simp only [Act.put, List.setIfInBounds_toArray, List.set_cons_zero, List.set_cons_succ]
            refine wpAnyH_take (i := 6) (v := .slice AK (n - k) (c - k)) (lit rfl) (by kernel_rfl) (by kernel_rfl) (by kernel_rfl) (fun _ _ _ h => h) (Or.inl ⟨by rfl, ?_⟩) hSd ?_
            · rintro w6 s1
              go_simp
            simp only [Act.put, List.setIfInBounds_toArray, List.set_cons_zero, List.set_cons_succ]
            refine wpAnyH_ready (rs := [3]) (by kernel_rfl) (by simp) ?_
            refine AllReadyH.cons (lit rfl) (fun K5 hK5 => ?_) AllReadyH.nil
            refine step_open rfl ?_
            go_simp
            go_at_call 9
            (with_reducible refine (HC1.out _ hSd).mono ?_)
            rintro e13 w13 ⟨rfl, b13⟩
            have h13 : (fun w' : World => Below W.heap.size W w' ∧ RowZ w' A n c l) w13 := ⟨below_step hSd.1 b13, hSd.2.below b13⟩
            refine hK5.out _ _ h13 (fun _ => ?_)
            clear hK5 K5
            refine wpAnyH_ready (rs := [7]) (by kernel_rfl) (by simp) ?_
            refine AllReadyH.cons (lit rfl) (fun K5 hK5 => ?_) AllReadyH.nil
            refine step_open rfl ?_
            go_simp
            go_at_call 9
            (with_reducible refine (HC2.out _ h13).mono ?_)
            rintro e14 w14 ⟨rfl, b14⟩
            have h14 : (fun w' : World => Below W.heap.size W w' ∧ RowZ w' A n c l) w14 := ⟨below_step h13.1 b14, h13.2.below b14⟩
            refine hK5.out _ _ h14 (fun _ => ?_)
            clear hK5 K5
            refine wpAnyH_take (i := 8) (v := .int .i64 z) (lit rfl) (by kernel_rfl) (by kernel_rfl) (by kernel_rfl) (fun _ _ _ h => h) (Or.inl ⟨by rfl, ?_⟩) h14 ?_
            · rintro w6 s1
              go_simp
            simp only [Act.put, List.setIfInBounds_toArray, List.set_cons_zero, List.set_cons_succ]
            refine wpAnyH_take (i := 9) (v := .int .i64 z) (lit rfl) (by kernel_rfl) (by kernel_rfl) (by kernel_rfl) (fun _ _ _ h => h) (Or.inl ⟨by rfl, ?_⟩) h14 ?_
            · rintro w6 s1
              go_simp
            simp only [Act.put, List.setIfInBounds_toArray, List.set_cons_zero, List.set_cons_succ]
            refine wpAnyH_done (by kernel_rfl) ?_ _
            refine hK _ _ ?_
            go_wp2
            go_roundw
            case rel => exact ⟨k + 1, by omega, by omega, by go_num, h14⟩
            case measure => simp [intOf] <;> omega
        · obtain rfl : k = n := by omega
          have i4 : ¬ (k : Int) < (k : Int) := by omega
          go_wp2
          go_loop [8, 11] (fun v i => ∃ (j : Nat) (z : Int), j ≤ k ∧ i = .int .i64 (j : Int) ∧ v = .int .i64 z ∧ (∀ x ∈ l.take j, x ≤ z)) (fun _ i => k - (intOf i).toNat)
          case atStart => exact ⟨0, 0, Nat.zero_le _, rfl, rfl, fun x hx => by simp at hx⟩
          case round =>
            obtain ⟨j, z, hj, rfl, rfl, hmo⟩ := hrel
            have HMO := Lib.hid hmo
            clear hmo
            by_cases hlt2 : j < k
            · have hkl : j < l.length := by have := HN.out; omega
              obtain ⟨g, off, rfl, ck⟩ := HS1.out.2.reads.zint14 hkl
              have HT := Lib.hid (List.take_succ_eq_append_getElem hkl)
              obtain ⟨x, hx⟩ : ∃ x, l[j] = x := ⟨_, rfl⟩
              rw [hx] at ck HT
              obtain ⟨z2, hz2⟩ : ∃ z2, max z x = z2 := ⟨_, rfl⟩
              have i1 : (0 : Int) ≤ (j : Int) := by omega
              have i2 : (j : Int) < (k : Int) := by omega
              clear hx hkl
              go_wp2
              go_round
              case rel => exact ⟨j + 1, z2, by omega, by go_num, rfl, fun y hy => by
                rw [HT.out, List.mem_append, List.mem_singleton] at hy
                rcases hy with hy | rfl
                · have := HMO.out y hy
                  omega
                · omega⟩
              case measure => simp [intOf] <;> omega
            · obtain rfl : j = k := by omega
              have HM : Hid (∀ x ∈ l, x ≤ z) := Lib.hid (fun x hx => HMO.out x (by rw [List.take_of_length_le (by rw [← HN.out]; exact Nat.le_refl _)]; exact hx))
              have i2 : ¬ (j : Int) < (j : Int) := by omega
              by_cases d1 : 37 < z
              · go_wp2
                go_ret
                exact ⟨rfl, HS1.out.1⟩
              by_cases d2 : 159 < s
              · go_wp2
                go_ret
                exact ⟨rfl, HS1.out.1⟩
              obtain ⟨f1, f2, f3⟩ := HFI.out (fun x hx => ⟨(HEL.out x hx).1, by have := HM.out x hx; omega⟩) (by omega)
              have g2 : decide (x1 < 30) = false := decide_eq_false (by omega)
              have g3 : decide (x2 < 30) = false := decide_eq_false (by omega)
              rw [g2] at HL1
              rw [g3] at HL2
              rw [if_neg (show ¬ c = a by omega)] at hAL
              subst hAL
              go_wp2_with (first
                | (go_at_call 13; (with_reducible refine (HL1.out _ HS1.out).mono ?_); rintro e w6 ⟨rfl, b6⟩; have H6 : Hid (Below W.heap.size W w6 ∧ RowZ w6 A j c l) := Lib.hid ⟨below_step HS1.out.1 b6, HS1.out.2.below b6⟩; clear b6)
                | (go_at_call 13; (with_reducible refine (HL2.out _ H6.out).mono ?_); rintro e w7 ⟨rfl, b7⟩; have B7 := Lib.hid (below_step H6.out.1 b7); clear b7))
              go_ret
              exact ⟨rfl, B7.out⟩
end Go.Proofs.Ytnidommmnmpdlaa
