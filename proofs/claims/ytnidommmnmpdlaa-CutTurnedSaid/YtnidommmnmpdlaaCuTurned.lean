/- Layer 14: CutTurned, whatever comes in. Written by gen/cuturned.py. -/
import Derived.Test.YtnidommmnmpdlaaCtw
import Derived.Lib.MinMax
namespace Go.Proofs.Ytnidommmnmpdlaa
open Go.RowKit
set_option linter.unusedVariables false

theorem rev_more {l : List Int} {j n : Nat} (hn : n = l.length) (hj : j < n) : ∃ x, l[n - 1 - j]? = some x ∧ l.reverse.take (j + 1) = l.reverse.take j ++ [x] := by
  have h1 : j < l.reverse.length := by rw [List.length_reverse]; omega
  refine ⟨l[n - 1 - j]'(by omega), List.getElem?_eq_getElem _, ?_⟩
  rw [List.take_succ_eq_append_getElem h1]
  congr 2
  rw [List.getElem_reverse]
  congr 1
  omega
set_option maxRecDepth 100000 in
set_option maxHeartbeats 4000000 in
theorem walkCutTurned (l : List Int) (A : Option Addr) (n c : Nat) (W : World) (h : RowZ W A n c l) :
    Calls Try.prog 5 #[.slice A n c] W fun e W' => e = .returned (.bool true) ∧ Below W.heap.size W W' := by
  have hmx : Try.prog.follows .mixedOrders = true := by kernel_rfl
  obtain ⟨ti, hi, hz0, hz1, hz2⟩ := info_parts int_info13
  have HAW := Lib.hid (awake14_any W)
  have HSZ := Lib.hid (fun w1 (b1 : Below W.heap.size W w1) => sizes14_any l A n c w1 (h.below b1))
  have HRW := Lib.hid (fun w1 (b1 : Below W.heap.size W w1) => h.below b1)
  have HN := Lib.hid h.len
  have hr1 := h.room
  have hr2 : c ≤ 9223372036854775807 := by have := h.most; unfold maxLen at this; omega
  clear h
  cases hf : fewZ l with
  | false =>
    rw [hf] at HSZ
    go_enter Try.func5, Try.ntmps5
    go_wp2_with (first
      | (go_at_call 7; (with_reducible refine HAW.out.mono ?_); rintro e w1 ⟨rfl, b1⟩; have B1 := Lib.hid b1; clear b1)
      | (go_at_call 8; (with_reducible refine (HSZ.out _ B1.out).mono ?_); rintro e w2 ⟨rfl, rfl⟩))
    go_ret
    exact ⟨rfl, B1.out⟩
  | true =>
    rw [hf] at HSZ
    have HSL := Lib.hid (fewZ_siz hf)
    have hnn : n ≤ 101 := by rw [HN.out]; exact HSL.out.2
    go_enter Try.func5, Try.ntmps5
    go_wp2_with (first
      | (go_at_call 7; (with_reducible refine HAW.out.mono ?_); rintro e w1 ⟨rfl, b1⟩; have B1 := Lib.hid b1; clear b1)
      | (go_at_call 8; (with_reducible refine (HSZ.out _ B1.out).mono ?_); rintro e w2 ⟨rfl, rfl⟩))
    go_loopw [5, 6] (fun v i wr => ∃ j : Nat, j ≤ n ∧ i = .int .i64 ((n : Int) - 1 - (j : Int)) ∧ wr.ownsRow w1.heap.size 3 1 v j ((l.reverse.take j).map (Value.int .i64)) ∧ Below w1.heap.size w1 wr) (fun _ i _ => (intOf i + 1).toNat)
    case atStart => exact ⟨0, Nat.zero_le _, (by go_num), World.ownsRow_nil _ _ _ _, Below.refl _ _⟩
    case round =>
      obtain ⟨j, hj, rfl, ho, hB⟩ := hrel
      have HO := Lib.hid ho
      have HB := Lib.hid hB
      clear ho hB
      by_cases hlt : j < n
      · obtain ⟨x, hx, hm⟩ := rev_more HN.out hlt
        have HM := Lib.hid hm
        have hkl : n - 1 - j < l.length := by have := HN.out; omega
        obtain ⟨g, off, rfl, ck⟩ := (HRW.out wr (below_step B1.out HB.out)).reads.zint14 hkl
        rw [List.getElem?_eq_getElem hkl] at hx
        injection hx with hx
        rw [hx] at ck
        obtain ⟨t, ht⟩ : ∃ t : Nat, n - 1 - j = t := ⟨_, rfl⟩
        have ei : (n : Int) - 1 - (j : Int) = (t : Int) := by omega
        rw [ht] at ck
        rw [ei]
        have i0 : (0 : Int) ≤ (t : Int) := by omega
        have i1 : (t : Int) < (n : Int) := by omega
        have i2 : t < n := by omega
        clear hx hm hkl
        go_wp2_with (at_builtin; (refine wpList_append_own _ rfl _ _ 22 rfl w1.heap.size 3 ti (.int .i64 0) 1 8 Try.underlying22 hi hz0 hz1 hz2 rfl (by decide) _ j _ rfl (HO.out.alloc _) ⟨wr.heap.size, 0, none⟩ 1 1 [.int .i64 x] rfl rfl (lies_one13 _ _ _) (by simp [Value.oneCell']) (by unfold maxLen; omega) (by omega) (Nat.le_trans HB.out.size (by simp)) ?_; intro v8 w8 h7 h8 hnil; clear hnil; have G8 : Hid (Below w1.heap.size w1 w8) := Lib.hid (below_own14 (below_alloc' HB.out (.cells #[.int .i64 x] 3)) h8 (HO.out.alloc _) (Nat.le_trans HB.out.size (by simp))); have O8 := Lib.hid h7; clear h7 h8))
        go_roundw
        case rel => exact ⟨j + 1, by omega, by go_num, by rw [HM.out]; simpa using O8.out, G8.out⟩
        case measure => simp [intOf] <;> omega
      · obtain rfl : n = j := by omega
        obtain ⟨A8, c8, rfl, r8⟩ := RowZ.own (l := l.reverse) (by have := HO.out; rw [List.take_of_length_le (by rw [List.length_reverse, ← HN.out]; exact Nat.le_refl _)] at this; exact this)
        have hc1 := r8.room
        have hc2 : c8 ≤ 9223372036854775807 := by have := r8.most; unfold maxLen at this; omega
        have HBW := Lib.hid (below_step B1.out HB.out)
        have HSQ : Hid (SizZ l.reverse) := Lib.hid ⟨fun x hx => HSL.out.1 x (List.mem_reverse.1 hx), by rw [List.length_reverse]; exact HSL.out.2⟩
        have R8 := Lib.hid r8
        have HA := Lib.hid (fun w2 (x : RowZ w2 A n c l) => cuAt_any l A n c w2 x HSL.out)
        have HB8 := Lib.hid (fun w2 (x : RowZ w2 A8 n c8 l.reverse) => cuAt_any l.reverse A8 n c8 w2 x HSQ.out)
        have i0 : ¬ (0 : Int) ≤ (n : Int) - 1 - (n : Int) := by omega
        by_cases ca : atZ l = 0
        · have cb := (turned_zero l).1 ca
          rw [ca] at HA
          rw [cb] at HB8
          clear r8 HO
          go_wp2_with (first
            | (go_at_call 11; (with_reducible refine (HA.out _ (HRW.out _ HBW.out)).mono ?_); rintro e w3 ⟨rfl, b3⟩; have B3 := Lib.hid b3; clear b3)
            | (go_at_call 11; (with_reducible refine (HB8.out _ (R8.out.below B3.out)).mono ?_); rintro e w4 ⟨rfl, b4⟩; have B4 := Lib.hid (below_step (below_step HBW.out B3.out) b4); clear b4))
          go_ret
          exact ⟨by simp, B4.out⟩
        · have cb : ¬ atZ l.reverse = 0 := fun hx => ca ((turned_zero l).2 hx)
          have hno : ¬ (sumZ l ≤ 122 ∨ l.length < 2) := fun hx => ca (atZ_zero hx)
          have hno2 : ¬ (sumZ l.reverse ≤ 122 ∨ l.reverse.length < 2) := fun hx => cb (atZ_zero hx)
          have ht := turned_at hno
          have ha1 := atZ_in hno
          have hb1 := atZ_in hno2
          rw [worseZ_max, worseZ_max] at ht
          rw [List.length_reverse] at hb1
          rw [← HN.out] at ha1 hb1
          have hrv := sumZ_rev l
          generalize hq : l.reverse = q at *
          generalize atZ l = a at *
          generalize atZ q = b at *
          obtain ⟨AL, hAL⟩ : ∃ x, (if c = a then A else Option.map (fun x => x.add a) A) = x := ⟨_, rfl⟩
          obtain ⟨BL, hBL⟩ : ∃ x, (if c8 = b then A8 else Option.map (fun x => x.add b) A8) = x := ⟨_, rfl⟩
          have HS := Lib.hid (fun w2 (x : (fun w' : World => Below W.heap.size W w' ∧ RowZ w' A n c l ∧ RowZ w' A8 n c8 q) w2) => cuSum_any l A n c w2 x.2.1 HSL.out)
          have HQ := Lib.hid (fun w2 (x : (fun w' : World => Below W.heap.size W w' ∧ RowZ w' A n c l ∧ RowZ w' A8 n c8 q) w2) => cuSum_any q A8 n c8 w2 x.2.2 HSQ.out)
          have HX1 := Lib.hid (fun w2 (x : (fun w' : World => Below W.heap.size W w' ∧ RowZ w' A n c l ∧ RowZ w' A8 n c8 q) w2) => cuSum_any (l.take a) A a c w2 (x.2.1.front (by omega)) (HSL.out.front a))
          have HX2 := Lib.hid (fun w2 (x : (fun w' : World => Below W.heap.size W w' ∧ RowZ w' A n c l ∧ RowZ w' A8 n c8 q) w2) => cuSum_any (l.drop a) AL (n - a) (c - a) w2 (hAL ▸ x.2.1.back (by omega)) (HSL.out.back a))
          have HY1 := Lib.hid (fun w2 (x : (fun w' : World => Below W.heap.size W w' ∧ RowZ w' A n c l ∧ RowZ w' A8 n c8 q) w2) => cuSum_any (q.take b) A8 b c8 w2 (x.2.2.front (by omega)) (HSQ.out.front b))
          have HY2 := Lib.hid (fun w2 (x : (fun w' : World => Below W.heap.size W w' ∧ RowZ w' A n c l ∧ RowZ w' A8 n c8 q) w2) => cuSum_any (q.drop b) BL (n - b) (c8 - b) w2 (hBL ▸ x.2.2.back (by omega)) (HSQ.out.back b))
          have HL := Lib.hid (fun w2 (x : (fun w' : World => Below W.heap.size W w' ∧ RowZ w' A n c l ∧ RowZ w' A8 n c8 q) w2) => cuLow_any l A n c w2 x.2.1 HSL.out)
          have HM := Lib.hid (fun w2 (x : (fun w' : World => Below W.heap.size W w' ∧ RowZ w' A n c l ∧ RowZ w' A8 n c8 q) w2) => cuLow_any q A8 n c8 w2 x.2.2 HSQ.out)
          rw [hrv] at HQ HM
          generalize sumZ l = s at *
          generalize sumZ (l.take a) = x1 at *
          generalize sumZ (l.drop a) = x2 at *
          generalize sumZ (q.take b) = y1 at *
          generalize sumZ (q.drop b) = y2 at *
          obtain ⟨m, hm1⟩ : ∃ m, max x1 x2 = m := ⟨_, rfl⟩
          have hm2 : max y1 y2 = m := by rw [← ht, hm1]
          obtain ⟨lo, hlo⟩ : ∃ b, decide (s < 30) = b := ⟨_, rfl⟩
          rw [hlo] at HL HM
          obtain ⟨ha1, ha2⟩ := ha1
          obtain ⟨hb1, hb2⟩ := hb1
          have j1 : (0 : Int) ≤ (a : Int) := by omega
          have j2 : (a : Int) ≤ (n : Int) := by omega
          have j3 : (a : Int) ≤ (c : Int) := by omega
          have j4 : ((a : Int) == 0) = false := by rw [beq_eq_false_iff_ne]; omega
          have k1 : (0 : Int) ≤ (b : Int) := by omega
          have k2 : (b : Int) ≤ (n : Int) := by omega
          have k3 : (b : Int) ≤ (c8 : Int) := by omega
          have k4 : ((b : Int) == 0) = false := by rw [beq_eq_false_iff_ne]; omega
          clear r8 HO ht hrv hq hlo
          go_wp2_with (first
            | (go_at_call 11; (with_reducible refine (HA.out _ (HRW.out _ HBW.out)).mono ?_); rintro e w3 ⟨rfl, b3⟩; have B3 := Lib.hid b3; clear b3)
            | (go_at_call 11; (with_reducible refine (HB8.out _ (R8.out.below B3.out)).mono ?_); rintro e w4 ⟨rfl, b4⟩; have X4 : Hid ((fun w' : World => Below W.heap.size W w' ∧ RowZ w' A n c l ∧ RowZ w' A8 n c8 q) w4) := Lib.hid ⟨below_step (below_step HBW.out B3.out) b4, HRW.out _ (below_step (below_step HBW.out B3.out) b4), (R8.out.below B3.out).below b4⟩; clear b4))
          have hSd : (fun w' : World => Below W.heap.size W w' ∧ RowZ w' A n c l ∧ RowZ w' A8 n c8 q) w4.drew := ⟨X4.out.1.drew, X4.out.2.1.below (Below.refl _ _).drew, X4.out.2.2.below (Below.refl _ _).drew⟩
          first | (rename_i K hK; refine wp_held (fun w' : World => Below W.heap.size W w' ∧ RowZ w' A n c l ∧ RowZ w' A8 n c8 q) K hmx ?_ (fun _ _ h => h)) | (rename_i K hK hz; refine wp_held (fun w' : World => Below W.heap.size W w' ∧ RowZ w' A n c l ∧ RowZ w' A8 n c8 q) K hmx ?_ (fun _ _ h => h))
          refine wpAnyH_take (i := 0) (v := .slice A n c) (lit rfl) (by kernel_rfl) (by kernel_rfl) (by kernel_rfl) (fun _ _ _ h => h) (Or.inl ⟨by rfl, ?_⟩) hSd ?_
          · rintro w6 s1
            go_simp
          simp only [Act.put, List.setIfInBounds_toArray, List.set_cons_zero, List.set_cons_succ]
          refine wpAnyH_take (i := 2) (v := .slice A8 n c8) (lit rfl) (by kernel_rfl) (by kernel_rfl) (by kernel_rfl) (fun _ _ _ h => h) (Or.inl ⟨by rfl, ?_⟩) hSd ?_
          · rintro w6 s1
            go_simp
          simp only [Act.put, List.setIfInBounds_toArray, List.set_cons_zero, List.set_cons_succ]
          refine wpAnyH_ready (rs := [1]) (by kernel_rfl) (by simp) ?_
          refine AllReadyH.cons (lit rfl) (fun K5 hK5 => ?_) AllReadyH.nil
          refine step_open rfl ?_
          go_simp
          go_at_call 9
          (with_reducible refine (HS.out _ hSd).mono ?_)
          rintro e11 w11 ⟨rfl, b11⟩
          have h11 : (fun w' : World => Below W.heap.size W w' ∧ RowZ w' A n c l ∧ RowZ w' A8 n c8 q) w11 := ⟨below_step hSd.1 b11, hSd.2.1.below b11, hSd.2.2.below b11⟩
          refine hK5.out _ _ h11 (fun _ => ?_)
          clear hK5 K5
          refine wpAnyH_ready (rs := [3]) (by kernel_rfl) (by simp) ?_
          refine AllReadyH.cons (lit rfl) (fun K5 hK5 => ?_) AllReadyH.nil
          refine step_open rfl ?_
          go_simp
          go_at_call 9
          (with_reducible refine (HQ.out _ h11).mono ?_)
          rintro e12 w12 ⟨rfl, b12⟩
          have h12 : (fun w' : World => Below W.heap.size W w' ∧ RowZ w' A n c l ∧ RowZ w' A8 n c8 q) w12 := ⟨below_step h11.1 b12, h11.2.1.below b12, h11.2.2.below b12⟩
          refine hK5.out _ _ h12 (fun _ => ?_)
          clear hK5 K5
          refine wpAnyH_take (i := 4) (v := .bool true) (lit rfl) (by kernel_rfl) (by kernel_rfl) (by kernel_rfl) (fun _ _ _ h => h) (Or.inl ⟨by rfl, ?_⟩) h12 ?_
          · rintro w6 s1
            go_simp
          simp only [Act.put, List.setIfInBounds_toArray, List.set_cons_zero, List.set_cons_succ]
          refine wpAnyH_take (i := 5) (v := .bool true) (lit rfl) (by kernel_rfl) (by kernel_rfl) (by kernel_rfl) (fun _ _ _ h => h) (Or.inl ⟨by rfl, ?_⟩) h12 ?_
          · rintro w6 s1
            go_simp
          simp only [Act.put, List.setIfInBounds_toArray, List.set_cons_zero, List.set_cons_succ]
          refine wpAnyH_take (i := 6) (v := .slice A n c) (lit rfl) (by kernel_rfl) (by kernel_rfl) (by kernel_rfl) (fun _ _ _ h => h) (Or.inl ⟨by rfl, ?_⟩) h12 ?_
          · rintro w6 s1
            go_simp
          simp only [Act.put, List.setIfInBounds_toArray, List.set_cons_zero, List.set_cons_succ]
          refine wpAnyH_take (i := 7) (v := .int .i64 (a : Int)) (lit rfl) (by kernel_rfl) (by kernel_rfl) (by kernel_rfl) (fun _ _ _ h => h) (Or.inl ⟨by rfl, ?_⟩) h12 ?_
          · rintro w6 s1
            go_simp
          simp only [Act.put, List.setIfInBounds_toArray, List.set_cons_zero, List.set_cons_succ]
          refine wpAnyH_take (i := 8) (v := .slice A a c) (lit rfl) (by kernel_rfl) (by kernel_rfl) (by kernel_rfl) (fun _ _ _ h => h) (Or.inl ⟨by rfl, ?_⟩) h12 ?_
          · rintro w6 s1
            go_simp
          simp only [Act.put, List.setIfInBounds_toArray, List.set_cons_zero, List.set_cons_succ]
          refine wpAnyH_take (i := 10) (v := .slice A n c) (lit rfl) (by kernel_rfl) (by kernel_rfl) (by kernel_rfl) (fun _ _ _ h => h) (Or.inl ⟨by rfl, ?_⟩) h12 ?_
          · rintro w6 s1
            go_simp
          simp only [Act.put, List.setIfInBounds_toArray, List.set_cons_zero, List.set_cons_succ]
          refine wpAnyH_take (i := 11) (v := .int .i64 (a : Int)) (lit rfl) (by kernel_rfl) (by kernel_rfl) (by kernel_rfl) (fun _ _ _ h => h) (Or.inl ⟨by rfl, ?_⟩) h12 ?_
          · rintro w6 s1
            go_simp
          simp only [Act.put, List.setIfInBounds_toArray, List.set_cons_zero, List.set_cons_succ]
          refine wpAnyH_take (i := 12) (v := .slice AL (n - a) (c - a)) (lit rfl) (by kernel_rfl) (by kernel_rfl) (by kernel_rfl) (fun _ _ _ h => h) (Or.inl ⟨by rfl, ?_⟩) h12 ?_
          · rintro w6 s1
            go_simp
          simp only [Act.put, List.setIfInBounds_toArray, List.set_cons_zero, List.set_cons_succ]
          refine wpAnyH_take (i := 15) (v := .slice A8 n c8) (lit rfl) (by kernel_rfl) (by kernel_rfl) (by kernel_rfl) (fun _ _ _ h => h) (Or.inl ⟨by rfl, ?_⟩) h12 ?_
          · rintro w6 s1
            go_simp
          simp only [Act.put, List.setIfInBounds_toArray, List.set_cons_zero, List.set_cons_succ]
          refine wpAnyH_take (i := 16) (v := .int .i64 (b : Int)) (lit rfl) (by kernel_rfl) (by kernel_rfl) (by kernel_rfl) (fun _ _ _ h => h) (Or.inl ⟨by rfl, ?_⟩) h12 ?_
          · rintro w6 s1
            go_simp
          simp only [Act.put, List.setIfInBounds_toArray, List.set_cons_zero, List.set_cons_succ]
          refine wpAnyH_take (i := 17) (v := .slice A8 b c8) (lit rfl) (by kernel_rfl) (by kernel_rfl) (by kernel_rfl) (fun _ _ _ h => h) (Or.inl ⟨by rfl, ?_⟩) h12 ?_
          · rintro w6 s1
            go_simp
          simp only [Act.put, List.setIfInBounds_toArray, List.set_cons_zero, List.set_cons_succ]
          refine wpAnyH_take (i := 19) (v := .slice A8 n c8) (lit rfl) (by kernel_rfl) (by kernel_rfl) (by kernel_rfl) (fun _ _ _ h => h) (Or.inl ⟨by rfl, ?_⟩) h12 ?_
          · rintro w6 s1
            go_simp
          simp only [Act.put, List.setIfInBounds_toArray, List.set_cons_zero, List.set_cons_succ]
          refine wpAnyH_take (i := 20) (v := .int .i64 (b : Int)) (lit rfl) (by kernel_rfl) (by kernel_rfl) (by kernel_rfl) (fun _ _ _ h => h) (Or.inl ⟨by rfl, ?_⟩) h12 ?_
          · rintro w6 s1
            go_simp
          simp only [Act.put, List.setIfInBounds_toArray, List.set_cons_zero, List.set_cons_succ]
          refine wpAnyH_take (i := 21) (v := .slice BL (n - b) (c8 - b)) (lit rfl) (by kernel_rfl) (by kernel_rfl) (by kernel_rfl) (fun _ _ _ h => h) (Or.inl ⟨by rfl, ?_⟩) h12 ?_
          · rintro w6 s1
            go_simp
          simp only [Act.put, List.setIfInBounds_toArray, List.set_cons_zero, List.set_cons_succ]
          refine wpAnyH_ready (rs := [9]) (by kernel_rfl) (by simp) ?_
          refine AllReadyH.cons (lit rfl) (fun K5 hK5 => ?_) AllReadyH.nil
          go_simp
          go_at_call 9
          (with_reducible refine (HX1.out _ h12).mono ?_)
          rintro e13 w13 ⟨rfl, b13⟩
          have h13 : (fun w' : World => Below W.heap.size W w' ∧ RowZ w' A n c l ∧ RowZ w' A8 n c8 q) w13 := ⟨below_step h12.1 b13, h12.2.1.below b13, h12.2.2.below b13⟩
          refine hK5.out _ _ h13 (fun _ => ?_)
          clear hK5 K5
          refine wpAnyH_ready (rs := [13]) (by kernel_rfl) (by simp) ?_
          refine AllReadyH.cons (lit rfl) (fun K5 hK5 => ?_) AllReadyH.nil
          go_simp
          go_at_call 9
          (with_reducible refine (HX2.out _ h13).mono ?_)
          rintro e14 w14 ⟨rfl, b14⟩
          have h14 : (fun w' : World => Below W.heap.size W w' ∧ RowZ w' A n c l ∧ RowZ w' A8 n c8 q) w14 := ⟨below_step h13.1 b14, h13.2.1.below b14, h13.2.2.below b14⟩
          refine hK5.out _ _ h14 (fun _ => ?_)
          clear hK5 K5
          refine wpAnyH_take (i := 14) (v := .int .i64 m) (lit rfl) (by kernel_rfl) (by kernel_rfl) (by kernel_rfl) (fun _ _ _ h => h) (Or.inl ⟨by rfl, ?_⟩) h14 ?_
          · rintro w6 s1
            go_simp
          simp only [Act.put, List.setIfInBounds_toArray, List.set_cons_zero, List.set_cons_succ]
          refine wpAnyH_ready (rs := [18]) (by kernel_rfl) (by simp) ?_
          refine AllReadyH.cons (lit rfl) (fun K5 hK5 => ?_) AllReadyH.nil
          go_simp
          go_at_call 9
          (with_reducible refine (HY1.out _ h14).mono ?_)
          rintro e15 w15 ⟨rfl, b15⟩
          have h15 : (fun w' : World => Below W.heap.size W w' ∧ RowZ w' A n c l ∧ RowZ w' A8 n c8 q) w15 := ⟨below_step h14.1 b15, h14.2.1.below b15, h14.2.2.below b15⟩
          refine hK5.out _ _ h15 (fun _ => ?_)
          clear hK5 K5
          refine wpAnyH_ready (rs := [22]) (by kernel_rfl) (by simp) ?_
          refine AllReadyH.cons (lit rfl) (fun K5 hK5 => ?_) AllReadyH.nil
          go_simp
          go_at_call 9
          (with_reducible refine (HY2.out _ h15).mono ?_)
          rintro e16 w16 ⟨rfl, b16⟩
          have h16 : (fun w' : World => Below W.heap.size W w' ∧ RowZ w' A n c l ∧ RowZ w' A8 n c8 q) w16 := ⟨below_step h15.1 b16, h15.2.1.below b16, h15.2.2.below b16⟩
          refine hK5.out _ _ h16 (fun _ => ?_)
          clear hK5 K5
          refine wpAnyH_take (i := 23) (v := .int .i64 m) (lit rfl) (by kernel_rfl) (by kernel_rfl) (by kernel_rfl) (fun _ _ _ h => h) (Or.inl ⟨by rfl, ?_⟩) h16 ?_
          · rintro w6 s1
            go_simp
          simp only [Act.put, List.setIfInBounds_toArray, List.set_cons_zero, List.set_cons_succ]
          refine wpAnyH_take (i := 24) (v := .bool true) (lit rfl) (by kernel_rfl) (by kernel_rfl) (by kernel_rfl) (fun _ _ _ h => h) (Or.inl ⟨by rfl, ?_⟩) h16 ?_
          · rintro w6 s1
            go_simp
          simp only [Act.put, List.setIfInBounds_toArray, List.set_cons_zero, List.set_cons_succ]
          refine wpAnyH_take (i := 25) (v := .bool true) (lit rfl) (by kernel_rfl) (by kernel_rfl) (by kernel_rfl) (fun _ _ _ h => h) (Or.inl ⟨by rfl, ?_⟩) h16 ?_
          · rintro w6 s1
            go_simp
          simp only [Act.put, List.setIfInBounds_toArray, List.set_cons_zero, List.set_cons_succ]
          refine wpAnyH_take (i := 26) (v := .bool true) (lit rfl) (by kernel_rfl) (by kernel_rfl) (by kernel_rfl) (fun _ _ _ h => h) (Or.inl ⟨by rfl, ?_⟩) h16 ?_
          · rintro w6 s1
            go_simp
          simp only [Act.put, List.setIfInBounds_toArray, List.set_cons_zero, List.set_cons_succ]
          refine wpAnyH_take (i := 27) (v := .slice A n c) (lit rfl) (by kernel_rfl) (by kernel_rfl) (by kernel_rfl) (fun _ _ _ h => h) (Or.inl ⟨by rfl, ?_⟩) h16 ?_
          · rintro w6 s1
            go_simp
          simp only [Act.put, List.setIfInBounds_toArray, List.set_cons_zero, List.set_cons_succ]
          refine wpAnyH_take (i := 29) (v := .slice A8 n c8) (lit rfl) (by kernel_rfl) (by kernel_rfl) (by kernel_rfl) (fun _ _ _ h => h) (Or.inl ⟨by rfl, ?_⟩) h16 ?_
          · rintro w6 s1
            go_simp
          simp only [Act.put, List.setIfInBounds_toArray, List.set_cons_zero, List.set_cons_succ]
          refine wpAnyH_ready (rs := [28]) (by kernel_rfl) (by simp) ?_
          refine AllReadyH.cons (lit rfl) (fun K5 hK5 => ?_) AllReadyH.nil
          go_simp
          go_at_call 13
          (with_reducible refine (HL.out _ h16).mono ?_)
          rintro e17 w17 ⟨rfl, b17⟩
          have h17 : (fun w' : World => Below W.heap.size W w' ∧ RowZ w' A n c l ∧ RowZ w' A8 n c8 q) w17 := ⟨below_step h16.1 b17, h16.2.1.below b17, h16.2.2.below b17⟩
          refine hK5.out _ _ h17 (fun _ => ?_)
          clear hK5 K5
          refine wpAnyH_ready (rs := [30]) (by kernel_rfl) (by simp) ?_
          refine AllReadyH.cons (lit rfl) (fun K5 hK5 => ?_) AllReadyH.nil
          go_simp
          go_at_call 13
          (with_reducible refine (HM.out _ h17).mono ?_)
          rintro e18 w18 ⟨rfl, b18⟩
          have h18 : (fun w' : World => Below W.heap.size W w' ∧ RowZ w' A n c l ∧ RowZ w' A8 n c8 q) w18 := ⟨below_step h17.1 b18, h17.2.1.below b18, h17.2.2.below b18⟩
          refine hK5.out _ _ h18 (fun _ => ?_)
          clear hK5 K5
          refine wpAnyH_take (i := 31) (v := .bool true) (lit rfl) (by kernel_rfl) (by kernel_rfl) (by kernel_rfl) (fun _ _ _ h => h) (Or.inl ⟨by rfl, ?_⟩) h18 ?_
          · rintro w6 s1
            go_simp
          simp only [Act.put, List.setIfInBounds_toArray, List.set_cons_zero, List.set_cons_succ]
          refine wpAnyH_take (i := 32) (v := .bool true) (lit rfl) (by kernel_rfl) (by kernel_rfl) (by kernel_rfl) (fun _ _ _ h => h) (Or.inl ⟨by rfl, ?_⟩) h18 ?_
          · rintro w6 s1
            go_simp
          simp only [Act.put, List.setIfInBounds_toArray, List.set_cons_zero, List.set_cons_succ]
          refine wpAnyH_take (i := 33) (v := .bool true) (lit rfl) (by kernel_rfl) (by kernel_rfl) (by kernel_rfl) (fun _ _ _ h => h) (Or.inl ⟨by rfl, ?_⟩) h18 ?_
          · rintro w6 s1
            go_simp
          simp only [Act.put, List.setIfInBounds_toArray, List.set_cons_zero, List.set_cons_succ]
          refine wpAnyH_done (by kernel_rfl) ?_ _
          refine hK _ _ ?_
          go_wp2
          go_ret
          exact ⟨rfl, h18.1⟩
end Go.Proofs.Ytnidommmnmpdlaa
