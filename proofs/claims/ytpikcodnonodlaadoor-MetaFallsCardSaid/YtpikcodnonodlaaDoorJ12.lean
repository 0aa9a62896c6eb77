import Derived.Test.YtpikcodnonodlaaDoorJ11
import Derived.Test.YtpikcodnonodlaaDoorJ01
import Derived.Test.YtpikcodnonodlaaDoorJ02
import Derived.Deep.Slices
/- Of a claim's texts, joined: MePut Argm. No statement but in the last. -/
section
namespace Go.Proofs.YtpikcodnonodlaaDoor
open Go.RowKit
set_option linter.unusedVariables false

set_option maxRecDepth 100000 in
set_option maxHeartbeats 8000000 in
theorem walkMePut_yes (m : Mt) (w : World) (ht : Tab w) (tm : m.txn < 18446744073709551616) (hc : checkM m) :
    Calls Tryd.prog 3 #[mtV m] w fun e w' => e = .returned (.bool true) ∧ Below w.heap.size w w' := by
  have hmx : Tryd.prog.follows .mixedOrders = true := by kernel_rfl
  have hz := zero_meta
  obtain ⟨W, hW, hb, hm⟩ := mbox w m
  have HA := Lib.hid (awake10_any W (ht.below hb))
  have HCM := Lib.hid (fun w1 => mCheck_any m w1)
  have HCR := Lib.hid (fun w1 => r10Check_any m w1)
  rw [decide_eq_true hc] at HCM HCR
  have HPL := Lib.hid (fun w1 => plain10_any m w1)
  have HSL := Lib.hid (fun w1 => mSlot_any m.txn w1 tm)
  have HSR := Lib.hid (fun w1 => r10Slot_any m.txn w1 tm)
  have HT := Lib.hid ht
  have HPM := Lib.hid (fun w1 h => mPut_page m w1 h hc tm)
  have HPR := Lib.hid (fun w1 => r10Put_yes m w1 hc tm)
  have HG := Lib.hid (fun A c w1 ht (h : Arg w1 A 128 c (pageM m)) => mGet_any A 128 c (pageM m) w1 ht h)
  rw [getM_page hc tm] at HG
  generalize pageM m = pm at HPM HPR HG
  obtain ⟨sm, hsm⟩ : ∃ sm : ByteArray, (⟨pm.toArray⟩ : ByteArray) = sm := ⟨_, rfl⟩
  unfold PutEnd10 at HPM
  unfold RPackEnd at HPR
  rw [hsm] at HPR
  unfold GetM10 at HG
  simp only at HG
  have HSM := Lib.hid hsm
  clear hsm
  obtain ⟨label, txn, root, list, high⟩ := m
  simp only [mtV, mtC] at hW hm HCM HCR HPL HSL HSR HPM HPR HG ⊢
  have HB := Lib.hid hb
  have HM := Lib.hid hm
  clear hb hm ht hc tm
  go_enter Tryd.func3, Tryd.ntmps3
  go_wp2_with (first
    | (go_at_call 8; (try rw [hW]); (with_reducible refine HA.out.mono ?_); rintro q0 w1 ⟨rfl, b1⟩; have B1 := Lib.hid (below_step HB.out b1); have y1 := HM.out.below b1 HM.out.lt; have c10 := y1.cell 0; have c11 := y1.cell 1; have c12 := y1.cell 2; have c13 := y1.cell 3; have c14 := y1.cell 4; have M1 := Lib.hid y1; clear b1 y1)
    | (go_at_call 9; (with_reducible refine (HPM.out _ (HT.out.below B1.out)).mono ?_); rintro q2 w2 ⟨A1, c1, rfl, ra, rb, b2⟩; have RA2 := Lib.hid ra; have B2 := Lib.hid (below_step B1.out b2); have y2 := M1.out.below b2 M1.out.lt; have c20 := y2.cell 0; have c21 := y2.cell 1; have c22 := y2.cell 2; have c23 := y2.cell 3; have c24 := y2.cell 4; have M2 := Lib.hid y2; clear ra rb b2 y2)
    | (go_at_call 11; (with_reducible refine (HPL.out _).mono ?_); rintro q3 w3 ⟨rfl, b3⟩; have RA3 := Lib.hid (RA2.out.below b3); have B3 := Lib.hid (below_step B2.out b3); have M3 := Lib.hid (M2.out.below b3 M2.out.lt); clear b3)
    | (go_at_call 10; (with_reducible refine (HPR.out _).mono ?_); rintro q4 w4 ⟨rfl, b4⟩; have RA4 := Lib.hid (RA3.out.below b4); have B4 := Lib.hid (below_step B3.out b4); have M4 := Lib.hid (M3.out.below b4 M3.out.lt); clear b4))
  have hS : (fun w' => Has w' w.heap.size 24 #[.int .i64 label, .int .u64 (txn : Int), .int .i64 root, .int .i64 list, .int .i64 high] ∧ Arg w' A1 128 c1 pm) w4.drew := ⟨M4.out, RA4.out.drew10⟩
  have BD : Below w.heap.size w w4.drew := B4.out.drew
  rename_i K hK
  refine wp_held (fun w' => Has w' w.heap.size 24 #[.int .i64 label, .int .u64 (txn : Int), .int .i64 root, .int .i64 list, .int .i64 high] ∧ Arg w' A1 128 c1 pm) K hmx ?_ (fun _ _ h => h)
  refine wpAnyH_take (i := 0) (v := .agg #[.int .i64 label, .int .u64 (txn : Int), .int .i64 root, .int .i64 list, .int .i64 high]) (lit rfl) (by kernel_rfl) (by kernel_rfl) (by kernel_rfl) (fun _ _ _ h => h) (Or.inl ⟨by rfl, ?_⟩) hS ?_
  · rintro w6 ⟨s1, s2⟩
    have d0 := s1.cell 0
    have d1 := s1.cell 1
    have d2 := s1.cell 2
    have d3 := s1.cell 3
    have d4 := s1.cell 4
    go_simp
  simp only [Act.put, List.setIfInBounds_toArray, List.set_cons_zero, List.set_cons_succ]
  refine wpAnyH_take (i := 2) (v := .agg #[.int .i64 label, .int .u64 (txn : Int), .int .i64 root, .int .i64 list, .int .i64 high]) (lit rfl) (by kernel_rfl) (by kernel_rfl) (by kernel_rfl) (fun _ _ _ h => h) (Or.inl ⟨by rfl, ?_⟩) hS ?_
  · rintro w6 ⟨s1, s2⟩
    have d0 := s1.cell 0
    have d1 := s1.cell 1
    have d2 := s1.cell 2
    have d3 := s1.cell 3
    have d4 := s1.cell 4
    go_simp
  simp only [Act.put, List.setIfInBounds_toArray, List.set_cons_zero, List.set_cons_succ]
  refine wpAnyH_ready (rs := [1]) (by kernel_rfl) (by simp) ?_
  refine AllReadyH.cons (lit rfl) (fun K5 hK5 => ?_) AllReadyH.nil
  refine step_open rfl ?_
  go_simp
  go_at_call 12
  (with_reducible refine (HCM.out _).mono ?_)
  rintro y1 u1 ⟨rfl, b1⟩
  have hS1 : (fun w' => Has w' w.heap.size 24 #[.int .i64 label, .int .u64 (txn : Int), .int .i64 root, .int .i64 list, .int .i64 high] ∧ Arg w' A1 128 c1 pm) u1 := ⟨hS.1.below b1 hS.1.lt, hS.2.below b1⟩
  replace BD := below_step BD b1
  clear b1
  refine hK5.out _ _ hS1 (fun _ => ?_)
  clear hK5 K5
  refine wpAnyH_ready (rs := [3]) (by kernel_rfl) (by simp) ?_
  refine AllReadyH.cons (lit rfl) (fun K5 hK5 => ?_) AllReadyH.nil
  refine step_open rfl ?_
  go_simp
  go_at_call 11
  (with_reducible refine (HPL.out _).mono ?_)
  rintro y2 u2 ⟨rfl, b1⟩
  have hS2 : (fun w' => Has w' w.heap.size 24 #[.int .i64 label, .int .u64 (txn : Int), .int .i64 root, .int .i64 list, .int .i64 high] ∧ Arg w' A1 128 c1 pm) u2 := ⟨hS1.1.below b1 hS1.1.lt, hS1.2.below b1⟩
  replace BD := below_step BD b1
  clear b1
  refine hK5.out _ _ hS2 (fun _ => ?_)
  clear hK5 K5
  refine wpAnyH_ready (rs := [4]) (by kernel_rfl) (by simp) ?_
  refine AllReadyH.cons (lit rfl) (fun K5 hK5 => ?_) AllReadyH.nil
  refine step_open rfl ?_
  go_simp
  go_at_call 13
  (with_reducible refine (HCR.out _).mono ?_)
  rintro y3 u3 ⟨rfl, b1⟩
  have hS3 : (fun w' => Has w' w.heap.size 24 #[.int .i64 label, .int .u64 (txn : Int), .int .i64 root, .int .i64 list, .int .i64 high] ∧ Arg w' A1 128 c1 pm) u3 := ⟨hS2.1.below b1 hS2.1.lt, hS2.2.below b1⟩
  replace BD := below_step BD b1
  clear b1
  refine hK5.out _ _ hS3 (fun _ => ?_)
  clear hK5 K5
  refine wpAnyH_take (i := 5) (v := .bool false) (lit rfl) (by kernel_rfl) (by kernel_rfl) (by kernel_rfl) (fun _ _ _ h => h) (Or.inl ⟨by rfl, ?_⟩) hS3 ?_
  · rintro w6 ⟨s1, s2⟩
    go_simp
  simp only [Act.put, List.setIfInBounds_toArray, List.set_cons_zero, List.set_cons_succ]
  refine wpAnyH_take (i := 6) (v := .bool false) (lit rfl) (by kernel_rfl) (by kernel_rfl) (by kernel_rfl) (fun _ _ _ h => h) (Or.inl ⟨by rfl, ?_⟩) hS3 ?_
  · rintro w6 ⟨s1, s2⟩
    go_simp
  simp only [Act.put, List.setIfInBounds_toArray, List.set_cons_zero, List.set_cons_succ]
  refine wpAnyH_take (i := 7) (v := .slice A1 128 c1) (lit rfl) (by kernel_rfl) (by kernel_rfl) (by kernel_rfl) (fun _ _ _ h => h) (Or.inl ⟨by rfl, ?_⟩) hS3 ?_
  · rintro w6 ⟨s1, s2⟩
    go_simp
  simp only [Act.put, List.setIfInBounds_toArray, List.set_cons_zero, List.set_cons_succ]
  refine wpAnyH_take (i := 8) (v := .string sm) (lit rfl) (by kernel_rfl) (by kernel_rfl) (by kernel_rfl) (fun _ _ _ h => h) (Or.inl ⟨by rfl, ?_⟩) hS3 ?_
  · rintro w6 ⟨s1, s2⟩
    have hcv := conv10 s2
    rw [HSM.out] at hcv
    go_simp
  simp only [Act.put, List.setIfInBounds_toArray, List.set_cons_zero, List.set_cons_succ]
  refine wpAnyH_take (i := 9) (v := .string sm) (lit rfl) (by kernel_rfl) (by kernel_rfl) (by kernel_rfl) (fun _ _ _ h => h) (Or.inl ⟨by rfl, ?_⟩) hS3 ?_
  · rintro w6 ⟨s1, s2⟩
    go_simp
  simp only [Act.put, List.setIfInBounds_toArray, List.set_cons_zero, List.set_cons_succ]
  refine wpAnyH_take (i := 10) (v := .bool false) (lit rfl) (by kernel_rfl) (by kernel_rfl) (by kernel_rfl) (fun _ _ _ h => h) (Or.inl ⟨by rfl, ?_⟩) hS3 ?_
  · rintro w6 ⟨s1, s2⟩
    go_simp
  simp only [Act.put, List.setIfInBounds_toArray, List.set_cons_zero, List.set_cons_succ]
  refine wpAnyH_take (i := 11) (v := .bool false) (lit rfl) (by kernel_rfl) (by kernel_rfl) (by kernel_rfl) (fun _ _ _ h => h) (Or.inl ⟨by rfl, ?_⟩) hS3 ?_
  · rintro w6 ⟨s1, s2⟩
    go_simp
  simp only [Act.put, List.setIfInBounds_toArray, List.set_cons_zero, List.set_cons_succ]
  refine wpAnyH_take (i := 12) (v := .bool false) (lit rfl) (by kernel_rfl) (by kernel_rfl) (by kernel_rfl) (fun _ _ _ h => h) (Or.inl ⟨by rfl, ?_⟩) hS3 ?_
  · rintro w6 ⟨s1, s2⟩
    go_simp
  simp only [Act.put, List.setIfInBounds_toArray, List.set_cons_zero, List.set_cons_succ]
  refine wpAnyH_take (i := 13) (v := .int .i64 0) (lit rfl) (by kernel_rfl) (by kernel_rfl) (by kernel_rfl) (fun _ _ _ h => h) (Or.inl ⟨by rfl, ?_⟩) hS3 ?_
  · rintro w6 ⟨s1, s2⟩
    go_simp
  simp only [Act.put, List.setIfInBounds_toArray, List.set_cons_zero, List.set_cons_succ]
  refine wpAnyH_take (i := 14) (v := .int .i64 0) (lit rfl) (by kernel_rfl) (by kernel_rfl) (by kernel_rfl) (fun _ _ _ h => h) (Or.inl ⟨by rfl, ?_⟩) hS3 ?_
  · rintro w6 ⟨s1, s2⟩
    go_simp
  simp only [Act.put, List.setIfInBounds_toArray, List.set_cons_zero, List.set_cons_succ]
  refine wpAnyH_take (i := 15) (v := .bool false) (lit rfl) (by kernel_rfl) (by kernel_rfl) (by kernel_rfl) (fun _ _ _ h => h) (Or.inl ⟨by rfl, ?_⟩) hS3 ?_
  · rintro w6 ⟨s1, s2⟩
    go_simp
  simp only [Act.put, List.setIfInBounds_toArray, List.set_cons_zero, List.set_cons_succ]
  refine wpAnyH_take (i := 16) (v := .bool false) (lit rfl) (by kernel_rfl) (by kernel_rfl) (by kernel_rfl) (fun _ _ _ h => h) (Or.inl ⟨by rfl, ?_⟩) hS3 ?_
  · rintro w6 ⟨s1, s2⟩
    go_simp
  simp only [Act.put, List.setIfInBounds_toArray, List.set_cons_zero, List.set_cons_succ]
  refine wpAnyH_take (i := 17) (v := .bool false) (lit rfl) (by kernel_rfl) (by kernel_rfl) (by kernel_rfl) (fun _ _ _ h => h) (Or.inl ⟨by rfl, ?_⟩) hS3 ?_
  · rintro w6 ⟨s1, s2⟩
    go_simp
  simp only [Act.put, List.setIfInBounds_toArray, List.set_cons_zero, List.set_cons_succ]
  refine wpAnyH_take (i := 18) (v := .pointer (some ⟨w.heap.size, 1, none⟩)) (lit rfl) (by kernel_rfl) (by kernel_rfl) (by kernel_rfl) (fun _ _ _ h => h) (Or.inl ⟨by rfl, ?_⟩) hS3 ?_
  · rintro w6 ⟨s1, s2⟩
    go_simp
  simp only [Act.put, List.setIfInBounds_toArray, List.set_cons_zero, List.set_cons_succ]
  refine wpAnyH_take (i := 19) (v := .int .u64 (txn : Int)) (lit rfl) (by kernel_rfl) (by kernel_rfl) (by kernel_rfl) (fun _ _ _ h => h) (Or.inl ⟨by rfl, ?_⟩) hS3 ?_
  · rintro w6 ⟨s1, s2⟩
    have d1 := s1.cell 1
    go_simp
  simp only [Act.put, List.setIfInBounds_toArray, List.set_cons_zero, List.set_cons_succ]
  refine wpAnyH_take (i := 21) (v := .pointer (some ⟨w.heap.size, 1, none⟩)) (lit rfl) (by kernel_rfl) (by kernel_rfl) (by kernel_rfl) (fun _ _ _ h => h) (Or.inl ⟨by rfl, ?_⟩) hS3 ?_
  · rintro w6 ⟨s1, s2⟩
    go_simp
  simp only [Act.put, List.setIfInBounds_toArray, List.set_cons_zero, List.set_cons_succ]
  refine wpAnyH_take (i := 22) (v := .int .u64 (txn : Int)) (lit rfl) (by kernel_rfl) (by kernel_rfl) (by kernel_rfl) (fun _ _ _ h => h) (Or.inl ⟨by rfl, ?_⟩) hS3 ?_
  · rintro w6 ⟨s1, s2⟩
    have d1 := s1.cell 1
    go_simp
  simp only [Act.put, List.setIfInBounds_toArray, List.set_cons_zero, List.set_cons_succ]
  refine wpAnyH_ready (rs := [20]) (by kernel_rfl) (by simp) ?_
  refine AllReadyH.cons (lit rfl) (fun K5 hK5 => ?_) AllReadyH.nil
  go_simp
  go_at_call 14
  (with_reducible refine (HSL.out _).mono ?_)
  rintro y4 u4 ⟨rfl, rfl⟩
  have hS4 := hS3
  refine hK5.out _ _ hS4 (fun _ => ?_)
  clear hK5 K5
  refine wpAnyH_ready (rs := [23]) (by kernel_rfl) (by simp) ?_
  refine AllReadyH.cons (lit rfl) (fun K5 hK5 => ?_) AllReadyH.nil
  go_simp
  go_at_call 15
  (with_reducible refine (HSR.out _).mono ?_)
  rintro y5 u5 ⟨rfl, rfl⟩
  have hS5 := hS4
  refine hK5.out _ _ hS5 (fun _ => ?_)
  clear hK5 K5
  refine wpAnyH_take (i := 24) (v := .bool false) (lit rfl) (by kernel_rfl) (by kernel_rfl) (by kernel_rfl) (fun _ _ _ h => h) (Or.inl ⟨by rfl, ?_⟩) hS5 ?_
  · rintro w6 ⟨s1, s2⟩
    go_simp
  simp only [Act.put, List.setIfInBounds_toArray, List.set_cons_zero, List.set_cons_succ]
  refine wpAnyH_take (i := 25) (v := .bool false) (lit rfl) (by kernel_rfl) (by kernel_rfl) (by kernel_rfl) (fun _ _ _ h => h) (Or.inl ⟨by rfl, ?_⟩) hS5 ?_
  · rintro w6 ⟨s1, s2⟩
    go_simp
  simp only [Act.put, List.setIfInBounds_toArray, List.set_cons_zero, List.set_cons_succ]
  refine wpAnyH_done (by kernel_rfl) ?_ _
  refine hK _ _ ?_
  have BE := Lib.hid BD
  have ME := Lib.hid hS5.1
  have RE := Lib.hid hS5.2
  clear BD hS hS1 hS2 hS3 hS4 hS5
  go_wp2_with (go_at_call 16; (with_reducible refine (HG.out _ _ _ (HT.out.below BE.out) RE.out).mono ?_); rintro q7 w7 ⟨rfl, b7⟩; obtain ⟨w8, hw8⟩ : ∃ x, w7.alloc (.cells #[.int .i64 label, .int .u64 (txn : Int), .int .i64 root, .int .i64 list, .int .i64 high] 24) = x := ⟨_, rfl⟩; have b8 : Below w7.heap.size w7 w8 := hw8 ▸ (Below.refl _ w7).alloc (Nat.le_refl _) _; have z8 := hw8 ▸ Has.made w7 24 #[.int .i64 label, .int .u64 (txn : Int), .int .i64 root, .int .i64 list, .int .i64 high]; have bc := below_step b7 b8; have B8 := Lib.hid (below_step BE.out bc); have y8 := ME.out.below bc ME.out.lt; have c80 := y8.cell 0; have c81 := y8.cell 1; have c82 := y8.cell 2; have c83 := y8.cell 3; have c84 := y8.cell 4; have d80 := z8.cell 0; have d81 := z8.cell 1; have d82 := z8.cell 2; have d83 := z8.cell 3; have d84 := z8.cell 4; clear b7 b8 bc y8 z8)
  go_ret
  exact ⟨rfl, B8.out⟩
set_option maxRecDepth 100000 in
set_option maxHeartbeats 8000000 in
theorem walkMePut_no (m : Mt) (w : World) (ht : Tab w) (tm : m.txn < 18446744073709551616) (hc : ¬ checkM m) :
    Calls Tryd.prog 3 #[mtV m] w fun e w' => e = .returned (.bool true) ∧ Below w.heap.size w w' := by
  have hmx : Tryd.prog.follows .mixedOrders = true := by kernel_rfl
  have hz := zero_meta
  obtain ⟨W, hW, hb, hm⟩ := mbox w m
  have HA := Lib.hid (awake10_any W (ht.below hb))
  have HCM := Lib.hid (fun w1 => mCheck_any m w1)
  have HCR := Lib.hid (fun w1 => r10Check_any m w1)
  rw [decide_eq_false hc] at HCM HCR
  have HPL := Lib.hid (fun w1 => plain10_any m w1)
  have HSL := Lib.hid (fun w1 => mSlot_any m.txn w1 tm)
  have HSR := Lib.hid (fun w1 => r10Slot_any m.txn w1 tm)
  have HT := Lib.hid ht
  have HPM := Lib.hid (fun w1 => mPut_no m w1 hc)
  have HPR := Lib.hid (fun w1 => r10Put_no m w1 hc)
  have HG := Lib.hid (fun w1 ht => mGet_any none 0 0 [] w1 ht (nil_arg w1))
  rw [show getM [] = (mt0, 1) from rfl] at HG
  unfold PackNo10 at HPM
  unfold RPackEnd at HPR
  rw [show (⟨([] : List UInt8).toArray⟩ : ByteArray) = ⟨#[]⟩ from rfl] at HPR
  unfold GetM10 at HG
  rw [show mtV ((mt0, (1 : Int)) : Mt × Int).1 = .agg #[.int .i64 0, .int .u64 0, .int .i64 0, .int .i64 0, .int .i64 0] from rfl] at HG
  simp only at HG
  obtain ⟨label, txn, root, list, high⟩ := m
  simp only [mtV, mtC] at hW hm HCM HCR HPL HSL HSR HPM HPR HG ⊢
  have HB := Lib.hid hb
  have HM := Lib.hid hm
  clear hb hm ht hc tm
  go_enter Tryd.func3, Tryd.ntmps3
  go_wp2_with (first
    | (go_at_call 8; (try rw [hW]); (with_reducible refine HA.out.mono ?_); rintro q0 w1 ⟨rfl, b1⟩; have B1 := Lib.hid (below_step HB.out b1); have y1 := HM.out.below b1 HM.out.lt; have c10 := y1.cell 0; have c11 := y1.cell 1; have c12 := y1.cell 2; have c13 := y1.cell 3; have c14 := y1.cell 4; have M1 := Lib.hid y1; clear b1 y1)
    | (go_at_call 9; (with_reducible refine (HPM.out _).mono ?_); rintro q2 w2 ⟨rfl, b2⟩; have B2 := Lib.hid (below_step B1.out b2); have y2 := M1.out.below b2 M1.out.lt; have c20 := y2.cell 0; have c21 := y2.cell 1; have c22 := y2.cell 2; have c23 := y2.cell 3; have c24 := y2.cell 4; have M2 := Lib.hid y2; clear b2 y2)
    | (go_at_call 11; (with_reducible refine (HPL.out _).mono ?_); rintro q3 w3 ⟨rfl, b3⟩; have B3 := Lib.hid (below_step B2.out b3); have M3 := Lib.hid (M2.out.below b3 M2.out.lt); clear b3)
    | (go_at_call 10; (with_reducible refine (HPR.out _).mono ?_); rintro q4 w4 ⟨rfl, b4⟩; have B4 := Lib.hid (below_step B3.out b4); have M4 := Lib.hid (M3.out.below b4 M3.out.lt); clear b4))
  have hS : (fun w' => Has w' w.heap.size 24 #[.int .i64 label, .int .u64 (txn : Int), .int .i64 root, .int .i64 list, .int .i64 high] ∧ Arg w' none 0 0 []) w4.drew := ⟨M4.out, nil_arg _⟩
  have BD : Below w.heap.size w w4.drew := B4.out.drew
  rename_i K hK
  refine wp_held (fun w' => Has w' w.heap.size 24 #[.int .i64 label, .int .u64 (txn : Int), .int .i64 root, .int .i64 list, .int .i64 high] ∧ Arg w' none 0 0 []) K hmx ?_ (fun _ _ h => h)
  refine wpAnyH_take (i := 0) (v := .agg #[.int .i64 label, .int .u64 (txn : Int), .int .i64 root, .int .i64 list, .int .i64 high]) (lit rfl) (by kernel_rfl) (by kernel_rfl) (by kernel_rfl) (fun _ _ _ h => h) (Or.inl ⟨by rfl, ?_⟩) hS ?_
  · rintro w6 ⟨s1, s2⟩
    have d0 := s1.cell 0
    have d1 := s1.cell 1
    have d2 := s1.cell 2
    have d3 := s1.cell 3
    have d4 := s1.cell 4
    go_simp
  simp only [Act.put, List.setIfInBounds_toArray, List.set_cons_zero, List.set_cons_succ]
  refine wpAnyH_take (i := 2) (v := .agg #[.int .i64 label, .int .u64 (txn : Int), .int .i64 root, .int .i64 list, .int .i64 high]) (lit rfl) (by kernel_rfl) (by kernel_rfl) (by kernel_rfl) (fun _ _ _ h => h) (Or.inl ⟨by rfl, ?_⟩) hS ?_
  · rintro w6 ⟨s1, s2⟩
    have d0 := s1.cell 0
    have d1 := s1.cell 1
    have d2 := s1.cell 2
    have d3 := s1.cell 3
    have d4 := s1.cell 4
    go_simp
  simp only [Act.put, List.setIfInBounds_toArray, List.set_cons_zero, List.set_cons_succ]
  refine wpAnyH_ready (rs := [1]) (by kernel_rfl) (by simp) ?_
  refine AllReadyH.cons (lit rfl) (fun K5 hK5 => ?_) AllReadyH.nil
  refine step_open rfl ?_
  go_simp
  go_at_call 12
  (with_reducible refine (HCM.out _).mono ?_)
  rintro y1 u1 ⟨rfl, b1⟩
  have hS1 : (fun w' => Has w' w.heap.size 24 #[.int .i64 label, .int .u64 (txn : Int), .int .i64 root, .int .i64 list, .int .i64 high] ∧ Arg w' none 0 0 []) u1 := ⟨hS.1.below b1 hS.1.lt, hS.2.below b1⟩
  replace BD := below_step BD b1
  clear b1
  refine hK5.out _ _ hS1 (fun _ => ?_)
  clear hK5 K5
  refine wpAnyH_ready (rs := [3]) (by kernel_rfl) (by simp) ?_
  refine AllReadyH.cons (lit rfl) (fun K5 hK5 => ?_) AllReadyH.nil
  refine step_open rfl ?_
  go_simp
  go_at_call 11
  (with_reducible refine (HPL.out _).mono ?_)
  rintro y2 u2 ⟨rfl, b1⟩
  have hS2 : (fun w' => Has w' w.heap.size 24 #[.int .i64 label, .int .u64 (txn : Int), .int .i64 root, .int .i64 list, .int .i64 high] ∧ Arg w' none 0 0 []) u2 := ⟨hS1.1.below b1 hS1.1.lt, hS1.2.below b1⟩
  replace BD := below_step BD b1
  clear b1
  refine hK5.out _ _ hS2 (fun _ => ?_)
  clear hK5 K5
  refine wpAnyH_ready (rs := [4]) (by kernel_rfl) (by simp) ?_
  refine AllReadyH.cons (lit rfl) (fun K5 hK5 => ?_) AllReadyH.nil
  refine step_open rfl ?_
  go_simp
  go_at_call 13
  (with_reducible refine (HCR.out _).mono ?_)
  rintro y3 u3 ⟨rfl, b1⟩
  have hS3 : (fun w' => Has w' w.heap.size 24 #[.int .i64 label, .int .u64 (txn : Int), .int .i64 root, .int .i64 list, .int .i64 high] ∧ Arg w' none 0 0 []) u3 := ⟨hS2.1.below b1 hS2.1.lt, hS2.2.below b1⟩
  replace BD := below_step BD b1
  clear b1
  refine hK5.out _ _ hS3 (fun _ => ?_)
  clear hK5 K5
  refine wpAnyH_take (i := 5) (v := .bool false) (lit rfl) (by kernel_rfl) (by kernel_rfl) (by kernel_rfl) (fun _ _ _ h => h) (Or.inl ⟨by rfl, ?_⟩) hS3 ?_
  · rintro w6 ⟨s1, s2⟩
    go_simp
  simp only [Act.put, List.setIfInBounds_toArray, List.set_cons_zero, List.set_cons_succ]
  refine wpAnyH_take (i := 6) (v := .bool false) (lit rfl) (by kernel_rfl) (by kernel_rfl) (by kernel_rfl) (fun _ _ _ h => h) (Or.inl ⟨by rfl, ?_⟩) hS3 ?_
  · rintro w6 ⟨s1, s2⟩
    go_simp
  simp only [Act.put, List.setIfInBounds_toArray, List.set_cons_zero, List.set_cons_succ]
  refine wpAnyH_take (i := 7) (v := .slice none 0 0) (lit rfl) (by kernel_rfl) (by kernel_rfl) (by kernel_rfl) (fun _ _ _ h => h) (Or.inl ⟨by rfl, ?_⟩) hS3 ?_
  · rintro w6 ⟨s1, s2⟩
    go_simp
  simp only [Act.put, List.setIfInBounds_toArray, List.set_cons_zero, List.set_cons_succ]
  refine wpAnyH_take (i := 8) (v := .string ⟨#[]⟩) (lit rfl) (by kernel_rfl) (by kernel_rfl) (by kernel_rfl) (fun _ _ _ h => h) (Or.inl ⟨by rfl, ?_⟩) hS3 ?_
  · rintro w6 ⟨s1, s2⟩
    have hcv := conv10 s2
    rw [show (⟨([] : List UInt8).toArray⟩ : ByteArray) = ⟨#[]⟩ from rfl] at hcv
    go_simp
  simp only [Act.put, List.setIfInBounds_toArray, List.set_cons_zero, List.set_cons_succ]
  refine wpAnyH_take (i := 9) (v := .string ⟨#[]⟩) (lit rfl) (by kernel_rfl) (by kernel_rfl) (by kernel_rfl) (fun _ _ _ h => h) (Or.inl ⟨by rfl, ?_⟩) hS3 ?_
  · rintro w6 ⟨s1, s2⟩
    go_simp
  simp only [Act.put, List.setIfInBounds_toArray, List.set_cons_zero, List.set_cons_succ]
  refine wpAnyH_take (i := 10) (v := .bool false) (lit rfl) (by kernel_rfl) (by kernel_rfl) (by kernel_rfl) (fun _ _ _ h => h) (Or.inl ⟨by rfl, ?_⟩) hS3 ?_
  · rintro w6 ⟨s1, s2⟩
    go_simp
  simp only [Act.put, List.setIfInBounds_toArray, List.set_cons_zero, List.set_cons_succ]
  refine wpAnyH_take (i := 11) (v := .bool false) (lit rfl) (by kernel_rfl) (by kernel_rfl) (by kernel_rfl) (fun _ _ _ h => h) (Or.inl ⟨by rfl, ?_⟩) hS3 ?_
  · rintro w6 ⟨s1, s2⟩
    go_simp
  simp only [Act.put, List.setIfInBounds_toArray, List.set_cons_zero, List.set_cons_succ]
  refine wpAnyH_take (i := 12) (v := .bool false) (lit rfl) (by kernel_rfl) (by kernel_rfl) (by kernel_rfl) (fun _ _ _ h => h) (Or.inl ⟨by rfl, ?_⟩) hS3 ?_
  · rintro w6 ⟨s1, s2⟩
    go_simp
  simp only [Act.put, List.setIfInBounds_toArray, List.set_cons_zero, List.set_cons_succ]
  refine wpAnyH_take (i := 13) (v := .int .i64 1) (lit rfl) (by kernel_rfl) (by kernel_rfl) (by kernel_rfl) (fun _ _ _ h => h) (Or.inl ⟨by rfl, ?_⟩) hS3 ?_
  · rintro w6 ⟨s1, s2⟩
    go_simp
  simp only [Act.put, List.setIfInBounds_toArray, List.set_cons_zero, List.set_cons_succ]
  refine wpAnyH_take (i := 14) (v := .int .i64 1) (lit rfl) (by kernel_rfl) (by kernel_rfl) (by kernel_rfl) (fun _ _ _ h => h) (Or.inl ⟨by rfl, ?_⟩) hS3 ?_
  · rintro w6 ⟨s1, s2⟩
    go_simp
  simp only [Act.put, List.setIfInBounds_toArray, List.set_cons_zero, List.set_cons_succ]
  refine wpAnyH_take (i := 15) (v := .bool false) (lit rfl) (by kernel_rfl) (by kernel_rfl) (by kernel_rfl) (fun _ _ _ h => h) (Or.inl ⟨by rfl, ?_⟩) hS3 ?_
  · rintro w6 ⟨s1, s2⟩
    go_simp
  simp only [Act.put, List.setIfInBounds_toArray, List.set_cons_zero, List.set_cons_succ]
  refine wpAnyH_take (i := 16) (v := .bool false) (lit rfl) (by kernel_rfl) (by kernel_rfl) (by kernel_rfl) (fun _ _ _ h => h) (Or.inl ⟨by rfl, ?_⟩) hS3 ?_
  · rintro w6 ⟨s1, s2⟩
    go_simp
  simp only [Act.put, List.setIfInBounds_toArray, List.set_cons_zero, List.set_cons_succ]
  refine wpAnyH_take (i := 17) (v := .bool false) (lit rfl) (by kernel_rfl) (by kernel_rfl) (by kernel_rfl) (fun _ _ _ h => h) (Or.inl ⟨by rfl, ?_⟩) hS3 ?_
  · rintro w6 ⟨s1, s2⟩
    go_simp
  simp only [Act.put, List.setIfInBounds_toArray, List.set_cons_zero, List.set_cons_succ]
  refine wpAnyH_take (i := 18) (v := .pointer (some ⟨w.heap.size, 1, none⟩)) (lit rfl) (by kernel_rfl) (by kernel_rfl) (by kernel_rfl) (fun _ _ _ h => h) (Or.inl ⟨by rfl, ?_⟩) hS3 ?_
  · rintro w6 ⟨s1, s2⟩
    go_simp
  simp only [Act.put, List.setIfInBounds_toArray, List.set_cons_zero, List.set_cons_succ]
  refine wpAnyH_take (i := 19) (v := .int .u64 (txn : Int)) (lit rfl) (by kernel_rfl) (by kernel_rfl) (by kernel_rfl) (fun _ _ _ h => h) (Or.inl ⟨by rfl, ?_⟩) hS3 ?_
  · rintro w6 ⟨s1, s2⟩
    have d1 := s1.cell 1
    go_simp
  simp only [Act.put, List.setIfInBounds_toArray, List.set_cons_zero, List.set_cons_succ]
  refine wpAnyH_take (i := 21) (v := .pointer (some ⟨w.heap.size, 1, none⟩)) (lit rfl) (by kernel_rfl) (by kernel_rfl) (by kernel_rfl) (fun _ _ _ h => h) (Or.inl ⟨by rfl, ?_⟩) hS3 ?_
  · rintro w6 ⟨s1, s2⟩
    go_simp
  simp only [Act.put, List.setIfInBounds_toArray, List.set_cons_zero, List.set_cons_succ]
  refine wpAnyH_take (i := 22) (v := .int .u64 (txn : Int)) (lit rfl) (by kernel_rfl) (by kernel_rfl) (by kernel_rfl) (fun _ _ _ h => h) (Or.inl ⟨by rfl, ?_⟩) hS3 ?_
  · rintro w6 ⟨s1, s2⟩
    have d1 := s1.cell 1
    go_simp
  simp only [Act.put, List.setIfInBounds_toArray, List.set_cons_zero, List.set_cons_succ]
  refine wpAnyH_ready (rs := [20]) (by kernel_rfl) (by simp) ?_
  refine AllReadyH.cons (lit rfl) (fun K5 hK5 => ?_) AllReadyH.nil
  go_simp
  go_at_call 14
  (with_reducible refine (HSL.out _).mono ?_)
  rintro y4 u4 ⟨rfl, rfl⟩
  have hS4 := hS3
  refine hK5.out _ _ hS4 (fun _ => ?_)
  clear hK5 K5
  refine wpAnyH_ready (rs := [23]) (by kernel_rfl) (by simp) ?_
  refine AllReadyH.cons (lit rfl) (fun K5 hK5 => ?_) AllReadyH.nil
  go_simp
  go_at_call 15
  (with_reducible refine (HSR.out _).mono ?_)
  rintro y5 u5 ⟨rfl, rfl⟩
  have hS5 := hS4
  refine hK5.out _ _ hS5 (fun _ => ?_)
  clear hK5 K5
  refine wpAnyH_take (i := 24) (v := .bool false) (lit rfl) (by kernel_rfl) (by kernel_rfl) (by kernel_rfl) (fun _ _ _ h => h) (Or.inl ⟨by rfl, ?_⟩) hS5 ?_
  · rintro w6 ⟨s1, s2⟩
    go_simp
  simp only [Act.put, List.setIfInBounds_toArray, List.set_cons_zero, List.set_cons_succ]
  refine wpAnyH_take (i := 25) (v := .bool false) (lit rfl) (by kernel_rfl) (by kernel_rfl) (by kernel_rfl) (fun _ _ _ h => h) (Or.inl ⟨by rfl, ?_⟩) hS5 ?_
  · rintro w6 ⟨s1, s2⟩
    go_simp
  simp only [Act.put, List.setIfInBounds_toArray, List.set_cons_zero, List.set_cons_succ]
  refine wpAnyH_done (by kernel_rfl) ?_ _
  refine hK _ _ ?_
  have BE := Lib.hid BD
  have ME := Lib.hid hS5.1
  clear BD hS hS1 hS2 hS3 hS4 hS5
  go_wp2_with (go_at_call 16; (with_reducible refine (HG.out _ (HT.out.below BE.out)).mono ?_); rintro q7 w7 ⟨rfl, b7⟩; obtain ⟨w8, hw8⟩ : ∃ x, w7.alloc (.cells #[.int .i64 0, .int .u64 0, .int .i64 0, .int .i64 0, .int .i64 0] 24) = x := ⟨_, rfl⟩; have b8 : Below w7.heap.size w7 w8 := hw8 ▸ (Below.refl _ w7).alloc (Nat.le_refl _) _; have z8 := hw8 ▸ Has.made w7 24 #[.int .i64 0, .int .u64 0, .int .i64 0, .int .i64 0, .int .i64 0]; have bc := below_step b7 b8; have B8 := Lib.hid (below_step BE.out bc); have y8 := ME.out.below bc ME.out.lt; have c80 := y8.cell 0; have c81 := y8.cell 1; have c82 := y8.cell 2; have c83 := y8.cell 3; have c84 := y8.cell 4; have d80 := z8.cell 0; have d81 := z8.cell 1; have d82 := z8.cell 2; have d83 := z8.cell 3; have d84 := z8.cell 4; have HW8 := Lib.hid hw8; clear b7 b8 bc y8 z8 hw8)
  go_ret
  exact ⟨rfl, by rw [HW8.out]; exact B8.out⟩
theorem walkMePut (m : Mt) (w : World) (ht : Tab w) (tm : m.txn < 18446744073709551616) :
    Calls Tryd.prog 3 #[mtV m] w fun e w' => e = .returned (.bool true) ∧ Below w.heap.size w w' := by
  by_cases hc : checkM m
  · exact walkMePut_yes m w ht tm hc
  · exact walkMePut_no m w ht tm hc
end Go.Proofs.YtpikcodnonodlaaDoor
end

section
namespace Go.Proofs.YtpikcodnonodlaaDoor
open Go.ChangeShapes Go.WideShapes Go.ChangeAt Go.RowKit Go.Deep
set_option linter.unusedVariables false

set_option maxRecDepth 100000 in
set_option maxHeartbeats 1000000 in
theorem arg_meta {H : Type} {enc : TypeId × Value → H} {W : World} {v : Value} {d : DataW H} {p : List MemPlace} (hv : ∃ cs, v = .agg cs ∧ cs.size = Tryd.prog.cellsOf 24) (h : DataW.Trod enc Tryd.prog W 0 (fun _ => true) true 24 v d p) :
    ∃ m : Mt, v = mtV m ∧ m.txn < 18446744073709551616 := by
  obtain ⟨cs, rfl, hcs⟩ := hv
  have cn : Tryd.prog.cellsOf 24 = 5 := by kernel_rfl
  have c1 : Tryd.prog.cellsOf 3 = 1 := by kernel_rfl
  have c2 : Tryd.prog.cellsOf 22 = 1 := by kernel_rfl
  obtain ⟨fuel, hf⟩ := h
  obtain ⟨cl⟩ := cs
  rw [cn] at hcs
  simp only [Value.cells, List.size_toArray] at hf hcs
  obtain ⟨xs, k, hk, hxy, _, hxl, hg⟩ := DataW.trod_struct Tryd.underlying24 hf
  match xs, hxl, cl, hcs with
  | [y0, y1, y2, y3, y4], _, [v0, v1, v2, v3, v4], _ =>
    have g0 := hg 0 _ rfl
    have g1 := hg 1 _ rfl
    have g2 := hg 2 _ rfl
    have g3 := hg 3 _ rfl
    have g4 := hg 4 _ rfl
    simp [c1, c2] at g0 g1 g2 g3 g4
    obtain ⟨k0, hk0, _, _⟩ := DataW.trod_int Tryd.underlying3 g0
    obtain ⟨k1, hk1, _, w1⟩ := DataW.trod_int Tryd.underlying22 g1
    obtain ⟨k2, hk2, _, _⟩ := DataW.trod_int Tryd.underlying3 g2
    obtain ⟨k3, hk3, _, _⟩ := DataW.trod_int Tryd.underlying3 g3
    obtain ⟨k4, hk4, _, _⟩ := DataW.trod_int Tryd.underlying3 g4
    simp at hk0 hk1 hk2 hk3 hk4
    subst hk0 hk1 hk2 hk3 hk4
    have hb := u64_bounds w1
    obtain ⟨x, rfl⟩ : ∃ x : Nat, k1 = (x : Int) := ⟨k1.toNat, by omega⟩
    exact ⟨⟨k0, x, k2, k3, k4⟩, rfl, by simp only; omega⟩

end Go.Proofs.YtpikcodnonodlaaDoor
end
