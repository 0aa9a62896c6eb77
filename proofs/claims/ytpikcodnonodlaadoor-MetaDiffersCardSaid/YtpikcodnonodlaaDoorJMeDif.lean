import Derived.Test.YtpikcodnonodlaaDoorJ11
/- Of a claim's texts, joined: MeDif. No statement but in the last. -/
namespace Go.Proofs.YtpikcodnonodlaaDoor
open Go.RowKit
set_option linter.unusedVariables false

set_option maxRecDepth 100000 in
set_option maxHeartbeats 8000000 in
theorem walkMeDif_no (m n : Mt) (w : World) (ht : Tab w) (hc : ¬ checkM m) :
    Calls Tryd.prog 7 #[mtV m, mtV n] w fun e w' => e = .returned (.bool true) ∧ Below w.heap.size w w' := by
  have hmx : Tryd.prog.follows .mixedOrders = true := by kernel_rfl
  obtain ⟨W, hW, hb, hm, hn⟩ := mbox2 w m n
  have HA := Lib.hid (awake10_any W (ht.below hb))
  have HCM := Lib.hid (fun w1 => mCheck_any m w1)
  have HCN := Lib.hid (fun w1 => mCheck_any n w1)
  rw [decide_eq_false hc] at HCM
  obtain ⟨label, txn, root, list, high⟩ := m
  obtain ⟨label', txn', root', list', high'⟩ := n
  simp only [mtV, mtC] at hW hm hn HCM HCN ⊢
  have HB := Lib.hid hb
  have HM := Lib.hid hm
  have HN := Lib.hid hn
  clear hb hm hn ht hc
  go_enter Tryd.func7, Tryd.ntmps7
  go_wp2_with (first
    | (go_at_call 8; (try rw [hW]); (with_reducible refine HA.out.mono ?_); rintro q0 w1 ⟨rfl, b1⟩; have B1 := Lib.hid (below_step HB.out b1); have y1 := HM.out.below b1 HM.out.lt; have z1 := HN.out.below b1 HN.out.lt; have c10 := y1.cell 0; have c11 := y1.cell 1; have c12 := y1.cell 2; have c13 := y1.cell 3; have c14 := y1.cell 4; have d10 := z1.cell 0; have d11 := z1.cell 1; have d12 := z1.cell 2; have d13 := z1.cell 3; have d14 := z1.cell 4; have M1 := Lib.hid y1; have N1 := Lib.hid z1; clear b1 y1 z1)
    | (go_at_call 12; (with_reducible refine (HCM.out _).mono ?_); rintro q2 w2 ⟨rfl, b2⟩; have B2 := Lib.hid (below_step B1.out b2); have y2 := M1.out.below b2 M1.out.lt; have z2 := N1.out.below b2 N1.out.lt; have c20 := y2.cell 0; have c21 := y2.cell 1; have c22 := y2.cell 2; have c23 := y2.cell 3; have c24 := y2.cell 4; have d20 := z2.cell 0; have d21 := z2.cell 1; have d22 := z2.cell 2; have d23 := z2.cell 3; have d24 := z2.cell 4; have M2 := Lib.hid y2; have N2 := Lib.hid z2; clear b2 y2 z2))
  go_ret
  exact ⟨rfl, B2.out⟩
set_option maxRecDepth 100000 in
set_option maxHeartbeats 8000000 in
theorem walkMeDif_not (m n : Mt) (w : World) (ht : Tab w) (hc : checkM m) (hd : ¬ checkM n) :
    Calls Tryd.prog 7 #[mtV m, mtV n] w fun e w' => e = .returned (.bool true) ∧ Below w.heap.size w w' := by
  have hmx : Tryd.prog.follows .mixedOrders = true := by kernel_rfl
  obtain ⟨W, hW, hb, hm, hn⟩ := mbox2 w m n
  have HA := Lib.hid (awake10_any W (ht.below hb))
  have HCM := Lib.hid (fun w1 => mCheck_any m w1)
  have HCN := Lib.hid (fun w1 => mCheck_any n w1)
  rw [decide_eq_true hc] at HCM
  rw [decide_eq_false hd] at HCN
  obtain ⟨label, txn, root, list, high⟩ := m
  obtain ⟨label', txn', root', list', high'⟩ := n
  simp only [mtV, mtC] at hW hm hn HCM HCN ⊢
  have HB := Lib.hid hb
  have HM := Lib.hid hm
  have HN := Lib.hid hn
  clear hb hm hn ht hc hd
  go_enter Tryd.func7, Tryd.ntmps7
  go_wp2_with (first
    | (go_at_call 8; (try rw [hW]); (with_reducible refine HA.out.mono ?_); rintro q0 w1 ⟨rfl, b1⟩; have B1 := Lib.hid (below_step HB.out b1); have y1 := HM.out.below b1 HM.out.lt; have z1 := HN.out.below b1 HN.out.lt; have c10 := y1.cell 0; have c11 := y1.cell 1; have c12 := y1.cell 2; have c13 := y1.cell 3; have c14 := y1.cell 4; have d10 := z1.cell 0; have d11 := z1.cell 1; have d12 := z1.cell 2; have d13 := z1.cell 3; have d14 := z1.cell 4; have M1 := Lib.hid y1; have N1 := Lib.hid z1; clear b1 y1 z1)
    | (go_at_call 12; have _ := B2; (with_reducible refine (HCN.out _).mono ?_); rintro q3 w3 ⟨rfl, b3⟩; have B3 := Lib.hid (below_step B2.out b3); have y3 := M2.out.below b3 M2.out.lt; have z3 := N2.out.below b3 N2.out.lt; have c30 := y3.cell 0; have c31 := y3.cell 1; have c32 := y3.cell 2; have c33 := y3.cell 3; have c34 := y3.cell 4; have d30 := z3.cell 0; have d31 := z3.cell 1; have d32 := z3.cell 2; have d33 := z3.cell 3; have d34 := z3.cell 4; have M3 := Lib.hid y3; have N3 := Lib.hid z3; clear b3 y3 z3)
    | (go_at_call 12; (with_reducible refine (HCM.out _).mono ?_); rintro q2 w2 ⟨rfl, b2⟩; have B2 := Lib.hid (below_step B1.out b2); have y2 := M1.out.below b2 M1.out.lt; have z2 := N1.out.below b2 N1.out.lt; have c20 := y2.cell 0; have c21 := y2.cell 1; have c22 := y2.cell 2; have c23 := y2.cell 3; have c24 := y2.cell 4; have d20 := z2.cell 0; have d21 := z2.cell 1; have d22 := z2.cell 2; have d23 := z2.cell 3; have d24 := z2.cell 4; have M2 := Lib.hid y2; have N2 := Lib.hid z2; clear b2 y2 z2))
  go_ret
  exact ⟨rfl, B3.out⟩
set_option maxRecDepth 100000 in
set_option maxHeartbeats 8000000 in
theorem walkMeDif_yes (m n : Mt) (w : World) (ht : Tab w) (hc : checkM m) (hd : checkM n) (tm : m.txn < 18446744073709551616) (tn : n.txn < 18446744073709551616) :
    Calls Tryd.prog 7 #[mtV m, mtV n] w fun e w' => e = .returned (.bool true) ∧ Below w.heap.size w w' := by
  have hmx : Tryd.prog.follows .mixedOrders = true := by kernel_rfl
  obtain ⟨W, hW, hb, hm, hn⟩ := mbox2 w m n
  have HA := Lib.hid (awake10_any W (ht.below hb))
  have HCM := Lib.hid (fun w1 => mCheck_any m w1)
  have HCN := Lib.hid (fun w1 => mCheck_any n w1)
  rw [decide_eq_true hc] at HCM
  rw [decide_eq_true hd] at HCN
  have HPM := Lib.hid (fun w1 h => mPut_page m w1 h hc tm)
  have HPN := Lib.hid (fun w1 h => mPut_page n w1 h hd tn)
  have HT := Lib.hid ht
  have hq := text_eq (pageM m) (pageM n)
  have hq2 : decide (pageM m = pageM n) = eqM m n := by
    rw [Bool.eq_iff_iff, decide_eq_true_iff, eqM_iff]
    exact pageM_inj hc hd tm tn
  rw [hq2] at hq
  have hE := meta_eql m n
  generalize eqM m n = dq at hq hE
  generalize pageM m = pm at HPM hq
  generalize pageM n = pn at HPN hq
  unfold PutEnd10 at HPM HPN
  obtain ⟨sm, hsm⟩ : ∃ sm : ByteArray, (⟨pm.toArray⟩ : ByteArray) = sm := ⟨_, rfl⟩
  obtain ⟨sn, hsn⟩ : ∃ sn : ByteArray, (⟨pn.toArray⟩ : ByteArray) = sn := ⟨_, rfl⟩
  rw [hsm, hsn] at hq
  have HSM := Lib.hid hsm
  have HSN := Lib.hid hsn
  obtain ⟨label, txn, root, list, high⟩ := m
  obtain ⟨label', txn', root', list', high'⟩ := n
  simp only [mtV, mtC] at hW hm hn HCM HCN HPM HPN hE ⊢
  have HB := Lib.hid hb
  have HM := Lib.hid hm
  have HN := Lib.hid hn
  clear hb hm hn ht hc hd tm tn hq2 hsm hsn
  go_enter Tryd.func7, Tryd.ntmps7
  go_wp2_with (first
    | (go_at_call 8; (try rw [hW]); (with_reducible refine HA.out.mono ?_); rintro q0 w1 ⟨rfl, b1⟩; have B1 := Lib.hid (below_step HB.out b1); have y1 := HM.out.below b1 HM.out.lt; have z1 := HN.out.below b1 HN.out.lt; have c10 := y1.cell 0; have c11 := y1.cell 1; have c12 := y1.cell 2; have c13 := y1.cell 3; have c14 := y1.cell 4; have d10 := z1.cell 0; have d11 := z1.cell 1; have d12 := z1.cell 2; have d13 := z1.cell 3; have d14 := z1.cell 4; have M1 := Lib.hid y1; have N1 := Lib.hid z1; clear b1 y1 z1)
    | (go_at_call 12; have _ := B2; (with_reducible refine (HCN.out _).mono ?_); rintro q3 w3 ⟨rfl, b3⟩; have B3 := Lib.hid (below_step B2.out b3); have y3 := M2.out.below b3 M2.out.lt; have z3 := N2.out.below b3 N2.out.lt; have c30 := y3.cell 0; have c31 := y3.cell 1; have c32 := y3.cell 2; have c33 := y3.cell 3; have c34 := y3.cell 4; have d30 := z3.cell 0; have d31 := z3.cell 1; have d32 := z3.cell 2; have d33 := z3.cell 3; have d34 := z3.cell 4; have M3 := Lib.hid y3; have N3 := Lib.hid z3; clear b3 y3 z3)
    | (go_at_call 12; (with_reducible refine (HCM.out _).mono ?_); rintro q2 w2 ⟨rfl, b2⟩; have B2 := Lib.hid (below_step B1.out b2); have y2 := M1.out.below b2 M1.out.lt; have z2 := N1.out.below b2 N1.out.lt; have c20 := y2.cell 0; have c21 := y2.cell 1; have c22 := y2.cell 2; have c23 := y2.cell 3; have c24 := y2.cell 4; have d20 := z2.cell 0; have d21 := z2.cell 1; have d22 := z2.cell 2; have d23 := z2.cell 3; have d24 := z2.cell 4; have M2 := Lib.hid y2; have N2 := Lib.hid z2; clear b2 y2 z2)
    | (go_at_call 9; (with_reducible refine (HPN.out _ (HT.out.below B4.out)).mono ?_); rintro q5 w5 ⟨A2, c2, rfl, ra, rb, b5⟩; have RA5 := Lib.hid (RA4.out.below b5); have RB5 := Lib.hid ra; have B5 := Lib.hid (below_step B4.out b5); have M5 := Lib.hid (M4.out.below b5 M4.out.lt); have N5 := Lib.hid (N4.out.below b5 N4.out.lt); clear ra rb b5)
    | (go_at_call 9; (with_reducible refine (HPM.out _ (HT.out.below B3.out)).mono ?_); rintro q4 w4 ⟨A1, c1, rfl, ra, rb, b4⟩; have RA4 := Lib.hid ra; have B4 := Lib.hid (below_step B3.out b4); have y4 := M3.out.below b4 M3.out.lt; have z4 := N3.out.below b4 N3.out.lt; have c40 := y4.cell 0; have c41 := y4.cell 1; have c42 := y4.cell 2; have c43 := y4.cell 3; have c44 := y4.cell 4; have d40 := z4.cell 0; have d41 := z4.cell 1; have d42 := z4.cell 2; have d43 := z4.cell 3; have d44 := z4.cell 4; have M4 := Lib.hid y4; have N4 := Lib.hid z4; clear ra rb b4 y4 z4))
  have hS : (fun w' => Has w' w.heap.size 24 #[.int .i64 label, .int .u64 (txn : Int), .int .i64 root, .int .i64 list, .int .i64 high] ∧ Has w' (w.heap.size + 1) 24 #[.int .i64 label', .int .u64 (txn' : Int), .int .i64 root', .int .i64 list', .int .i64 high'] ∧ Arg w' A1 128 c1 pm ∧ Arg w' A2 128 c2 pn) w5.drew := ⟨M5.out, N5.out, RA5.out.drew10, RB5.out.drew10⟩
  rename_i K hK
  refine wp_held (fun w' => Has w' w.heap.size 24 #[.int .i64 label, .int .u64 (txn : Int), .int .i64 root, .int .i64 list, .int .i64 high] ∧ Has w' (w.heap.size + 1) 24 #[.int .i64 label', .int .u64 (txn' : Int), .int .i64 root', .int .i64 list', .int .i64 high'] ∧ Arg w' A1 128 c1 pm ∧ Arg w' A2 128 c2 pn) K hmx ?_ (fun _ _ h => h)
  refine wpAnyH_take (i := 0) (v := .int .i64 0) (lit rfl) (by kernel_rfl) (by kernel_rfl) (by kernel_rfl) (fun _ _ _ h => h) (Or.inl ⟨by rfl, ?_⟩) hS ?_
  · rintro w6 ⟨s1, s2, s3, s4⟩
    go_simp
  simp only [Act.put, List.setIfInBounds_toArray, List.set_cons_zero, List.set_cons_succ]
  refine wpAnyH_take (i := 1) (v := .bool true) (lit rfl) (by kernel_rfl) (by kernel_rfl) (by kernel_rfl) (fun _ _ _ h => h) (Or.inl ⟨by rfl, ?_⟩) hS ?_
  · rintro w6 ⟨s1, s2, s3, s4⟩
    go_simp
  simp only [Act.put, List.setIfInBounds_toArray, List.set_cons_zero, List.set_cons_succ]
  refine wpAnyH_take (i := 2) (v := .bool true) (lit rfl) (by kernel_rfl) (by kernel_rfl) (by kernel_rfl) (fun _ _ _ h => h) (Or.inl ⟨by rfl, ?_⟩) hS ?_
  · rintro w6 ⟨s1, s2, s3, s4⟩
    go_simp
  simp only [Act.put, List.setIfInBounds_toArray, List.set_cons_zero, List.set_cons_succ]
  refine wpAnyH_take (i := 3) (v := .int .i64 0) (lit rfl) (by kernel_rfl) (by kernel_rfl) (by kernel_rfl) (fun _ _ _ h => h) (Or.inl ⟨by rfl, ?_⟩) hS ?_
  · rintro w6 ⟨s1, s2, s3, s4⟩
    go_simp
  simp only [Act.put, List.setIfInBounds_toArray, List.set_cons_zero, List.set_cons_succ]
  refine wpAnyH_take (i := 4) (v := .bool true) (lit rfl) (by kernel_rfl) (by kernel_rfl) (by kernel_rfl) (fun _ _ _ h => h) (Or.inl ⟨by rfl, ?_⟩) hS ?_
  · rintro w6 ⟨s1, s2, s3, s4⟩
    go_simp
  simp only [Act.put, List.setIfInBounds_toArray, List.set_cons_zero, List.set_cons_succ]
  refine wpAnyH_take (i := 5) (v := .bool true) (lit rfl) (by kernel_rfl) (by kernel_rfl) (by kernel_rfl) (fun _ _ _ h => h) (Or.inl ⟨by rfl, ?_⟩) hS ?_
  · rintro w6 ⟨s1, s2, s3, s4⟩
    go_simp
  simp only [Act.put, List.setIfInBounds_toArray, List.set_cons_zero, List.set_cons_succ]
  refine wpAnyH_take (i := 6) (v := .bool true) (lit rfl) (by kernel_rfl) (by kernel_rfl) (by kernel_rfl) (fun _ _ _ h => h) (Or.inl ⟨by rfl, ?_⟩) hS ?_
  · rintro w6 ⟨s1, s2, s3, s4⟩
    go_simp
  simp only [Act.put, List.setIfInBounds_toArray, List.set_cons_zero, List.set_cons_succ]
  refine wpAnyH_take (i := 7) (v := .slice A1 128 c1) (lit rfl) (by kernel_rfl) (by kernel_rfl) (by kernel_rfl) (fun _ _ _ h => h) (Or.inl ⟨by rfl, ?_⟩) hS ?_
  · rintro w6 ⟨s1, s2, s3, s4⟩
    go_simp
  simp only [Act.put, List.setIfInBounds_toArray, List.set_cons_zero, List.set_cons_succ]
  refine wpAnyH_take (i := 8) (v := .string sm) (lit rfl) (by kernel_rfl) (by kernel_rfl) (by kernel_rfl) (fun _ _ _ h => h) (Or.inl ⟨by rfl, ?_⟩) hS ?_
  · rintro w6 ⟨s1, s2, s3, s4⟩
    have hcv := conv10 s3
    rw [HSM.out] at hcv
    go_simp
  simp only [Act.put, List.setIfInBounds_toArray, List.set_cons_zero, List.set_cons_succ]
  refine wpAnyH_take (i := 9) (v := .slice A2 128 c2) (lit rfl) (by kernel_rfl) (by kernel_rfl) (by kernel_rfl) (fun _ _ _ h => h) (Or.inl ⟨by rfl, ?_⟩) hS ?_
  · rintro w6 ⟨s1, s2, s3, s4⟩
    go_simp
  simp only [Act.put, List.setIfInBounds_toArray, List.set_cons_zero, List.set_cons_succ]
  refine wpAnyH_take (i := 10) (v := .string sn) (lit rfl) (by kernel_rfl) (by kernel_rfl) (by kernel_rfl) (fun _ _ _ h => h) (Or.inl ⟨by rfl, ?_⟩) hS ?_
  · rintro w6 ⟨s1, s2, s3, s4⟩
    have hcv := conv10 s4
    rw [HSN.out] at hcv
    go_simp
  simp only [Act.put, List.setIfInBounds_toArray, List.set_cons_zero, List.set_cons_succ]
  refine wpAnyH_take (i := 11) (v := .bool dq) (lit rfl) (by kernel_rfl) (by kernel_rfl) (by kernel_rfl) (fun _ _ _ h => h) (Or.inl ⟨by rfl, ?_⟩) hS ?_
  · rintro w6 ⟨s1, s2, s3, s4⟩
    go_simp
  simp only [Act.put, List.setIfInBounds_toArray, List.set_cons_zero, List.set_cons_succ]
  refine wpAnyH_take (i := 12) (v := .agg #[.int .i64 label, .int .u64 (txn : Int), .int .i64 root, .int .i64 list, .int .i64 high]) (lit rfl) (by kernel_rfl) (by kernel_rfl) (by kernel_rfl) (fun _ _ _ h => h) (Or.inl ⟨by rfl, ?_⟩) hS ?_
  · rintro w6 ⟨s1, s2, s3, s4⟩
    have d0 := s1.cell 0
    have d1 := s1.cell 1
    have d2 := s1.cell 2
    have d3 := s1.cell 3
    have d4 := s1.cell 4
    go_simp
  simp only [Act.put, List.setIfInBounds_toArray, List.set_cons_zero, List.set_cons_succ]
  refine wpAnyH_take (i := 13) (v := .agg #[.int .i64 label', .int .u64 (txn' : Int), .int .i64 root', .int .i64 list', .int .i64 high']) (lit rfl) (by kernel_rfl) (by kernel_rfl) (by kernel_rfl) (fun _ _ _ h => h) (Or.inl ⟨by rfl, ?_⟩) hS ?_
  · rintro w6 ⟨s1, s2, s3, s4⟩
    have d0 := s2.cell 0
    have d1 := s2.cell 1
    have d2 := s2.cell 2
    have d3 := s2.cell 3
    have d4 := s2.cell 4
    go_simp
  simp only [Act.put, List.setIfInBounds_toArray, List.set_cons_zero, List.set_cons_succ]
  refine wpAnyH_take (i := 14) (v := .bool dq) (lit rfl) (by kernel_rfl) (by kernel_rfl) (by kernel_rfl) (fun _ _ _ h => h) (Or.inl ⟨by rfl, ?_⟩) hS ?_
  · rintro w6 ⟨s1, s2, s3, s4⟩
    go_simp
  simp only [Act.put, List.setIfInBounds_toArray, List.set_cons_zero, List.set_cons_succ]
  refine wpAnyH_take (i := 15) (v := .bool true) (lit rfl) (by kernel_rfl) (by kernel_rfl) (by kernel_rfl) (fun _ _ _ h => h) (Or.inl ⟨by rfl, ?_⟩) hS ?_
  · rintro w6 ⟨s1, s2, s3, s4⟩
    go_simp
  simp only [Act.put, List.setIfInBounds_toArray, List.set_cons_zero, List.set_cons_succ]
  refine wpAnyH_take (i := 16) (v := .bool true) (lit rfl) (by kernel_rfl) (by kernel_rfl) (by kernel_rfl) (fun _ _ _ h => h) (Or.inl ⟨by rfl, ?_⟩) hS ?_
  · rintro w6 ⟨s1, s2, s3, s4⟩
    go_simp
  simp only [Act.put, List.setIfInBounds_toArray, List.set_cons_zero, List.set_cons_succ]
  refine wpAnyH_take (i := 17) (v := .bool true) (lit rfl) (by kernel_rfl) (by kernel_rfl) (by kernel_rfl) (fun _ _ _ h => h) (Or.inl ⟨by rfl, ?_⟩) hS ?_
  · rintro w6 ⟨s1, s2, s3, s4⟩
    go_simp
  simp only [Act.put, List.setIfInBounds_toArray, List.set_cons_zero, List.set_cons_succ]
  refine wpAnyH_done (by kernel_rfl) ?_ _
  refine hK _ _ ?_
  have BE := Lib.hid B5.out.drew
  clear hS
  go_wp2
  go_ret
  exact ⟨rfl, BE.out⟩
theorem walkMeDif (m n : Mt) (w : World) (ht : Tab w) (tm : m.txn < 18446744073709551616) (tn : n.txn < 18446744073709551616) :
    Calls Tryd.prog 7 #[mtV m, mtV n] w fun e w' => e = .returned (.bool true) ∧ Below w.heap.size w w' := by
  by_cases hc : checkM m
  · by_cases hd : checkM n
    · exact walkMeDif_yes m n w ht hc hd tm tn
    · exact walkMeDif_not m n w ht hc hd
  · exact walkMeDif_no m n w ht hc
end Go.Proofs.YtpikcodnonodlaaDoor
