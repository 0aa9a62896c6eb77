import Derived.Test.YtpikcodnonodlaaDoorJ11
/- Of a claim's texts, joined: MeOth. No statement but in the last. -/
namespace Go.Proofs.YtpikcodnonodlaaDoor
open Go.RowKit
set_option linter.unusedVariables false

theorem newer_no (x : Mt × Bool) : newerM x (mt0, false) = x := by unfold newerM; rw [if_neg (fun h => by cases h.1)]
theorem newer_first (y : Mt × Bool) (h : y.2 = false → y.1 = mt0) : newerM (mt0, false) y = y := by
  obtain ⟨y1, y2⟩ := y
  unfold newerM
  cases y2
  · rw [if_neg (fun hh => by cases hh.1)]
    have := h rfl
    simp only at this
    rw [this]
  · rw [if_pos ⟨rfl, Or.inl rfl⟩]
theorem newer_least (x y : Mt × Bool) (hx : x.2 = true) : (newerM x y).2 = true ∧ x.1.txn ≤ (newerM x y).1.txn := by
  unfold newerM
  split
  · rename_i h
    refine ⟨h.1, ?_⟩
    rcases h.2 with h2 | h2
    · rw [hx] at h2; cases h2
    · omega
  · exact ⟨hx, Nat.le_refl _⟩
theorem newer_least2 (x y : Mt × Bool) (hy : y.2 = true) : (newerM x y).2 = true ∧ y.1.txn ≤ (newerM x y).1.txn := by
  unfold newerM
  split
  · exact ⟨hy, Nat.le_refl _⟩
  · rename_i h
    cases hx : x.2
    · exact absurd ⟨hy, Or.inl hx⟩ h
    · refine ⟨rfl, ?_⟩
      by_cases hl : x.1.txn < y.1.txn
      · exact absurd ⟨hy, Or.inr hl⟩ h
      · omega
theorem count_own {m : Mt} (h : checkM m) (ht : m.txn < 18446744073709551616) {slot : Nat} (hs : m.txn % 2 = slot) : countM (pageM m) slot m.label = (m, true) := by
  rw [countM_page h ht, if_pos ⟨rfl, hs⟩]
theorem count_slot {m : Mt} (h : checkM m) (ht : m.txn < 18446744073709551616) {slot : Nat} (hs : ¬ m.txn % 2 = slot) (lab : Int) : countM (pageM m) slot lab = (mt0, false) := by
  rw [countM_page h ht, if_neg (fun hh => hs hh.2)]
theorem count_label {m : Mt} (h : checkM m) (ht : m.txn < 18446744073709551616) (slot : Nat) {lab : Int} (hl : ¬ m.label = lab) : countM (pageM m) slot lab = (mt0, false) := by
  rw [countM_page h ht, if_neg (fun hh => hl hh.1)]
def othM (o mx : Nat) : Mt := ⟨o, mx, 0, 0, 2⟩
theorem othM_ok {o mx : Nat} (ho : o < 64) (hm : 0 < mx) : checkM (othM o mx) := by
  refine ⟨?_, ?_, hm, ?_, ?_, Or.inl rfl, Or.inl rfl, Or.inr rfl⟩ <;> unfold othM <;> simp only <;> omega

set_option maxRecDepth 100000 in
set_option maxHeartbeats 8000000 in
theorem walkMeOth_same0b (m : Mt) (y : UInt8) (x mx : Nat) (w : World) (ht : Tab w) (tm : m.txn < 18446744073709551616) (hc : checkM m) (hs : m.txn % 2 = 0) (ho : ((y.toNat % 64 : Nat) : Int) = m.label) (hmx : 1 ≤ x ∧ mx = x) (hx : x < 18446744073709551616) :
    Calls Tryd.prog 6 #[mtV m, .int .u8 (y.toNat : Int), .int .u64 (x : Int)] w fun e w' => e = .returned (.bool true) ∧ Below w.heap.size w w' := by
  have hz := zero_meta
  obtain ⟨W, hW, hb, hm⟩ := mbox w m
  have hmx1 : 0 < mx := by omega
  have hmx2 : mx < 18446744073709551616 := by omega
  have hoc := othM_ok (o := y.toNat % 64) (mx := mx) (by omega) hmx1
  have HA := Lib.hid (awake10_any W (ht.below hb))
  have HCM := Lib.hid (fun w1 => mCheck_any m w1)
  rw [decide_eq_true hc] at HCM
  have HSL := Lib.hid (fun w1 => mSlot_any m.txn w1 tm)
  rw [hs] at HSL
  have HT := Lib.hid ht
  have HPM := Lib.hid (fun w1 h => mPut_page m w1 h hc tm)
  have HPO : Hid (∀ w1, Tab w1 → Calls Tryd.prog 9 #[.agg #[.int .i64 ((y.toNat % 64 : Nat) : Int), .int .u64 (mx : Int), .int .i64 0, .int .i64 0, .int .i64 2]] w1 (PutEnd10 (pageM (othM (y.toNat % 64) mx)) w1)) := Lib.hid (fun w1 h => mPut_page (othM (y.toNat % 64) mx) w1 h hoc hmx2)
  have HN1 := Lib.hid (fun A1 A2 c1 c2 w1 ht (h1 : Arg w1 A1 128 c1 (pageM m)) (h2 : Arg w1 A2 128 c2 (pageM (othM (y.toNat % 64) mx))) => mNewest_any A1 A2 128 c1 128 c2 (pageM m) (pageM (othM (y.toNat % 64) mx)) m.label w1 ht h1 h2)
  have HN2 := Lib.hid (fun A1 A2 c1 c2 w1 ht (h1 : Arg w1 A1 128 c1 (pageM (othM (y.toNat % 64) mx))) (h2 : Arg w1 A2 128 c2 (pageM m)) => mNewest_any A1 A2 128 c1 128 c2 (pageM (othM (y.toNat % 64) mx)) (pageM m) m.label w1 ht h1 h2)
  have hr : (newestM (pageM m) (pageM (othM (y.toNat % 64) mx)) m.label).2 = true ∧ m.txn ≤ (newestM (pageM m) (pageM (othM (y.toNat % 64) mx)) m.label).1.txn := by
    unfold newestM
    have := newer_least (countM (pageM m) 0 m.label) (countM (pageM (othM (y.toNat % 64) mx)) 1 m.label) (by rw [count_own hc tm hs])
    rw [count_own hc tm hs] at this ⊢
    exact this
  generalize newestM (pageM m) (pageM (othM (y.toNat % 64) mx)) m.label = r1 at HN1 hr
  generalize newestM (pageM (othM (y.toNat % 64) mx)) (pageM m) m.label = r2 at HN2
  obtain ⟨⟨l1, t1, r1, s1, g1⟩, f1⟩ := r1
  obtain ⟨⟨l2, t2, r2, s2, g2⟩, f2⟩ := r2
  obtain ⟨hr1, hr2⟩ := hr
  simp only at hr1 hr2
  subst hr1
  unfold NewM10 at HN1 HN2
  simp only at HN1 HN2
  generalize pageM (othM (y.toNat % 64) mx) = po at HPO HN1 HN2
  generalize pageM m = pm at HPM HN1 HN2
  unfold PutEnd10 at HPM HPO
  obtain ⟨label, txn, root, list, high⟩ := m
  simp only [mtV, mtC] at hW hm ho hs HCM HSL HPM HN1 HN2 hr2 ⊢
  have HB := Lib.hid hb
  have HM := Lib.hid hm
  have hy : y.toNat < 256 := UInt8.toNat_lt y
  have hq1 : ((((y.toNat % 64 : Nat) : Int)) != label) = false := by simp only [bne, ho, beq_self_eq_true, Bool.not_true]
  have hle : ¬ ((t1 : Int) < (txn : Int)) := by omega
  have hge : (txn : Int) ≤ (t1 : Int) := by omega
  clear hb hm ht hc tm hs ho hoc
  generalize hyo : y.toNat % 64 = yo at *
  have hyi : (y.toNat : Int) % 64 = (yo : Int) := by omega
  have hyt : (y.toNat : Int).tmod 64 = (yo : Int) := by rw [Int.tmod_eq_emod_of_nonneg (by omega)]; exact hyi
  have hyw : IntKind.u8.wrap (yo : Int) = (yo : Int) := IntWalk.u8_in _ (by omega)
  clear hyo hx hmx1 hmx2
  obtain ⟨hb0, rfl⟩ := hmx
  have hb1 : (1 : Int) ≤ (mx : Int) := by omega
  have hb2 : ¬ (mx : Int) < 1 := by omega
  clear hb0
  go_enter Tryd.func6, Tryd.ntmps6
  go_wp2_with (first
    | (go_at_call 8; (try rw [hW]); (with_reducible refine HA.out.mono ?_); rintro q0 w1 ⟨rfl, b1⟩; have B1 := Lib.hid (below_step HB.out b1); have y1 := HM.out.below b1 HM.out.lt; have c10 := y1.cell 0; have c11 := y1.cell 1; have c12 := y1.cell 2; have c13 := y1.cell 3; have c14 := y1.cell 4; have M1 := Lib.hid y1; clear b1 y1)
    | (go_at_call 12; (with_reducible refine (HCM.out _).mono ?_); rintro q2 w2 ⟨rfl, b2⟩; have B2 := Lib.hid (below_step B1.out b2); have y2 := M1.out.below b2 M1.out.lt; have c20 := y2.cell 0; have c21 := y2.cell 1; have c22 := y2.cell 2; have c23 := y2.cell 3; have c24 := y2.cell 4; have M2 := Lib.hid y2; clear b2 y2)
    | (go_at_call 9; (with_reducible refine (HPO.out _ (HT.out.below B3.out)).mono ?_); rintro q4 w4 ⟨A2, k2, rfl, ra, rb, b4⟩; have RA4 := Lib.hid (RA3.out.below b4); have RB4 := Lib.hid ra; have B4 := Lib.hid (below_step B3.out b4); have y4 := M3.out.below b4 M3.out.lt; have c40 := y4.cell 0; have c41 := y4.cell 1; have c42 := y4.cell 2; have c43 := y4.cell 3; have c44 := y4.cell 4; have M4 := Lib.hid y4; clear ra rb b4 y4)
    | (go_at_call 9; (with_reducible refine (HPM.out _ (HT.out.below B2.out)).mono ?_); rintro q3 w3 ⟨A1, k1, rfl, ra, rb, b3⟩; have RA3 := Lib.hid ra; have B3 := Lib.hid (below_step B2.out b3); have y3 := M2.out.below b3 M2.out.lt; have c30 := y3.cell 0; have c31 := y3.cell 1; have c32 := y3.cell 2; have c33 := y3.cell 3; have c34 := y3.cell 4; have M3 := Lib.hid y3; clear ra rb b3 y3)
    | (go_at_call 14; (with_reducible refine (HSL.out _).mono ?_); rintro q5 w5 ⟨rfl, rfl⟩)
    | (go_at_call 18; (try rw [HW6.out]); (with_reducible refine (HN2.out _ _ _ _ _ (HT.out.below B6.out) RB6.out RA6.out).mono ?_); rintro q7 v7 ⟨rfl, b7⟩; obtain ⟨w7, hw7⟩ : ∃ x, v7.alloc (.cells #[.int .i64 l2, .int .u64 (t2 : Int), .int .i64 r2, .int .i64 s2, .int .i64 g2] 24) = x := ⟨_, rfl⟩; have bb : Below v7.heap.size v7 w7 := hw7 ▸ (Below.refl _ v7).alloc (Nat.le_refl _) _; have z7 := hw7 ▸ Has.made v7 24 #[.int .i64 l2, .int .u64 (t2 : Int), .int .i64 r2, .int .i64 s2, .int .i64 g2]; have bc := below_step b7 bb; have B7 := Lib.hid (below_step B6.out bc); have y7 := M6.out.below bc M6.out.lt; have c70 := y7.cell 0; have c71 := y7.cell 1; have c72 := y7.cell 2; have c73 := y7.cell 3; have c74 := y7.cell 4; have x7 := X6.out.below bc X6.out.lt; have d70 := x7.cell 0; have d71 := x7.cell 1; have d72 := x7.cell 2; have d73 := x7.cell 3; have d74 := x7.cell 4; have e70 := z7.cell 0; have e71 := z7.cell 1; have e72 := z7.cell 2; have e73 := z7.cell 3; have e74 := z7.cell 4; have HW7 := Lib.hid hw7; clear b7 bb bc y7 x7 z7)
    | (go_at_call 18; (with_reducible refine (HN1.out _ _ _ _ _ (HT.out.below B4.out) RA4.out RB4.out).mono ?_); rintro q6 v6 ⟨rfl, b6⟩; obtain ⟨w6, hw6⟩ : ∃ x, v6.alloc (.cells #[.int .i64 l1, .int .u64 (t1 : Int), .int .i64 r1, .int .i64 s1, .int .i64 g1] 24) = x := ⟨_, rfl⟩; have bb : Below v6.heap.size v6 w6 := hw6 ▸ (Below.refl _ v6).alloc (Nat.le_refl _) _; have z6 := hw6 ▸ Has.made v6 24 #[.int .i64 l1, .int .u64 (t1 : Int), .int .i64 r1, .int .i64 s1, .int .i64 g1]; have bc := below_step b6 bb; have B6 := Lib.hid (below_step B4.out bc); have RA6 := Lib.hid (RA4.out.below bc); have RB6 := Lib.hid (RB4.out.below bc); have y6 := M4.out.below bc M4.out.lt; have c60 := y6.cell 0; have c61 := y6.cell 1; have c62 := y6.cell 2; have c63 := y6.cell 3; have c64 := y6.cell 4; have M6 := Lib.hid y6; have X6 := Lib.hid z6; have HW6 := Lib.hid hw6; clear b6 bb bc y6 z6))
  go_ret
  exact ⟨rfl, B7.out⟩
set_option maxRecDepth 100000 in
set_option maxHeartbeats 8000000 in
theorem walkMeOth_same0z (m : Mt) (y : UInt8) (x mx : Nat) (w : World) (ht : Tab w) (tm : m.txn < 18446744073709551616) (hc : checkM m) (hs : m.txn % 2 = 0) (ho : ((y.toNat % 64 : Nat) : Int) = m.label) (hmx : x = 0 ∧ mx = 1) (hx : x < 18446744073709551616) :
    Calls Tryd.prog 6 #[mtV m, .int .u8 (y.toNat : Int), .int .u64 (x : Int)] w fun e w' => e = .returned (.bool true) ∧ Below w.heap.size w w' := by
  have hz := zero_meta
  obtain ⟨W, hW, hb, hm⟩ := mbox w m
  have hmx1 : 0 < mx := by omega
  have hmx2 : mx < 18446744073709551616 := by omega
  have hoc := othM_ok (o := y.toNat % 64) (mx := mx) (by omega) hmx1
  have HA := Lib.hid (awake10_any W (ht.below hb))
  have HCM := Lib.hid (fun w1 => mCheck_any m w1)
  rw [decide_eq_true hc] at HCM
  have HSL := Lib.hid (fun w1 => mSlot_any m.txn w1 tm)
  rw [hs] at HSL
  have HT := Lib.hid ht
  have HPM := Lib.hid (fun w1 h => mPut_page m w1 h hc tm)
  have HPO : Hid (∀ w1, Tab w1 → Calls Tryd.prog 9 #[.agg #[.int .i64 ((y.toNat % 64 : Nat) : Int), .int .u64 (mx : Int), .int .i64 0, .int .i64 0, .int .i64 2]] w1 (PutEnd10 (pageM (othM (y.toNat % 64) mx)) w1)) := Lib.hid (fun w1 h => mPut_page (othM (y.toNat % 64) mx) w1 h hoc hmx2)
  have HN1 := Lib.hid (fun A1 A2 c1 c2 w1 ht (h1 : Arg w1 A1 128 c1 (pageM m)) (h2 : Arg w1 A2 128 c2 (pageM (othM (y.toNat % 64) mx))) => mNewest_any A1 A2 128 c1 128 c2 (pageM m) (pageM (othM (y.toNat % 64) mx)) m.label w1 ht h1 h2)
  have HN2 := Lib.hid (fun A1 A2 c1 c2 w1 ht (h1 : Arg w1 A1 128 c1 (pageM (othM (y.toNat % 64) mx))) (h2 : Arg w1 A2 128 c2 (pageM m)) => mNewest_any A1 A2 128 c1 128 c2 (pageM (othM (y.toNat % 64) mx)) (pageM m) m.label w1 ht h1 h2)
  have hr : (newestM (pageM m) (pageM (othM (y.toNat % 64) mx)) m.label).2 = true ∧ m.txn ≤ (newestM (pageM m) (pageM (othM (y.toNat % 64) mx)) m.label).1.txn := by
    unfold newestM
    have := newer_least (countM (pageM m) 0 m.label) (countM (pageM (othM (y.toNat % 64) mx)) 1 m.label) (by rw [count_own hc tm hs])
    rw [count_own hc tm hs] at this ⊢
    exact this
  generalize newestM (pageM m) (pageM (othM (y.toNat % 64) mx)) m.label = r1 at HN1 hr
  generalize newestM (pageM (othM (y.toNat % 64) mx)) (pageM m) m.label = r2 at HN2
  obtain ⟨⟨l1, t1, r1, s1, g1⟩, f1⟩ := r1
  obtain ⟨⟨l2, t2, r2, s2, g2⟩, f2⟩ := r2
  obtain ⟨hr1, hr2⟩ := hr
  simp only at hr1 hr2
  subst hr1
  unfold NewM10 at HN1 HN2
  simp only at HN1 HN2
  generalize pageM (othM (y.toNat % 64) mx) = po at HPO HN1 HN2
  generalize pageM m = pm at HPM HN1 HN2
  unfold PutEnd10 at HPM HPO
  obtain ⟨label, txn, root, list, high⟩ := m
  simp only [mtV, mtC] at hW hm ho hs HCM HSL HPM HN1 HN2 hr2 ⊢
  have HB := Lib.hid hb
  have HM := Lib.hid hm
  have hy : y.toNat < 256 := UInt8.toNat_lt y
  have hq1 : ((((y.toNat % 64 : Nat) : Int)) != label) = false := by simp only [bne, ho, beq_self_eq_true, Bool.not_true]
  have hle : ¬ ((t1 : Int) < (txn : Int)) := by omega
  have hge : (txn : Int) ≤ (t1 : Int) := by omega
  clear hb hm ht hc tm hs ho hoc
  generalize hyo : y.toNat % 64 = yo at *
  have hyi : (y.toNat : Int) % 64 = (yo : Int) := by omega
  have hyt : (y.toNat : Int).tmod 64 = (yo : Int) := by rw [Int.tmod_eq_emod_of_nonneg (by omega)]; exact hyi
  have hyw : IntKind.u8.wrap (yo : Int) = (yo : Int) := IntWalk.u8_in _ (by omega)
  clear hyo hx hmx1 hmx2
  obtain ⟨rfl, rfl⟩ := hmx
  rw [show ((1 : Nat) : Int) = 1 from rfl] at HPO
  rw [show ((0 : Nat) : Int) = 0 from rfl]
  go_enter Tryd.func6, Tryd.ntmps6
  go_wp2_with (first
    | (go_at_call 8; (try rw [hW]); (with_reducible refine HA.out.mono ?_); rintro q0 w1 ⟨rfl, b1⟩; have B1 := Lib.hid (below_step HB.out b1); have y1 := HM.out.below b1 HM.out.lt; have c10 := y1.cell 0; have c11 := y1.cell 1; have c12 := y1.cell 2; have c13 := y1.cell 3; have c14 := y1.cell 4; have M1 := Lib.hid y1; clear b1 y1)
    | (go_at_call 12; (with_reducible refine (HCM.out _).mono ?_); rintro q2 w2 ⟨rfl, b2⟩; have B2 := Lib.hid (below_step B1.out b2); have y2 := M1.out.below b2 M1.out.lt; have c20 := y2.cell 0; have c21 := y2.cell 1; have c22 := y2.cell 2; have c23 := y2.cell 3; have c24 := y2.cell 4; have M2 := Lib.hid y2; clear b2 y2)
    | (go_at_call 9; (with_reducible refine (HPO.out _ (HT.out.below B3.out)).mono ?_); rintro q4 w4 ⟨A2, k2, rfl, ra, rb, b4⟩; have RA4 := Lib.hid (RA3.out.below b4); have RB4 := Lib.hid ra; have B4 := Lib.hid (below_step B3.out b4); have y4 := M3.out.below b4 M3.out.lt; have c40 := y4.cell 0; have c41 := y4.cell 1; have c42 := y4.cell 2; have c43 := y4.cell 3; have c44 := y4.cell 4; have M4 := Lib.hid y4; clear ra rb b4 y4)
    | (go_at_call 9; (with_reducible refine (HPM.out _ (HT.out.below B2.out)).mono ?_); rintro q3 w3 ⟨A1, k1, rfl, ra, rb, b3⟩; have RA3 := Lib.hid ra; have B3 := Lib.hid (below_step B2.out b3); have y3 := M2.out.below b3 M2.out.lt; have c30 := y3.cell 0; have c31 := y3.cell 1; have c32 := y3.cell 2; have c33 := y3.cell 3; have c34 := y3.cell 4; have M3 := Lib.hid y3; clear ra rb b3 y3)
    | (go_at_call 14; (with_reducible refine (HSL.out _).mono ?_); rintro q5 w5 ⟨rfl, rfl⟩)
    | (go_at_call 18; (try rw [HW6.out]); (with_reducible refine (HN2.out _ _ _ _ _ (HT.out.below B6.out) RB6.out RA6.out).mono ?_); rintro q7 v7 ⟨rfl, b7⟩; obtain ⟨w7, hw7⟩ : ∃ x, v7.alloc (.cells #[.int .i64 l2, .int .u64 (t2 : Int), .int .i64 r2, .int .i64 s2, .int .i64 g2] 24) = x := ⟨_, rfl⟩; have bb : Below v7.heap.size v7 w7 := hw7 ▸ (Below.refl _ v7).alloc (Nat.le_refl _) _; have z7 := hw7 ▸ Has.made v7 24 #[.int .i64 l2, .int .u64 (t2 : Int), .int .i64 r2, .int .i64 s2, .int .i64 g2]; have bc := below_step b7 bb; have B7 := Lib.hid (below_step B6.out bc); have y7 := M6.out.below bc M6.out.lt; have c70 := y7.cell 0; have c71 := y7.cell 1; have c72 := y7.cell 2; have c73 := y7.cell 3; have c74 := y7.cell 4; have x7 := X6.out.below bc X6.out.lt; have d70 := x7.cell 0; have d71 := x7.cell 1; have d72 := x7.cell 2; have d73 := x7.cell 3; have d74 := x7.cell 4; have e70 := z7.cell 0; have e71 := z7.cell 1; have e72 := z7.cell 2; have e73 := z7.cell 3; have e74 := z7.cell 4; have HW7 := Lib.hid hw7; clear b7 bb bc y7 x7 z7)
    | (go_at_call 18; (with_reducible refine (HN1.out _ _ _ _ _ (HT.out.below B4.out) RA4.out RB4.out).mono ?_); rintro q6 v6 ⟨rfl, b6⟩; obtain ⟨w6, hw6⟩ : ∃ x, v6.alloc (.cells #[.int .i64 l1, .int .u64 (t1 : Int), .int .i64 r1, .int .i64 s1, .int .i64 g1] 24) = x := ⟨_, rfl⟩; have bb : Below v6.heap.size v6 w6 := hw6 ▸ (Below.refl _ v6).alloc (Nat.le_refl _) _; have z6 := hw6 ▸ Has.made v6 24 #[.int .i64 l1, .int .u64 (t1 : Int), .int .i64 r1, .int .i64 s1, .int .i64 g1]; have bc := below_step b6 bb; have B6 := Lib.hid (below_step B4.out bc); have RA6 := Lib.hid (RA4.out.below bc); have RB6 := Lib.hid (RB4.out.below bc); have y6 := M4.out.below bc M4.out.lt; have c60 := y6.cell 0; have c61 := y6.cell 1; have c62 := y6.cell 2; have c63 := y6.cell 3; have c64 := y6.cell 4; have M6 := Lib.hid y6; have X6 := Lib.hid z6; have HW6 := Lib.hid hw6; clear b6 bb bc y6 z6))
  go_ret
  exact ⟨rfl, B7.out⟩
set_option maxRecDepth 100000 in
set_option maxHeartbeats 8000000 in
theorem walkMeOth_same1b (m : Mt) (y : UInt8) (x mx : Nat) (w : World) (ht : Tab w) (tm : m.txn < 18446744073709551616) (hc : checkM m) (hs : m.txn % 2 = 1) (ho : ((y.toNat % 64 : Nat) : Int) = m.label) (hmx : 1 ≤ x ∧ mx = x) (hx : x < 18446744073709551616) :
    Calls Tryd.prog 6 #[mtV m, .int .u8 (y.toNat : Int), .int .u64 (x : Int)] w fun e w' => e = .returned (.bool true) ∧ Below w.heap.size w w' := by
  have hz := zero_meta
  obtain ⟨W, hW, hb, hm⟩ := mbox w m
  have hmx1 : 0 < mx := by omega
  have hmx2 : mx < 18446744073709551616 := by omega
  have hoc := othM_ok (o := y.toNat % 64) (mx := mx) (by omega) hmx1
  have HA := Lib.hid (awake10_any W (ht.below hb))
  have HCM := Lib.hid (fun w1 => mCheck_any m w1)
  rw [decide_eq_true hc] at HCM
  have HSL := Lib.hid (fun w1 => mSlot_any m.txn w1 tm)
  rw [hs] at HSL
  have HT := Lib.hid ht
  have HPM := Lib.hid (fun w1 h => mPut_page m w1 h hc tm)
  have HPO : Hid (∀ w1, Tab w1 → Calls Tryd.prog 9 #[.agg #[.int .i64 ((y.toNat % 64 : Nat) : Int), .int .u64 (mx : Int), .int .i64 0, .int .i64 0, .int .i64 2]] w1 (PutEnd10 (pageM (othM (y.toNat % 64) mx)) w1)) := Lib.hid (fun w1 h => mPut_page (othM (y.toNat % 64) mx) w1 h hoc hmx2)
  have HN1 := Lib.hid (fun A1 A2 c1 c2 w1 ht (h1 : Arg w1 A1 128 c1 (pageM (othM (y.toNat % 64) mx))) (h2 : Arg w1 A2 128 c2 (pageM m)) => mNewest_any A1 A2 128 c1 128 c2 (pageM (othM (y.toNat % 64) mx)) (pageM m) m.label w1 ht h1 h2)
  have HN2 := Lib.hid (fun A1 A2 c1 c2 w1 ht (h1 : Arg w1 A1 128 c1 (pageM m)) (h2 : Arg w1 A2 128 c2 (pageM (othM (y.toNat % 64) mx))) => mNewest_any A1 A2 128 c1 128 c2 (pageM m) (pageM (othM (y.toNat % 64) mx)) m.label w1 ht h1 h2)
  have hr : (newestM (pageM (othM (y.toNat % 64) mx)) (pageM m) m.label).2 = true ∧ m.txn ≤ (newestM (pageM (othM (y.toNat % 64) mx)) (pageM m) m.label).1.txn := by
    unfold newestM
    have := newer_least2 (countM (pageM (othM (y.toNat % 64) mx)) 0 m.label) (countM (pageM m) 1 m.label) (by rw [count_own hc tm hs])
    rw [count_own hc tm hs] at this ⊢
    exact this
  generalize newestM (pageM (othM (y.toNat % 64) mx)) (pageM m) m.label = r1 at HN1 hr
  generalize newestM (pageM m) (pageM (othM (y.toNat % 64) mx)) m.label = r2 at HN2
  obtain ⟨⟨l1, t1, r1, s1, g1⟩, f1⟩ := r1
  obtain ⟨⟨l2, t2, r2, s2, g2⟩, f2⟩ := r2
  obtain ⟨hr1, hr2⟩ := hr
  simp only at hr1 hr2
  subst hr1
  unfold NewM10 at HN1 HN2
  simp only at HN1 HN2
  generalize pageM (othM (y.toNat % 64) mx) = po at HPO HN1 HN2
  generalize pageM m = pm at HPM HN1 HN2
  unfold PutEnd10 at HPM HPO
  obtain ⟨label, txn, root, list, high⟩ := m
  simp only [mtV, mtC] at hW hm ho hs HCM HSL HPM HN1 HN2 hr2 ⊢
  have HB := Lib.hid hb
  have HM := Lib.hid hm
  have hy : y.toNat < 256 := UInt8.toNat_lt y
  have hq1 : ((((y.toNat % 64 : Nat) : Int)) != label) = false := by simp only [bne, ho, beq_self_eq_true, Bool.not_true]
  have hle : ¬ ((t1 : Int) < (txn : Int)) := by omega
  have hge : (txn : Int) ≤ (t1 : Int) := by omega
  clear hb hm ht hc tm hs ho hoc
  generalize hyo : y.toNat % 64 = yo at *
  have hyi : (y.toNat : Int) % 64 = (yo : Int) := by omega
  have hyt : (y.toNat : Int).tmod 64 = (yo : Int) := by rw [Int.tmod_eq_emod_of_nonneg (by omega)]; exact hyi
  have hyw : IntKind.u8.wrap (yo : Int) = (yo : Int) := IntWalk.u8_in _ (by omega)
  clear hyo hx hmx1 hmx2
  obtain ⟨hb0, rfl⟩ := hmx
  have hb1 : (1 : Int) ≤ (mx : Int) := by omega
  have hb2 : ¬ (mx : Int) < 1 := by omega
  clear hb0
  go_enter Tryd.func6, Tryd.ntmps6
  go_wp2_with (first
    | (go_at_call 8; (try rw [hW]); (with_reducible refine HA.out.mono ?_); rintro q0 w1 ⟨rfl, b1⟩; have B1 := Lib.hid (below_step HB.out b1); have y1 := HM.out.below b1 HM.out.lt; have c10 := y1.cell 0; have c11 := y1.cell 1; have c12 := y1.cell 2; have c13 := y1.cell 3; have c14 := y1.cell 4; have M1 := Lib.hid y1; clear b1 y1)
    | (go_at_call 12; (with_reducible refine (HCM.out _).mono ?_); rintro q2 w2 ⟨rfl, b2⟩; have B2 := Lib.hid (below_step B1.out b2); have y2 := M1.out.below b2 M1.out.lt; have c20 := y2.cell 0; have c21 := y2.cell 1; have c22 := y2.cell 2; have c23 := y2.cell 3; have c24 := y2.cell 4; have M2 := Lib.hid y2; clear b2 y2)
    | (go_at_call 9; (with_reducible refine (HPO.out _ (HT.out.below B3.out)).mono ?_); rintro q4 w4 ⟨A2, k2, rfl, ra, rb, b4⟩; have RA4 := Lib.hid (RA3.out.below b4); have RB4 := Lib.hid ra; have B4 := Lib.hid (below_step B3.out b4); have y4 := M3.out.below b4 M3.out.lt; have c40 := y4.cell 0; have c41 := y4.cell 1; have c42 := y4.cell 2; have c43 := y4.cell 3; have c44 := y4.cell 4; have M4 := Lib.hid y4; clear ra rb b4 y4)
    | (go_at_call 9; (with_reducible refine (HPM.out _ (HT.out.below B2.out)).mono ?_); rintro q3 w3 ⟨A1, k1, rfl, ra, rb, b3⟩; have RA3 := Lib.hid ra; have B3 := Lib.hid (below_step B2.out b3); have y3 := M2.out.below b3 M2.out.lt; have c30 := y3.cell 0; have c31 := y3.cell 1; have c32 := y3.cell 2; have c33 := y3.cell 3; have c34 := y3.cell 4; have M3 := Lib.hid y3; clear ra rb b3 y3)
    | (go_at_call 14; (with_reducible refine (HSL.out _).mono ?_); rintro q5 w5 ⟨rfl, rfl⟩)
    | (go_at_call 18; (try rw [HW6.out]); (with_reducible refine (HN2.out _ _ _ _ _ (HT.out.below B6.out) RA6.out RB6.out).mono ?_); rintro q7 v7 ⟨rfl, b7⟩; obtain ⟨w7, hw7⟩ : ∃ x, v7.alloc (.cells #[.int .i64 l2, .int .u64 (t2 : Int), .int .i64 r2, .int .i64 s2, .int .i64 g2] 24) = x := ⟨_, rfl⟩; have bb : Below v7.heap.size v7 w7 := hw7 ▸ (Below.refl _ v7).alloc (Nat.le_refl _) _; have z7 := hw7 ▸ Has.made v7 24 #[.int .i64 l2, .int .u64 (t2 : Int), .int .i64 r2, .int .i64 s2, .int .i64 g2]; have bc := below_step b7 bb; have B7 := Lib.hid (below_step B6.out bc); have y7 := M6.out.below bc M6.out.lt; have c70 := y7.cell 0; have c71 := y7.cell 1; have c72 := y7.cell 2; have c73 := y7.cell 3; have c74 := y7.cell 4; have x7 := X6.out.below bc X6.out.lt; have d70 := x7.cell 0; have d71 := x7.cell 1; have d72 := x7.cell 2; have d73 := x7.cell 3; have d74 := x7.cell 4; have e70 := z7.cell 0; have e71 := z7.cell 1; have e72 := z7.cell 2; have e73 := z7.cell 3; have e74 := z7.cell 4; have HW7 := Lib.hid hw7; clear b7 bb bc y7 x7 z7)
    | (go_at_call 18; (with_reducible refine (HN1.out _ _ _ _ _ (HT.out.below B4.out) RB4.out RA4.out).mono ?_); rintro q6 v6 ⟨rfl, b6⟩; obtain ⟨w6, hw6⟩ : ∃ x, v6.alloc (.cells #[.int .i64 l1, .int .u64 (t1 : Int), .int .i64 r1, .int .i64 s1, .int .i64 g1] 24) = x := ⟨_, rfl⟩; have bb : Below v6.heap.size v6 w6 := hw6 ▸ (Below.refl _ v6).alloc (Nat.le_refl _) _; have z6 := hw6 ▸ Has.made v6 24 #[.int .i64 l1, .int .u64 (t1 : Int), .int .i64 r1, .int .i64 s1, .int .i64 g1]; have bc := below_step b6 bb; have B6 := Lib.hid (below_step B4.out bc); have RA6 := Lib.hid (RA4.out.below bc); have RB6 := Lib.hid (RB4.out.below bc); have y6 := M4.out.below bc M4.out.lt; have c60 := y6.cell 0; have c61 := y6.cell 1; have c62 := y6.cell 2; have c63 := y6.cell 3; have c64 := y6.cell 4; have M6 := Lib.hid y6; have X6 := Lib.hid z6; have HW6 := Lib.hid hw6; clear b6 bb bc y6 z6))
  go_ret
  exact ⟨rfl, B7.out⟩
set_option maxRecDepth 100000 in
set_option maxHeartbeats 8000000 in
theorem walkMeOth_same1z (m : Mt) (y : UInt8) (x mx : Nat) (w : World) (ht : Tab w) (tm : m.txn < 18446744073709551616) (hc : checkM m) (hs : m.txn % 2 = 1) (ho : ((y.toNat % 64 : Nat) : Int) = m.label) (hmx : x = 0 ∧ mx = 1) (hx : x < 18446744073709551616) :
    Calls Tryd.prog 6 #[mtV m, .int .u8 (y.toNat : Int), .int .u64 (x : Int)] w fun e w' => e = .returned (.bool true) ∧ Below w.heap.size w w' := by
  have hz := zero_meta
  obtain ⟨W, hW, hb, hm⟩ := mbox w m
  have hmx1 : 0 < mx := by omega
  have hmx2 : mx < 18446744073709551616 := by omega
  have hoc := othM_ok (o := y.toNat % 64) (mx := mx) (by omega) hmx1
  have HA := Lib.hid (awake10_any W (ht.below hb))
  have HCM := Lib.hid (fun w1 => mCheck_any m w1)
  rw [decide_eq_true hc] at HCM
  have HSL := Lib.hid (fun w1 => mSlot_any m.txn w1 tm)
  rw [hs] at HSL
  have HT := Lib.hid ht
  have HPM := Lib.hid (fun w1 h => mPut_page m w1 h hc tm)
  have HPO : Hid (∀ w1, Tab w1 → Calls Tryd.prog 9 #[.agg #[.int .i64 ((y.toNat % 64 : Nat) : Int), .int .u64 (mx : Int), .int .i64 0, .int .i64 0, .int .i64 2]] w1 (PutEnd10 (pageM (othM (y.toNat % 64) mx)) w1)) := Lib.hid (fun w1 h => mPut_page (othM (y.toNat % 64) mx) w1 h hoc hmx2)
  have HN1 := Lib.hid (fun A1 A2 c1 c2 w1 ht (h1 : Arg w1 A1 128 c1 (pageM (othM (y.toNat % 64) mx))) (h2 : Arg w1 A2 128 c2 (pageM m)) => mNewest_any A1 A2 128 c1 128 c2 (pageM (othM (y.toNat % 64) mx)) (pageM m) m.label w1 ht h1 h2)
  have HN2 := Lib.hid (fun A1 A2 c1 c2 w1 ht (h1 : Arg w1 A1 128 c1 (pageM m)) (h2 : Arg w1 A2 128 c2 (pageM (othM (y.toNat % 64) mx))) => mNewest_any A1 A2 128 c1 128 c2 (pageM m) (pageM (othM (y.toNat % 64) mx)) m.label w1 ht h1 h2)
  have hr : (newestM (pageM (othM (y.toNat % 64) mx)) (pageM m) m.label).2 = true ∧ m.txn ≤ (newestM (pageM (othM (y.toNat % 64) mx)) (pageM m) m.label).1.txn := by
    unfold newestM
    have := newer_least2 (countM (pageM (othM (y.toNat % 64) mx)) 0 m.label) (countM (pageM m) 1 m.label) (by rw [count_own hc tm hs])
    rw [count_own hc tm hs] at this ⊢
    exact this
  generalize newestM (pageM (othM (y.toNat % 64) mx)) (pageM m) m.label = r1 at HN1 hr
  generalize newestM (pageM m) (pageM (othM (y.toNat % 64) mx)) m.label = r2 at HN2
  obtain ⟨⟨l1, t1, r1, s1, g1⟩, f1⟩ := r1
  obtain ⟨⟨l2, t2, r2, s2, g2⟩, f2⟩ := r2
  obtain ⟨hr1, hr2⟩ := hr
  simp only at hr1 hr2
  subst hr1
  unfold NewM10 at HN1 HN2
  simp only at HN1 HN2
  generalize pageM (othM (y.toNat % 64) mx) = po at HPO HN1 HN2
  generalize pageM m = pm at HPM HN1 HN2
  unfold PutEnd10 at HPM HPO
  obtain ⟨label, txn, root, list, high⟩ := m
  simp only [mtV, mtC] at hW hm ho hs HCM HSL HPM HN1 HN2 hr2 ⊢
  have HB := Lib.hid hb
  have HM := Lib.hid hm
  have hy : y.toNat < 256 := UInt8.toNat_lt y
  have hq1 : ((((y.toNat % 64 : Nat) : Int)) != label) = false := by simp only [bne, ho, beq_self_eq_true, Bool.not_true]
  have hle : ¬ ((t1 : Int) < (txn : Int)) := by omega
  have hge : (txn : Int) ≤ (t1 : Int) := by omega
  clear hb hm ht hc tm hs ho hoc
  generalize hyo : y.toNat % 64 = yo at *
  have hyi : (y.toNat : Int) % 64 = (yo : Int) := by omega
  have hyt : (y.toNat : Int).tmod 64 = (yo : Int) := by rw [Int.tmod_eq_emod_of_nonneg (by omega)]; exact hyi
  have hyw : IntKind.u8.wrap (yo : Int) = (yo : Int) := IntWalk.u8_in _ (by omega)
  clear hyo hx hmx1 hmx2
  obtain ⟨rfl, rfl⟩ := hmx
  rw [show ((1 : Nat) : Int) = 1 from rfl] at HPO
  rw [show ((0 : Nat) : Int) = 0 from rfl]
  go_enter Tryd.func6, Tryd.ntmps6
  go_wp2_with (first
    | (go_at_call 8; (try rw [hW]); (with_reducible refine HA.out.mono ?_); rintro q0 w1 ⟨rfl, b1⟩; have B1 := Lib.hid (below_step HB.out b1); have y1 := HM.out.below b1 HM.out.lt; have c10 := y1.cell 0; have c11 := y1.cell 1; have c12 := y1.cell 2; have c13 := y1.cell 3; have c14 := y1.cell 4; have M1 := Lib.hid y1; clear b1 y1)
    | (go_at_call 12; (with_reducible refine (HCM.out _).mono ?_); rintro q2 w2 ⟨rfl, b2⟩; have B2 := Lib.hid (below_step B1.out b2); have y2 := M1.out.below b2 M1.out.lt; have c20 := y2.cell 0; have c21 := y2.cell 1; have c22 := y2.cell 2; have c23 := y2.cell 3; have c24 := y2.cell 4; have M2 := Lib.hid y2; clear b2 y2)
    | (go_at_call 9; (with_reducible refine (HPO.out _ (HT.out.below B3.out)).mono ?_); rintro q4 w4 ⟨A2, k2, rfl, ra, rb, b4⟩; have RA4 := Lib.hid (RA3.out.below b4); have RB4 := Lib.hid ra; have B4 := Lib.hid (below_step B3.out b4); have y4 := M3.out.below b4 M3.out.lt; have c40 := y4.cell 0; have c41 := y4.cell 1; have c42 := y4.cell 2; have c43 := y4.cell 3; have c44 := y4.cell 4; have M4 := Lib.hid y4; clear ra rb b4 y4)
    | (go_at_call 9; (with_reducible refine (HPM.out _ (HT.out.below B2.out)).mono ?_); rintro q3 w3 ⟨A1, k1, rfl, ra, rb, b3⟩; have RA3 := Lib.hid ra; have B3 := Lib.hid (below_step B2.out b3); have y3 := M2.out.below b3 M2.out.lt; have c30 := y3.cell 0; have c31 := y3.cell 1; have c32 := y3.cell 2; have c33 := y3.cell 3; have c34 := y3.cell 4; have M3 := Lib.hid y3; clear ra rb b3 y3)
    | (go_at_call 14; (with_reducible refine (HSL.out _).mono ?_); rintro q5 w5 ⟨rfl, rfl⟩)
    | (go_at_call 18; (try rw [HW6.out]); (with_reducible refine (HN2.out _ _ _ _ _ (HT.out.below B6.out) RA6.out RB6.out).mono ?_); rintro q7 v7 ⟨rfl, b7⟩; obtain ⟨w7, hw7⟩ : ∃ x, v7.alloc (.cells #[.int .i64 l2, .int .u64 (t2 : Int), .int .i64 r2, .int .i64 s2, .int .i64 g2] 24) = x := ⟨_, rfl⟩; have bb : Below v7.heap.size v7 w7 := hw7 ▸ (Below.refl _ v7).alloc (Nat.le_refl _) _; have z7 := hw7 ▸ Has.made v7 24 #[.int .i64 l2, .int .u64 (t2 : Int), .int .i64 r2, .int .i64 s2, .int .i64 g2]; have bc := below_step b7 bb; have B7 := Lib.hid (below_step B6.out bc); have y7 := M6.out.below bc M6.out.lt; have c70 := y7.cell 0; have c71 := y7.cell 1; have c72 := y7.cell 2; have c73 := y7.cell 3; have c74 := y7.cell 4; have x7 := X6.out.below bc X6.out.lt; have d70 := x7.cell 0; have d71 := x7.cell 1; have d72 := x7.cell 2; have d73 := x7.cell 3; have d74 := x7.cell 4; have e70 := z7.cell 0; have e71 := z7.cell 1; have e72 := z7.cell 2; have e73 := z7.cell 3; have e74 := z7.cell 4; have HW7 := Lib.hid hw7; clear b7 bb bc y7 x7 z7)
    | (go_at_call 18; (with_reducible refine (HN1.out _ _ _ _ _ (HT.out.below B4.out) RB4.out RA4.out).mono ?_); rintro q6 v6 ⟨rfl, b6⟩; obtain ⟨w6, hw6⟩ : ∃ x, v6.alloc (.cells #[.int .i64 l1, .int .u64 (t1 : Int), .int .i64 r1, .int .i64 s1, .int .i64 g1] 24) = x := ⟨_, rfl⟩; have bb : Below v6.heap.size v6 w6 := hw6 ▸ (Below.refl _ v6).alloc (Nat.le_refl _) _; have z6 := hw6 ▸ Has.made v6 24 #[.int .i64 l1, .int .u64 (t1 : Int), .int .i64 r1, .int .i64 s1, .int .i64 g1]; have bc := below_step b6 bb; have B6 := Lib.hid (below_step B4.out bc); have RA6 := Lib.hid (RA4.out.below bc); have RB6 := Lib.hid (RB4.out.below bc); have y6 := M4.out.below bc M4.out.lt; have c60 := y6.cell 0; have c61 := y6.cell 1; have c62 := y6.cell 2; have c63 := y6.cell 3; have c64 := y6.cell 4; have M6 := Lib.hid y6; have X6 := Lib.hid z6; have HW6 := Lib.hid hw6; clear b6 bb bc y6 z6))
  go_ret
  exact ⟨rfl, B7.out⟩
set_option maxRecDepth 100000 in
set_option maxHeartbeats 8000000 in
theorem walkMeOth_other0b (m : Mt) (y : UInt8) (x mx : Nat) (w : World) (ht : Tab w) (tm : m.txn < 18446744073709551616) (hc : checkM m) (hs : m.txn % 2 = 0) (ho : ¬ ((y.toNat % 64 : Nat) : Int) = m.label) (hmx : 1 ≤ x ∧ mx = x) (hx : x < 18446744073709551616) :
    Calls Tryd.prog 6 #[mtV m, .int .u8 (y.toNat : Int), .int .u64 (x : Int)] w fun e w' => e = .returned (.bool true) ∧ Below w.heap.size w w' := by
  have hz := zero_meta
  obtain ⟨W, hW, hb, hm⟩ := mbox w m
  have hmx1 : 0 < mx := by omega
  have hmx2 : mx < 18446744073709551616 := by omega
  have hoc := othM_ok (o := y.toNat % 64) (mx := mx) (by omega) hmx1
  have HA := Lib.hid (awake10_any W (ht.below hb))
  have HCM := Lib.hid (fun w1 => mCheck_any m w1)
  rw [decide_eq_true hc] at HCM
  have HSL := Lib.hid (fun w1 => mSlot_any m.txn w1 tm)
  rw [hs] at HSL
  have HT := Lib.hid ht
  have HPM := Lib.hid (fun w1 h => mPut_page m w1 h hc tm)
  have HPO : Hid (∀ w1, Tab w1 → Calls Tryd.prog 9 #[.agg #[.int .i64 ((y.toNat % 64 : Nat) : Int), .int .u64 (mx : Int), .int .i64 0, .int .i64 0, .int .i64 2]] w1 (PutEnd10 (pageM (othM (y.toNat % 64) mx)) w1)) := Lib.hid (fun w1 h => mPut_page (othM (y.toNat % 64) mx) w1 h hoc hmx2)
  have HN1 := Lib.hid (fun A1 A2 c1 c2 w1 ht (h1 : Arg w1 A1 128 c1 (pageM m)) (h2 : Arg w1 A2 128 c2 (pageM (othM (y.toNat % 64) mx))) => mNewest_any A1 A2 128 c1 128 c2 (pageM m) (pageM (othM (y.toNat % 64) mx)) m.label w1 ht h1 h2)
  have HN2 := Lib.hid (fun A1 A2 c1 c2 w1 ht (h1 : Arg w1 A1 128 c1 (pageM (othM (y.toNat % 64) mx))) (h2 : Arg w1 A2 128 c2 (pageM m)) => mNewest_any A1 A2 128 c1 128 c2 (pageM (othM (y.toNat % 64) mx)) (pageM m) m.label w1 ht h1 h2)
  have e1 : newestM (pageM m) (pageM (othM (y.toNat % 64) mx)) m.label = (m, true) := by
    unfold newestM
    rw [count_own hc tm hs, count_label hoc hmx2 1 ho, newer_no]
  have e2 : newestM (pageM (othM (y.toNat % 64) mx)) (pageM m) m.label = (mt0, false) := by
    unfold newestM
    rw [count_slot hc tm (slot := 1) (by omega), count_label hoc hmx2 0 ho, newer_no]
  rw [e1] at HN1
  rw [e2] at HN2
  unfold NewM10 at HN1 HN2
  rw [show mtV ((mt0, false) : Mt × Bool).1 = .agg #[.int .i64 0, .int .u64 0, .int .i64 0, .int .i64 0, .int .i64 0] from rfl] at HN2
  simp only at HN1 HN2
  generalize pageM (othM (y.toNat % 64) mx) = po at HPO HN1 HN2
  generalize pageM m = pm at HPM HN1 HN2
  unfold PutEnd10 at HPM HPO
  obtain ⟨label, txn, root, list, high⟩ := m
  simp only [mtV, mtC] at hW hm ho hs HCM HSL HPM HN1 HN2 ⊢
  clear e1 e2
  have HB := Lib.hid hb
  have HM := Lib.hid hm
  have hy : y.toNat < 256 := UInt8.toNat_lt y
  have hq1 : ((((y.toNat % 64 : Nat) : Int)) != label) = true := bne_iff_ne.2 ho
  clear hb hm ht hc tm hs ho hoc
  generalize hyo : y.toNat % 64 = yo at *
  have hyi : (y.toNat : Int) % 64 = (yo : Int) := by omega
  have hyt : (y.toNat : Int).tmod 64 = (yo : Int) := by rw [Int.tmod_eq_emod_of_nonneg (by omega)]; exact hyi
  have hyw : IntKind.u8.wrap (yo : Int) = (yo : Int) := IntWalk.u8_in _ (by omega)
  clear hyo hx hmx1 hmx2
  obtain ⟨hb0, rfl⟩ := hmx
  have hb1 : (1 : Int) ≤ (mx : Int) := by omega
  have hb2 : ¬ (mx : Int) < 1 := by omega
  clear hb0
  go_enter Tryd.func6, Tryd.ntmps6
  go_wp2_with (first
    | (go_at_call 8; (try rw [hW]); (with_reducible refine HA.out.mono ?_); rintro q0 w1 ⟨rfl, b1⟩; have B1 := Lib.hid (below_step HB.out b1); have y1 := HM.out.below b1 HM.out.lt; have c10 := y1.cell 0; have c11 := y1.cell 1; have c12 := y1.cell 2; have c13 := y1.cell 3; have c14 := y1.cell 4; have M1 := Lib.hid y1; clear b1 y1)
    | (go_at_call 12; (with_reducible refine (HCM.out _).mono ?_); rintro q2 w2 ⟨rfl, b2⟩; have B2 := Lib.hid (below_step B1.out b2); have y2 := M1.out.below b2 M1.out.lt; have c20 := y2.cell 0; have c21 := y2.cell 1; have c22 := y2.cell 2; have c23 := y2.cell 3; have c24 := y2.cell 4; have M2 := Lib.hid y2; clear b2 y2)
    | (go_at_call 9; (with_reducible refine (HPO.out _ (HT.out.below B3.out)).mono ?_); rintro q4 w4 ⟨A2, k2, rfl, ra, rb, b4⟩; have RA4 := Lib.hid (RA3.out.below b4); have RB4 := Lib.hid ra; have B4 := Lib.hid (below_step B3.out b4); have y4 := M3.out.below b4 M3.out.lt; have c40 := y4.cell 0; have c41 := y4.cell 1; have c42 := y4.cell 2; have c43 := y4.cell 3; have c44 := y4.cell 4; have M4 := Lib.hid y4; clear ra rb b4 y4)
    | (go_at_call 9; (with_reducible refine (HPM.out _ (HT.out.below B2.out)).mono ?_); rintro q3 w3 ⟨A1, k1, rfl, ra, rb, b3⟩; have RA3 := Lib.hid ra; have B3 := Lib.hid (below_step B2.out b3); have y3 := M2.out.below b3 M2.out.lt; have c30 := y3.cell 0; have c31 := y3.cell 1; have c32 := y3.cell 2; have c33 := y3.cell 3; have c34 := y3.cell 4; have M3 := Lib.hid y3; clear ra rb b3 y3)
    | (go_at_call 14; (with_reducible refine (HSL.out _).mono ?_); rintro q5 w5 ⟨rfl, rfl⟩)
    | (go_at_call 18; (try rw [HW6.out]); (with_reducible refine (HN2.out _ _ _ _ _ (HT.out.below B6.out) RB6.out RA6.out).mono ?_); rintro q7 v7 ⟨rfl, b7⟩; have bb : Below v7.heap.size v7 (v7.alloc (.cells #[.int .i64 0, .int .u64 0, .int .i64 0, .int .i64 0, .int .i64 0] 24)) := (Below.refl _ v7).alloc (Nat.le_refl _) _; have z7 := Has.made v7 24 #[.int .i64 0, .int .u64 0, .int .i64 0, .int .i64 0, .int .i64 0]; have bc := below_step b7 bb; have B7 := Lib.hid (below_step B6.out bc); have y7 := M6.out.below bc M6.out.lt; have c70 := y7.cell 0; have c71 := y7.cell 1; have c72 := y7.cell 2; have c73 := y7.cell 3; have c74 := y7.cell 4; have x7 := X6.out.below bc X6.out.lt; have d70 := x7.cell 0; have d71 := x7.cell 1; have d72 := x7.cell 2; have d73 := x7.cell 3; have d74 := x7.cell 4; have e70 := z7.cell 0; have e71 := z7.cell 1; have e72 := z7.cell 2; have e73 := z7.cell 3; have e74 := z7.cell 4; clear b7 bb bc y7 x7 z7)
    | (go_at_call 18; (with_reducible refine (HN1.out _ _ _ _ _ (HT.out.below B4.out) RA4.out RB4.out).mono ?_); rintro q6 v6 ⟨rfl, b6⟩; obtain ⟨w6, hw6⟩ : ∃ x, v6.alloc (.cells #[.int .i64 label, .int .u64 (txn : Int), .int .i64 root, .int .i64 list, .int .i64 high] 24) = x := ⟨_, rfl⟩; have bb : Below v6.heap.size v6 w6 := hw6 ▸ (Below.refl _ v6).alloc (Nat.le_refl _) _; have z6 := hw6 ▸ Has.made v6 24 #[.int .i64 label, .int .u64 (txn : Int), .int .i64 root, .int .i64 list, .int .i64 high]; have bc := below_step b6 bb; have B6 := Lib.hid (below_step B4.out bc); have RA6 := Lib.hid (RA4.out.below bc); have RB6 := Lib.hid (RB4.out.below bc); have y6 := M4.out.below bc M4.out.lt; have c60 := y6.cell 0; have c61 := y6.cell 1; have c62 := y6.cell 2; have c63 := y6.cell 3; have c64 := y6.cell 4; have M6 := Lib.hid y6; have X6 := Lib.hid z6; have HW6 := Lib.hid hw6; clear b6 bb bc y6 z6))
  go_ret
  exact ⟨rfl, B7.out⟩
set_option maxRecDepth 100000 in
set_option maxHeartbeats 8000000 in
theorem walkMeOth_other0z (m : Mt) (y : UInt8) (x mx : Nat) (w : World) (ht : Tab w) (tm : m.txn < 18446744073709551616) (hc : checkM m) (hs : m.txn % 2 = 0) (ho : ¬ ((y.toNat % 64 : Nat) : Int) = m.label) (hmx : x = 0 ∧ mx = 1) (hx : x < 18446744073709551616) :
    Calls Tryd.prog 6 #[mtV m, .int .u8 (y.toNat : Int), .int .u64 (x : Int)] w fun e w' => e = .returned (.bool true) ∧ Below w.heap.size w w' := by
  have hz := zero_meta
  obtain ⟨W, hW, hb, hm⟩ := mbox w m
  have hmx1 : 0 < mx := by omega
  have hmx2 : mx < 18446744073709551616 := by omega
  have hoc := othM_ok (o := y.toNat % 64) (mx := mx) (by omega) hmx1
  have HA := Lib.hid (awake10_any W (ht.below hb))
  have HCM := Lib.hid (fun w1 => mCheck_any m w1)
  rw [decide_eq_true hc] at HCM
  have HSL := Lib.hid (fun w1 => mSlot_any m.txn w1 tm)
  rw [hs] at HSL
  have HT := Lib.hid ht
  have HPM := Lib.hid (fun w1 h => mPut_page m w1 h hc tm)
  have HPO : Hid (∀ w1, Tab w1 → Calls Tryd.prog 9 #[.agg #[.int .i64 ((y.toNat % 64 : Nat) : Int), .int .u64 (mx : Int), .int .i64 0, .int .i64 0, .int .i64 2]] w1 (PutEnd10 (pageM (othM (y.toNat % 64) mx)) w1)) := Lib.hid (fun w1 h => mPut_page (othM (y.toNat % 64) mx) w1 h hoc hmx2)
  have HN1 := Lib.hid (fun A1 A2 c1 c2 w1 ht (h1 : Arg w1 A1 128 c1 (pageM m)) (h2 : Arg w1 A2 128 c2 (pageM (othM (y.toNat % 64) mx))) => mNewest_any A1 A2 128 c1 128 c2 (pageM m) (pageM (othM (y.toNat % 64) mx)) m.label w1 ht h1 h2)
  have HN2 := Lib.hid (fun A1 A2 c1 c2 w1 ht (h1 : Arg w1 A1 128 c1 (pageM (othM (y.toNat % 64) mx))) (h2 : Arg w1 A2 128 c2 (pageM m)) => mNewest_any A1 A2 128 c1 128 c2 (pageM (othM (y.toNat % 64) mx)) (pageM m) m.label w1 ht h1 h2)
  have e1 : newestM (pageM m) (pageM (othM (y.toNat % 64) mx)) m.label = (m, true) := by
    unfold newestM
    rw [count_own hc tm hs, count_label hoc hmx2 1 ho, newer_no]
  have e2 : newestM (pageM (othM (y.toNat % 64) mx)) (pageM m) m.label = (mt0, false) := by
    unfold newestM
    rw [count_slot hc tm (slot := 1) (by omega), count_label hoc hmx2 0 ho, newer_no]
  rw [e1] at HN1
  rw [e2] at HN2
  unfold NewM10 at HN1 HN2
  rw [show mtV ((mt0, false) : Mt × Bool).1 = .agg #[.int .i64 0, .int .u64 0, .int .i64 0, .int .i64 0, .int .i64 0] from rfl] at HN2
  simp only at HN1 HN2
  generalize pageM (othM (y.toNat % 64) mx) = po at HPO HN1 HN2
  generalize pageM m = pm at HPM HN1 HN2
  unfold PutEnd10 at HPM HPO
  obtain ⟨label, txn, root, list, high⟩ := m
  simp only [mtV, mtC] at hW hm ho hs HCM HSL HPM HN1 HN2 ⊢
  clear e1 e2
  have HB := Lib.hid hb
  have HM := Lib.hid hm
  have hy : y.toNat < 256 := UInt8.toNat_lt y
  have hq1 : ((((y.toNat % 64 : Nat) : Int)) != label) = true := bne_iff_ne.2 ho
  clear hb hm ht hc tm hs ho hoc
  generalize hyo : y.toNat % 64 = yo at *
  have hyi : (y.toNat : Int) % 64 = (yo : Int) := by omega
  have hyt : (y.toNat : Int).tmod 64 = (yo : Int) := by rw [Int.tmod_eq_emod_of_nonneg (by omega)]; exact hyi
  have hyw : IntKind.u8.wrap (yo : Int) = (yo : Int) := IntWalk.u8_in _ (by omega)
  clear hyo hx hmx1 hmx2
  obtain ⟨rfl, rfl⟩ := hmx
  rw [show ((1 : Nat) : Int) = 1 from rfl] at HPO
  rw [show ((0 : Nat) : Int) = 0 from rfl]
  go_enter Tryd.func6, Tryd.ntmps6
  go_wp2_with (first
    | (go_at_call 8; (try rw [hW]); (with_reducible refine HA.out.mono ?_); rintro q0 w1 ⟨rfl, b1⟩; have B1 := Lib.hid (below_step HB.out b1); have y1 := HM.out.below b1 HM.out.lt; have c10 := y1.cell 0; have c11 := y1.cell 1; have c12 := y1.cell 2; have c13 := y1.cell 3; have c14 := y1.cell 4; have M1 := Lib.hid y1; clear b1 y1)
    | (go_at_call 12; (with_reducible refine (HCM.out _).mono ?_); rintro q2 w2 ⟨rfl, b2⟩; have B2 := Lib.hid (below_step B1.out b2); have y2 := M1.out.below b2 M1.out.lt; have c20 := y2.cell 0; have c21 := y2.cell 1; have c22 := y2.cell 2; have c23 := y2.cell 3; have c24 := y2.cell 4; have M2 := Lib.hid y2; clear b2 y2)
    | (go_at_call 9; (with_reducible refine (HPO.out _ (HT.out.below B3.out)).mono ?_); rintro q4 w4 ⟨A2, k2, rfl, ra, rb, b4⟩; have RA4 := Lib.hid (RA3.out.below b4); have RB4 := Lib.hid ra; have B4 := Lib.hid (below_step B3.out b4); have y4 := M3.out.below b4 M3.out.lt; have c40 := y4.cell 0; have c41 := y4.cell 1; have c42 := y4.cell 2; have c43 := y4.cell 3; have c44 := y4.cell 4; have M4 := Lib.hid y4; clear ra rb b4 y4)
    | (go_at_call 9; (with_reducible refine (HPM.out _ (HT.out.below B2.out)).mono ?_); rintro q3 w3 ⟨A1, k1, rfl, ra, rb, b3⟩; have RA3 := Lib.hid ra; have B3 := Lib.hid (below_step B2.out b3); have y3 := M2.out.below b3 M2.out.lt; have c30 := y3.cell 0; have c31 := y3.cell 1; have c32 := y3.cell 2; have c33 := y3.cell 3; have c34 := y3.cell 4; have M3 := Lib.hid y3; clear ra rb b3 y3)
    | (go_at_call 14; (with_reducible refine (HSL.out _).mono ?_); rintro q5 w5 ⟨rfl, rfl⟩)
    | (go_at_call 18; (try rw [HW6.out]); (with_reducible refine (HN2.out _ _ _ _ _ (HT.out.below B6.out) RB6.out RA6.out).mono ?_); rintro q7 v7 ⟨rfl, b7⟩; have bb : Below v7.heap.size v7 (v7.alloc (.cells #[.int .i64 0, .int .u64 0, .int .i64 0, .int .i64 0, .int .i64 0] 24)) := (Below.refl _ v7).alloc (Nat.le_refl _) _; have z7 := Has.made v7 24 #[.int .i64 0, .int .u64 0, .int .i64 0, .int .i64 0, .int .i64 0]; have bc := below_step b7 bb; have B7 := Lib.hid (below_step B6.out bc); have y7 := M6.out.below bc M6.out.lt; have c70 := y7.cell 0; have c71 := y7.cell 1; have c72 := y7.cell 2; have c73 := y7.cell 3; have c74 := y7.cell 4; have x7 := X6.out.below bc X6.out.lt; have d70 := x7.cell 0; have d71 := x7.cell 1; have d72 := x7.cell 2; have d73 := x7.cell 3; have d74 := x7.cell 4; have e70 := z7.cell 0; have e71 := z7.cell 1; have e72 := z7.cell 2; have e73 := z7.cell 3; have e74 := z7.cell 4; clear b7 bb bc y7 x7 z7)
    | (go_at_call 18; (with_reducible refine (HN1.out _ _ _ _ _ (HT.out.below B4.out) RA4.out RB4.out).mono ?_); rintro q6 v6 ⟨rfl, b6⟩; obtain ⟨w6, hw6⟩ : ∃ x, v6.alloc (.cells #[.int .i64 label, .int .u64 (txn : Int), .int .i64 root, .int .i64 list, .int .i64 high] 24) = x := ⟨_, rfl⟩; have bb : Below v6.heap.size v6 w6 := hw6 ▸ (Below.refl _ v6).alloc (Nat.le_refl _) _; have z6 := hw6 ▸ Has.made v6 24 #[.int .i64 label, .int .u64 (txn : Int), .int .i64 root, .int .i64 list, .int .i64 high]; have bc := below_step b6 bb; have B6 := Lib.hid (below_step B4.out bc); have RA6 := Lib.hid (RA4.out.below bc); have RB6 := Lib.hid (RB4.out.below bc); have y6 := M4.out.below bc M4.out.lt; have c60 := y6.cell 0; have c61 := y6.cell 1; have c62 := y6.cell 2; have c63 := y6.cell 3; have c64 := y6.cell 4; have M6 := Lib.hid y6; have X6 := Lib.hid z6; have HW6 := Lib.hid hw6; clear b6 bb bc y6 z6))
  go_ret
  exact ⟨rfl, B7.out⟩
set_option maxRecDepth 100000 in
set_option maxHeartbeats 8000000 in
theorem walkMeOth_other1b (m : Mt) (y : UInt8) (x mx : Nat) (w : World) (ht : Tab w) (tm : m.txn < 18446744073709551616) (hc : checkM m) (hs : m.txn % 2 = 1) (ho : ¬ ((y.toNat % 64 : Nat) : Int) = m.label) (hmx : 1 ≤ x ∧ mx = x) (hx : x < 18446744073709551616) :
    Calls Tryd.prog 6 #[mtV m, .int .u8 (y.toNat : Int), .int .u64 (x : Int)] w fun e w' => e = .returned (.bool true) ∧ Below w.heap.size w w' := by
  have hz := zero_meta
  obtain ⟨W, hW, hb, hm⟩ := mbox w m
  have hmx1 : 0 < mx := by omega
  have hmx2 : mx < 18446744073709551616 := by omega
  have hoc := othM_ok (o := y.toNat % 64) (mx := mx) (by omega) hmx1
  have HA := Lib.hid (awake10_any W (ht.below hb))
  have HCM := Lib.hid (fun w1 => mCheck_any m w1)
  rw [decide_eq_true hc] at HCM
  have HSL := Lib.hid (fun w1 => mSlot_any m.txn w1 tm)
  rw [hs] at HSL
  have HT := Lib.hid ht
  have HPM := Lib.hid (fun w1 h => mPut_page m w1 h hc tm)
  have HPO : Hid (∀ w1, Tab w1 → Calls Tryd.prog 9 #[.agg #[.int .i64 ((y.toNat % 64 : Nat) : Int), .int .u64 (mx : Int), .int .i64 0, .int .i64 0, .int .i64 2]] w1 (PutEnd10 (pageM (othM (y.toNat % 64) mx)) w1)) := Lib.hid (fun w1 h => mPut_page (othM (y.toNat % 64) mx) w1 h hoc hmx2)
  have HN1 := Lib.hid (fun A1 A2 c1 c2 w1 ht (h1 : Arg w1 A1 128 c1 (pageM (othM (y.toNat % 64) mx))) (h2 : Arg w1 A2 128 c2 (pageM m)) => mNewest_any A1 A2 128 c1 128 c2 (pageM (othM (y.toNat % 64) mx)) (pageM m) m.label w1 ht h1 h2)
  have HN2 := Lib.hid (fun A1 A2 c1 c2 w1 ht (h1 : Arg w1 A1 128 c1 (pageM m)) (h2 : Arg w1 A2 128 c2 (pageM (othM (y.toNat % 64) mx))) => mNewest_any A1 A2 128 c1 128 c2 (pageM m) (pageM (othM (y.toNat % 64) mx)) m.label w1 ht h1 h2)
  have e1 : newestM (pageM (othM (y.toNat % 64) mx)) (pageM m) m.label = (m, true) := by
    unfold newestM
    rw [count_own hc tm hs, count_label hoc hmx2 0 ho, newer_first _ (fun h => by cases h)]
  have e2 : newestM (pageM m) (pageM (othM (y.toNat % 64) mx)) m.label = (mt0, false) := by
    unfold newestM
    rw [count_slot hc tm (slot := 0) (by omega), count_label hoc hmx2 1 ho, newer_no]
  rw [e1] at HN1
  rw [e2] at HN2
  unfold NewM10 at HN1 HN2
  rw [show mtV ((mt0, false) : Mt × Bool).1 = .agg #[.int .i64 0, .int .u64 0, .int .i64 0, .int .i64 0, .int .i64 0] from rfl] at HN2
  simp only at HN1 HN2
  generalize pageM (othM (y.toNat % 64) mx) = po at HPO HN1 HN2
  generalize pageM m = pm at HPM HN1 HN2
  unfold PutEnd10 at HPM HPO
  obtain ⟨label, txn, root, list, high⟩ := m
  simp only [mtV, mtC] at hW hm ho hs HCM HSL HPM HN1 HN2 ⊢
  clear e1 e2
  have HB := Lib.hid hb
  have HM := Lib.hid hm
  have hy : y.toNat < 256 := UInt8.toNat_lt y
  have hq1 : ((((y.toNat % 64 : Nat) : Int)) != label) = true := bne_iff_ne.2 ho
  clear hb hm ht hc tm hs ho hoc
  generalize hyo : y.toNat % 64 = yo at *
  have hyi : (y.toNat : Int) % 64 = (yo : Int) := by omega
  have hyt : (y.toNat : Int).tmod 64 = (yo : Int) := by rw [Int.tmod_eq_emod_of_nonneg (by omega)]; exact hyi
  have hyw : IntKind.u8.wrap (yo : Int) = (yo : Int) := IntWalk.u8_in _ (by omega)
  clear hyo hx hmx1 hmx2
  obtain ⟨hb0, rfl⟩ := hmx
  have hb1 : (1 : Int) ≤ (mx : Int) := by omega
  have hb2 : ¬ (mx : Int) < 1 := by omega
  clear hb0
  go_enter Tryd.func6, Tryd.ntmps6
  go_wp2_with (first
    | (go_at_call 8; (try rw [hW]); (with_reducible refine HA.out.mono ?_); rintro q0 w1 ⟨rfl, b1⟩; have B1 := Lib.hid (below_step HB.out b1); have y1 := HM.out.below b1 HM.out.lt; have c10 := y1.cell 0; have c11 := y1.cell 1; have c12 := y1.cell 2; have c13 := y1.cell 3; have c14 := y1.cell 4; have M1 := Lib.hid y1; clear b1 y1)
    | (go_at_call 12; (with_reducible refine (HCM.out _).mono ?_); rintro q2 w2 ⟨rfl, b2⟩; have B2 := Lib.hid (below_step B1.out b2); have y2 := M1.out.below b2 M1.out.lt; have c20 := y2.cell 0; have c21 := y2.cell 1; have c22 := y2.cell 2; have c23 := y2.cell 3; have c24 := y2.cell 4; have M2 := Lib.hid y2; clear b2 y2)
    | (go_at_call 9; (with_reducible refine (HPO.out _ (HT.out.below B3.out)).mono ?_); rintro q4 w4 ⟨A2, k2, rfl, ra, rb, b4⟩; have RA4 := Lib.hid (RA3.out.below b4); have RB4 := Lib.hid ra; have B4 := Lib.hid (below_step B3.out b4); have y4 := M3.out.below b4 M3.out.lt; have c40 := y4.cell 0; have c41 := y4.cell 1; have c42 := y4.cell 2; have c43 := y4.cell 3; have c44 := y4.cell 4; have M4 := Lib.hid y4; clear ra rb b4 y4)
    | (go_at_call 9; (with_reducible refine (HPM.out _ (HT.out.below B2.out)).mono ?_); rintro q3 w3 ⟨A1, k1, rfl, ra, rb, b3⟩; have RA3 := Lib.hid ra; have B3 := Lib.hid (below_step B2.out b3); have y3 := M2.out.below b3 M2.out.lt; have c30 := y3.cell 0; have c31 := y3.cell 1; have c32 := y3.cell 2; have c33 := y3.cell 3; have c34 := y3.cell 4; have M3 := Lib.hid y3; clear ra rb b3 y3)
    | (go_at_call 14; (with_reducible refine (HSL.out _).mono ?_); rintro q5 w5 ⟨rfl, rfl⟩)
    | (go_at_call 18; (try rw [HW6.out]); (with_reducible refine (HN2.out _ _ _ _ _ (HT.out.below B6.out) RA6.out RB6.out).mono ?_); rintro q7 v7 ⟨rfl, b7⟩; have bb : Below v7.heap.size v7 (v7.alloc (.cells #[.int .i64 0, .int .u64 0, .int .i64 0, .int .i64 0, .int .i64 0] 24)) := (Below.refl _ v7).alloc (Nat.le_refl _) _; have z7 := Has.made v7 24 #[.int .i64 0, .int .u64 0, .int .i64 0, .int .i64 0, .int .i64 0]; have bc := below_step b7 bb; have B7 := Lib.hid (below_step B6.out bc); have y7 := M6.out.below bc M6.out.lt; have c70 := y7.cell 0; have c71 := y7.cell 1; have c72 := y7.cell 2; have c73 := y7.cell 3; have c74 := y7.cell 4; have x7 := X6.out.below bc X6.out.lt; have d70 := x7.cell 0; have d71 := x7.cell 1; have d72 := x7.cell 2; have d73 := x7.cell 3; have d74 := x7.cell 4; have e70 := z7.cell 0; have e71 := z7.cell 1; have e72 := z7.cell 2; have e73 := z7.cell 3; have e74 := z7.cell 4; clear b7 bb bc y7 x7 z7)
    | (go_at_call 18; (with_reducible refine (HN1.out _ _ _ _ _ (HT.out.below B4.out) RB4.out RA4.out).mono ?_); rintro q6 v6 ⟨rfl, b6⟩; obtain ⟨w6, hw6⟩ : ∃ x, v6.alloc (.cells #[.int .i64 label, .int .u64 (txn : Int), .int .i64 root, .int .i64 list, .int .i64 high] 24) = x := ⟨_, rfl⟩; have bb : Below v6.heap.size v6 w6 := hw6 ▸ (Below.refl _ v6).alloc (Nat.le_refl _) _; have z6 := hw6 ▸ Has.made v6 24 #[.int .i64 label, .int .u64 (txn : Int), .int .i64 root, .int .i64 list, .int .i64 high]; have bc := below_step b6 bb; have B6 := Lib.hid (below_step B4.out bc); have RA6 := Lib.hid (RA4.out.below bc); have RB6 := Lib.hid (RB4.out.below bc); have y6 := M4.out.below bc M4.out.lt; have c60 := y6.cell 0; have c61 := y6.cell 1; have c62 := y6.cell 2; have c63 := y6.cell 3; have c64 := y6.cell 4; have M6 := Lib.hid y6; have X6 := Lib.hid z6; have HW6 := Lib.hid hw6; clear b6 bb bc y6 z6))
  go_ret
  exact ⟨rfl, B7.out⟩
set_option maxRecDepth 100000 in
set_option maxHeartbeats 8000000 in
theorem walkMeOth_other1z (m : Mt) (y : UInt8) (x mx : Nat) (w : World) (ht : Tab w) (tm : m.txn < 18446744073709551616) (hc : checkM m) (hs : m.txn % 2 = 1) (ho : ¬ ((y.toNat % 64 : Nat) : Int) = m.label) (hmx : x = 0 ∧ mx = 1) (hx : x < 18446744073709551616) :
    Calls Tryd.prog 6 #[mtV m, .int .u8 (y.toNat : Int), .int .u64 (x : Int)] w fun e w' => e = .returned (.bool true) ∧ Below w.heap.size w w' := by
  have hz := zero_meta
  obtain ⟨W, hW, hb, hm⟩ := mbox w m
  have hmx1 : 0 < mx := by omega
  have hmx2 : mx < 18446744073709551616 := by omega
  have hoc := othM_ok (o := y.toNat % 64) (mx := mx) (by omega) hmx1
  have HA := Lib.hid (awake10_any W (ht.below hb))
  have HCM := Lib.hid (fun w1 => mCheck_any m w1)
  rw [decide_eq_true hc] at HCM
  have HSL := Lib.hid (fun w1 => mSlot_any m.txn w1 tm)
  rw [hs] at HSL
  have HT := Lib.hid ht
  have HPM := Lib.hid (fun w1 h => mPut_page m w1 h hc tm)
  have HPO : Hid (∀ w1, Tab w1 → Calls Tryd.prog 9 #[.agg #[.int .i64 ((y.toNat % 64 : Nat) : Int), .int .u64 (mx : Int), .int .i64 0, .int .i64 0, .int .i64 2]] w1 (PutEnd10 (pageM (othM (y.toNat % 64) mx)) w1)) := Lib.hid (fun w1 h => mPut_page (othM (y.toNat % 64) mx) w1 h hoc hmx2)
  have HN1 := Lib.hid (fun A1 A2 c1 c2 w1 ht (h1 : Arg w1 A1 128 c1 (pageM (othM (y.toNat % 64) mx))) (h2 : Arg w1 A2 128 c2 (pageM m)) => mNewest_any A1 A2 128 c1 128 c2 (pageM (othM (y.toNat % 64) mx)) (pageM m) m.label w1 ht h1 h2)
  have HN2 := Lib.hid (fun A1 A2 c1 c2 w1 ht (h1 : Arg w1 A1 128 c1 (pageM m)) (h2 : Arg w1 A2 128 c2 (pageM (othM (y.toNat % 64) mx))) => mNewest_any A1 A2 128 c1 128 c2 (pageM m) (pageM (othM (y.toNat % 64) mx)) m.label w1 ht h1 h2)
  have e1 : newestM (pageM (othM (y.toNat % 64) mx)) (pageM m) m.label = (m, true) := by
    unfold newestM
    rw [count_own hc tm hs, count_label hoc hmx2 0 ho, newer_first _ (fun h => by cases h)]
  have e2 : newestM (pageM m) (pageM (othM (y.toNat % 64) mx)) m.label = (mt0, false) := by
    unfold newestM
    rw [count_slot hc tm (slot := 0) (by omega), count_label hoc hmx2 1 ho, newer_no]
  rw [e1] at HN1
  rw [e2] at HN2
  unfold NewM10 at HN1 HN2
  rw [show mtV ((mt0, false) : Mt × Bool).1 = .agg #[.int .i64 0, .int .u64 0, .int .i64 0, .int .i64 0, .int .i64 0] from rfl] at HN2
  simp only at HN1 HN2
  generalize pageM (othM (y.toNat % 64) mx) = po at HPO HN1 HN2
  generalize pageM m = pm at HPM HN1 HN2
  unfold PutEnd10 at HPM HPO
  obtain ⟨label, txn, root, list, high⟩ := m
  simp only [mtV, mtC] at hW hm ho hs HCM HSL HPM HN1 HN2 ⊢
  clear e1 e2
  have HB := Lib.hid hb
  have HM := Lib.hid hm
  have hy : y.toNat < 256 := UInt8.toNat_lt y
  have hq1 : ((((y.toNat % 64 : Nat) : Int)) != label) = true := bne_iff_ne.2 ho
  clear hb hm ht hc tm hs ho hoc
  generalize hyo : y.toNat % 64 = yo at *
  have hyi : (y.toNat : Int) % 64 = (yo : Int) := by omega
  have hyt : (y.toNat : Int).tmod 64 = (yo : Int) := by rw [Int.tmod_eq_emod_of_nonneg (by omega)]; exact hyi
  have hyw : IntKind.u8.wrap (yo : Int) = (yo : Int) := IntWalk.u8_in _ (by omega)
  clear hyo hx hmx1 hmx2
  obtain ⟨rfl, rfl⟩ := hmx
  rw [show ((1 : Nat) : Int) = 1 from rfl] at HPO
  rw [show ((0 : Nat) : Int) = 0 from rfl]
  go_enter Tryd.func6, Tryd.ntmps6
  go_wp2_with (first
    | (go_at_call 8; (try rw [hW]); (with_reducible refine HA.out.mono ?_); rintro q0 w1 ⟨rfl, b1⟩; have B1 := Lib.hid (below_step HB.out b1); have y1 := HM.out.below b1 HM.out.lt; have c10 := y1.cell 0; have c11 := y1.cell 1; have c12 := y1.cell 2; have c13 := y1.cell 3; have c14 := y1.cell 4; have M1 := Lib.hid y1; clear b1 y1)
    | (go_at_call 12; (with_reducible refine (HCM.out _).mono ?_); rintro q2 w2 ⟨rfl, b2⟩; have B2 := Lib.hid (below_step B1.out b2); have y2 := M1.out.below b2 M1.out.lt; have c20 := y2.cell 0; have c21 := y2.cell 1; have c22 := y2.cell 2; have c23 := y2.cell 3; have c24 := y2.cell 4; have M2 := Lib.hid y2; clear b2 y2)
    | (go_at_call 9; (with_reducible refine (HPO.out _ (HT.out.below B3.out)).mono ?_); rintro q4 w4 ⟨A2, k2, rfl, ra, rb, b4⟩; have RA4 := Lib.hid (RA3.out.below b4); have RB4 := Lib.hid ra; have B4 := Lib.hid (below_step B3.out b4); have y4 := M3.out.below b4 M3.out.lt; have c40 := y4.cell 0; have c41 := y4.cell 1; have c42 := y4.cell 2; have c43 := y4.cell 3; have c44 := y4.cell 4; have M4 := Lib.hid y4; clear ra rb b4 y4)
    | (go_at_call 9; (with_reducible refine (HPM.out _ (HT.out.below B2.out)).mono ?_); rintro q3 w3 ⟨A1, k1, rfl, ra, rb, b3⟩; have RA3 := Lib.hid ra; have B3 := Lib.hid (below_step B2.out b3); have y3 := M2.out.below b3 M2.out.lt; have c30 := y3.cell 0; have c31 := y3.cell 1; have c32 := y3.cell 2; have c33 := y3.cell 3; have c34 := y3.cell 4; have M3 := Lib.hid y3; clear ra rb b3 y3)
    | (go_at_call 14; (with_reducible refine (HSL.out _).mono ?_); rintro q5 w5 ⟨rfl, rfl⟩)
    | (go_at_call 18; (try rw [HW6.out]); (with_reducible refine (HN2.out _ _ _ _ _ (HT.out.below B6.out) RA6.out RB6.out).mono ?_); rintro q7 v7 ⟨rfl, b7⟩; have bb : Below v7.heap.size v7 (v7.alloc (.cells #[.int .i64 0, .int .u64 0, .int .i64 0, .int .i64 0, .int .i64 0] 24)) := (Below.refl _ v7).alloc (Nat.le_refl _) _; have z7 := Has.made v7 24 #[.int .i64 0, .int .u64 0, .int .i64 0, .int .i64 0, .int .i64 0]; have bc := below_step b7 bb; have B7 := Lib.hid (below_step B6.out bc); have y7 := M6.out.below bc M6.out.lt; have c70 := y7.cell 0; have c71 := y7.cell 1; have c72 := y7.cell 2; have c73 := y7.cell 3; have c74 := y7.cell 4; have x7 := X6.out.below bc X6.out.lt; have d70 := x7.cell 0; have d71 := x7.cell 1; have d72 := x7.cell 2; have d73 := x7.cell 3; have d74 := x7.cell 4; have e70 := z7.cell 0; have e71 := z7.cell 1; have e72 := z7.cell 2; have e73 := z7.cell 3; have e74 := z7.cell 4; clear b7 bb bc y7 x7 z7)
    | (go_at_call 18; (with_reducible refine (HN1.out _ _ _ _ _ (HT.out.below B4.out) RB4.out RA4.out).mono ?_); rintro q6 v6 ⟨rfl, b6⟩; obtain ⟨w6, hw6⟩ : ∃ x, v6.alloc (.cells #[.int .i64 label, .int .u64 (txn : Int), .int .i64 root, .int .i64 list, .int .i64 high] 24) = x := ⟨_, rfl⟩; have bb : Below v6.heap.size v6 w6 := hw6 ▸ (Below.refl _ v6).alloc (Nat.le_refl _) _; have z6 := hw6 ▸ Has.made v6 24 #[.int .i64 label, .int .u64 (txn : Int), .int .i64 root, .int .i64 list, .int .i64 high]; have bc := below_step b6 bb; have B6 := Lib.hid (below_step B4.out bc); have RA6 := Lib.hid (RA4.out.below bc); have RB6 := Lib.hid (RB4.out.below bc); have y6 := M4.out.below bc M4.out.lt; have c60 := y6.cell 0; have c61 := y6.cell 1; have c62 := y6.cell 2; have c63 := y6.cell 3; have c64 := y6.cell 4; have M6 := Lib.hid y6; have X6 := Lib.hid z6; have HW6 := Lib.hid hw6; clear b6 bb bc y6 z6))
  go_ret
  exact ⟨rfl, B7.out⟩
theorem walkMeOth_no (m : Mt) (y : UInt8) (x : Nat) (w : World) (ht : Tab w) (hc : ¬ checkM m) :
    Calls Tryd.prog 6 #[mtV m, .int .u8 (y.toNat : Int), .int .u64 (x : Int)] w fun e w' => e = .returned (.bool true) ∧ Below w.heap.size w w' := by
  obtain ⟨W, hW, hb, hm⟩ := mbox w m
  have HA := Lib.hid (awake10_any W (ht.below hb))
  have HCM := Lib.hid (fun w1 => mCheck_any m w1)
  rw [decide_eq_false hc] at HCM
  obtain ⟨label, txn, root, list, high⟩ := m
  simp only [mtV, mtC] at hW hm HCM ⊢
  have HB := Lib.hid hb
  have HM := Lib.hid hm
  clear hb hm ht hc
  go_enter Tryd.func6, Tryd.ntmps6
  go_wp2_with (first
    | (go_at_call 8; (try rw [hW]); (with_reducible refine HA.out.mono ?_); rintro q0 w1 ⟨rfl, b1⟩; have B1 := Lib.hid (below_step HB.out b1); have y1 := HM.out.below b1 HM.out.lt; have c10 := y1.cell 0; have c11 := y1.cell 1; have c12 := y1.cell 2; have c13 := y1.cell 3; have c14 := y1.cell 4; clear b1 y1)
    | (go_at_call 12; (with_reducible refine (HCM.out _).mono ?_); rintro q2 w2 ⟨rfl, b2⟩; have B2 := Lib.hid (below_step B1.out b2); clear b2))
  go_ret
  exact ⟨rfl, B2.out⟩
theorem walkMeOth (m : Mt) (y : UInt8) (x : Nat) (w : World) (ht : Tab w) (tm : m.txn < 18446744073709551616) (hx : x < 18446744073709551616) :
    Calls Tryd.prog 6 #[mtV m, .int .u8 (y.toNat : Int), .int .u64 (x : Int)] w fun e w' => e = .returned (.bool true) ∧ Below w.heap.size w w' := by
  by_cases hc : checkM m
  · have hs : m.txn % 2 = 0 ∨ m.txn % 2 = 1 := by omega
    have hz : 1 ≤ x ∨ x = 0 := by omega
    by_cases ho : ((y.toNat % 64 : Nat) : Int) = m.label
    · rcases hs with hs | hs
      · rcases hz with hz | hz
        · exact walkMeOth_same0b m y x x w ht tm hc hs ho ⟨hz, rfl⟩ hx
        · exact walkMeOth_same0z m y x 1 w ht tm hc hs ho ⟨hz, rfl⟩ hx
      · rcases hz with hz | hz
        · exact walkMeOth_same1b m y x x w ht tm hc hs ho ⟨hz, rfl⟩ hx
        · exact walkMeOth_same1z m y x 1 w ht tm hc hs ho ⟨hz, rfl⟩ hx
    · rcases hs with hs | hs
      · rcases hz with hz | hz
        · exact walkMeOth_other0b m y x x w ht tm hc hs ho ⟨hz, rfl⟩ hx
        · exact walkMeOth_other0z m y x 1 w ht tm hc hs ho ⟨hz, rfl⟩ hx
      · rcases hz with hz | hz
        · exact walkMeOth_other1b m y x x w ht tm hc hs ho ⟨hz, rfl⟩ hx
        · exact walkMeOth_other1z m y x 1 w ht tm hc hs ho ⟨hz, rfl⟩ hx
  · exact walkMeOth_no m y x w ht hc
end Go.Proofs.YtpikcodnonodlaaDoor
