import Derived.Test.YtpikcodnonodlaaDoorJMtq
/- Of a claim's texts, joined: MeFal. No statement but in the last. -/
namespace Go.Proofs.YtpikcodnonodlaaDoor
open Go.RowKit
set_option linter.unusedVariables false

theorem walkMeFal_no (m : Mt) (y : UInt8) (w : World) (ht : Tab w) (hc : ¬ checkM m) :
    Calls Tryd.prog 5 #[mtV m, .int .u8 (y.toNat : Int)] w fun e w' => e = .returned (.bool true) ∧ Below w.heap.size w w' := by
  obtain ⟨W, hW, hb, hm⟩ := mbox w m
  have HA := Lib.hid (awake10_any W (ht.below hb))
  have HCM := Lib.hid (fun w1 => mCheck_any m w1)
  rw [decide_eq_false hc] at HCM
  obtain ⟨label, txn, root, list, high⟩ := m
  simp only [mtV, mtC] at hW hm HCM ⊢
  have HB := Lib.hid hb
  have HM := Lib.hid hm
  clear hb hm ht hc
  go_enter Tryd.func5, Tryd.ntmps5
  go_wp2_with (first
    | (go_at_call 8; (try rw [hW]); (with_reducible refine HA.out.mono ?_); rintro q0 w1 ⟨rfl, b1⟩; have B1 := Lib.hid (below_step HB.out b1); have y1 := HM.out.below b1 HM.out.lt; have c10 := y1.cell 0; have c11 := y1.cell 1; have c12 := y1.cell 2; have c13 := y1.cell 3; have c14 := y1.cell 4; have M1 := Lib.hid y1; clear b1 y1)
    | (go_at_call 12; (with_reducible refine (HCM.out _).mono ?_); rintro q2 w2 ⟨rfl, b2⟩; have B2 := Lib.hid (below_step B1.out b2); have y2 := M1.out.below b2 M1.out.lt; have c20 := y2.cell 0; have c21 := y2.cell 1; have c22 := y2.cell 2; have c23 := y2.cell 3; have c24 := y2.cell 4; clear b2 y2))
  go_ret
  exact ⟨rfl, B2.out⟩
theorem walkMeFal_far (m : Mt) (y : UInt8) (w : World) (ht : Tab w) (hc : checkM m) (hf : 4611686018427387904 < m.txn) :
    Calls Tryd.prog 5 #[mtV m, .int .u8 (y.toNat : Int)] w fun e w' => e = .returned (.bool true) ∧ Below w.heap.size w w' := by
  obtain ⟨W, hW, hb, hm⟩ := mbox w m
  have HA := Lib.hid (awake10_any W (ht.below hb))
  have HCM := Lib.hid (fun w1 => mCheck_any m w1)
  rw [decide_eq_true hc] at HCM
  obtain ⟨label, txn, root, list, high⟩ := m
  simp only [mtV, mtC] at hW hm HCM ⊢
  have HB := Lib.hid hb
  have HM := Lib.hid hm
  have hf2 : (4611686018427387904 : Int) < (txn : Int) := by simp only at hf; omega
  clear hf
  clear hb hm ht hc
  go_enter Tryd.func5, Tryd.ntmps5
  go_wp2_with (first
    | (go_at_call 8; (try rw [hW]); (with_reducible refine HA.out.mono ?_); rintro q0 w1 ⟨rfl, b1⟩; have B1 := Lib.hid (below_step HB.out b1); have y1 := HM.out.below b1 HM.out.lt; have c10 := y1.cell 0; have c11 := y1.cell 1; have c12 := y1.cell 2; have c13 := y1.cell 3; have c14 := y1.cell 4; have M1 := Lib.hid y1; clear b1 y1)
    | (go_at_call 12; (with_reducible refine (HCM.out _).mono ?_); rintro q2 w2 ⟨rfl, b2⟩; have B2 := Lib.hid (below_step B1.out b2); have y2 := M1.out.below b2 M1.out.lt; have c20 := y2.cell 0; have c21 := y2.cell 1; have c22 := y2.cell 2; have c23 := y2.cell 3; have c24 := y2.cell 4; clear b2 y2))
  go_ret
  exact ⟨rfl, B2.out⟩
set_option maxRecDepth 100000 in
set_option maxHeartbeats 16000000 in
theorem walkMeFal_yes0 (m : Mt) (y : UInt8) (tn yo : Nat) (w : World) (ht : Tab w) (hc : checkM m) (hf : ¬ 4611686018427387904 < m.txn) (hs : m.txn % 2 = 0) (htn : m.txn + 1 = tn) (hyo : y.toNat % 128 = yo) :
    Calls Tryd.prog 5 #[mtV m, .int .u8 (y.toNat : Int)] w fun e w' => e = .returned (.bool true) ∧ Below w.heap.size w w' := by
  have hmx : Tryd.prog.follows .mixedOrders = true := by kernel_rfl
  have hz := zero_meta
  have hmk := make_pages
  obtain ⟨W, hW, hb, hm⟩ := mbox w m
  have HA := Lib.hid (awake10_any W (ht.below hb))
  have HCM := Lib.hid (fun w1 => mCheck_any m w1)
  rw [decide_eq_true hc] at HCM
  have tm : m.txn < 18446744073709551616 := by omega
  have tn2 : tn < 18446744073709551616 := by omega
  have hnc := nowM_ok hc (t := tn) (by omega)
  have HT := Lib.hid ht
  have HPM := Lib.hid (fun w1 h => mPut_page m w1 h hc tm)
  have HPN := Lib.hid (fun w1 h => mPut_page (nowM m tn) w1 h hnc tn2)
  have HS1 := Lib.hid (fun w1 => mSlot_any m.txn w1 tm)
  rw [hs] at HS1
  have HS2 := Lib.hid (fun w1 => mSlot_any tn w1 tn2)
  rw [show tn % 2 = 1 by omega] at HS2
  have hf1 := (falls1 hc (by omega)).1 hs
  rw [htn] at hf1
  have hf2 := fun l (hl : ¬ isTag l) => (falls2 hc tm (l := l) hl).1 hs
  have hl1 := pageM_len m
  have hl2 := pageM_len (nowM m tn)
  have hg1 := pageM_tag m
  have hg2 := pageM_tag (nowM m tn)
  generalize pageM (nowM m tn) = pn at HPN hf1 hl2 hg2
  have hyl : yo < 128 := by omega
  have hk1 : yo < (pageM m).length := by omega
  have hk2 : yo < pn.length := by omega
  have hu2 := turned_any pn yo 8 (by decide) hk2 hg2
  have hu1 := turned_any (pageM m) yo 8 (by decide) hk1 hg1
  have hn2 := hf2 _ hu2
  have hn3 := falls3 hu1 hu2 m.label
  clear hg1 hg2 hu1 hu2 hf2
  generalize pageM m = pm at HPM hf1 hl1 hk1 hn2 hn3
  obtain ⟨x1, hx1⟩ : ∃ x, pm[yo]'hk1 = x := ⟨_, rfl⟩
  obtain ⟨x2, hx2⟩ : ∃ x, pn[yo]'hk2 = x := ⟨_, rfl⟩
  rw [hx2] at hn2 hn3
  rw [hx1] at hn3
  obtain ⟨z1, hz1⟩ : ∃ z, x1 ^^^ 8 = z := ⟨_, rfl⟩
  obtain ⟨z2, hz2⟩ : ∃ z, x2 ^^^ 8 = z := ⟨_, rfl⟩
  rw [hz2] at hn2 hn3
  rw [hz1] at hn3
  have hb1 := xor_eight x1
  have hb2 := xor_eight x2
  rw [hz1] at hb1
  rw [hz2] at hb2
  have HX1 := Lib.hid hx1
  have HX2 := Lib.hid hx2
  have HK1 := Lib.hid hk1
  have HK2 := Lib.hid hk2
  obtain ⟨pn2, hpn2⟩ : ∃ l, pn.set yo z2 = l := ⟨_, rfl⟩
  obtain ⟨pm2, hpm2⟩ : ∃ l, pm.set yo z1 = l := ⟨_, rfl⟩
  rw [hpn2] at hn2 hn3
  rw [hpm2] at hn3
  have HPN2 := Lib.hid hpn2
  have HPM2 := Lib.hid hpm2
  have HN1 : Hid (∀ A1 A2 c1 c2 w1, Tab w1 → Arg w1 A1 128 c1 pm → Arg w1 A2 128 c2 pn → Calls Tryd.prog 18 #[.slice A1 128 c1, .slice A2 128 c2, .int .i64 m.label] w1 (NewM10 (newestM pm pn m.label) w1)) := Lib.hid (fun A1 A2 c1 c2 w1 ht h1 h2 => mNewest_any A1 A2 128 c1 128 c2 pm pn m.label w1 ht h1 h2)
  rw [hf1] at HN1
  have HN2 : Hid (∀ A1 A2 c1 c2 w1, Tab w1 → Arg w1 A1 128 c1 pm → Arg w1 A2 128 c2 pn2 → Calls Tryd.prog 18 #[.slice A1 128 c1, .slice A2 128 c2, .int .i64 m.label] w1 (NewM10 (newestM pm pn2 m.label) w1)) := Lib.hid (fun A1 A2 c1 c2 w1 ht h1 h2 => mNewest_any A1 A2 128 c1 128 c2 pm pn2 m.label w1 ht h1 h2)
  rw [hn2] at HN2
  have HN3 : Hid (∀ A1 A2 c1 c2 w1, Tab w1 → Arg w1 A1 128 c1 pm2 → Arg w1 A2 128 c2 pn2 → Calls Tryd.prog 18 #[.slice A1 128 c1, .slice A2 128 c2, .int .i64 m.label] w1 (NewM10 (newestM pm2 pn2 m.label) w1)) := Lib.hid (fun A1 A2 c1 c2 w1 ht h1 h2 => mNewest_any A1 A2 128 c1 128 c2 pm2 pn2 m.label w1 ht h1 h2)
  rw [hn3] at HN3
  unfold NewM10 at HN1 HN2 HN3
  rw [show mtV ((mt0, false) : Mt × Bool).1 = .agg #[.int .i64 0, .int .u64 0, .int .i64 0, .int .i64 0, .int .i64 0] from rfl] at HN3
  unfold PutEnd10 at HPM HPN
  clear hf1 hn2 hn3
  obtain ⟨label, txn, root, list, high⟩ := m
  simp only [mtV, mtC, nowM] at hW hm hs htn hf tm HCM HS1 HPM HPN HN1 HN2 HN3 ⊢
  have HB := Lib.hid hb
  have HM := Lib.hid hm
  have hlt : ¬ (4611686018427387904 : Int) < (txn : Int) := by omega
  have hwt : IntKind.u64.wrap ((txn : Int) + 1) = (tn : Int) := by rw [IntWalk.u64_in _ (by omega)]; omega
  have hy : y.toNat < 256 := UInt8.toNat_lt y
  have hyt : (y.toNat : Int).tmod 128 = (yo : Int) := by rw [Int.tmod_eq_emod_of_nonneg (by omega)]; omega
  have hyw : IntKind.u8.wrap (yo : Int) = (yo : Int) := IntWalk.u8_in _ (by omega)
  have hyi0 : (0 : Int) ≤ (yo : Int) := by omega
  have hyi1 : (yo : Int) < 128 := by omega
  clear hb hm ht hc hnc hs htn hf tm tn2 hyo hy hz1 hz2 hpn2 hpm2 hx1 hx2 hl1 hl2
  go_enter Tryd.func5, Tryd.ntmps5
  go_wp2_with (first
    | (go_at_call 8; (try rw [hW]); (with_reducible refine HA.out.mono ?_); rintro q0 w1 ⟨rfl, b1⟩; have B1 := Lib.hid (below_step HB.out b1); have y1 := HM.out.below b1 HM.out.lt; have c10 := y1.cell 0; have c11 := y1.cell 1; have c12 := y1.cell 2; have c13 := y1.cell 3; have c14 := y1.cell 4; have M1 := Lib.hid y1; clear b1 y1)
    | (go_at_call 12; (with_reducible refine (HCM.out _).mono ?_); rintro q2 w2 ⟨rfl, b2⟩; have B2 := Lib.hid (below_step B1.out b2); have y2 := M1.out.below b2 M1.out.lt; have c20 := y2.cell 0; have c21 := y2.cell 1; have c22 := y2.cell 2; have c23 := y2.cell 3; have c24 := y2.cell 4; obtain ⟨w3, hw3⟩ : ∃ x, (w2.alloc (.cells #[.int .i64 label, .int .u64 (tn : Int), .int .i64 0, .int .i64 list, .int .i64 high] 24)).alloc (.cells #[.slice none 0 0, .slice none 0 0] 26) = x := ⟨_, rfl⟩; have b3 : Below w2.heap.size w2 w3 := hw3 ▸ (((Below.refl _ w2).alloc (Nat.le_refl _) _).alloc (by simp) _); have n3 : Has w3 w2.heap.size 24 #[.int .i64 label, .int .u64 (tn : Int), .int .i64 0, .int .i64 list, .int .i64 high] := hw3 ▸ ((Has.made w2 24 _).alloc _); have p3 : Has w3 (w2.heap.size + 1) 26 #[.slice none 0 0, .slice none 0 0] := by { have := Has.made (w2.alloc (.cells #[.int .i64 label, .int .u64 (tn : Int), .int .i64 0, .int .i64 list, .int .i64 high] 24)) 26 #[.slice none 0 0, .slice none 0 0]; rw [hw3] at this; simpa using this }; have y3 := y2.below b3 y2.lt; have c30 := y3.cell 0; have c31 := y3.cell 1; have c32 := y3.cell 2; have c33 := y3.cell 3; have c34 := y3.cell 4; have M3 := Lib.hid y3; have N3 := Lib.hid n3; have P3 := Lib.hid p3; have B3 := Lib.hid (below_step B2.out b3); clear b2 y2 b3 n3 p3 y3)
    | (go_at_call 9; (with_reducible refine (HPN.out _ (HT.out.below B4.out)).mono ?_); rintro q5 w5 ⟨A2, k2, rfl, ra, rb, b5⟩; obtain ⟨g2, o2, rfl, lo2, pg2⟩ := page_at rb ra; have hg12 : g1 ≠ g2 := by { have := G1.out.lt; omega }; have D1 := Lib.hid (G1.out.below b5); have D2 := Lib.hid pg2; have B5 := Lib.hid (below_step B4.out b5); have y5 := M4.out.below b5 M4.out.lt; have c50 := y5.cell 0; have c51 := y5.cell 1; have c52 := y5.cell 2; have c53 := y5.cell 3; have c54 := y5.cell 4; have n5 := N4.out.below b5 N4.out.lt; have n50 := n5.cell 0; have n51 := n5.cell 1; have n52 := n5.cell 2; have n53 := n5.cell 3; have n54 := n5.cell 4; have p5 := P4.out.below b5 P4.out.lt; have pf0 := p5.free 0; have pf1 := p5.free 1; have pc0 := p5.cell 0; have pc1 := p5.cell 1; have M5 := Lib.hid y5; have N5 := Lib.hid n5; have P5 := Lib.hid p5; clear ra rb b5 y5 n5 p5 pg2)
    | (go_at_call 9; (try rw [hw3]); (with_reducible refine (HPM.out _ (HT.out.below B3.out)).mono ?_); rintro q4 w4 ⟨A1, k1, rfl, ra, rb, b4⟩; obtain ⟨g1, o1, rfl, lo1, pg1⟩ := page_at rb ra; have G1 := Lib.hid pg1; have B4 := Lib.hid (below_step B3.out b4); have M4 := Lib.hid (M3.out.below b4 M3.out.lt); have n4 := N3.out.below b4 N3.out.lt; have n40 := n4.cell 0; have n41 := n4.cell 1; have n42 := n4.cell 2; have n43 := n4.cell 3; have n44 := n4.cell 4; have N4 := Lib.hid n4; have P4 := Lib.hid (P3.out.below b4 P3.out.lt); clear ra rb b4 n4 pg1)
    | (go_at_call 14; ((with_reducible refine (HS1.out _).mono ?_); rintro q6 w6 ⟨rfl, rfl⟩; obtain ⟨u1, hu1⟩ : ∃ x, w5.setCell ⟨w2.heap.size + 1, 0, none⟩ (.slice (some ⟨g1, o1, none⟩) 128 k1) = x := ⟨_, rfl⟩; have hP0 : w2.heap.size ≠ w2.heap.size + 1 := (by omega); have hP1 : w.heap.size ≠ w2.heap.size + 1 := Nat.ne_of_lt (Nat.lt_succ_of_le B2.out.size); have n6 : Has u1 w2.heap.size 24 #[.int .i64 label, .int .u64 (tn : Int), .int .i64 0, .int .i64 list, .int .i64 high] := hu1 ▸ N5.out.away (p := ⟨w2.heap.size + 1, 0, none⟩) hP0 _; have n60 := n6.cell 0; have n61 := n6.cell 1; have n62 := n6.cell 2; have n63 := n6.cell 3; have n64 := n6.cell 4; have p6 : Has u1 (w2.heap.size + 1) 26 #[.slice (some ⟨g1, o1, none⟩) 128 k1, .slice none 0 0] := by { rw [← hu1]; simpa using P5.out.store 0 (.slice (some ⟨g1, o1, none⟩) 128 k1) }; have pg0 := p6.free 0; have pg1 := p6.free 1; have pd0 := p6.cell 0; have pd1 := p6.cell 1; have N6 := Lib.hid n6; have P6 := Lib.hid p6; have M6 := Lib.hid (hu1 ▸ M5.out.away (p := ⟨w2.heap.size + 1, 0, none⟩) hP1 (.slice (some ⟨g1, o1, none⟩) 128 k1)); have E1 := Lib.hid (hu1 ▸ D1.out.away (p := ⟨w2.heap.size + 1, 0, none⟩) (fun e => D1.out.apart P5.out (by decide) e.symm) (.slice (some ⟨g1, o1, none⟩) 128 k1)); have E2 := Lib.hid (hu1 ▸ D2.out.away (p := ⟨w2.heap.size + 1, 0, none⟩) (fun e => D2.out.apart P5.out (by decide) e.symm) (.slice (some ⟨g1, o1, none⟩) 128 k1)); have B6 := Lib.hid (hu1 ▸ B5.out.setCell (p := ⟨w2.heap.size + 1, 0, none⟩) (Nat.le_succ_of_le B2.out.size) (.slice (some ⟨g1, o1, none⟩) 128 k1)); clear n6 p6))
    | (go_at_call 14; (with_reducible refine (HS2.out _).mono ?_); rintro q7 w7 ⟨rfl, rfl⟩))
  have FA : Fa (u1.setCell ⟨w2.heap.size + 1, 1, none⟩ (.slice (some ⟨g2, o2, none⟩) 128 k2)) w.heap.size w2.heap.size (w2.heap.size + 1) #[.int .i64 label, .int .u64 (txn : Int), .int .i64 root, .int .i64 list, .int .i64 high] #[.int .i64 label, .int .u64 (tn : Int), .int .i64 0, .int .i64 list, .int .i64 high] #[.slice (some ⟨g1, o1, none⟩) 128 k1, .slice (some ⟨g2, o2, none⟩) 128 k2] g1 o1 k1 pm g2 o2 k2 pn :=
    ⟨M6.out.away (p := ⟨w2.heap.size + 1, 1, none⟩) hP1 _, N6.out.away (p := ⟨w2.heap.size + 1, 1, none⟩) hP0 _, by simpa using P6.out.store 1 (.slice (some ⟨g2, o2, none⟩) 128 k2), E1.out.away (p := ⟨w2.heap.size + 1, 1, none⟩) (fun e => E1.out.apart P6.out (by decide) e.symm) _, E2.out.away (p := ⟨w2.heap.size + 1, 1, none⟩) (fun e => E2.out.apart P6.out (by decide) e.symm) _⟩
  have BV := B6.out.setCell (p := ⟨w2.heap.size + 1, 1, none⟩) (Nat.le_succ_of_le B2.out.size) (.slice (some ⟨g2, o2, none⟩) 128 k2)
  generalize u1.setCell ⟨w2.heap.size + 1, 1, none⟩ (.slice (some ⟨g2, o2, none⟩) 128 k2) = v0 at *
  have hS : Fa v0.drew w.heap.size w2.heap.size (w2.heap.size + 1) #[.int .i64 label, .int .u64 (txn : Int), .int .i64 root, .int .i64 list, .int .i64 high] #[.int .i64 label, .int .u64 (tn : Int), .int .i64 0, .int .i64 list, .int .i64 high] #[.slice (some ⟨g1, o1, none⟩) 128 k1, .slice (some ⟨g2, o2, none⟩) 128 k2] g1 o1 k1 pm g2 o2 k2 pn := FA.drew
  have BD : Below w.heap.size w v0.drew := BV.drew
  clear FA BV
  rename_i K hK
  refine wp_held (fun w' => Fa w' w.heap.size w2.heap.size (w2.heap.size + 1) #[.int .i64 label, .int .u64 (txn : Int), .int .i64 root, .int .i64 list, .int .i64 high] #[.int .i64 label, .int .u64 (tn : Int), .int .i64 0, .int .i64 list, .int .i64 high] #[.slice (some ⟨g1, o1, none⟩) 128 k1, .slice (some ⟨g2, o2, none⟩) 128 k2] g1 o1 k1 pm g2 o2 k2 pn) K hmx ?_ (fun _ _ h => h)
  generalize v0.drew = v1 at hS BD ⊢
  refine wpAnyH_take (i := 0) (v := .slice (some ⟨w2.heap.size + 1, 0, none⟩) 2 2) (lit rfl) (by kernel_rfl) (by kernel_rfl) (by kernel_rfl) (fun _ _ _ h => h) (Or.inl ⟨by rfl, ?_⟩) hS ?_
  · rintro w6 s1
    go_simp
  simp only [Act.put, List.setIfInBounds_toArray, List.set_cons_zero, List.set_cons_succ]
  refine wpAnyH_take (i := 1) (v := .pointer (some ⟨w2.heap.size + 1, 0, none⟩)) (lit rfl) (by kernel_rfl) (by kernel_rfl) (by kernel_rfl) (fun _ _ _ h => h) (Or.inl ⟨by rfl, ?_⟩) hS ?_
  · rintro w6 s1
    go_simp
  simp only [Act.put, List.setIfInBounds_toArray, List.set_cons_zero, List.set_cons_succ]
  refine wpAnyH_take (i := 2) (v := .slice (some ⟨g1, o1, none⟩) 128 k1) (lit rfl) (by kernel_rfl) (by kernel_rfl) (by kernel_rfl) (fun _ _ _ h => h) (Or.inl ⟨by rfl, ?_⟩) hS ?_
  · rintro w6 s1
    have d0 := s1.hp.cell 0
    go_simp
  simp only [Act.put, List.setIfInBounds_toArray, List.set_cons_zero, List.set_cons_succ]
  refine wpAnyH_take (i := 3) (v := .slice (some ⟨w2.heap.size + 1, 0, none⟩) 2 2) (lit rfl) (by kernel_rfl) (by kernel_rfl) (by kernel_rfl) (fun _ _ _ h => h) (Or.inl ⟨by rfl, ?_⟩) hS ?_
  · rintro w6 s1
    go_simp
  simp only [Act.put, List.setIfInBounds_toArray, List.set_cons_zero, List.set_cons_succ]
  refine wpAnyH_take (i := 4) (v := .pointer (some ⟨w2.heap.size + 1, 1, none⟩)) (lit rfl) (by kernel_rfl) (by kernel_rfl) (by kernel_rfl) (fun _ _ _ h => h) (Or.inl ⟨by rfl, ?_⟩) hS ?_
  · rintro w6 s1
    go_simp
  simp only [Act.put, List.setIfInBounds_toArray, List.set_cons_zero, List.set_cons_succ]
  refine wpAnyH_take (i := 5) (v := .slice (some ⟨g2, o2, none⟩) 128 k2) (lit rfl) (by kernel_rfl) (by kernel_rfl) (by kernel_rfl) (fun _ _ _ h => h) (Or.inl ⟨by rfl, ?_⟩) hS ?_
  · rintro w6 s1
    have d0 := s1.hp.cell 1
    go_simp
  simp only [Act.put, List.setIfInBounds_toArray, List.set_cons_zero, List.set_cons_succ]
  refine wpAnyH_take (i := 6) (v := .pointer (some ⟨w.heap.size, 0, none⟩)) (lit rfl) (by kernel_rfl) (by kernel_rfl) (by kernel_rfl) (fun _ _ _ h => h) (Or.inl ⟨by rfl, ?_⟩) hS ?_
  · rintro w6 s1
    go_simp
  simp only [Act.put, List.setIfInBounds_toArray, List.set_cons_zero, List.set_cons_succ]
  refine wpAnyH_take (i := 7) (v := .int .i64 label) (lit rfl) (by kernel_rfl) (by kernel_rfl) (by kernel_rfl) (fun _ _ _ h => h) (Or.inl ⟨by rfl, ?_⟩) hS ?_
  · rintro w6 s1
    have d0 := s1.hm.cell 0
    go_simp
  simp only [Act.put, List.setIfInBounds_toArray, List.set_cons_zero, List.set_cons_succ]
  refine wpAnyH_ready (rs := [8, 12]) (by kernel_rfl) (by simp) ?_
  refine AllReadyH.cons (lit rfl) (fun K5 hK5 => ?_) (AllReadyH.cons (lit rfl) (fun K5 hK5 => ?_) AllReadyH.nil)
  · refine step_open rfl ?_
    go_simp
    go_at_call 18
    (with_reducible refine (HN1.out _ _ _ _ _ (HT.out.below BD) hS.p1.arg hS.p2.arg).mono ?_)
    rintro y1 v2 ⟨rfl, b1⟩
    replace hS := hS.below b1
    replace BD := below_step BD b1
    clear b1
    refine hK5.out _ _ hS (fun _ => ?_)
    clear hK5 K5
    refine wpAnyH_take (i := 9) (v := .tuple #[.agg #[.int .i64 label, .int .u64 (tn : Int), .int .i64 0, .int .i64 list, .int .i64 high], .bool true]) (lit rfl) (by kernel_rfl) (by kernel_rfl) (by kernel_rfl) (fun _ _ _ h => h) (Or.inl ⟨by rfl, ?_⟩) hS ?_
    · rintro w6 s1
      go_simp
    simp only [Act.put, List.setIfInBounds_toArray, List.set_cons_zero, List.set_cons_succ]
    refine wpAnyH_take (i := 10) (v := .agg #[.int .i64 label, .int .u64 (tn : Int), .int .i64 0, .int .i64 list, .int .i64 high]) (lit rfl) (by kernel_rfl) (by kernel_rfl) (by kernel_rfl) (fun _ _ _ h => h) (Or.inl ⟨by rfl, ?_⟩) hS ?_
    · rintro w6 s1
      go_simp
    simp only [Act.put, List.setIfInBounds_toArray, List.set_cons_zero, List.set_cons_succ]
    refine wpAnyH_take (i := 11) (v := .bool true) (lit rfl) (by kernel_rfl) (by kernel_rfl) (by kernel_rfl) (fun _ _ _ h => h) (Or.inl ⟨by rfl, ?_⟩) hS ?_
    · rintro w6 s1
      go_simp
    simp only [Act.put, List.setIfInBounds_toArray, List.set_cons_zero, List.set_cons_succ]
    refine wpAnyH_ready (rs := [12]) (by kernel_rfl) (by simp) ?_
    refine AllReadyH.cons (lit rfl) (fun K5 hK5 => ?_) AllReadyH.nil
    refine step_open rfl ?_
    go_simp
    obtain ⟨v3, hv3⟩ : ∃ x, v2.alloc (.cells #[.int .i64 0, .int .u64 0, .int .i64 0, .int .i64 0, .int .i64 0] 24) = x := ⟨_, rfl⟩
    try rw [hv3]
    have b1 : Below v2.heap.size v2 v3 := hv3 ▸ (Below.refl _ v2).alloc (Nat.le_refl _) _
    have BX := hv3 ▸ Has.made v2 24 #[.int .i64 0, .int .u64 0, .int .i64 0, .int .i64 0, .int .i64 0]
    have hb0 : w.heap.size ≠ v2.heap.size := Nat.ne_of_lt hS.hm.lt
    have hbN : w2.heap.size ≠ v2.heap.size := Nat.ne_of_lt hS.hn.lt
    have hbl : w.heap.size < v2.heap.size := hS.hm.lt
    replace hS := hS.below b1
    replace BD := below_step BD b1
    have f80 := BX.free 0
    have f81 := BX.free 1
    have f82 := BX.free 2
    have f83 := BX.free 3
    have f84 := BX.free 4
    have e80 := BX.cell 0
    have e81 := BX.cell 1
    have e82 := BX.cell 2
    have e83 := BX.cell 3
    have e84 := BX.cell 4
    clear b1 hv3
    refine hK5.out _ _ hS (fun _ => ?_)
    clear hK5 K5
    refine wpAnyH_ready (rs := [13]) (by kernel_rfl) (by simp) ?_
    refine AllReadyH.cons (lit rfl) (fun K5 hK5 => ?_) AllReadyH.nil
    refine step_open rfl ?_
    go_simp
    replace hS := hS.box BX hb0 hbN (.int .i64 label) (.int .u64 (tn : Int)) (.int .i64 0) (.int .i64 list) (.int .i64 high)
    replace BD := below_setM BD (Nat.le_of_lt hbl) (.int .i64 label) (.int .u64 (tn : Int)) (.int .i64 0) (.int .i64 list) (.int .i64 high)
    replace BX := BX.setM (.int .i64 label) (.int .u64 (tn : Int)) (.int .i64 0) (.int .i64 list) (.int .i64 high)
    clear f80 e80
    clear f81 e81
    clear f82 e82
    clear f83 e83
    clear f84 e84
    refine hK5.out _ _ hS (fun _ => ?_)
    clear hK5 K5
    refine wpAnyH_take (i := 14) (v := .bool true) (lit rfl) (by kernel_rfl) (by kernel_rfl) (by kernel_rfl) (fun _ _ _ h => h) (Or.inl ⟨by rfl, ?_⟩) hS ?_
    · rintro w6 s1
      go_simp
    simp only [Act.put, List.setIfInBounds_toArray, List.set_cons_zero, List.set_cons_succ]
    obtain ⟨v4, hnv⟩ : ∃ x, stM5 v3 v2.heap.size (.int .i64 label) (.int .u64 (tn : Int)) (.int .i64 0) (.int .i64 list) (.int .i64 high) = x := ⟨_, rfl⟩
    rw [hnv] at hS BD BX
    unfold stM5 at hnv
    try rw [hnv]
    refine wpAnyH_done (by kernel_rfl) ?_ _
    refine hK _ _ ?_
    clear hK K
    have n70 := hS.hn.cell 0
    have n71 := hS.hn.cell 1
    have n72 := hS.hn.cell 2
    have n73 := hS.hn.cell 3
    have n74 := hS.hn.cell 4
    have e70 := BX.cell 0
    have e71 := BX.cell 1
    have e72 := BX.cell 2
    have e73 := BX.cell 3
    have e74 := BX.cell 4
    have fb := (hS.p2.at yo HK2.out).2
    have cb := (hS.p2.at yo HK2.out).1
    rw [HX2.out] at cb
    have FA := Lib.hid hS
    have BV := Lib.hid BD
    have BXH := Lib.hid BX
    clear hS BD BX
    go_wp2
    have hS := FA.out.turn2 hg12 yo HK2.out z2
    rw [HPN2.out] at hS
    have BX := BXH.out.away (p := ⟨g2, o2 + yo, none⟩) (FA.out.p2.apart BXH.out (by decide)) (.int .u8 (z2.toNat : Int))
    have BD := BV.out.setCell (p := ⟨g2, o2 + yo, none⟩) (by show w.heap.size ≤ g2; have := B4.out.size; omega) (.int .u8 (z2.toNat : Int))
    generalize v4.setCell ⟨g2, o2 + yo, none⟩ (.int .u8 (z2.toNat : Int)) = a0 at *
    replace hS : Fa a0.drew w.heap.size w2.heap.size (w2.heap.size + 1) #[.int .i64 label, .int .u64 (txn : Int), .int .i64 root, .int .i64 list, .int .i64 high] #[.int .i64 label, .int .u64 (tn : Int), .int .i64 0, .int .i64 list, .int .i64 high] #[.slice (some ⟨g1, o1, none⟩) 128 k1, .slice (some ⟨g2, o2, none⟩) 128 k2] g1 o1 k1 pm g2 o2 k2 pn2 := hS.drew
    replace BD : Below w.heap.size w a0.drew := BD.drew
    replace BX : Has a0.drew v2.heap.size 24 #[.int .i64 label, .int .u64 (tn : Int), .int .i64 0, .int .i64 list, .int .i64 high] := BX
    clear fb cb FA BV BXH
    rename_i K hK
    refine wp_held (fun w' => Fa w' w.heap.size w2.heap.size (w2.heap.size + 1) #[.int .i64 label, .int .u64 (txn : Int), .int .i64 root, .int .i64 list, .int .i64 high] #[.int .i64 label, .int .u64 (tn : Int), .int .i64 0, .int .i64 list, .int .i64 high] #[.slice (some ⟨g1, o1, none⟩) 128 k1, .slice (some ⟨g2, o2, none⟩) 128 k2] g1 o1 k1 pm g2 o2 k2 pn2) K hmx ?_ (fun _ _ h => h)
    generalize a0.drew = a1 at hS BD BX ⊢
    refine wpAnyH_take (i := 0) (v := .slice (some ⟨w2.heap.size + 1, 0, none⟩) 2 2) (lit rfl) (by kernel_rfl) (by kernel_rfl) (by kernel_rfl) (fun _ _ _ h => h) (Or.inl ⟨by rfl, ?_⟩) hS ?_
    · rintro w6 s1
      go_simp
    simp only [Act.put, List.setIfInBounds_toArray, List.set_cons_zero, List.set_cons_succ]
    refine wpAnyH_take (i := 1) (v := .pointer (some ⟨w2.heap.size + 1, 0, none⟩)) (lit rfl) (by kernel_rfl) (by kernel_rfl) (by kernel_rfl) (fun _ _ _ h => h) (Or.inl ⟨by rfl, ?_⟩) hS ?_
    · rintro w6 s1
      go_simp
    simp only [Act.put, List.setIfInBounds_toArray, List.set_cons_zero, List.set_cons_succ]
    refine wpAnyH_take (i := 2) (v := .slice (some ⟨g1, o1, none⟩) 128 k1) (lit rfl) (by kernel_rfl) (by kernel_rfl) (by kernel_rfl) (fun _ _ _ h => h) (Or.inl ⟨by rfl, ?_⟩) hS ?_
    · rintro w6 s1
      have d0 := s1.hp.cell 0
      go_simp
    simp only [Act.put, List.setIfInBounds_toArray, List.set_cons_zero, List.set_cons_succ]
    refine wpAnyH_take (i := 3) (v := .slice (some ⟨w2.heap.size + 1, 0, none⟩) 2 2) (lit rfl) (by kernel_rfl) (by kernel_rfl) (by kernel_rfl) (fun _ _ _ h => h) (Or.inl ⟨by rfl, ?_⟩) hS ?_
    · rintro w6 s1
      go_simp
    simp only [Act.put, List.setIfInBounds_toArray, List.set_cons_zero, List.set_cons_succ]
    refine wpAnyH_take (i := 4) (v := .pointer (some ⟨w2.heap.size + 1, 1, none⟩)) (lit rfl) (by kernel_rfl) (by kernel_rfl) (by kernel_rfl) (fun _ _ _ h => h) (Or.inl ⟨by rfl, ?_⟩) hS ?_
    · rintro w6 s1
      go_simp
    simp only [Act.put, List.setIfInBounds_toArray, List.set_cons_zero, List.set_cons_succ]
    refine wpAnyH_take (i := 5) (v := .slice (some ⟨g2, o2, none⟩) 128 k2) (lit rfl) (by kernel_rfl) (by kernel_rfl) (by kernel_rfl) (fun _ _ _ h => h) (Or.inl ⟨by rfl, ?_⟩) hS ?_
    · rintro w6 s1
      have d0 := s1.hp.cell 1
      go_simp
    simp only [Act.put, List.setIfInBounds_toArray, List.set_cons_zero, List.set_cons_succ]
    refine wpAnyH_take (i := 6) (v := .pointer (some ⟨w.heap.size, 0, none⟩)) (lit rfl) (by kernel_rfl) (by kernel_rfl) (by kernel_rfl) (fun _ _ _ h => h) (Or.inl ⟨by rfl, ?_⟩) hS ?_
    · rintro w6 s1
      go_simp
    simp only [Act.put, List.setIfInBounds_toArray, List.set_cons_zero, List.set_cons_succ]
    refine wpAnyH_take (i := 7) (v := .int .i64 label) (lit rfl) (by kernel_rfl) (by kernel_rfl) (by kernel_rfl) (fun _ _ _ h => h) (Or.inl ⟨by rfl, ?_⟩) hS ?_
    · rintro w6 s1
      have d0 := s1.hm.cell 0
      go_simp
    simp only [Act.put, List.setIfInBounds_toArray, List.set_cons_zero, List.set_cons_succ]
    refine wpAnyH_ready (rs := [8]) (by kernel_rfl) (by simp) ?_
    refine AllReadyH.cons (lit rfl) (fun K5 hK5 => ?_) AllReadyH.nil
    refine step_open rfl ?_
    go_simp
    go_at_call 18
    (with_reducible refine (HN2.out _ _ _ _ _ (HT.out.below BD) hS.p1.arg hS.p2.arg).mono ?_)
    rintro y2 a2 ⟨rfl, b1⟩
    replace hS := hS.below b1
    replace BD := below_step BD b1
    replace BX := BX.below b1 BX.lt
    have f80 := BX.free 0
    have f81 := BX.free 1
    have f82 := BX.free 2
    have f83 := BX.free 3
    have f84 := BX.free 4
    have e80 := BX.cell 0
    have e81 := BX.cell 1
    have e82 := BX.cell 2
    have e83 := BX.cell 3
    have e84 := BX.cell 4
    clear b1
    refine hK5.out _ _ hS (fun _ => ?_)
    clear hK5 K5
    refine wpAnyH_take (i := 9) (v := .tuple #[.agg #[.int .i64 label, .int .u64 (txn : Int), .int .i64 root, .int .i64 list, .int .i64 high], .bool true]) (lit rfl) (by kernel_rfl) (by kernel_rfl) (by kernel_rfl) (fun _ _ _ h => h) (Or.inl ⟨by rfl, ?_⟩) hS ?_
    · rintro w6 s1
      go_simp
    simp only [Act.put, List.setIfInBounds_toArray, List.set_cons_zero, List.set_cons_succ]
    refine wpAnyH_take (i := 10) (v := .agg #[.int .i64 label, .int .u64 (txn : Int), .int .i64 root, .int .i64 list, .int .i64 high]) (lit rfl) (by kernel_rfl) (by kernel_rfl) (by kernel_rfl) (fun _ _ _ h => h) (Or.inl ⟨by rfl, ?_⟩) hS ?_
    · rintro w6 s1
      go_simp
    simp only [Act.put, List.setIfInBounds_toArray, List.set_cons_zero, List.set_cons_succ]
    refine wpAnyH_take (i := 11) (v := .bool true) (lit rfl) (by kernel_rfl) (by kernel_rfl) (by kernel_rfl) (fun _ _ _ h => h) (Or.inl ⟨by rfl, ?_⟩) hS ?_
    · rintro w6 s1
      go_simp
    simp only [Act.put, List.setIfInBounds_toArray, List.set_cons_zero, List.set_cons_succ]
    refine wpAnyH_ready (rs := [12]) (by kernel_rfl) (by simp) ?_
    refine AllReadyH.cons (lit rfl) (fun K5 hK5 => ?_) AllReadyH.nil
    refine step_open rfl ?_
    go_simp
    replace hS := hS.box BX hb0 hbN (.int .i64 label) (.int .u64 (txn : Int)) (.int .i64 root) (.int .i64 list) (.int .i64 high)
    replace BD := below_setM BD (Nat.le_of_lt hbl) (.int .i64 label) (.int .u64 (txn : Int)) (.int .i64 root) (.int .i64 list) (.int .i64 high)
    replace BX := BX.setM (.int .i64 label) (.int .u64 (txn : Int)) (.int .i64 root) (.int .i64 list) (.int .i64 high)
    clear f80 e80
    clear f81 e81
    clear f82 e82
    clear f83 e83
    clear f84 e84
    refine hK5.out _ _ hS (fun _ => ?_)
    clear hK5 K5
    refine wpAnyH_take (i := 13) (v := .bool true) (lit rfl) (by kernel_rfl) (by kernel_rfl) (by kernel_rfl) (fun _ _ _ h => h) (Or.inl ⟨by rfl, ?_⟩) hS ?_
    · rintro w6 s1
      go_simp
    simp only [Act.put, List.setIfInBounds_toArray, List.set_cons_zero, List.set_cons_succ]
    refine wpAnyH_done (by kernel_rfl) ?_ _
    refine hK _ _ ?_
    clear hK K
    change Has (stM5 a2 v2.heap.size (.int .i64 label) (.int .u64 (txn : Int)) (.int .i64 root) (.int .i64 list) (.int .i64 high)) _ _ _ at BX
    obtain ⟨a3, ha3⟩ : ∃ x, stM5 a2 v2.heap.size (.int .i64 label) (.int .u64 (txn : Int)) (.int .i64 root) (.int .i64 list) (.int .i64 high) = x := ⟨_, rfl⟩
    rw [ha3] at hS BD BX
    unfold stM5 at ha3
    try rw [ha3]
    have m90 := hS.hm.cell 0
    have m91 := hS.hm.cell 1
    have m92 := hS.hm.cell 2
    have m93 := hS.hm.cell 3
    have m94 := hS.hm.cell 4
    have e90 := BX.cell 0
    have e91 := BX.cell 1
    have e92 := BX.cell 2
    have e93 := BX.cell 3
    have e94 := BX.cell 4
    have fb := (hS.p1.at yo HK1.out).2
    have cb := (hS.p1.at yo HK1.out).1
    rw [HX1.out] at cb
    have FA := Lib.hid hS
    have BV := Lib.hid BD
    clear hS BD BX
    go_wp2
    have hS := FA.out.turn1 hg12 yo HK1.out z1
    rw [HPM2.out] at hS
    have BD := BV.out.setCell (p := ⟨g1, o1 + yo, none⟩) (by show w.heap.size ≤ g1; have := B3.out.size; omega) (.int .u8 (z1.toNat : Int))
    generalize a3.setCell ⟨g1, o1 + yo, none⟩ (.int .u8 (z1.toNat : Int)) = d0 at *
    replace hS : Fa d0.drew w.heap.size w2.heap.size (w2.heap.size + 1) #[.int .i64 label, .int .u64 (txn : Int), .int .i64 root, .int .i64 list, .int .i64 high] #[.int .i64 label, .int .u64 (tn : Int), .int .i64 0, .int .i64 list, .int .i64 high] #[.slice (some ⟨g1, o1, none⟩) 128 k1, .slice (some ⟨g2, o2, none⟩) 128 k2] g1 o1 k1 pm2 g2 o2 k2 pn2 := hS.drew
    replace BD : Below w.heap.size w d0.drew := BD.drew
    clear fb cb FA BV
    rename_i K hK
    refine wp_held (fun w' => Fa w' w.heap.size w2.heap.size (w2.heap.size + 1) #[.int .i64 label, .int .u64 (txn : Int), .int .i64 root, .int .i64 list, .int .i64 high] #[.int .i64 label, .int .u64 (tn : Int), .int .i64 0, .int .i64 list, .int .i64 high] #[.slice (some ⟨g1, o1, none⟩) 128 k1, .slice (some ⟨g2, o2, none⟩) 128 k2] g1 o1 k1 pm2 g2 o2 k2 pn2) K hmx ?_ (fun _ _ h => h)
    generalize d0.drew = d1 at hS BD ⊢
    refine wpAnyH_take (i := 0) (v := .slice (some ⟨w2.heap.size + 1, 0, none⟩) 2 2) (lit rfl) (by kernel_rfl) (by kernel_rfl) (by kernel_rfl) (fun _ _ _ h => h) (Or.inl ⟨by rfl, ?_⟩) hS ?_
    · rintro w6 s1
      go_simp
    simp only [Act.put, List.setIfInBounds_toArray, List.set_cons_zero, List.set_cons_succ]
    refine wpAnyH_take (i := 1) (v := .pointer (some ⟨w2.heap.size + 1, 0, none⟩)) (lit rfl) (by kernel_rfl) (by kernel_rfl) (by kernel_rfl) (fun _ _ _ h => h) (Or.inl ⟨by rfl, ?_⟩) hS ?_
    · rintro w6 s1
      go_simp
    simp only [Act.put, List.setIfInBounds_toArray, List.set_cons_zero, List.set_cons_succ]
    refine wpAnyH_take (i := 2) (v := .slice (some ⟨g1, o1, none⟩) 128 k1) (lit rfl) (by kernel_rfl) (by kernel_rfl) (by kernel_rfl) (fun _ _ _ h => h) (Or.inl ⟨by rfl, ?_⟩) hS ?_
    · rintro w6 s1
      have d0 := s1.hp.cell 0
      go_simp
    simp only [Act.put, List.setIfInBounds_toArray, List.set_cons_zero, List.set_cons_succ]
    refine wpAnyH_take (i := 3) (v := .slice (some ⟨w2.heap.size + 1, 0, none⟩) 2 2) (lit rfl) (by kernel_rfl) (by kernel_rfl) (by kernel_rfl) (fun _ _ _ h => h) (Or.inl ⟨by rfl, ?_⟩) hS ?_
    · rintro w6 s1
      go_simp
    simp only [Act.put, List.setIfInBounds_toArray, List.set_cons_zero, List.set_cons_succ]
    refine wpAnyH_take (i := 4) (v := .pointer (some ⟨w2.heap.size + 1, 1, none⟩)) (lit rfl) (by kernel_rfl) (by kernel_rfl) (by kernel_rfl) (fun _ _ _ h => h) (Or.inl ⟨by rfl, ?_⟩) hS ?_
    · rintro w6 s1
      go_simp
    simp only [Act.put, List.setIfInBounds_toArray, List.set_cons_zero, List.set_cons_succ]
    refine wpAnyH_take (i := 5) (v := .slice (some ⟨g2, o2, none⟩) 128 k2) (lit rfl) (by kernel_rfl) (by kernel_rfl) (by kernel_rfl) (fun _ _ _ h => h) (Or.inl ⟨by rfl, ?_⟩) hS ?_
    · rintro w6 s1
      have d0 := s1.hp.cell 1
      go_simp
    simp only [Act.put, List.setIfInBounds_toArray, List.set_cons_zero, List.set_cons_succ]
    refine wpAnyH_take (i := 6) (v := .pointer (some ⟨w.heap.size, 0, none⟩)) (lit rfl) (by kernel_rfl) (by kernel_rfl) (by kernel_rfl) (fun _ _ _ h => h) (Or.inl ⟨by rfl, ?_⟩) hS ?_
    · rintro w6 s1
      go_simp
    simp only [Act.put, List.setIfInBounds_toArray, List.set_cons_zero, List.set_cons_succ]
    refine wpAnyH_take (i := 7) (v := .int .i64 label) (lit rfl) (by kernel_rfl) (by kernel_rfl) (by kernel_rfl) (fun _ _ _ h => h) (Or.inl ⟨by rfl, ?_⟩) hS ?_
    · rintro w6 s1
      have d0 := s1.hm.cell 0
      go_simp
    simp only [Act.put, List.setIfInBounds_toArray, List.set_cons_zero, List.set_cons_succ]
    refine wpAnyH_ready (rs := [8]) (by kernel_rfl) (by simp) ?_
    refine AllReadyH.cons (lit rfl) (fun K5 hK5 => ?_) AllReadyH.nil
    refine step_open rfl ?_
    go_simp
    go_at_call 18
    (with_reducible refine (HN3.out _ _ _ _ _ (HT.out.below BD) hS.p1.arg hS.p2.arg).mono ?_)
    rintro y3 d2 ⟨rfl, b1⟩
    replace hS := hS.below b1
    replace BD := below_step BD b1
    clear b1
    refine hK5.out _ _ hS (fun _ => ?_)
    clear hK5 K5
    refine wpAnyH_take (i := 9) (v := .tuple #[.agg #[.int .i64 0, .int .u64 0, .int .i64 0, .int .i64 0, .int .i64 0], .bool false]) (lit rfl) (by kernel_rfl) (by kernel_rfl) (by kernel_rfl) (fun _ _ _ h => h) (Or.inl ⟨by rfl, ?_⟩) hS ?_
    · rintro w6 s1
      go_simp
    simp only [Act.put, List.setIfInBounds_toArray, List.set_cons_zero, List.set_cons_succ]
    refine wpAnyH_take (i := 10) (v := .agg #[.int .i64 0, .int .u64 0, .int .i64 0, .int .i64 0, .int .i64 0]) (lit rfl) (by kernel_rfl) (by kernel_rfl) (by kernel_rfl) (fun _ _ _ h => h) (Or.inl ⟨by rfl, ?_⟩) hS ?_
    · rintro w6 s1
      go_simp
    simp only [Act.put, List.setIfInBounds_toArray, List.set_cons_zero, List.set_cons_succ]
    refine wpAnyH_take (i := 11) (v := .bool false) (lit rfl) (by kernel_rfl) (by kernel_rfl) (by kernel_rfl) (fun _ _ _ h => h) (Or.inl ⟨by rfl, ?_⟩) hS ?_
    · rintro w6 s1
      go_simp
    simp only [Act.put, List.setIfInBounds_toArray, List.set_cons_zero, List.set_cons_succ]
    refine wpAnyH_take (i := 12) (v := .bool false) (lit rfl) (by kernel_rfl) (by kernel_rfl) (by kernel_rfl) (fun _ _ _ h => h) (Or.inl ⟨by rfl, ?_⟩) hS ?_
    · rintro w6 s1
      go_simp
    simp only [Act.put, List.setIfInBounds_toArray, List.set_cons_zero, List.set_cons_succ]
    refine wpAnyH_done (by kernel_rfl) ?_ _
    refine hK _ _ ?_
    have BE := Lib.hid BD
    clear hS BD hK K
    go_wp2
    go_ret
    exact ⟨rfl, BE.out⟩
  · refine step_open rfl ?_
    go_simp
    obtain ⟨v3, hv3⟩ : ∃ x, v1.alloc (.cells #[.int .i64 0, .int .u64 0, .int .i64 0, .int .i64 0, .int .i64 0] 24) = x := ⟨_, rfl⟩
    try rw [hv3]
    have b1 : Below v1.heap.size v1 v3 := hv3 ▸ (Below.refl _ v1).alloc (Nat.le_refl _) _
    have BX := hv3 ▸ Has.made v1 24 #[.int .i64 0, .int .u64 0, .int .i64 0, .int .i64 0, .int .i64 0]
    have hb0 : w.heap.size ≠ v1.heap.size := Nat.ne_of_lt hS.hm.lt
    have hbN : w2.heap.size ≠ v1.heap.size := Nat.ne_of_lt hS.hn.lt
    have hbl : w.heap.size < v1.heap.size := hS.hm.lt
    replace hS := hS.below b1
    replace BD := below_step BD b1
    clear b1 hv3
    refine hK5.out _ _ hS (fun _ => ?_)
    clear hK5 K5
    refine wpAnyH_ready (rs := [8]) (by kernel_rfl) (by simp) ?_
    refine AllReadyH.cons (lit rfl) (fun K5 hK5 => ?_) AllReadyH.nil
    refine step_open rfl ?_
    go_simp
    go_at_call 18
    (with_reducible refine (HN1.out _ _ _ _ _ (HT.out.below BD) hS.p1.arg hS.p2.arg).mono ?_)
    rintro y1 v2 ⟨rfl, b1⟩
    replace hS := hS.below b1
    replace BD := below_step BD b1
    replace BX := BX.below b1 BX.lt
    have f80 := BX.free 0
    have f81 := BX.free 1
    have f82 := BX.free 2
    have f83 := BX.free 3
    have f84 := BX.free 4
    have e80 := BX.cell 0
    have e81 := BX.cell 1
    have e82 := BX.cell 2
    have e83 := BX.cell 3
    have e84 := BX.cell 4
    clear b1
    refine hK5.out _ _ hS (fun _ => ?_)
    clear hK5 K5
    refine wpAnyH_take (i := 9) (v := .tuple #[.agg #[.int .i64 label, .int .u64 (tn : Int), .int .i64 0, .int .i64 list, .int .i64 high], .bool true]) (lit rfl) (by kernel_rfl) (by kernel_rfl) (by kernel_rfl) (fun _ _ _ h => h) (Or.inl ⟨by rfl, ?_⟩) hS ?_
    · rintro w6 s1
      go_simp
    simp only [Act.put, List.setIfInBounds_toArray, List.set_cons_zero, List.set_cons_succ]
    refine wpAnyH_take (i := 10) (v := .agg #[.int .i64 label, .int .u64 (tn : Int), .int .i64 0, .int .i64 list, .int .i64 high]) (lit rfl) (by kernel_rfl) (by kernel_rfl) (by kernel_rfl) (fun _ _ _ h => h) (Or.inl ⟨by rfl, ?_⟩) hS ?_
    · rintro w6 s1
      go_simp
    simp only [Act.put, List.setIfInBounds_toArray, List.set_cons_zero, List.set_cons_succ]
    refine wpAnyH_take (i := 11) (v := .bool true) (lit rfl) (by kernel_rfl) (by kernel_rfl) (by kernel_rfl) (fun _ _ _ h => h) (Or.inl ⟨by rfl, ?_⟩) hS ?_
    · rintro w6 s1
      go_simp
    simp only [Act.put, List.setIfInBounds_toArray, List.set_cons_zero, List.set_cons_succ]
    refine wpAnyH_ready (rs := [13]) (by kernel_rfl) (by simp) ?_
    refine AllReadyH.cons (lit rfl) (fun K5 hK5 => ?_) AllReadyH.nil
    refine step_open rfl ?_
    go_simp
    replace hS := hS.box BX hb0 hbN (.int .i64 label) (.int .u64 (tn : Int)) (.int .i64 0) (.int .i64 list) (.int .i64 high)
    replace BD := below_setM BD (Nat.le_of_lt hbl) (.int .i64 label) (.int .u64 (tn : Int)) (.int .i64 0) (.int .i64 list) (.int .i64 high)
    replace BX := BX.setM (.int .i64 label) (.int .u64 (tn : Int)) (.int .i64 0) (.int .i64 list) (.int .i64 high)
    clear f80 e80
    clear f81 e81
    clear f82 e82
    clear f83 e83
    clear f84 e84
    refine hK5.out _ _ hS (fun _ => ?_)
    clear hK5 K5
    refine wpAnyH_take (i := 14) (v := .bool true) (lit rfl) (by kernel_rfl) (by kernel_rfl) (by kernel_rfl) (fun _ _ _ h => h) (Or.inl ⟨by rfl, ?_⟩) hS ?_
    · rintro w6 s1
      go_simp
    simp only [Act.put, List.setIfInBounds_toArray, List.set_cons_zero, List.set_cons_succ]
    obtain ⟨v4, hnv⟩ : ∃ x, stM5 v2 v1.heap.size (.int .i64 label) (.int .u64 (tn : Int)) (.int .i64 0) (.int .i64 list) (.int .i64 high) = x := ⟨_, rfl⟩
    rw [hnv] at hS BD BX
    unfold stM5 at hnv
    try rw [hnv]
    refine wpAnyH_done (by kernel_rfl) ?_ _
    refine hK _ _ ?_
    clear hK K
    have n70 := hS.hn.cell 0
    have n71 := hS.hn.cell 1
    have n72 := hS.hn.cell 2
    have n73 := hS.hn.cell 3
    have n74 := hS.hn.cell 4
    have e70 := BX.cell 0
    have e71 := BX.cell 1
    have e72 := BX.cell 2
    have e73 := BX.cell 3
    have e74 := BX.cell 4
    have fb := (hS.p2.at yo HK2.out).2
    have cb := (hS.p2.at yo HK2.out).1
    rw [HX2.out] at cb
    have FA := Lib.hid hS
    have BV := Lib.hid BD
    have BXH := Lib.hid BX
    clear hS BD BX
    go_wp2
    have hS := FA.out.turn2 hg12 yo HK2.out z2
    rw [HPN2.out] at hS
    have BX := BXH.out.away (p := ⟨g2, o2 + yo, none⟩) (FA.out.p2.apart BXH.out (by decide)) (.int .u8 (z2.toNat : Int))
    have BD := BV.out.setCell (p := ⟨g2, o2 + yo, none⟩) (by show w.heap.size ≤ g2; have := B4.out.size; omega) (.int .u8 (z2.toNat : Int))
    generalize v4.setCell ⟨g2, o2 + yo, none⟩ (.int .u8 (z2.toNat : Int)) = a0 at *
    replace hS : Fa a0.drew w.heap.size w2.heap.size (w2.heap.size + 1) #[.int .i64 label, .int .u64 (txn : Int), .int .i64 root, .int .i64 list, .int .i64 high] #[.int .i64 label, .int .u64 (tn : Int), .int .i64 0, .int .i64 list, .int .i64 high] #[.slice (some ⟨g1, o1, none⟩) 128 k1, .slice (some ⟨g2, o2, none⟩) 128 k2] g1 o1 k1 pm g2 o2 k2 pn2 := hS.drew
    replace BD : Below w.heap.size w a0.drew := BD.drew
    replace BX : Has a0.drew v1.heap.size 24 #[.int .i64 label, .int .u64 (tn : Int), .int .i64 0, .int .i64 list, .int .i64 high] := BX
    clear fb cb FA BV BXH
    rename_i K hK
    refine wp_held (fun w' => Fa w' w.heap.size w2.heap.size (w2.heap.size + 1) #[.int .i64 label, .int .u64 (txn : Int), .int .i64 root, .int .i64 list, .int .i64 high] #[.int .i64 label, .int .u64 (tn : Int), .int .i64 0, .int .i64 list, .int .i64 high] #[.slice (some ⟨g1, o1, none⟩) 128 k1, .slice (some ⟨g2, o2, none⟩) 128 k2] g1 o1 k1 pm g2 o2 k2 pn2) K hmx ?_ (fun _ _ h => h)
    generalize a0.drew = a1 at hS BD BX ⊢
    refine wpAnyH_take (i := 0) (v := .slice (some ⟨w2.heap.size + 1, 0, none⟩) 2 2) (lit rfl) (by kernel_rfl) (by kernel_rfl) (by kernel_rfl) (fun _ _ _ h => h) (Or.inl ⟨by rfl, ?_⟩) hS ?_
    · rintro w6 s1
      go_simp
    simp only [Act.put, List.setIfInBounds_toArray, List.set_cons_zero, List.set_cons_succ]
    refine wpAnyH_take (i := 1) (v := .pointer (some ⟨w2.heap.size + 1, 0, none⟩)) (lit rfl) (by kernel_rfl) (by kernel_rfl) (by kernel_rfl) (fun _ _ _ h => h) (Or.inl ⟨by rfl, ?_⟩) hS ?_
    · rintro w6 s1
      go_simp
    simp only [Act.put, List.setIfInBounds_toArray, List.set_cons_zero, List.set_cons_succ]
    refine wpAnyH_take (i := 2) (v := .slice (some ⟨g1, o1, none⟩) 128 k1) (lit rfl) (by kernel_rfl) (by kernel_rfl) (by kernel_rfl) (fun _ _ _ h => h) (Or.inl ⟨by rfl, ?_⟩) hS ?_
    · rintro w6 s1
      have d0 := s1.hp.cell 0
      go_simp
    simp only [Act.put, List.setIfInBounds_toArray, List.set_cons_zero, List.set_cons_succ]
    refine wpAnyH_take (i := 3) (v := .slice (some ⟨w2.heap.size + 1, 0, none⟩) 2 2) (lit rfl) (by kernel_rfl) (by kernel_rfl) (by kernel_rfl) (fun _ _ _ h => h) (Or.inl ⟨by rfl, ?_⟩) hS ?_
    · rintro w6 s1
      go_simp
    simp only [Act.put, List.setIfInBounds_toArray, List.set_cons_zero, List.set_cons_succ]
    refine wpAnyH_take (i := 4) (v := .pointer (some ⟨w2.heap.size + 1, 1, none⟩)) (lit rfl) (by kernel_rfl) (by kernel_rfl) (by kernel_rfl) (fun _ _ _ h => h) (Or.inl ⟨by rfl, ?_⟩) hS ?_
    · rintro w6 s1
      go_simp
    simp only [Act.put, List.setIfInBounds_toArray, List.set_cons_zero, List.set_cons_succ]
    refine wpAnyH_take (i := 5) (v := .slice (some ⟨g2, o2, none⟩) 128 k2) (lit rfl) (by kernel_rfl) (by kernel_rfl) (by kernel_rfl) (fun _ _ _ h => h) (Or.inl ⟨by rfl, ?_⟩) hS ?_
    · rintro w6 s1
      have d0 := s1.hp.cell 1
      go_simp
    simp only [Act.put, List.setIfInBounds_toArray, List.set_cons_zero, List.set_cons_succ]
    refine wpAnyH_take (i := 6) (v := .pointer (some ⟨w.heap.size, 0, none⟩)) (lit rfl) (by kernel_rfl) (by kernel_rfl) (by kernel_rfl) (fun _ _ _ h => h) (Or.inl ⟨by rfl, ?_⟩) hS ?_
    · rintro w6 s1
      go_simp
    simp only [Act.put, List.setIfInBounds_toArray, List.set_cons_zero, List.set_cons_succ]
    refine wpAnyH_take (i := 7) (v := .int .i64 label) (lit rfl) (by kernel_rfl) (by kernel_rfl) (by kernel_rfl) (fun _ _ _ h => h) (Or.inl ⟨by rfl, ?_⟩) hS ?_
    · rintro w6 s1
      have d0 := s1.hm.cell 0
      go_simp
    simp only [Act.put, List.setIfInBounds_toArray, List.set_cons_zero, List.set_cons_succ]
    refine wpAnyH_ready (rs := [8]) (by kernel_rfl) (by simp) ?_
    refine AllReadyH.cons (lit rfl) (fun K5 hK5 => ?_) AllReadyH.nil
    refine step_open rfl ?_
    go_simp
    go_at_call 18
    (with_reducible refine (HN2.out _ _ _ _ _ (HT.out.below BD) hS.p1.arg hS.p2.arg).mono ?_)
    rintro y2 a2 ⟨rfl, b1⟩
    replace hS := hS.below b1
    replace BD := below_step BD b1
    replace BX := BX.below b1 BX.lt
    have f80 := BX.free 0
    have f81 := BX.free 1
    have f82 := BX.free 2
    have f83 := BX.free 3
    have f84 := BX.free 4
    have e80 := BX.cell 0
    have e81 := BX.cell 1
    have e82 := BX.cell 2
    have e83 := BX.cell 3
    have e84 := BX.cell 4
    clear b1
    refine hK5.out _ _ hS (fun _ => ?_)
    clear hK5 K5
    refine wpAnyH_take (i := 9) (v := .tuple #[.agg #[.int .i64 label, .int .u64 (txn : Int), .int .i64 root, .int .i64 list, .int .i64 high], .bool true]) (lit rfl) (by kernel_rfl) (by kernel_rfl) (by kernel_rfl) (fun _ _ _ h => h) (Or.inl ⟨by rfl, ?_⟩) hS ?_
    · rintro w6 s1
      go_simp
    simp only [Act.put, List.setIfInBounds_toArray, List.set_cons_zero, List.set_cons_succ]
    refine wpAnyH_take (i := 10) (v := .agg #[.int .i64 label, .int .u64 (txn : Int), .int .i64 root, .int .i64 list, .int .i64 high]) (lit rfl) (by kernel_rfl) (by kernel_rfl) (by kernel_rfl) (fun _ _ _ h => h) (Or.inl ⟨by rfl, ?_⟩) hS ?_
    · rintro w6 s1
      go_simp
    simp only [Act.put, List.setIfInBounds_toArray, List.set_cons_zero, List.set_cons_succ]
    refine wpAnyH_take (i := 11) (v := .bool true) (lit rfl) (by kernel_rfl) (by kernel_rfl) (by kernel_rfl) (fun _ _ _ h => h) (Or.inl ⟨by rfl, ?_⟩) hS ?_
    · rintro w6 s1
      go_simp
    simp only [Act.put, List.setIfInBounds_toArray, List.set_cons_zero, List.set_cons_succ]
    refine wpAnyH_ready (rs := [12]) (by kernel_rfl) (by simp) ?_
    refine AllReadyH.cons (lit rfl) (fun K5 hK5 => ?_) AllReadyH.nil
    refine step_open rfl ?_
    go_simp
    replace hS := hS.box BX hb0 hbN (.int .i64 label) (.int .u64 (txn : Int)) (.int .i64 root) (.int .i64 list) (.int .i64 high)
    replace BD := below_setM BD (Nat.le_of_lt hbl) (.int .i64 label) (.int .u64 (txn : Int)) (.int .i64 root) (.int .i64 list) (.int .i64 high)
    replace BX := BX.setM (.int .i64 label) (.int .u64 (txn : Int)) (.int .i64 root) (.int .i64 list) (.int .i64 high)
    clear f80 e80
    clear f81 e81
    clear f82 e82
    clear f83 e83
    clear f84 e84
    refine hK5.out _ _ hS (fun _ => ?_)
    clear hK5 K5
    refine wpAnyH_take (i := 13) (v := .bool true) (lit rfl) (by kernel_rfl) (by kernel_rfl) (by kernel_rfl) (fun _ _ _ h => h) (Or.inl ⟨by rfl, ?_⟩) hS ?_
    · rintro w6 s1
      go_simp
    simp only [Act.put, List.setIfInBounds_toArray, List.set_cons_zero, List.set_cons_succ]
    refine wpAnyH_done (by kernel_rfl) ?_ _
    refine hK _ _ ?_
    clear hK K
    change Has (stM5 a2 v1.heap.size (.int .i64 label) (.int .u64 (txn : Int)) (.int .i64 root) (.int .i64 list) (.int .i64 high)) _ _ _ at BX
    obtain ⟨a3, ha3⟩ : ∃ x, stM5 a2 v1.heap.size (.int .i64 label) (.int .u64 (txn : Int)) (.int .i64 root) (.int .i64 list) (.int .i64 high) = x := ⟨_, rfl⟩
    rw [ha3] at hS BD BX
    unfold stM5 at ha3
    try rw [ha3]
    have m90 := hS.hm.cell 0
    have m91 := hS.hm.cell 1
    have m92 := hS.hm.cell 2
    have m93 := hS.hm.cell 3
    have m94 := hS.hm.cell 4
    have e90 := BX.cell 0
    have e91 := BX.cell 1
    have e92 := BX.cell 2
    have e93 := BX.cell 3
    have e94 := BX.cell 4
    have fb := (hS.p1.at yo HK1.out).2
    have cb := (hS.p1.at yo HK1.out).1
    rw [HX1.out] at cb
    have FA := Lib.hid hS
    have BV := Lib.hid BD
    clear hS BD BX
    go_wp2
    have hS := FA.out.turn1 hg12 yo HK1.out z1
    rw [HPM2.out] at hS
    have BD := BV.out.setCell (p := ⟨g1, o1 + yo, none⟩) (by show w.heap.size ≤ g1; have := B3.out.size; omega) (.int .u8 (z1.toNat : Int))
    generalize a3.setCell ⟨g1, o1 + yo, none⟩ (.int .u8 (z1.toNat : Int)) = d0 at *
    replace hS : Fa d0.drew w.heap.size w2.heap.size (w2.heap.size + 1) #[.int .i64 label, .int .u64 (txn : Int), .int .i64 root, .int .i64 list, .int .i64 high] #[.int .i64 label, .int .u64 (tn : Int), .int .i64 0, .int .i64 list, .int .i64 high] #[.slice (some ⟨g1, o1, none⟩) 128 k1, .slice (some ⟨g2, o2, none⟩) 128 k2] g1 o1 k1 pm2 g2 o2 k2 pn2 := hS.drew
    replace BD : Below w.heap.size w d0.drew := BD.drew
    clear fb cb FA BV
    rename_i K hK
    refine wp_held (fun w' => Fa w' w.heap.size w2.heap.size (w2.heap.size + 1) #[.int .i64 label, .int .u64 (txn : Int), .int .i64 root, .int .i64 list, .int .i64 high] #[.int .i64 label, .int .u64 (tn : Int), .int .i64 0, .int .i64 list, .int .i64 high] #[.slice (some ⟨g1, o1, none⟩) 128 k1, .slice (some ⟨g2, o2, none⟩) 128 k2] g1 o1 k1 pm2 g2 o2 k2 pn2) K hmx ?_ (fun _ _ h => h)
    generalize d0.drew = d1 at hS BD ⊢
    refine wpAnyH_take (i := 0) (v := .slice (some ⟨w2.heap.size + 1, 0, none⟩) 2 2) (lit rfl) (by kernel_rfl) (by kernel_rfl) (by kernel_rfl) (fun _ _ _ h => h) (Or.inl ⟨by rfl, ?_⟩) hS ?_
    · rintro w6 s1
      go_simp
    simp only [Act.put, List.setIfInBounds_toArray, List.set_cons_zero, List.set_cons_succ]
    refine wpAnyH_take (i := 1) (v := .pointer (some ⟨w2.heap.size + 1, 0, none⟩)) (lit rfl) (by kernel_rfl) (by kernel_rfl) (by kernel_rfl) (fun _ _ _ h => h) (Or.inl ⟨by rfl, ?_⟩) hS ?_
    · rintro w6 s1
      go_simp
    simp only [Act.put, List.setIfInBounds_toArray, List.set_cons_zero, List.set_cons_succ]
    refine wpAnyH_take (i := 2) (v := .slice (some ⟨g1, o1, none⟩) 128 k1) (lit rfl) (by kernel_rfl) (by kernel_rfl) (by kernel_rfl) (fun _ _ _ h => h) (Or.inl ⟨by rfl, ?_⟩) hS ?_
    · rintro w6 s1
      have d0 := s1.hp.cell 0
      go_simp
    simp only [Act.put, List.setIfInBounds_toArray, List.set_cons_zero, List.set_cons_succ]
    refine wpAnyH_take (i := 3) (v := .slice (some ⟨w2.heap.size + 1, 0, none⟩) 2 2) (lit rfl) (by kernel_rfl) (by kernel_rfl) (by kernel_rfl) (fun _ _ _ h => h) (Or.inl ⟨by rfl, ?_⟩) hS ?_
    · rintro w6 s1
      go_simp
    simp only [Act.put, List.setIfInBounds_toArray, List.set_cons_zero, List.set_cons_succ]
    refine wpAnyH_take (i := 4) (v := .pointer (some ⟨w2.heap.size + 1, 1, none⟩)) (lit rfl) (by kernel_rfl) (by kernel_rfl) (by kernel_rfl) (fun _ _ _ h => h) (Or.inl ⟨by rfl, ?_⟩) hS ?_
    · rintro w6 s1
      go_simp
    simp only [Act.put, List.setIfInBounds_toArray, List.set_cons_zero, List.set_cons_succ]
    refine wpAnyH_take (i := 5) (v := .slice (some ⟨g2, o2, none⟩) 128 k2) (lit rfl) (by kernel_rfl) (by kernel_rfl) (by kernel_rfl) (fun _ _ _ h => h) (Or.inl ⟨by rfl, ?_⟩) hS ?_
    · rintro w6 s1
      have d0 := s1.hp.cell 1
      go_simp
    simp only [Act.put, List.setIfInBounds_toArray, List.set_cons_zero, List.set_cons_succ]
    refine wpAnyH_take (i := 6) (v := .pointer (some ⟨w.heap.size, 0, none⟩)) (lit rfl) (by kernel_rfl) (by kernel_rfl) (by kernel_rfl) (fun _ _ _ h => h) (Or.inl ⟨by rfl, ?_⟩) hS ?_
    · rintro w6 s1
      go_simp
    simp only [Act.put, List.setIfInBounds_toArray, List.set_cons_zero, List.set_cons_succ]
    refine wpAnyH_take (i := 7) (v := .int .i64 label) (lit rfl) (by kernel_rfl) (by kernel_rfl) (by kernel_rfl) (fun _ _ _ h => h) (Or.inl ⟨by rfl, ?_⟩) hS ?_
    · rintro w6 s1
      have d0 := s1.hm.cell 0
      go_simp
    simp only [Act.put, List.setIfInBounds_toArray, List.set_cons_zero, List.set_cons_succ]
    refine wpAnyH_ready (rs := [8]) (by kernel_rfl) (by simp) ?_
    refine AllReadyH.cons (lit rfl) (fun K5 hK5 => ?_) AllReadyH.nil
    refine step_open rfl ?_
    go_simp
    go_at_call 18
    (with_reducible refine (HN3.out _ _ _ _ _ (HT.out.below BD) hS.p1.arg hS.p2.arg).mono ?_)
    rintro y3 d2 ⟨rfl, b1⟩
    replace hS := hS.below b1
    replace BD := below_step BD b1
    clear b1
    refine hK5.out _ _ hS (fun _ => ?_)
    clear hK5 K5
    refine wpAnyH_take (i := 9) (v := .tuple #[.agg #[.int .i64 0, .int .u64 0, .int .i64 0, .int .i64 0, .int .i64 0], .bool false]) (lit rfl) (by kernel_rfl) (by kernel_rfl) (by kernel_rfl) (fun _ _ _ h => h) (Or.inl ⟨by rfl, ?_⟩) hS ?_
    · rintro w6 s1
      go_simp
    simp only [Act.put, List.setIfInBounds_toArray, List.set_cons_zero, List.set_cons_succ]
    refine wpAnyH_take (i := 10) (v := .agg #[.int .i64 0, .int .u64 0, .int .i64 0, .int .i64 0, .int .i64 0]) (lit rfl) (by kernel_rfl) (by kernel_rfl) (by kernel_rfl) (fun _ _ _ h => h) (Or.inl ⟨by rfl, ?_⟩) hS ?_
    · rintro w6 s1
      go_simp
    simp only [Act.put, List.setIfInBounds_toArray, List.set_cons_zero, List.set_cons_succ]
    refine wpAnyH_take (i := 11) (v := .bool false) (lit rfl) (by kernel_rfl) (by kernel_rfl) (by kernel_rfl) (fun _ _ _ h => h) (Or.inl ⟨by rfl, ?_⟩) hS ?_
    · rintro w6 s1
      go_simp
    simp only [Act.put, List.setIfInBounds_toArray, List.set_cons_zero, List.set_cons_succ]
    refine wpAnyH_take (i := 12) (v := .bool false) (lit rfl) (by kernel_rfl) (by kernel_rfl) (by kernel_rfl) (fun _ _ _ h => h) (Or.inl ⟨by rfl, ?_⟩) hS ?_
    · rintro w6 s1
      go_simp
    simp only [Act.put, List.setIfInBounds_toArray, List.set_cons_zero, List.set_cons_succ]
    refine wpAnyH_done (by kernel_rfl) ?_ _
    refine hK _ _ ?_
    have BE := Lib.hid BD
    clear hS BD hK K
    go_wp2
    go_ret
    exact ⟨rfl, BE.out⟩
set_option maxRecDepth 100000 in
set_option maxHeartbeats 16000000 in
theorem walkMeFal_yes1 (m : Mt) (y : UInt8) (tn yo : Nat) (w : World) (ht : Tab w) (hc : checkM m) (hf : ¬ 4611686018427387904 < m.txn) (hs : m.txn % 2 = 1) (htn : m.txn + 1 = tn) (hyo : y.toNat % 128 = yo) :
    Calls Tryd.prog 5 #[mtV m, .int .u8 (y.toNat : Int)] w fun e w' => e = .returned (.bool true) ∧ Below w.heap.size w w' := by
  have hmx : Tryd.prog.follows .mixedOrders = true := by kernel_rfl
  have hz := zero_meta
  have hmk := make_pages
  obtain ⟨W, hW, hb, hm⟩ := mbox w m
  have HA := Lib.hid (awake10_any W (ht.below hb))
  have HCM := Lib.hid (fun w1 => mCheck_any m w1)
  rw [decide_eq_true hc] at HCM
  have tm : m.txn < 18446744073709551616 := by omega
  have tn2 : tn < 18446744073709551616 := by omega
  have hnc := nowM_ok hc (t := tn) (by omega)
  have HT := Lib.hid ht
  have HPM := Lib.hid (fun w1 h => mPut_page m w1 h hc tm)
  have HPN := Lib.hid (fun w1 h => mPut_page (nowM m tn) w1 h hnc tn2)
  have HS1 := Lib.hid (fun w1 => mSlot_any m.txn w1 tm)
  rw [hs] at HS1
  have HS2 := Lib.hid (fun w1 => mSlot_any tn w1 tn2)
  rw [show tn % 2 = 0 by omega] at HS2
  have hf1 := (falls1 hc (by omega)).2 hs
  rw [htn] at hf1
  have hf2 := fun l (hl : ¬ isTag l) => (falls2 hc tm (l := l) hl).2 hs
  have hl1 := pageM_len m
  have hl2 := pageM_len (nowM m tn)
  have hg1 := pageM_tag m
  have hg2 := pageM_tag (nowM m tn)
  generalize pageM (nowM m tn) = pn at HPN hf1 hl2 hg2
  have hyl : yo < 128 := by omega
  have hk1 : yo < (pageM m).length := by omega
  have hk2 : yo < pn.length := by omega
  have hu2 := turned_any pn yo 8 (by decide) hk2 hg2
  have hu1 := turned_any (pageM m) yo 8 (by decide) hk1 hg1
  have hn2 := hf2 _ hu2
  have hn3 := falls3 hu2 hu1 m.label
  clear hg1 hg2 hu1 hu2 hf2
  generalize pageM m = pm at HPM hf1 hl1 hk1 hn2 hn3
  obtain ⟨x1, hx1⟩ : ∃ x, pm[yo]'hk1 = x := ⟨_, rfl⟩
  obtain ⟨x2, hx2⟩ : ∃ x, pn[yo]'hk2 = x := ⟨_, rfl⟩
  rw [hx2] at hn2 hn3
  rw [hx1] at hn3
  obtain ⟨z1, hz1⟩ : ∃ z, x1 ^^^ 8 = z := ⟨_, rfl⟩
  obtain ⟨z2, hz2⟩ : ∃ z, x2 ^^^ 8 = z := ⟨_, rfl⟩
  rw [hz2] at hn2 hn3
  rw [hz1] at hn3
  have hb1 := xor_eight x1
  have hb2 := xor_eight x2
  rw [hz1] at hb1
  rw [hz2] at hb2
  have HX1 := Lib.hid hx1
  have HX2 := Lib.hid hx2
  have HK1 := Lib.hid hk1
  have HK2 := Lib.hid hk2
  obtain ⟨pn2, hpn2⟩ : ∃ l, pn.set yo z2 = l := ⟨_, rfl⟩
  obtain ⟨pm2, hpm2⟩ : ∃ l, pm.set yo z1 = l := ⟨_, rfl⟩
  rw [hpn2] at hn2 hn3
  rw [hpm2] at hn3
  have HPN2 := Lib.hid hpn2
  have HPM2 := Lib.hid hpm2
  have HN1 : Hid (∀ A1 A2 c1 c2 w1, Tab w1 → Arg w1 A1 128 c1 pn → Arg w1 A2 128 c2 pm → Calls Tryd.prog 18 #[.slice A1 128 c1, .slice A2 128 c2, .int .i64 m.label] w1 (NewM10 (newestM pn pm m.label) w1)) := Lib.hid (fun A1 A2 c1 c2 w1 ht h1 h2 => mNewest_any A1 A2 128 c1 128 c2 pn pm m.label w1 ht h1 h2)
  rw [hf1] at HN1
  have HN2 : Hid (∀ A1 A2 c1 c2 w1, Tab w1 → Arg w1 A1 128 c1 pn2 → Arg w1 A2 128 c2 pm → Calls Tryd.prog 18 #[.slice A1 128 c1, .slice A2 128 c2, .int .i64 m.label] w1 (NewM10 (newestM pn2 pm m.label) w1)) := Lib.hid (fun A1 A2 c1 c2 w1 ht h1 h2 => mNewest_any A1 A2 128 c1 128 c2 pn2 pm m.label w1 ht h1 h2)
  rw [hn2] at HN2
  have HN3 : Hid (∀ A1 A2 c1 c2 w1, Tab w1 → Arg w1 A1 128 c1 pn2 → Arg w1 A2 128 c2 pm2 → Calls Tryd.prog 18 #[.slice A1 128 c1, .slice A2 128 c2, .int .i64 m.label] w1 (NewM10 (newestM pn2 pm2 m.label) w1)) := Lib.hid (fun A1 A2 c1 c2 w1 ht h1 h2 => mNewest_any A1 A2 128 c1 128 c2 pn2 pm2 m.label w1 ht h1 h2)
  rw [hn3] at HN3
  unfold NewM10 at HN1 HN2 HN3
  rw [show mtV ((mt0, false) : Mt × Bool).1 = .agg #[.int .i64 0, .int .u64 0, .int .i64 0, .int .i64 0, .int .i64 0] from rfl] at HN3
  unfold PutEnd10 at HPM HPN
  clear hf1 hn2 hn3
  obtain ⟨label, txn, root, list, high⟩ := m
  simp only [mtV, mtC, nowM] at hW hm hs htn hf tm HCM HS1 HPM HPN HN1 HN2 HN3 ⊢
  have HB := Lib.hid hb
  have HM := Lib.hid hm
  have hlt : ¬ (4611686018427387904 : Int) < (txn : Int) := by omega
  have hwt : IntKind.u64.wrap ((txn : Int) + 1) = (tn : Int) := by rw [IntWalk.u64_in _ (by omega)]; omega
  have hy : y.toNat < 256 := UInt8.toNat_lt y
  have hyt : (y.toNat : Int).tmod 128 = (yo : Int) := by rw [Int.tmod_eq_emod_of_nonneg (by omega)]; omega
  have hyw : IntKind.u8.wrap (yo : Int) = (yo : Int) := IntWalk.u8_in _ (by omega)
  have hyi0 : (0 : Int) ≤ (yo : Int) := by omega
  have hyi1 : (yo : Int) < 128 := by omega
  clear hb hm ht hc hnc hs htn hf tm tn2 hyo hy hz1 hz2 hpn2 hpm2 hx1 hx2 hl1 hl2
  go_enter Tryd.func5, Tryd.ntmps5
  go_wp2_with (first
    | (go_at_call 8; (try rw [hW]); (with_reducible refine HA.out.mono ?_); rintro q0 w1 ⟨rfl, b1⟩; have B1 := Lib.hid (below_step HB.out b1); have y1 := HM.out.below b1 HM.out.lt; have c10 := y1.cell 0; have c11 := y1.cell 1; have c12 := y1.cell 2; have c13 := y1.cell 3; have c14 := y1.cell 4; have M1 := Lib.hid y1; clear b1 y1)
    | (go_at_call 12; (with_reducible refine (HCM.out _).mono ?_); rintro q2 w2 ⟨rfl, b2⟩; have B2 := Lib.hid (below_step B1.out b2); have y2 := M1.out.below b2 M1.out.lt; have c20 := y2.cell 0; have c21 := y2.cell 1; have c22 := y2.cell 2; have c23 := y2.cell 3; have c24 := y2.cell 4; obtain ⟨w3, hw3⟩ : ∃ x, (w2.alloc (.cells #[.int .i64 label, .int .u64 (tn : Int), .int .i64 0, .int .i64 list, .int .i64 high] 24)).alloc (.cells #[.slice none 0 0, .slice none 0 0] 26) = x := ⟨_, rfl⟩; have b3 : Below w2.heap.size w2 w3 := hw3 ▸ (((Below.refl _ w2).alloc (Nat.le_refl _) _).alloc (by simp) _); have n3 : Has w3 w2.heap.size 24 #[.int .i64 label, .int .u64 (tn : Int), .int .i64 0, .int .i64 list, .int .i64 high] := hw3 ▸ ((Has.made w2 24 _).alloc _); have p3 : Has w3 (w2.heap.size + 1) 26 #[.slice none 0 0, .slice none 0 0] := by { have := Has.made (w2.alloc (.cells #[.int .i64 label, .int .u64 (tn : Int), .int .i64 0, .int .i64 list, .int .i64 high] 24)) 26 #[.slice none 0 0, .slice none 0 0]; rw [hw3] at this; simpa using this }; have y3 := y2.below b3 y2.lt; have c30 := y3.cell 0; have c31 := y3.cell 1; have c32 := y3.cell 2; have c33 := y3.cell 3; have c34 := y3.cell 4; have M3 := Lib.hid y3; have N3 := Lib.hid n3; have P3 := Lib.hid p3; have B3 := Lib.hid (below_step B2.out b3); clear b2 y2 b3 n3 p3 y3)
    | (go_at_call 9; (with_reducible refine (HPN.out _ (HT.out.below B4.out)).mono ?_); rintro q5 w5 ⟨A2, k2, rfl, ra, rb, b5⟩; obtain ⟨g2, o2, rfl, lo2, pg2⟩ := page_at rb ra; have hg12 : g1 ≠ g2 := by { have := G1.out.lt; omega }; have D1 := Lib.hid (G1.out.below b5); have D2 := Lib.hid pg2; have B5 := Lib.hid (below_step B4.out b5); have y5 := M4.out.below b5 M4.out.lt; have c50 := y5.cell 0; have c51 := y5.cell 1; have c52 := y5.cell 2; have c53 := y5.cell 3; have c54 := y5.cell 4; have n5 := N4.out.below b5 N4.out.lt; have n50 := n5.cell 0; have n51 := n5.cell 1; have n52 := n5.cell 2; have n53 := n5.cell 3; have n54 := n5.cell 4; have p5 := P4.out.below b5 P4.out.lt; have pf0 := p5.free 0; have pf1 := p5.free 1; have pc0 := p5.cell 0; have pc1 := p5.cell 1; have M5 := Lib.hid y5; have N5 := Lib.hid n5; have P5 := Lib.hid p5; clear ra rb b5 y5 n5 p5 pg2)
    | (go_at_call 9; (try rw [hw3]); (with_reducible refine (HPM.out _ (HT.out.below B3.out)).mono ?_); rintro q4 w4 ⟨A1, k1, rfl, ra, rb, b4⟩; obtain ⟨g1, o1, rfl, lo1, pg1⟩ := page_at rb ra; have G1 := Lib.hid pg1; have B4 := Lib.hid (below_step B3.out b4); have M4 := Lib.hid (M3.out.below b4 M3.out.lt); have n4 := N3.out.below b4 N3.out.lt; have n40 := n4.cell 0; have n41 := n4.cell 1; have n42 := n4.cell 2; have n43 := n4.cell 3; have n44 := n4.cell 4; have N4 := Lib.hid n4; have P4 := Lib.hid (P3.out.below b4 P3.out.lt); clear ra rb b4 n4 pg1)
    | (go_at_call 14; ((with_reducible refine (HS1.out _).mono ?_); rintro q6 w6 ⟨rfl, rfl⟩; obtain ⟨u1, hu1⟩ : ∃ x, w5.setCell ⟨w2.heap.size + 1, 1, none⟩ (.slice (some ⟨g1, o1, none⟩) 128 k1) = x := ⟨_, rfl⟩; have hP0 : w2.heap.size ≠ w2.heap.size + 1 := (by omega); have hP1 : w.heap.size ≠ w2.heap.size + 1 := Nat.ne_of_lt (Nat.lt_succ_of_le B2.out.size); have n6 : Has u1 w2.heap.size 24 #[.int .i64 label, .int .u64 (tn : Int), .int .i64 0, .int .i64 list, .int .i64 high] := hu1 ▸ N5.out.away (p := ⟨w2.heap.size + 1, 1, none⟩) hP0 _; have n60 := n6.cell 0; have n61 := n6.cell 1; have n62 := n6.cell 2; have n63 := n6.cell 3; have n64 := n6.cell 4; have p6 : Has u1 (w2.heap.size + 1) 26 #[.slice none 0 0, .slice (some ⟨g1, o1, none⟩) 128 k1] := by { rw [← hu1]; simpa using P5.out.store 1 (.slice (some ⟨g1, o1, none⟩) 128 k1) }; have pg0 := p6.free 0; have pg1 := p6.free 1; have pd0 := p6.cell 0; have pd1 := p6.cell 1; have N6 := Lib.hid n6; have P6 := Lib.hid p6; have M6 := Lib.hid (hu1 ▸ M5.out.away (p := ⟨w2.heap.size + 1, 1, none⟩) hP1 (.slice (some ⟨g1, o1, none⟩) 128 k1)); have E1 := Lib.hid (hu1 ▸ D1.out.away (p := ⟨w2.heap.size + 1, 1, none⟩) (fun e => D1.out.apart P5.out (by decide) e.symm) (.slice (some ⟨g1, o1, none⟩) 128 k1)); have E2 := Lib.hid (hu1 ▸ D2.out.away (p := ⟨w2.heap.size + 1, 1, none⟩) (fun e => D2.out.apart P5.out (by decide) e.symm) (.slice (some ⟨g1, o1, none⟩) 128 k1)); have B6 := Lib.hid (hu1 ▸ B5.out.setCell (p := ⟨w2.heap.size + 1, 1, none⟩) (Nat.le_succ_of_le B2.out.size) (.slice (some ⟨g1, o1, none⟩) 128 k1)); clear n6 p6))
    | (go_at_call 14; (with_reducible refine (HS2.out _).mono ?_); rintro q7 w7 ⟨rfl, rfl⟩))
  have FA : Fa (u1.setCell ⟨w2.heap.size + 1, 0, none⟩ (.slice (some ⟨g2, o2, none⟩) 128 k2)) w.heap.size w2.heap.size (w2.heap.size + 1) #[.int .i64 label, .int .u64 (txn : Int), .int .i64 root, .int .i64 list, .int .i64 high] #[.int .i64 label, .int .u64 (tn : Int), .int .i64 0, .int .i64 list, .int .i64 high] #[.slice (some ⟨g2, o2, none⟩) 128 k2, .slice (some ⟨g1, o1, none⟩) 128 k1] g1 o1 k1 pm g2 o2 k2 pn :=
    ⟨M6.out.away (p := ⟨w2.heap.size + 1, 0, none⟩) hP1 _, N6.out.away (p := ⟨w2.heap.size + 1, 0, none⟩) hP0 _, by simpa using P6.out.store 0 (.slice (some ⟨g2, o2, none⟩) 128 k2), E1.out.away (p := ⟨w2.heap.size + 1, 0, none⟩) (fun e => E1.out.apart P6.out (by decide) e.symm) _, E2.out.away (p := ⟨w2.heap.size + 1, 0, none⟩) (fun e => E2.out.apart P6.out (by decide) e.symm) _⟩
  have BV := B6.out.setCell (p := ⟨w2.heap.size + 1, 0, none⟩) (Nat.le_succ_of_le B2.out.size) (.slice (some ⟨g2, o2, none⟩) 128 k2)
  generalize u1.setCell ⟨w2.heap.size + 1, 0, none⟩ (.slice (some ⟨g2, o2, none⟩) 128 k2) = v0 at *
  have hS : Fa v0.drew w.heap.size w2.heap.size (w2.heap.size + 1) #[.int .i64 label, .int .u64 (txn : Int), .int .i64 root, .int .i64 list, .int .i64 high] #[.int .i64 label, .int .u64 (tn : Int), .int .i64 0, .int .i64 list, .int .i64 high] #[.slice (some ⟨g2, o2, none⟩) 128 k2, .slice (some ⟨g1, o1, none⟩) 128 k1] g1 o1 k1 pm g2 o2 k2 pn := FA.drew
  have BD : Below w.heap.size w v0.drew := BV.drew
  clear FA BV
  rename_i K hK
  refine wp_held (fun w' => Fa w' w.heap.size w2.heap.size (w2.heap.size + 1) #[.int .i64 label, .int .u64 (txn : Int), .int .i64 root, .int .i64 list, .int .i64 high] #[.int .i64 label, .int .u64 (tn : Int), .int .i64 0, .int .i64 list, .int .i64 high] #[.slice (some ⟨g2, o2, none⟩) 128 k2, .slice (some ⟨g1, o1, none⟩) 128 k1] g1 o1 k1 pm g2 o2 k2 pn) K hmx ?_ (fun _ _ h => h)
  generalize v0.drew = v1 at hS BD ⊢
  refine wpAnyH_take (i := 0) (v := .slice (some ⟨w2.heap.size + 1, 0, none⟩) 2 2) (lit rfl) (by kernel_rfl) (by kernel_rfl) (by kernel_rfl) (fun _ _ _ h => h) (Or.inl ⟨by rfl, ?_⟩) hS ?_
  · rintro w6 s1
    go_simp
  simp only [Act.put, List.setIfInBounds_toArray, List.set_cons_zero, List.set_cons_succ]
  refine wpAnyH_take (i := 1) (v := .pointer (some ⟨w2.heap.size + 1, 0, none⟩)) (lit rfl) (by kernel_rfl) (by kernel_rfl) (by kernel_rfl) (fun _ _ _ h => h) (Or.inl ⟨by rfl, ?_⟩) hS ?_
  · rintro w6 s1
    go_simp
  simp only [Act.put, List.setIfInBounds_toArray, List.set_cons_zero, List.set_cons_succ]
  refine wpAnyH_take (i := 2) (v := .slice (some ⟨g2, o2, none⟩) 128 k2) (lit rfl) (by kernel_rfl) (by kernel_rfl) (by kernel_rfl) (fun _ _ _ h => h) (Or.inl ⟨by rfl, ?_⟩) hS ?_
  · rintro w6 s1
    have d0 := s1.hp.cell 0
    go_simp
  simp only [Act.put, List.setIfInBounds_toArray, List.set_cons_zero, List.set_cons_succ]
  refine wpAnyH_take (i := 3) (v := .slice (some ⟨w2.heap.size + 1, 0, none⟩) 2 2) (lit rfl) (by kernel_rfl) (by kernel_rfl) (by kernel_rfl) (fun _ _ _ h => h) (Or.inl ⟨by rfl, ?_⟩) hS ?_
  · rintro w6 s1
    go_simp
  simp only [Act.put, List.setIfInBounds_toArray, List.set_cons_zero, List.set_cons_succ]
  refine wpAnyH_take (i := 4) (v := .pointer (some ⟨w2.heap.size + 1, 1, none⟩)) (lit rfl) (by kernel_rfl) (by kernel_rfl) (by kernel_rfl) (fun _ _ _ h => h) (Or.inl ⟨by rfl, ?_⟩) hS ?_
  · rintro w6 s1
    go_simp
  simp only [Act.put, List.setIfInBounds_toArray, List.set_cons_zero, List.set_cons_succ]
  refine wpAnyH_take (i := 5) (v := .slice (some ⟨g1, o1, none⟩) 128 k1) (lit rfl) (by kernel_rfl) (by kernel_rfl) (by kernel_rfl) (fun _ _ _ h => h) (Or.inl ⟨by rfl, ?_⟩) hS ?_
  · rintro w6 s1
    have d0 := s1.hp.cell 1
    go_simp
  simp only [Act.put, List.setIfInBounds_toArray, List.set_cons_zero, List.set_cons_succ]
  refine wpAnyH_take (i := 6) (v := .pointer (some ⟨w.heap.size, 0, none⟩)) (lit rfl) (by kernel_rfl) (by kernel_rfl) (by kernel_rfl) (fun _ _ _ h => h) (Or.inl ⟨by rfl, ?_⟩) hS ?_
  · rintro w6 s1
    go_simp
  simp only [Act.put, List.setIfInBounds_toArray, List.set_cons_zero, List.set_cons_succ]
  refine wpAnyH_take (i := 7) (v := .int .i64 label) (lit rfl) (by kernel_rfl) (by kernel_rfl) (by kernel_rfl) (fun _ _ _ h => h) (Or.inl ⟨by rfl, ?_⟩) hS ?_
  · rintro w6 s1
    have d0 := s1.hm.cell 0
    go_simp
  simp only [Act.put, List.setIfInBounds_toArray, List.set_cons_zero, List.set_cons_succ]
  refine wpAnyH_ready (rs := [8, 12]) (by kernel_rfl) (by simp) ?_
  refine AllReadyH.cons (lit rfl) (fun K5 hK5 => ?_) (AllReadyH.cons (lit rfl) (fun K5 hK5 => ?_) AllReadyH.nil)
  · refine step_open rfl ?_
    go_simp
    go_at_call 18
    (with_reducible refine (HN1.out _ _ _ _ _ (HT.out.below BD) hS.p2.arg hS.p1.arg).mono ?_)
    rintro y1 v2 ⟨rfl, b1⟩
    replace hS := hS.below b1
    replace BD := below_step BD b1
    clear b1
    refine hK5.out _ _ hS (fun _ => ?_)
    clear hK5 K5
    refine wpAnyH_take (i := 9) (v := .tuple #[.agg #[.int .i64 label, .int .u64 (tn : Int), .int .i64 0, .int .i64 list, .int .i64 high], .bool true]) (lit rfl) (by kernel_rfl) (by kernel_rfl) (by kernel_rfl) (fun _ _ _ h => h) (Or.inl ⟨by rfl, ?_⟩) hS ?_
    · rintro w6 s1
      go_simp
    simp only [Act.put, List.setIfInBounds_toArray, List.set_cons_zero, List.set_cons_succ]
    refine wpAnyH_take (i := 10) (v := .agg #[.int .i64 label, .int .u64 (tn : Int), .int .i64 0, .int .i64 list, .int .i64 high]) (lit rfl) (by kernel_rfl) (by kernel_rfl) (by kernel_rfl) (fun _ _ _ h => h) (Or.inl ⟨by rfl, ?_⟩) hS ?_
    · rintro w6 s1
      go_simp
    simp only [Act.put, List.setIfInBounds_toArray, List.set_cons_zero, List.set_cons_succ]
    refine wpAnyH_take (i := 11) (v := .bool true) (lit rfl) (by kernel_rfl) (by kernel_rfl) (by kernel_rfl) (fun _ _ _ h => h) (Or.inl ⟨by rfl, ?_⟩) hS ?_
    · rintro w6 s1
      go_simp
    simp only [Act.put, List.setIfInBounds_toArray, List.set_cons_zero, List.set_cons_succ]
    refine wpAnyH_ready (rs := [12]) (by kernel_rfl) (by simp) ?_
    refine AllReadyH.cons (lit rfl) (fun K5 hK5 => ?_) AllReadyH.nil
    refine step_open rfl ?_
    go_simp
    obtain ⟨v3, hv3⟩ : ∃ x, v2.alloc (.cells #[.int .i64 0, .int .u64 0, .int .i64 0, .int .i64 0, .int .i64 0] 24) = x := ⟨_, rfl⟩
    try rw [hv3]
    have b1 : Below v2.heap.size v2 v3 := hv3 ▸ (Below.refl _ v2).alloc (Nat.le_refl _) _
    have BX := hv3 ▸ Has.made v2 24 #[.int .i64 0, .int .u64 0, .int .i64 0, .int .i64 0, .int .i64 0]
    have hb0 : w.heap.size ≠ v2.heap.size := Nat.ne_of_lt hS.hm.lt
    have hbN : w2.heap.size ≠ v2.heap.size := Nat.ne_of_lt hS.hn.lt
    have hbl : w.heap.size < v2.heap.size := hS.hm.lt
    replace hS := hS.below b1
    replace BD := below_step BD b1
    have f80 := BX.free 0
    have f81 := BX.free 1
    have f82 := BX.free 2
    have f83 := BX.free 3
    have f84 := BX.free 4
    have e80 := BX.cell 0
    have e81 := BX.cell 1
    have e82 := BX.cell 2
    have e83 := BX.cell 3
    have e84 := BX.cell 4
    clear b1 hv3
    refine hK5.out _ _ hS (fun _ => ?_)
    clear hK5 K5
    refine wpAnyH_ready (rs := [13]) (by kernel_rfl) (by simp) ?_
    refine AllReadyH.cons (lit rfl) (fun K5 hK5 => ?_) AllReadyH.nil
    refine step_open rfl ?_
    go_simp
    replace hS := hS.box BX hb0 hbN (.int .i64 label) (.int .u64 (tn : Int)) (.int .i64 0) (.int .i64 list) (.int .i64 high)
    replace BD := below_setM BD (Nat.le_of_lt hbl) (.int .i64 label) (.int .u64 (tn : Int)) (.int .i64 0) (.int .i64 list) (.int .i64 high)
    replace BX := BX.setM (.int .i64 label) (.int .u64 (tn : Int)) (.int .i64 0) (.int .i64 list) (.int .i64 high)
    clear f80 e80
    clear f81 e81
    clear f82 e82
    clear f83 e83
    clear f84 e84
    refine hK5.out _ _ hS (fun _ => ?_)
    clear hK5 K5
    refine wpAnyH_take (i := 14) (v := .bool true) (lit rfl) (by kernel_rfl) (by kernel_rfl) (by kernel_rfl) (fun _ _ _ h => h) (Or.inl ⟨by rfl, ?_⟩) hS ?_
    · rintro w6 s1
      go_simp
    simp only [Act.put, List.setIfInBounds_toArray, List.set_cons_zero, List.set_cons_succ]
    obtain ⟨v4, hnv⟩ : ∃ x, stM5 v3 v2.heap.size (.int .i64 label) (.int .u64 (tn : Int)) (.int .i64 0) (.int .i64 list) (.int .i64 high) = x := ⟨_, rfl⟩
    rw [hnv] at hS BD BX
    unfold stM5 at hnv
    try rw [hnv]
    refine wpAnyH_done (by kernel_rfl) ?_ _
    refine hK _ _ ?_
    clear hK K
    have n70 := hS.hn.cell 0
    have n71 := hS.hn.cell 1
    have n72 := hS.hn.cell 2
    have n73 := hS.hn.cell 3
    have n74 := hS.hn.cell 4
    have e70 := BX.cell 0
    have e71 := BX.cell 1
    have e72 := BX.cell 2
    have e73 := BX.cell 3
    have e74 := BX.cell 4
    have fb := (hS.p2.at yo HK2.out).2
    have cb := (hS.p2.at yo HK2.out).1
    rw [HX2.out] at cb
    have FA := Lib.hid hS
    have BV := Lib.hid BD
    have BXH := Lib.hid BX
    clear hS BD BX
    go_wp2
    have hS := FA.out.turn2 hg12 yo HK2.out z2
    rw [HPN2.out] at hS
    have BX := BXH.out.away (p := ⟨g2, o2 + yo, none⟩) (FA.out.p2.apart BXH.out (by decide)) (.int .u8 (z2.toNat : Int))
    have BD := BV.out.setCell (p := ⟨g2, o2 + yo, none⟩) (by show w.heap.size ≤ g2; have := B4.out.size; omega) (.int .u8 (z2.toNat : Int))
    generalize v4.setCell ⟨g2, o2 + yo, none⟩ (.int .u8 (z2.toNat : Int)) = a0 at *
    replace hS : Fa a0.drew w.heap.size w2.heap.size (w2.heap.size + 1) #[.int .i64 label, .int .u64 (txn : Int), .int .i64 root, .int .i64 list, .int .i64 high] #[.int .i64 label, .int .u64 (tn : Int), .int .i64 0, .int .i64 list, .int .i64 high] #[.slice (some ⟨g2, o2, none⟩) 128 k2, .slice (some ⟨g1, o1, none⟩) 128 k1] g1 o1 k1 pm g2 o2 k2 pn2 := hS.drew
    replace BD : Below w.heap.size w a0.drew := BD.drew
    replace BX : Has a0.drew v2.heap.size 24 #[.int .i64 label, .int .u64 (tn : Int), .int .i64 0, .int .i64 list, .int .i64 high] := BX
    clear fb cb FA BV BXH
    rename_i K hK
    refine wp_held (fun w' => Fa w' w.heap.size w2.heap.size (w2.heap.size + 1) #[.int .i64 label, .int .u64 (txn : Int), .int .i64 root, .int .i64 list, .int .i64 high] #[.int .i64 label, .int .u64 (tn : Int), .int .i64 0, .int .i64 list, .int .i64 high] #[.slice (some ⟨g2, o2, none⟩) 128 k2, .slice (some ⟨g1, o1, none⟩) 128 k1] g1 o1 k1 pm g2 o2 k2 pn2) K hmx ?_ (fun _ _ h => h)
    generalize a0.drew = a1 at hS BD BX ⊢
    refine wpAnyH_take (i := 0) (v := .slice (some ⟨w2.heap.size + 1, 0, none⟩) 2 2) (lit rfl) (by kernel_rfl) (by kernel_rfl) (by kernel_rfl) (fun _ _ _ h => h) (Or.inl ⟨by rfl, ?_⟩) hS ?_
    · rintro w6 s1
      go_simp
    simp only [Act.put, List.setIfInBounds_toArray, List.set_cons_zero, List.set_cons_succ]
    refine wpAnyH_take (i := 1) (v := .pointer (some ⟨w2.heap.size + 1, 0, none⟩)) (lit rfl) (by kernel_rfl) (by kernel_rfl) (by kernel_rfl) (fun _ _ _ h => h) (Or.inl ⟨by rfl, ?_⟩) hS ?_
    · rintro w6 s1
      go_simp
    simp only [Act.put, List.setIfInBounds_toArray, List.set_cons_zero, List.set_cons_succ]
    refine wpAnyH_take (i := 2) (v := .slice (some ⟨g2, o2, none⟩) 128 k2) (lit rfl) (by kernel_rfl) (by kernel_rfl) (by kernel_rfl) (fun _ _ _ h => h) (Or.inl ⟨by rfl, ?_⟩) hS ?_
    · rintro w6 s1
      have d0 := s1.hp.cell 0
      go_simp
    simp only [Act.put, List.setIfInBounds_toArray, List.set_cons_zero, List.set_cons_succ]
    refine wpAnyH_take (i := 3) (v := .slice (some ⟨w2.heap.size + 1, 0, none⟩) 2 2) (lit rfl) (by kernel_rfl) (by kernel_rfl) (by kernel_rfl) (fun _ _ _ h => h) (Or.inl ⟨by rfl, ?_⟩) hS ?_
    · rintro w6 s1
      go_simp
    simp only [Act.put, List.setIfInBounds_toArray, List.set_cons_zero, List.set_cons_succ]
    refine wpAnyH_take (i := 4) (v := .pointer (some ⟨w2.heap.size + 1, 1, none⟩)) (lit rfl) (by kernel_rfl) (by kernel_rfl) (by kernel_rfl) (fun _ _ _ h => h) (Or.inl ⟨by rfl, ?_⟩) hS ?_
    · rintro w6 s1
      go_simp
    simp only [Act.put, List.setIfInBounds_toArray, List.set_cons_zero, List.set_cons_succ]
    refine wpAnyH_take (i := 5) (v := .slice (some ⟨g1, o1, none⟩) 128 k1) (lit rfl) (by kernel_rfl) (by kernel_rfl) (by kernel_rfl) (fun _ _ _ h => h) (Or.inl ⟨by rfl, ?_⟩) hS ?_
    · rintro w6 s1
      have d0 := s1.hp.cell 1
      go_simp
    simp only [Act.put, List.setIfInBounds_toArray, List.set_cons_zero, List.set_cons_succ]
    refine wpAnyH_take (i := 6) (v := .pointer (some ⟨w.heap.size, 0, none⟩)) (lit rfl) (by kernel_rfl) (by kernel_rfl) (by kernel_rfl) (fun _ _ _ h => h) (Or.inl ⟨by rfl, ?_⟩) hS ?_
    · rintro w6 s1
      go_simp
    simp only [Act.put, List.setIfInBounds_toArray, List.set_cons_zero, List.set_cons_succ]
    refine wpAnyH_take (i := 7) (v := .int .i64 label) (lit rfl) (by kernel_rfl) (by kernel_rfl) (by kernel_rfl) (fun _ _ _ h => h) (Or.inl ⟨by rfl, ?_⟩) hS ?_
    · rintro w6 s1
      have d0 := s1.hm.cell 0
      go_simp
    simp only [Act.put, List.setIfInBounds_toArray, List.set_cons_zero, List.set_cons_succ]
    refine wpAnyH_ready (rs := [8]) (by kernel_rfl) (by simp) ?_
    refine AllReadyH.cons (lit rfl) (fun K5 hK5 => ?_) AllReadyH.nil
    refine step_open rfl ?_
    go_simp
    go_at_call 18
    (with_reducible refine (HN2.out _ _ _ _ _ (HT.out.below BD) hS.p2.arg hS.p1.arg).mono ?_)
    rintro y2 a2 ⟨rfl, b1⟩
    replace hS := hS.below b1
    replace BD := below_step BD b1
    replace BX := BX.below b1 BX.lt
    have f80 := BX.free 0
    have f81 := BX.free 1
    have f82 := BX.free 2
    have f83 := BX.free 3
    have f84 := BX.free 4
    have e80 := BX.cell 0
    have e81 := BX.cell 1
    have e82 := BX.cell 2
    have e83 := BX.cell 3
    have e84 := BX.cell 4
    clear b1
    refine hK5.out _ _ hS (fun _ => ?_)
    clear hK5 K5
    refine wpAnyH_take (i := 9) (v := .tuple #[.agg #[.int .i64 label, .int .u64 (txn : Int), .int .i64 root, .int .i64 list, .int .i64 high], .bool true]) (lit rfl) (by kernel_rfl) (by kernel_rfl) (by kernel_rfl) (fun _ _ _ h => h) (Or.inl ⟨by rfl, ?_⟩) hS ?_
    · rintro w6 s1
      go_simp
    simp only [Act.put, List.setIfInBounds_toArray, List.set_cons_zero, List.set_cons_succ]
    refine wpAnyH_take (i := 10) (v := .agg #[.int .i64 label, .int .u64 (txn : Int), .int .i64 root, .int .i64 list, .int .i64 high]) (lit rfl) (by kernel_rfl) (by kernel_rfl) (by kernel_rfl) (fun _ _ _ h => h) (Or.inl ⟨by rfl, ?_⟩) hS ?_
    · rintro w6 s1
      go_simp
    simp only [Act.put, List.setIfInBounds_toArray, List.set_cons_zero, List.set_cons_succ]
    refine wpAnyH_take (i := 11) (v := .bool true) (lit rfl) (by kernel_rfl) (by kernel_rfl) (by kernel_rfl) (fun _ _ _ h => h) (Or.inl ⟨by rfl, ?_⟩) hS ?_
    · rintro w6 s1
      go_simp
    simp only [Act.put, List.setIfInBounds_toArray, List.set_cons_zero, List.set_cons_succ]
    refine wpAnyH_ready (rs := [12]) (by kernel_rfl) (by simp) ?_
    refine AllReadyH.cons (lit rfl) (fun K5 hK5 => ?_) AllReadyH.nil
    refine step_open rfl ?_
    go_simp
    replace hS := hS.box BX hb0 hbN (.int .i64 label) (.int .u64 (txn : Int)) (.int .i64 root) (.int .i64 list) (.int .i64 high)
    replace BD := below_setM BD (Nat.le_of_lt hbl) (.int .i64 label) (.int .u64 (txn : Int)) (.int .i64 root) (.int .i64 list) (.int .i64 high)
    replace BX := BX.setM (.int .i64 label) (.int .u64 (txn : Int)) (.int .i64 root) (.int .i64 list) (.int .i64 high)
    clear f80 e80
    clear f81 e81
    clear f82 e82
    clear f83 e83
    clear f84 e84
    refine hK5.out _ _ hS (fun _ => ?_)
    clear hK5 K5
    refine wpAnyH_take (i := 13) (v := .bool true) (lit rfl) (by kernel_rfl) (by kernel_rfl) (by kernel_rfl) (fun _ _ _ h => h) (Or.inl ⟨by rfl, ?_⟩) hS ?_
    · rintro w6 s1
      go_simp
    simp only [Act.put, List.setIfInBounds_toArray, List.set_cons_zero, List.set_cons_succ]
    refine wpAnyH_done (by kernel_rfl) ?_ _
    refine hK _ _ ?_
    clear hK K
    change Has (stM5 a2 v2.heap.size (.int .i64 label) (.int .u64 (txn : Int)) (.int .i64 root) (.int .i64 list) (.int .i64 high)) _ _ _ at BX
    obtain ⟨a3, ha3⟩ : ∃ x, stM5 a2 v2.heap.size (.int .i64 label) (.int .u64 (txn : Int)) (.int .i64 root) (.int .i64 list) (.int .i64 high) = x := ⟨_, rfl⟩
    rw [ha3] at hS BD BX
    unfold stM5 at ha3
    try rw [ha3]
    have m90 := hS.hm.cell 0
    have m91 := hS.hm.cell 1
    have m92 := hS.hm.cell 2
    have m93 := hS.hm.cell 3
    have m94 := hS.hm.cell 4
    have e90 := BX.cell 0
    have e91 := BX.cell 1
    have e92 := BX.cell 2
    have e93 := BX.cell 3
    have e94 := BX.cell 4
    have fb := (hS.p1.at yo HK1.out).2
    have cb := (hS.p1.at yo HK1.out).1
    rw [HX1.out] at cb
    have FA := Lib.hid hS
    have BV := Lib.hid BD
    clear hS BD BX
    go_wp2
    have hS := FA.out.turn1 hg12 yo HK1.out z1
    rw [HPM2.out] at hS
    have BD := BV.out.setCell (p := ⟨g1, o1 + yo, none⟩) (by show w.heap.size ≤ g1; have := B3.out.size; omega) (.int .u8 (z1.toNat : Int))
    generalize a3.setCell ⟨g1, o1 + yo, none⟩ (.int .u8 (z1.toNat : Int)) = d0 at *
    replace hS : Fa d0.drew w.heap.size w2.heap.size (w2.heap.size + 1) #[.int .i64 label, .int .u64 (txn : Int), .int .i64 root, .int .i64 list, .int .i64 high] #[.int .i64 label, .int .u64 (tn : Int), .int .i64 0, .int .i64 list, .int .i64 high] #[.slice (some ⟨g2, o2, none⟩) 128 k2, .slice (some ⟨g1, o1, none⟩) 128 k1] g1 o1 k1 pm2 g2 o2 k2 pn2 := hS.drew
    replace BD : Below w.heap.size w d0.drew := BD.drew
    clear fb cb FA BV
    rename_i K hK
    refine wp_held (fun w' => Fa w' w.heap.size w2.heap.size (w2.heap.size + 1) #[.int .i64 label, .int .u64 (txn : Int), .int .i64 root, .int .i64 list, .int .i64 high] #[.int .i64 label, .int .u64 (tn : Int), .int .i64 0, .int .i64 list, .int .i64 high] #[.slice (some ⟨g2, o2, none⟩) 128 k2, .slice (some ⟨g1, o1, none⟩) 128 k1] g1 o1 k1 pm2 g2 o2 k2 pn2) K hmx ?_ (fun _ _ h => h)
    generalize d0.drew = d1 at hS BD ⊢
    refine wpAnyH_take (i := 0) (v := .slice (some ⟨w2.heap.size + 1, 0, none⟩) 2 2) (lit rfl) (by kernel_rfl) (by kernel_rfl) (by kernel_rfl) (fun _ _ _ h => h) (Or.inl ⟨by rfl, ?_⟩) hS ?_
    · rintro w6 s1
      go_simp
    simp only [Act.put, List.setIfInBounds_toArray, List.set_cons_zero, List.set_cons_succ]
    refine wpAnyH_take (i := 1) (v := .pointer (some ⟨w2.heap.size + 1, 0, none⟩)) (lit rfl) (by kernel_rfl) (by kernel_rfl) (by kernel_rfl) (fun _ _ _ h => h) (Or.inl ⟨by rfl, ?_⟩) hS ?_
    · rintro w6 s1
      go_simp
    simp only [Act.put, List.setIfInBounds_toArray, List.set_cons_zero, List.set_cons_succ]
    refine wpAnyH_take (i := 2) (v := .slice (some ⟨g2, o2, none⟩) 128 k2) (lit rfl) (by kernel_rfl) (by kernel_rfl) (by kernel_rfl) (fun _ _ _ h => h) (Or.inl ⟨by rfl, ?_⟩) hS ?_
    · rintro w6 s1
      have d0 := s1.hp.cell 0
      go_simp
    simp only [Act.put, List.setIfInBounds_toArray, List.set_cons_zero, List.set_cons_succ]
    refine wpAnyH_take (i := 3) (v := .slice (some ⟨w2.heap.size + 1, 0, none⟩) 2 2) (lit rfl) (by kernel_rfl) (by kernel_rfl) (by kernel_rfl) (fun _ _ _ h => h) (Or.inl ⟨by rfl, ?_⟩) hS ?_
    · rintro w6 s1
      go_simp
    simp only [Act.put, List.setIfInBounds_toArray, List.set_cons_zero, List.set_cons_succ]
    refine wpAnyH_take (i := 4) (v := .pointer (some ⟨w2.heap.size + 1, 1, none⟩)) (lit rfl) (by kernel_rfl) (by kernel_rfl) (by kernel_rfl) (fun _ _ _ h => h) (Or.inl ⟨by rfl, ?_⟩) hS ?_
    · rintro w6 s1
      go_simp
    simp only [Act.put, List.setIfInBounds_toArray, List.set_cons_zero, List.set_cons_succ]
    refine wpAnyH_take (i := 5) (v := .slice (some ⟨g1, o1, none⟩) 128 k1) (lit rfl) (by kernel_rfl) (by kernel_rfl) (by kernel_rfl) (fun _ _ _ h => h) (Or.inl ⟨by rfl, ?_⟩) hS ?_
    · rintro w6 s1
      have d0 := s1.hp.cell 1
      go_simp
    simp only [Act.put, List.setIfInBounds_toArray, List.set_cons_zero, List.set_cons_succ]
    refine wpAnyH_take (i := 6) (v := .pointer (some ⟨w.heap.size, 0, none⟩)) (lit rfl) (by kernel_rfl) (by kernel_rfl) (by kernel_rfl) (fun _ _ _ h => h) (Or.inl ⟨by rfl, ?_⟩) hS ?_
    · rintro w6 s1
      go_simp
    simp only [Act.put, List.setIfInBounds_toArray, List.set_cons_zero, List.set_cons_succ]
    refine wpAnyH_take (i := 7) (v := .int .i64 label) (lit rfl) (by kernel_rfl) (by kernel_rfl) (by kernel_rfl) (fun _ _ _ h => h) (Or.inl ⟨by rfl, ?_⟩) hS ?_
    · rintro w6 s1
      have d0 := s1.hm.cell 0
      go_simp
    simp only [Act.put, List.setIfInBounds_toArray, List.set_cons_zero, List.set_cons_succ]
    refine wpAnyH_ready (rs := [8]) (by kernel_rfl) (by simp) ?_
    refine AllReadyH.cons (lit rfl) (fun K5 hK5 => ?_) AllReadyH.nil
    refine step_open rfl ?_
    go_simp
    go_at_call 18
    (with_reducible refine (HN3.out _ _ _ _ _ (HT.out.below BD) hS.p2.arg hS.p1.arg).mono ?_)
    rintro y3 d2 ⟨rfl, b1⟩
    replace hS := hS.below b1
    replace BD := below_step BD b1
    clear b1
    refine hK5.out _ _ hS (fun _ => ?_)
    clear hK5 K5
    refine wpAnyH_take (i := 9) (v := .tuple #[.agg #[.int .i64 0, .int .u64 0, .int .i64 0, .int .i64 0, .int .i64 0], .bool false]) (lit rfl) (by kernel_rfl) (by kernel_rfl) (by kernel_rfl) (fun _ _ _ h => h) (Or.inl ⟨by rfl, ?_⟩) hS ?_
    · rintro w6 s1
      go_simp
    simp only [Act.put, List.setIfInBounds_toArray, List.set_cons_zero, List.set_cons_succ]
    refine wpAnyH_take (i := 10) (v := .agg #[.int .i64 0, .int .u64 0, .int .i64 0, .int .i64 0, .int .i64 0]) (lit rfl) (by kernel_rfl) (by kernel_rfl) (by kernel_rfl) (fun _ _ _ h => h) (Or.inl ⟨by rfl, ?_⟩) hS ?_
    · rintro w6 s1
      go_simp
    simp only [Act.put, List.setIfInBounds_toArray, List.set_cons_zero, List.set_cons_succ]
    refine wpAnyH_take (i := 11) (v := .bool false) (lit rfl) (by kernel_rfl) (by kernel_rfl) (by kernel_rfl) (fun _ _ _ h => h) (Or.inl ⟨by rfl, ?_⟩) hS ?_
    · rintro w6 s1
      go_simp
    simp only [Act.put, List.setIfInBounds_toArray, List.set_cons_zero, List.set_cons_succ]
    refine wpAnyH_take (i := 12) (v := .bool false) (lit rfl) (by kernel_rfl) (by kernel_rfl) (by kernel_rfl) (fun _ _ _ h => h) (Or.inl ⟨by rfl, ?_⟩) hS ?_
    · rintro w6 s1
      go_simp
    simp only [Act.put, List.setIfInBounds_toArray, List.set_cons_zero, List.set_cons_succ]
    refine wpAnyH_done (by kernel_rfl) ?_ _
    refine hK _ _ ?_
    have BE := Lib.hid BD
    clear hS BD hK K
    go_wp2
    go_ret
    exact ⟨rfl, BE.out⟩
  · refine step_open rfl ?_
    go_simp
    obtain ⟨v3, hv3⟩ : ∃ x, v1.alloc (.cells #[.int .i64 0, .int .u64 0, .int .i64 0, .int .i64 0, .int .i64 0] 24) = x := ⟨_, rfl⟩
    try rw [hv3]
    have b1 : Below v1.heap.size v1 v3 := hv3 ▸ (Below.refl _ v1).alloc (Nat.le_refl _) _
    have BX := hv3 ▸ Has.made v1 24 #[.int .i64 0, .int .u64 0, .int .i64 0, .int .i64 0, .int .i64 0]
    have hb0 : w.heap.size ≠ v1.heap.size := Nat.ne_of_lt hS.hm.lt
    have hbN : w2.heap.size ≠ v1.heap.size := Nat.ne_of_lt hS.hn.lt
    have hbl : w.heap.size < v1.heap.size := hS.hm.lt
    replace hS := hS.below b1
    replace BD := below_step BD b1
    clear b1 hv3
    refine hK5.out _ _ hS (fun _ => ?_)
    clear hK5 K5
    refine wpAnyH_ready (rs := [8]) (by kernel_rfl) (by simp) ?_
    refine AllReadyH.cons (lit rfl) (fun K5 hK5 => ?_) AllReadyH.nil
    refine step_open rfl ?_
    go_simp
    go_at_call 18
    (with_reducible refine (HN1.out _ _ _ _ _ (HT.out.below BD) hS.p2.arg hS.p1.arg).mono ?_)
    rintro y1 v2 ⟨rfl, b1⟩
    replace hS := hS.below b1
    replace BD := below_step BD b1
    replace BX := BX.below b1 BX.lt
    have f80 := BX.free 0
    have f81 := BX.free 1
    have f82 := BX.free 2
    have f83 := BX.free 3
    have f84 := BX.free 4
    have e80 := BX.cell 0
    have e81 := BX.cell 1
    have e82 := BX.cell 2
    have e83 := BX.cell 3
    have e84 := BX.cell 4
    clear b1
    refine hK5.out _ _ hS (fun _ => ?_)
    clear hK5 K5
    refine wpAnyH_take (i := 9) (v := .tuple #[.agg #[.int .i64 label, .int .u64 (tn : Int), .int .i64 0, .int .i64 list, .int .i64 high], .bool true]) (lit rfl) (by kernel_rfl) (by kernel_rfl) (by kernel_rfl) (fun _ _ _ h => h) (Or.inl ⟨by rfl, ?_⟩) hS ?_
    · rintro w6 s1
      go_simp
    simp only [Act.put, List.setIfInBounds_toArray, List.set_cons_zero, List.set_cons_succ]
    refine wpAnyH_take (i := 10) (v := .agg #[.int .i64 label, .int .u64 (tn : Int), .int .i64 0, .int .i64 list, .int .i64 high]) (lit rfl) (by kernel_rfl) (by kernel_rfl) (by kernel_rfl) (fun _ _ _ h => h) (Or.inl ⟨by rfl, ?_⟩) hS ?_
    · rintro w6 s1
      go_simp
    simp only [Act.put, List.setIfInBounds_toArray, List.set_cons_zero, List.set_cons_succ]
    refine wpAnyH_take (i := 11) (v := .bool true) (lit rfl) (by kernel_rfl) (by kernel_rfl) (by kernel_rfl) (fun _ _ _ h => h) (Or.inl ⟨by rfl, ?_⟩) hS ?_
    · rintro w6 s1
      go_simp
    simp only [Act.put, List.setIfInBounds_toArray, List.set_cons_zero, List.set_cons_succ]
    refine wpAnyH_ready (rs := [13]) (by kernel_rfl) (by simp) ?_
    refine AllReadyH.cons (lit rfl) (fun K5 hK5 => ?_) AllReadyH.nil
    refine step_open rfl ?_
    go_simp
    replace hS := hS.box BX hb0 hbN (.int .i64 label) (.int .u64 (tn : Int)) (.int .i64 0) (.int .i64 list) (.int .i64 high)
    replace BD := below_setM BD (Nat.le_of_lt hbl) (.int .i64 label) (.int .u64 (tn : Int)) (.int .i64 0) (.int .i64 list) (.int .i64 high)
    replace BX := BX.setM (.int .i64 label) (.int .u64 (tn : Int)) (.int .i64 0) (.int .i64 list) (.int .i64 high)
    clear f80 e80
    clear f81 e81
    clear f82 e82
    clear f83 e83
    clear f84 e84
    refine hK5.out _ _ hS (fun _ => ?_)
    clear hK5 K5
    refine wpAnyH_take (i := 14) (v := .bool true) (lit rfl) (by kernel_rfl) (by kernel_rfl) (by kernel_rfl) (fun _ _ _ h => h) (Or.inl ⟨by rfl, ?_⟩) hS ?_
    · rintro w6 s1
      go_simp
    simp only [Act.put, List.setIfInBounds_toArray, List.set_cons_zero, List.set_cons_succ]
    obtain ⟨v4, hnv⟩ : ∃ x, stM5 v2 v1.heap.size (.int .i64 label) (.int .u64 (tn : Int)) (.int .i64 0) (.int .i64 list) (.int .i64 high) = x := ⟨_, rfl⟩
    rw [hnv] at hS BD BX
    unfold stM5 at hnv
    try rw [hnv]
    refine wpAnyH_done (by kernel_rfl) ?_ _
    refine hK _ _ ?_
    clear hK K
    have n70 := hS.hn.cell 0
    have n71 := hS.hn.cell 1
    have n72 := hS.hn.cell 2
    have n73 := hS.hn.cell 3
    have n74 := hS.hn.cell 4
    have e70 := BX.cell 0
    have e71 := BX.cell 1
    have e72 := BX.cell 2
    have e73 := BX.cell 3
    have e74 := BX.cell 4
    have fb := (hS.p2.at yo HK2.out).2
    have cb := (hS.p2.at yo HK2.out).1
    rw [HX2.out] at cb
    have FA := Lib.hid hS
    have BV := Lib.hid BD
    have BXH := Lib.hid BX
    clear hS BD BX
    go_wp2
    have hS := FA.out.turn2 hg12 yo HK2.out z2
    rw [HPN2.out] at hS
    have BX := BXH.out.away (p := ⟨g2, o2 + yo, none⟩) (FA.out.p2.apart BXH.out (by decide)) (.int .u8 (z2.toNat : Int))
    have BD := BV.out.setCell (p := ⟨g2, o2 + yo, none⟩) (by show w.heap.size ≤ g2; have := B4.out.size; omega) (.int .u8 (z2.toNat : Int))
    generalize v4.setCell ⟨g2, o2 + yo, none⟩ (.int .u8 (z2.toNat : Int)) = a0 at *
    replace hS : Fa a0.drew w.heap.size w2.heap.size (w2.heap.size + 1) #[.int .i64 label, .int .u64 (txn : Int), .int .i64 root, .int .i64 list, .int .i64 high] #[.int .i64 label, .int .u64 (tn : Int), .int .i64 0, .int .i64 list, .int .i64 high] #[.slice (some ⟨g2, o2, none⟩) 128 k2, .slice (some ⟨g1, o1, none⟩) 128 k1] g1 o1 k1 pm g2 o2 k2 pn2 := hS.drew
    replace BD : Below w.heap.size w a0.drew := BD.drew
    replace BX : Has a0.drew v1.heap.size 24 #[.int .i64 label, .int .u64 (tn : Int), .int .i64 0, .int .i64 list, .int .i64 high] := BX
    clear fb cb FA BV BXH
    rename_i K hK
    refine wp_held (fun w' => Fa w' w.heap.size w2.heap.size (w2.heap.size + 1) #[.int .i64 label, .int .u64 (txn : Int), .int .i64 root, .int .i64 list, .int .i64 high] #[.int .i64 label, .int .u64 (tn : Int), .int .i64 0, .int .i64 list, .int .i64 high] #[.slice (some ⟨g2, o2, none⟩) 128 k2, .slice (some ⟨g1, o1, none⟩) 128 k1] g1 o1 k1 pm g2 o2 k2 pn2) K hmx ?_ (fun _ _ h => h)
    generalize a0.drew = a1 at hS BD BX ⊢
    refine wpAnyH_take (i := 0) (v := .slice (some ⟨w2.heap.size + 1, 0, none⟩) 2 2) (lit rfl) (by kernel_rfl) (by kernel_rfl) (by kernel_rfl) (fun _ _ _ h => h) (Or.inl ⟨by rfl, ?_⟩) hS ?_
    · rintro w6 s1
      go_simp
    simp only [Act.put, List.setIfInBounds_toArray, List.set_cons_zero, List.set_cons_succ]
    refine wpAnyH_take (i := 1) (v := .pointer (some ⟨w2.heap.size + 1, 0, none⟩)) (lit rfl) (by kernel_rfl) (by kernel_rfl) (by kernel_rfl) (fun _ _ _ h => h) (Or.inl ⟨by rfl, ?_⟩) hS ?_
    · rintro w6 s1
      go_simp
    simp only [Act.put, List.setIfInBounds_toArray, List.set_cons_zero, List.set_cons_succ]
    refine wpAnyH_take (i := 2) (v := .slice (some ⟨g2, o2, none⟩) 128 k2) (lit rfl) (by kernel_rfl) (by kernel_rfl) (by kernel_rfl) (fun _ _ _ h => h) (Or.inl ⟨by rfl, ?_⟩) hS ?_
    · rintro w6 s1
      have d0 := s1.hp.cell 0
      go_simp
    simp only [Act.put, List.setIfInBounds_toArray, List.set_cons_zero, List.set_cons_succ]
    refine wpAnyH_take (i := 3) (v := .slice (some ⟨w2.heap.size + 1, 0, none⟩) 2 2) (lit rfl) (by kernel_rfl) (by kernel_rfl) (by kernel_rfl) (fun _ _ _ h => h) (Or.inl ⟨by rfl, ?_⟩) hS ?_
    · rintro w6 s1
      go_simp
    simp only [Act.put, List.setIfInBounds_toArray, List.set_cons_zero, List.set_cons_succ]
    refine wpAnyH_take (i := 4) (v := .pointer (some ⟨w2.heap.size + 1, 1, none⟩)) (lit rfl) (by kernel_rfl) (by kernel_rfl) (by kernel_rfl) (fun _ _ _ h => h) (Or.inl ⟨by rfl, ?_⟩) hS ?_
    · rintro w6 s1
      go_simp
    simp only [Act.put, List.setIfInBounds_toArray, List.set_cons_zero, List.set_cons_succ]
    refine wpAnyH_take (i := 5) (v := .slice (some ⟨g1, o1, none⟩) 128 k1) (lit rfl) (by kernel_rfl) (by kernel_rfl) (by kernel_rfl) (fun _ _ _ h => h) (Or.inl ⟨by rfl, ?_⟩) hS ?_
    · rintro w6 s1
      have d0 := s1.hp.cell 1
      go_simp
    simp only [Act.put, List.setIfInBounds_toArray, List.set_cons_zero, List.set_cons_succ]
    refine wpAnyH_take (i := 6) (v := .pointer (some ⟨w.heap.size, 0, none⟩)) (lit rfl) (by kernel_rfl) (by kernel_rfl) (by kernel_rfl) (fun _ _ _ h => h) (Or.inl ⟨by rfl, ?_⟩) hS ?_
    · rintro w6 s1
      go_simp
    simp only [Act.put, List.setIfInBounds_toArray, List.set_cons_zero, List.set_cons_succ]
    refine wpAnyH_take (i := 7) (v := .int .i64 label) (lit rfl) (by kernel_rfl) (by kernel_rfl) (by kernel_rfl) (fun _ _ _ h => h) (Or.inl ⟨by rfl, ?_⟩) hS ?_
    · rintro w6 s1
      have d0 := s1.hm.cell 0
      go_simp
    simp only [Act.put, List.setIfInBounds_toArray, List.set_cons_zero, List.set_cons_succ]
    refine wpAnyH_ready (rs := [8]) (by kernel_rfl) (by simp) ?_
    refine AllReadyH.cons (lit rfl) (fun K5 hK5 => ?_) AllReadyH.nil
    refine step_open rfl ?_
    go_simp
    go_at_call 18
    (with_reducible refine (HN2.out _ _ _ _ _ (HT.out.below BD) hS.p2.arg hS.p1.arg).mono ?_)
    rintro y2 a2 ⟨rfl, b1⟩
    replace hS := hS.below b1
    replace BD := below_step BD b1
    replace BX := BX.below b1 BX.lt
    have f80 := BX.free 0
    have f81 := BX.free 1
    have f82 := BX.free 2
    have f83 := BX.free 3
    have f84 := BX.free 4
    have e80 := BX.cell 0
    have e81 := BX.cell 1
    have e82 := BX.cell 2
    have e83 := BX.cell 3
    have e84 := BX.cell 4
    clear b1
    refine hK5.out _ _ hS (fun _ => ?_)
    clear hK5 K5
    refine wpAnyH_take (i := 9) (v := .tuple #[.agg #[.int .i64 label, .int .u64 (txn : Int), .int .i64 root, .int .i64 list, .int .i64 high], .bool true]) (lit rfl) (by kernel_rfl) (by kernel_rfl) (by kernel_rfl) (fun _ _ _ h => h) (Or.inl ⟨by rfl, ?_⟩) hS ?_
    · rintro w6 s1
      go_simp
    simp only [Act.put, List.setIfInBounds_toArray, List.set_cons_zero, List.set_cons_succ]
    refine wpAnyH_take (i := 10) (v := .agg #[.int .i64 label, .int .u64 (txn : Int), .int .i64 root, .int .i64 list, .int .i64 high]) (lit rfl) (by kernel_rfl) (by kernel_rfl) (by kernel_rfl) (fun _ _ _ h => h) (Or.inl ⟨by rfl, ?_⟩) hS ?_
    · rintro w6 s1
      go_simp
    simp only [Act.put, List.setIfInBounds_toArray, List.set_cons_zero, List.set_cons_succ]
    refine wpAnyH_take (i := 11) (v := .bool true) (lit rfl) (by kernel_rfl) (by kernel_rfl) (by kernel_rfl) (fun _ _ _ h => h) (Or.inl ⟨by rfl, ?_⟩) hS ?_
    · rintro w6 s1
      go_simp
    simp only [Act.put, List.setIfInBounds_toArray, List.set_cons_zero, List.set_cons_succ]
    refine wpAnyH_ready (rs := [12]) (by kernel_rfl) (by simp) ?_
    refine AllReadyH.cons (lit rfl) (fun K5 hK5 => ?_) AllReadyH.nil
    refine step_open rfl ?_
    go_simp
    replace hS := hS.box BX hb0 hbN (.int .i64 label) (.int .u64 (txn : Int)) (.int .i64 root) (.int .i64 list) (.int .i64 high)
    replace BD := below_setM BD (Nat.le_of_lt hbl) (.int .i64 label) (.int .u64 (txn : Int)) (.int .i64 root) (.int .i64 list) (.int .i64 high)
    replace BX := BX.setM (.int .i64 label) (.int .u64 (txn : Int)) (.int .i64 root) (.int .i64 list) (.int .i64 high)
    clear f80 e80
    clear f81 e81
    clear f82 e82
    clear f83 e83
    clear f84 e84
    refine hK5.out _ _ hS (fun _ => ?_)
    clear hK5 K5
    refine wpAnyH_take (i := 13) (v := .bool true) (lit rfl) (by kernel_rfl) (by kernel_rfl) (by kernel_rfl) (fun _ _ _ h => h) (Or.inl ⟨by rfl, ?_⟩) hS ?_
    · rintro w6 s1
      go_simp
    simp only [Act.put, List.setIfInBounds_toArray, List.set_cons_zero, List.set_cons_succ]
    refine wpAnyH_done (by kernel_rfl) ?_ _
    refine hK _ _ ?_
    clear hK K
    change Has (stM5 a2 v1.heap.size (.int .i64 label) (.int .u64 (txn : Int)) (.int .i64 root) (.int .i64 list) (.int .i64 high)) _ _ _ at BX
    obtain ⟨a3, ha3⟩ : ∃ x, stM5 a2 v1.heap.size (.int .i64 label) (.int .u64 (txn : Int)) (.int .i64 root) (.int .i64 list) (.int .i64 high) = x := ⟨_, rfl⟩
    rw [ha3] at hS BD BX
    unfold stM5 at ha3
    try rw [ha3]
    have m90 := hS.hm.cell 0
    have m91 := hS.hm.cell 1
    have m92 := hS.hm.cell 2
    have m93 := hS.hm.cell 3
    have m94 := hS.hm.cell 4
    have e90 := BX.cell 0
    have e91 := BX.cell 1
    have e92 := BX.cell 2
    have e93 := BX.cell 3
    have e94 := BX.cell 4
    have fb := (hS.p1.at yo HK1.out).2
    have cb := (hS.p1.at yo HK1.out).1
    rw [HX1.out] at cb
    have FA := Lib.hid hS
    have BV := Lib.hid BD
    clear hS BD BX
    go_wp2
    have hS := FA.out.turn1 hg12 yo HK1.out z1
    rw [HPM2.out] at hS
    have BD := BV.out.setCell (p := ⟨g1, o1 + yo, none⟩) (by show w.heap.size ≤ g1; have := B3.out.size; omega) (.int .u8 (z1.toNat : Int))
    generalize a3.setCell ⟨g1, o1 + yo, none⟩ (.int .u8 (z1.toNat : Int)) = d0 at *
    replace hS : Fa d0.drew w.heap.size w2.heap.size (w2.heap.size + 1) #[.int .i64 label, .int .u64 (txn : Int), .int .i64 root, .int .i64 list, .int .i64 high] #[.int .i64 label, .int .u64 (tn : Int), .int .i64 0, .int .i64 list, .int .i64 high] #[.slice (some ⟨g2, o2, none⟩) 128 k2, .slice (some ⟨g1, o1, none⟩) 128 k1] g1 o1 k1 pm2 g2 o2 k2 pn2 := hS.drew
    replace BD : Below w.heap.size w d0.drew := BD.drew
    clear fb cb FA BV
    rename_i K hK
    refine wp_held (fun w' => Fa w' w.heap.size w2.heap.size (w2.heap.size + 1) #[.int .i64 label, .int .u64 (txn : Int), .int .i64 root, .int .i64 list, .int .i64 high] #[.int .i64 label, .int .u64 (tn : Int), .int .i64 0, .int .i64 list, .int .i64 high] #[.slice (some ⟨g2, o2, none⟩) 128 k2, .slice (some ⟨g1, o1, none⟩) 128 k1] g1 o1 k1 pm2 g2 o2 k2 pn2) K hmx ?_ (fun _ _ h => h)
    generalize d0.drew = d1 at hS BD ⊢
    refine wpAnyH_take (i := 0) (v := .slice (some ⟨w2.heap.size + 1, 0, none⟩) 2 2) (lit rfl) (by kernel_rfl) (by kernel_rfl) (by kernel_rfl) (fun _ _ _ h => h) (Or.inl ⟨by rfl, ?_⟩) hS ?_
    · rintro w6 s1
      go_simp
    simp only [Act.put, List.setIfInBounds_toArray, List.set_cons_zero, List.set_cons_succ]
    refine wpAnyH_take (i := 1) (v := .pointer (some ⟨w2.heap.size + 1, 0, none⟩)) (lit rfl) (by kernel_rfl) (by kernel_rfl) (by kernel_rfl) (fun _ _ _ h => h) (Or.inl ⟨by rfl, ?_⟩) hS ?_
    · rintro w6 s1
      go_simp
    simp only [Act.put, List.setIfInBounds_toArray, List.set_cons_zero, List.set_cons_succ]
    refine wpAnyH_take (i := 2) (v := .slice (some ⟨g2, o2, none⟩) 128 k2) (lit rfl) (by kernel_rfl) (by kernel_rfl) (by kernel_rfl) (fun _ _ _ h => h) (Or.inl ⟨by rfl, ?_⟩) hS ?_
    · rintro w6 s1
      have d0 := s1.hp.cell 0
      go_simp
    simp only [Act.put, List.setIfInBounds_toArray, List.set_cons_zero, List.set_cons_succ]
    refine wpAnyH_take (i := 3) (v := .slice (some ⟨w2.heap.size + 1, 0, none⟩) 2 2) (lit rfl) (by kernel_rfl) (by kernel_rfl) (by kernel_rfl) (fun _ _ _ h => h) (Or.inl ⟨by rfl, ?_⟩) hS ?_
    · rintro w6 s1
      go_simp
    simp only [Act.put, List.setIfInBounds_toArray, List.set_cons_zero, List.set_cons_succ]
    refine wpAnyH_take (i := 4) (v := .pointer (some ⟨w2.heap.size + 1, 1, none⟩)) (lit rfl) (by kernel_rfl) (by kernel_rfl) (by kernel_rfl) (fun _ _ _ h => h) (Or.inl ⟨by rfl, ?_⟩) hS ?_
    · rintro w6 s1
      go_simp
    simp only [Act.put, List.setIfInBounds_toArray, List.set_cons_zero, List.set_cons_succ]
    refine wpAnyH_take (i := 5) (v := .slice (some ⟨g1, o1, none⟩) 128 k1) (lit rfl) (by kernel_rfl) (by kernel_rfl) (by kernel_rfl) (fun _ _ _ h => h) (Or.inl ⟨by rfl, ?_⟩) hS ?_
    · rintro w6 s1
      have d0 := s1.hp.cell 1
      go_simp
    simp only [Act.put, List.setIfInBounds_toArray, List.set_cons_zero, List.set_cons_succ]
    refine wpAnyH_take (i := 6) (v := .pointer (some ⟨w.heap.size, 0, none⟩)) (lit rfl) (by kernel_rfl) (by kernel_rfl) (by kernel_rfl) (fun _ _ _ h => h) (Or.inl ⟨by rfl, ?_⟩) hS ?_
    · rintro w6 s1
      go_simp
    simp only [Act.put, List.setIfInBounds_toArray, List.set_cons_zero, List.set_cons_succ]
    refine wpAnyH_take (i := 7) (v := .int .i64 label) (lit rfl) (by kernel_rfl) (by kernel_rfl) (by kernel_rfl) (fun _ _ _ h => h) (Or.inl ⟨by rfl, ?_⟩) hS ?_
    · rintro w6 s1
      have d0 := s1.hm.cell 0
      go_simp
    simp only [Act.put, List.setIfInBounds_toArray, List.set_cons_zero, List.set_cons_succ]
    refine wpAnyH_ready (rs := [8]) (by kernel_rfl) (by simp) ?_
    refine AllReadyH.cons (lit rfl) (fun K5 hK5 => ?_) AllReadyH.nil
    refine step_open rfl ?_
    go_simp
    go_at_call 18
    (with_reducible refine (HN3.out _ _ _ _ _ (HT.out.below BD) hS.p2.arg hS.p1.arg).mono ?_)
    rintro y3 d2 ⟨rfl, b1⟩
    replace hS := hS.below b1
    replace BD := below_step BD b1
    clear b1
    refine hK5.out _ _ hS (fun _ => ?_)
    clear hK5 K5
    refine wpAnyH_take (i := 9) (v := .tuple #[.agg #[.int .i64 0, .int .u64 0, .int .i64 0, .int .i64 0, .int .i64 0], .bool false]) (lit rfl) (by kernel_rfl) (by kernel_rfl) (by kernel_rfl) (fun _ _ _ h => h) (Or.inl ⟨by rfl, ?_⟩) hS ?_
    · rintro w6 s1
      go_simp
    simp only [Act.put, List.setIfInBounds_toArray, List.set_cons_zero, List.set_cons_succ]
    refine wpAnyH_take (i := 10) (v := .agg #[.int .i64 0, .int .u64 0, .int .i64 0, .int .i64 0, .int .i64 0]) (lit rfl) (by kernel_rfl) (by kernel_rfl) (by kernel_rfl) (fun _ _ _ h => h) (Or.inl ⟨by rfl, ?_⟩) hS ?_
    · rintro w6 s1
      go_simp
    simp only [Act.put, List.setIfInBounds_toArray, List.set_cons_zero, List.set_cons_succ]
    refine wpAnyH_take (i := 11) (v := .bool false) (lit rfl) (by kernel_rfl) (by kernel_rfl) (by kernel_rfl) (fun _ _ _ h => h) (Or.inl ⟨by rfl, ?_⟩) hS ?_
    · rintro w6 s1
      go_simp
    simp only [Act.put, List.setIfInBounds_toArray, List.set_cons_zero, List.set_cons_succ]
    refine wpAnyH_take (i := 12) (v := .bool false) (lit rfl) (by kernel_rfl) (by kernel_rfl) (by kernel_rfl) (fun _ _ _ h => h) (Or.inl ⟨by rfl, ?_⟩) hS ?_
    · rintro w6 s1
      go_simp
    simp only [Act.put, List.setIfInBounds_toArray, List.set_cons_zero, List.set_cons_succ]
    refine wpAnyH_done (by kernel_rfl) ?_ _
    refine hK _ _ ?_
    have BE := Lib.hid BD
    clear hS BD hK K
    go_wp2
    go_ret
    exact ⟨rfl, BE.out⟩
theorem walkMeFal (m : Mt) (y : UInt8) (w : World) (ht : Tab w) :
    Calls Tryd.prog 5 #[mtV m, .int .u8 (y.toNat : Int)] w fun e w' => e = .returned (.bool true) ∧ Below w.heap.size w w' := by
  by_cases hc : checkM m
  · by_cases hf : 4611686018427387904 < m.txn
    · exact walkMeFal_far m y w ht hc hf
    · have hs : m.txn % 2 = 0 ∨ m.txn % 2 = 1 := by omega
      rcases hs with hs | hs
      · exact walkMeFal_yes0 m y _ _ w ht hc hf hs rfl rfl
      · exact walkMeFal_yes1 m y _ _ w ht hc hf hs rfl rfl
  · exact walkMeFal_no m y w ht hc
end Go.Proofs.YtpikcodnonodlaaDoor
