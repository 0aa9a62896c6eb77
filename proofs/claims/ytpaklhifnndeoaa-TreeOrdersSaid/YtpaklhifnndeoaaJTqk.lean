import Derived.Test.YtpaklhifnndeoaaJTqj
/- Of a claim's texts, joined: Tqk. No statement but in the last. -/
namespace Go.Proofs.Ytpaklhifnndeoaa
open Go.RowKit
set_option linter.unusedVariables false

theorem rep_box {G Fo : Nat → Prop} {w' : World} {P B S0 : Nat} {z : NDV} {t : Tr} (hr : RepT (Fw G S0) w' z t) (hG : ∀ q, G q → Fo q) (hFo : ∀ q, Fo q → q < B) (hB : B ≤ P) (hP : P < S0) (a b c d e : Value) : RepT (Fw Fo B) (st5 w' P a b c d e) z t :=
  RepT.move (fun q hq hl => by
    rcases hq with hq | hq
    · have h1 := hG q hq
      have h2 := hFo q h1
      exact ⟨.inl h1, heap_st5 w' P _ _ _ _ _ q (by omega)⟩
    · exact ⟨.inr (by omega), heap_st5 w' P _ _ _ _ _ q (by omega)⟩) hr
theorem rep_box0 {Fo : Nat → Prop} {w' : World} {P B : Nat} {z : NDV} {t : Tr} (hr : RepT Fo w' z t) (hFo : ∀ q, Fo q → q < B) (hB : B ≤ P) (a b c d e : Value) : RepT (Fw Fo B) (st5 w' P a b c d e) z t :=
  rep_box (S0 := P + 1) (RepT.mono hr fun q hq => .inl hq) (fun q hq => hq) hFo hB (by omega) a b c d e
set_option maxRecDepth 100000 in
set_option maxHeartbeats 16000000 in
theorem trMend_in (F : Nat → Prop) (x : NDV) (p : Int) (l : List (List UInt8 × Tr)) (k : Nat) (w : World) (h : RepT F w x (.branch p l)) (hl : l.length ≤ 150) (hk : k < l.length) (hb : ∀ x ∈ l, BndN 50 x.2) (hkey : ∀ x ∈ l, x.1.length ≤ 500) (hev : evenT l) :
    Calls Try.prog 54 #[ndV x, .int .i64 (k : Int)] w (NodT (Fw (fun q => F q ∧ q < w.heap.size) w.heap.size) (mendT p l k) w) := by
  obtain ⟨Fo, hFo⟩ : ∃ Fo : Nat → Prop, (fun q => F q ∧ q < w.heap.size) = Fo := ⟨_, rfl⟩
  have hrep := h.old
  rw [hFo] at hrep ⊢
  have hFW : ∀ q, Fo q → q < w.heap.size := fun q hq => by rw [← hFo] at hq; exact hq.2
  obtain ⟨hp, hlf, hrow⟩ := repT_rowB.1 hrep
  have HKO := Lib.hid (fun (w' : World) (hb : Below w.heap.size w w') => trKidsOf_branch Fo x p l w' (hrep.stay hb))
  have HSP := Lib.hid (fun (w' : World) (n : Nat) (hb1 : Below w.heap.size w w') (h1 : cellsN (kidT l k).2 ≤ 500) (h2 : 1 ≤ n) (h3 : n < cellsN (kidT l k).2) => trSplit_any Fo x p l k n w' (hrep.stay hb1) (by omega) hk h1 h2 h3)
  have HME := Lib.hid (fun (w' : World) (f : Nat) (hb1 : Below w.heap.size w w') (h1 : f + 1 < l.length) => trMerge_any Fo x p l f w' (hrep.stay hb1) (by omega) h1 (hb _ (kid_mem (by omega))) (hb _ (kid_mem h1)) hkey (hev f (f + 1) (by omega) h1))
  have HRP := Lib.hid hrep
  obtain ⟨pn, lfn, kAn, knn, kcn, vAn, vnn, vcn, dAn, dnn, dcn⟩ := x
  simp only at hp hlf
  subst hp hlf
  obtain ⟨hkr, hv, ks, hd, hdb⟩ := hrow
  simp only at hkr hv hd
  obtain ⟨e, he, hey⟩ := hdb.at_ (kid_some15 hk)
  have e2 : dnn = l.length := by rw [hd.lenS ndL_len (by omega), hdb.1]
  obtain rfl : vnn = 0 := hv.zero (by omega)
  obtain ⟨p1, lf1, kA1, kn1, kc1, vA1, vn1, vc1, dA1, dn1, dc1⟩ := e
  obtain ⟨gd, offd, rfl, hgd, hdc⟩ := hd.atS ndL_len (by omega) he
  have hbk := hb _ (kid_mem hk)
  obtain ⟨kd, hkd⟩ : ∃ t, (kidT l k).2 = t := ⟨_, rfl⟩
  rw [hkd] at hey hbk
  have HSZ := Lib.hid (fun (w' : World) (hb : Below w.heap.size w w') => trSizes_any _ _ kd w' (hey.stay hb) (hbk.mono (by decide)))
  unfold ndV at HKO HSP HME HSZ ⊢
  simp only at HKO HSP HME HSZ ⊢
  have HAT := Lib.hid (fun (A : Option Addr) (c : Nat) (w' : World) (h : RowZ w' A (cellsN kd) c (sizesT kd)) => cuAt_any _ A _ c w' h (siz_tree (hbk.mono (by decide))))
  have HLO := Lib.hid (fun (A : Option Addr) (c : Nat) (w' : World) (h : RowZ w' A (cellsN kd) c (sizesT kd)) => cuLow_any _ A _ c w' h (siz_tree (hbk.mono (by decide))))
  obtain ⟨V, hV⟩ : ∃ W, (w.alloc (.cells #[.int .i64 pn, .bool false, .slice kAn knn kcn, .slice vAn 0 vcn, .slice (some ⟨gd, offd, none⟩) dnn dcn] 29)).alloc (.cells #[.int .i64 0, .bool false, .slice none 0 0, .slice none 0 0, .slice none 0 0] 29) = W := ⟨_, rfl⟩
  have hB0 : Below w.heap.size w V := hV ▸ (((Below.refl _ w).alloc (Nat.le_refl _) _).alloc (by simp) _)
  have hX2 : Has V w.heap.size 29 #[.int .i64 pn, .bool false, .slice kAn knn kcn, .slice vAn 0 vcn, .slice (some ⟨gd, offd, none⟩) dnn dcn] := hV ▸ (Has.made w 29 _).alloc _
  have hX4 : Has V (w.heap.size + 1) 29 #[.int .i64 0, .bool false, .slice none 0 0, .slice none 0 0, .slice none 0 0] := hV ▸ (by have := Has.made (w.alloc (.cells #[.int .i64 pn, .bool false, .slice kAn knn kcn, .slice vAn 0 vcn, .slice (some ⟨gd, offd, none⟩) dnn dcn] 29)) 29 #[.int .i64 0, .bool false, .slice none 0 0, .slice none 0 0, .slice none 0 0]; simpa using this)
  have hlt4 := hX4.lt
  obtain ⟨P2, hP2⟩ : ∃ P, w.heap.size = P := ⟨_, rfl⟩
  obtain ⟨P4, hP4⟩ : ∃ P, P2 + 1 = P := ⟨_, rfl⟩
  rw [hP2] at hX2
  rw [hP2, hP4] at hX4 hlt4
  obtain ⟨a, ha⟩ : ∃ a, atT l k = a := ⟨_, rfl⟩
  have ha2 : atZ (sizesT kd) = a := by rw [← ha]; unfold atT; rw [hkd]
  rw [ha2] at HAT
  obtain ⟨sm, hsm⟩ : ∃ s, sumZ (sizesT kd) = s := ⟨_, rfl⟩
  rw [hsm] at HLO
  have hcb := cells_bnd hbk
  have hai : a ≠ 0 → 1 ≤ a ∧ a < cellsN kd := fun h0 => by
    have := atZ_in (l := sizesT kd) (fun h => h0 (by rw [← ha2]; exact atZ_zero h))
    rw [ha2, sizes_len] at this
    exact this
  obtain ⟨m, hm⟩ : ∃ m, l.length = m := ⟨_, rfl⟩
  rw [hkd] at HSP
  rw [hm] at HKO hl hk e2
  have HM := Lib.hid hm
  have HMT : Hid (mendT pn l k = if a ≠ 0 then .branch 0 (splitT l k a) else if 30 ≤ sm ∨ m < 2 then .branch pn l else .branch 0 (partT (mergeT l (firstT l k)) (firstT l k))) := Lib.hid (by unfold mendT; rw [ha, hkd, hsm, hm])
  have HFT : Hid (firstT l k = if k + 1 < m then k else k - 1) := Lib.hid (by unfold firstT; rw [hm])
  have HKC := Lib.hid (fun (w' : World) (hb : Below w.heap.size w w') => (⟨cell_below (hdc 0 _ rfl) hb, cell_below (hdc 1 _ rfl) hb, cell_below (hdc 2 _ rfl) hb, cell_below (hdc 3 _ rfl) hb, cell_below (hdc 4 _ rfl) hb⟩ : w'.cell? ⟨gd, offd + k * 5, none⟩ = some (.int .i64 p1) ∧ w'.cell? ⟨gd, offd + k * 5 + 1, none⟩ = some (.bool lf1) ∧ w'.cell? ⟨gd, offd + k * 5 + 2, none⟩ = some (.slice kA1 kn1 kc1) ∧ w'.cell? ⟨gd, offd + k * 5 + 3, none⟩ = some (.slice vA1 vn1 vc1) ∧ w'.cell? ⟨gd, offd + k * 5 + 4, none⟩ = some (.slice dA1 dn1 dc1)))
  have HX2 := Lib.hid hX2
  have HX4 := Lib.hid hX4
  have HB0 := Lib.hid hB0
  have HFW := Lib.hid hFW
  have HORD : Hid (w.heap.size = P2 ∧ P2 < P4 ∧ P4 < V.heap.size) := Lib.hid ⟨hP2, by omega, hlt4⟩
  have HNE := Lib.hid (fun (a b : Int) (w1 : World) h1 h2 => cuNeigh_any a b w1 h1 h2)
  have i0 : (0 : Int) ≤ (k : Int) := by omega
  have i1 : (k : Int) < (m : Int) := by omega
  have i2 : (k : Int) < (dnn : Int) := by omega
  have i3 : ¬ (k : Int) < 0 := by omega
  have i4 : ¬ ((m : Int) ≤ (k : Int)) := by omega
  have x20 := hX2.cell 0
  have x21 := hX2.cell 1
  have x22 := hX2.cell 2
  have x23 := hX2.cell 3
  have x24 := hX2.cell 4
  have hmx : Try.prog.follows .mixedOrders = true := by kernel_rfl
  have hm1 : m ≤ 150 := hl
  have HCB := Lib.hid hcb
  clear h hrep hFo hkr hv hd hdb he hey e2 hdc hgd hbk hkd hb hkey hev hX2 hX4 hB0 hFW hlt4 ha ha2 hsm hm hcb hl hk
  rw [HMT.out]
  by_cases h0 : a = 0
  case neg =>
    rw [if_pos h0]
    have HAI := Lib.hid (hai h0)
    have HCB2 : Hid (cellsN kd ≤ 500) := Lib.hid (by have := HCB.out; omega)
    have h0i : ¬ ((a : Int) = 0) := by omega
    clear h0 hai
    go_enter Try.func54, Try.ntmps54
    go_wp2_with (first
      | (go_at_call 47; (with_reducible refine (HKO.out _ HB0.out).mono ?_); rintro e5 w5 ⟨rfl, b5⟩; have B5 := Lib.hid (below_step HB0.out b5); have V5 := Lib.hid (HX2.out.below b5 HX2.out.lt); have z4 := HX4.out.below b5 HX4.out.lt; have V4 := Lib.hid z4; have y0 := V5.out.cell 0; have y1 := V5.out.cell 1; have y2 := V5.out.cell 2; have y3 := V5.out.cell 3; have y4 := V5.out.cell 4; obtain ⟨c0, c1, c2, c3, c4⟩ := HKC.out _ B5.out; clear b5 z4)
      | (go_at_call 42; (with_reducible refine (HSZ.out _ B5.out).mono ?_); rintro e6 w6 ⟨A6, c6, rfl, r6, b6⟩; have B6 := Lib.hid (below_step B5.out b6); have Q6 := Lib.hid b6; have R6 := Lib.hid r6; clear r6 b6)
      | (go_at_call 63; (with_reducible refine (HAT.out _ _ _ R6.out).mono ?_); rintro e7 w7 ⟨rfl, b7⟩; have B7 := Lib.hid (below_step B6.out b7); have Q7 := Lib.hid (below_step Q6.out b7); have z7 := V5.out.below Q7.out V5.out.lt; have y70 := z7.cell 0; have y71 := z7.cell 1; have y72 := z7.cell 2; have y73 := z7.cell 3; have y74 := z7.cell 4; have u7 := V4.out.below Q7.out V4.out.lt; have p70 := u7.cell 0; have p71 := u7.cell 1; have p72 := u7.cell 2; have p73 := u7.cell 3; have p74 := u7.cell 4; have f70 := u7.free 0; have f71 := u7.free 1; have f72 := u7.free 2; have f73 := u7.free 3; have f74 := u7.free 4; have U7 := Lib.hid u7; clear z7 u7; have R7 := Lib.hid (R6.out.below b7); clear b7)
      | (go_at_call 73; (with_reducible refine (HSP.out _ _ B7.out HCB2.out HAI.out.1 HAI.out.2).mono ?_); rintro e8 w8 ⟨⟨p8, lf8, kA8, kn8, kc8, vA8, vn8, vc8, dA8, dn8, dc8⟩, rfl, r8, b8⟩; unfold ndV; simp only; have R8 := Lib.hid r8; have B8 := Lib.hid (below_step B7.out b8); have Q8 := Lib.hid (below_step Q7.out b8); have z8 := V5.out.below Q8.out V5.out.lt; have y80 := z8.cell 0; have y81 := z8.cell 1; have y82 := z8.cell 2; have y83 := z8.cell 3; have y84 := z8.cell 4; have u8 := V4.out.below Q8.out V4.out.lt; have p80 := u8.cell 0; have p81 := u8.cell 1; have p82 := u8.cell 2; have p83 := u8.cell 3; have p84 := u8.cell 4; have f80 := u8.free 0; have f81 := u8.free 1; have f82 := u8.free 2; have f83 := u8.free 3; have f84 := u8.free 4; have U8 := Lib.hid u8; clear z8 u8; clear b8 r8))
    have XE := U8.out.st5 (.int .i64 p8) (.bool lf8) (.slice kA8 kn8 kc8) (.slice vA8 vn8 vc8) (.slice dA8 dn8 dc8)
    have e0 := XE.cell 0
    have e1 := XE.cell 1
    have e2 := XE.cell 2
    have e3 := XE.cell 3
    have e4 := XE.cell 4
    unfold st5 at e0 e1 e2 e3 e4
    simp at e0 e1 e2 e3 e4
    have hord := HORD.out
    refine ⟨rfl, .agg #[.int .i64 p8, .bool lf8, .slice kA8 kn8 kc8, .slice vA8 vn8 vc8, .slice dA8 dn8 dc8], ?_, ⟨p8, lf8, kA8, kn8, kc8, vA8, vn8, vc8, dA8, dn8, dc8⟩, rfl, ?_, ?_⟩
    · simp [results, Try.f54, go_sem, e0, e1, e2, e3, e4]
    · exact rep_box R8.out (fun q hq => hq.1) HFW.out (by omega) (by have h1 := V4.out.lt; have := Q7.out.size; omega) _ _ _ _ _
    · exact below_st5 B8.out (by omega) _ _ _ _ _
  case pos =>
    subst h0
    rw [if_neg (fun h => h rfl)]
    simp only [Int.ofNat_zero] at HAT
    clear hai
    by_cases hlow : 30 ≤ sm
    · rw [if_pos (.inl hlow)]
      have hd : decide (sm < 30) = false := by simpa using hlow
      rw [hd] at HLO
      clear hd hlow
      go_enter Try.func54, Try.ntmps54
      go_wp2_with (first
        | (go_at_call 47; (with_reducible refine (HKO.out _ HB0.out).mono ?_); rintro e5 w5 ⟨rfl, b5⟩; have B5 := Lib.hid (below_step HB0.out b5); have V5 := Lib.hid (HX2.out.below b5 HX2.out.lt); have z4 := HX4.out.below b5 HX4.out.lt; have V4 := Lib.hid z4; have y0 := V5.out.cell 0; have y1 := V5.out.cell 1; have y2 := V5.out.cell 2; have y3 := V5.out.cell 3; have y4 := V5.out.cell 4; obtain ⟨c0, c1, c2, c3, c4⟩ := HKC.out _ B5.out; clear b5 z4)
        | (go_at_call 42; (with_reducible refine (HSZ.out _ B5.out).mono ?_); rintro e6 w6 ⟨A6, c6, rfl, r6, b6⟩; have B6 := Lib.hid (below_step B5.out b6); have Q6 := Lib.hid b6; have R6 := Lib.hid r6; clear r6 b6)
        | (go_at_call 63; (with_reducible refine (HAT.out _ _ _ R6.out).mono ?_); rintro e7 w7 ⟨rfl, b7⟩; have B7 := Lib.hid (below_step B6.out b7); have Q7 := Lib.hid (below_step Q6.out b7); have z7 := V5.out.below Q7.out V5.out.lt; have y70 := z7.cell 0; have y71 := z7.cell 1; have y72 := z7.cell 2; have y73 := z7.cell 3; have y74 := z7.cell 4; have u7 := V4.out.below Q7.out V4.out.lt; have p70 := u7.cell 0; have p71 := u7.cell 1; have p72 := u7.cell 2; have p73 := u7.cell 3; have p74 := u7.cell 4; have f70 := u7.free 0; have f71 := u7.free 1; have f72 := u7.free 2; have f73 := u7.free 3; have f74 := u7.free 4; have U7 := Lib.hid u7; clear z7 u7; have R7 := Lib.hid (R6.out.below b7); clear b7)
        | (go_at_call 68; (with_reducible refine (HLO.out _ _ _ R7.out).mono ?_); rintro e8 w8 ⟨rfl, b8⟩; have B8 := Lib.hid (below_step B7.out b8); have Q8 := Lib.hid (below_step Q7.out b8); have z8 := V5.out.below Q8.out V5.out.lt; have y80 := z8.cell 0; have y81 := z8.cell 1; have y82 := z8.cell 2; have y83 := z8.cell 3; have y84 := z8.cell 4; have u8 := V4.out.below Q8.out V4.out.lt; have p80 := u8.cell 0; have p81 := u8.cell 1; have p82 := u8.cell 2; have p83 := u8.cell 3; have p84 := u8.cell 4; have f80 := u8.free 0; have f81 := u8.free 1; have f82 := u8.free 2; have f83 := u8.free 3; have f84 := u8.free 4; have U8 := Lib.hid u8; clear z8 u8; clear b8))
      have XE := U8.out.st5 (.int .i64 pn) (.bool false) (.slice kAn knn kcn) (.slice vAn 0 vcn) (.slice (some ⟨gd, offd, none⟩) dnn dcn)
      have e0 := XE.cell 0
      have e1 := XE.cell 1
      have e2 := XE.cell 2
      have e3 := XE.cell 3
      have e4 := XE.cell 4
      unfold st5 at e0 e1 e2 e3 e4
      simp at e0 e1 e2 e3 e4
      have hord := HORD.out
      refine ⟨rfl, .agg #[.int .i64 pn, .bool false, .slice kAn knn kcn, .slice vAn 0 vcn, .slice (some ⟨gd, offd, none⟩) dnn dcn], ?_, ⟨pn, false, kAn, knn, kcn, vAn, 0, vcn, some ⟨gd, offd, none⟩, dnn, dcn⟩, rfl, ?_, ?_⟩
      · simp [results, Try.f54, go_sem, e0, e1, e2, e3, e4]
      · exact rep_box0 (HRP.out.stay B8.out) HFW.out (by omega) _ _ _ _ _
      · exact below_st5 B8.out (by omega) _ _ _ _ _
    · have hd : decide (sm < 30) = true := by simpa using hlow
      rw [hd] at HLO
      by_cases hm2 : m < 2
      · rw [if_pos (.inr hm2)]
        have i5 : ¬ (1 < m) := by omega
        have i6 : ¬ ((1 : Int) < (m : Int)) := by omega
        clear hd hlow hm2
        go_enter Try.func54, Try.ntmps54
        go_wp2_with (first
          | (go_at_call 47; (with_reducible refine (HKO.out _ HB0.out).mono ?_); rintro e5 w5 ⟨rfl, b5⟩; have B5 := Lib.hid (below_step HB0.out b5); have V5 := Lib.hid (HX2.out.below b5 HX2.out.lt); have z4 := HX4.out.below b5 HX4.out.lt; have V4 := Lib.hid z4; have y0 := V5.out.cell 0; have y1 := V5.out.cell 1; have y2 := V5.out.cell 2; have y3 := V5.out.cell 3; have y4 := V5.out.cell 4; obtain ⟨c0, c1, c2, c3, c4⟩ := HKC.out _ B5.out; clear b5 z4)
          | (go_at_call 42; (with_reducible refine (HSZ.out _ B5.out).mono ?_); rintro e6 w6 ⟨A6, c6, rfl, r6, b6⟩; have B6 := Lib.hid (below_step B5.out b6); have Q6 := Lib.hid b6; have R6 := Lib.hid r6; clear r6 b6)
          | (go_at_call 63; (with_reducible refine (HAT.out _ _ _ R6.out).mono ?_); rintro e7 w7 ⟨rfl, b7⟩; have B7 := Lib.hid (below_step B6.out b7); have Q7 := Lib.hid (below_step Q6.out b7); have z7 := V5.out.below Q7.out V5.out.lt; have y70 := z7.cell 0; have y71 := z7.cell 1; have y72 := z7.cell 2; have y73 := z7.cell 3; have y74 := z7.cell 4; have u7 := V4.out.below Q7.out V4.out.lt; have p70 := u7.cell 0; have p71 := u7.cell 1; have p72 := u7.cell 2; have p73 := u7.cell 3; have p74 := u7.cell 4; have f70 := u7.free 0; have f71 := u7.free 1; have f72 := u7.free 2; have f73 := u7.free 3; have f74 := u7.free 4; have U7 := Lib.hid u7; clear z7 u7; have R7 := Lib.hid (R6.out.below b7); clear b7)
          | (go_at_call 68; (with_reducible refine (HLO.out _ _ _ R7.out).mono ?_); rintro e8 w8 ⟨rfl, b8⟩; have B8 := Lib.hid (below_step B7.out b8); have Q8 := Lib.hid (below_step Q7.out b8); have z8 := V5.out.below Q8.out V5.out.lt; have y80 := z8.cell 0; have y81 := z8.cell 1; have y82 := z8.cell 2; have y83 := z8.cell 3; have y84 := z8.cell 4; have u8 := V4.out.below Q8.out V4.out.lt; have p80 := u8.cell 0; have p81 := u8.cell 1; have p82 := u8.cell 2; have p83 := u8.cell 3; have p84 := u8.cell 4; have f80 := u8.free 0; have f81 := u8.free 1; have f82 := u8.free 2; have f83 := u8.free 3; have f84 := u8.free 4; have U8 := Lib.hid u8; clear z8 u8; clear b8))
        have XE := U8.out.st5 (.int .i64 pn) (.bool false) (.slice kAn knn kcn) (.slice vAn 0 vcn) (.slice (some ⟨gd, offd, none⟩) dnn dcn)
        have e0 := XE.cell 0
        have e1 := XE.cell 1
        have e2 := XE.cell 2
        have e3 := XE.cell 3
        have e4 := XE.cell 4
        unfold st5 at e0 e1 e2 e3 e4
        simp at e0 e1 e2 e3 e4
        have hord := HORD.out
        refine ⟨rfl, .agg #[.int .i64 pn, .bool false, .slice kAn knn kcn, .slice vAn 0 vcn, .slice (some ⟨gd, offd, none⟩) dnn dcn], ?_, ⟨pn, false, kAn, knn, kcn, vAn, 0, vcn, some ⟨gd, offd, none⟩, dnn, dcn⟩, rfl, ?_, ?_⟩
        · simp [results, Try.f54, go_sem, e0, e1, e2, e3, e4]
        · exact rep_box0 (HRP.out.stay B8.out) HFW.out (by omega) _ _ _ _ _
        · exact below_st5 B8.out (by omega) _ _ _ _ _
      · rw [if_neg (by omega)]
        obtain ⟨f, hf⟩ : ∃ f, firstT l k = f := ⟨_, rfl⟩
        have hft := HFT.out
        rw [hf] at hft ⊢
        have hfl : f + 1 < l.length := by have := HM.out; split at hft <;> omega
        have HFL := Lib.hid hfl
        obtain ⟨nb, hnb⟩ : ∃ z : Int, (if (k : Int) + 1 < (m : Int) then (k : Int) + 1 else (k : Int) - 1) = z := ⟨_, rfl⟩
        have hmin : min (k : Int) nb = (f : Int) := by rw [← hnb]; split at hft <;> split <;> omega
        have HNE2 : Hid (∀ w1, Calls Try.prog 75 #[.int .i64 (m : Int), .int .i64 (k : Int)] w1 fun e w' => e = .returned (.int .i64 nb) ∧ Below w1.heap.size w1 w') := Lib.hid (fun w1 => by rw [← hnb]; exact HNE.out _ _ w1 (by omega) (by omega))
        have i5 : 1 < m := by omega
        have i6 : (1 : Int) < (m : Int) := by omega
        clear hd hlow hm2 hf hft hfl hnb
        go_enter Try.func54, Try.ntmps54
        go_wp2_with (first
          | (go_at_call 47; (with_reducible refine (HKO.out _ HB0.out).mono ?_); rintro e5 w5 ⟨rfl, b5⟩; have B5 := Lib.hid (below_step HB0.out b5); have V5 := Lib.hid (HX2.out.below b5 HX2.out.lt); have z4 := HX4.out.below b5 HX4.out.lt; have V4 := Lib.hid z4; have y0 := V5.out.cell 0; have y1 := V5.out.cell 1; have y2 := V5.out.cell 2; have y3 := V5.out.cell 3; have y4 := V5.out.cell 4; obtain ⟨c0, c1, c2, c3, c4⟩ := HKC.out _ B5.out; clear b5 z4)
          | (go_at_call 42; (with_reducible refine (HSZ.out _ B5.out).mono ?_); rintro e6 w6 ⟨A6, c6, rfl, r6, b6⟩; have B6 := Lib.hid (below_step B5.out b6); have Q6 := Lib.hid b6; have R6 := Lib.hid r6; clear r6 b6)
          | (go_at_call 63; (with_reducible refine (HAT.out _ _ _ R6.out).mono ?_); rintro e7 w7 ⟨rfl, b7⟩; have B7 := Lib.hid (below_step B6.out b7); have Q7 := Lib.hid (below_step Q6.out b7); have z7 := V5.out.below Q7.out V5.out.lt; have y70 := z7.cell 0; have y71 := z7.cell 1; have y72 := z7.cell 2; have y73 := z7.cell 3; have y74 := z7.cell 4; have u7 := V4.out.below Q7.out V4.out.lt; have p70 := u7.cell 0; have p71 := u7.cell 1; have p72 := u7.cell 2; have p73 := u7.cell 3; have p74 := u7.cell 4; have f70 := u7.free 0; have f71 := u7.free 1; have f72 := u7.free 2; have f73 := u7.free 3; have f74 := u7.free 4; have U7 := Lib.hid u7; clear z7 u7; have R7 := Lib.hid (R6.out.below b7); clear b7)
          | (go_at_call 68; (with_reducible refine (HLO.out _ _ _ R7.out).mono ?_); rintro e8 w8 ⟨rfl, b8⟩; have B8 := Lib.hid (below_step B7.out b8); have Q8 := Lib.hid (below_step Q7.out b8); have z8 := V5.out.below Q8.out V5.out.lt; have y80 := z8.cell 0; have y81 := z8.cell 1; have y82 := z8.cell 2; have y83 := z8.cell 3; have y84 := z8.cell 4; have u8 := V4.out.below Q8.out V4.out.lt; have p80 := u8.cell 0; have p81 := u8.cell 1; have p82 := u8.cell 2; have p83 := u8.cell 3; have p84 := u8.cell 4; have f80 := u8.free 0; have f81 := u8.free 1; have f82 := u8.free 2; have f83 := u8.free 3; have f84 := u8.free 4; have U8 := Lib.hid u8; clear z8 u8; clear b8))
        have hS0 : Below P4 w8 w8.drew := (Below.refl _ w8).drew
        have hT0 : Below w8.heap.size w8 w8.drew := (Below.refl _ w8).drew
        have H8L : Hid (P4 < w8.heap.size) := Lib.hid U8.out.lt
        have HXC : Hid (∀ w', Below P4 w8 w' → w'.cell? ⟨P2, 0, none⟩ = some (.int .i64 pn) ∧ w'.cell? ⟨P2, 1, none⟩ = some (.bool false) ∧ w'.cell? ⟨P2, 2, none⟩ = some (.slice kAn knn kcn) ∧ w'.cell? ⟨P2, 3, none⟩ = some (.slice vAn 0 vcn) ∧ w'.cell? ⟨P2, 4, none⟩ = some (.slice (some ⟨gd, offd, none⟩) dnn dcn)) := Lib.hid (fun w' hb => by
          have z := (V5.out.below Q8.out V5.out.lt).below hb HORD.out.2.1
          exact ⟨z.cell 0, z.cell 1, z.cell 2, z.cell 3, z.cell 4⟩)
        first | (rename_i K hK; refine wp_held (fun w' : World => Below P4 w8 w') K hmx ?_ (fun _ _ h => h)) | (rename_i K hK hz; refine wp_held (fun w' : World => Below P4 w8 w') K hmx ?_ (fun _ _ h => h))
        obtain ⟨Wd, hWd⟩ : ∃ W, w8.drew = W := ⟨_, rfl⟩
        rw [hWd] at hS0 hT0 ⊢
        clear hWd
        refine wpAnyH_take (i := 0) (v := .agg #[.int .i64 pn, .bool false, .slice kAn knn kcn, .slice vAn 0 vcn, .slice (some ⟨gd, offd, none⟩) dnn dcn]) (lit rfl) (by kernel_rfl) (by kernel_rfl) (by kernel_rfl) (fun _ _ _ h => h) (Or.inl ⟨by rfl, ?_⟩) hS0 ?_
        · rintro w6 hb6
          obtain ⟨y60, y61, y62, y63, y64⟩ := HXC.out w6 hb6
          go_simp
        simp only [Act.put, List.setIfInBounds_toArray, List.set_cons_zero, List.set_cons_succ]
        refine wpAnyH_take (i := 1) (v := .int .i64 (k : Int)) (lit rfl) (by kernel_rfl) (by kernel_rfl) (by kernel_rfl) (fun _ _ _ h => h) (Or.inl ⟨by rfl, ?_⟩) hS0 ?_
        · rintro w6 hb6
          go_simp
        simp only [Act.put, List.setIfInBounds_toArray, List.set_cons_zero, List.set_cons_succ]
        refine wpAnyH_take (i := 2) (v := .int .i64 (m : Int)) (lit rfl) (by kernel_rfl) (by kernel_rfl) (by kernel_rfl) (fun _ _ _ h => h) (Or.inl ⟨by rfl, ?_⟩) hS0 ?_
        · rintro w6 hb6
          go_simp
        simp only [Act.put, List.setIfInBounds_toArray, List.set_cons_zero, List.set_cons_succ]
        refine wpAnyH_take (i := 3) (v := .int .i64 (k : Int)) (lit rfl) (by kernel_rfl) (by kernel_rfl) (by kernel_rfl) (fun _ _ _ h => h) (Or.inl ⟨by rfl, ?_⟩) hS0 ?_
        · rintro w6 hb6
          go_simp
        simp only [Act.put, List.setIfInBounds_toArray, List.set_cons_zero, List.set_cons_succ]
        refine wpAnyH_ready (rs := [4]) (by kernel_rfl) (by simp) ?_
        refine AllReadyH.cons (lit rfl) (fun K5 hK5 => ?_) AllReadyH.nil
        refine step_open rfl ?_
        go_simp
        go_at_call 75
        (with_reducible refine (HNE2.out _).mono ?_)
        rintro e9 w9 ⟨rfl, b9⟩
        have hT9 : Below w8.heap.size w8 w9 := below_step hT0 b9
        have hS9 : Below P4 w8 w9 := hT9.mono (Nat.le_of_lt H8L.out)
        clear b9
        go_simp
        refine hK5.out _ _ hS9 (fun _ => ?_)
        clear hK5 K5
        refine wpAnyH_take (i := 5) (v := .int .i64 (f : Int)) (lit rfl) (by kernel_rfl) (by kernel_rfl) (by kernel_rfl) (fun _ _ _ h => h) (Or.inl ⟨by rfl, ?_⟩) hS9 ?_
        · rintro w6 hb6
          go_simp
        simp only [Act.put, List.setIfInBounds_toArray, List.set_cons_zero, List.set_cons_succ]
        refine wpAnyH_ready (rs := [6]) (by kernel_rfl) (by simp) ?_
        refine AllReadyH.cons (lit rfl) (fun K5 hK5 => ?_) AllReadyH.nil
        refine step_open rfl ?_
        go_simp
        go_at_call 74
        (with_reducible refine (HME.out _ _ (below_step B8.out hT9) HFL.out).mono ?_)
        rintro e10 w10 ⟨⟨p10, lf10, kA10, kn10, kc10, vA10, vn10, vc10, dA10, dn10, dc10⟩, rfl, r10, b10⟩
        unfold ndV
        simp only
        have R10 := Lib.hid r10
        have hT10 : Below w8.heap.size w8 w10 := below_step hT9 b10
        have hS10 : Below P4 w8 w10 := hT10.mono (Nat.le_of_lt H8L.out)
        have U10 := U8.out.below hT10 U8.out.lt
        clear b10 r10
        go_simp
        refine hK5.out _ _ hS10 (fun _ => ?_)
        clear hK5 K5
        refine wpAnyH_ready (rs := [7]) (by kernel_rfl) (by simp) ?_
        refine AllReadyH.cons (lit rfl) (fun K5 hK5 => ?_) AllReadyH.nil
        refine step_open rfl ?_
        go_simp
        have q0 := U10.cell 0
        have q1 := U10.cell 1
        have q2 := U10.cell 2
        have q3 := U10.cell 3
        have q4 := U10.cell 4
        have f0 := U10.free 0
        have f1 := U10.free 1
        have f2 := U10.free 2
        have f3 := U10.free 3
        have f4 := U10.free 4
        have hS11 := below_st5 hS10 (Nat.le_refl _) (.int .i64 p10) (.bool lf10) (.slice kA10 kn10 kc10) (.slice vA10 vn10 vc10) (.slice dA10 dn10 dc10)
        unfold st5 at hS11
        go_simp
        refine hK5.out _ _ hS11 (fun _ => ?_)
        clear hK5 K5
        refine wpAnyH_done (by kernel_rfl) ?_ _
        refine hK _ _ ?_
        have XE := U10.st5 (.int .i64 p10) (.bool lf10) (.slice kA10 kn10 kc10) (.slice vA10 vn10 vc10) (.slice dA10 dn10 dc10)
        have e0 := XE.cell 0
        have e1 := XE.cell 1
        have e2 := XE.cell 2
        have e3 := XE.cell 3
        have e4 := XE.cell 4
        unfold st5 at e0 e1 e2 e3 e4
        simp at e0 e1 e2 e3 e4
        have hord := HORD.out
        go_wp2
        refine ⟨rfl, .agg #[.int .i64 p10, .bool lf10, .slice kA10 kn10 kc10, .slice vA10 vn10 vc10, .slice dA10 dn10 dc10], ?_, ⟨p10, lf10, kA10, kn10, kc10, vA10, vn10, vc10, dA10, dn10, dc10⟩, rfl, ?_, ?_⟩
        · simp [results, Try.f54, go_sem, e0, e1, e2, e3, e4]
        · exact rep_box R10.out (fun q hq => hq.1) HFW.out (by omega) (by have := hT9.size; have := H8L.out; omega) _ _ _ _ _
        · exact below_st5 (below_step B8.out hT10) (by omega) _ _ _ _ _
end Go.Proofs.Ytpaklhifnndeoaa
