import Derived.Test.YtpikcodnonodlaaDoorJ08
/- Of a claim's texts, joined: Mth. No statement but in the last. -/
namespace Go.Proofs.YtpikcodnonodlaaDoor
open Go.RowKit
set_option linter.unusedVariables false

theorem mSlot_any (x : Nat) (w : World) (hx : x < 18446744073709551616) : Calls Tryd.prog 14 #[.int .u64 (x : Int)] w fun e w' => e = .returned (.int .i64 ((x % 2 : Nat) : Int)) ∧ w = w' := by
  have h1 : IntKind.i64.wrap (((x % 2 : Nat) : Int)) = ((x % 2 : Nat) : Int) := IntWalk.i64_in _ (by omega)
  go_enter Tryd.func14, Tryd.ntmps14
  go_wp2
  go_ret
  exact ⟨rfl, rfl⟩
def accM (a b : List UInt8) (label : Int) (k : Nat) : Mt × Bool := if k = 0 then (mt0, false) else if k = 1 then countM a 0 label else newestM a b label
theorem acc_one (a b : List UInt8) (label : Int) : accM a b label 1 = if ((getM a).2 = 0 ∧ (getM a).1.label = label ∧ (getM a).1.txn % 2 = 0) ∧ (accM a b label 0).1.txn < (getM a).1.txn then ((getM a).1, true) else accM a b label 0 := by
  have h := newer_step (b := a) (slot := 0) (label := label) (mt0, false) (fun _ => rfl)
  have h1 : accM a b label 1 = countM a 0 label := rfl
  have h0 : accM a b label 0 = (mt0, false) := rfl
  have h2 : newerM (mt0, false) (countM a 0 label) = countM a 0 label := by
    unfold newerM
    by_cases hc : countsM a 0 label
    · rw [countM_yes hc, if_pos ⟨rfl, Or.inl rfl⟩]
    · rw [countM_no hc, if_neg (fun hh : (mt0, false).2 = true ∧ _ => by cases hh.1)]
  rw [h2] at h
  rw [h1, h0, h]
  rfl
theorem acc_two (a b : List UInt8) (label : Int) : accM a b label 2 = if ((getM b).2 = 0 ∧ (getM b).1.label = label ∧ (getM b).1.txn % 2 = 1) ∧ (accM a b label 1).1.txn < (getM b).1.txn then ((getM b).1, true) else accM a b label 1 := newer_step (countM a 0 label) countM_zero
theorem getM_txn (b : List UInt8) : (getM b).1.txn < 18446744073709551616 := by
  unfold getM
  split
  · exact (by decide : (0 : Nat) < 18446744073709551616)
  · split
    · exact (by decide : (0 : Nat) < 18446744073709551616)
    · split
      · exact readM_txn _
      · exact (by decide : (0 : Nat) < 18446744073709551616)
def NewM10 (r : Mt × Bool) (w : World) (e : Ending) (w' : World) : Prop := e = .returned (.tuple #[mtV r.1, .bool r.2]) ∧ Below w.heap.size w w'
theorem nbox (w : World) (v1 v2 : Value) : ∃ W, ((w.alloc (.cells #[.int .i64 0, .int .u64 0, .int .i64 0, .int .i64 0, .int .i64 0] 24)).alloc (.cells #[.int .i64 0, .int .u64 0, .int .i64 0, .int .i64 0, .int .i64 0] 24)).alloc (.cells #[v1, v2] 26) = W ∧ Below w.heap.size w W ∧ Has W w.heap.size 24 #[.int .i64 0, .int .u64 0, .int .i64 0, .int .i64 0, .int .i64 0] ∧ Has W (w.heap.size + 1) 24 #[.int .i64 0, .int .u64 0, .int .i64 0, .int .i64 0, .int .i64 0] ∧ Has W (w.heap.size + 1 + 1) 26 #[v1, v2] := by
  refine ⟨_, rfl, (((Below.refl _ w).alloc (Nat.le_refl _) _).alloc (by simp) _).alloc (by simp; omega) _, ((Has.made w 24 _).alloc _).alloc _, ?_, ?_⟩
  · have := (Has.made (w.alloc (.cells #[.int .i64 0, .int .u64 0, .int .i64 0, .int .i64 0, .int .i64 0] 24)) 24 #[.int .i64 0, .int .u64 0, .int .i64 0, .int .i64 0, .int .i64 0]).alloc (.cells #[v1, v2] 26)
    simpa using this
  · have := Has.made ((w.alloc (.cells #[.int .i64 0, .int .u64 0, .int .i64 0, .int .i64 0, .int .i64 0] 24)).alloc (.cells #[.int .i64 0, .int .u64 0, .int .i64 0, .int .i64 0, .int .i64 0] 24)) 26 #[v1, v2]
    simpa using this

set_option maxRecDepth 100000 in
set_option maxHeartbeats 8000000 in
theorem mNewest_any (A0 A1 : Option Addr) (n0 c0 n1 c1 : Nat) (a b : List UInt8) (lab : Int) (w : World) (ht : Tab w) (h0 : Arg w A0 n0 c0 a) (h1 : Arg w A1 n1 c1 b) :
    Calls Tryd.prog 18 #[.slice A0 n0 c0, .slice A1 n1 c1, .int .i64 lab] w (NewM10 (newestM a b lab) w) := by
  have hz := zero_meta
  obtain ⟨W, hW, hb, hh6, hh8, hhs⟩ := nbox w (.slice A0 n0 c0) (.slice A1 n1 c1)
  have HG0 := Lib.hid (fun w1 (hb : Below w.heap.size w w1) => mGet_any A0 n0 c0 a w1 (ht.below hb) (h0.below hb))
  have HG1 := Lib.hid (fun w1 (hb : Below w.heap.size w w1) => mGet_any A1 n1 c1 b w1 (ht.below hb) (h1.below hb))
  have E1 := Lib.hid (acc_one a b lab)
  have E2 := Lib.hid (acc_two a b lab)
  have E0 : Hid (accM a b lab 0 = (mt0, false)) := Lib.hid rfl
  have EN : newestM a b lab = accM a b lab 2 := rfl
  have T0 : Hid ((getM a).1.txn < 18446744073709551616) := Lib.hid (getM_txn a)
  have T1 : Hid ((getM b).1.txn < 18446744073709551616) := Lib.hid (getM_txn b)
  rw [EN]
  clear EN
  generalize accM a b lab = acc at E0 E1 E2 ⊢
  generalize getM a = ga at HG0 E1 T0
  generalize getM b = gb at HG1 E2 T1
  obtain ⟨⟨l0, t0, r0, s0, g0⟩, e0⟩ := ga
  obtain ⟨⟨l1, t1, r1, s1, g1⟩, e1⟩ := gb
  simp only at E1 E2 T0 T1
  unfold GetM10 mtV at HG0 HG1
  have HS0 := Lib.hid (fun w1 => mSlot_any t0 w1 T0.out)
  have HS1 := Lib.hid (fun w1 => mSlot_any t1 w1 T1.out)
  have HB := Lib.hid hb
  have H6 := Lib.hid hh6
  have H8 := Lib.hid hh8
  have HSL := Lib.hid hhs
  clear hb hh6 hh8 hhs ht h0 h1
  go_enter Tryd.func18, Tryd.ntmps18
  go_wp2
  go_loopw [9, 18] (fun f i wr => ∃ k : Nat, ∃ x : Mt × Bool, k ≤ 2 ∧ i = .int .i64 k ∧ x = acc k ∧ f = .bool x.2 ∧ Has wr (w.heap.size + 1) 24 #[.int .i64 x.1.label, .int .u64 (x.1.txn : Int), .int .i64 x.1.root, .int .i64 x.1.list, .int .i64 x.1.high] ∧ Has wr w.heap.size 24 #[.int .i64 0, .int .u64 0, .int .i64 0, .int .i64 0, .int .i64 0] ∧ Has wr (w.heap.size + 1 + 1) 26 #[.slice A0 n0 c0, .slice A1 n1 c1] ∧ Below w.heap.size w wr) (fun _ i _ => 2 - (intOf i).toNat)
  case atStart => exact ⟨0, (mt0, false), by omega, rfl, E0.out.symm, rfl, H8.out, H6.out, HSL.out, HB.out⟩
  case round =>
    obtain ⟨k, x, hk, rfl, hx, rfl, k8, k6, ks, kb⟩ := hrel
    obtain ⟨⟨pl, pt, pr, ps, pg⟩, pf⟩ := x
    simp only at k8 hx
    have K8 := Lib.hid k8
    have K6 := Lib.hid k6
    have KS := Lib.hid ks
    have KB := Lib.hid kb
    obtain ⟨v0, hv0⟩ : ∃ v0 : World, v0 = wr := ⟨_, rfl⟩
    subst hv0
    rcases k with _ | _ | _ | k
    · have hsl : v0.cell? ⟨w.heap.size + 1 + 1, 0, none⟩ = some (.slice A0 n0 c0) := ks.cell 0
      have EE := Lib.hid (E1.out.trans (by rw [← hx]))
      clear k8 k6 ks kb hx
      by_cases z1 : e0 = 0
      rotate_left
      · have hq1 : (e0 == 0) = false := by simpa using z1
        have HY : Hid (acc 1 = (⟨pl, pt, pr, ps, pg⟩, pf)) := Lib.hid (by rw [EE.out]; exact if_neg (fun hh => z1 hh.1.1))
        clear EE
        go_wp2_with (first
          | (go_at_call 16; (with_reducible refine (HG0.out _ KB.out).mono ?_); rintro q1 w1 ⟨rfl, b1⟩; have B1 := Lib.hid (below_step KB.out b1); have X8 := Lib.hid (K8.out.below b1 K8.out.lt); have X6 := Lib.hid (K6.out.below b1 K6.out.lt); have XS := Lib.hid (KS.out.below b1 KS.out.lt); clear b1; obtain ⟨w2, hw2⟩ : ∃ w2, w1.alloc (.cells #[.int .i64 l0, .int .u64 (t0 : Int), .int .i64 r0, .int .i64 s0, .int .i64 g0] 24) = w2 := ⟨_, rfl⟩; have b2 : Below w1.heap.size w1 w2 := hw2 ▸ (Below.refl _ w1).alloc (Nat.le_refl _) _; have y2 := hw2 ▸ Has.made w1 24 #[.int .i64 l0, .int .u64 (t0 : Int), .int .i64 r0, .int .i64 s0, .int .i64 g0]; have B2 := Lib.hid (below_step B1.out b2); have y8 := X8.out.below b2 X8.out.lt; have X62 := Lib.hid (X6.out.below b2 X6.out.lt); have XS2 := Lib.hid (XS.out.below b2 XS.out.lt); have d0 := y2.cell 0; have d1 := y2.cell 1; have d2 := y2.cell 2; have d3 := y2.cell 3; have d4 := y2.cell 4; have u0 := y8.cell 0; have u1 := y8.cell 1; have u2 := y8.cell 2; have u3 := y8.cell 3; have u4 := y8.cell 4; have f0 := y8.free 0; have f1 := y8.free 1; have f2 := y8.free 2; have f3 := y8.free 3; have f4 := y8.free 4; have X82 := Lib.hid y8; clear b2 y2 y8)
          | (go_at_call 14; (with_reducible refine (HS0.out _).mono ?_); rintro q3 w3 ⟨rfl, rfl⟩))
        go_roundw
        case rel => exact ⟨1, (⟨pl, pt, pr, ps, pg⟩, pf), by omega, by go_num, HY.out.symm, rfl, X82.out, X62.out, XS2.out, B2.out⟩
        case measure => simp [intOf]
      obtain rfl : e0 = 0 := z1
      by_cases z2 : l0 = lab
      rotate_left
      · have hq1 : (l0 == lab) = false := by simpa using z2
        have HY : Hid (acc 1 = (⟨pl, pt, pr, ps, pg⟩, pf)) := Lib.hid (by rw [EE.out]; exact if_neg (fun hh => z2 hh.1.2.1))
        clear EE
        go_wp2_with (first
          | (go_at_call 16; (with_reducible refine (HG0.out _ KB.out).mono ?_); rintro q1 w1 ⟨rfl, b1⟩; have B1 := Lib.hid (below_step KB.out b1); have X8 := Lib.hid (K8.out.below b1 K8.out.lt); have X6 := Lib.hid (K6.out.below b1 K6.out.lt); have XS := Lib.hid (KS.out.below b1 KS.out.lt); clear b1; obtain ⟨w2, hw2⟩ : ∃ w2, w1.alloc (.cells #[.int .i64 l0, .int .u64 (t0 : Int), .int .i64 r0, .int .i64 s0, .int .i64 g0] 24) = w2 := ⟨_, rfl⟩; have b2 : Below w1.heap.size w1 w2 := hw2 ▸ (Below.refl _ w1).alloc (Nat.le_refl _) _; have y2 := hw2 ▸ Has.made w1 24 #[.int .i64 l0, .int .u64 (t0 : Int), .int .i64 r0, .int .i64 s0, .int .i64 g0]; have B2 := Lib.hid (below_step B1.out b2); have y8 := X8.out.below b2 X8.out.lt; have X62 := Lib.hid (X6.out.below b2 X6.out.lt); have XS2 := Lib.hid (XS.out.below b2 XS.out.lt); have d0 := y2.cell 0; have d1 := y2.cell 1; have d2 := y2.cell 2; have d3 := y2.cell 3; have d4 := y2.cell 4; have u0 := y8.cell 0; have u1 := y8.cell 1; have u2 := y8.cell 2; have u3 := y8.cell 3; have u4 := y8.cell 4; have f0 := y8.free 0; have f1 := y8.free 1; have f2 := y8.free 2; have f3 := y8.free 3; have f4 := y8.free 4; have X82 := Lib.hid y8; clear b2 y2 y8)
          | (go_at_call 14; (with_reducible refine (HS0.out _).mono ?_); rintro q3 w3 ⟨rfl, rfl⟩))
        go_roundw
        case rel => exact ⟨1, (⟨pl, pt, pr, ps, pg⟩, pf), by omega, by go_num, HY.out.symm, rfl, X82.out, X62.out, XS2.out, B2.out⟩
        case measure => simp [intOf]
      obtain rfl : l0 = lab := z2
      by_cases z3 : t0 % 2 = 0
      rotate_left
      · have hq1 : ((t0 : Int) % 2 == 0) = false := by simp; omega
        have hq2 : (((t0 % 2 : Nat) : Int) == 0) = false := by simp; omega
        have HY : Hid (acc 1 = (⟨pl, pt, pr, ps, pg⟩, pf)) := Lib.hid (by rw [EE.out]; exact if_neg (fun hh => z3 hh.1.2.2))
        clear EE
        go_wp2_with (first
          | (go_at_call 16; (with_reducible refine (HG0.out _ KB.out).mono ?_); rintro q1 w1 ⟨rfl, b1⟩; have B1 := Lib.hid (below_step KB.out b1); have X8 := Lib.hid (K8.out.below b1 K8.out.lt); have X6 := Lib.hid (K6.out.below b1 K6.out.lt); have XS := Lib.hid (KS.out.below b1 KS.out.lt); clear b1; obtain ⟨w2, hw2⟩ : ∃ w2, w1.alloc (.cells #[.int .i64 l0, .int .u64 (t0 : Int), .int .i64 r0, .int .i64 s0, .int .i64 g0] 24) = w2 := ⟨_, rfl⟩; have b2 : Below w1.heap.size w1 w2 := hw2 ▸ (Below.refl _ w1).alloc (Nat.le_refl _) _; have y2 := hw2 ▸ Has.made w1 24 #[.int .i64 l0, .int .u64 (t0 : Int), .int .i64 r0, .int .i64 s0, .int .i64 g0]; have B2 := Lib.hid (below_step B1.out b2); have y8 := X8.out.below b2 X8.out.lt; have X62 := Lib.hid (X6.out.below b2 X6.out.lt); have XS2 := Lib.hid (XS.out.below b2 XS.out.lt); have d0 := y2.cell 0; have d1 := y2.cell 1; have d2 := y2.cell 2; have d3 := y2.cell 3; have d4 := y2.cell 4; have u0 := y8.cell 0; have u1 := y8.cell 1; have u2 := y8.cell 2; have u3 := y8.cell 3; have u4 := y8.cell 4; have f0 := y8.free 0; have f1 := y8.free 1; have f2 := y8.free 2; have f3 := y8.free 3; have f4 := y8.free 4; have X82 := Lib.hid y8; clear b2 y2 y8)
          | (go_at_call 14; (with_reducible refine (HS0.out _).mono ?_); rintro q3 w3 ⟨rfl, rfl⟩))
        go_roundw
        case rel => exact ⟨1, (⟨pl, pt, pr, ps, pg⟩, pf), by omega, by go_num, HY.out.symm, rfl, X82.out, X62.out, XS2.out, B2.out⟩
        case measure => simp [intOf]
      have hq3 : ((t0 : Int) % 2 == 0) = true := by simp; omega
      have hq4 : (((t0 % 2 : Nat) : Int) == 0) = true := by simp; omega
      by_cases z4 : pt < t0
      rotate_left
      · have hq5 : ¬ (pt : Int) < (t0 : Int) := by omega
        have HY : Hid (acc 1 = (⟨pl, pt, pr, ps, pg⟩, pf)) := Lib.hid (by rw [EE.out]; exact if_neg (fun hh => z4 hh.2))
        clear EE
        go_wp2_with (first
          | (go_at_call 16; (with_reducible refine (HG0.out _ KB.out).mono ?_); rintro q1 w1 ⟨rfl, b1⟩; have B1 := Lib.hid (below_step KB.out b1); have X8 := Lib.hid (K8.out.below b1 K8.out.lt); have X6 := Lib.hid (K6.out.below b1 K6.out.lt); have XS := Lib.hid (KS.out.below b1 KS.out.lt); clear b1; obtain ⟨w2, hw2⟩ : ∃ w2, w1.alloc (.cells #[.int .i64 l0, .int .u64 (t0 : Int), .int .i64 r0, .int .i64 s0, .int .i64 g0] 24) = w2 := ⟨_, rfl⟩; have b2 : Below w1.heap.size w1 w2 := hw2 ▸ (Below.refl _ w1).alloc (Nat.le_refl _) _; have y2 := hw2 ▸ Has.made w1 24 #[.int .i64 l0, .int .u64 (t0 : Int), .int .i64 r0, .int .i64 s0, .int .i64 g0]; have B2 := Lib.hid (below_step B1.out b2); have y8 := X8.out.below b2 X8.out.lt; have X62 := Lib.hid (X6.out.below b2 X6.out.lt); have XS2 := Lib.hid (XS.out.below b2 XS.out.lt); have d0 := y2.cell 0; have d1 := y2.cell 1; have d2 := y2.cell 2; have d3 := y2.cell 3; have d4 := y2.cell 4; have u0 := y8.cell 0; have u1 := y8.cell 1; have u2 := y8.cell 2; have u3 := y8.cell 3; have u4 := y8.cell 4; have f0 := y8.free 0; have f1 := y8.free 1; have f2 := y8.free 2; have f3 := y8.free 3; have f4 := y8.free 4; have X82 := Lib.hid y8; clear b2 y2 y8)
          | (go_at_call 14; (with_reducible refine (HS0.out _).mono ?_); rintro q3 w3 ⟨rfl, rfl⟩))
        go_roundw
        case rel => exact ⟨1, (⟨pl, pt, pr, ps, pg⟩, pf), by omega, by go_num, HY.out.symm, rfl, X82.out, X62.out, XS2.out, B2.out⟩
        case measure => simp [intOf]
      have hq5 : (pt : Int) < (t0 : Int) := by omega
      have HY : Hid (acc 1 = (⟨l0, t0, r0, s0, g0⟩, true)) := Lib.hid (by rw [EE.out]; exact if_pos ⟨⟨rfl, rfl, z3⟩, z4⟩)
      clear EE
      go_wp2_with (first
        | (go_at_call 16; (with_reducible refine (HG0.out _ KB.out).mono ?_); rintro q1 w1 ⟨rfl, b1⟩; have B1 := Lib.hid (below_step KB.out b1); have X8 := Lib.hid (K8.out.below b1 K8.out.lt); have X6 := Lib.hid (K6.out.below b1 K6.out.lt); have XS := Lib.hid (KS.out.below b1 KS.out.lt); clear b1; obtain ⟨w2, hw2⟩ : ∃ w2, w1.alloc (.cells #[.int .i64 l0, .int .u64 (t0 : Int), .int .i64 r0, .int .i64 s0, .int .i64 g0] 24) = w2 := ⟨_, rfl⟩; have b2 : Below w1.heap.size w1 w2 := hw2 ▸ (Below.refl _ w1).alloc (Nat.le_refl _) _; have y2 := hw2 ▸ Has.made w1 24 #[.int .i64 l0, .int .u64 (t0 : Int), .int .i64 r0, .int .i64 s0, .int .i64 g0]; have B2 := Lib.hid (below_step B1.out b2); have y8 := X8.out.below b2 X8.out.lt; have X62 := Lib.hid (X6.out.below b2 X6.out.lt); have XS2 := Lib.hid (XS.out.below b2 XS.out.lt); have d0 := y2.cell 0; have d1 := y2.cell 1; have d2 := y2.cell 2; have d3 := y2.cell 3; have d4 := y2.cell 4; have u0 := y8.cell 0; have u1 := y8.cell 1; have u2 := y8.cell 2; have u3 := y8.cell 3; have u4 := y8.cell 4; have f0 := y8.free 0; have f1 := y8.free 1; have f2 := y8.free 2; have f3 := y8.free 3; have f4 := y8.free 4; have X82 := Lib.hid y8; clear b2 y2 y8)
        | (go_at_call 14; (with_reducible refine (HS0.out _).mono ?_); rintro q3 w3 ⟨rfl, rfl⟩))
      go_roundw
      case rel => exact ⟨1, (⟨l0, t0, r0, s0, g0⟩, true), by omega, by go_num, HY.out.symm, rfl, X82.out.setM (.int .i64 l0) (.int .u64 (t0 : Int)) (.int .i64 r0) (.int .i64 s0) (.int .i64 g0), X62.out.setM_away (B := w.heap.size + 1) (by omega) (.int .i64 l0) (.int .u64 (t0 : Int)) (.int .i64 r0) (.int .i64 s0) (.int .i64 g0), XS2.out.setM_away (B := w.heap.size + 1) (by omega) (.int .i64 l0) (.int .u64 (t0 : Int)) (.int .i64 r0) (.int .i64 s0) (.int .i64 g0), below_setM B2.out (by omega) (.int .i64 l0) (.int .u64 (t0 : Int)) (.int .i64 r0) (.int .i64 s0) (.int .i64 g0)⟩
      case measure => simp [intOf]
    · have hsl : v0.cell? ⟨w.heap.size + 1 + 1, 1, none⟩ = some (.slice A1 n1 c1) := ks.cell 1
      have EE := Lib.hid (E2.out.trans (by rw [← hx]))
      clear k8 k6 ks kb hx
      by_cases z1 : e1 = 0
      rotate_left
      · have hq1 : (e1 == 0) = false := by simpa using z1
        have HY : Hid (acc 2 = (⟨pl, pt, pr, ps, pg⟩, pf)) := Lib.hid (by rw [EE.out]; exact if_neg (fun hh => z1 hh.1.1))
        clear EE
        go_wp2_with (first
          | (go_at_call 16; (with_reducible refine (HG1.out _ KB.out).mono ?_); rintro q1 w1 ⟨rfl, b1⟩; have B1 := Lib.hid (below_step KB.out b1); have X8 := Lib.hid (K8.out.below b1 K8.out.lt); have X6 := Lib.hid (K6.out.below b1 K6.out.lt); have XS := Lib.hid (KS.out.below b1 KS.out.lt); clear b1; obtain ⟨w2, hw2⟩ : ∃ w2, w1.alloc (.cells #[.int .i64 l1, .int .u64 (t1 : Int), .int .i64 r1, .int .i64 s1, .int .i64 g1] 24) = w2 := ⟨_, rfl⟩; have b2 : Below w1.heap.size w1 w2 := hw2 ▸ (Below.refl _ w1).alloc (Nat.le_refl _) _; have y2 := hw2 ▸ Has.made w1 24 #[.int .i64 l1, .int .u64 (t1 : Int), .int .i64 r1, .int .i64 s1, .int .i64 g1]; have B2 := Lib.hid (below_step B1.out b2); have y8 := X8.out.below b2 X8.out.lt; have X62 := Lib.hid (X6.out.below b2 X6.out.lt); have XS2 := Lib.hid (XS.out.below b2 XS.out.lt); have d0 := y2.cell 0; have d1 := y2.cell 1; have d2 := y2.cell 2; have d3 := y2.cell 3; have d4 := y2.cell 4; have u0 := y8.cell 0; have u1 := y8.cell 1; have u2 := y8.cell 2; have u3 := y8.cell 3; have u4 := y8.cell 4; have f0 := y8.free 0; have f1 := y8.free 1; have f2 := y8.free 2; have f3 := y8.free 3; have f4 := y8.free 4; have X82 := Lib.hid y8; clear b2 y2 y8)
          | (go_at_call 14; (with_reducible refine (HS1.out _).mono ?_); rintro q3 w3 ⟨rfl, rfl⟩))
        go_roundw
        case rel => exact ⟨2, (⟨pl, pt, pr, ps, pg⟩, pf), by omega, by go_num, HY.out.symm, rfl, X82.out, X62.out, XS2.out, B2.out⟩
        case measure => simp [intOf]
      obtain rfl : e1 = 0 := z1
      by_cases z2 : l1 = lab
      rotate_left
      · have hq1 : (l1 == lab) = false := by simpa using z2
        have HY : Hid (acc 2 = (⟨pl, pt, pr, ps, pg⟩, pf)) := Lib.hid (by rw [EE.out]; exact if_neg (fun hh => z2 hh.1.2.1))
        clear EE
        go_wp2_with (first
          | (go_at_call 16; (with_reducible refine (HG1.out _ KB.out).mono ?_); rintro q1 w1 ⟨rfl, b1⟩; have B1 := Lib.hid (below_step KB.out b1); have X8 := Lib.hid (K8.out.below b1 K8.out.lt); have X6 := Lib.hid (K6.out.below b1 K6.out.lt); have XS := Lib.hid (KS.out.below b1 KS.out.lt); clear b1; obtain ⟨w2, hw2⟩ : ∃ w2, w1.alloc (.cells #[.int .i64 l1, .int .u64 (t1 : Int), .int .i64 r1, .int .i64 s1, .int .i64 g1] 24) = w2 := ⟨_, rfl⟩; have b2 : Below w1.heap.size w1 w2 := hw2 ▸ (Below.refl _ w1).alloc (Nat.le_refl _) _; have y2 := hw2 ▸ Has.made w1 24 #[.int .i64 l1, .int .u64 (t1 : Int), .int .i64 r1, .int .i64 s1, .int .i64 g1]; have B2 := Lib.hid (below_step B1.out b2); have y8 := X8.out.below b2 X8.out.lt; have X62 := Lib.hid (X6.out.below b2 X6.out.lt); have XS2 := Lib.hid (XS.out.below b2 XS.out.lt); have d0 := y2.cell 0; have d1 := y2.cell 1; have d2 := y2.cell 2; have d3 := y2.cell 3; have d4 := y2.cell 4; have u0 := y8.cell 0; have u1 := y8.cell 1; have u2 := y8.cell 2; have u3 := y8.cell 3; have u4 := y8.cell 4; have f0 := y8.free 0; have f1 := y8.free 1; have f2 := y8.free 2; have f3 := y8.free 3; have f4 := y8.free 4; have X82 := Lib.hid y8; clear b2 y2 y8)
          | (go_at_call 14; (with_reducible refine (HS1.out _).mono ?_); rintro q3 w3 ⟨rfl, rfl⟩))
        go_roundw
        case rel => exact ⟨2, (⟨pl, pt, pr, ps, pg⟩, pf), by omega, by go_num, HY.out.symm, rfl, X82.out, X62.out, XS2.out, B2.out⟩
        case measure => simp [intOf]
      obtain rfl : l1 = lab := z2
      by_cases z3 : t1 % 2 = 1
      rotate_left
      · have hq1 : ((t1 : Int) % 2 == 1) = false := by simp; omega
        have hq2 : (((t1 % 2 : Nat) : Int) == 1) = false := by simp; omega
        have HY : Hid (acc 2 = (⟨pl, pt, pr, ps, pg⟩, pf)) := Lib.hid (by rw [EE.out]; exact if_neg (fun hh => z3 hh.1.2.2))
        clear EE
        go_wp2_with (first
          | (go_at_call 16; (with_reducible refine (HG1.out _ KB.out).mono ?_); rintro q1 w1 ⟨rfl, b1⟩; have B1 := Lib.hid (below_step KB.out b1); have X8 := Lib.hid (K8.out.below b1 K8.out.lt); have X6 := Lib.hid (K6.out.below b1 K6.out.lt); have XS := Lib.hid (KS.out.below b1 KS.out.lt); clear b1; obtain ⟨w2, hw2⟩ : ∃ w2, w1.alloc (.cells #[.int .i64 l1, .int .u64 (t1 : Int), .int .i64 r1, .int .i64 s1, .int .i64 g1] 24) = w2 := ⟨_, rfl⟩; have b2 : Below w1.heap.size w1 w2 := hw2 ▸ (Below.refl _ w1).alloc (Nat.le_refl _) _; have y2 := hw2 ▸ Has.made w1 24 #[.int .i64 l1, .int .u64 (t1 : Int), .int .i64 r1, .int .i64 s1, .int .i64 g1]; have B2 := Lib.hid (below_step B1.out b2); have y8 := X8.out.below b2 X8.out.lt; have X62 := Lib.hid (X6.out.below b2 X6.out.lt); have XS2 := Lib.hid (XS.out.below b2 XS.out.lt); have d0 := y2.cell 0; have d1 := y2.cell 1; have d2 := y2.cell 2; have d3 := y2.cell 3; have d4 := y2.cell 4; have u0 := y8.cell 0; have u1 := y8.cell 1; have u2 := y8.cell 2; have u3 := y8.cell 3; have u4 := y8.cell 4; have f0 := y8.free 0; have f1 := y8.free 1; have f2 := y8.free 2; have f3 := y8.free 3; have f4 := y8.free 4; have X82 := Lib.hid y8; clear b2 y2 y8)
          | (go_at_call 14; (with_reducible refine (HS1.out _).mono ?_); rintro q3 w3 ⟨rfl, rfl⟩))
        go_roundw
        case rel => exact ⟨2, (⟨pl, pt, pr, ps, pg⟩, pf), by omega, by go_num, HY.out.symm, rfl, X82.out, X62.out, XS2.out, B2.out⟩
        case measure => simp [intOf]
      have hq3 : ((t1 : Int) % 2 == 1) = true := by simp; omega
      have hq4 : (((t1 % 2 : Nat) : Int) == 1) = true := by simp; omega
      by_cases z4 : pt < t1
      rotate_left
      · have hq5 : ¬ (pt : Int) < (t1 : Int) := by omega
        have HY : Hid (acc 2 = (⟨pl, pt, pr, ps, pg⟩, pf)) := Lib.hid (by rw [EE.out]; exact if_neg (fun hh => z4 hh.2))
        clear EE
        go_wp2_with (first
          | (go_at_call 16; (with_reducible refine (HG1.out _ KB.out).mono ?_); rintro q1 w1 ⟨rfl, b1⟩; have B1 := Lib.hid (below_step KB.out b1); have X8 := Lib.hid (K8.out.below b1 K8.out.lt); have X6 := Lib.hid (K6.out.below b1 K6.out.lt); have XS := Lib.hid (KS.out.below b1 KS.out.lt); clear b1; obtain ⟨w2, hw2⟩ : ∃ w2, w1.alloc (.cells #[.int .i64 l1, .int .u64 (t1 : Int), .int .i64 r1, .int .i64 s1, .int .i64 g1] 24) = w2 := ⟨_, rfl⟩; have b2 : Below w1.heap.size w1 w2 := hw2 ▸ (Below.refl _ w1).alloc (Nat.le_refl _) _; have y2 := hw2 ▸ Has.made w1 24 #[.int .i64 l1, .int .u64 (t1 : Int), .int .i64 r1, .int .i64 s1, .int .i64 g1]; have B2 := Lib.hid (below_step B1.out b2); have y8 := X8.out.below b2 X8.out.lt; have X62 := Lib.hid (X6.out.below b2 X6.out.lt); have XS2 := Lib.hid (XS.out.below b2 XS.out.lt); have d0 := y2.cell 0; have d1 := y2.cell 1; have d2 := y2.cell 2; have d3 := y2.cell 3; have d4 := y2.cell 4; have u0 := y8.cell 0; have u1 := y8.cell 1; have u2 := y8.cell 2; have u3 := y8.cell 3; have u4 := y8.cell 4; have f0 := y8.free 0; have f1 := y8.free 1; have f2 := y8.free 2; have f3 := y8.free 3; have f4 := y8.free 4; have X82 := Lib.hid y8; clear b2 y2 y8)
          | (go_at_call 14; (with_reducible refine (HS1.out _).mono ?_); rintro q3 w3 ⟨rfl, rfl⟩))
        go_roundw
        case rel => exact ⟨2, (⟨pl, pt, pr, ps, pg⟩, pf), by omega, by go_num, HY.out.symm, rfl, X82.out, X62.out, XS2.out, B2.out⟩
        case measure => simp [intOf]
      have hq5 : (pt : Int) < (t1 : Int) := by omega
      have HY : Hid (acc 2 = (⟨l1, t1, r1, s1, g1⟩, true)) := Lib.hid (by rw [EE.out]; exact if_pos ⟨⟨rfl, rfl, z3⟩, z4⟩)
      clear EE
      go_wp2_with (first
        | (go_at_call 16; (with_reducible refine (HG1.out _ KB.out).mono ?_); rintro q1 w1 ⟨rfl, b1⟩; have B1 := Lib.hid (below_step KB.out b1); have X8 := Lib.hid (K8.out.below b1 K8.out.lt); have X6 := Lib.hid (K6.out.below b1 K6.out.lt); have XS := Lib.hid (KS.out.below b1 KS.out.lt); clear b1; obtain ⟨w2, hw2⟩ : ∃ w2, w1.alloc (.cells #[.int .i64 l1, .int .u64 (t1 : Int), .int .i64 r1, .int .i64 s1, .int .i64 g1] 24) = w2 := ⟨_, rfl⟩; have b2 : Below w1.heap.size w1 w2 := hw2 ▸ (Below.refl _ w1).alloc (Nat.le_refl _) _; have y2 := hw2 ▸ Has.made w1 24 #[.int .i64 l1, .int .u64 (t1 : Int), .int .i64 r1, .int .i64 s1, .int .i64 g1]; have B2 := Lib.hid (below_step B1.out b2); have y8 := X8.out.below b2 X8.out.lt; have X62 := Lib.hid (X6.out.below b2 X6.out.lt); have XS2 := Lib.hid (XS.out.below b2 XS.out.lt); have d0 := y2.cell 0; have d1 := y2.cell 1; have d2 := y2.cell 2; have d3 := y2.cell 3; have d4 := y2.cell 4; have u0 := y8.cell 0; have u1 := y8.cell 1; have u2 := y8.cell 2; have u3 := y8.cell 3; have u4 := y8.cell 4; have f0 := y8.free 0; have f1 := y8.free 1; have f2 := y8.free 2; have f3 := y8.free 3; have f4 := y8.free 4; have X82 := Lib.hid y8; clear b2 y2 y8)
        | (go_at_call 14; (with_reducible refine (HS1.out _).mono ?_); rintro q3 w3 ⟨rfl, rfl⟩))
      go_roundw
      case rel => exact ⟨2, (⟨l1, t1, r1, s1, g1⟩, true), by omega, by go_num, HY.out.symm, rfl, X82.out.setM (.int .i64 l1) (.int .u64 (t1 : Int)) (.int .i64 r1) (.int .i64 s1) (.int .i64 g1), X62.out.setM_away (B := w.heap.size + 1) (by omega) (.int .i64 l1) (.int .u64 (t1 : Int)) (.int .i64 r1) (.int .i64 s1) (.int .i64 g1), XS2.out.setM_away (B := w.heap.size + 1) (by omega) (.int .i64 l1) (.int .u64 (t1 : Int)) (.int .i64 r1) (.int .i64 s1) (.int .i64 g1), below_setM B2.out (by omega) (.int .i64 l1) (.int .u64 (t1 : Int)) (.int .i64 r1) (.int .i64 s1) (.int .i64 g1)⟩
      case measure => simp [intOf]
    · have e0 := k8.cell 0
      have e1 := k8.cell 1
      have e2 := k8.cell 2
      have e3 := k8.cell 3
      have e4 := k8.cell 4
      have f0 := k6.free 0
      have f1 := k6.free 1
      have f2 := k6.free 2
      have f3 := k6.free 3
      have f4 := k6.free 4
      have o0 := k6.cell 0
      have o1 := k6.cell 1
      have o2 := k6.cell 2
      have o3 := k6.cell 3
      have o4 := k6.cell 4
      have HX := Lib.hid hx
      clear k8 k6 ks kb hx
      go_wp2
      have XE := K6.out.setM (.int .i64 pl) (.int .u64 (pt : Int)) (.int .i64 pr) (.int .i64 ps) (.int .i64 pg)
      have q0 := XE.cell 0
      have q1 := XE.cell 1
      have q2 := XE.cell 2
      have q3 := XE.cell 3
      have q4 := XE.cell 4
      unfold stM5 at q0 q1 q2 q3 q4
      refine ⟨rfl, .tuple #[.agg #[.int .i64 pl, .int .u64 (pt : Int), .int .i64 pr, .int .i64 ps, .int .i64 pg], .bool pf], ?_, by rw [← HX.out]; rfl, below_setM KB.out (Nat.le_refl _) (.int .i64 pl) (.int .u64 (pt : Int)) (.int .i64 pr) (.int .i64 ps) (.int .i64 pg)⟩
      simp at q0 q1 q2 q3 q4
      simp [results, Tryd.f18, go_sem, q0, q1, q2, q3, q4]
    · exact absurd hk (by omega)
end Go.Proofs.YtpikcodnonodlaaDoor
