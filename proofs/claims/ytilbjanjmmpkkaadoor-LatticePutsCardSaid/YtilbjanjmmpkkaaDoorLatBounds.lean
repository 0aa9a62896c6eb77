/- The walk of the law LatticeBounds. -/
import Derived.Test.YtilbjanjmmpkkaaDoorLata
namespace Go.Proofs.YtilbjanjmmpkkaaDoor
open Go.RowKit
set_option linter.unusedVariables false

theorem leqZ_eq (up : List Nat) (a b : Nat) (v : Bool) (h : lq up a b = v) : leqZ up (a : Int) (b : Int) = v := by rw [leqZ_nat]; exact h
theorem int_bne (x y : Nat) : ((x : Int) != (y : Int)) = !decide (x = y) := nat_bne x y
theorem int_beq (x y : Nat) : ((x : Int) == (y : Int)) = decide (x = y) := by
  by_cases h : x = y
  · simp [h]
  · simp [h]; omega

set_option maxRecDepth 100000 in
set_option maxHeartbeats 4000000 in
theorem walkLatBounds (A : Option Addr) (n c : Nat) (up : List Nat) (w : World) (ht : Base3 w) (h : ArgU w A n c up) :
    Calls Tryd.prog 5 #[.slice A n c] w fun e w' => e = .returned (.bool true) ∧ Below w.heap.size w w' := by
  have HT := Lib.hid ht
  have HA := Lib.hid h
  have HN := Lib.hid h.len
  clear ht h
  by_cases hg : 12 < n
  · have e1 : decide (12 < (n : Int)) = true := by simp; omega
    go_enter Tryd.func5, Tryd.ntmps5
    go_wp2_with (go_at_call 9; refine (awake03_any _ HT.out).mono ?_; rintro e w0 ⟨rfl, h0⟩; have B0 := Lib.hid h0; clear h0)
    go_ret
    exact ⟨rfl, B0.out⟩
  · have e1 : decide (12 < (n : Int)) = false := by simp; omega
    have HC := Lib.hid (fun w1 (h1 : Below w.heap.size w w1) => laCheck_any up A n c w1 (HT.out.below h1) (HA.out.below h1) (by omega))
    cases hc : checkB up
    · rw [hc] at HC
      clear hc
      go_enter Tryd.func5, Tryd.ntmps5
      go_wp2_with (first
        | (go_at_call 9; refine (awake03_any _ HT.out).mono ?_; rintro e w0 ⟨rfl, h0⟩; have B0 := Lib.hid h0; clear h0)
        | (go_at_call 18; refine (HC.out _ B0.out).mono ?_; rintro e w1 ⟨rfl, h1⟩; have B1 := Lib.hid (below_step B0.out h1); clear h1))
      go_ret
      exact ⟨rfl, B1.out⟩
    · rw [hc] at HC
      have L := Lib.hid (checkB_iff.1 hc)
      have hn1 : 1 ≤ n := by have := L.out.1.1; have := HN.out; omega
      clear hc
      have HL := Lib.hid (fun w1 (h1 : Below w.heap.size w w1) (a b : Nat) (v : Bool) (hv : lq up a b = v) => show Calls Tryd.prog 10 #[.slice A n c, .int .i64 a, .int .i64 b] w1 (BoolEnd v w1) by
        have := laLeq_any up A n c a b w1 (HT.out.below h1) (HA.out.below h1) (by omega)
        rwa [leqZ_eq up a b v hv] at this)
      have HJ := Lib.hid (fun w1 (h1 : Below w.heap.size w w1) (a b j : Nat) (hv : joinN up a b = j) => show Calls Tryd.prog 14 #[.slice A n c, .int .i64 a, .int .i64 b] w1 (IntEnd j w1) by
        have := laJoin_any up A n c a b w1 (HT.out.below h1) (HA.out.below h1) (by omega)
        rwa [hv] at this)
      have HM := Lib.hid (fun w1 (h1 : Below w.heap.size w w1) (a b m : Nat) (hv : meetN up a b = m) => show Calls Tryd.prog 16 #[.slice A n c, .int .i64 a, .int .i64 b] w1 (IntEnd m w1) by
        have := laMeet_any up A n c a b w1 (HT.out.below h1) (HA.out.below h1) (by omega)
        rwa [hv] at this)
      go_enter Tryd.func5, Tryd.ntmps5
      go_wp2_with (first
        | (go_at_call 9; refine (awake03_any _ HT.out).mono ?_; rintro e w0 ⟨rfl, h0⟩; have B0 := Lib.hid h0; clear h0)
        | (go_at_call 18; refine (HC.out _ B0.out).mono ?_; rintro e w1 ⟨rfl, h1⟩; have B1 := Lib.hid (below_step B0.out h1); clear h1))
      go_loopw [4, 5, 6] (fun vl vh i wr => ∃ lo hi k : Nat, vl = .int .i64 lo ∧ vh = .int .i64 hi ∧ i = .int .i64 k ∧ k ≤ n ∧ lo < n ∧ hi < n ∧ (∀ a, a < k → lq up lo a = true ∧ lq up a hi = true) ∧ Below w.heap.size w wr) (fun _ _ i _ => n - (intOf i).toNat)
      case atStart => exact ⟨0, 0, 0, rfl, rfl, rfl, Nat.zero_le _, by omega, by omega, fun a ha => absurd ha (by omega), B1.out⟩
      case round =>
        obtain ⟨lo, hi, p, rfl, rfl, rfl, hp, hlo, hhi, hall, hB⟩ := hrel
        by_cases hpn : p < n
        · obtain ⟨m0, lm0, hm0, k1, k2, _⟩ := L.out.meet (a := lo) (b := p) (by have := HN.out; omega) (by have := HN.out; omega)
          obtain ⟨j0, lj0, hj0, k3, k4, _⟩ := L.out.join (a := hi) (b := p) (by have := HN.out; omega) (by have := HN.out; omega)
          have HALL : Hid (∀ a, a < p + 1 → lq up m0 a = true ∧ lq up a j0 = true) := Lib.hid (fun a ha => by
            by_cases e : a = p
            · subst e; exact ⟨k2, k4⟩
            · obtain ⟨x1, x2⟩ := hall a (by omega)
              exact ⟨L.out.trans_ k1 x1, L.out.trans_ x2 k3⟩)
          have LM : m0 < n := by have := HN.out; omega
          have LJ : j0 < n := by have := HN.out; omega
          have M0 := Lib.hid (fun w1 h1 => HM.out w1 h1 lo p m0 hm0)
          have J0 := Lib.hid (fun w1 h1 => HJ.out w1 h1 hi p j0 hj0)
          have HB0 := Lib.hid hB
          clear hall hm0 hj0 k1 k2 k3 k4 lm0 lj0 hB
          obtain ⟨w2, hw2⟩ : ∃ w2 : World, w2 = wr := ⟨_, rfl⟩
          subst hw2
          go_wp2_with (first
            | (go_at_call 16; refine (M0.out _ HB0.out).mono ?_; rintro e w3 ⟨rfl, h1⟩; have B3 := Lib.hid (below_step HB0.out h1); clear h1)
            | (go_at_call 14; refine (J0.out _ B3.out).mono ?_; rintro e w4 ⟨rfl, h1⟩; have B4 := Lib.hid (below_step B3.out h1); clear h1))
          go_loopw [7] (fun i wr => ∃ q : Nat, i = .int .i64 q ∧ q ≤ n ∧ Below w.heap.size w wr) (fun i _ => n - (intOf i).toNat)
          case atStart => exact ⟨0, rfl, Nat.zero_le _, B4.out⟩
          case round =>
            obtain ⟨q, rfl, hq, BD⟩ := hrel
            by_cases hqn : q < n
            · have hpl : p < up.length := by have := HN.out; omega
              have hql : q < up.length := by have := HN.out; omega
              obtain ⟨j, lj, hj, k1, k2, _⟩ := L.out.join hpl hql
              obtain ⟨m, lm, hm, k3, k4, _⟩ := L.out.meet hpl hql
              have J1 := Lib.hid (fun w1 h1 => HJ.out w1 h1 p q j hj)
              have J2 := Lib.hid (fun w1 h1 => HJ.out w1 h1 q p j (by rw [joinN_comm]; exact hj))
              have J3 := Lib.hid (fun w1 h1 => HJ.out w1 h1 p m p (L.out.join_meet hpl hql hm))
              have M1 := Lib.hid (fun w1 h1 => HM.out w1 h1 p q m hm)
              have M2 := Lib.hid (fun w1 h1 => HM.out w1 h1 q p m (by rw [meetN_comm]; exact hm))
              have M3 := Lib.hid (fun w1 h1 => HM.out w1 h1 p j p (L.out.meet_join hpl hql hj))
              have Q1 := Lib.hid (fun w1 h1 => HL.out w1 h1 p j true k1)
              have Q2 := Lib.hid (fun w1 h1 => HL.out w1 h1 q j true k2)
              have Q3 := Lib.hid (fun w1 h1 => HL.out w1 h1 m p true k3)
              have Q4 := Lib.hid (fun w1 h1 => HL.out w1 h1 m q true k4)
              have r1 := L.out.join_le hpl hql hj
              have r2 := L.out.meet_le hpl hql hm
              have Q5 := Lib.hid (fun w1 h1 v hv => HL.out w1 h1 p q v hv)
              obtain ⟨v, hv⟩ : ∃ v, lq up p q = v := ⟨_, rfl⟩
              have Q5 := Lib.hid (fun w1 h1 => HL.out w1 h1 p q v hv)
              have s1 : ((j : Int) == (q : Int)) = v := by
                rw [int_beq, ← hv, Bool.eq_iff_iff, r1]; simp
              have s2 : ((m : Int) == (p : Int)) = v := by
                rw [int_beq, ← hv, Bool.eq_iff_iff, r2]; simp
              clear hpl hql lj lm hj hm k1 k2 k3 k4 r1 r2 hv
              cases v
              all_goals
                go_wp2_with (first | (go_at_call 14; (with_reducible refine (J1.out _ ?_).mono ?_); (repeat (first | exact BD | refine below_step ?_ (by assumption))); rintro e we ⟨rfl, be⟩) | (go_at_call 14; (with_reducible refine (J2.out _ ?_).mono ?_); (repeat (first | exact BD | refine below_step ?_ (by assumption))); rintro e we ⟨rfl, be⟩) | (go_at_call 14; (with_reducible refine (J3.out _ ?_).mono ?_); (repeat (first | exact BD | refine below_step ?_ (by assumption))); rintro e we ⟨rfl, be⟩) | (go_at_call 16; (with_reducible refine (M1.out _ ?_).mono ?_); (repeat (first | exact BD | refine below_step ?_ (by assumption))); rintro e we ⟨rfl, be⟩) | (go_at_call 16; (with_reducible refine (M2.out _ ?_).mono ?_); (repeat (first | exact BD | refine below_step ?_ (by assumption))); rintro e we ⟨rfl, be⟩) | (go_at_call 16; (with_reducible refine (M3.out _ ?_).mono ?_); (repeat (first | exact BD | refine below_step ?_ (by assumption))); rintro e we ⟨rfl, be⟩) | (go_at_call 10; (with_reducible refine (Q1.out _ ?_).mono ?_); (repeat (first | exact BD | refine below_step ?_ (by assumption))); rintro e we ⟨rfl, be⟩) | (go_at_call 10; (with_reducible refine (Q2.out _ ?_).mono ?_); (repeat (first | exact BD | refine below_step ?_ (by assumption))); rintro e we ⟨rfl, be⟩) | (go_at_call 10; (with_reducible refine (Q3.out _ ?_).mono ?_); (repeat (first | exact BD | refine below_step ?_ (by assumption))); rintro e we ⟨rfl, be⟩) | (go_at_call 10; (with_reducible refine (Q4.out _ ?_).mono ?_); (repeat (first | exact BD | refine below_step ?_ (by assumption))); rintro e we ⟨rfl, be⟩) | (go_at_call 10; (with_reducible refine (Q5.out _ ?_).mono ?_); (repeat (first | exact BD | refine below_step ?_ (by assumption))); rintro e we ⟨rfl, be⟩))
                go_roundw
                case rel => exact ⟨q + 1, by go_num, by omega, by repeat (first | exact BD | refine below_step ?_ (by assumption))⟩
                case measure => simp [intOf]; omega
            · obtain rfl : q = n := by omega
              have HBD := Lib.hid BD
              clear BD
              obtain ⟨w5, hw5⟩ : ∃ w5 : World, w5 = wr := ⟨_, rfl⟩
              subst hw5
              go_wp2
              go_roundw
              case rel => exact ⟨m0, j0, p + 1, rfl, rfl, by go_num, by omega, by omega, by omega, HALL.out, HBD.out⟩
              case measure => simp [intOf]; omega
        · obtain rfl : p = n := by omega
          have HALL := Lib.hid hall
          have HB0 := Lib.hid hB
          clear hall hB
          obtain ⟨w2, hw2⟩ : ∃ w2 : World, w2 = wr := ⟨_, rfl⟩
          subst hw2
          go_wp2
          go_loopw [11] (fun i wr => ∃ q : Nat, i = .int .i64 q ∧ q ≤ p ∧ Below w.heap.size w wr) (fun i _ => p - (intOf i).toNat)
          case atStart => exact ⟨0, rfl, Nat.zero_le _, HB0.out⟩
          case round =>
            obtain ⟨q, rfl, hq, BD⟩ := hrel
            by_cases hqn : q < p
            · have Q1 := Lib.hid (fun w1 h1 => HL.out w1 h1 lo q true (HALL.out q hqn).1)
              have Q2 := Lib.hid (fun w1 h1 => HL.out w1 h1 q hi true (HALL.out q hqn).2)
              go_wp2_with (first | (go_at_call 10; (with_reducible refine (Q1.out _ ?_).mono ?_); (repeat (first | exact BD | refine below_step ?_ (by assumption))); rintro e we ⟨rfl, be⟩) | (go_at_call 10; (with_reducible refine (Q2.out _ ?_).mono ?_); (repeat (first | exact BD | refine below_step ?_ (by assumption))); rintro e we ⟨rfl, be⟩))
              go_roundw
              case rel => exact ⟨q + 1, by go_num, by omega, by repeat (first | exact BD | refine below_step ?_ (by assumption))⟩
              case measure => simp [intOf]; omega
            · obtain rfl : q = p := by omega
              have HBD := Lib.hid BD
              clear BD
              obtain ⟨w5, hw5⟩ : ∃ w5 : World, w5 = wr := ⟨_, rfl⟩
              subst hw5
              go_wp2
              go_ret
              exact ⟨rfl, HBD.out⟩

end Go.Proofs.YtilbjanjmmpkkaaDoor
