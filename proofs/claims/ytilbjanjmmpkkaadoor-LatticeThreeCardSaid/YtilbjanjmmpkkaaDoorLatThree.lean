/- The walk of the law LatticeThree. -/
import Derived.Test.YtilbjanjmmpkkaaDoorLatBounds
namespace Go.Proofs.YtilbjanjmmpkkaaDoor
open Go.RowKit
set_option linter.unusedVariables false

set_option maxRecDepth 100000 in
set_option maxHeartbeats 4000000 in
theorem walkLatThree (A : Option Addr) (n c : Nat) (up : List Nat) (w : World) (ht : Base3 w) (h : ArgU w A n c up) :
    Calls Tryd.prog 7 #[.slice A n c] w fun e w' => e = .returned (.bool true) ∧ Below w.heap.size w w' := by
  have HT := Lib.hid ht
  have HA := Lib.hid h
  have HN := Lib.hid h.len
  clear ht h
  by_cases hg : 8 < n
  · have e1 : decide (8 < (n : Int)) = true := by simp; omega
    go_enter Tryd.func7, Tryd.ntmps7
    go_wp2_with (go_at_call 9; refine (awake03_any _ HT.out).mono ?_; rintro e w0 ⟨rfl, h0⟩; have B0 := Lib.hid h0; clear h0)
    go_ret
    exact ⟨rfl, B0.out⟩
  · have e1 : decide (8 < (n : Int)) = false := by simp; omega
    have HC := Lib.hid (fun w1 (h1 : Below w.heap.size w w1) => laCheck_any up A n c w1 (HT.out.below h1) (HA.out.below h1) (by omega))
    cases hc : checkB up
    · rw [hc] at HC
      clear hc
      go_enter Tryd.func7, Tryd.ntmps7
      go_wp2_with (first
        | (go_at_call 9; refine (awake03_any _ HT.out).mono ?_; rintro e w0 ⟨rfl, h0⟩; have B0 := Lib.hid h0; clear h0)
        | (go_at_call 18; refine (HC.out _ B0.out).mono ?_; rintro e w1 ⟨rfl, h1⟩; have B1 := Lib.hid (below_step B0.out h1); clear h1))
      go_ret
      exact ⟨rfl, B1.out⟩
    · rw [hc] at HC
      have L := Lib.hid (checkB_iff.1 hc)
      have hn1 : 1 ≤ n := by have := L.out.1.1; have := HN.out; omega
      clear hc
      have HL := Lib.hid (fun w1 (h1 : Below w.heap.size w w1) (a b : Nat) (v : Bool) (hv : lq up a b = v) => show Calls Tryd.prog 10 #[.slice A n c, .int .i64 a, .int .i64 b] w1 (BoolEnd v w1) by
        have := laLeq_any up A n c a b w1 (HT.out.below h1) (HA.out.below h1) (by omega)
        rwa [leqZ_eq up a b v hv] at this)
      have HJ := Lib.hid (fun w1 (h1 : Below w.heap.size w w1) (a b j : Nat) (hv : joinN up a b = j) => show Calls Tryd.prog 14 #[.slice A n c, .int .i64 a, .int .i64 b] w1 (IntEnd j w1) by
        have := laJoin_any up A n c a b w1 (HT.out.below h1) (HA.out.below h1) (by omega)
        rwa [hv] at this)
      have HM := Lib.hid (fun w1 (h1 : Below w.heap.size w w1) (a b m : Nat) (hv : meetN up a b = m) => show Calls Tryd.prog 16 #[.slice A n c, .int .i64 a, .int .i64 b] w1 (IntEnd m w1) by
        have := laMeet_any up A n c a b w1 (HT.out.below h1) (HA.out.below h1) (by omega)
        rwa [hv] at this)
      go_enter Tryd.func7, Tryd.ntmps7
      go_wp2_with (first
        | (go_at_call 9; refine (awake03_any _ HT.out).mono ?_; rintro e w0 ⟨rfl, h0⟩; have B0 := Lib.hid h0; clear h0)
        | (go_at_call 18; refine (HC.out _ B0.out).mono ?_; rintro e w1 ⟨rfl, h1⟩; have B1 := Lib.hid (below_step B0.out h1); clear h1))
      go_loopw [4] (fun i wr => ∃ p : Nat, i = .int .i64 p ∧ p ≤ n ∧ Below w.heap.size w wr) (fun i _ => n - (intOf i).toNat)
      case atStart => exact ⟨0, rfl, Nat.zero_le _, B1.out⟩
      case round =>
        obtain ⟨p, rfl, hp, hB⟩ := hrel
        have HB := Lib.hid hB
        clear hB
        obtain ⟨w2, hw2⟩ : ∃ w2 : World, w2 = wr := ⟨_, rfl⟩
        subst hw2
        by_cases hpn : p < n
        · go_wp2
          go_loopw [5] (fun i wr => ∃ q : Nat, i = .int .i64 q ∧ q ≤ n ∧ Below w.heap.size w wr) (fun i _ => n - (intOf i).toNat)
          case atStart => exact ⟨0, rfl, Nat.zero_le _, HB.out⟩
          case round =>
            obtain ⟨q, rfl, hq, hB⟩ := hrel
            have HB2 := Lib.hid hB
            clear hB
            obtain ⟨w3, hw3⟩ : ∃ w3 : World, w3 = wr := ⟨_, rfl⟩
            subst hw3
            by_cases hqn : q < n
            · obtain ⟨j, lj, hj, _⟩ := L.out.join (a := p) (b := q) (by have := HN.out; omega) (by have := HN.out; omega)
              obtain ⟨m, lm, hm, _⟩ := L.out.meet (a := p) (b := q) (by have := HN.out; omega) (by have := HN.out; omega)
              have J0 := Lib.hid (fun w1 h1 => HJ.out w1 h1 p q j hj)
              have M0 := Lib.hid (fun w1 h1 => HM.out w1 h1 p q m hm)
              have FJ := Lib.hid (And.intro lj hj)
              have FM := Lib.hid (And.intro lm hm)
              clear lj hj lm hm
              go_wp2_with (first
                | (go_at_call 16; refine (M0.out _ HB2.out).mono ?_; rintro e w4 ⟨rfl, h1⟩; have B4 := Lib.hid (below_step HB2.out h1); clear h1)
                | (go_at_call 14; refine (J0.out _ B4.out).mono ?_; rintro e w5 ⟨rfl, h1⟩; have B5 := Lib.hid (below_step B4.out h1); clear h1))
              go_loopw [8] (fun i wr => ∃ r : Nat, i = .int .i64 r ∧ r ≤ n ∧ Below w.heap.size w wr) (fun i _ => n - (intOf i).toNat)
              case atStart => exact ⟨0, rfl, Nat.zero_le _, B5.out⟩
              case round =>
                obtain ⟨r, rfl, hr, BD⟩ := hrel
                by_cases hrn : r < n
                · have hpl : p < up.length := by have := HN.out; omega
                  have hql : q < up.length := by have := HN.out; omega
                  have hrl : r < up.length := by have := HN.out; omega
                  obtain ⟨k, lk, hk, _⟩ := L.out.join hql hrl
                  obtain ⟨k', lk', hk', _⟩ := L.out.meet hql hrl
                  obtain ⟨x, _, hx, _⟩ := L.out.join FJ.out.1 hrl
                  obtain ⟨y, _, hy, _⟩ := L.out.meet FM.out.1 hrl
                  have hx2 := L.out.join_assoc hpl hql hrl FJ.out.2 hk
                  have hy2 := L.out.meet_assoc hpl hql hrl FM.out.2 hk'
                  have J1 := Lib.hid (fun w1 h1 => HJ.out w1 h1 j r x hx)
                  have J2 := Lib.hid (fun w1 h1 => HJ.out w1 h1 q r k hk)
                  have J3 := Lib.hid (fun w1 h1 => HJ.out w1 h1 p k x (by rw [← hx2]; exact hx))
                  have M1 := Lib.hid (fun w1 h1 => HM.out w1 h1 m r y hy)
                  have M2 := Lib.hid (fun w1 h1 => HM.out w1 h1 q r k' hk')
                  have M3 := Lib.hid (fun w1 h1 => HM.out w1 h1 p k' y (by rw [← hy2]; exact hy))
                  have r1 := L.out.meet_iff r hpl hql FM.out.2
                  have r2 := L.out.join_iff r hpl hql FJ.out.2
                  obtain ⟨v1, hv1⟩ : ∃ v, lq up r p = v := ⟨_, rfl⟩
                  obtain ⟨v2, hv2⟩ : ∃ v, lq up r q = v := ⟨_, rfl⟩
                  obtain ⟨u1, hu1⟩ : ∃ v, lq up p r = v := ⟨_, rfl⟩
                  obtain ⟨u2, hu2⟩ : ∃ v, lq up q r = v := ⟨_, rfl⟩
                  have hv3 : lq up r m = (v1 && v2) := by
                    rw [← hv1, ← hv2, Bool.eq_iff_iff, Bool.and_eq_true]
                    exact r1.symm
                  have hu3 : lq up j r = (u1 && u2) := by
                    rw [← hu1, ← hu2, Bool.eq_iff_iff, Bool.and_eq_true]
                    exact r2.symm
                  have Q1 := Lib.hid (fun w1 h1 => HL.out w1 h1 r p v1 hv1)
                  have Q2 := Lib.hid (fun w1 h1 => HL.out w1 h1 r q v2 hv2)
                  have Q3 := Lib.hid (fun w1 h1 => HL.out w1 h1 p r u1 hu1)
                  have Q4 := Lib.hid (fun w1 h1 => HL.out w1 h1 q r u2 hu2)
                  have Q5 := Lib.hid (fun w1 h1 => HL.out w1 h1 r m (v1 && v2) hv3)
                  have Q6 := Lib.hid (fun w1 h1 => HL.out w1 h1 j r (u1 && u2) hu3)
                  clear hpl hql hrl lk hk lk' hk' hx hy hx2 hy2 r1 r2 hv1 hv2 hu1 hu2 hv3 hu3
                  cases v1 <;> cases v2 <;> cases u1 <;> cases u2
                  all_goals
                    simp only [Bool.and_true, Bool.and_false] at Q5 Q6
                    go_wp2_with (first | (go_at_call 14; (with_reducible refine (J1.out _ ?_).mono ?_); (repeat (first | exact BD | refine below_step ?_ (by assumption))); rintro e we ⟨rfl, be⟩) | (go_at_call 14; (with_reducible refine (J2.out _ ?_).mono ?_); (repeat (first | exact BD | refine below_step ?_ (by assumption))); rintro e we ⟨rfl, be⟩) | (go_at_call 14; (with_reducible refine (J3.out _ ?_).mono ?_); (repeat (first | exact BD | refine below_step ?_ (by assumption))); rintro e we ⟨rfl, be⟩) | (go_at_call 16; (with_reducible refine (M1.out _ ?_).mono ?_); (repeat (first | exact BD | refine below_step ?_ (by assumption))); rintro e we ⟨rfl, be⟩) | (go_at_call 16; (with_reducible refine (M2.out _ ?_).mono ?_); (repeat (first | exact BD | refine below_step ?_ (by assumption))); rintro e we ⟨rfl, be⟩) | (go_at_call 16; (with_reducible refine (M3.out _ ?_).mono ?_); (repeat (first | exact BD | refine below_step ?_ (by assumption))); rintro e we ⟨rfl, be⟩) | (go_at_call 10; (with_reducible refine (Q1.out _ ?_).mono ?_); (repeat (first | exact BD | refine below_step ?_ (by assumption))); rintro e we ⟨rfl, be⟩) | (go_at_call 10; (with_reducible refine (Q2.out _ ?_).mono ?_); (repeat (first | exact BD | refine below_step ?_ (by assumption))); rintro e we ⟨rfl, be⟩) | (go_at_call 10; (with_reducible refine (Q3.out _ ?_).mono ?_); (repeat (first | exact BD | refine below_step ?_ (by assumption))); rintro e we ⟨rfl, be⟩) | (go_at_call 10; (with_reducible refine (Q4.out _ ?_).mono ?_); (repeat (first | exact BD | refine below_step ?_ (by assumption))); rintro e we ⟨rfl, be⟩) | (go_at_call 10; (with_reducible refine (Q5.out _ ?_).mono ?_); (repeat (first | exact BD | refine below_step ?_ (by assumption))); rintro e we ⟨rfl, be⟩) | (go_at_call 10; (with_reducible refine (Q6.out _ ?_).mono ?_); (repeat (first | exact BD | refine below_step ?_ (by assumption))); rintro e we ⟨rfl, be⟩))
                    go_roundw
                    case rel => exact ⟨r + 1, by go_num, by omega, by repeat (first | exact BD | refine below_step ?_ (by assumption))⟩
                    case measure => simp [intOf]; omega
                · obtain rfl : r = n := by omega
                  have HBD := Lib.hid BD
                  clear BD
                  obtain ⟨w6, hw6⟩ : ∃ w6 : World, w6 = wr := ⟨_, rfl⟩
                  subst hw6
                  go_wp2
                  go_roundw
                  case rel => exact ⟨q + 1, by go_num, by omega, HBD.out⟩
                  case measure => simp [intOf]; omega
            · obtain rfl : q = n := by omega
              go_wp2
              go_roundw
              case rel => exact ⟨p + 1, by go_num, by omega, HB2.out⟩
              case measure => simp [intOf]; omega
        · obtain rfl : p = n := by omega
          go_wp2
          go_ret
          exact ⟨rfl, HB.out⟩

end Go.Proofs.YtilbjanjmmpkkaaDoor
