/- The walk of the law LatticeDown. -/
import Derived.Test.YtilbjanjmmpkkaaDoorLatBounds
import Derived.Test.YtilbjanjmmpkkaaDoorLatTells
namespace Go.Proofs.YtilbjanjmmpkkaaDoor
open Go.RowKit
set_option linter.unusedVariables false

theorem listN_down (up : List Nat) (h : up.length ≤ 64) (p : Nat) : listN (downN up p) = (List.range up.length).filter fun b => lq up b p := by
  unfold listN
  have e : List.range 64 = List.range up.length ++ List.range' up.length (64 - up.length) := by
    have h2 := List.range'_append_1 (s := 0) (m := up.length) (n := 64 - up.length)
    rw [Nat.zero_add] at h2
    rw [List.range_eq_range', List.range_eq_range', h2]
    congr 1
    omega
  rw [e, List.filter_append]
  have h1 : (List.range' up.length (64 - up.length)).filter (fun k => (downN up p).testBit k) = [] := by
    rw [List.filter_eq_nil_iff]
    intro x hx
    have := (List.mem_range'_1.1 hx).1
    unfold downN
    rw [mask_bit]
    simp
    omega
  rw [h1, List.append_nil]
  apply List.filter_congr
  intro x hx
  simp at hx
  unfold downN
  rw [mask_bit, leqZ_nat]
  simp [hx]
def countF (up : List Nat) (p q : Nat) : Nat := ((List.range q).filter fun b => lq up b p).length
theorem countF_yes (up : List Nat) (p q : Nat) (h : lq up q p = true) : countF up p (q + 1) = countF up p q + 1 := by
  unfold countF
  rw [List.range_succ, List.filter_append]
  simp [h]
theorem countF_no (up : List Nat) (p q : Nat) (h : lq up q p = false) : countF up p (q + 1) = countF up p q := by
  unfold countF
  rw [List.range_succ, List.filter_append]
  simp [h]
theorem filter_at (up : List Nat) (p q n : Nat) (hq : q < n) (h : lq up q p = true) : ((List.range n).filter fun b => lq up b p)[countF up p q]? = some q := by
  have e : List.range n = List.range q ++ (q :: List.range' (q + 1) (n - q - 1)) := by
    rw [List.range_eq_range', List.range_eq_range']
    have e1 : q :: List.range' (q + 1) (n - q - 1) = List.range' q (n - q) := by
      obtain ⟨m, hm⟩ : ∃ m, n - q = m + 1 := ⟨n - q - 1, by omega⟩
      rw [hm, List.range'_succ]
      rfl
    rw [e1]
    have := List.range'_append_1 (s := 0) (m := q) (n := n - q)
    rw [Nat.zero_add] at this
    rw [this]
    congr 1
    omega
  unfold countF
  rw [e, List.filter_append, List.getElem?_append_right (Nat.le_refl _), Nat.sub_self, List.filter_cons, if_pos h]
  rfl
theorem down_or (up : List Nat) (L : IsLat up) (p q : Nat) (h : lq up q p = true) : downN up q ||| downN up p = downN up p := by
  apply Nat.eq_of_testBit_eq
  intro i
  rw [Nat.testBit_or]
  unfold downN
  rw [mask_bit, mask_bit, leqZ_nat, leqZ_nat]
  cases hi : lq up i q
  · simp
  · rw [L.trans_ hi h]
    simp

set_option maxRecDepth 100000 in
set_option maxHeartbeats 4000000 in
theorem walkLatDown (A : Option Addr) (n c : Nat) (up : List Nat) (w : World) (ht : Base3 w) (h : ArgU w A n c up) :
    Calls Tryd.prog 6 #[.slice A n c] w fun e w' => e = .returned (.bool true) ∧ Below w.heap.size w w' := by
  have HT := Lib.hid ht
  have HA := Lib.hid h
  have HN := Lib.hid h.len
  clear ht h
  by_cases hg : 12 < n
  · have e1 : decide (12 < (n : Int)) = true := by simp; omega
    go_enter Tryd.func6, Tryd.ntmps6
    go_wp2_with (go_at_call 9; refine (awake03_any _ HT.out).mono ?_; rintro e w0 ⟨rfl, h0⟩; have B0 := Lib.hid h0; clear h0)
    go_ret
    exact ⟨rfl, B0.out⟩
  · have e1 : decide (12 < (n : Int)) = false := by simp; omega
    have HC := Lib.hid (fun w1 (h1 : Below w.heap.size w w1) => laCheck_any up A n c w1 (HT.out.below h1) (HA.out.below h1) (by omega))
    cases hc : checkB up
    · rw [hc] at HC
      clear hc
      go_enter Tryd.func6, Tryd.ntmps6
      go_wp2_with (first
        | (go_at_call 9; refine (awake03_any _ HT.out).mono ?_; rintro e w0 ⟨rfl, h0⟩; have B0 := Lib.hid h0; clear h0)
        | (go_at_call 18; refine (HC.out _ B0.out).mono ?_; rintro e w1 ⟨rfl, h1⟩; have B1 := Lib.hid (below_step B0.out h1); clear h1))
      go_ret
      exact ⟨rfl, B1.out⟩
    · rw [hc] at HC
      have L := Lib.hid (checkB_iff.1 hc)
      clear hc
      have hsm : up.length ≤ 64 := by have := HN.out; omega
      have HL := Lib.hid (fun w1 (h1 : Below w.heap.size w w1) (a b : Nat) (v : Bool) (hv : lq up a b = v) => show Calls Tryd.prog 10 #[.slice A n c, .int .i64 a, .int .i64 b] w1 (BoolEnd v w1) by
        have := laLeq_any up A n c a b w1 (HT.out.below h1) (HA.out.below h1) (by omega)
        rwa [leqZ_eq up a b v hv] at this)
      have HD := Lib.hid (fun w1 (h1 : Below w.heap.size w w1) (a : Nat) => laDown_any up A n c a w1 (HT.out.below h1) (HA.out.below h1) (by omega))
      have HK := Lib.hid (fun w1 (h1 : Below w.heap.size w w1) => laClose_any up A n c w1 (HT.out.below h1) (HA.out.below h1) (by omega))
      rw [closeN_lat up L.out HA.out.big] at HK
      go_enter Tryd.func6, Tryd.ntmps6
      go_wp2_with (first
        | (go_at_call 9; refine (awake03_any _ HT.out).mono ?_; rintro e w0 ⟨rfl, h0⟩; have B0 := Lib.hid h0; clear h0)
        | (go_at_call 18; refine (HC.out _ B0.out).mono ?_; rintro e w1 ⟨rfl, h1⟩; have B1 := Lib.hid (below_step B0.out h1); clear h1)
        | (go_at_call 21; refine (HK.out _ B1.out).mono ?_; rintro e w2 ⟨A2, n2, c2, rfl, u2, h1⟩; have U2 := Lib.hid u2; have B2 := Lib.hid (below_step B1.out h1); clear h1 u2)
        | (go_at_call 20; refine (same_yes U2.out (HA.out.below B2.out) hsm).mono ?_; rintro e w3 ⟨rfl, h1⟩; have B3 := Lib.hid (below_step B2.out h1); clear h1))
      go_loopw [4] (fun i wr => ∃ p : Nat, i = .int .i64 p ∧ p ≤ n ∧ Below w.heap.size w wr) (fun i _ => n - (intOf i).toNat)
      case atStart => exact ⟨0, rfl, Nat.zero_le _, B3.out⟩
      case round =>
        obtain ⟨p, rfl, hp, hB⟩ := hrel
        have HB := Lib.hid hB
        clear hB
        obtain ⟨w4, hw4⟩ : ∃ w4 : World, w4 = wr := ⟨_, rfl⟩
        subst hw4
        by_cases hpn : p < n
        · have D1 := Lib.hid (fun w1 h1 => HD.out w1 h1 p)
          have LS := Lib.hid (fun w1 (h1 : Below w.heap.size w w1) => laList_any (downN up p) w1 (HT.out.below h1) (downN_lt up p hsm))
          have HF : Hid (∀ q, q < n → lq up q p = true → (listN (downN up p))[countF up p q]? = some q) := Lib.hid (fun q hq h => by
            rw [listN_down up hsm]
            exact filter_at up p q _ (by have := HN.out; omega) h)
          have HLen : Hid ((listN (downN up p)).length = countF up p n) := Lib.hid (by
            rw [listN_down up hsm, HN.out]
            rfl)
          have HOr : Hid (∀ q, lq up q p = true → bits .or .u64 (downN up q : Int) (downN up p : Int) = (downN up p : Int)) := Lib.hid (fun q h => by
            have h1 := downN_lt up q hsm
            have h2 := downN_lt up p hsm
            rw [u64_or_nat _ _ (by omega) (by omega), down_or up L.out p q h])
          have HL2 : Hid ((listN (downN up p)).length ≤ 64) := Lib.hid (by
            unfold listN
            have := List.length_filter_le (fun k => (downN up p).testBit k) (List.range 64)
            simpa using this)
          generalize listN (downN up p) = LA at LS HF HLen HL2
          go_wp2_with (first
            | (go_at_call 12; (with_reducible refine (D1.out _ HB.out).mono ?_); rintro e w5 ⟨rfl, h1⟩; have B5 := Lib.hid (below_step HB.out h1); clear h1)
            | (go_at_call 27; (with_reducible refine (LS.out _ B5.out).mono ?_); rintro e w6 ⟨A6, c6, rfl, g6, r6, h1⟩; have R6 := Lib.hid r6; have B6 := Lib.hid (below_step B5.out h1); clear h1 r6))
          go_loopw [6, 7] (fun v i wr => ∃ q : Nat, i = .int .i64 q ∧ q ≤ n ∧ v = .int .i64 (countF up p q : Int) ∧ Below w6.heap.size w6 wr) (fun _ i _ => n - (intOf i).toNat)
          case atStart => exact ⟨0, rfl, Nat.zero_le _, rfl, Below.refl _ _⟩
          case round =>
            obtain ⟨q, rfl, hq, rfl, hB⟩ := hrel
            have HB6 := Lib.hid hB
            have BD : Below w.heap.size w wr := below_step B6.out hB
            clear hB
            by_cases hqn : q < n
            · cases hv : lq up q p
              · have Q1 := Lib.hid (fun w1 h1 => HL.out w1 h1 q p false hv)
                have HS := Lib.hid (countF_no up p q hv)
                clear hv
                go_wp2_with (first | (go_at_call 10; (with_reducible refine (Q1.out _ ?_).mono ?_); (repeat (first | exact BD | refine below_step ?_ (by assumption))); rintro e we ⟨rfl, be⟩))
                go_roundw
                case rel => exact ⟨q + 1, by go_num, by omega, by rw [HS.out], by repeat (first | exact HB6.out | refine below_step ?_ (by assumption))⟩
                case measure => simp [intOf]; omega
              · have Q1 := Lib.hid (fun w1 h1 => HL.out w1 h1 q p true hv)
                have HS := Lib.hid (countF_yes up p q hv)
                have hor := HOr.out q hv
                have hat := HF.out q hqn hv
                clear hv
                generalize countF up p q = f at HS hat ⊢
                have hfl : f < LA.length := (List.getElem?_eq_some_iff.1 hat).1
                have hget : LA[f] = q := by
                  rw [List.getElem?_eq_getElem hfl] at hat
                  injection hat
                have D2 := Lib.hid (fun w1 h1 => HD.out w1 h1 q)
                obtain ⟨g, off, rfl, _⟩ := R6.out.iat_ hfl
                have HCell := Lib.hid (fun wx (hx : Below w6.heap.size w6 wx) => show wx.cell? ⟨g, off + f, none⟩ = some (.int .i64 (q : Int)) by
                  obtain ⟨g', off', hA', hc'⟩ := (R6.out.keep_ hx).iat_ hfl
                  injection hA' with hA'
                  injection hA' with q5 q6
                  subst q5 q6
                  rw [hget] at hc'
                  exact hc')
                have e5 : decide ((LA.length : Int) ≤ (f : Int)) = false := by simp; omega
                have i0 : (0 : Int) ≤ (f : Int) := by omega
                have i1 : (f : Int) < (LA.length : Int) := by omega
                have hl64 := HL2.out
                clear hat hget
                go_wp2_with (first | (go_at_call 10; (with_reducible refine (Q1.out _ ?_).mono ?_); (exact BD); rintro e we ⟨rfl, be⟩; have cc := HCell.out we (below_step HB6.out be)) | (go_at_call 12; (with_reducible refine (D2.out _ ?_).mono ?_); (repeat (first | exact BD | refine below_step ?_ (by assumption))); rintro e we ⟨rfl, be⟩) | (go_at_call 12; (with_reducible refine (D1.out _ ?_).mono ?_); (repeat (first | exact BD | refine below_step ?_ (by assumption))); rintro e we ⟨rfl, be⟩))
                go_roundw
                case rel => exact ⟨q + 1, by go_num, by omega, by rw [HS.out]; go_num, by repeat (first | exact HB6.out | refine below_step ?_ (by assumption))⟩
                case measure => simp [intOf]; omega
            · obtain rfl : q = n := by omega
              obtain ⟨w7, hw7⟩ : ∃ w7 : World, w7 = wr := ⟨_, rfl⟩
              subst hw7
              rw [← HLen.out]
              have HBD := Lib.hid BD
              clear BD
              go_wp2
              go_roundw
              case rel => exact ⟨p + 1, by go_num, by omega, HBD.out⟩
              case measure => simp [intOf]; omega
        · obtain rfl : p = n := by omega
          go_wp2
          go_ret
          exact ⟨rfl, HB.out⟩

end Go.Proofs.YtilbjanjmmpkkaaDoor
