/- The walk of the law LatticeTells. -/
import Derived.Test.YtilbjanjmmpkkaaDoorLata
import Derived.Test.YtilbjanjmmpkkaaDoorLatc
import Derived.Deep.RegionWith
import Derived.Deep.RegionHeld
import Derived.BigQuiet
namespace Go.Proofs.YtilbjanjmmpkkaaDoor
open Go.RowKit
set_option linter.unusedVariables false

theorem r3Close_all (up : List Nat) (A : Option Addr) (n c : Nat) (w : World) (h : ArgU w A n c up) (hn : n ≤ 1000000) :
    Calls Tryd.prog 22 #[.slice A n c] w (NumsEnd (closeN up) w) := by
  by_cases h64 : 64 < n
  · have e0 : decide (64 < (n : Int)) = true := by simp; omega
    rw [closeN_many up (by have := h.len; omega)]
    clear h
    go_enter Tryd.func22, Tryd.ntmps22
    go_wp2
    go_ret
    exact ⟨_, _, _, rfl, argU_nil _, Below.refl _ _⟩
  · exact (r3Close_any up A n c w h (by omega)).mono fun e w' ⟨A', c', he, h1, h2⟩ => ⟨A', n, c', he, h1, h2⟩
theorem closeN_small (up : List Nat) : (closeN up).length ≤ 64 := by
  by_cases h : 64 < up.length
  · rw [closeN_many up h]; simp
  · rw [closeN_len up (by omega)]; omega
theorem same_yes {K : List Nat} {A B : Option Addr} {n c n' c' : Nat} {w : World} (h : ArgU w A n c K) (h' : ArgU w B n' c' K) (hk : K.length ≤ 64) : Calls Tryd.prog 20 #[.slice A n c, .slice B n' c'] w (BoolEnd true w) := by
  have := r3Same_any K K A B n c n' c' w h.len h'.len h.reads h'.reads (by have := h.len; omega)
  rw [show decide (K = K) = true by simp] at this
  exact this

set_option maxRecDepth 100000 in
set_option maxHeartbeats 2000000 in
theorem walkLatTells (A : Option Addr) (n c : Nat) (a b : Int) (up : List Nat) (w : World) (ht : Base3 w) (h : ArgU w A n c up) :
    Calls Tryd.prog 3 #[.slice A n c, .int .i64 a, .int .i64 b] w fun e w' => e = .returned (.bool true) ∧ Below w.heap.size w w' := by
  have HT := Lib.hid ht
  have HA := Lib.hid h
  clear ht h
  by_cases hg : 70 < n
  · have e1 : decide (70 < (n : Int)) = true := by simp; omega
    go_enter Tryd.func3, Tryd.ntmps3
    go_wp2_with (go_at_call 9; refine (awake03_any _ HT.out).mono ?_; rintro e w0 ⟨rfl, h0⟩; have B0 := Lib.hid h0; clear h0)
    go_ret
    exact ⟨rfl, B0.out⟩
  · have e1 : decide (70 < (n : Int)) = false := by simp; omega
    have HL := Lib.hid (fun w1 (h1 : Below w.heap.size w w1) => laLeq_any up A n c a b w1 (HT.out.below h1) (HA.out.below h1) (by omega))
    have HL' := Lib.hid (fun w1 (h1 : Below w.heap.size w w1) => r3Leq_any up A n c a b w1 (HA.out.below h1) (by omega))
    have HD := Lib.hid (fun w1 (h1 : Below w.heap.size w w1) => laDown_any up A n c a w1 (HT.out.below h1) (HA.out.below h1) (by omega))
    have HD' := Lib.hid (fun w1 (h1 : Below w.heap.size w w1) => r3Down_any up A n c a w1 (HA.out.below h1) (by omega))
    have HJ := Lib.hid (fun w1 (h1 : Below w.heap.size w w1) => laJoin_any up A n c a b w1 (HT.out.below h1) (HA.out.below h1) (by omega))
    have HJ' := Lib.hid (fun w1 (h1 : Below w.heap.size w w1) => r3Join_any up A n c a b w1 (HA.out.below h1) (by omega))
    have HM := Lib.hid (fun w1 (h1 : Below w.heap.size w w1) => laMeet_any up A n c a b w1 (HT.out.below h1) (HA.out.below h1) (by omega))
    have HM' := Lib.hid (fun w1 (h1 : Below w.heap.size w w1) => r3Meet_any up A n c a b w1 (HA.out.below h1) (by omega))
    have HC := Lib.hid (fun w1 (h1 : Below w.heap.size w w1) => laCheck_any up A n c w1 (HT.out.below h1) (HA.out.below h1) (by omega))
    have HC' := Lib.hid (fun w1 (h1 : Below w.heap.size w w1) => r3Check_any up A n c w1 (HA.out.below h1) (by omega))
    have HK := Lib.hid (fun w1 (h1 : Below w.heap.size w w1) => laClose_any up A n c w1 (HT.out.below h1) (HA.out.below h1) (by omega))
    have HK' := Lib.hid (fun w1 (h1 : Below w.heap.size w w1) => r3Close_all up A n c w1 (HA.out.below h1) (by omega))
    generalize leqZ up a b = vl at HL HL'
    generalize downN up a = vd at HD HD'
    generalize joinN up a b = vj at HJ HJ'
    generalize meetN up a b = vm at HM HM'
    generalize checkB up = vc at HC HC'
    have HS := Lib.hid (closeN_small up)
    generalize closeN up = K at HK HK' HS
    by_cases hsm : 12 < n ∧ n ≤ 64
    · have e2 : decide (12 < (n : Int)) = true := by simp; omega
      have e3 : decide ((n : Int) ≤ 64) = true := by simp; omega
      go_enter Tryd.func3, Tryd.ntmps3
      go_wp2_with (first
        | (go_at_call 9; refine (awake03_any _ HT.out).mono ?_; rintro e w0 ⟨rfl, h0⟩; have B0 := Lib.hid h0; clear h0)
        | (go_at_call 10; refine (HL.out _ B0.out).mono ?_; rintro e w1 ⟨rfl, h1⟩; have B1 := Lib.hid (below_step B0.out h1); clear h1)
        | (go_at_call 11; refine (HL'.out _ B1.out).mono ?_; rintro e w' ⟨rfl, rfl⟩)
        | (go_at_call 12; refine (HD.out _ B1.out).mono ?_; rintro e w2 ⟨rfl, h1⟩; have B2 := Lib.hid (below_step B1.out h1); clear h1)
        | (go_at_call 13; refine (HD'.out _ B2.out).mono ?_; rintro e w' ⟨rfl, rfl⟩)
        | (go_at_call 14; refine (HJ.out _ B2.out).mono ?_; rintro e w3 ⟨rfl, h1⟩; have B3 := Lib.hid (below_step B2.out h1); clear h1)
        | (go_at_call 15; refine (HJ'.out _ B3.out).mono ?_; rintro e w' ⟨rfl, rfl⟩)
        | (go_at_call 16; refine (HM.out _ B3.out).mono ?_; rintro e w4 ⟨rfl, h1⟩; have B4 := Lib.hid (below_step B3.out h1); clear h1)
        | (go_at_call 17; refine (HM'.out _ B4.out).mono ?_; rintro e w5 ⟨rfl, h1⟩; have B5 := Lib.hid (below_step B4.out h1); clear h1))
      go_ret
      exact ⟨rfl, B5.out⟩
    · have hcase : decide (12 < (n : Int)) = false ∨ (decide (12 < (n : Int)) = true ∧ decide ((n : Int) ≤ 64) = false) := by
        by_cases h : 12 < n
        · right; constructor <;> simp <;> omega
        · left; simp; omega
      clear hsm
      rcases hcase with e2 | ⟨e2, e3⟩
      all_goals
        go_enter Tryd.func3, Tryd.ntmps3
        go_wp2_with (first
          | (go_at_call 9; refine (awake03_any _ HT.out).mono ?_; rintro e w0 ⟨rfl, h0⟩; have B0 := Lib.hid h0; clear h0)
          | (go_at_call 10; refine (HL.out _ B0.out).mono ?_; rintro e w1 ⟨rfl, h1⟩; have B1 := Lib.hid (below_step B0.out h1); clear h1)
          | (go_at_call 11; refine (HL'.out _ B1.out).mono ?_; rintro e w' ⟨rfl, rfl⟩)
          | (go_at_call 12; refine (HD.out _ B1.out).mono ?_; rintro e w2 ⟨rfl, h1⟩; have B2 := Lib.hid (below_step B1.out h1); clear h1)
          | (go_at_call 13; refine (HD'.out _ B2.out).mono ?_; rintro e w' ⟨rfl, rfl⟩)
          | (go_at_call 14; refine (HJ.out _ B2.out).mono ?_; rintro e w3 ⟨rfl, h1⟩; have B3 := Lib.hid (below_step B2.out h1); clear h1)
          | (go_at_call 15; refine (HJ'.out _ B3.out).mono ?_; rintro e w' ⟨rfl, rfl⟩)
          | (go_at_call 16; refine (HM.out _ B3.out).mono ?_; rintro e w4 ⟨rfl, h1⟩; have B4 := Lib.hid (below_step B3.out h1); clear h1)
          | (go_at_call 17; refine (HM'.out _ B4.out).mono ?_; rintro e w5 ⟨rfl, h1⟩; have B5 := Lib.hid (below_step B4.out h1); clear h1)
          | (go_at_call 18; refine (HC.out _ B5.out).mono ?_; rintro e w6 ⟨rfl, h1⟩; have B6 := Lib.hid (below_step B5.out h1); clear h1)
          | (go_at_call 19; refine (HC'.out _ B6.out).mono ?_; rintro e w7 ⟨rfl, h1⟩; have B7 := Lib.hid (below_step B6.out h1); clear h1)
          | (go_at_call 21; refine (HK.out _ B7.out).mono ?_; rintro e w8 ⟨A8, n8, c8, rfl, h8, h1⟩; have U8 := Lib.hid h8; have B8 := Lib.hid (below_step B7.out h1); have N8 := Lib.hid h8.len; clear h1 h8)
          | (go_at_call 22; refine (HK'.out _ B8.out).mono ?_; rintro e w9 ⟨A9, n9, c9, rfl, h9, h1⟩; have U9 := Lib.hid h9; have V8 := Lib.hid (U8.out.below h1); have B9 := Lib.hid (below_step B8.out h1); have N9 := Lib.hid h9.len; clear h1 h9)
          | (go_at_call 20; refine (same_yes V8.out U9.out HS.out).mono ?_; rintro e w10 ⟨rfl, h1⟩; have B10 := Lib.hid (below_step B9.out h1); clear h1))
        go_ret
        exact ⟨rfl, B10.out⟩

end Go.Proofs.YtilbjanjmmpkkaaDoor
