/- Layer 14: CutTells, whatever comes in. -/
import Derived.Test.YtnidommmnmpdlaaCtw
namespace Go.Proofs.Ytnidommmnmpdlaa
open Go.RowKit
set_option linter.unusedVariables false

set_option maxRecDepth 100000 in
set_option maxHeartbeats 4000000 in
theorem walkCutTells (l : List Int) (A : Option Addr) (n c : Nat) (many k : Int) (W : World) (h : RowZ W A n c l) :
    Calls Try.prog 3 #[.slice A n c, .int .i64 many, .int .i64 k] W fun e W' => e = .returned (.bool true) ∧ Below W.heap.size W W' := by
  have HAW := Lib.hid (awake14_any W)
  have HSZ := Lib.hid (fun w1 (b1 : Below W.heap.size W w1) => sizes14_any l A n c w1 (h.below b1))
  cases hf : fewZ l with
  | false =>
    rw [hf] at HSZ
    clear h
    go_enter Try.func3, Try.ntmps3
    go_wp2_with (first
      | (go_at_call 7; (with_reducible refine HAW.out.mono ?_); rintro e w1 ⟨rfl, b1⟩; have B1 := Lib.hid b1; clear b1)
      | (go_at_call 8; (with_reducible refine (HSZ.out _ B1.out).mono ?_); rintro e w2 ⟨rfl, rfl⟩))
    go_ret
    exact ⟨rfl, B1.out⟩
  | true =>
    rw [hf] at HSZ
    by_cases c1 : many < 0 ∨ 1000 < many ∨ k < 0 ∨ 1000 < k
    · clear h
      by_cases d1 : many < 0
      · go_enter Try.func3, Try.ntmps3
        go_wp2_with (first
          | (go_at_call 7; (with_reducible refine HAW.out.mono ?_); rintro e w1 ⟨rfl, b1⟩; have B1 := Lib.hid b1; clear b1)
          | (go_at_call 8; (with_reducible refine (HSZ.out _ B1.out).mono ?_); rintro e w2 ⟨rfl, rfl⟩))
        go_ret
        exact ⟨rfl, B1.out⟩
      by_cases d2 : 1000 < many
      · go_enter Try.func3, Try.ntmps3
        go_wp2_with (first
          | (go_at_call 7; (with_reducible refine HAW.out.mono ?_); rintro e w1 ⟨rfl, b1⟩; have B1 := Lib.hid b1; clear b1)
          | (go_at_call 8; (with_reducible refine (HSZ.out _ B1.out).mono ?_); rintro e w2 ⟨rfl, rfl⟩))
        go_ret
        exact ⟨rfl, B1.out⟩
      by_cases d3 : k < 0
      · go_enter Try.func3, Try.ntmps3
        go_wp2_with (first
          | (go_at_call 7; (with_reducible refine HAW.out.mono ?_); rintro e w1 ⟨rfl, b1⟩; have B1 := Lib.hid b1; clear b1)
          | (go_at_call 8; (with_reducible refine (HSZ.out _ B1.out).mono ?_); rintro e w2 ⟨rfl, rfl⟩))
        go_ret
        exact ⟨rfl, B1.out⟩
      have d4 : 1000 < k := by omega
      go_enter Try.func3, Try.ntmps3
      go_wp2_with (first
        | (go_at_call 7; (with_reducible refine HAW.out.mono ?_); rintro e w1 ⟨rfl, b1⟩; have B1 := Lib.hid b1; clear b1)
        | (go_at_call 8; (with_reducible refine (HSZ.out _ B1.out).mono ?_); rintro e w2 ⟨rfl, rfl⟩))
      go_ret
      exact ⟨rfl, B1.out⟩
    have m1 : ¬ many < 0 := by omega
    have m2 : ¬ 1000 < many := by omega
    have k1 : ¬ k < 0 := by omega
    have k2 : ¬ 1000 < k := by omega
    have hs := fewZ_siz hf
    have HCS := Lib.hid (fun w1 (b1 : Below W.heap.size W w1) => cuSum_any l A n c w1 (h.below b1) hs)
    have HCA := Lib.hid (fun w1 (b1 : Below W.heap.size W w1) => cuAt_any l A n c w1 (h.below b1) hs)
    have HCL := Lib.hid (fun w1 (b1 : Below W.heap.size W w1) => cuLow_any l A n c w1 (h.below b1) hs)
    have HCN := Lib.hid (fun w1 => cuNeigh_any many k w1 (by omega) (by omega))
    have HRS := Lib.hid (fun w1 (b1 : Below W.heap.size W w1) => r14Sum_any l A n c w1 (h.below b1) hs)
    have HRA := Lib.hid (fun w1 (b1 : Below W.heap.size W w1) => r14At_any l A n c w1 (h.below b1) hs)
    have HRL := Lib.hid (fun w1 (b1 : Below W.heap.size W w1) => r14Low_any l A n c w1 (h.below b1) hs)
    have HRN := Lib.hid (fun w1 => r14Neigh_any many k w1 (by omega) (by omega))
    obtain ⟨s, hs1⟩ : ∃ x, sumZ l = x := ⟨_, rfl⟩
    obtain ⟨a, ha1⟩ : ∃ x, atZ l = x := ⟨_, rfl⟩
    obtain ⟨t, ht1⟩ : ∃ x, (if k + 1 < many then k + 1 else k - 1) = x := ⟨_, rfl⟩
    obtain ⟨b, hb1⟩ : ∃ x, decide (s < 30) = x := ⟨_, rfl⟩
    rw [hs1] at HCS HRS HCL HRL
    rw [ha1] at HCA HRA
    rw [ht1] at HCN HRN
    rw [hb1] at HCL HRL
    clear h hs hs1 ha1 ht1 hb1 c1
    go_enter Try.func3, Try.ntmps3
    go_wp2_with (first
      | (go_at_call 7; (with_reducible refine HAW.out.mono ?_); rintro e w1 ⟨rfl, b1⟩; have B1 := Lib.hid b1; clear b1)
      | (go_at_call 8; (with_reducible refine (HSZ.out _ B1.out).mono ?_); rintro e w2 ⟨rfl, rfl⟩)
      | (go_at_call 9; (with_reducible refine (HCS.out _ B1.out).mono ?_); rintro e w3 ⟨rfl, b3⟩; have B3 := Lib.hid (below_step B1.out b3); clear b3)
      | (go_at_call 10; (with_reducible refine (HRS.out _ B3.out).mono ?_); rintro e w4 ⟨rfl, rfl⟩)
      | (go_at_call 11; (with_reducible refine (HCA.out _ B3.out).mono ?_); rintro e w5 ⟨rfl, b5⟩; have B5 := Lib.hid (below_step B3.out b5); clear b5)
      | (go_at_call 12; (with_reducible refine (HRA.out _ B5.out).mono ?_); rintro e w6 ⟨rfl, rfl⟩)
      | (go_at_call 13; (with_reducible refine (HCL.out _ B5.out).mono ?_); rintro e w7 ⟨rfl, b7⟩; have B7 := Lib.hid (below_step B5.out b7); clear b7)
      | (go_at_call 14; (with_reducible refine (HRL.out _ B7.out).mono ?_); rintro e w8 ⟨rfl, rfl⟩)
      | (go_at_call 15; (with_reducible refine (HCN.out _).mono ?_); rintro e w9 ⟨rfl, b9⟩; have B9 := Lib.hid (below_step B7.out b9); clear b9)
      | (go_at_call 16; (with_reducible refine (HRN.out _).mono ?_); rintro e w10 ⟨rfl, rfl⟩))
    go_ret
    exact ⟨by simp, B9.out⟩
end Go.Proofs.Ytnidommmnmpdlaa
