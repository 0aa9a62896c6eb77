/- The walk of the law LatticeBytes. -/
import Derived.Test.YtilbjanjmmpkkaaDoorLata
namespace Go.Proofs.YtilbjanjmmpkkaaDoor
open Go.RowKit
set_option linter.unusedVariables false

theorem takeU_small (k : Nat) (l : List UInt8) (e : Int) (hk : k ≤ 255) : (takeU k l e).1.length ≤ 255 := by rw [takeU_len]; exact hk
theorem getR_small (l : List UInt8) : (getR l).1.length ≤ 255 := by
  have h := takeU_small (stN l 0 1).1 (stN l 0 1).2.1 (stN l 0 1).2.2 (stN_one l 0)
  unfold getR
  split
  · simp
  · split
    · exact h
    · simp
theorem same_yes2 {K : List Nat} {A B : Option Addr} {n c n' c' : Nat} {w : World} (h : ArgU w A n c K) (h' : ArgU w B n' c' K) (hk : K.length ≤ 255) : Calls Tryd.prog 20 #[.slice A n c, .slice B n' c'] w (BoolEnd true w) := by
  have := r3Same_any K K A B n c n' c' w h.len h'.len h.reads h'.reads (by have := h.len; omega)
  rw [show decide (K = K) = true by simp] at this
  exact this

set_option maxRecDepth 100000 in
set_option maxHeartbeats 2000000 in
theorem walkLatBytes (A B : Option Addr) (n c m d : Nat) (up : List Nat) (l : List UInt8) (w : World) (ht : Base3 w) (h : ArgU w A n c up) (hb : Arg w B m d l) :
    Calls Tryd.prog 4 #[.slice A n c, .slice B m d] w fun e w' => e = .returned (.bool true) ∧ Below w.heap.size w w' := by
  have HT := Lib.hid ht
  have HA := Lib.hid h
  have HB := Lib.hid hb
  clear ht h hb
  by_cases hg : 12 < n
  · have e1 : decide (12 < (n : Int)) = true := by simp; omega
    go_enter Tryd.func4, Tryd.ntmps4
    go_wp2_with (go_at_call 9; refine (awake03_any _ HT.out).mono ?_; rintro e w0 ⟨rfl, h0⟩; have B0 := Lib.hid h0; clear h0)
    go_ret
    exact ⟨rfl, B0.out⟩
  · have e1 : decide (12 < (n : Int)) = false := by simp; omega
    by_cases hm : 200 < m
    · have e2 : decide (200 < (m : Int)) = true := by simp; omega
      go_enter Tryd.func4, Tryd.ntmps4
      go_wp2_with (go_at_call 9; refine (awake03_any _ HT.out).mono ?_; rintro e w0 ⟨rfl, h0⟩; have B0 := Lib.hid h0; clear h0)
      go_ret
      exact ⟨rfl, B0.out⟩
    · have e2 : decide (200 < (m : Int)) = false := by simp; omega
      have hl : l.length ≤ 200 := by have := HB.out.len; omega
      have HP := Lib.hid (fun w1 (h1 : Below w.heap.size w w1) => laPut_any up A n c w1 (HT.out.below h1) (HA.out.below h1) (by omega))
      have HP' := Lib.hid (fun w1 (h1 : Below w.heap.size w w1) => r3Put_any up A n c w1 (HA.out.below h1) (by omega))
      have HG := Lib.hid (fun w1 (h1 : Below w.heap.size w w1) => laGet_any l B m d w1 (HT.out.below h1) HB.out.len HB.out.room (by omega) (HB.out.below h1).reads)
      have HG' := Lib.hid (fun w1 => r3Get_any l w1 (by omega))
      have HS := Lib.hid (getR_small l)
      generalize getR l = G at HG HG' HS
      generalize putR up = P at HP HP'
      obtain ⟨gl, ge⟩ := G
      obtain ⟨pl, pe⟩ := P
      go_enter Tryd.func4, Tryd.ntmps4
      go_wp2_with (first
        | (go_at_call 9; refine (awake03_any _ HT.out).mono ?_; rintro e w0 ⟨rfl, h0⟩; have B0 := Lib.hid h0; clear h0)
        | (go_at_call 23; refine (HP.out _ B0.out).mono ?_; rintro e w1 ⟨A1, c1, rfl, _, _, r1, h1⟩; have R1 := Lib.hid r1; have B1 := Lib.hid (below_step B0.out h1); clear h1 r1)
        | (go_at_call 24; refine (HP'.out _ B1.out).mono ?_; rintro e w2 ⟨rfl, h1⟩; have R2 := Lib.hid (R1.out.below h1); have B2 := Lib.hid (below_step B1.out h1); clear h1)
        | (go_at_call 25; refine (HG.out _ B2.out).mono ?_; rintro e w3 ⟨A3, n3, c3, rfl, u3, h1⟩; have R3 := Lib.hid (R2.out.below h1); have U3 := Lib.hid u3; have B3 := Lib.hid (below_step B2.out h1); have hv := run_string_of (P := Tryd.prog) w3 31 9 5 Tryd.underlying31 Tryd.underlying5 Tryd.underlying9 (cap := d) HB.out.len (HB.out.below B3.out).reads; clear h1 u3)
        | (go_at_call 26; refine (HG'.out _).mono ?_; rintro e w4 ⟨A4, n4, c4, rfl, u4, h1⟩; have U3' := Lib.hid (U3.out.below h1); have U4 := Lib.hid u4; have hv2 := (R3.out.below h1); have B4 := Lib.hid (below_step B3.out h1); have hv3 := str_row (c := c1) rfl hv2; clear h1 u4 hv2)
        | (go_at_call 20; refine (same_yes2 U3'.out U4.out HS.out).mono ?_; rintro e w5 ⟨rfl, h1⟩; have B5 := Lib.hid (below_step B4.out h1); clear h1))
      go_ret
      exact ⟨rfl, B5.out⟩

end Go.Proofs.YtilbjanjmmpkkaaDoor
