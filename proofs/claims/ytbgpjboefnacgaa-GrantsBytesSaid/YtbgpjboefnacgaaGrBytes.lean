/- The walk of the law GrantsBytes. -/
import Derived.Test.YtbgpjboefnacgaaGra
import Derived.Deep.RegionWith
import Derived.Deep.RegionHeld
import Derived.BigQuiet
namespace Go.Proofs.Ytbgpjboefnacgaa
open Go.RowKit
set_option linter.unusedVariables false

theorem ArgG.drew {w : World} {A : Option Addr} {n c : Nat} {l : List G} (h : ArgG w A n c l) : ArgG w.drew A n c l := ⟨h.len, h.reads.drew, h.old, h.room, h.most⟩
theorem getG4_small (l : List UInt8) : (getG4 l).1.length ≤ 255 := by
  have h := takeG_len (stN l 0 1).1 (stN l 0 1).2.1 (stN l 0 1).2.2
  have h1 := stN_one l 0
  unfold getG4
  split
  · simp
  · split
    · simp
    · simp only; omega
theorem sameG_yes {K : List G} {A B : Option Addr} {n c n' c' : Nat} {w : World} (h : ArgG w A n c K) (h' : ArgG w B n' c' K) (hk : K.length ≤ 255) : Calls Try.prog 24 #[.slice A n c, .slice B n' c'] w (BoolEnd true w) := by
  have := r4Same_any A B n c n' c' K K w h h' (by have := h.len; omega)
  rw [show decide (K = K) = true by simp] at this
  exact this

set_option maxRecDepth 100000 in
set_option maxHeartbeats 2000000 in
theorem walkGrBytes (A B : Option Addr) (n c m d : Nat) (l : List G) (t : List UInt8) (w : World) (ht : Base4 w) (h : ArgG w A n c l) (hb : Arg w B m d t) :
    Calls Try.prog 4 #[.slice A n c, .slice B m d] w fun e w' => e = .returned (.bool true) ∧ Below w.heap.size w w' := by
  have HT := Lib.hid ht
  have HA := Lib.hid h
  have HB := Lib.hid hb
  clear ht h hb
  by_cases hg : 300 < n
  · have e1 : decide (300 < (n : Int)) = true := by simp; omega
    go_enter Try.func4, Try.ntmps4
    go_wp2_with (go_at_call 8; refine (awake04_any _ HT.out).mono ?_; rintro e w0 ⟨rfl, h0⟩; have B0 := Lib.hid h0; clear h0)
    go_ret
    exact ⟨rfl, B0.out⟩
  · have e1 : decide (300 < (n : Int)) = false := by simp; omega
    by_cases hm : 900 < m
    · have e2 : decide (900 < (m : Int)) = true := by simp; omega
      go_enter Try.func4, Try.ntmps4
      go_wp2_with (go_at_call 8; refine (awake04_any _ HT.out).mono ?_; rintro e w0 ⟨rfl, h0⟩; have B0 := Lib.hid h0; clear h0)
      go_ret
      exact ⟨rfl, B0.out⟩
    · have e2 : decide (900 < (m : Int)) = false := by simp; omega
      have hl : t.length ≤ 900 := by have := HB.out.len; omega
      have HP := Lib.hid (fun w1 (h1 : Below w.heap.size w w1) => gPut_any l A n c w1 (HT.out.below h1) (HA.out.below h1) (by omega))
      have HP' := Lib.hid (fun w1 (h1 : Below w.heap.size w w1) => r4Put_any l A n c w1 (HA.out.below h1) (by omega))
      have HG := Lib.hid (fun w1 (h1 : Below w.heap.size w w1) => gGet_any t B m d w1 (HT.out.below h1) HB.out.len HB.out.room (by omega) (HB.out.below h1).reads)
      have HG' := Lib.hid (fun w1 => r4Get_any t w1 (by omega))
      have HS := Lib.hid (getG4_small t)
      generalize getG4 t = G at HG HG' HS
      generalize putG l = P at HP HP'
      obtain ⟨gl, ge⟩ := G
      go_enter Try.func4, Try.ntmps4
      go_wp2_with (first
        | (go_at_call 8; refine (awake04_any _ HT.out).mono ?_; rintro e w0 ⟨rfl, h0⟩; have B0 := Lib.hid h0; clear h0)
        | (go_at_call 20; refine (HG.out _ B0.out).mono ?_; rintro e w1 ⟨A1, n1, c1, rfl, u1, _, h1⟩; have U1 := Lib.hid u1; have B1 := Lib.hid (below_step B0.out h1); have hv := run_string_of (P := Try.prog) w1 35 9 5 Try.underlying35 Try.underlying5 Try.underlying9 (cap := d) HB.out.len (HB.out.below B1.out).reads; clear h1 u1)
        | (go_at_call 21; refine (HG'.out _).mono ?_; rintro e w2 ⟨A2, n2, c2, rfl, u2, h1⟩; have U1' := Lib.hid (U1.out.below h1); have U2 := Lib.hid u2; have B2 := Lib.hid (below_step B1.out h1); clear h1 u2))
      have B2D := B2.out.drew
      have U1D := U1'.out.drew
      have U2D := U2.out.drew
      go_region_held (fun w' => True) (first | trivial) (first
        | (go_at_call 22; refine (HP.out _ B2D).mono ?_; rintro e w3 ⟨A3, c3, rfl, _, _, o3, h1⟩; have r3 := Row.of_own o3; clear o3; have B3 := Lib.hid (below_step B2D h1); have V1 := Lib.hid (U1D.below h1); have V2 := Lib.hid (U2D.below h1); have R3 := Lib.hid r3; have hv3 := str_row (c := c3) rfl r3; clear h1 r3)
        | (go_at_call 23; refine (HP'.out _ B3.out).mono ?_; rintro e w4 ⟨rfl, h1⟩; have B4 := Lib.hid (below_step B3.out h1); have X1 := Lib.hid (V1.out.below h1); have X2 := Lib.hid (V2.out.below h1); have hv4 := str_row (c := c3) rfl (R3.out.below h1); clear h1)
        | (go_at_call 24; refine (sameG_yes X1.out X2.out HS.out).mono ?_; rintro e w5 ⟨rfl, h1⟩; have B5 := Lib.hid (below_step B4.out h1); clear h1))
      all_goals
        go_wp2
        go_ret
        exact ⟨rfl, B5.out⟩

end Go.Proofs.Ytbgpjboefnacgaa
