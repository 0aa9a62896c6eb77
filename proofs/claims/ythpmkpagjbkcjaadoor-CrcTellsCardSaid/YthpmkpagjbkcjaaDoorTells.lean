/- The walk of the law CrcTells. -/
import Derived.Test.YthpmkpagjbkcjaaDoorCrca
import Derived.Deep.RegionWith
import Derived.Deep.RegionHeld
import Derived.BigQuiet
namespace Go.Proofs.YthpmkpagjbkcjaaDoor
open Go.RowKit
set_option linter.unusedVariables false

theorem Row.string_ {w : World} {lo n c : Nat} {A : Option Addr} {l : List UInt8} (h : Row w 5 lo A (l.map byteV)) (hn : n = l.length) : (convert 22 9 (.slice A n c)).run Tryd.prog w = .ok (.string ⟨l.toArray⟩) w := str_row hn h

set_option maxRecDepth 100000 in
set_option maxHeartbeats 8000000 in
theorem walkTells (A : Option Addr) (n c sum : Nat) (l : List UInt8) (w : World) (htab : Tab w) (hb : Arg w A n c l) (hsum : sum < 4294967296) :
    Calls Tryd.prog 3 #[.slice A n c, .int .u32 sum] w fun e w' => e = .returned (.bool true) ∧ Below w.heap.size w w' := by
  have HTB := Lib.hid htab
  by_cases hg : n ≤ 2000
  · have HA := Lib.hid hb
    have hn : l.length ≤ 1000000 := by rw [← hb.len]; omega
    have hs : (⟨l.toArray⟩ : ByteArray).size ≤ 1000000 := by rw [size_list]; exact hn
    have HO := Lib.hid (fun w1 (h1 : Below w.heap.size w w1) => cOf_any A n c l w1 (htab.below h1) hb.len hn (hb.below h1).reads)
    have HN := Lib.hid (fun w1 (h1 : Below w.heap.size w w1) => cOn_any sum A n c l w1 (htab.below h1) hsum hb.len hn (hb.below h1).reads)
    have HT := Lib.hid (fun w1 (h1 : Below w.heap.size w w1) => cTag_any A n c l w1 (htab.below h1) hb.len (by rw [← hb.len]; omega) (hb.below h1).reads hb.none_)
    have HR := Lib.hid (fun w1 => r2Of_any ⟨l.toArray⟩ w1 hs)
    have HS := Lib.hid (fun w1 => r2On_any sum ⟨l.toArray⟩ w1 hsum hs)
    have HU := Lib.hid (fun w1 => r2Tag_any ⟨l.toArray⟩ w1 hs)
    have e1 : decide (2000 < (n : Int)) = false := by simp; omega
    clear hb
    by_cases ht : isTag l
    · have HP := Lib.hid (fun w1 (h1 : Below w.heap.size w w1) => cOpen_any A n c l w1 (htab.below h1) HA.out.len HA.out.room hn (HA.out.below h1).reads)
      have HQ := Lib.hid (fun w1 => r2Open_yes ⟨l.toArray⟩ w1 hs ht)
      have HI := Lib.hid ht
      clear ht htab
      go_enter Tryd.func3, Tryd.ntmps3
      go_wp2_with (first
        | (go_at_call 8; refine (awake02_any _ HTB.out).mono ?_; rintro e w0 ⟨rfl, h0⟩; have B0 := Lib.hid h0; have hv := run_string_of (P := Tryd.prog) w0 22 9 5 Tryd.underlying22 Tryd.underlying5 Tryd.underlying9 (cap := c) HA.out.len (HA.out.below h0).reads; clear h0)
        | (go_at_call 9; refine (HP.out _ B0.out).mono ?_; rintro e w1 hh; rcases hh with ⟨_, A1, c1, rfl, h1, h2⟩ | ⟨hno, _⟩; rotate_left; (exact absurd HI.out hno); have R1 := Lib.hid h1; have B1 := Lib.hid (below_step B0.out h2); clear h1 h2)
        | (go_at_call 10; refine (HQ.out _).mono ?_; rintro e w2 ⟨rfl, h2⟩; have hv2 := (R1.out.below h2).string_ (n := (l.drop 4).length) (c := c1) rfl; have R2 := Lib.hid (R1.out.below h2); have B2 := Lib.hid (below_step B1.out h2); clear h2))
      have BD := B2.out.drew
      have RD := R2.out.drew
      have HL : l.length - 4 = (l.drop 4).length := by simp
      have HLH := Lib.hid HL
      clear HL
      have hP := RD.string_ (n := l.length - 4) (c := c1) HLH.out
      go_region_held (fun w' => (convert 22 9 (.slice A1 (l.length - 4) c1)).run Tryd.prog w' = .ok (.string ⟨(l.drop 4).toArray⟩) w') (first | exact hP | assumption) (first
        | (go_at_call 11; refine (HO.out _ ?_).mono ?_; (repeat (first | exact BD | refine below_step ?_ (by assumption))); rintro e w3 ⟨rfl, b3⟩; have hP := (Row.below (w' := w3) RD (by repeat (first | exact Below.refl _ _ | refine below_step ?_ (by assumption)))).string_ (n := l.length - 4) (c := c1) HLH.out)
        | (go_at_call 12; refine (HR.out _).mono ?_; rintro e w4 ⟨rfl, rfl⟩)
        | (go_at_call 13; refine (HN.out _ ?_).mono ?_; (repeat (first | exact BD | refine below_step ?_ (by assumption))); rintro e w5 ⟨rfl, b5⟩; have hP := (Row.below (w' := w5) RD (by repeat (first | exact Below.refl _ _ | refine below_step ?_ (by assumption)))).string_ (n := l.length - 4) (c := c1) HLH.out)
        | (go_at_call 14; refine (HS.out _).mono ?_; rintro e w6 ⟨rfl, rfl⟩)
        | (go_at_call 15; refine (HT.out _ ?_).mono ?_; (repeat (first | exact BD | refine below_step ?_ (by assumption))); rintro e w7 ⟨A7, c7, rfl, _, _, h7, b7⟩; have hvT := h7.string_ (c := c7) rfl; have hP := (Row.below (w' := w7) RD (by repeat (first | exact Below.refl _ _ | refine below_step ?_ (by assumption)))).string_ (n := l.length - 4) (c := c1) HLH.out)
        | (go_at_call 16; refine (HU.out _).mono ?_; rintro e w8 ⟨rfl, b8⟩; try (have hvT2 := (h7.below b8).string_ (c := c7) rfl); have hP := (Row.below (w' := w8) RD (by repeat (first | exact Below.refl _ _ | refine below_step ?_ (by assumption)))).string_ (n := l.length - 4) (c := c1) HLH.out))
      all_goals
        go_wp2
        go_ret
        exact ⟨rfl, by repeat (first | exact BD | refine below_step ?_ (by assumption))⟩
    · have HP := Lib.hid (fun w1 (h1 : Below w.heap.size w w1) => open_no l w1 A n c (htab.below h1) HA.out.len HA.out.room hn ht (HA.out.below h1).reads)
      have HQ := Lib.hid (fun w1 => r2Open_no ⟨l.toArray⟩ w1 hs ht)
      have HI := Lib.hid ht
      clear ht htab
      have hnil := fun (W : World) => str_row (w := W) (lo := 0) (n := 0) (c := 0) (A := none) (l := []) rfl Row.empty
      go_enter Tryd.func3, Tryd.ntmps3
      go_wp2_with (first
        | (go_at_call 8; refine (awake02_any _ HTB.out).mono ?_; rintro e w0 ⟨rfl, h0⟩; have B0 := Lib.hid h0; have hv := run_string_of (P := Tryd.prog) w0 22 9 5 Tryd.underlying22 Tryd.underlying5 Tryd.underlying9 (cap := c) HA.out.len (HA.out.below h0).reads; clear h0)
        | (go_at_call 9; refine (HP.out _ B0.out).mono ?_; rintro e w1 ⟨rfl, h2⟩; have B1 := Lib.hid (below_step B0.out h2); clear h2)
        | (go_at_call 10; refine (HQ.out _).mono ?_; rintro e w2 ⟨rfl, h2⟩; have B2 := Lib.hid (below_step B1.out h2); clear h2))
      have BD := B2.out.drew
      go_region_held (fun w' => (convert 22 9 (.slice none 0 0)).run Tryd.prog w' = .ok (.string ⟨[].toArray⟩) w') (first | exact hnil _ | assumption) (first
        | (go_at_call 11; refine (HO.out _ ?_).mono ?_; (repeat (first | exact BD | refine below_step ?_ (by assumption))); rintro e w3 ⟨rfl, b3⟩)
        | (go_at_call 12; refine (HR.out _).mono ?_; rintro e w4 ⟨rfl, rfl⟩)
        | (go_at_call 13; refine (HN.out _ ?_).mono ?_; (repeat (first | exact BD | refine below_step ?_ (by assumption))); rintro e w5 ⟨rfl, b5⟩)
        | (go_at_call 14; refine (HS.out _).mono ?_; rintro e w6 ⟨rfl, rfl⟩)
        | (go_at_call 15; refine (HT.out _ ?_).mono ?_; (repeat (first | exact BD | refine below_step ?_ (by assumption))); rintro e w7 ⟨A7, c7, rfl, _, _, h7, b7⟩; have hvT := h7.string_ (c := c7) rfl)
        | (go_at_call 16; refine (HU.out _).mono ?_; rintro e w8 ⟨rfl, b8⟩; try (have hvT2 := (h7.below b8).string_ (c := c7) rfl)))
      all_goals
        go_wp2
        go_ret
        exact ⟨rfl, by repeat (first | exact BD | refine below_step ?_ (by assumption))⟩
  · have e1 : decide (2000 < (n : Int)) = true := by simp; omega
    clear hb htab
    go_enter Tryd.func3, Tryd.ntmps3
    go_wp2_with (go_at_call 8; refine (awake02_any _ HTB.out).mono ?_; rintro e w0 ⟨rfl, h0⟩; have B0 := Lib.hid h0; clear h0)
    go_ret
    exact ⟨rfl, B0.out⟩

end Go.Proofs.YthpmkpagjbkcjaaDoor
