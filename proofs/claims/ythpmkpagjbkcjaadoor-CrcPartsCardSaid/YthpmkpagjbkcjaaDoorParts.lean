/- The walk of the law CrcParts. -/
import Derived.Test.YthpmkpagjbkcjaaDoorCrca
import Derived.Deep.RegionWith
import Derived.Deep.RegionHeld3
import Derived.BigQuiet
namespace Go.Proofs.YthpmkpagjbkcjaaDoor
open Go.RowKit
set_option linter.unusedVariables false

theorem Reads.drop_ {w : World} {A : Option Addr} {xs : List Value} {k c : Nat} (h : Reads w A xs) (hc : xs.length ≤ c) : Reads w (if c = k then A else A.map (·.add k)) (xs.drop k) := fun hx => by
  simp at hx
  obtain ⟨g, off, hA, hcell⟩ := h (by omega)
  rw [if_neg (by omega), hA]
  refine ⟨g, off + k, by simp [add_plain], fun j u hj => ?_⟩
  rw [Nat.add_assoc]
  exact hcell _ u (by rw [← hj, List.getElem?_drop])

set_option maxRecDepth 100000 in
set_option maxHeartbeats 8000000 in
theorem walkParts (A : Option Addr) (n c at_ : Nat) (l : List UInt8) (w : World) (htab : Tab w) (hb : Arg w A n c l) (ha : at_ < 65536) :
    Calls Tryd.prog 4 #[.slice A n c, .int .u16 at_] w fun e w' => e = .returned (.bool true) ∧ Below w.heap.size w w' := by
  have HTB := Lib.hid htab
  clear htab
  by_cases hg : n ≤ 2000
  · have HA := Lib.hid hb
    have hn2 : l.length ≤ 2000 := by rw [← hb.len]; exact hg
    have hn : l.length ≤ 1000000 := by omega
    have e1 : decide (2000 < (n : Int)) = false := by simp; omega
    have HT := Lib.hid (fun w1 (h1 : Below w.heap.size w w1) => cTag_any A n c l w1 (HTB.out.below h1) hb.len (by rw [← hb.len]; omega) (hb.below h1).reads hb.none_)
    clear hb
    go_enter Tryd.func4, Tryd.ntmps4
    go_wp2_with (first
      | (go_at_call 8; refine (awake02_any _ HTB.out).mono ?_; rintro e w0 ⟨rfl, h0⟩; have B0 := Lib.hid h0; clear h0)
      | (go_at_call 15; refine (HT.out _ B0.out).mono ?_; rintro e w1 ⟨A1, c1, rfl, g1, _, h1, h2⟩; have R1 := Lib.hid h1; have B1 := Lib.hid (below_step B0.out h2); clear h1 h2)
      | (go_at_call 9; refine (open_tag l w1 A1 c1 _ (HTB.out.below B1.out) g1 (by omega) R1.out).mono ?_; rintro e w2 ⟨A2, c2, rfl, h1, h2⟩; have R2 := Lib.hid h1; have B2 := Lib.hid (below_step B1.out h2); clear h1 h2))
    obtain ⟨k, hkk, hkn⟩ : ∃ k : Nat, (at_ : Int) % ((n : Int) + 1) = (k : Int) ∧ k ≤ n := ⟨at_ % (n + 1), by simp, by have := Nat.mod_lt at_ (show 0 < n + 1 by omega); omega⟩
    rw [hkk]
    clear hkk
    have hnc : n ≤ c := HA.out.room
    have hcm := HA.out.most
    unfold maxLen at hcm
    have BD := B2.out.drew
    have RD := R2.out.drew
    have hlt : (l.take k).length = k := by rw [List.length_take, ← HA.out.len]; omega
    have HOa := Lib.hid (fun w1 (h1 : Below w.heap.size w w1) => cOf_any A n c l w1 (HTB.out.below h1) HA.out.len hn (HA.out.below h1).reads)
    have HOk := Lib.hid (fun w1 (h1 : Below w.heap.size w w1) => cOf_any A k c (l.take k) w1 (HTB.out.below h1) hlt.symm (by rw [hlt]; omega) (by rw [List.map_take]; exact (HA.out.below h1).reads.take k))
    have HO0 := Lib.hid (fun w1 (h1 : Below w.heap.size w w1) => cOf_any none 0 0 [] w1 (HTB.out.below h1) rfl (by simp) Reads.empty)
    rw [show ofN [] = 0 by decide +kernel] at HO0
    have hon : onN (ofN (l.take k)) (l.drop k) = ofN l := by unfold ofN; rw [onN_append, List.take_append_drop]
    have HNk := Lib.hid (fun w1 (h1 : Below w.heap.size w w1) => cOn_any (ofN (l.take k)) (if c = k then A else A.map (·.add k)) (n - k) (c - k) (l.drop k) w1 (HTB.out.below h1) (onN_lt 0 _) (by rw [List.length_drop, ← HA.out.len]) (by rw [List.length_drop]; omega) (by
      have h := (HA.out.below h1).reads.drop_ (k := k) (c := c) (by rw [List.length_map, ← HA.out.len]; exact hnc)
      rw [List.map_drop]
      exact h))
    rw [hon] at HNk
    clear hlt hon
    have i0 : (0 : Int) ≤ (k : Int) := by omega
    have i1 : (k : Int) ≤ (c : Int) := by omega
    have i2 : (k : Int) ≤ (n : Int) := by omega
    by_cases hck : c = k
    · rw [if_pos hck] at HNk
      obtain rfl : k = n := by omega
      obtain rfl : c = k := hck
      have htl : l.take c = l := List.take_of_length_le (by rw [← HA.out.len]; exact Nat.le_refl _)
      rw [htl] at HOk HNk
      rw [Nat.sub_self] at HNk
      clear htl
      have hP := str_row (n := l.length) (c := c2) rfl (Row.below (w' := w2.drew) RD (by repeat (first | exact Below.refl _ _ | refine below_step ?_ (by assumption))))
      have hQ := run_string_of (P := Tryd.prog) w2.drew 22 9 5 Tryd.underlying22 Tryd.underlying5 Tryd.underlying9 (cap := c) HA.out.len (HA.out.below (w' := w2.drew) (by repeat (first | exact BD | refine below_step ?_ (by assumption)))).reads
      go_region_held3 (fun w' => (convert 22 9 (.slice A2 l.length c2)).run Tryd.prog w' = .ok (.string ⟨l.toArray⟩) w' ∧ (convert 22 9 (.slice A c c)).run Tryd.prog w' = .ok (.string ⟨l.toArray⟩) w') (first | exact ⟨hP, hQ⟩) (first
        | (go_at_call 11; (with_reducible refine (HOa.out _ ?_).mono ?_); (repeat (first | exact BD | refine below_step ?_ (by assumption))); rintro e w3 ⟨rfl, b3⟩; have hP := str_row (n := l.length) (c := c2) rfl (Row.below (w' := w3) RD (by repeat (first | exact Below.refl _ _ | refine below_step ?_ (by assumption)))); have hQ := run_string_of (P := Tryd.prog) w3 22 9 5 Tryd.underlying22 Tryd.underlying5 Tryd.underlying9 (cap := c) HA.out.len (HA.out.below (w' := w3) (by repeat (first | exact BD | refine below_step ?_ (by assumption)))).reads)
        | (go_at_call 11; (with_reducible refine (HOk.out _ ?_).mono ?_); (repeat (first | exact BD | refine below_step ?_ (by assumption))); rintro e w4 ⟨rfl, b4⟩; have hP := str_row (n := l.length) (c := c2) rfl (Row.below (w' := w4) RD (by repeat (first | exact Below.refl _ _ | refine below_step ?_ (by assumption)))); have hQ := run_string_of (P := Tryd.prog) w4 22 9 5 Tryd.underlying22 Tryd.underlying5 Tryd.underlying9 (cap := c) HA.out.len (HA.out.below (w' := w4) (by repeat (first | exact BD | refine below_step ?_ (by assumption)))).reads)
        | (go_at_call 13; (with_reducible refine (HNk.out _ ?_).mono ?_); (repeat (first | exact BD | refine below_step ?_ (by assumption))); rintro e w5 ⟨rfl, b5⟩; have hP := str_row (n := l.length) (c := c2) rfl (Row.below (w' := w5) RD (by repeat (first | exact Below.refl _ _ | refine below_step ?_ (by assumption)))); have hQ := run_string_of (P := Tryd.prog) w5 22 9 5 Tryd.underlying22 Tryd.underlying5 Tryd.underlying9 (cap := c) HA.out.len (HA.out.below (w' := w5) (by repeat (first | exact BD | refine below_step ?_ (by assumption)))).reads)
        | (go_at_call 11; (with_reducible refine (HO0.out _ ?_).mono ?_); (repeat (first | exact BD | refine below_step ?_ (by assumption))); rintro e w6 ⟨rfl, b6⟩; have hP := str_row (n := l.length) (c := c2) rfl (Row.below (w' := w6) RD (by repeat (first | exact Below.refl _ _ | refine below_step ?_ (by assumption)))); have hQ := run_string_of (P := Tryd.prog) w6 22 9 5 Tryd.underlying22 Tryd.underlying5 Tryd.underlying9 (cap := c) HA.out.len (HA.out.below (w' := w6) (by repeat (first | exact BD | refine below_step ?_ (by assumption)))).reads))
      all_goals
        go_wp2
        go_ret
        exact ⟨rfl, by repeat (first | exact BD | refine below_step ?_ (by assumption))⟩
    · rw [if_neg hck] at HNk
      have hP := str_row (n := l.length) (c := c2) rfl (Row.below (w' := w2.drew) RD (by repeat (first | exact Below.refl _ _ | refine below_step ?_ (by assumption))))
      have hQ := run_string_of (P := Tryd.prog) w2.drew 22 9 5 Tryd.underlying22 Tryd.underlying5 Tryd.underlying9 (cap := c) HA.out.len (HA.out.below (w' := w2.drew) (by repeat (first | exact BD | refine below_step ?_ (by assumption)))).reads
      go_region_held3 (fun w' => (convert 22 9 (.slice A2 l.length c2)).run Tryd.prog w' = .ok (.string ⟨l.toArray⟩) w' ∧ (convert 22 9 (.slice A n c)).run Tryd.prog w' = .ok (.string ⟨l.toArray⟩) w') (first | exact ⟨hP, hQ⟩) (first
        | (go_at_call 11; (with_reducible refine (HOa.out _ ?_).mono ?_); (repeat (first | exact BD | refine below_step ?_ (by assumption))); rintro e w3 ⟨rfl, b3⟩; have hP := str_row (n := l.length) (c := c2) rfl (Row.below (w' := w3) RD (by repeat (first | exact Below.refl _ _ | refine below_step ?_ (by assumption)))); have hQ := run_string_of (P := Tryd.prog) w3 22 9 5 Tryd.underlying22 Tryd.underlying5 Tryd.underlying9 (cap := c) HA.out.len (HA.out.below (w' := w3) (by repeat (first | exact BD | refine below_step ?_ (by assumption)))).reads)
        | (go_at_call 11; (with_reducible refine (HOk.out _ ?_).mono ?_); (repeat (first | exact BD | refine below_step ?_ (by assumption))); rintro e w4 ⟨rfl, b4⟩; have hP := str_row (n := l.length) (c := c2) rfl (Row.below (w' := w4) RD (by repeat (first | exact Below.refl _ _ | refine below_step ?_ (by assumption)))); have hQ := run_string_of (P := Tryd.prog) w4 22 9 5 Tryd.underlying22 Tryd.underlying5 Tryd.underlying9 (cap := c) HA.out.len (HA.out.below (w' := w4) (by repeat (first | exact BD | refine below_step ?_ (by assumption)))).reads)
        | (go_at_call 13; (with_reducible refine (HNk.out _ ?_).mono ?_); (repeat (first | exact BD | refine below_step ?_ (by assumption))); rintro e w5 ⟨rfl, b5⟩; have hP := str_row (n := l.length) (c := c2) rfl (Row.below (w' := w5) RD (by repeat (first | exact Below.refl _ _ | refine below_step ?_ (by assumption)))); have hQ := run_string_of (P := Tryd.prog) w5 22 9 5 Tryd.underlying22 Tryd.underlying5 Tryd.underlying9 (cap := c) HA.out.len (HA.out.below (w' := w5) (by repeat (first | exact BD | refine below_step ?_ (by assumption)))).reads)
        | (go_at_call 11; (with_reducible refine (HO0.out _ ?_).mono ?_); (repeat (first | exact BD | refine below_step ?_ (by assumption))); rintro e w6 ⟨rfl, b6⟩; have hP := str_row (n := l.length) (c := c2) rfl (Row.below (w' := w6) RD (by repeat (first | exact Below.refl _ _ | refine below_step ?_ (by assumption)))); have hQ := run_string_of (P := Tryd.prog) w6 22 9 5 Tryd.underlying22 Tryd.underlying5 Tryd.underlying9 (cap := c) HA.out.len (HA.out.below (w' := w6) (by repeat (first | exact BD | refine below_step ?_ (by assumption)))).reads))
      all_goals
        go_wp2
        go_ret
        exact ⟨rfl, by repeat (first | exact BD | refine below_step ?_ (by assumption))⟩
  · have e1 : decide (2000 < (n : Int)) = true := by simp; omega
    clear hb
    go_enter Tryd.func4, Tryd.ntmps4
    go_wp2_with (go_at_call 8; refine (awake02_any _ HTB.out).mono ?_; rintro e w0 ⟨rfl, h0⟩; have B0 := Lib.hid h0; clear h0)
    go_ret
    exact ⟨rfl, B0.out⟩

end Go.Proofs.YthpmkpagjbkcjaaDoor
