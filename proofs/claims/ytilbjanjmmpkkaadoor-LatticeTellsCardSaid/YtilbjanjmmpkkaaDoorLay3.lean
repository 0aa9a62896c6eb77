/- What the laws' condition on the table at package level gives the walks, and a start that meets it: no statement. -/
import Derived.Test.YtilbjanjmmpkkaaDoorLatk
import Derived.Test.YtilbjanjmmpkkaaDoorArgu
import Derived.ProofKit
import Derived.OpenShut
import Derived.ShutString
import Derived.ChangeOld
import Derived.Test.YtilbjanjmmpkkaaDoorCards
import Derived.Test.YtilbjanjmmpkkaaDoorTie
import Derived.LaidMore
import Derived.SevenTiedAt
import Derived.Stop.Joined
namespace Go.Proofs.YtilbjanjmmpkkaaDoor
open Go.ChangeShapes Go.WideShapes Go.ChangeAt Go.RowKit Go.Shelf
set_option linter.unusedVariables false

abbrev lay : List (String × DataW Unit) := [("math/bits.deBruijn64tab", Rows.laid_math_bits_deBruijn64tab)]
def layN : Nat := 14
def layKinds : List LaidKind := [.data]
theorem lay_tab : (Rows.laid_math_bits_deBruijn64tab : DataW Unit) = .agg (Lib.deBruijn64tab.map fun x : Nat => .lit (.int .u8 (x : Int))) := rfl
theorem gTab : Tryd.prog.globalNamed "math/bits.deBruijn64tab" = some 0 := by kernel_rfl
theorem tTab : (Tryd.prog.globals[0]?).map (·.type) = some 73 := by kernel_rfl
theorem base_of_laid {W : World} (h : laidMetH Tryd.prog lay W) : Base3 W := by
  rw [MakeChecks.laidMetH_plain _ _ _ (by kernel_rfl)] at h
  obtain ⟨ps, ⟨g0, t0, cs0, f0, p0, q0, hg0, ht0, hv0, hd0, _, _⟩, _⟩ := h
  obtain rfl := Option.some.inj (gTab.symm.trans hg0)
  obtain rfl := Option.some.inj (tTab.symm.trans ht0)
  obtain ⟨xs, m1, rfl, hx1, hlen, hn, hel⟩ := DataW.trod_array Tryd.underlying73 hd0
  have c1 : Tryd.prog.cellsOf 5 = 1 := by kernel_rfl
  have c16 : Tryd.prog.cellsOf 73 = 64 := by kernel_rfl
  rw [c16] at hlen
  simp only [Prod.mk.injEq] at hx1
  have hx := hx1.1
  rw [lay_tab] at hx
  injection hx with hx
  have htab : TabAt 0 Lib.deBruijn64tab W := by
    intro i hi
    have hi64 : i < 64 := hi
    have he := hel i hi64
    rw [c1, Nat.mul_one] at he
    obtain ⟨x, hxi⟩ : ∃ x, xs[i]? = some x := ⟨_, List.getElem?_eq_getElem (by omega)⟩
    obtain ⟨c, hci⟩ : ∃ c, cs0.toList[i]? = some c := ⟨_, List.getElem?_eq_getElem (by omega)⟩
    have hcl : (cs0.toList.drop i).take 1 = [c] := by
      obtain ⟨hlt, hget⟩ := List.getElem?_eq_some_iff.1 hci
      rw [List.drop_eq_getElem_cons hlt, hget]
      rfl
    rw [hcl, hxi] at he
    obtain ⟨k, hk1, hk2, _⟩ := DataW.trod_int Tryd.underlying5 he
    have hq : (xs.map (·.1))[i]? = some x.1 := by rw [List.getElem?_map, hxi]; rfl
    have hti : Lib.deBruijn64tab[i]? = some (Lib.deBruijn64tab.getD i 0) := by simp [List.getD, List.getElem?_eq_getElem hi]
    rw [← hx, List.getElem?_map, hti, hk2] at hq
    simp only [Option.map_some, Option.some.injEq, DataW.lit.injEq, Lit.int.injEq, true_and] at hq
    have hv := World.var?_cell hg0 hv0 i
    rw [hv, ← Array.getElem?_toList, hci]
    injection hk1 with hk1
    rw [hk1, hq]
  exact ⟨World.block_lt_of_cell? W ⟨0, 0, none⟩ (htab 0 (by decide)), htab⟩

/-- The heap that the program's own start leaves meets the condition. -/
theorem door_met (os : Os) (args : Array Value) : laidMetH Tryd.prog lay ((World.doorLaid Tryd.prog layN os).forCall (fun _ _ => 0) ⟨#[], args, []⟩).memory :=
  laidMetH_of_parts3 (fuel := 8) (laidMet_of_run' 8 (by kernel_rfl) (by kernel_rfl)) (by kernel_rfl) (by kernel_rfl)

end Go.Proofs.YtilbjanjmmpkkaaDoor
