/- What the laws' condition on the table at package level gives the walks, and a start that meets it: no statement. -/
import Derived.Test.YtlehajpadiiicaaDoorCrcc
import Derived.Test.YtlehajpadiiicaaDoorArgs
import Derived.Test.YtlehajpadiiicaaDoorCards
import Derived.Test.YtlehajpadiiicaaDoorTie
import Derived.LaidMore
import Derived.SevenTiedAt
import Derived.Stop.Joined
namespace Go.Proofs.YtlehajpadiiicaaDoor
open Go.ChangeShapes Go.WideShapes Go.ChangeAt Go.RowKit
set_option linter.unusedVariables false

def tab : List Nat := [0, 498536548, 997073096, 651767980, 1994146192, 1802195444, 1303535960, 1342533948, 3988292384, 4027552580, 3604390888, 3412177804, 2607071920, 2262029012, 2685067896, 3183342108]
theorem tab_ok : ∀ i, i < 16 → tab[i]? = some (half i) := by decide
abbrev lay : List (String × DataW Unit) := [("jalousie/crc.effect", Rows.laid_jalousie_crc_effect)]
theorem lay_tab : (Rows.laid_jalousie_crc_effect : DataW Unit) = .agg (tab.map fun x : Nat => .lit (.int .u32 (x : Int))) := rfl
theorem gEff : Tryd.prog.globalNamed "jalousie/crc.effect" = some 0 := by kernel_rfl
theorem tEff : (Tryd.prog.globals[0]?).map (·.type) = some 73 := by kernel_rfl
theorem tab_of_laid {W : World} (h : laidMetH Tryd.prog lay W) : Tab W := by
  rw [MakeChecks.laidMetH_plain _ _ _ (by kernel_rfl)] at h
  obtain ⟨ps, ⟨g0, t0, cs0, f0, p0, q0, hg0, ht0, hv0, hd0, _, _⟩, _⟩ := h
  obtain rfl := Option.some.inj (gEff.symm.trans hg0)
  obtain rfl := Option.some.inj (tEff.symm.trans ht0)
  obtain ⟨xs, m1, rfl, hx1, hlen, hn, hel⟩ := DataW.trod_array Tryd.underlying73 hd0
  have c1 : Tryd.prog.cellsOf 50 = 1 := by kernel_rfl
  have c16 : Tryd.prog.cellsOf 73 = 16 := by kernel_rfl
  rw [c16] at hlen
  simp only [Prod.mk.injEq] at hx1
  have hx := hx1.1
  rw [lay_tab] at hx
  injection hx with hx
  intro i hi
  have he := hel i hi
  rw [c1, Nat.mul_one] at he
  obtain ⟨x, hxi⟩ : ∃ x, xs[i]? = some x := ⟨_, List.getElem?_eq_getElem (by omega)⟩
  obtain ⟨c, hci⟩ : ∃ c, cs0.toList[i]? = some c := ⟨_, List.getElem?_eq_getElem (by omega)⟩
  have hcl : (cs0.toList.drop i).take 1 = [c] := by
    obtain ⟨hlt, hget⟩ := List.getElem?_eq_some_iff.1 hci
    rw [List.drop_eq_getElem_cons hlt, hget]
    rfl
  rw [hcl, hxi] at he
  obtain ⟨k, hk1, hk2, _⟩ := DataW.trod_int Tryd.underlying50 he
  have hq : (xs.map (·.1))[i]? = some x.1 := by rw [List.getElem?_map, hxi]; rfl
  rw [← hx, List.getElem?_map, tab_ok i hi, hk2] at hq
  simp only [Option.map_some, Option.some.injEq, DataW.lit.injEq, Lit.int.injEq, true_and] at hq
  have hv := World.var?_cell hg0 hv0 i
  rw [hv, ← Array.getElem?_toList, hci]
  injection hk1 with hk1
  rw [hk1, hq]

/-- The heap that the program's own start leaves meets the condition. -/
theorem door_met (os : Os) (args : Array Value) : laidMetH Tryd.prog lay ((World.doorLaid Tryd.prog 14 os).forCall (fun _ _ => 0) ⟨#[], args, []⟩).memory :=
  laidMetH_of_parts3 (fuel := 8) (laidMet_of_run' 8 (by kernel_rfl) (by kernel_rfl)) (by kernel_rfl) (by kernel_rfl)

end Go.Proofs.YtlehajpadiiicaaDoor
