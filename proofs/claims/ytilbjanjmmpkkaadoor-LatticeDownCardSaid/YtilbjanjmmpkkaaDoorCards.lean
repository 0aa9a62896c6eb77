/-
  DERIVED. GIVEN WITH THE SEED: THE CARDS: each row of YtilbjanjmmpkkaaDoorRows.lean that lists a variable, with what it lists TIED to the program's text (the seventh form; the later family's looks); each row that meets fmt, with fmt's text TOLD by the authors' own Lean function (tested against real Go, not proved from fmt's source: count such statements apart). THE CARD IS WHAT COUNTS. Prove the row's statement (the work); the ties are given (YtilbjanjmmpkkaaDoorTie.lean); close each card by the builder's one call (the guide's Derived/Test/ToyasCard.lean, 'card_holds'). Laid BY PROGRAM, IN A SANDBOX (cutbox-door.mjs). By AI agents, Wed Nov 11 2026. No macro, syntax, notation, axiom, sorry.
-/
import Derived.Test.YtilbjanjmmpkkaaDoorRows
import GoSem.ClaimSeven
namespace Go.Proofs.YtilbjanjmmpkkaaDoor
namespace Rows

/-- THE TIED CARD OF 'jalousielaw03.LatticeTells'. -/
def latticeTellsCard : Claim7 := { stood := { row := latticeTellsRow, standIns := [], harness := (true, "a7cef3f636ebeaffe01ea4a3d5187fd16c675ba5313cdba57f9a9753a0bd7c3e"), looks := false }, kinds := [], alts := [], laidByText := true, laidKinds := [.data], laidTests := true, laidLooks := .later }
def LatticeTellsCardSaid : Prop := Claim7.holds Tryd.pinned (.plain (OpenSpec.ofChange latticeTellsSpec)) latticeTellsCard

/-- THE TIED CARD OF 'jalousielaw03.LatticeBytes'. -/
def latticeBytesCard : Claim7 := { stood := { row := latticeBytesRow, standIns := [], harness := (true, "a7cef3f636ebeaffe01ea4a3d5187fd16c675ba5313cdba57f9a9753a0bd7c3e"), looks := false }, kinds := [], alts := [], laidByText := true, laidKinds := [.data], laidTests := true, laidLooks := .later }
def LatticeBytesCardSaid : Prop := Claim7.holds Tryd.pinned (.plain (OpenSpec.ofChange latticeBytesSpec)) latticeBytesCard

/-- THE TIED CARD OF 'jalousielaw03.LatticeBounds'. -/
def latticeBoundsCard : Claim7 := { stood := { row := latticeBoundsRow, standIns := [], harness := (true, "a7cef3f636ebeaffe01ea4a3d5187fd16c675ba5313cdba57f9a9753a0bd7c3e"), looks := false }, kinds := [], alts := [], laidByText := true, laidKinds := [.data], laidTests := true, laidLooks := .later }
def LatticeBoundsCardSaid : Prop := Claim7.holds Tryd.pinned (.plain (OpenSpec.ofChange latticeBoundsSpec)) latticeBoundsCard

/-- THE TIED CARD OF 'jalousielaw03.LatticeDown'. -/
def latticeDownCard : Claim7 := { stood := { row := latticeDownRow, standIns := [], harness := (true, "a7cef3f636ebeaffe01ea4a3d5187fd16c675ba5313cdba57f9a9753a0bd7c3e"), looks := false }, kinds := [], alts := [], laidByText := true, laidKinds := [.data], laidTests := true, laidLooks := .later }
def LatticeDownCardSaid : Prop := Claim7.holds Tryd.pinned (.plain (OpenSpec.ofChange latticeDownSpec)) latticeDownCard

/-- THE TIED CARD OF 'jalousielaw03.LatticeThree'. -/
def latticeThreeCard : Claim7 := { stood := { row := latticeThreeRow, standIns := [], harness := (true, "a7cef3f636ebeaffe01ea4a3d5187fd16c675ba5313cdba57f9a9753a0bd7c3e"), looks := false }, kinds := [], alts := [], laidByText := true, laidKinds := [.data], laidTests := true, laidLooks := .later }
def LatticeThreeCardSaid : Prop := Claim7.holds Tryd.pinned (.plain (OpenSpec.ofChange latticeThreeSpec)) latticeThreeCard

/-- THE TIED CARD OF 'jalousielaw03.LatticePuts'. -/
def latticePutsCard : Claim7 := { stood := { row := latticePutsRow, standIns := [], harness := (true, "a7cef3f636ebeaffe01ea4a3d5187fd16c675ba5313cdba57f9a9753a0bd7c3e"), looks := false }, kinds := [], alts := [], laidByText := true, laidKinds := [.data], laidTests := true, laidLooks := .later }
def LatticePutsCardSaid : Prop := Claim7.holds Tryd.pinned (.plain (OpenSpec.ofChange latticePutsSpec)) latticePutsCard

/-- THE SECOND FORM's CARD OF 'jalousielaw03.LatticeTells'. -/
def latticeTellsUptoCard : Claim7 := { stood := { row := latticeTellsUptoRow, standIns := [], harness := (true, "a7cef3f636ebeaffe01ea4a3d5187fd16c675ba5313cdba57f9a9753a0bd7c3e"), looks := false }, kinds := [], alts := [], laidByText := true, laidKinds := [.data], laidTests := true, laidLooks := .later }
def LatticeTellsUptoCardSaid : Prop := Claim7.holds Tryd.pinned (.plain (OpenSpec.upto latticeTellsSpec)) latticeTellsUptoCard

/-- THE SECOND FORM's CARD OF 'jalousielaw03.LatticeBytes'. -/
def latticeBytesUptoCard : Claim7 := { stood := { row := latticeBytesUptoRow, standIns := [], harness := (true, "a7cef3f636ebeaffe01ea4a3d5187fd16c675ba5313cdba57f9a9753a0bd7c3e"), looks := false }, kinds := [], alts := [], laidByText := true, laidKinds := [.data], laidTests := true, laidLooks := .later }
def LatticeBytesUptoCardSaid : Prop := Claim7.holds Tryd.pinned (.plain (OpenSpec.upto latticeBytesSpec)) latticeBytesUptoCard

/-- THE SECOND FORM's CARD OF 'jalousielaw03.LatticeBounds'. -/
def latticeBoundsUptoCard : Claim7 := { stood := { row := latticeBoundsUptoRow, standIns := [], harness := (true, "a7cef3f636ebeaffe01ea4a3d5187fd16c675ba5313cdba57f9a9753a0bd7c3e"), looks := false }, kinds := [], alts := [], laidByText := true, laidKinds := [.data], laidTests := true, laidLooks := .later }
def LatticeBoundsUptoCardSaid : Prop := Claim7.holds Tryd.pinned (.plain (OpenSpec.upto latticeBoundsSpec)) latticeBoundsUptoCard

/-- THE SECOND FORM's CARD OF 'jalousielaw03.LatticeDown'. -/
def latticeDownUptoCard : Claim7 := { stood := { row := latticeDownUptoRow, standIns := [], harness := (true, "a7cef3f636ebeaffe01ea4a3d5187fd16c675ba5313cdba57f9a9753a0bd7c3e"), looks := false }, kinds := [], alts := [], laidByText := true, laidKinds := [.data], laidTests := true, laidLooks := .later }
def LatticeDownUptoCardSaid : Prop := Claim7.holds Tryd.pinned (.plain (OpenSpec.upto latticeDownSpec)) latticeDownUptoCard

/-- THE SECOND FORM's CARD OF 'jalousielaw03.LatticeThree'. -/
def latticeThreeUptoCard : Claim7 := { stood := { row := latticeThreeUptoRow, standIns := [], harness := (true, "a7cef3f636ebeaffe01ea4a3d5187fd16c675ba5313cdba57f9a9753a0bd7c3e"), looks := false }, kinds := [], alts := [], laidByText := true, laidKinds := [.data], laidTests := true, laidLooks := .later }
def LatticeThreeUptoCardSaid : Prop := Claim7.holds Tryd.pinned (.plain (OpenSpec.upto latticeThreeSpec)) latticeThreeUptoCard

/-- THE SECOND FORM's CARD OF 'jalousielaw03.LatticePuts'. -/
def latticePutsUptoCard : Claim7 := { stood := { row := latticePutsUptoRow, standIns := [], harness := (true, "a7cef3f636ebeaffe01ea4a3d5187fd16c675ba5313cdba57f9a9753a0bd7c3e"), looks := false }, kinds := [], alts := [], laidByText := true, laidKinds := [.data], laidTests := true, laidLooks := .later }
def LatticePutsUptoCardSaid : Prop := Claim7.holds Tryd.pinned (.plain (OpenSpec.upto latticePutsSpec)) latticePutsUptoCard
end Rows
end Go.Proofs.YtilbjanjmmpkkaaDoor
