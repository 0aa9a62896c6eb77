/-
  DERIVED. GIVEN WITH THE SEED: THE CARDS: each row of YtlehajpadiiicaaDoorRows.lean that lists a variable, with what it lists TIED to the program's text (the seventh form; the later family's looks); each row that meets fmt, with fmt's text TOLD by the authors' own Lean function (tested against real Go, not proved from fmt's source: count such statements apart). THE CARD IS WHAT COUNTS. Prove the row's statement (the work); the ties are given (YtlehajpadiiicaaDoorTie.lean); close each card by the builder's one call (the guide's Derived/Test/ToyasCard.lean, 'card_holds'). Laid BY PROGRAM, IN A SANDBOX (cutbox-door.mjs). By AI agents, Wed Nov 11 2026. No macro, syntax, notation, axiom, sorry.
-/
import Derived.Test.YtlehajpadiiicaaDoorRows
import GoSem.ClaimSeven
namespace Go.Proofs.YtlehajpadiiicaaDoor
namespace Rows

/-- THE TIED CARD OF 'jalousielaw07.CellsPack'. -/
def cellsPackCard : Claim7 := { stood := { row := cellsPackRow, standIns := [], harness := (true, "c5bd699f271c0a11b8e0f104138a3adafcfc10b6b4ab6e925f04e6e43df97454"), looks := false }, kinds := [], alts := [], laidByText := true, laidKinds := [.data], laidTests := true, laidLooks := .later }
def CellsPackCardSaid : Prop := Claim7.holds Tryd.pinned (.plain (OpenSpec.ofChange cellsPackSpec)) cellsPackCard

/-- THE TIED CARD OF 'jalousielaw07.CellsUnpack'. -/
def cellsUnpackCard : Claim7 := { stood := { row := cellsUnpackRow, standIns := [], harness := (true, "c5bd699f271c0a11b8e0f104138a3adafcfc10b6b4ab6e925f04e6e43df97454"), looks := false }, kinds := [], alts := [], laidByText := true, laidKinds := [.data], laidTests := true, laidLooks := .later }
def CellsUnpackCardSaid : Prop := Claim7.holds Tryd.pinned (.plain (OpenSpec.ofChange cellsUnpackSpec)) cellsUnpackCard

/-- THE TIED CARD OF 'jalousielaw07.CellsBack'. -/
def cellsBackCard : Claim7 := { stood := { row := cellsBackRow, standIns := [], harness := (true, "c5bd699f271c0a11b8e0f104138a3adafcfc10b6b4ab6e925f04e6e43df97454"), looks := false }, kinds := [], alts := [], laidByText := true, laidKinds := [.data], laidTests := true, laidLooks := .later }
def CellsBackCardSaid : Prop := Claim7.holds Tryd.pinned (.plain (OpenSpec.ofChange cellsBackSpec)) cellsBackCard

/-- THE TIED CARD OF 'jalousielaw07.CellsFronts'. -/
def cellsFrontsCard : Claim7 := { stood := { row := cellsFrontsRow, standIns := [], harness := (true, "c5bd699f271c0a11b8e0f104138a3adafcfc10b6b4ab6e925f04e6e43df97454"), looks := false }, kinds := [], alts := [], laidByText := true, laidKinds := [.data], laidTests := true, laidLooks := .later }
def CellsFrontsCardSaid : Prop := Claim7.holds Tryd.pinned (.plain (OpenSpec.ofChange cellsFrontsSpec)) cellsFrontsCard

/-- THE TIED CARD OF 'jalousielaw07.CellsKinds'. -/
def cellsKindsCard : Claim7 := { stood := { row := cellsKindsRow, standIns := [], harness := (true, "c5bd699f271c0a11b8e0f104138a3adafcfc10b6b4ab6e925f04e6e43df97454"), looks := false }, kinds := [], alts := [], laidByText := true, laidKinds := [.data], laidTests := true, laidLooks := .later }
def CellsKindsCardSaid : Prop := Claim7.holds Tryd.pinned (.plain (OpenSpec.ofChange cellsKindsSpec)) cellsKindsCard

/-- THE SECOND FORM's CARD OF 'jalousielaw07.CellsPack'. -/
def cellsPackUptoCard : Claim7 := { stood := { row := cellsPackUptoRow, standIns := [], harness := (true, "c5bd699f271c0a11b8e0f104138a3adafcfc10b6b4ab6e925f04e6e43df97454"), looks := false }, kinds := [], alts := [], laidByText := true, laidKinds := [.data], laidTests := true, laidLooks := .later }
def CellsPackUptoCardSaid : Prop := Claim7.holds Tryd.pinned (.plain (OpenSpec.upto cellsPackSpec)) cellsPackUptoCard

/-- THE SECOND FORM's CARD OF 'jalousielaw07.CellsUnpack'. -/
def cellsUnpackUptoCard : Claim7 := { stood := { row := cellsUnpackUptoRow, standIns := [], harness := (true, "c5bd699f271c0a11b8e0f104138a3adafcfc10b6b4ab6e925f04e6e43df97454"), looks := false }, kinds := [], alts := [], laidByText := true, laidKinds := [.data], laidTests := true, laidLooks := .later }
def CellsUnpackUptoCardSaid : Prop := Claim7.holds Tryd.pinned (.plain (OpenSpec.upto cellsUnpackSpec)) cellsUnpackUptoCard

/-- THE SECOND FORM's CARD OF 'jalousielaw07.CellsBack'. -/
def cellsBackUptoCard : Claim7 := { stood := { row := cellsBackUptoRow, standIns := [], harness := (true, "c5bd699f271c0a11b8e0f104138a3adafcfc10b6b4ab6e925f04e6e43df97454"), looks := false }, kinds := [], alts := [], laidByText := true, laidKinds := [.data], laidTests := true, laidLooks := .later }
def CellsBackUptoCardSaid : Prop := Claim7.holds Tryd.pinned (.plain (OpenSpec.upto cellsBackSpec)) cellsBackUptoCard

/-- THE SECOND FORM's CARD OF 'jalousielaw07.CellsFronts'. -/
def cellsFrontsUptoCard : Claim7 := { stood := { row := cellsFrontsUptoRow, standIns := [], harness := (true, "c5bd699f271c0a11b8e0f104138a3adafcfc10b6b4ab6e925f04e6e43df97454"), looks := false }, kinds := [], alts := [], laidByText := true, laidKinds := [.data], laidTests := true, laidLooks := .later }
def CellsFrontsUptoCardSaid : Prop := Claim7.holds Tryd.pinned (.plain (OpenSpec.upto cellsFrontsSpec)) cellsFrontsUptoCard

/-- THE SECOND FORM's CARD OF 'jalousielaw07.CellsKinds'. -/
def cellsKindsUptoCard : Claim7 := { stood := { row := cellsKindsUptoRow, standIns := [], harness := (true, "c5bd699f271c0a11b8e0f104138a3adafcfc10b6b4ab6e925f04e6e43df97454"), looks := false }, kinds := [], alts := [], laidByText := true, laidKinds := [.data], laidTests := true, laidLooks := .later }
def CellsKindsUptoCardSaid : Prop := Claim7.holds Tryd.pinned (.plain (OpenSpec.upto cellsKindsSpec)) cellsKindsUptoCard
end Rows
end Go.Proofs.YtlehajpadiiicaaDoor
