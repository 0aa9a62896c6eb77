/-
  DERIVED. GIVEN WITH THE SEED: THE CARDS: each row of YthcjledpjlpfaaaDoorRows.lean that lists a variable, with what it lists TIED to the program's text (the seventh form; the later family's looks); each row that meets fmt, with fmt's text TOLD by the authors' own Lean function (tested against real Go, not proved from fmt's source: count such statements apart). THE CARD IS WHAT COUNTS. Prove the row's statement (the work); the ties are given (YthcjledpjlpfaaaDoorTie.lean); close each card by the builder's one call (the guide's Derived/Test/ToyasCard.lean, 'card_holds'). Laid BY PROGRAM, IN A SANDBOX (cutbox-door.mjs). By AI agents, Wed Nov 11 2026. No macro, syntax, notation, axiom, sorry.
-/
import Derived.Test.YthcjledpjlpfaaaDoorRows
import GoSem.ClaimSeven
namespace Go.Proofs.YthcjledpjlpfaaaDoor
namespace Rows

/-- THE TIED CARD OF 'jalousielaw11.ListPuts'. -/
def listPutsCard : Claim7 := { stood := { row := listPutsRow, standIns := [], harness := (true, "9da49e01077e277ce6f264269c58ad08b8158f7ef257e921a2cb583d8016704b"), looks := false }, kinds := [], alts := [], laidByText := true, laidKinds := [.data], laidTests := true, laidLooks := .later }
def ListPutsCardSaid : Prop := Claim7.holds Tryd.pinned (.plain (OpenSpec.ofChange listPutsSpec)) listPutsCard

/-- THE TIED CARD OF 'jalousielaw11.ListGets'. -/
def listGetsCard : Claim7 := { stood := { row := listGetsRow, standIns := [], harness := (true, "9da49e01077e277ce6f264269c58ad08b8158f7ef257e921a2cb583d8016704b"), looks := false }, kinds := [], alts := [], laidByText := true, laidKinds := [.data], laidTests := true, laidLooks := .later }
def ListGetsCardSaid : Prop := Claim7.holds Tryd.pinned (.plain (OpenSpec.ofChange listGetsSpec)) listGetsCard

/-- THE TIED CARD OF 'jalousielaw11.ListBack'. -/
def listBackCard : Claim7 := { stood := { row := listBackRow, standIns := [], harness := (true, "9da49e01077e277ce6f264269c58ad08b8158f7ef257e921a2cb583d8016704b"), looks := false }, kinds := [], alts := [], laidByText := true, laidKinds := [.data], laidTests := true, laidLooks := .later }
def ListBackCardSaid : Prop := Claim7.holds Tryd.pinned (.plain (OpenSpec.ofChange listBackSpec)) listBackCard

/-- THE TIED CARD OF 'jalousielaw11.ListOwns'. -/
def listOwnsCard : Claim7 := { stood := { row := listOwnsRow, standIns := [], harness := (true, "9da49e01077e277ce6f264269c58ad08b8158f7ef257e921a2cb583d8016704b"), looks := false }, kinds := [], alts := [], laidByText := true, laidKinds := [.data], laidTests := true, laidLooks := .later }
def ListOwnsCardSaid : Prop := Claim7.holds Tryd.pinned (.plain (OpenSpec.ofChange listOwnsSpec)) listOwnsCard

/-- THE TIED CARD OF 'jalousielaw11.ListLost'. -/
def listLostCard : Claim7 := { stood := { row := listLostRow, standIns := [], harness := (true, "9da49e01077e277ce6f264269c58ad08b8158f7ef257e921a2cb583d8016704b"), looks := false }, kinds := [], alts := [], laidByText := true, laidKinds := [.data], laidTests := true, laidLooks := .later }
def ListLostCardSaid : Prop := Claim7.holds Tryd.pinned (.plain (OpenSpec.ofChange listLostSpec)) listLostCard

/-- THE SECOND FORM's CARD OF 'jalousielaw11.ListPuts'. -/
def listPutsUptoCard : Claim7 := { stood := { row := listPutsUptoRow, standIns := [], harness := (true, "9da49e01077e277ce6f264269c58ad08b8158f7ef257e921a2cb583d8016704b"), looks := false }, kinds := [], alts := [], laidByText := true, laidKinds := [.data], laidTests := true, laidLooks := .later }
def ListPutsUptoCardSaid : Prop := Claim7.holds Tryd.pinned (.plain (OpenSpec.upto listPutsSpec)) listPutsUptoCard

/-- THE SECOND FORM's CARD OF 'jalousielaw11.ListGets'. -/
def listGetsUptoCard : Claim7 := { stood := { row := listGetsUptoRow, standIns := [], harness := (true, "9da49e01077e277ce6f264269c58ad08b8158f7ef257e921a2cb583d8016704b"), looks := false }, kinds := [], alts := [], laidByText := true, laidKinds := [.data], laidTests := true, laidLooks := .later }
def ListGetsUptoCardSaid : Prop := Claim7.holds Tryd.pinned (.plain (OpenSpec.upto listGetsSpec)) listGetsUptoCard

/-- THE SECOND FORM's CARD OF 'jalousielaw11.ListBack'. -/
def listBackUptoCard : Claim7 := { stood := { row := listBackUptoRow, standIns := [], harness := (true, "9da49e01077e277ce6f264269c58ad08b8158f7ef257e921a2cb583d8016704b"), looks := false }, kinds := [], alts := [], laidByText := true, laidKinds := [.data], laidTests := true, laidLooks := .later }
def ListBackUptoCardSaid : Prop := Claim7.holds Tryd.pinned (.plain (OpenSpec.upto listBackSpec)) listBackUptoCard

/-- THE SECOND FORM's CARD OF 'jalousielaw11.ListOwns'. -/
def listOwnsUptoCard : Claim7 := { stood := { row := listOwnsUptoRow, standIns := [], harness := (true, "9da49e01077e277ce6f264269c58ad08b8158f7ef257e921a2cb583d8016704b"), looks := false }, kinds := [], alts := [], laidByText := true, laidKinds := [.data], laidTests := true, laidLooks := .later }
def ListOwnsUptoCardSaid : Prop := Claim7.holds Tryd.pinned (.plain (OpenSpec.upto listOwnsSpec)) listOwnsUptoCard

/-- THE SECOND FORM's CARD OF 'jalousielaw11.ListLost'. -/
def listLostUptoCard : Claim7 := { stood := { row := listLostUptoRow, standIns := [], harness := (true, "9da49e01077e277ce6f264269c58ad08b8158f7ef257e921a2cb583d8016704b"), looks := false }, kinds := [], alts := [], laidByText := true, laidKinds := [.data], laidTests := true, laidLooks := .later }
def ListLostUptoCardSaid : Prop := Claim7.holds Tryd.pinned (.plain (OpenSpec.upto listLostSpec)) listLostUptoCard
end Rows
end Go.Proofs.YthcjledpjlpfaaaDoor
