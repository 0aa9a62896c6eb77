/-
  DERIVED. GIVEN WITH THE SEED: THE CARDS: each row of YtdoabcbembinjaaDoorRows.lean that lists a variable, with what it lists TIED to the program's text (the seventh form; the later family's looks); each row that meets fmt, with fmt's text TOLD by the authors' own Lean function (tested against real Go, not proved from fmt's source: count such statements apart). THE CARD IS WHAT COUNTS. Prove the row's statement (the work); the ties are given (YtdoabcbembinjaaDoorTie.lean); close each card by the builder's one call (the guide's Derived/Test/ToyasCard.lean, 'card_holds'). Laid BY PROGRAM, IN A SANDBOX (cutbox-door.mjs). By AI agents, Wed Nov 11 2026. No macro, syntax, notation, axiom, sorry.
-/
import Derived.Test.YtdoabcbembinjaaDoorRows
import GoSem.ClaimSeven
namespace Go.Proofs.YtdoabcbembinjaaDoor
namespace Rows

/-- THE TIED CARD OF 'jalousielaw09.ChainPuts'. -/
def chainPutsCard : Claim7 := { stood := { row := chainPutsRow, standIns := [], harness := (true, "64ba92039276159fbb0f63c31fa0ed42017406a4b6c7adc755b8a79e67097e9c"), looks := false }, kinds := [], alts := [], laidByText := true, laidKinds := [.data], laidTests := true, laidLooks := .later }
def ChainPutsCardSaid : Prop := Claim7.holds Tryd.pinned (.plain (OpenSpec.ofChange chainPutsSpec)) chainPutsCard

/-- THE TIED CARD OF 'jalousielaw09.ChainGets'. -/
def chainGetsCard : Claim7 := { stood := { row := chainGetsRow, standIns := [], harness := (true, "64ba92039276159fbb0f63c31fa0ed42017406a4b6c7adc755b8a79e67097e9c"), looks := false }, kinds := [], alts := [], laidByText := true, laidKinds := [.data], laidTests := true, laidLooks := .later }
def ChainGetsCardSaid : Prop := Claim7.holds Tryd.pinned (.plain (OpenSpec.ofChange chainGetsSpec)) chainGetsCard

/-- THE TIED CARD OF 'jalousielaw09.ChainBack'. -/
def chainBackCard : Claim7 := { stood := { row := chainBackRow, standIns := [], harness := (true, "64ba92039276159fbb0f63c31fa0ed42017406a4b6c7adc755b8a79e67097e9c"), looks := false }, kinds := [], alts := [], laidByText := true, laidKinds := [.data], laidTests := true, laidLooks := .later }
def ChainBackCardSaid : Prop := Claim7.holds Tryd.pinned (.plain (OpenSpec.ofChange chainBackSpec)) chainBackCard

/-- THE TIED CARD OF 'jalousielaw09.ChainParts'. -/
def chainPartsCard : Claim7 := { stood := { row := chainPartsRow, standIns := [], harness := (true, "64ba92039276159fbb0f63c31fa0ed42017406a4b6c7adc755b8a79e67097e9c"), looks := false }, kinds := [], alts := [], laidByText := true, laidKinds := [.data], laidTests := true, laidLooks := .later }
def ChainPartsCardSaid : Prop := Claim7.holds Tryd.pinned (.plain (OpenSpec.ofChange chainPartsSpec)) chainPartsCard

/-- THE TIED CARD OF 'jalousielaw09.ChainLost'. -/
def chainLostCard : Claim7 := { stood := { row := chainLostRow, standIns := [], harness := (true, "64ba92039276159fbb0f63c31fa0ed42017406a4b6c7adc755b8a79e67097e9c"), looks := false }, kinds := [], alts := [], laidByText := true, laidKinds := [.data], laidTests := true, laidLooks := .later }
def ChainLostCardSaid : Prop := Claim7.holds Tryd.pinned (.plain (OpenSpec.ofChange chainLostSpec)) chainLostCard

/-- THE SECOND FORM's CARD OF 'jalousielaw09.ChainPuts'. -/
def chainPutsUptoCard : Claim7 := { stood := { row := chainPutsUptoRow, standIns := [], harness := (true, "64ba92039276159fbb0f63c31fa0ed42017406a4b6c7adc755b8a79e67097e9c"), looks := false }, kinds := [], alts := [], laidByText := true, laidKinds := [.data], laidTests := true, laidLooks := .later }
def ChainPutsUptoCardSaid : Prop := Claim7.holds Tryd.pinned (.plain (OpenSpec.upto chainPutsSpec)) chainPutsUptoCard

/-- THE SECOND FORM's CARD OF 'jalousielaw09.ChainGets'. -/
def chainGetsUptoCard : Claim7 := { stood := { row := chainGetsUptoRow, standIns := [], harness := (true, "64ba92039276159fbb0f63c31fa0ed42017406a4b6c7adc755b8a79e67097e9c"), looks := false }, kinds := [], alts := [], laidByText := true, laidKinds := [.data], laidTests := true, laidLooks := .later }
def ChainGetsUptoCardSaid : Prop := Claim7.holds Tryd.pinned (.plain (OpenSpec.upto chainGetsSpec)) chainGetsUptoCard

/-- THE SECOND FORM's CARD OF 'jalousielaw09.ChainBack'. -/
def chainBackUptoCard : Claim7 := { stood := { row := chainBackUptoRow, standIns := [], harness := (true, "64ba92039276159fbb0f63c31fa0ed42017406a4b6c7adc755b8a79e67097e9c"), looks := false }, kinds := [], alts := [], laidByText := true, laidKinds := [.data], laidTests := true, laidLooks := .later }
def ChainBackUptoCardSaid : Prop := Claim7.holds Tryd.pinned (.plain (OpenSpec.upto chainBackSpec)) chainBackUptoCard

/-- THE SECOND FORM's CARD OF 'jalousielaw09.ChainParts'. -/
def chainPartsUptoCard : Claim7 := { stood := { row := chainPartsUptoRow, standIns := [], harness := (true, "64ba92039276159fbb0f63c31fa0ed42017406a4b6c7adc755b8a79e67097e9c"), looks := false }, kinds := [], alts := [], laidByText := true, laidKinds := [.data], laidTests := true, laidLooks := .later }
def ChainPartsUptoCardSaid : Prop := Claim7.holds Tryd.pinned (.plain (OpenSpec.upto chainPartsSpec)) chainPartsUptoCard

/-- THE SECOND FORM's CARD OF 'jalousielaw09.ChainLost'. -/
def chainLostUptoCard : Claim7 := { stood := { row := chainLostUptoRow, standIns := [], harness := (true, "64ba92039276159fbb0f63c31fa0ed42017406a4b6c7adc755b8a79e67097e9c"), looks := false }, kinds := [], alts := [], laidByText := true, laidKinds := [.data], laidTests := true, laidLooks := .later }
def ChainLostUptoCardSaid : Prop := Claim7.holds Tryd.pinned (.plain (OpenSpec.upto chainLostSpec)) chainLostUptoCard
end Rows
end Go.Proofs.YtdoabcbembinjaaDoor
