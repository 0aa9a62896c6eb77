/-
  DERIVED. GIVEN WITH THE SEED: THE CARDS: each row of YtpikcodnonodlaaDoorRows.lean that lists a variable, with what it lists TIED to the program's text (the seventh form; the later family's looks); each row that meets fmt, with fmt's text TOLD by the authors' own Lean function (tested against real Go, not proved from fmt's source: count such statements apart). THE CARD IS WHAT COUNTS. Prove the row's statement (the work); the ties are given (YtpikcodnonodlaaDoorTie.lean); close each card by the builder's one call (the guide's Derived/Test/ToyasCard.lean, 'card_holds'). Laid BY PROGRAM, IN A SANDBOX (cutbox-door.mjs). By AI agents, Wed Nov 11 2026. No macro, syntax, notation, axiom, sorry.
-/
import Derived.Test.YtpikcodnonodlaaDoorRows
import GoSem.ClaimSeven
namespace Go.Proofs.YtpikcodnonodlaaDoor
namespace Rows

/-- THE TIED CARD OF 'jalousielaw10.MetaPuts'. -/
def metaPutsCard : Claim7 := { stood := { row := metaPutsRow, standIns := [], harness := (true, "aa498b5af17b3c3771c1fc0090de479a7a95cc5b026aac755dacbd62c1d0466e"), looks := false }, kinds := [], alts := [], laidByText := true, laidKinds := [.data], laidTests := true, laidLooks := .later }
def MetaPutsCardSaid : Prop := Claim7.holds Tryd.pinned (.plain (OpenSpec.ofChange metaPutsSpec)) metaPutsCard

/-- THE TIED CARD OF 'jalousielaw10.MetaNewest'. -/
def metaNewestCard : Claim7 := { stood := { row := metaNewestRow, standIns := [], harness := (true, "aa498b5af17b3c3771c1fc0090de479a7a95cc5b026aac755dacbd62c1d0466e"), looks := false }, kinds := [], alts := [], laidByText := true, laidKinds := [.data], laidTests := true, laidLooks := .later }
def MetaNewestCardSaid : Prop := Claim7.holds Tryd.pinned (.plain (OpenSpec.ofChange metaNewestSpec)) metaNewestCard

/-- THE TIED CARD OF 'jalousielaw10.MetaFalls'. -/
def metaFallsCard : Claim7 := { stood := { row := metaFallsRow, standIns := [], harness := (true, "aa498b5af17b3c3771c1fc0090de479a7a95cc5b026aac755dacbd62c1d0466e"), looks := false }, kinds := [], alts := [], laidByText := true, laidKinds := [.data], laidTests := true, laidLooks := .later }
def MetaFallsCardSaid : Prop := Claim7.holds Tryd.pinned (.plain (OpenSpec.ofChange metaFallsSpec)) metaFallsCard

/-- THE TIED CARD OF 'jalousielaw10.MetaOthers'. -/
def metaOthersCard : Claim7 := { stood := { row := metaOthersRow, standIns := [], harness := (true, "aa498b5af17b3c3771c1fc0090de479a7a95cc5b026aac755dacbd62c1d0466e"), looks := false }, kinds := [], alts := [], laidByText := true, laidKinds := [.data], laidTests := true, laidLooks := .later }
def MetaOthersCardSaid : Prop := Claim7.holds Tryd.pinned (.plain (OpenSpec.ofChange metaOthersSpec)) metaOthersCard

/-- THE TIED CARD OF 'jalousielaw10.MetaDiffers'. -/
def metaDiffersCard : Claim7 := { stood := { row := metaDiffersRow, standIns := [], harness := (true, "aa498b5af17b3c3771c1fc0090de479a7a95cc5b026aac755dacbd62c1d0466e"), looks := false }, kinds := [], alts := [], laidByText := true, laidKinds := [.data], laidTests := true, laidLooks := .later }
def MetaDiffersCardSaid : Prop := Claim7.holds Tryd.pinned (.plain (OpenSpec.ofChange metaDiffersSpec)) metaDiffersCard

/-- THE SECOND FORM's CARD OF 'jalousielaw10.MetaPuts'. -/
def metaPutsUptoCard : Claim7 := { stood := { row := metaPutsUptoRow, standIns := [], harness := (true, "aa498b5af17b3c3771c1fc0090de479a7a95cc5b026aac755dacbd62c1d0466e"), looks := false }, kinds := [], alts := [], laidByText := true, laidKinds := [.data], laidTests := true, laidLooks := .later }
def MetaPutsUptoCardSaid : Prop := Claim7.holds Tryd.pinned (.plain (OpenSpec.upto metaPutsSpec)) metaPutsUptoCard

/-- THE SECOND FORM's CARD OF 'jalousielaw10.MetaNewest'. -/
def metaNewestUptoCard : Claim7 := { stood := { row := metaNewestUptoRow, standIns := [], harness := (true, "aa498b5af17b3c3771c1fc0090de479a7a95cc5b026aac755dacbd62c1d0466e"), looks := false }, kinds := [], alts := [], laidByText := true, laidKinds := [.data], laidTests := true, laidLooks := .later }
def MetaNewestUptoCardSaid : Prop := Claim7.holds Tryd.pinned (.plain (OpenSpec.upto metaNewestSpec)) metaNewestUptoCard

/-- THE SECOND FORM's CARD OF 'jalousielaw10.MetaFalls'. -/
def metaFallsUptoCard : Claim7 := { stood := { row := metaFallsUptoRow, standIns := [], harness := (true, "aa498b5af17b3c3771c1fc0090de479a7a95cc5b026aac755dacbd62c1d0466e"), looks := false }, kinds := [], alts := [], laidByText := true, laidKinds := [.data], laidTests := true, laidLooks := .later }
def MetaFallsUptoCardSaid : Prop := Claim7.holds Tryd.pinned (.plain (OpenSpec.upto metaFallsSpec)) metaFallsUptoCard

/-- THE SECOND FORM's CARD OF 'jalousielaw10.MetaOthers'. -/
def metaOthersUptoCard : Claim7 := { stood := { row := metaOthersUptoRow, standIns := [], harness := (true, "aa498b5af17b3c3771c1fc0090de479a7a95cc5b026aac755dacbd62c1d0466e"), looks := false }, kinds := [], alts := [], laidByText := true, laidKinds := [.data], laidTests := true, laidLooks := .later }
def MetaOthersUptoCardSaid : Prop := Claim7.holds Tryd.pinned (.plain (OpenSpec.upto metaOthersSpec)) metaOthersUptoCard

/-- THE SECOND FORM's CARD OF 'jalousielaw10.MetaDiffers'. -/
def metaDiffersUptoCard : Claim7 := { stood := { row := metaDiffersUptoRow, standIns := [], harness := (true, "aa498b5af17b3c3771c1fc0090de479a7a95cc5b026aac755dacbd62c1d0466e"), looks := false }, kinds := [], alts := [], laidByText := true, laidKinds := [.data], laidTests := true, laidLooks := .later }
def MetaDiffersUptoCardSaid : Prop := Claim7.holds Tryd.pinned (.plain (OpenSpec.upto metaDiffersSpec)) metaDiffersUptoCard
end Rows
end Go.Proofs.YtpikcodnonodlaaDoor
