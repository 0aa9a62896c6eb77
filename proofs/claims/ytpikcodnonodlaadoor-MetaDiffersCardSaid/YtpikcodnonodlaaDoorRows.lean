/-
  NARROWER THAN 'FOR EVERY INPUT', by the rows' own cells (each row's printed sentence says how): MetaPuts: laid · MetaNewest: laid · MetaFalls: laid · MetaOthers: laid · MetaDiffers: laid.
  DERIVED. THE GIVEN ROWS OF THIS SEAT. 5 by the template 'for every input the law returns true; each argument reads behind the call as it read before'; 0 by the template 'total and deterministic' (their statements: YtpikcodnonodlaaDoorTotals.lean).
  GIVEN WITH THE SEED: the statements are not yours to turn. If you find one false, say at which input.
  Laid BY PROGRAM, IN A SANDBOX (cutbox-rows.mjs): the forced cells as the released guide's own fill.sh prints them over the translation d3171d01e70b54bc… (all of the seat's roots in one cut). By AI agents, Wed Nov 11 2026. No macro, syntax, notation, axiom, sorry.
-/
import Derived.Test.YtpikcodnonodlaaDoorChecked
import GoSem.Claim
import GoSem.ClaimJoined
import GoSem.ClaimMapViews
import Derived.JoinedTies
import Derived.KernelRfl
namespace Go.Proofs.YtpikcodnonodlaaDoor
/- THE CELL 'sum', in the pinned program and in every row, IS THE sha256 OF THE DUMP (.gsa) THAT YtpikcodnonodlaaDoorProg.lean LOADS. Nothing in Lean hashes anything: it is a label: what it is worth is what the hold of that sum in a sandbox is worth. -/
noncomputable def Tryd.pinned : Pinned := { name := "ytpikcodnonodlaadoor", sum := "d3171d01e70b54bc838d0b4a39daea58ba3e942a6077cfdfde0908d2d9e47f97", checked := Tryd.checked }
namespace Rows
def none {H : Type} : Left H := { results := [], args := [] }

/- WHAT THE LISTED PACKAGE-LEVEL VARIABLES READ AS WHEN THE CALL BEGINS. Each datum BY PROGRAM (the guide's laid-datum.mjs) off the statement by which the dump's own 'gosem.cut.vars' lays the variable. In a bare row this is a premise. The card (YtpikcodnonodlaaDoorCards.lean) ties it to the program's text. -/
def laid_jalousie_crc_effect {H : Type} : DataW H := .agg [.lit (.int .u32 0), .lit (.int .u32 498536548), .lit (.int .u32 997073096), .lit (.int .u32 651767980), .lit (.int .u32 1994146192), .lit (.int .u32 1802195444), .lit (.int .u32 1303535960), .lit (.int .u32 1342533948), .lit (.int .u32 3988292384), .lit (.int .u32 4027552580), .lit (.int .u32 3604390888), .lit (.int .u32 3412177804), .lit (.int .u32 2607071920), .lit (.int .u32 2262029012), .lit (.int .u32 2685067896), .lit (.int .u32 3183342108)]

/-- 'jalousielaw10.MetaPuts': WHATEVER THE INPUT: true; the input reads as it did. -/
def metaPutsSpec : ChangeSpec := { name := "metaPuts", fn := fun _ => fun
  | [d] => { results := [.lit (.bool true)], args := [d] }
  | _ => none }
def metaPutsRow : OpenClaim := { program := "ytpikcodnonodlaadoor", sum := "d3171d01e70b54bc838d0b4a39daea58ba3e942a6077cfdfde0908d2d9e47f97", func := "jalousie/jalousielaw10.MetaPuts", spec := "metaPuts", unfollowed := true, recurses := true, named := ["jalousie/crc.effect"], apart := false, laid := [("jalousie/crc.effect", laid_jalousie_crc_effect)] }
def MetaPutsSaid : Prop := metaPutsRow.holds Tryd.pinned (OpenSpec.ofChange metaPutsSpec)

/-- ITS FALSE NEIGHBOUR: 'it returns false'. Refute it at one input. -/
def metaPutsWrong : ChangeSpec := { name := "metaPuts", fn := fun _ => fun
  | [d] => { results := [.lit (.bool false)], args := [d] }
  | _ => none }
def MetaPutsWrongFalsely : Prop := metaPutsRow.holds Tryd.pinned (OpenSpec.ofChange metaPutsWrong)

/-- 'jalousielaw10.MetaNewest': WHATEVER THE INPUT: true; the input reads as it did. -/
def metaNewestSpec : ChangeSpec := { name := "metaNewest", fn := fun _ => fun
  | [d1, d2, d3] => { results := [.lit (.bool true)], args := [d1, d2, d3] }
  | _ => none }
def metaNewestRow : OpenClaim := { program := "ytpikcodnonodlaadoor", sum := "d3171d01e70b54bc838d0b4a39daea58ba3e942a6077cfdfde0908d2d9e47f97", func := "jalousie/jalousielaw10.MetaNewest", spec := "metaNewest", unfollowed := true, recurses := true, named := ["jalousie/crc.effect"], apart := false, laid := [("jalousie/crc.effect", laid_jalousie_crc_effect)] }
def MetaNewestSaid : Prop := metaNewestRow.holds Tryd.pinned (OpenSpec.ofChange metaNewestSpec)

/-- ITS FALSE NEIGHBOUR: 'it returns false'. Refute it at one input. -/
def metaNewestWrong : ChangeSpec := { name := "metaNewest", fn := fun _ => fun
  | [d1, d2, d3] => { results := [.lit (.bool false)], args := [d1, d2, d3] }
  | _ => none }
def MetaNewestWrongFalsely : Prop := metaNewestRow.holds Tryd.pinned (OpenSpec.ofChange metaNewestWrong)

/-- 'jalousielaw10.MetaFalls': WHATEVER THE INPUT: true; the input reads as it did. -/
def metaFallsSpec : ChangeSpec := { name := "metaFalls", fn := fun _ => fun
  | [d1, d2] => { results := [.lit (.bool true)], args := [d1, d2] }
  | _ => none }
def metaFallsRow : OpenClaim := { program := "ytpikcodnonodlaadoor", sum := "d3171d01e70b54bc838d0b4a39daea58ba3e942a6077cfdfde0908d2d9e47f97", func := "jalousie/jalousielaw10.MetaFalls", spec := "metaFalls", unfollowed := true, recurses := true, named := ["jalousie/crc.effect"], apart := false, laid := [("jalousie/crc.effect", laid_jalousie_crc_effect)] }
def MetaFallsSaid : Prop := metaFallsRow.holds Tryd.pinned (OpenSpec.ofChange metaFallsSpec)

/-- ITS FALSE NEIGHBOUR: 'it returns false'. Refute it at one input. -/
def metaFallsWrong : ChangeSpec := { name := "metaFalls", fn := fun _ => fun
  | [d1, d2] => { results := [.lit (.bool false)], args := [d1, d2] }
  | _ => none }
def MetaFallsWrongFalsely : Prop := metaFallsRow.holds Tryd.pinned (OpenSpec.ofChange metaFallsWrong)

/-- 'jalousielaw10.MetaOthers': WHATEVER THE INPUT: true; the input reads as it did. -/
def metaOthersSpec : ChangeSpec := { name := "metaOthers", fn := fun _ => fun
  | [d1, d2, d3] => { results := [.lit (.bool true)], args := [d1, d2, d3] }
  | _ => none }
def metaOthersRow : OpenClaim := { program := "ytpikcodnonodlaadoor", sum := "d3171d01e70b54bc838d0b4a39daea58ba3e942a6077cfdfde0908d2d9e47f97", func := "jalousie/jalousielaw10.MetaOthers", spec := "metaOthers", unfollowed := true, recurses := true, named := ["jalousie/crc.effect"], apart := false, laid := [("jalousie/crc.effect", laid_jalousie_crc_effect)] }
def MetaOthersSaid : Prop := metaOthersRow.holds Tryd.pinned (OpenSpec.ofChange metaOthersSpec)

/-- ITS FALSE NEIGHBOUR: 'it returns false'. Refute it at one input. -/
def metaOthersWrong : ChangeSpec := { name := "metaOthers", fn := fun _ => fun
  | [d1, d2, d3] => { results := [.lit (.bool false)], args := [d1, d2, d3] }
  | _ => none }
def MetaOthersWrongFalsely : Prop := metaOthersRow.holds Tryd.pinned (OpenSpec.ofChange metaOthersWrong)

/-- 'jalousielaw10.MetaDiffers': WHATEVER THE INPUT: true; the input reads as it did. -/
def metaDiffersSpec : ChangeSpec := { name := "metaDiffers", fn := fun _ => fun
  | [d1, d2] => { results := [.lit (.bool true)], args := [d1, d2] }
  | _ => none }
def metaDiffersRow : OpenClaim := { program := "ytpikcodnonodlaadoor", sum := "d3171d01e70b54bc838d0b4a39daea58ba3e942a6077cfdfde0908d2d9e47f97", func := "jalousie/jalousielaw10.MetaDiffers", spec := "metaDiffers", unfollowed := true, recurses := true, named := ["jalousie/crc.effect"], apart := false, laid := [("jalousie/crc.effect", laid_jalousie_crc_effect)] }
def MetaDiffersSaid : Prop := metaDiffersRow.holds Tryd.pinned (OpenSpec.ofChange metaDiffersSpec)

/-- ITS FALSE NEIGHBOUR: 'it returns false'. Refute it at one input. -/
def metaDiffersWrong : ChangeSpec := { name := "metaDiffers", fn := fun _ => fun
  | [d1, d2] => { results := [.lit (.bool false)], args := [d1, d2] }
  | _ => none }
def MetaDiffersWrongFalsely : Prop := metaDiffersRow.holds Tryd.pinned (OpenSpec.ofChange metaDiffersWrong)

/- THE SECOND FORM. 'bulk': how many values and letters a reading holds, each counted each time it is reached (what is shared counts as often as it is met; a slice's spare places count too). A statement '..UptoSaid' is the law's where the arguments, and the package variables that the reading takes, are together of bulk at most 1048576: NARROWER than '..Said'. Prove '..Said' where nothing that the law and all that it calls make is longer than what came in: it says more and counts as full. Else prove '..UptoSaid'. A law counts once. -/
mutual
def uptoBulk {H : Type} : DataW H → Nat
  | .lit (.string bytes) => bytes.length + 1
  | .lit _ => 1
  | .nil => 1
  | .ptr d => uptoBulk d + 1
  | .slice elems spare => uptoBulkAll elems + uptoBulkAll spare + 1
  | .agg parts => uptoBulkAll parts + 1
  | .iface _ d => uptoBulk d + 1
  | .map entries => uptoBulkEntries entries + 1
  | .held _ => 1
def uptoBulkAll {H : Type} : List (DataW H) → Nat
  | [] => 0
  | d :: r => uptoBulk d + uptoBulkAll r
def uptoBulkEntries {H : Type} : List (Lit × DataW H) → Nat
  | [] => 0
  | x :: r => uptoBulkEntry x + uptoBulkEntries r
def uptoBulkEntry {H : Type} : Lit × DataW H → Nat
  | (.string bytes, d) => bytes.length + uptoBulk d + 1
  | (_, d) => uptoBulk d + 1
 end
def uptoSmall : (H : Type) → List (DataW H) → Bool := fun _ ds => decide (uptoBulkAll ds ≤ 1048576)
def OpenSpec.upto (s : _root_.Go.ChangeSpec) : _root_.Go.OpenSpec := { _root_.Go.OpenSpec.ofChange s with cond := some uptoSmall }

/-- 'jalousielaw10.MetaPuts', WHERE WHAT IT READS IS OF BULK AT MOST 1048576: true; the input reads as it did. -/
def metaPutsUptoRow : OpenClaim := { program := "ytpikcodnonodlaadoor", sum := "d3171d01e70b54bc838d0b4a39daea58ba3e942a6077cfdfde0908d2d9e47f97", func := "jalousie/jalousielaw10.MetaPuts", spec := "metaPuts", unfollowed := true, recurses := true, named := ["jalousie/crc.effect"], apart := false, laid := [("jalousie/crc.effect", laid_jalousie_crc_effect)], narrowed := true }
def MetaPutsUptoSaid : Prop := metaPutsUptoRow.holds Tryd.pinned (OpenSpec.upto metaPutsSpec)

/-- 'jalousielaw10.MetaNewest', WHERE WHAT IT READS IS OF BULK AT MOST 1048576: true; the input reads as it did. -/
def metaNewestUptoRow : OpenClaim := { program := "ytpikcodnonodlaadoor", sum := "d3171d01e70b54bc838d0b4a39daea58ba3e942a6077cfdfde0908d2d9e47f97", func := "jalousie/jalousielaw10.MetaNewest", spec := "metaNewest", unfollowed := true, recurses := true, named := ["jalousie/crc.effect"], apart := false, laid := [("jalousie/crc.effect", laid_jalousie_crc_effect)], narrowed := true }
def MetaNewestUptoSaid : Prop := metaNewestUptoRow.holds Tryd.pinned (OpenSpec.upto metaNewestSpec)

/-- 'jalousielaw10.MetaFalls', WHERE WHAT IT READS IS OF BULK AT MOST 1048576: true; the input reads as it did. -/
def metaFallsUptoRow : OpenClaim := { program := "ytpikcodnonodlaadoor", sum := "d3171d01e70b54bc838d0b4a39daea58ba3e942a6077cfdfde0908d2d9e47f97", func := "jalousie/jalousielaw10.MetaFalls", spec := "metaFalls", unfollowed := true, recurses := true, named := ["jalousie/crc.effect"], apart := false, laid := [("jalousie/crc.effect", laid_jalousie_crc_effect)], narrowed := true }
def MetaFallsUptoSaid : Prop := metaFallsUptoRow.holds Tryd.pinned (OpenSpec.upto metaFallsSpec)

/-- 'jalousielaw10.MetaOthers', WHERE WHAT IT READS IS OF BULK AT MOST 1048576: true; the input reads as it did. -/
def metaOthersUptoRow : OpenClaim := { program := "ytpikcodnonodlaadoor", sum := "d3171d01e70b54bc838d0b4a39daea58ba3e942a6077cfdfde0908d2d9e47f97", func := "jalousie/jalousielaw10.MetaOthers", spec := "metaOthers", unfollowed := true, recurses := true, named := ["jalousie/crc.effect"], apart := false, laid := [("jalousie/crc.effect", laid_jalousie_crc_effect)], narrowed := true }
def MetaOthersUptoSaid : Prop := metaOthersUptoRow.holds Tryd.pinned (OpenSpec.upto metaOthersSpec)

/-- 'jalousielaw10.MetaDiffers', WHERE WHAT IT READS IS OF BULK AT MOST 1048576: true; the input reads as it did. -/
def metaDiffersUptoRow : OpenClaim := { program := "ytpikcodnonodlaadoor", sum := "d3171d01e70b54bc838d0b4a39daea58ba3e942a6077cfdfde0908d2d9e47f97", func := "jalousie/jalousielaw10.MetaDiffers", spec := "metaDiffers", unfollowed := true, recurses := true, named := ["jalousie/crc.effect"], apart := false, laid := [("jalousie/crc.effect", laid_jalousie_crc_effect)], narrowed := true }
def MetaDiffersUptoSaid : Prop := metaDiffersUptoRow.holds Tryd.pinned (OpenSpec.upto metaDiffersSpec)

end Rows
end Go.Proofs.YtpikcodnonodlaaDoor
