/-
  NARROWER THAN 'FOR EVERY INPUT', by the rows' own cells (each row's printed sentence says how): CellsPack: laid · CellsUnpack: laid · CellsBack: laid · CellsFronts: laid · CellsKinds: laid.
  DERIVED. THE GIVEN ROWS OF THIS SEAT. 5 by the template 'for every input the law returns true; each argument reads behind the call as it read before'; 0 by the template 'total and deterministic' (their statements: YtlehajpadiiicaaDoorTotals.lean).
  GIVEN WITH THE SEED: the statements are not yours to turn. If you find one false, say at which input.
  Laid BY PROGRAM, IN A SANDBOX (cutbox-rows.mjs): the forced cells as the released guide's own fill.sh prints them over the translation ae10dec93d11d28e… (all of the seat's roots in one cut). By AI agents, Wed Nov 11 2026. No macro, syntax, notation, axiom, sorry.
-/
import Derived.Test.YtlehajpadiiicaaDoorChecked
import GoSem.Claim
import GoSem.ClaimJoined
import GoSem.ClaimMapViews
import Derived.JoinedTies
import Derived.KernelRfl
namespace Go.Proofs.YtlehajpadiiicaaDoor
/- THE CELL 'sum', in the pinned program and in every row, IS THE sha256 OF THE DUMP (.gsa) THAT YtlehajpadiiicaaDoorProg.lean LOADS. Nothing in Lean hashes anything: it is a label: what it is worth is what the hold of that sum in a sandbox is worth. -/
noncomputable def Tryd.pinned : Pinned := { name := "ytlehajpadiiicaadoor", sum := "ae10dec93d11d28e0448a718c93bbd17eabf55d961f899b47ac452e91f2995d5", checked := Tryd.checked }
namespace Rows
def none {H : Type} : Left H := { results := [], args := [] }

/- WHAT THE LISTED PACKAGE-LEVEL VARIABLES READ AS WHEN THE CALL BEGINS. Each datum BY PROGRAM (the guide's laid-datum.mjs) off the statement by which the dump's own 'gosem.cut.vars' lays the variable. In a bare row this is a premise. The card (YtlehajpadiiicaaDoorCards.lean) ties it to the program's text. -/
def laid_jalousie_crc_effect {H : Type} : DataW H := .agg [.lit (.int .u32 0), .lit (.int .u32 498536548), .lit (.int .u32 997073096), .lit (.int .u32 651767980), .lit (.int .u32 1994146192), .lit (.int .u32 1802195444), .lit (.int .u32 1303535960), .lit (.int .u32 1342533948), .lit (.int .u32 3988292384), .lit (.int .u32 4027552580), .lit (.int .u32 3604390888), .lit (.int .u32 3412177804), .lit (.int .u32 2607071920), .lit (.int .u32 2262029012), .lit (.int .u32 2685067896), .lit (.int .u32 3183342108)]

/-- 'jalousielaw07.CellsPack': WHATEVER THE INPUT: true; the input reads as it did. -/
def cellsPackSpec : ChangeSpec := { name := "cellsPack", fn := fun _ => fun
  | [d1, d2] => { results := [.lit (.bool true)], args := [d1, d2] }
  | _ => none }
def cellsPackRow : OpenClaim := { program := "ytlehajpadiiicaadoor", sum := "ae10dec93d11d28e0448a718c93bbd17eabf55d961f899b47ac452e91f2995d5", func := "jalousie/jalousielaw07.CellsPack", spec := "cellsPack", unfollowed := true, recurses := true, named := ["jalousie/crc.effect"], apart := false, laid := [("jalousie/crc.effect", laid_jalousie_crc_effect)] }
def CellsPackSaid : Prop := cellsPackRow.holds Tryd.pinned (OpenSpec.ofChange cellsPackSpec)

/-- ITS FALSE NEIGHBOUR: 'it returns false'. Refute it at one input. -/
def cellsPackWrong : ChangeSpec := { name := "cellsPack", fn := fun _ => fun
  | [d1, d2] => { results := [.lit (.bool false)], args := [d1, d2] }
  | _ => none }
def CellsPackWrongFalsely : Prop := cellsPackRow.holds Tryd.pinned (OpenSpec.ofChange cellsPackWrong)

/-- 'jalousielaw07.CellsUnpack': WHATEVER THE INPUT: true; the input reads as it did. -/
def cellsUnpackSpec : ChangeSpec := { name := "cellsUnpack", fn := fun _ => fun
  | [d] => { results := [.lit (.bool true)], args := [d] }
  | _ => none }
def cellsUnpackRow : OpenClaim := { program := "ytlehajpadiiicaadoor", sum := "ae10dec93d11d28e0448a718c93bbd17eabf55d961f899b47ac452e91f2995d5", func := "jalousie/jalousielaw07.CellsUnpack", spec := "cellsUnpack", unfollowed := true, recurses := true, named := ["jalousie/crc.effect"], apart := false, laid := [("jalousie/crc.effect", laid_jalousie_crc_effect)] }
def CellsUnpackSaid : Prop := cellsUnpackRow.holds Tryd.pinned (OpenSpec.ofChange cellsUnpackSpec)

/-- ITS FALSE NEIGHBOUR: 'it returns false'. Refute it at one input. -/
def cellsUnpackWrong : ChangeSpec := { name := "cellsUnpack", fn := fun _ => fun
  | [d] => { results := [.lit (.bool false)], args := [d] }
  | _ => none }
def CellsUnpackWrongFalsely : Prop := cellsUnpackRow.holds Tryd.pinned (OpenSpec.ofChange cellsUnpackWrong)

/-- 'jalousielaw07.CellsBack': WHATEVER THE INPUT: true; the input reads as it did. -/
def cellsBackSpec : ChangeSpec := { name := "cellsBack", fn := fun _ => fun
  | [d1, d2, d3] => { results := [.lit (.bool true)], args := [d1, d2, d3] }
  | _ => none }
def cellsBackRow : OpenClaim := { program := "ytlehajpadiiicaadoor", sum := "ae10dec93d11d28e0448a718c93bbd17eabf55d961f899b47ac452e91f2995d5", func := "jalousie/jalousielaw07.CellsBack", spec := "cellsBack", unfollowed := true, recurses := true, named := ["jalousie/crc.effect"], apart := false, laid := [("jalousie/crc.effect", laid_jalousie_crc_effect)] }
def CellsBackSaid : Prop := cellsBackRow.holds Tryd.pinned (OpenSpec.ofChange cellsBackSpec)

/-- ITS FALSE NEIGHBOUR: 'it returns false'. Refute it at one input. -/
def cellsBackWrong : ChangeSpec := { name := "cellsBack", fn := fun _ => fun
  | [d1, d2, d3] => { results := [.lit (.bool false)], args := [d1, d2, d3] }
  | _ => none }
def CellsBackWrongFalsely : Prop := cellsBackRow.holds Tryd.pinned (OpenSpec.ofChange cellsBackWrong)

/-- 'jalousielaw07.CellsFronts': WHATEVER THE INPUT: true; the input reads as it did. -/
def cellsFrontsSpec : ChangeSpec := { name := "cellsFronts", fn := fun _ => fun
  | [d1, d2, d3] => { results := [.lit (.bool true)], args := [d1, d2, d3] }
  | _ => none }
def cellsFrontsRow : OpenClaim := { program := "ytlehajpadiiicaadoor", sum := "ae10dec93d11d28e0448a718c93bbd17eabf55d961f899b47ac452e91f2995d5", func := "jalousie/jalousielaw07.CellsFronts", spec := "cellsFronts", unfollowed := true, recurses := true, named := ["jalousie/crc.effect"], apart := false, laid := [("jalousie/crc.effect", laid_jalousie_crc_effect)] }
def CellsFrontsSaid : Prop := cellsFrontsRow.holds Tryd.pinned (OpenSpec.ofChange cellsFrontsSpec)

/-- ITS FALSE NEIGHBOUR: 'it returns false'. Refute it at one input. -/
def cellsFrontsWrong : ChangeSpec := { name := "cellsFronts", fn := fun _ => fun
  | [d1, d2, d3] => { results := [.lit (.bool false)], args := [d1, d2, d3] }
  | _ => none }
def CellsFrontsWrongFalsely : Prop := cellsFrontsRow.holds Tryd.pinned (OpenSpec.ofChange cellsFrontsWrong)

/-- 'jalousielaw07.CellsKinds': WHATEVER THE INPUT: true; the input reads as it did. -/
def cellsKindsSpec : ChangeSpec := { name := "cellsKinds", fn := fun _ => fun
  | [d1, d2, d3] => { results := [.lit (.bool true)], args := [d1, d2, d3] }
  | _ => none }
def cellsKindsRow : OpenClaim := { program := "ytlehajpadiiicaadoor", sum := "ae10dec93d11d28e0448a718c93bbd17eabf55d961f899b47ac452e91f2995d5", func := "jalousie/jalousielaw07.CellsKinds", spec := "cellsKinds", unfollowed := true, recurses := true, named := ["jalousie/crc.effect"], apart := false, laid := [("jalousie/crc.effect", laid_jalousie_crc_effect)] }
def CellsKindsSaid : Prop := cellsKindsRow.holds Tryd.pinned (OpenSpec.ofChange cellsKindsSpec)

/-- ITS FALSE NEIGHBOUR: 'it returns false'. Refute it at one input. -/
def cellsKindsWrong : ChangeSpec := { name := "cellsKinds", fn := fun _ => fun
  | [d1, d2, d3] => { results := [.lit (.bool false)], args := [d1, d2, d3] }
  | _ => none }
def CellsKindsWrongFalsely : Prop := cellsKindsRow.holds Tryd.pinned (OpenSpec.ofChange cellsKindsWrong)

/- THE SECOND FORM. 'bulk': how many values and letters a reading holds, each counted each time it is reached (what is shared counts as often as it is met; a slice's spare places count too). A statement '..UptoSaid' is the law's where the arguments, and the package variables that the reading takes, are together of bulk at most 1048576: NARROWER than '..Said'. Prove '..Said' where nothing that the law and all that it calls make is longer than what came in: it says more and counts as full. Else prove '..UptoSaid'. A law counts once. -/
mutual
def uptoBulk {H : Type} : DataW H → Nat
  | .lit (.string bytes) => bytes.length + 1
  | .lit _ => 1
  | .nil => 1
  | .ptr d => uptoBulk d + 1
  | .slice elems spare => uptoBulkAll elems + uptoBulkAll spare + 1
  | .agg parts => uptoBulkAll parts + 1
  | .iface _ d => uptoBulk d + 1
  | .map entries => uptoBulkEntries entries + 1
  | .held _ => 1
def uptoBulkAll {H : Type} : List (DataW H) → Nat
  | [] => 0
  | d :: r => uptoBulk d + uptoBulkAll r
def uptoBulkEntries {H : Type} : List (Lit × DataW H) → Nat
  | [] => 0
  | x :: r => uptoBulkEntry x + uptoBulkEntries r
def uptoBulkEntry {H : Type} : Lit × DataW H → Nat
  | (.string bytes, d) => bytes.length + uptoBulk d + 1
  | (_, d) => uptoBulk d + 1
 end
def uptoSmall : (H : Type) → List (DataW H) → Bool := fun _ ds => decide (uptoBulkAll ds ≤ 1048576)
def OpenSpec.upto (s : _root_.Go.ChangeSpec) : _root_.Go.OpenSpec := { _root_.Go.OpenSpec.ofChange s with cond := some uptoSmall }

/-- 'jalousielaw07.CellsPack', WHERE WHAT IT READS IS OF BULK AT MOST 1048576: true; the input reads as it did. -/
def cellsPackUptoRow : OpenClaim := { program := "ytlehajpadiiicaadoor", sum := "ae10dec93d11d28e0448a718c93bbd17eabf55d961f899b47ac452e91f2995d5", func := "jalousie/jalousielaw07.CellsPack", spec := "cellsPack", unfollowed := true, recurses := true, named := ["jalousie/crc.effect"], apart := false, laid := [("jalousie/crc.effect", laid_jalousie_crc_effect)], narrowed := true }
def CellsPackUptoSaid : Prop := cellsPackUptoRow.holds Tryd.pinned (OpenSpec.upto cellsPackSpec)

/-- 'jalousielaw07.CellsUnpack', WHERE WHAT IT READS IS OF BULK AT MOST 1048576: true; the input reads as it did. -/
def cellsUnpackUptoRow : OpenClaim := { program := "ytlehajpadiiicaadoor", sum := "ae10dec93d11d28e0448a718c93bbd17eabf55d961f899b47ac452e91f2995d5", func := "jalousie/jalousielaw07.CellsUnpack", spec := "cellsUnpack", unfollowed := true, recurses := true, named := ["jalousie/crc.effect"], apart := false, laid := [("jalousie/crc.effect", laid_jalousie_crc_effect)], narrowed := true }
def CellsUnpackUptoSaid : Prop := cellsUnpackUptoRow.holds Tryd.pinned (OpenSpec.upto cellsUnpackSpec)

/-- 'jalousielaw07.CellsBack', WHERE WHAT IT READS IS OF BULK AT MOST 1048576: true; the input reads as it did. -/
def cellsBackUptoRow : OpenClaim := { program := "ytlehajpadiiicaadoor", sum := "ae10dec93d11d28e0448a718c93bbd17eabf55d961f899b47ac452e91f2995d5", func := "jalousie/jalousielaw07.CellsBack", spec := "cellsBack", unfollowed := true, recurses := true, named := ["jalousie/crc.effect"], apart := false, laid := [("jalousie/crc.effect", laid_jalousie_crc_effect)], narrowed := true }
def CellsBackUptoSaid : Prop := cellsBackUptoRow.holds Tryd.pinned (OpenSpec.upto cellsBackSpec)

/-- 'jalousielaw07.CellsFronts', WHERE WHAT IT READS IS OF BULK AT MOST 1048576: true; the input reads as it did. -/
def cellsFrontsUptoRow : OpenClaim := { program := "ytlehajpadiiicaadoor", sum := "ae10dec93d11d28e0448a718c93bbd17eabf55d961f899b47ac452e91f2995d5", func := "jalousie/jalousielaw07.CellsFronts", spec := "cellsFronts", unfollowed := true, recurses := true, named := ["jalousie/crc.effect"], apart := false, laid := [("jalousie/crc.effect", laid_jalousie_crc_effect)], narrowed := true }
def CellsFrontsUptoSaid : Prop := cellsFrontsUptoRow.holds Tryd.pinned (OpenSpec.upto cellsFrontsSpec)

/-- 'jalousielaw07.CellsKinds', WHERE WHAT IT READS IS OF BULK AT MOST 1048576: true; the input reads as it did. -/
def cellsKindsUptoRow : OpenClaim := { program := "ytlehajpadiiicaadoor", sum := "ae10dec93d11d28e0448a718c93bbd17eabf55d961f899b47ac452e91f2995d5", func := "jalousie/jalousielaw07.CellsKinds", spec := "cellsKinds", unfollowed := true, recurses := true, named := ["jalousie/crc.effect"], apart := false, laid := [("jalousie/crc.effect", laid_jalousie_crc_effect)], narrowed := true }
def CellsKindsUptoSaid : Prop := cellsKindsUptoRow.holds Tryd.pinned (OpenSpec.upto cellsKindsSpec)

end Rows
end Go.Proofs.YtlehajpadiiicaaDoor
