/-
  NARROWER THAN 'FOR EVERY INPUT', by the rows' own cells (each row's printed sentence says how): NodePuts: laid · NodeGets: laid · NodeBack: laid · NodeSizes: laid · NodeRises: laid.
  DERIVED. THE GIVEN ROWS OF THIS SEAT. 5 by the template 'for every input the law returns true; each argument reads behind the call as it read before'; 0 by the template 'total and deterministic' (their statements: YtnponjdnjkegmaaDoorTotals.lean).
  GIVEN WITH THE SEED: the statements are not yours to turn. If you find one false, say at which input.
  Laid BY PROGRAM, IN A SANDBOX (cutbox-rows.mjs): the forced cells as the released guide's own fill.sh prints them over the translation cd2c6502cf8cd927… (all of the seat's roots in one cut). By AI agents, Wed Nov 11 2026. No macro, syntax, notation, axiom, sorry.
-/
import Derived.Test.YtnponjdnjkegmaaDoorChecked
import GoSem.Claim
import GoSem.ClaimJoined
import GoSem.ClaimMapViews
import Derived.JoinedTies
import Derived.KernelRfl
namespace Go.Proofs.YtnponjdnjkegmaaDoor
/- THE CELL 'sum', in the pinned program and in every row, IS THE sha256 OF THE DUMP (.gsa) THAT YtnponjdnjkegmaaDoorProg.lean LOADS. Nothing in Lean hashes anything: it is a label: what it is worth is what the hold of that sum in a sandbox is worth. -/
noncomputable def Tryd.pinned : Pinned := { name := "ytnponjdnjkegmaadoor", sum := "cd2c6502cf8cd92756a081c2a5498a63fb07f9ed5a83b17acf9b3f77d1b1ee3e", checked := Tryd.checked }
namespace Rows
def none {H : Type} : Left H := { results := [], args := [] }

/- WHAT THE LISTED PACKAGE-LEVEL VARIABLES READ AS WHEN THE CALL BEGINS. Each datum BY PROGRAM (the guide's laid-datum.mjs) off the statement by which the dump's own 'gosem.cut.vars' lays the variable. In a bare row this is a premise. The card (YtnponjdnjkegmaaDoorCards.lean) ties it to the program's text. -/
def laid_jalousie_crc_effect {H : Type} : DataW H := .agg [.lit (.int .u32 0), .lit (.int .u32 498536548), .lit (.int .u32 997073096), .lit (.int .u32 651767980), .lit (.int .u32 1994146192), .lit (.int .u32 1802195444), .lit (.int .u32 1303535960), .lit (.int .u32 1342533948), .lit (.int .u32 3988292384), .lit (.int .u32 4027552580), .lit (.int .u32 3604390888), .lit (.int .u32 3412177804), .lit (.int .u32 2607071920), .lit (.int .u32 2262029012), .lit (.int .u32 2685067896), .lit (.int .u32 3183342108)]

/-- 'jalousielaw08.NodePuts': WHATEVER THE INPUT: true; the input reads as it did. -/
def nodePutsSpec : ChangeSpec := { name := "nodePuts", fn := fun _ => fun
  | [d] => { results := [.lit (.bool true)], args := [d] }
  | _ => none }
def nodePutsRow : OpenClaim := { program := "ytnponjdnjkegmaadoor", sum := "cd2c6502cf8cd92756a081c2a5498a63fb07f9ed5a83b17acf9b3f77d1b1ee3e", func := "jalousie/jalousielaw08.NodePuts", spec := "nodePuts", unfollowed := true, recurses := true, named := ["jalousie/crc.effect"], apart := false, laid := [("jalousie/crc.effect", laid_jalousie_crc_effect)] }
def NodePutsSaid : Prop := nodePutsRow.holds Tryd.pinned (OpenSpec.ofChange nodePutsSpec)

/-- ITS FALSE NEIGHBOUR: 'it returns false'. Refute it at one input. -/
def nodePutsWrong : ChangeSpec := { name := "nodePuts", fn := fun _ => fun
  | [d] => { results := [.lit (.bool false)], args := [d] }
  | _ => none }
def NodePutsWrongFalsely : Prop := nodePutsRow.holds Tryd.pinned (OpenSpec.ofChange nodePutsWrong)

/-- 'jalousielaw08.NodeGets': WHATEVER THE INPUT: true; the input reads as it did. -/
def nodeGetsSpec : ChangeSpec := { name := "nodeGets", fn := fun _ => fun
  | [d1, d2, d3] => { results := [.lit (.bool true)], args := [d1, d2, d3] }
  | _ => none }
def nodeGetsRow : OpenClaim := { program := "ytnponjdnjkegmaadoor", sum := "cd2c6502cf8cd92756a081c2a5498a63fb07f9ed5a83b17acf9b3f77d1b1ee3e", func := "jalousie/jalousielaw08.NodeGets", spec := "nodeGets", unfollowed := true, recurses := true, named := ["jalousie/crc.effect"], apart := false, laid := [("jalousie/crc.effect", laid_jalousie_crc_effect)] }
def NodeGetsSaid : Prop := nodeGetsRow.holds Tryd.pinned (OpenSpec.ofChange nodeGetsSpec)

/-- ITS FALSE NEIGHBOUR: 'it returns false'. Refute it at one input. -/
def nodeGetsWrong : ChangeSpec := { name := "nodeGets", fn := fun _ => fun
  | [d1, d2, d3] => { results := [.lit (.bool false)], args := [d1, d2, d3] }
  | _ => none }
def NodeGetsWrongFalsely : Prop := nodeGetsRow.holds Tryd.pinned (OpenSpec.ofChange nodeGetsWrong)

/-- 'jalousielaw08.NodeBack': WHATEVER THE INPUT: true; the input reads as it did. -/
def nodeBackSpec : ChangeSpec := { name := "nodeBack", fn := fun _ => fun
  | [d] => { results := [.lit (.bool true)], args := [d] }
  | _ => none }
def nodeBackRow : OpenClaim := { program := "ytnponjdnjkegmaadoor", sum := "cd2c6502cf8cd92756a081c2a5498a63fb07f9ed5a83b17acf9b3f77d1b1ee3e", func := "jalousie/jalousielaw08.NodeBack", spec := "nodeBack", unfollowed := true, recurses := true, named := ["jalousie/crc.effect"], apart := false, laid := [("jalousie/crc.effect", laid_jalousie_crc_effect)] }
def NodeBackSaid : Prop := nodeBackRow.holds Tryd.pinned (OpenSpec.ofChange nodeBackSpec)

/-- ITS FALSE NEIGHBOUR: 'it returns false'. Refute it at one input. -/
def nodeBackWrong : ChangeSpec := { name := "nodeBack", fn := fun _ => fun
  | [d] => { results := [.lit (.bool false)], args := [d] }
  | _ => none }
def NodeBackWrongFalsely : Prop := nodeBackRow.holds Tryd.pinned (OpenSpec.ofChange nodeBackWrong)

/-- 'jalousielaw08.NodeSizes': WHATEVER THE INPUT: true; the input reads as it did. -/
def nodeSizesSpec : ChangeSpec := { name := "nodeSizes", fn := fun _ => fun
  | [d] => { results := [.lit (.bool true)], args := [d] }
  | _ => none }
def nodeSizesRow : OpenClaim := { program := "ytnponjdnjkegmaadoor", sum := "cd2c6502cf8cd92756a081c2a5498a63fb07f9ed5a83b17acf9b3f77d1b1ee3e", func := "jalousie/jalousielaw08.NodeSizes", spec := "nodeSizes", unfollowed := true, recurses := true, named := ["jalousie/crc.effect"], apart := false, laid := [("jalousie/crc.effect", laid_jalousie_crc_effect)] }
def NodeSizesSaid : Prop := nodeSizesRow.holds Tryd.pinned (OpenSpec.ofChange nodeSizesSpec)

/-- ITS FALSE NEIGHBOUR: 'it returns false'. Refute it at one input. -/
def nodeSizesWrong : ChangeSpec := { name := "nodeSizes", fn := fun _ => fun
  | [d] => { results := [.lit (.bool false)], args := [d] }
  | _ => none }
def NodeSizesWrongFalsely : Prop := nodeSizesRow.holds Tryd.pinned (OpenSpec.ofChange nodeSizesWrong)

/-- 'jalousielaw08.NodeRises': WHATEVER THE INPUT: true; the input reads as it did. -/
def nodeRisesSpec : ChangeSpec := { name := "nodeRises", fn := fun _ => fun
  | [d1, d2] => { results := [.lit (.bool true)], args := [d1, d2] }
  | _ => none }
def nodeRisesRow : OpenClaim := { program := "ytnponjdnjkegmaadoor", sum := "cd2c6502cf8cd92756a081c2a5498a63fb07f9ed5a83b17acf9b3f77d1b1ee3e", func := "jalousie/jalousielaw08.NodeRises", spec := "nodeRises", unfollowed := true, recurses := true, named := ["jalousie/crc.effect"], apart := false, laid := [("jalousie/crc.effect", laid_jalousie_crc_effect)] }
def NodeRisesSaid : Prop := nodeRisesRow.holds Tryd.pinned (OpenSpec.ofChange nodeRisesSpec)

/-- ITS FALSE NEIGHBOUR: 'it returns false'. Refute it at one input. -/
def nodeRisesWrong : ChangeSpec := { name := "nodeRises", fn := fun _ => fun
  | [d1, d2] => { results := [.lit (.bool false)], args := [d1, d2] }
  | _ => none }
def NodeRisesWrongFalsely : Prop := nodeRisesRow.holds Tryd.pinned (OpenSpec.ofChange nodeRisesWrong)

/- THE SECOND FORM. 'bulk': how many values and letters a reading holds, each counted each time it is reached (what is shared counts as often as it is met; a slice's spare places count too). A statement '..UptoSaid' is the law's where the arguments, and the package variables that the reading takes, are together of bulk at most 1048576: NARROWER than '..Said'. Prove '..Said' where nothing that the law and all that it calls make is longer than what came in: it says more and counts as full. Else prove '..UptoSaid'. A law counts once. -/
mutual
def uptoBulk {H : Type} : DataW H → Nat
  | .lit (.string bytes) => bytes.length + 1
  | .lit _ => 1
  | .nil => 1
  | .ptr d => uptoBulk d + 1
  | .slice elems spare => uptoBulkAll elems + uptoBulkAll spare + 1
  | .agg parts => uptoBulkAll parts + 1
  | .iface _ d => uptoBulk d + 1
  | .map entries => uptoBulkEntries entries + 1
  | .held _ => 1
def uptoBulkAll {H : Type} : List (DataW H) → Nat
  | [] => 0
  | d :: r => uptoBulk d + uptoBulkAll r
def uptoBulkEntries {H : Type} : List (Lit × DataW H) → Nat
  | [] => 0
  | x :: r => uptoBulkEntry x + uptoBulkEntries r
def uptoBulkEntry {H : Type} : Lit × DataW H → Nat
  | (.string bytes, d) => bytes.length + uptoBulk d + 1
  | (_, d) => uptoBulk d + 1
 end
def uptoSmall : (H : Type) → List (DataW H) → Bool := fun _ ds => decide (uptoBulkAll ds ≤ 1048576)
def OpenSpec.upto (s : _root_.Go.ChangeSpec) : _root_.Go.OpenSpec := { _root_.Go.OpenSpec.ofChange s with cond := some uptoSmall }

/-- 'jalousielaw08.NodePuts', WHERE WHAT IT READS IS OF BULK AT MOST 1048576: true; the input reads as it did. -/
def nodePutsUptoRow : OpenClaim := { program := "ytnponjdnjkegmaadoor", sum := "cd2c6502cf8cd92756a081c2a5498a63fb07f9ed5a83b17acf9b3f77d1b1ee3e", func := "jalousie/jalousielaw08.NodePuts", spec := "nodePuts", unfollowed := true, recurses := true, named := ["jalousie/crc.effect"], apart := false, laid := [("jalousie/crc.effect", laid_jalousie_crc_effect)], narrowed := true }
def NodePutsUptoSaid : Prop := nodePutsUptoRow.holds Tryd.pinned (OpenSpec.upto nodePutsSpec)

/-- 'jalousielaw08.NodeGets', WHERE WHAT IT READS IS OF BULK AT MOST 1048576: true; the input reads as it did. -/
def nodeGetsUptoRow : OpenClaim := { program := "ytnponjdnjkegmaadoor", sum := "cd2c6502cf8cd92756a081c2a5498a63fb07f9ed5a83b17acf9b3f77d1b1ee3e", func := "jalousie/jalousielaw08.NodeGets", spec := "nodeGets", unfollowed := true, recurses := true, named := ["jalousie/crc.effect"], apart := false, laid := [("jalousie/crc.effect", laid_jalousie_crc_effect)], narrowed := true }
def NodeGetsUptoSaid : Prop := nodeGetsUptoRow.holds Tryd.pinned (OpenSpec.upto nodeGetsSpec)

/-- 'jalousielaw08.NodeBack', WHERE WHAT IT READS IS OF BULK AT MOST 1048576: true; the input reads as it did. -/
def nodeBackUptoRow : OpenClaim := { program := "ytnponjdnjkegmaadoor", sum := "cd2c6502cf8cd92756a081c2a5498a63fb07f9ed5a83b17acf9b3f77d1b1ee3e", func := "jalousie/jalousielaw08.NodeBack", spec := "nodeBack", unfollowed := true, recurses := true, named := ["jalousie/crc.effect"], apart := false, laid := [("jalousie/crc.effect", laid_jalousie_crc_effect)], narrowed := true }
def NodeBackUptoSaid : Prop := nodeBackUptoRow.holds Tryd.pinned (OpenSpec.upto nodeBackSpec)

/-- 'jalousielaw08.NodeSizes', WHERE WHAT IT READS IS OF BULK AT MOST 1048576: true; the input reads as it did. -/
def nodeSizesUptoRow : OpenClaim := { program := "ytnponjdnjkegmaadoor", sum := "cd2c6502cf8cd92756a081c2a5498a63fb07f9ed5a83b17acf9b3f77d1b1ee3e", func := "jalousie/jalousielaw08.NodeSizes", spec := "nodeSizes", unfollowed := true, recurses := true, named := ["jalousie/crc.effect"], apart := false, laid := [("jalousie/crc.effect", laid_jalousie_crc_effect)], narrowed := true }
def NodeSizesUptoSaid : Prop := nodeSizesUptoRow.holds Tryd.pinned (OpenSpec.upto nodeSizesSpec)

/-- 'jalousielaw08.NodeRises', WHERE WHAT IT READS IS OF BULK AT MOST 1048576: true; the input reads as it did. -/
def nodeRisesUptoRow : OpenClaim := { program := "ytnponjdnjkegmaadoor", sum := "cd2c6502cf8cd92756a081c2a5498a63fb07f9ed5a83b17acf9b3f77d1b1ee3e", func := "jalousie/jalousielaw08.NodeRises", spec := "nodeRises", unfollowed := true, recurses := true, named := ["jalousie/crc.effect"], apart := false, laid := [("jalousie/crc.effect", laid_jalousie_crc_effect)], narrowed := true }
def NodeRisesUptoSaid : Prop := nodeRisesUptoRow.holds Tryd.pinned (OpenSpec.upto nodeRisesSpec)

end Rows
end Go.Proofs.YtnponjdnjkegmaaDoor
