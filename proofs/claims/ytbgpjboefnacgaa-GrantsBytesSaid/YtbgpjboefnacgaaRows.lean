/-
  No cell of these rows narrows 'for every input' (looked for: loops, veiled, ifaces, maps, wideKeys, modest, calm, conditions, laid).
  DERIVED. THE GIVEN ROWS OF THIS SEAT. 5 by the template 'for every input the law returns true; each argument reads behind the call as it read before'; 0 by the template 'total and deterministic' (their statements: YtbgpjboefnacgaaTotals.lean).
  GIVEN WITH THE SEED: the statements are not yours to turn. If you find one false, say at which input.
  Laid BY PROGRAM, IN A SANDBOX (cutbox-rows.mjs): the forced cells as the released guide's own fill.sh prints them over the translation 3162546f6be9a716… (all of the seat's roots in one cut). By AI agents, Wed Nov 11 2026. No macro, syntax, notation, axiom, sorry.
-/
import Derived.Test.YtbgpjboefnacgaaChecked
import GoSem.Claim
import GoSem.ClaimJoined
import GoSem.ClaimMapViews
import Derived.JoinedTies
import Derived.KernelRfl
namespace Go.Proofs.Ytbgpjboefnacgaa
/- THE CELL 'sum', in the pinned program and in every row, IS THE sha256 OF THE DUMP (.gsa) THAT YtbgpjboefnacgaaProg.lean LOADS. Nothing in Lean hashes anything: it is a label: what it is worth is what the hold of that sum in a sandbox is worth. -/
noncomputable def Try.pinned : Pinned := { name := "ytbgpjboefnacgaa", sum := "3162546f6be9a716339b828b11fd88d7ae8f918c555f476596a0443f3557056c", checked := Try.checked }
namespace Rows
def none {H : Type} : Left H := { results := [], args := [] }

/-- 'jalousielaw04.GrantsTells': WHATEVER THE INPUT: true; the input reads as it did. -/
def grantsTellsSpec : ChangeSpec := { name := "grantsTells", fn := fun _ => fun
  | [d1, d2, d3] => { results := [.lit (.bool true)], args := [d1, d2, d3] }
  | _ => none }
def grantsTellsRow : OpenClaim := { program := "ytbgpjboefnacgaa", sum := "3162546f6be9a716339b828b11fd88d7ae8f918c555f476596a0443f3557056c", func := "jalousie/jalousielaw04.GrantsTells", spec := "grantsTells", unfollowed := true, recurses := true, apart := false }
def GrantsTellsSaid : Prop := grantsTellsRow.holds Try.pinned (OpenSpec.ofChange grantsTellsSpec)

/-- ITS FALSE NEIGHBOUR: 'it returns false'. Refute it at one input. -/
def grantsTellsWrong : ChangeSpec := { name := "grantsTells", fn := fun _ => fun
  | [d1, d2, d3] => { results := [.lit (.bool false)], args := [d1, d2, d3] }
  | _ => none }
def GrantsTellsWrongFalsely : Prop := grantsTellsRow.holds Try.pinned (OpenSpec.ofChange grantsTellsWrong)

/-- 'jalousielaw04.GrantsBytes': WHATEVER THE INPUT: true; the input reads as it did. -/
def grantsBytesSpec : ChangeSpec := { name := "grantsBytes", fn := fun _ => fun
  | [d1, d2] => { results := [.lit (.bool true)], args := [d1, d2] }
  | _ => none }
def grantsBytesRow : OpenClaim := { program := "ytbgpjboefnacgaa", sum := "3162546f6be9a716339b828b11fd88d7ae8f918c555f476596a0443f3557056c", func := "jalousie/jalousielaw04.GrantsBytes", spec := "grantsBytes", unfollowed := true, recurses := true, apart := false }
def GrantsBytesSaid : Prop := grantsBytesRow.holds Try.pinned (OpenSpec.ofChange grantsBytesSpec)

/-- ITS FALSE NEIGHBOUR: 'it returns false'. Refute it at one input. -/
def grantsBytesWrong : ChangeSpec := { name := "grantsBytes", fn := fun _ => fun
  | [d1, d2] => { results := [.lit (.bool false)], args := [d1, d2] }
  | _ => none }
def GrantsBytesWrongFalsely : Prop := grantsBytesRow.holds Try.pinned (OpenSpec.ofChange grantsBytesWrong)

/-- 'jalousielaw04.GrantsGrow': WHATEVER THE INPUT: true; the input reads as it did. -/
def grantsGrowSpec : ChangeSpec := { name := "grantsGrow", fn := fun _ => fun
  | [d1, d2, d3] => { results := [.lit (.bool true)], args := [d1, d2, d3] }
  | _ => none }
def grantsGrowRow : OpenClaim := { program := "ytbgpjboefnacgaa", sum := "3162546f6be9a716339b828b11fd88d7ae8f918c555f476596a0443f3557056c", func := "jalousie/jalousielaw04.GrantsGrow", spec := "grantsGrow", unfollowed := true, recurses := true, apart := false }
def GrantsGrowSaid : Prop := grantsGrowRow.holds Try.pinned (OpenSpec.ofChange grantsGrowSpec)

/-- ITS FALSE NEIGHBOUR: 'it returns false'. Refute it at one input. -/
def grantsGrowWrong : ChangeSpec := { name := "grantsGrow", fn := fun _ => fun
  | [d1, d2, d3] => { results := [.lit (.bool false)], args := [d1, d2, d3] }
  | _ => none }
def GrantsGrowWrongFalsely : Prop := grantsGrowRow.holds Try.pinned (OpenSpec.ofChange grantsGrowWrong)

/-- 'jalousielaw04.GrantsRows': WHATEVER THE INPUT: true; the input reads as it did. -/
def grantsRowsSpec : ChangeSpec := { name := "grantsRows", fn := fun _ => fun
  | [d1, d2, d3] => { results := [.lit (.bool true)], args := [d1, d2, d3] }
  | _ => none }
def grantsRowsRow : OpenClaim := { program := "ytbgpjboefnacgaa", sum := "3162546f6be9a716339b828b11fd88d7ae8f918c555f476596a0443f3557056c", func := "jalousie/jalousielaw04.GrantsRows", spec := "grantsRows", unfollowed := true, recurses := true, apart := false }
def GrantsRowsSaid : Prop := grantsRowsRow.holds Try.pinned (OpenSpec.ofChange grantsRowsSpec)

/-- ITS FALSE NEIGHBOUR: 'it returns false'. Refute it at one input. -/
def grantsRowsWrong : ChangeSpec := { name := "grantsRows", fn := fun _ => fun
  | [d1, d2, d3] => { results := [.lit (.bool false)], args := [d1, d2, d3] }
  | _ => none }
def GrantsRowsWrongFalsely : Prop := grantsRowsRow.holds Try.pinned (OpenSpec.ofChange grantsRowsWrong)

/-- 'jalousielaw04.GrantsBack': WHATEVER THE INPUT: true; the input reads as it did. -/
def grantsBackSpec : ChangeSpec := { name := "grantsBack", fn := fun _ => fun
  | [d] => { results := [.lit (.bool true)], args := [d] }
  | _ => none }
def grantsBackRow : OpenClaim := { program := "ytbgpjboefnacgaa", sum := "3162546f6be9a716339b828b11fd88d7ae8f918c555f476596a0443f3557056c", func := "jalousie/jalousielaw04.GrantsBack", spec := "grantsBack", unfollowed := true, recurses := true, apart := false }
def GrantsBackSaid : Prop := grantsBackRow.holds Try.pinned (OpenSpec.ofChange grantsBackSpec)

/-- ITS FALSE NEIGHBOUR: 'it returns false'. Refute it at one input. -/
def grantsBackWrong : ChangeSpec := { name := "grantsBack", fn := fun _ => fun
  | [d] => { results := [.lit (.bool false)], args := [d] }
  | _ => none }
def GrantsBackWrongFalsely : Prop := grantsBackRow.holds Try.pinned (OpenSpec.ofChange grantsBackWrong)

/- THE SECOND FORM. 'bulk': how many values and letters a reading holds, each counted each time it is reached (what is shared counts as often as it is met; a slice's spare places count too). A statement '..UptoSaid' is the law's where the arguments, and the package variables that the reading takes, are together of bulk at most 1048576: NARROWER than '..Said'. Prove '..Said' where nothing that the law and all that it calls make is longer than what came in: it says more and counts as full. Else prove '..UptoSaid'. A law counts once. -/
mutual
def uptoBulk {H : Type} : DataW H → Nat
  | .lit (.string bytes) => bytes.length + 1
  | .lit _ => 1
  | .nil => 1
  | .ptr d => uptoBulk d + 1
  | .slice elems spare => uptoBulkAll elems + uptoBulkAll spare + 1
  | .agg parts => uptoBulkAll parts + 1
  | .iface _ d => uptoBulk d + 1
  | .map entries => uptoBulkEntries entries + 1
  | .held _ => 1
def uptoBulkAll {H : Type} : List (DataW H) → Nat
  | [] => 0
  | d :: r => uptoBulk d + uptoBulkAll r
def uptoBulkEntries {H : Type} : List (Lit × DataW H) → Nat
  | [] => 0
  | x :: r => uptoBulkEntry x + uptoBulkEntries r
def uptoBulkEntry {H : Type} : Lit × DataW H → Nat
  | (.string bytes, d) => bytes.length + uptoBulk d + 1
  | (_, d) => uptoBulk d + 1
 end
def uptoSmall : (H : Type) → List (DataW H) → Bool := fun _ ds => decide (uptoBulkAll ds ≤ 1048576)
def OpenSpec.upto (s : _root_.Go.ChangeSpec) : _root_.Go.OpenSpec := { _root_.Go.OpenSpec.ofChange s with cond := some uptoSmall }

/-- 'jalousielaw04.GrantsTells', WHERE WHAT IT READS IS OF BULK AT MOST 1048576: true; the input reads as it did. -/
def grantsTellsUptoRow : OpenClaim := { program := "ytbgpjboefnacgaa", sum := "3162546f6be9a716339b828b11fd88d7ae8f918c555f476596a0443f3557056c", func := "jalousie/jalousielaw04.GrantsTells", spec := "grantsTells", unfollowed := true, recurses := true, apart := false, narrowed := true }
def GrantsTellsUptoSaid : Prop := grantsTellsUptoRow.holds Try.pinned (OpenSpec.upto grantsTellsSpec)

/-- 'jalousielaw04.GrantsBytes', WHERE WHAT IT READS IS OF BULK AT MOST 1048576: true; the input reads as it did. -/
def grantsBytesUptoRow : OpenClaim := { program := "ytbgpjboefnacgaa", sum := "3162546f6be9a716339b828b11fd88d7ae8f918c555f476596a0443f3557056c", func := "jalousie/jalousielaw04.GrantsBytes", spec := "grantsBytes", unfollowed := true, recurses := true, apart := false, narrowed := true }
def GrantsBytesUptoSaid : Prop := grantsBytesUptoRow.holds Try.pinned (OpenSpec.upto grantsBytesSpec)

/-- 'jalousielaw04.GrantsGrow', WHERE WHAT IT READS IS OF BULK AT MOST 1048576: true; the input reads as it did. -/
def grantsGrowUptoRow : OpenClaim := { program := "ytbgpjboefnacgaa", sum := "3162546f6be9a716339b828b11fd88d7ae8f918c555f476596a0443f3557056c", func := "jalousie/jalousielaw04.GrantsGrow", spec := "grantsGrow", unfollowed := true, recurses := true, apart := false, narrowed := true }
def GrantsGrowUptoSaid : Prop := grantsGrowUptoRow.holds Try.pinned (OpenSpec.upto grantsGrowSpec)

/-- 'jalousielaw04.GrantsRows', WHERE WHAT IT READS IS OF BULK AT MOST 1048576: true; the input reads as it did. -/
def grantsRowsUptoRow : OpenClaim := { program := "ytbgpjboefnacgaa", sum := "3162546f6be9a716339b828b11fd88d7ae8f918c555f476596a0443f3557056c", func := "jalousie/jalousielaw04.GrantsRows", spec := "grantsRows", unfollowed := true, recurses := true, apart := false, narrowed := true }
def GrantsRowsUptoSaid : Prop := grantsRowsUptoRow.holds Try.pinned (OpenSpec.upto grantsRowsSpec)

/-- 'jalousielaw04.GrantsBack', WHERE WHAT IT READS IS OF BULK AT MOST 1048576: true; the input reads as it did. -/
def grantsBackUptoRow : OpenClaim := { program := "ytbgpjboefnacgaa", sum := "3162546f6be9a716339b828b11fd88d7ae8f918c555f476596a0443f3557056c", func := "jalousie/jalousielaw04.GrantsBack", spec := "grantsBack", unfollowed := true, recurses := true, apart := false, narrowed := true }
def GrantsBackUptoSaid : Prop := grantsBackUptoRow.holds Try.pinned (OpenSpec.upto grantsBackSpec)

end Rows
end Go.Proofs.Ytbgpjboefnacgaa
