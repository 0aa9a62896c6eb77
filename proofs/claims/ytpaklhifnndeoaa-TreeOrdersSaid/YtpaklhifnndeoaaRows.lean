/-
  No cell of these rows narrows 'for every input' (looked for: loops, veiled, ifaces, maps, wideKeys, modest, calm, conditions, laid).
  DERIVED. THE GIVEN ROWS OF THIS SEAT. 10 by the template 'for every input the law returns true; each argument reads behind the call as it read before'; 0 by the template 'total and deterministic' (their statements: YtpaklhifnndeoaaTotals.lean).
  GIVEN WITH THE SEED: the statements are not yours to turn. If you find one false, say at which input.
  Laid BY PROGRAM, IN A SANDBOX (cutbox-rows.mjs): the forced cells as the released guide's own fill.sh prints them over the translation 624fb755663dc51b… (all of the seat's roots in one cut). By AI agents, Wed Nov 11 2026. No macro, syntax, notation, axiom, sorry.
-/
import Derived.Test.YtpaklhifnndeoaaChecked
import GoSem.Claim
import GoSem.ClaimJoined
import GoSem.ClaimMapViews
import Derived.JoinedTies
import Derived.KernelRfl
namespace Go.Proofs.Ytpaklhifnndeoaa
/- THE CELL 'sum', in the pinned program and in every row, IS THE sha256 OF THE DUMP (.gsa) THAT YtpaklhifnndeoaaProg.lean LOADS. Nothing in Lean hashes anything: it is a label: what it is worth is what the hold of that sum in a sandbox is worth. -/
noncomputable def Try.pinned : Pinned := { name := "ytpaklhifnndeoaa", sum := "624fb755663dc51bc32ccb066b4973deb563c66cd4ac127b378b6d276fe88e9e", checked := Try.checked }
namespace Rows
def none {H : Type} : Left H := { results := [], args := [] }

/-- 'jalousielaw15.TreePuts': WHATEVER THE INPUT: true; the input reads as it did. -/
def treePutsSpec : ChangeSpec := { name := "treePuts", fn := fun _ => fun
  | [d1, d2] => { results := [.lit (.bool true)], args := [d1, d2] }
  | _ => none }
def treePutsRow : OpenClaim := { program := "ytpaklhifnndeoaa", sum := "624fb755663dc51bc32ccb066b4973deb563c66cd4ac127b378b6d276fe88e9e", func := "jalousie/jalousielaw15.TreePuts", spec := "treePuts", unfollowed := true, recurses := true, apart := false }
def TreePutsSaid : Prop := treePutsRow.holds Try.pinned (OpenSpec.ofChange treePutsSpec)

/-- ITS FALSE NEIGHBOUR: 'it returns false'. Refute it at one input. -/
def treePutsWrong : ChangeSpec := { name := "treePuts", fn := fun _ => fun
  | [d1, d2] => { results := [.lit (.bool false)], args := [d1, d2] }
  | _ => none }
def TreePutsWrongFalsely : Prop := treePutsRow.holds Try.pinned (OpenSpec.ofChange treePutsWrong)

/-- 'jalousielaw15.TreeStays': WHATEVER THE INPUT: true; the input reads as it did. -/
def treeStaysSpec : ChangeSpec := { name := "treeStays", fn := fun _ => fun
  | [d] => { results := [.lit (.bool true)], args := [d] }
  | _ => none }
def treeStaysRow : OpenClaim := { program := "ytpaklhifnndeoaa", sum := "624fb755663dc51bc32ccb066b4973deb563c66cd4ac127b378b6d276fe88e9e", func := "jalousie/jalousielaw15.TreeStays", spec := "treeStays", unfollowed := true, recurses := true, apart := false }
def TreeStaysSaid : Prop := treeStaysRow.holds Try.pinned (OpenSpec.ofChange treeStaysSpec)

/-- ITS FALSE NEIGHBOUR: 'it returns false'. Refute it at one input. -/
def treeStaysWrong : ChangeSpec := { name := "treeStays", fn := fun _ => fun
  | [d] => { results := [.lit (.bool false)], args := [d] }
  | _ => none }
def TreeStaysWrongFalsely : Prop := treeStaysRow.holds Try.pinned (OpenSpec.ofChange treeStaysWrong)

/-- 'jalousielaw15.TreeChecks': WHATEVER THE INPUT: true; the input reads as it did. -/
def treeChecksSpec : ChangeSpec := { name := "treeChecks", fn := fun _ => fun
  | [d1, d2] => { results := [.lit (.bool true)], args := [d1, d2] }
  | _ => none }
def treeChecksRow : OpenClaim := { program := "ytpaklhifnndeoaa", sum := "624fb755663dc51bc32ccb066b4973deb563c66cd4ac127b378b6d276fe88e9e", func := "jalousie/jalousielaw15.TreeChecks", spec := "treeChecks", unfollowed := true, recurses := true, apart := false }
def TreeChecksSaid : Prop := treeChecksRow.holds Try.pinned (OpenSpec.ofChange treeChecksSpec)

/-- ITS FALSE NEIGHBOUR: 'it returns false'. Refute it at one input. -/
def treeChecksWrong : ChangeSpec := { name := "treeChecks", fn := fun _ => fun
  | [d1, d2] => { results := [.lit (.bool false)], args := [d1, d2] }
  | _ => none }
def TreeChecksWrongFalsely : Prop := treeChecksRow.holds Try.pinned (OpenSpec.ofChange treeChecksWrong)

/-- 'jalousielaw15.TreeMends': WHATEVER THE INPUT: true; the input reads as it did. -/
def treeMendsSpec : ChangeSpec := { name := "treeMends", fn := fun _ => fun
  | [d1, d2, d3] => { results := [.lit (.bool true)], args := [d1, d2, d3] }
  | _ => none }
def treeMendsRow : OpenClaim := { program := "ytpaklhifnndeoaa", sum := "624fb755663dc51bc32ccb066b4973deb563c66cd4ac127b378b6d276fe88e9e", func := "jalousie/jalousielaw15.TreeMends", spec := "treeMends", unfollowed := true, recurses := true, apart := false }
def TreeMendsSaid : Prop := treeMendsRow.holds Try.pinned (OpenSpec.ofChange treeMendsSpec)

/-- ITS FALSE NEIGHBOUR: 'it returns false'. Refute it at one input. -/
def treeMendsWrong : ChangeSpec := { name := "treeMends", fn := fun _ => fun
  | [d1, d2, d3] => { results := [.lit (.bool false)], args := [d1, d2, d3] }
  | _ => none }
def TreeMendsWrongFalsely : Prop := treeMendsRow.holds Try.pinned (OpenSpec.ofChange treeMendsWrong)

/-- 'jalousielaw15.TreeOrders': WHATEVER THE INPUT: true; the input reads as it did. -/
def treeOrdersSpec : ChangeSpec := { name := "treeOrders", fn := fun _ => fun
  | [d1, d2] => { results := [.lit (.bool true)], args := [d1, d2] }
  | _ => none }
def treeOrdersRow : OpenClaim := { program := "ytpaklhifnndeoaa", sum := "624fb755663dc51bc32ccb066b4973deb563c66cd4ac127b378b6d276fe88e9e", func := "jalousie/jalousielaw15.TreeOrders", spec := "treeOrders", unfollowed := true, recurses := true, apart := false }
def TreeOrdersSaid : Prop := treeOrdersRow.holds Try.pinned (OpenSpec.ofChange treeOrdersSpec)

/-- ITS FALSE NEIGHBOUR: 'it returns false'. Refute it at one input. -/
def treeOrdersWrong : ChangeSpec := { name := "treeOrders", fn := fun _ => fun
  | [d1, d2] => { results := [.lit (.bool false)], args := [d1, d2] }
  | _ => none }
def TreeOrdersWrongFalsely : Prop := treeOrdersRow.holds Try.pinned (OpenSpec.ofChange treeOrdersWrong)

/-- 'jalousielaw16.PruneRuns': WHATEVER THE INPUT: true; the input reads as it did. -/
def pruneRunsSpec : ChangeSpec := { name := "pruneRuns", fn := fun _ => fun
  | [d] => { results := [.lit (.bool true)], args := [d] }
  | _ => none }
def pruneRunsRow : OpenClaim := { program := "ytpaklhifnndeoaa", sum := "624fb755663dc51bc32ccb066b4973deb563c66cd4ac127b378b6d276fe88e9e", func := "jalousie/jalousielaw16.PruneRuns", spec := "pruneRuns", unfollowed := true, recurses := true, apart := false }
def PruneRunsSaid : Prop := pruneRunsRow.holds Try.pinned (OpenSpec.ofChange pruneRunsSpec)

/-- ITS FALSE NEIGHBOUR: 'it returns false'. Refute it at one input. -/
def pruneRunsWrong : ChangeSpec := { name := "pruneRuns", fn := fun _ => fun
  | [d] => { results := [.lit (.bool false)], args := [d] }
  | _ => none }
def PruneRunsWrongFalsely : Prop := pruneRunsRow.holds Try.pinned (OpenSpec.ofChange pruneRunsWrong)

/-- 'jalousielaw16.PruneStays': WHATEVER THE INPUT: true; the input reads as it did. -/
def pruneStaysSpec : ChangeSpec := { name := "pruneStays", fn := fun _ => fun
  | [d1, d2] => { results := [.lit (.bool true)], args := [d1, d2] }
  | _ => none }
def pruneStaysRow : OpenClaim := { program := "ytpaklhifnndeoaa", sum := "624fb755663dc51bc32ccb066b4973deb563c66cd4ac127b378b6d276fe88e9e", func := "jalousie/jalousielaw16.PruneStays", spec := "pruneStays", unfollowed := true, recurses := true, apart := false }
def PruneStaysSaid : Prop := pruneStaysRow.holds Try.pinned (OpenSpec.ofChange pruneStaysSpec)

/-- ITS FALSE NEIGHBOUR: 'it returns false'. Refute it at one input. -/
def pruneStaysWrong : ChangeSpec := { name := "pruneStays", fn := fun _ => fun
  | [d1, d2] => { results := [.lit (.bool false)], args := [d1, d2] }
  | _ => none }
def PruneStaysWrongFalsely : Prop := pruneStaysRow.holds Try.pinned (OpenSpec.ofChange pruneStaysWrong)

/-- 'jalousielaw16.PruneAll': WHATEVER THE INPUT: true; the input reads as it did. -/
def pruneAllSpec : ChangeSpec := { name := "pruneAll", fn := fun _ => fun
  | [d1, d2, d3] => { results := [.lit (.bool true)], args := [d1, d2, d3] }
  | _ => none }
def pruneAllRow : OpenClaim := { program := "ytpaklhifnndeoaa", sum := "624fb755663dc51bc32ccb066b4973deb563c66cd4ac127b378b6d276fe88e9e", func := "jalousie/jalousielaw16.PruneAll", spec := "pruneAll", unfollowed := true, recurses := true, apart := false }
def PruneAllSaid : Prop := pruneAllRow.holds Try.pinned (OpenSpec.ofChange pruneAllSpec)

/-- ITS FALSE NEIGHBOUR: 'it returns false'. Refute it at one input. -/
def pruneAllWrong : ChangeSpec := { name := "pruneAll", fn := fun _ => fun
  | [d1, d2, d3] => { results := [.lit (.bool false)], args := [d1, d2, d3] }
  | _ => none }
def PruneAllWrongFalsely : Prop := pruneAllRow.holds Try.pinned (OpenSpec.ofChange pruneAllWrong)

/-- 'jalousielaw16.PruneOrders': WHATEVER THE INPUT: true; the input reads as it did. -/
def pruneOrdersSpec : ChangeSpec := { name := "pruneOrders", fn := fun _ => fun
  | [d1, d2] => { results := [.lit (.bool true)], args := [d1, d2] }
  | _ => none }
def pruneOrdersRow : OpenClaim := { program := "ytpaklhifnndeoaa", sum := "624fb755663dc51bc32ccb066b4973deb563c66cd4ac127b378b6d276fe88e9e", func := "jalousie/jalousielaw16.PruneOrders", spec := "pruneOrders", unfollowed := true, recurses := true, apart := false }
def PruneOrdersSaid : Prop := pruneOrdersRow.holds Try.pinned (OpenSpec.ofChange pruneOrdersSpec)

/-- ITS FALSE NEIGHBOUR: 'it returns false'. Refute it at one input. -/
def pruneOrdersWrong : ChangeSpec := { name := "pruneOrders", fn := fun _ => fun
  | [d1, d2] => { results := [.lit (.bool false)], args := [d1, d2] }
  | _ => none }
def PruneOrdersWrongFalsely : Prop := pruneOrdersRow.holds Try.pinned (OpenSpec.ofChange pruneOrdersWrong)

/-- 'jalousielaw16.PruneNone': WHATEVER THE INPUT: true; the input reads as it did. -/
def pruneNoneSpec : ChangeSpec := { name := "pruneNone", fn := fun _ => fun
  | [d1, d2] => { results := [.lit (.bool true)], args := [d1, d2] }
  | _ => none }
def pruneNoneRow : OpenClaim := { program := "ytpaklhifnndeoaa", sum := "624fb755663dc51bc32ccb066b4973deb563c66cd4ac127b378b6d276fe88e9e", func := "jalousie/jalousielaw16.PruneNone", spec := "pruneNone", unfollowed := true, recurses := true, apart := false }
def PruneNoneSaid : Prop := pruneNoneRow.holds Try.pinned (OpenSpec.ofChange pruneNoneSpec)

/-- ITS FALSE NEIGHBOUR: 'it returns false'. Refute it at one input. -/
def pruneNoneWrong : ChangeSpec := { name := "pruneNone", fn := fun _ => fun
  | [d1, d2] => { results := [.lit (.bool false)], args := [d1, d2] }
  | _ => none }
def PruneNoneWrongFalsely : Prop := pruneNoneRow.holds Try.pinned (OpenSpec.ofChange pruneNoneWrong)

/- THE SECOND FORM. 'bulk': how many values and letters a reading holds, each counted each time it is reached (what is shared counts as often as it is met; a slice's spare places count too). A statement '..UptoSaid' is the law's where the arguments, and the package variables that the reading takes, are together of bulk at most 1048576: NARROWER than '..Said'. Prove '..Said' where nothing that the law and all that it calls make is longer than what came in: it says more and counts as full. Else prove '..UptoSaid'. A law counts once. -/
mutual
def uptoBulk {H : Type} : DataW H → Nat
  | .lit (.string bytes) => bytes.length + 1
  | .lit _ => 1
  | .nil => 1
  | .ptr d => uptoBulk d + 1
  | .slice elems spare => uptoBulkAll elems + uptoBulkAll spare + 1
  | .agg parts => uptoBulkAll parts + 1
  | .iface _ d => uptoBulk d + 1
  | .map entries => uptoBulkEntries entries + 1
  | .held _ => 1
def uptoBulkAll {H : Type} : List (DataW H) → Nat
  | [] => 0
  | d :: r => uptoBulk d + uptoBulkAll r
def uptoBulkEntries {H : Type} : List (Lit × DataW H) → Nat
  | [] => 0
  | x :: r => uptoBulkEntry x + uptoBulkEntries r
def uptoBulkEntry {H : Type} : Lit × DataW H → Nat
  | (.string bytes, d) => bytes.length + uptoBulk d + 1
  | (_, d) => uptoBulk d + 1
 end
def uptoSmall : (H : Type) → List (DataW H) → Bool := fun _ ds => decide (uptoBulkAll ds ≤ 1048576)
def OpenSpec.upto (s : _root_.Go.ChangeSpec) : _root_.Go.OpenSpec := { _root_.Go.OpenSpec.ofChange s with cond := some uptoSmall }

/-- 'jalousielaw15.TreePuts', WHERE WHAT IT READS IS OF BULK AT MOST 1048576: true; the input reads as it did. -/
def treePutsUptoRow : OpenClaim := { program := "ytpaklhifnndeoaa", sum := "624fb755663dc51bc32ccb066b4973deb563c66cd4ac127b378b6d276fe88e9e", func := "jalousie/jalousielaw15.TreePuts", spec := "treePuts", unfollowed := true, recurses := true, apart := false, narrowed := true }
def TreePutsUptoSaid : Prop := treePutsUptoRow.holds Try.pinned (OpenSpec.upto treePutsSpec)

/-- 'jalousielaw15.TreeStays', WHERE WHAT IT READS IS OF BULK AT MOST 1048576: true; the input reads as it did. -/
def treeStaysUptoRow : OpenClaim := { program := "ytpaklhifnndeoaa", sum := "624fb755663dc51bc32ccb066b4973deb563c66cd4ac127b378b6d276fe88e9e", func := "jalousie/jalousielaw15.TreeStays", spec := "treeStays", unfollowed := true, recurses := true, apart := false, narrowed := true }
def TreeStaysUptoSaid : Prop := treeStaysUptoRow.holds Try.pinned (OpenSpec.upto treeStaysSpec)

/-- 'jalousielaw15.TreeChecks', WHERE WHAT IT READS IS OF BULK AT MOST 1048576: true; the input reads as it did. -/
def treeChecksUptoRow : OpenClaim := { program := "ytpaklhifnndeoaa", sum := "624fb755663dc51bc32ccb066b4973deb563c66cd4ac127b378b6d276fe88e9e", func := "jalousie/jalousielaw15.TreeChecks", spec := "treeChecks", unfollowed := true, recurses := true, apart := false, narrowed := true }
def TreeChecksUptoSaid : Prop := treeChecksUptoRow.holds Try.pinned (OpenSpec.upto treeChecksSpec)

/-- 'jalousielaw15.TreeMends', WHERE WHAT IT READS IS OF BULK AT MOST 1048576: true; the input reads as it did. -/
def treeMendsUptoRow : OpenClaim := { program := "ytpaklhifnndeoaa", sum := "624fb755663dc51bc32ccb066b4973deb563c66cd4ac127b378b6d276fe88e9e", func := "jalousie/jalousielaw15.TreeMends", spec := "treeMends", unfollowed := true, recurses := true, apart := false, narrowed := true }
def TreeMendsUptoSaid : Prop := treeMendsUptoRow.holds Try.pinned (OpenSpec.upto treeMendsSpec)

/-- 'jalousielaw15.TreeOrders', WHERE WHAT IT READS IS OF BULK AT MOST 1048576: true; the input reads as it did. -/
def treeOrdersUptoRow : OpenClaim := { program := "ytpaklhifnndeoaa", sum := "624fb755663dc51bc32ccb066b4973deb563c66cd4ac127b378b6d276fe88e9e", func := "jalousie/jalousielaw15.TreeOrders", spec := "treeOrders", unfollowed := true, recurses := true, apart := false, narrowed := true }
def TreeOrdersUptoSaid : Prop := treeOrdersUptoRow.holds Try.pinned (OpenSpec.upto treeOrdersSpec)

/-- 'jalousielaw16.PruneRuns', WHERE WHAT IT READS IS OF BULK AT MOST 1048576: true; the input reads as it did. -/
def pruneRunsUptoRow : OpenClaim := { program := "ytpaklhifnndeoaa", sum := "624fb755663dc51bc32ccb066b4973deb563c66cd4ac127b378b6d276fe88e9e", func := "jalousie/jalousielaw16.PruneRuns", spec := "pruneRuns", unfollowed := true, recurses := true, apart := false, narrowed := true }
def PruneRunsUptoSaid : Prop := pruneRunsUptoRow.holds Try.pinned (OpenSpec.upto pruneRunsSpec)

/-- 'jalousielaw16.PruneStays', WHERE WHAT IT READS IS OF BULK AT MOST 1048576: true; the input reads as it did. -/
def pruneStaysUptoRow : OpenClaim := { program := "ytpaklhifnndeoaa", sum := "624fb755663dc51bc32ccb066b4973deb563c66cd4ac127b378b6d276fe88e9e", func := "jalousie/jalousielaw16.PruneStays", spec := "pruneStays", unfollowed := true, recurses := true, apart := false, narrowed := true }
def PruneStaysUptoSaid : Prop := pruneStaysUptoRow.holds Try.pinned (OpenSpec.upto pruneStaysSpec)

/-- 'jalousielaw16.PruneAll', WHERE WHAT IT READS IS OF BULK AT MOST 1048576: true; the input reads as it did. -/
def pruneAllUptoRow : OpenClaim := { program := "ytpaklhifnndeoaa", sum := "624fb755663dc51bc32ccb066b4973deb563c66cd4ac127b378b6d276fe88e9e", func := "jalousie/jalousielaw16.PruneAll", spec := "pruneAll", unfollowed := true, recurses := true, apart := false, narrowed := true }
def PruneAllUptoSaid : Prop := pruneAllUptoRow.holds Try.pinned (OpenSpec.upto pruneAllSpec)

/-- 'jalousielaw16.PruneOrders', WHERE WHAT IT READS IS OF BULK AT MOST 1048576: true; the input reads as it did. -/
def pruneOrdersUptoRow : OpenClaim := { program := "ytpaklhifnndeoaa", sum := "624fb755663dc51bc32ccb066b4973deb563c66cd4ac127b378b6d276fe88e9e", func := "jalousie/jalousielaw16.PruneOrders", spec := "pruneOrders", unfollowed := true, recurses := true, apart := false, narrowed := true }
def PruneOrdersUptoSaid : Prop := pruneOrdersUptoRow.holds Try.pinned (OpenSpec.upto pruneOrdersSpec)

/-- 'jalousielaw16.PruneNone', WHERE WHAT IT READS IS OF BULK AT MOST 1048576: true; the input reads as it did. -/
def pruneNoneUptoRow : OpenClaim := { program := "ytpaklhifnndeoaa", sum := "624fb755663dc51bc32ccb066b4973deb563c66cd4ac127b378b6d276fe88e9e", func := "jalousie/jalousielaw16.PruneNone", spec := "pruneNone", unfollowed := true, recurses := true, apart := false, narrowed := true }
def PruneNoneUptoSaid : Prop := pruneNoneUptoRow.holds Try.pinned (OpenSpec.upto pruneNoneSpec)

end Rows
end Go.Proofs.Ytpaklhifnndeoaa
