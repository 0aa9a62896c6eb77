/-
  No cell of these rows narrows 'for every input' (looked for: loops, veiled, ifaces, maps, wideKeys, modest, calm, conditions, laid).
  DERIVED. THE GIVEN ROWS OF THIS SEAT. 3 by the template 'for every input the law returns true; each argument reads behind the call as it read before'; 0 by the template 'total and deterministic' (their statements: YtlfmmmgdilencaaTotals.lean).
  GIVEN WITH THE SEED: the statements are not yours to turn. If you find one false, say at which input.
  Laid BY PROGRAM, IN A SANDBOX (cutbox-rows.mjs): the forced cells as the released guide's own fill.sh prints them over the translation 4f8b4abd6348e16d… (all of the seat's roots in one cut). By AI agents, Wed Nov 11 2026. No macro, syntax, notation, axiom, sorry.
-/
import Derived.Test.YtlfmmmgdilencaaChecked
import GoSem.Claim
import GoSem.ClaimJoined
import GoSem.ClaimMapViews
import Derived.JoinedTies
import Derived.KernelRfl
namespace Go.Proofs.Ytlfmmmgdilencaa
/- THE CELL 'sum', in the pinned program and in every row, IS THE sha256 OF THE DUMP (.gsa) THAT YtlfmmmgdilencaaProg.lean LOADS. Nothing in Lean hashes anything: it is a label: what it is worth is what the hold of that sum in a sandbox is worth. -/
noncomputable def Try.pinned : Pinned := { name := "ytlfmmmgdilencaa", sum := "4f8b4abd6348e16d8cb04a879d0f3ca112833034a278f046b27659094a9ab575", checked := Try.checked }
namespace Rows
def none {H : Type} : Left H := { results := [], args := [] }

/-- 'jalousielaw12.PinsRun': WHATEVER THE INPUT: true; the input reads as it did. -/
def pinsRunSpec : ChangeSpec := { name := "pinsRun", fn := fun _ => fun
  | [d] => { results := [.lit (.bool true)], args := [d] }
  | _ => none }
def pinsRunRow : OpenClaim := { program := "ytlfmmmgdilencaa", sum := "4f8b4abd6348e16d8cb04a879d0f3ca112833034a278f046b27659094a9ab575", func := "jalousie/jalousielaw12.PinsRun", spec := "pinsRun", recurses := true, apart := false }
def PinsRunSaid : Prop := pinsRunRow.holds Try.pinned (OpenSpec.ofChange pinsRunSpec)

/-- ITS FALSE NEIGHBOUR: 'it returns false'. Refute it at one input. -/
def pinsRunWrong : ChangeSpec := { name := "pinsRun", fn := fun _ => fun
  | [d] => { results := [.lit (.bool false)], args := [d] }
  | _ => none }
def PinsRunWrongFalsely : Prop := pinsRunRow.holds Try.pinned (OpenSpec.ofChange pinsRunWrong)

/-- 'jalousielaw12.PinsCancel': WHATEVER THE INPUT: true; the input reads as it did. -/
def pinsCancelSpec : ChangeSpec := { name := "pinsCancel", fn := fun _ => fun
  | [d1, d2] => { results := [.lit (.bool true)], args := [d1, d2] }
  | _ => none }
def pinsCancelRow : OpenClaim := { program := "ytlfmmmgdilencaa", sum := "4f8b4abd6348e16d8cb04a879d0f3ca112833034a278f046b27659094a9ab575", func := "jalousie/jalousielaw12.PinsCancel", spec := "pinsCancel", recurses := true, apart := false }
def PinsCancelSaid : Prop := pinsCancelRow.holds Try.pinned (OpenSpec.ofChange pinsCancelSpec)

/-- ITS FALSE NEIGHBOUR: 'it returns false'. Refute it at one input. -/
def pinsCancelWrong : ChangeSpec := { name := "pinsCancel", fn := fun _ => fun
  | [d1, d2] => { results := [.lit (.bool false)], args := [d1, d2] }
  | _ => none }
def PinsCancelWrongFalsely : Prop := pinsCancelRow.holds Try.pinned (OpenSpec.ofChange pinsCancelWrong)

/-- 'jalousielaw12.PinsLeast': WHATEVER THE INPUT: true; the input reads as it did. -/
def pinsLeastSpec : ChangeSpec := { name := "pinsLeast", fn := fun _ => fun
  | [d] => { results := [.lit (.bool true)], args := [d] }
  | _ => none }
def pinsLeastRow : OpenClaim := { program := "ytlfmmmgdilencaa", sum := "4f8b4abd6348e16d8cb04a879d0f3ca112833034a278f046b27659094a9ab575", func := "jalousie/jalousielaw12.PinsLeast", spec := "pinsLeast", recurses := true, apart := false }
def PinsLeastSaid : Prop := pinsLeastRow.holds Try.pinned (OpenSpec.ofChange pinsLeastSpec)

/-- ITS FALSE NEIGHBOUR: 'it returns false'. Refute it at one input. -/
def pinsLeastWrong : ChangeSpec := { name := "pinsLeast", fn := fun _ => fun
  | [d] => { results := [.lit (.bool false)], args := [d] }
  | _ => none }
def PinsLeastWrongFalsely : Prop := pinsLeastRow.holds Try.pinned (OpenSpec.ofChange pinsLeastWrong)

/- THE SECOND FORM. 'bulk': how many values and letters a reading holds, each counted each time it is reached (what is shared counts as often as it is met; a slice's spare places count too). A statement '..UptoSaid' is the law's where the arguments, and the package variables that the reading takes, are together of bulk at most 1048576: NARROWER than '..Said'. Prove '..Said' where nothing that the law and all that it calls make is longer than what came in: it says more and counts as full. Else prove '..UptoSaid'. A law counts once. -/
mutual
def uptoBulk {H : Type} : DataW H → Nat
  | .lit (.string bytes) => bytes.length + 1
  | .lit _ => 1
  | .nil => 1
  | .ptr d => uptoBulk d + 1
  | .slice elems spare => uptoBulkAll elems + uptoBulkAll spare + 1
  | .agg parts => uptoBulkAll parts + 1
  | .iface _ d => uptoBulk d + 1
  | .map entries => uptoBulkEntries entries + 1
  | .held _ => 1
def uptoBulkAll {H : Type} : List (DataW H) → Nat
  | [] => 0
  | d :: r => uptoBulk d + uptoBulkAll r
def uptoBulkEntries {H : Type} : List (Lit × DataW H) → Nat
  | [] => 0
  | x :: r => uptoBulkEntry x + uptoBulkEntries r
def uptoBulkEntry {H : Type} : Lit × DataW H → Nat
  | (.string bytes, d) => bytes.length + uptoBulk d + 1
  | (_, d) => uptoBulk d + 1
 end
def uptoSmall : (H : Type) → List (DataW H) → Bool := fun _ ds => decide (uptoBulkAll ds ≤ 1048576)
def OpenSpec.upto (s : _root_.Go.ChangeSpec) : _root_.Go.OpenSpec := { _root_.Go.OpenSpec.ofChange s with cond := some uptoSmall }

/-- 'jalousielaw12.PinsRun', WHERE WHAT IT READS IS OF BULK AT MOST 1048576: true; the input reads as it did. -/
def pinsRunUptoRow : OpenClaim := { program := "ytlfmmmgdilencaa", sum := "4f8b4abd6348e16d8cb04a879d0f3ca112833034a278f046b27659094a9ab575", func := "jalousie/jalousielaw12.PinsRun", spec := "pinsRun", recurses := true, apart := false, narrowed := true }
def PinsRunUptoSaid : Prop := pinsRunUptoRow.holds Try.pinned (OpenSpec.upto pinsRunSpec)

/-- 'jalousielaw12.PinsCancel', WHERE WHAT IT READS IS OF BULK AT MOST 1048576: true; the input reads as it did. -/
def pinsCancelUptoRow : OpenClaim := { program := "ytlfmmmgdilencaa", sum := "4f8b4abd6348e16d8cb04a879d0f3ca112833034a278f046b27659094a9ab575", func := "jalousie/jalousielaw12.PinsCancel", spec := "pinsCancel", recurses := true, apart := false, narrowed := true }
def PinsCancelUptoSaid : Prop := pinsCancelUptoRow.holds Try.pinned (OpenSpec.upto pinsCancelSpec)

/-- 'jalousielaw12.PinsLeast', WHERE WHAT IT READS IS OF BULK AT MOST 1048576: true; the input reads as it did. -/
def pinsLeastUptoRow : OpenClaim := { program := "ytlfmmmgdilencaa", sum := "4f8b4abd6348e16d8cb04a879d0f3ca112833034a278f046b27659094a9ab575", func := "jalousie/jalousielaw12.PinsLeast", spec := "pinsLeast", recurses := true, apart := false, narrowed := true }
def PinsLeastUptoSaid : Prop := pinsLeastUptoRow.holds Try.pinned (OpenSpec.upto pinsLeastSpec)

end Rows
end Go.Proofs.Ytlfmmmgdilencaa
