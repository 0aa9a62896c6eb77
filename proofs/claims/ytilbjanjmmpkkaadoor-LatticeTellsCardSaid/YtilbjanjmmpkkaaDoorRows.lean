/-
  NARROWER THAN 'FOR EVERY INPUT', by the rows' own cells (each row's printed sentence says how): LatticeTells: laid · LatticeBytes: laid · LatticeBounds: laid · LatticeDown: laid · LatticeThree: laid · LatticePuts: laid.
  DERIVED. THE GIVEN ROWS OF THIS SEAT. 6 by the template 'for every input the law returns true; each argument reads behind the call as it read before'; 0 by the template 'total and deterministic' (their statements: YtilbjanjmmpkkaaDoorTotals.lean).
  GIVEN WITH THE SEED: the statements are not yours to turn. If you find one false, say at which input.
  Laid BY PROGRAM, IN A SANDBOX (cutbox-rows.mjs): the forced cells as the released guide's own fill.sh prints them over the translation 783c4dabf53f11a2… (all of the seat's roots in one cut). By AI agents, Wed Nov 11 2026. No macro, syntax, notation, axiom, sorry.
-/
import Derived.Test.YtilbjanjmmpkkaaDoorChecked
import GoSem.Claim
import GoSem.ClaimJoined
import GoSem.ClaimMapViews
import Derived.JoinedTies
import Derived.KernelRfl
namespace Go.Proofs.YtilbjanjmmpkkaaDoor
/- THE CELL 'sum', in the pinned program and in every row, IS THE sha256 OF THE DUMP (.gsa) THAT YtilbjanjmmpkkaaDoorProg.lean LOADS. Nothing in Lean hashes anything: it is a label: what it is worth is what the hold of that sum in a sandbox is worth. -/
noncomputable def Tryd.pinned : Pinned := { name := "ytilbjanjmmpkkaadoor", sum := "783c4dabf53f11a21b455f0a09fcad253214e339135ee5ed61d551ba34acfd49", checked := Tryd.checked }
namespace Rows
def none {H : Type} : Left H := { results := [], args := [] }

/- WHAT THE LISTED PACKAGE-LEVEL VARIABLES READ AS WHEN THE CALL BEGINS. Each datum BY PROGRAM (the guide's laid-datum.mjs) off the statement by which the dump's own 'gosem.cut.vars' lays the variable. In a bare row this is a premise. The card (YtilbjanjmmpkkaaDoorCards.lean) ties it to the program's text. -/
def laid_math_bits_deBruijn64tab {H : Type} : DataW H := .agg [.lit (.int .u8 0), .lit (.int .u8 1), .lit (.int .u8 56), .lit (.int .u8 2), .lit (.int .u8 57), .lit (.int .u8 49), .lit (.int .u8 28), .lit (.int .u8 3), .lit (.int .u8 61), .lit (.int .u8 58), .lit (.int .u8 42), .lit (.int .u8 50), .lit (.int .u8 38), .lit (.int .u8 29), .lit (.int .u8 17), .lit (.int .u8 4), .lit (.int .u8 62), .lit (.int .u8 47), .lit (.int .u8 59), .lit (.int .u8 36), .lit (.int .u8 45), .lit (.int .u8 43), .lit (.int .u8 51), .lit (.int .u8 22), .lit (.int .u8 53), .lit (.int .u8 39), .lit (.int .u8 33), .lit (.int .u8 30), .lit (.int .u8 24), .lit (.int .u8 18), .lit (.int .u8 12), .lit (.int .u8 5), .lit (.int .u8 63), .lit (.int .u8 55), .lit (.int .u8 48), .lit (.int .u8 27), .lit (.int .u8 60), .lit (.int .u8 41), .lit (.int .u8 37), .lit (.int .u8 16), .lit (.int .u8 46), .lit (.int .u8 35), .lit (.int .u8 44), .lit (.int .u8 21), .lit (.int .u8 52), .lit (.int .u8 32), .lit (.int .u8 23), .lit (.int .u8 11), .lit (.int .u8 54), .lit (.int .u8 26), .lit (.int .u8 40), .lit (.int .u8 15), .lit (.int .u8 34), .lit (.int .u8 20), .lit (.int .u8 31), .lit (.int .u8 10), .lit (.int .u8 25), .lit (.int .u8 14), .lit (.int .u8 19), .lit (.int .u8 9), .lit (.int .u8 13), .lit (.int .u8 8), .lit (.int .u8 7), .lit (.int .u8 6)]

/-- 'jalousielaw03.LatticeTells': WHATEVER THE INPUT: true; the input reads as it did. -/
def latticeTellsSpec : ChangeSpec := { name := "latticeTells", fn := fun _ => fun
  | [d1, d2, d3] => { results := [.lit (.bool true)], args := [d1, d2, d3] }
  | _ => none }
def latticeTellsRow : OpenClaim := { program := "ytilbjanjmmpkkaadoor", sum := "783c4dabf53f11a21b455f0a09fcad253214e339135ee5ed61d551ba34acfd49", func := "jalousie/jalousielaw03.LatticeTells", spec := "latticeTells", unfollowed := true, recurses := true, named := ["math/bits.deBruijn64tab"], apart := false, laid := [("math/bits.deBruijn64tab", laid_math_bits_deBruijn64tab)] }
def LatticeTellsSaid : Prop := latticeTellsRow.holds Tryd.pinned (OpenSpec.ofChange latticeTellsSpec)

/-- ITS FALSE NEIGHBOUR: 'it returns false'. Refute it at one input. -/
def latticeTellsWrong : ChangeSpec := { name := "latticeTells", fn := fun _ => fun
  | [d1, d2, d3] => { results := [.lit (.bool false)], args := [d1, d2, d3] }
  | _ => none }
def LatticeTellsWrongFalsely : Prop := latticeTellsRow.holds Tryd.pinned (OpenSpec.ofChange latticeTellsWrong)

/-- 'jalousielaw03.LatticeBytes': WHATEVER THE INPUT: true; the input reads as it did. -/
def latticeBytesSpec : ChangeSpec := { name := "latticeBytes", fn := fun _ => fun
  | [d1, d2] => { results := [.lit (.bool true)], args := [d1, d2] }
  | _ => none }
def latticeBytesRow : OpenClaim := { program := "ytilbjanjmmpkkaadoor", sum := "783c4dabf53f11a21b455f0a09fcad253214e339135ee5ed61d551ba34acfd49", func := "jalousie/jalousielaw03.LatticeBytes", spec := "latticeBytes", unfollowed := true, recurses := true, named := ["math/bits.deBruijn64tab"], apart := false, laid := [("math/bits.deBruijn64tab", laid_math_bits_deBruijn64tab)] }
def LatticeBytesSaid : Prop := latticeBytesRow.holds Tryd.pinned (OpenSpec.ofChange latticeBytesSpec)

/-- ITS FALSE NEIGHBOUR: 'it returns false'. Refute it at one input. -/
def latticeBytesWrong : ChangeSpec := { name := "latticeBytes", fn := fun _ => fun
  | [d1, d2] => { results := [.lit (.bool false)], args := [d1, d2] }
  | _ => none }
def LatticeBytesWrongFalsely : Prop := latticeBytesRow.holds Tryd.pinned (OpenSpec.ofChange latticeBytesWrong)

/-- 'jalousielaw03.LatticeBounds': WHATEVER THE INPUT: true; the input reads as it did. -/
def latticeBoundsSpec : ChangeSpec := { name := "latticeBounds", fn := fun _ => fun
  | [d] => { results := [.lit (.bool true)], args := [d] }
  | _ => none }
def latticeBoundsRow : OpenClaim := { program := "ytilbjanjmmpkkaadoor", sum := "783c4dabf53f11a21b455f0a09fcad253214e339135ee5ed61d551ba34acfd49", func := "jalousie/jalousielaw03.LatticeBounds", spec := "latticeBounds", unfollowed := true, recurses := true, named := ["math/bits.deBruijn64tab"], apart := false, laid := [("math/bits.deBruijn64tab", laid_math_bits_deBruijn64tab)] }
def LatticeBoundsSaid : Prop := latticeBoundsRow.holds Tryd.pinned (OpenSpec.ofChange latticeBoundsSpec)

/-- ITS FALSE NEIGHBOUR: 'it returns false'. Refute it at one input. -/
def latticeBoundsWrong : ChangeSpec := { name := "latticeBounds", fn := fun _ => fun
  | [d] => { results := [.lit (.bool false)], args := [d] }
  | _ => none }
def LatticeBoundsWrongFalsely : Prop := latticeBoundsRow.holds Tryd.pinned (OpenSpec.ofChange latticeBoundsWrong)

/-- 'jalousielaw03.LatticeDown': WHATEVER THE INPUT: true; the input reads as it did. -/
def latticeDownSpec : ChangeSpec := { name := "latticeDown", fn := fun _ => fun
  | [d] => { results := [.lit (.bool true)], args := [d] }
  | _ => none }
def latticeDownRow : OpenClaim := { program := "ytilbjanjmmpkkaadoor", sum := "783c4dabf53f11a21b455f0a09fcad253214e339135ee5ed61d551ba34acfd49", func := "jalousie/jalousielaw03.LatticeDown", spec := "latticeDown", unfollowed := true, recurses := true, named := ["math/bits.deBruijn64tab"], apart := false, laid := [("math/bits.deBruijn64tab", laid_math_bits_deBruijn64tab)] }
def LatticeDownSaid : Prop := latticeDownRow.holds Tryd.pinned (OpenSpec.ofChange latticeDownSpec)

/-- ITS FALSE NEIGHBOUR: 'it returns false'. Refute it at one input. -/
def latticeDownWrong : ChangeSpec := { name := "latticeDown", fn := fun _ => fun
  | [d] => { results := [.lit (.bool false)], args := [d] }
  | _ => none }
def LatticeDownWrongFalsely : Prop := latticeDownRow.holds Tryd.pinned (OpenSpec.ofChange latticeDownWrong)

/-- 'jalousielaw03.LatticeThree': WHATEVER THE INPUT: true; the input reads as it did. -/
def latticeThreeSpec : ChangeSpec := { name := "latticeThree", fn := fun _ => fun
  | [d] => { results := [.lit (.bool true)], args := [d] }
  | _ => none }
def latticeThreeRow : OpenClaim := { program := "ytilbjanjmmpkkaadoor", sum := "783c4dabf53f11a21b455f0a09fcad253214e339135ee5ed61d551ba34acfd49", func := "jalousie/jalousielaw03.LatticeThree", spec := "latticeThree", unfollowed := true, recurses := true, named := ["math/bits.deBruijn64tab"], apart := false, laid := [("math/bits.deBruijn64tab", laid_math_bits_deBruijn64tab)] }
def LatticeThreeSaid : Prop := latticeThreeRow.holds Tryd.pinned (OpenSpec.ofChange latticeThreeSpec)

/-- ITS FALSE NEIGHBOUR: 'it returns false'. Refute it at one input. -/
def latticeThreeWrong : ChangeSpec := { name := "latticeThree", fn := fun _ => fun
  | [d] => { results := [.lit (.bool false)], args := [d] }
  | _ => none }
def LatticeThreeWrongFalsely : Prop := latticeThreeRow.holds Tryd.pinned (OpenSpec.ofChange latticeThreeWrong)

/-- 'jalousielaw03.LatticePuts': WHATEVER THE INPUT: true; the input reads as it did. -/
def latticePutsSpec : ChangeSpec := { name := "latticePuts", fn := fun _ => fun
  | [d1, d2] => { results := [.lit (.bool true)], args := [d1, d2] }
  | _ => none }
def latticePutsRow : OpenClaim := { program := "ytilbjanjmmpkkaadoor", sum := "783c4dabf53f11a21b455f0a09fcad253214e339135ee5ed61d551ba34acfd49", func := "jalousie/jalousielaw03.LatticePuts", spec := "latticePuts", unfollowed := true, recurses := true, named := ["math/bits.deBruijn64tab"], apart := false, laid := [("math/bits.deBruijn64tab", laid_math_bits_deBruijn64tab)] }
def LatticePutsSaid : Prop := latticePutsRow.holds Tryd.pinned (OpenSpec.ofChange latticePutsSpec)

/-- ITS FALSE NEIGHBOUR: 'it returns false'. Refute it at one input. -/
def latticePutsWrong : ChangeSpec := { name := "latticePuts", fn := fun _ => fun
  | [d1, d2] => { results := [.lit (.bool false)], args := [d1, d2] }
  | _ => none }
def LatticePutsWrongFalsely : Prop := latticePutsRow.holds Tryd.pinned (OpenSpec.ofChange latticePutsWrong)

/- THE SECOND FORM. 'bulk': how many values and letters a reading holds, each counted each time it is reached (what is shared counts as often as it is met; a slice's spare places count too). A statement '..UptoSaid' is the law's where the arguments, and the package variables that the reading takes, are together of bulk at most 1048576: NARROWER than '..Said'. Prove '..Said' where nothing that the law and all that it calls make is longer than what came in: it says more and counts as full. Else prove '..UptoSaid'. A law counts once. -/
mutual
def uptoBulk {H : Type} : DataW H → Nat
  | .lit (.string bytes) => bytes.length + 1
  | .lit _ => 1
  | .nil => 1
  | .ptr d => uptoBulk d + 1
  | .slice elems spare => uptoBulkAll elems + uptoBulkAll spare + 1
  | .agg parts => uptoBulkAll parts + 1
  | .iface _ d => uptoBulk d + 1
  | .map entries => uptoBulkEntries entries + 1
  | .held _ => 1
def uptoBulkAll {H : Type} : List (DataW H) → Nat
  | [] => 0
  | d :: r => uptoBulk d + uptoBulkAll r
def uptoBulkEntries {H : Type} : List (Lit × DataW H) → Nat
  | [] => 0
  | x :: r => uptoBulkEntry x + uptoBulkEntries r
def uptoBulkEntry {H : Type} : Lit × DataW H → Nat
  | (.string bytes, d) => bytes.length + uptoBulk d + 1
  | (_, d) => uptoBulk d + 1
 end
def uptoSmall : (H : Type) → List (DataW H) → Bool := fun _ ds => decide (uptoBulkAll ds ≤ 1048576)
def OpenSpec.upto (s : _root_.Go.ChangeSpec) : _root_.Go.OpenSpec := { _root_.Go.OpenSpec.ofChange s with cond := some uptoSmall }

/-- 'jalousielaw03.LatticeTells', WHERE WHAT IT READS IS OF BULK AT MOST 1048576: true; the input reads as it did. -/
def latticeTellsUptoRow : OpenClaim := { program := "ytilbjanjmmpkkaadoor", sum := "783c4dabf53f11a21b455f0a09fcad253214e339135ee5ed61d551ba34acfd49", func := "jalousie/jalousielaw03.LatticeTells", spec := "latticeTells", unfollowed := true, recurses := true, named := ["math/bits.deBruijn64tab"], apart := false, laid := [("math/bits.deBruijn64tab", laid_math_bits_deBruijn64tab)], narrowed := true }
def LatticeTellsUptoSaid : Prop := latticeTellsUptoRow.holds Tryd.pinned (OpenSpec.upto latticeTellsSpec)

/-- 'jalousielaw03.LatticeBytes', WHERE WHAT IT READS IS OF BULK AT MOST 1048576: true; the input reads as it did. -/
def latticeBytesUptoRow : OpenClaim := { program := "ytilbjanjmmpkkaadoor", sum := "783c4dabf53f11a21b455f0a09fcad253214e339135ee5ed61d551ba34acfd49", func := "jalousie/jalousielaw03.LatticeBytes", spec := "latticeBytes", unfollowed := true, recurses := true, named := ["math/bits.deBruijn64tab"], apart := false, laid := [("math/bits.deBruijn64tab", laid_math_bits_deBruijn64tab)], narrowed := true }
def LatticeBytesUptoSaid : Prop := latticeBytesUptoRow.holds Tryd.pinned (OpenSpec.upto latticeBytesSpec)

/-- 'jalousielaw03.LatticeBounds', WHERE WHAT IT READS IS OF BULK AT MOST 1048576: true; the input reads as it did. -/
def latticeBoundsUptoRow : OpenClaim := { program := "ytilbjanjmmpkkaadoor", sum := "783c4dabf53f11a21b455f0a09fcad253214e339135ee5ed61d551ba34acfd49", func := "jalousie/jalousielaw03.LatticeBounds", spec := "latticeBounds", unfollowed := true, recurses := true, named := ["math/bits.deBruijn64tab"], apart := false, laid := [("math/bits.deBruijn64tab", laid_math_bits_deBruijn64tab)], narrowed := true }
def LatticeBoundsUptoSaid : Prop := latticeBoundsUptoRow.holds Tryd.pinned (OpenSpec.upto latticeBoundsSpec)

/-- 'jalousielaw03.LatticeDown', WHERE WHAT IT READS IS OF BULK AT MOST 1048576: true; the input reads as it did. -/
def latticeDownUptoRow : OpenClaim := { program := "ytilbjanjmmpkkaadoor", sum := "783c4dabf53f11a21b455f0a09fcad253214e339135ee5ed61d551ba34acfd49", func := "jalousie/jalousielaw03.LatticeDown", spec := "latticeDown", unfollowed := true, recurses := true, named := ["math/bits.deBruijn64tab"], apart := false, laid := [("math/bits.deBruijn64tab", laid_math_bits_deBruijn64tab)], narrowed := true }
def LatticeDownUptoSaid : Prop := latticeDownUptoRow.holds Tryd.pinned (OpenSpec.upto latticeDownSpec)

/-- 'jalousielaw03.LatticeThree', WHERE WHAT IT READS IS OF BULK AT MOST 1048576: true; the input reads as it did. -/
def latticeThreeUptoRow : OpenClaim := { program := "ytilbjanjmmpkkaadoor", sum := "783c4dabf53f11a21b455f0a09fcad253214e339135ee5ed61d551ba34acfd49", func := "jalousie/jalousielaw03.LatticeThree", spec := "latticeThree", unfollowed := true, recurses := true, named := ["math/bits.deBruijn64tab"], apart := false, laid := [("math/bits.deBruijn64tab", laid_math_bits_deBruijn64tab)], narrowed := true }
def LatticeThreeUptoSaid : Prop := latticeThreeUptoRow.holds Tryd.pinned (OpenSpec.upto latticeThreeSpec)

/-- 'jalousielaw03.LatticePuts', WHERE WHAT IT READS IS OF BULK AT MOST 1048576: true; the input reads as it did. -/
def latticePutsUptoRow : OpenClaim := { program := "ytilbjanjmmpkkaadoor", sum := "783c4dabf53f11a21b455f0a09fcad253214e339135ee5ed61d551ba34acfd49", func := "jalousie/jalousielaw03.LatticePuts", spec := "latticePuts", unfollowed := true, recurses := true, named := ["math/bits.deBruijn64tab"], apart := false, laid := [("math/bits.deBruijn64tab", laid_math_bits_deBruijn64tab)], narrowed := true }
def LatticePutsUptoSaid : Prop := latticePutsUptoRow.holds Tryd.pinned (OpenSpec.upto latticePutsSpec)

end Rows
end Go.Proofs.YtilbjanjmmpkkaaDoor
