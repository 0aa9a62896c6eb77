/- What the calls of package lattice come to, as the walks are told: no statement. -/
import Derived.Test.YtbgpjboefnacgaaLatp
import Derived.Test.YtbgpjboefnacgaaEnds
import Derived.Shelf.Spec.TrailingZeros
namespace Go.Proofs.Ytbgpjboefnacgaa
open Go.RowKit Go.Shelf
set_option linter.unusedVariables false

/-- The library's table of a lowest bit's number (block 0) reads as its text lays it. -/
def Base3 (w : World) : Prop := 0 < w.heap.size ∧ TabAt 0 Lib.deBruijn64tab w
theorem Base3.below {w w' : World} (h : Base3 w) (hb : Below w.heap.size w w') : Base3 w' :=
  ⟨Nat.lt_of_lt_of_le h.1 hb.size, fun j hj => (hb.cell (p := ⟨0, j, none⟩) h.1).trans (h.2 j hj)⟩

end Go.Proofs.Ytbgpjboefnacgaa
