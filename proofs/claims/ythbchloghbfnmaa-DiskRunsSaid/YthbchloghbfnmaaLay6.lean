/- What the laws of layer 6 are told ahead: no table at package level is read. No statement. -/
import Derived.Test.YthbchloghbfnmaaArgd
import Derived.ProofKit
import Derived.OpenShut
import Derived.ShutString
import Derived.ChangeOld
namespace Go.Proofs.Ythbchloghbfnmaa
open Go.ChangeShapes Go.WideShapes Go.ChangeAt Go.RowKit
set_option linter.unusedVariables false

theorem base_any (W : World) : True := trivial

end Go.Proofs.Ythbchloghbfnmaa
