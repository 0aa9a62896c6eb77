/- What the laws' condition on tables at package level gives the walks of layer 4, and a start that meets it: no statement. (Practice: to be looked over for the code that lands.) -/
import Derived.Test.YtbgpjboefnacgaaGrk
import Derived.Test.YtbgpjboefnacgaaArgg
import Derived.Test.YtbgpjboefnacgaaArgu
import Derived.ProofKit
import Derived.OpenShut
import Derived.ShutString
import Derived.ChangeOld
namespace Go.Proofs.Ytbgpjboefnacgaa
open Go.ChangeShapes Go.WideShapes Go.ChangeAt Go.RowKit
set_option linter.unusedVariables false

theorem base_any (W : World) : Base4 W := trivial

end Go.Proofs.Ytbgpjboefnacgaa
