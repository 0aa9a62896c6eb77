/- Package grants: its contracts together (Gka: Less, Fits, Base4; Gkb: May; Gkc: Check; Gke: Sources; Gkf: Put; Gkg: Get): no statement. -/
import Derived.Test.YtbgpjboefnacgaaGkc
import Derived.Test.YtbgpjboefnacgaaGke
import Derived.Test.YtbgpjboefnacgaaGkg
namespace Go.Proofs.Ytbgpjboefnacgaa
end Go.Proofs.Ytbgpjboefnacgaa
