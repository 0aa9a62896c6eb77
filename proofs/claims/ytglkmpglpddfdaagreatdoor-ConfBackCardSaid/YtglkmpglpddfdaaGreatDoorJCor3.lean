import Derived.Test.YtglkmpglpddfdaaGreatDoorJCor2
/- Of a claim's texts, joined: Cor3. No statement but in the last. -/
namespace Go.Proofs.YtglkmpglpddfdaaGreatDoor
open Go.RowKit
set_option linter.unusedVariables false

end Go.Proofs.YtglkmpglpddfdaaGreatDoor
