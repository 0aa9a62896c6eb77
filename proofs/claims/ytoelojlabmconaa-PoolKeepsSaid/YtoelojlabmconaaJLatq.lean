import Derived.Test.YtoelojlabmconaaJLatr
import Derived.BigRegion
import Derived.ChangeAlike
/- Of a claim's texts, joined: Latq. No statement but in the last. -/
namespace Go.Proofs.Ytoelojlabmconaa
open Go.RowKit
set_option linter.unusedVariables false

def i64V (x : Nat) : Value := .int .i64 (x : Int)
/-! Check. -/
def okAB (up : List Nat) (a b : Nat) : Bool :=
  !(ubit up a b && decide (up.length ≤ b) || decide (a = b) && !ubit up a b || ubit up a b && !decide (a = b) && ubit up b a) && (!ubit up a b || (List.range up.length).all fun c => !ubit up b c || ubit up a c)
end Go.Proofs.Ytoelojlabmconaa
