/- Package lattice: contracts, no statement. -/
import Derived.Test.YtilbjanjmmpkkaaDoorLaki
namespace Go.Proofs.YtilbjanjmmpkkaaDoor
open Go.RowKit
set_option linter.unusedVariables false

theorem laLeq_any (up : List Nat) (A : Option Addr) (n c : Nat) (a b : Int) (w : World) (ht : Base3 w) (h : ArgU w A n c up) (hn : n ≤ 1000000) :
    Calls Tryd.prog 10 #[.slice A n c, .int .i64 a, .int .i64 b] w (BoolEnd (leqZ up a b) w) := leq_any up A n c a b w h
theorem laDown_any (up : List Nat) (A : Option Addr) (n c : Nat) (a : Int) (w : World) (ht : Base3 w) (h : ArgU w A n c up) (hn : n ≤ 1000000) :
    Calls Tryd.prog 12 #[.slice A n c, .int .i64 a] w (U64End (downN up a) w) := down_any up A n c a w h hn

end Go.Proofs.YtilbjanjmmpkkaaDoor
