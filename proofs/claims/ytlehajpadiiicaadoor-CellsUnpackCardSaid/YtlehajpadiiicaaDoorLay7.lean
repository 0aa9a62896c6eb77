/- What the laws of layers over crc's table are told ahead, in the words of the last texts: no statement. -/
import Derived.Test.YtlehajpadiiicaaDoorLaid
import Derived.Test.YtlehajpadiiicaaDoorArgz
namespace Go.Proofs.YtlehajpadiiicaaDoor
open Go.ChangeShapes Go.WideShapes Go.ChangeAt Go.RowKit
set_option linter.unusedVariables false

abbrev layN : Nat := 14
abbrev layKinds : List LaidKind := [.data]
theorem base_of_laid {W : World} (h : laidMetH Tryd.prog lay W) : Tab W := tab_of_laid h

end Go.Proofs.YtlehajpadiiicaaDoor
