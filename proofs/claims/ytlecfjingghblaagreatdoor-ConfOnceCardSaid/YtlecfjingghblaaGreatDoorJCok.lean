import Derived.Test.YtlecfjingghblaaGreatDoorJPap
import Derived.Test.YtlecfjingghblaaGreatDoorJ18
import Derived.Test.YtlecfjingghblaaGreatDoorJSho
import Derived.Test.YtlecfjingghblaaGreatDoorJ07
import Derived.Test.YtlecfjingghblaaGreatDoorJ39
import Derived.Test.YtlecfjingghblaaGreatDoorJCpy
/- Of a claim's texts, joined: Cok. No statement but in the last. -/

