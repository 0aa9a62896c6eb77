import Derived.Test.YtglkmpglpddfdaaGreatDoorJPap
import Derived.Test.YtglkmpglpddfdaaGreatDoorJ18
import Derived.Test.YtglkmpglpddfdaaGreatDoorJSho
import Derived.Test.YtglkmpglpddfdaaGreatDoorJ07
import Derived.Test.YtglkmpglpddfdaaGreatDoorJ41
import Derived.Test.YtglkmpglpddfdaaGreatDoorJCpy
/- Of a claim's texts, joined: Cok. No statement but in the last. -/

