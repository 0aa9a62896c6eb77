import Derived.Test.YtogcbmhcddcfkaaGreatDoorJPap
import Derived.Test.YtogcbmhcddcfkaaGreatDoorJ18
import Derived.Test.YtogcbmhcddcfkaaGreatDoorJSho
import Derived.Test.YtogcbmhcddcfkaaGreatDoorJ07
import Derived.Test.YtogcbmhcddcfkaaGreatDoorJ41
import Derived.Test.YtogcbmhcddcfkaaGreatDoorJCpy
/- Of a claim's texts, joined: Cok. No statement but in the last. -/

