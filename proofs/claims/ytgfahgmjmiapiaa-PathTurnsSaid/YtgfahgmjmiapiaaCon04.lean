/-
  The contracts of package path's functions.
-/
import Derived.Test.YtgfahgmjmiapiaaCon04A
import Derived.Test.YtgfahgmjmiapiaaCon04C
import Derived.Test.YtgfahgmjmiapiaaCon04D
import Derived.Test.YtgfahgmjmiapiaaCon04E
import Derived.Test.YtgfahgmjmiapiaaRef04
