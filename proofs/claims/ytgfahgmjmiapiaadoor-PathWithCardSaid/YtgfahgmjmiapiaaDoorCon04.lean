/-
  The contracts of package path's functions.
-/
import Derived.Test.YtgfahgmjmiapiaaDoorCon04A
import Derived.Test.YtgfahgmjmiapiaaDoorCon04D
import Derived.Test.YtgfahgmjmiapiaaDoorRef04
