/-
  THE PROGRAM's POLYNOMIALS BY CONTRACT: all of them.
-/
import Derived.Test.YtjojcdikkgnfgabPoCodeA
import Derived.Test.YtjojcdikkgnfgabPoCodeB
import Derived.Test.YtjojcdikkgnfgabPoCodeC
import Derived.Test.YtjojcdikkgnfgabPoCodeD
