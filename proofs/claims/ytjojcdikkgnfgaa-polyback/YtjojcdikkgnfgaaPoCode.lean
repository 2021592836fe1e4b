/-
  THE PROGRAM's POLYNOMIALS BY CONTRACT: all of them.
-/
import Derived.Test.YtjojcdikkgnfgaaPoCodeA
import Derived.Test.YtjojcdikkgnfgaaPoCodeB
import Derived.Test.YtjojcdikkgnfgaaPoCodeC
import Derived.Test.YtjojcdikkgnfgaaPoCodeD
