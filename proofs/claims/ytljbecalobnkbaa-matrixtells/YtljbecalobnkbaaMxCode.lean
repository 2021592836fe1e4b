/-
  ALL CONTRACTS OF THE PROGRAM's LAYER 3.
-/
import Derived.Test.YtljbecalobnkbaaMxCE
import Derived.Test.YtljbecalobnkbaaMxCF
import Derived.Test.YtljbecalobnkbaaMxCG
