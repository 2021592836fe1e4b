/-
  ALL CONTRACTS OF THE PROGRAM's LAYER 3.
-/
import Derived.Test.YtljbecalobnkbabMxCE
import Derived.Test.YtljbecalobnkbabMxCF
import Derived.Test.YtljbecalobnkbabMxCG
