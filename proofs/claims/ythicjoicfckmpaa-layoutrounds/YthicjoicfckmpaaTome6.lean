/- TEXTS JOINED: LyCut. -/
import Derived.Test.YthicjoicfckmpaaTome3
import Derived.Deep.CutRange
/-
  THE LIBRARY's CUTS, FOR A WALK WHOSE WAYS MEET AGAIN (layer 14). No program's function is named here.
-/

