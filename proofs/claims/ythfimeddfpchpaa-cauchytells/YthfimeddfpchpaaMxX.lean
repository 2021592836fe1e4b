/-
  WHAT A CALL THAT ANSWERS A MATRIX AND AN ERROR LEAVES, whichever they are.
-/
import Derived.Test.YthfimeddfpchpaaMxRd
namespace Go.Proofs.Ythfimeddfpchpaa.Gf
set_option linter.unusedVariables false
open Go.RowKit

/-- What a call that answers a matrix and an error leaves. -/
def MakesX (w : World) (r c : Int) (L : List UInt8) (x : Int) (e : Ending) (w' : World) : Prop := ∃ vs, e = .returned (.tuple #[.agg #[.int .i64 r, .int .i64 c, vs], .int .i64 x]) ∧ Rd w' vs L ∧ Below w.heap.size w w'
theorem MakesM.x {w w' : World} {r c : Nat} {F : Mx} {e : Ending} (h : MakesM w r c F e w') : MakesX w r c (flat r c F) 0 e w' := h
theorem MakesErr.x {w w' : World} {x : Int} {e : Ending} (h : MakesErr w x e w') : MakesX w 0 0 [] x e w' := h

end Go.Proofs.Ythfimeddfpchpaa.Gf
