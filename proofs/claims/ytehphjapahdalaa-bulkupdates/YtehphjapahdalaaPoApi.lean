/-
  WHAT A CALL THAT ANSWERS A POLYNOMIAL LEAVES: a slice that reads as it; nothing that was there has turned.
-/
import Derived.Test.YtehphjapahdalaaPoRd
import Derived.Test.YtehphjapahdalaaGfNew
import Derived.Test.YtehphjapahdalaaPoDivMath
namespace Go.Proofs.Ytehphjapahdalaa.Gf
set_option linter.unusedVariables false
set_option linter.unusedSimpArgs false
open Go.RowKit

def Makes (w : World) (p : List UInt8) (e : Ending) (w' : World) : Prop := ∃ v, e = .returned v ∧ Rd w' v p ∧ Below w.heap.size w w'
def MakesDiv (w : World) (p q : List UInt8) (e : Ending) (w' : World) : Prop := ∃ vs vr s r, e = .returned (.tuple #[vs, vr, .int .i64 0]) ∧ IsDiv p q s r ∧ Rd w' vs s ∧ Rd w' vr r ∧ Below w.heap.size w w'
def MakesNone (w : World) (x : Int) (e : Ending) (w' : World) : Prop := ∃ vs vr, e = .returned (.tuple #[vs, vr, .int .i64 x]) ∧ Rd w' vs [] ∧ Rd w' vr [] ∧ Below w.heap.size w w'
theorem FieldAt.below {w w' : World} {b : Nat} (h : FieldAt w b) (o : Below w.heap.size w w') : FieldAt w' b :=
  ⟨fun i hi => (o.cell (p := ⟨b, i, none⟩) h.lt).trans (h.powers i hi), fun i hi => (o.cell (p := ⟨b, 255 + i, none⟩) h.lt).trans (h.places i hi), Nat.lt_of_lt_of_le h.lt o.size⟩
theorem Below.next {w w1 w2 : World} (h : Below w.heap.size w w1) (k : Below w1.heap.size w1 w2) : Below w.heap.size w w2 := h.trans (k.mono h.size)
theorem Below.draws {w w1 : World} (h : Below w.heap.size w w1) (n : Nat) : Below w.heap.size w (w1.drewN n) := h.trans ⟨rfl, rfl, rfl, Nat.le_refl _, fun _ _ => rfl⟩
theorem below_draws (w : World) (n : Nat) : Below w.heap.size w (w.drewN n) := ⟨rfl, rfl, rfl, Nat.le_refl _, fun _ _ => rfl⟩

end Go.Proofs.Ytehphjapahdalaa.Gf
