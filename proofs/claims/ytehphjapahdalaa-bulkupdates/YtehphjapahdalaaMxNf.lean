/-
  What a new row of noughts and a matrix variable ahead of it are, behind 'make'. No program's function is named here.
-/
import Derived.Test.YtehphjapahdalaaMxOwn
namespace Go.Proofs.Ytehphjapahdalaa.Gf
set_option linter.unusedVariables false
set_option linter.unusedSimpArgs false
open Go.RowKit

theorem nought_facts {w w1 : World} {m u t : Nat} (hown : w1.ownsRow w.heap.size u 1 (.slice (some ⟨(w.alloc (Obj.cells #[.int .i64 0, .int .i64 0, .slice none 0 0] t)).heap.size, 0, none⟩) m m) m (madeCells (Value.cells (.int .u8 0)) (m * 1)).toList)
    (hgrow : (w.alloc (Obj.cells #[.int .i64 0, .int .i64 0, .slice none 0 0] t)).grownBy w1 none) :
    RowF w1 w.heap.size u (w.heap.size + 1) m m (fun _ => 0) ∧ Below w.heap.size w w1 ∧ w1.cell? ⟨w.heap.size, 0, none⟩ = some (.int .i64 0) ∧ w1.cell? ⟨w.heap.size, 1, none⟩ = some (.int .i64 0) ∧ w1.cell? ⟨w.heap.size, 2, none⟩ = some (.slice none 0 0) ∧
    w1.frozen? ⟨w.heap.size, 0, none⟩ = false ∧ w1.frozen? ⟨w.heap.size, 1, none⟩ = false ∧ w1.frozen? ⟨w.heap.size, 2, none⟩ = false := by
  simp only [World.size_alloc] at hown
  have R1 := RowF.made hown
  have B1 : Below (w.heap.size + 1) (w.alloc (Obj.cells #[.int .i64 0, .int .i64 0, .slice none 0 0] t)) w1 := (Below.refl _ _).grown hgrow (by simp) (fun k h => by cases h)
  have B0 : Below w.heap.size w w1 := (below_lit (Below.refl _ _) _).trans (B1.mono (by omega))
  have X0 : Box w1 w.heap.size 0 0 (.slice none 0 0) := Box.below (B := w.heap.size + 1) ⟨by simp, by simp, by simp⟩ (by omega) B1
  have F0 : Free w1 w.heap.size := Free.below (B := w.heap.size + 1) ⟨by simp, by simp, by simp⟩ (by omega) B1
  exact ⟨R1, B0, X0.c0, X0.c1, X0.c2, F0.f0, F0.f1, F0.f2⟩

end Go.Proofs.Ytehphjapahdalaa.Gf
