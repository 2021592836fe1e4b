/-
  THE DOCUMENT's ANSWER FOR LAYER 3 (package aumbryref03) BY CONTRACT: 'Same'.
-/
import Derived.Test.YthfimeddfpchpaaMxRd
import Derived.Test.YthfimeddfpchpaaPoSame
namespace Go.Proofs.Ythfimeddfpchpaa.Gf
set_option linter.unusedVariables false
set_option linter.unusedSimpArgs false
open Go.RowKit

set_option maxRecDepth 100000 in
set_option maxHeartbeats 1000000 in
theorem same3 {va vb : Value} {r c : Int} {A : List UInt8} {w : World} (ha : RdM w va r c A) (hb : RdM w vb r c A) :
    Calls Try.prog 20 #[va, vb] w fun e w' => e = .returned (.bool true) ∧ Below w.heap.size w w' := by
  obtain ⟨vs, rfl, h1⟩ := ha
  obtain ⟨vs', rfl, h2⟩ := hb
  obtain ⟨a, cap, rfl⟩ := h1.form
  obtain ⟨a', cap', rfl⟩ := h2.form
  go_enter Try.func20, Try.ntmps20
  go_wp2_with fail
  refine (same_b (h1.below (by repeat (first | exact Below.refl _ _ | apply below_lit))) (h2.below (by repeat (first | exact Below.refl _ _ | apply below_lit)))).mono ?_
  rintro e w' ⟨rfl, hw⟩
  rw [sameB_self]
  have B : Below w.heap.size w w' := Below.next (by repeat (first | exact Below.refl _ _ | apply below_lit)) hw
  have c1 := hw.cell (p := ⟨w.heap.size, 0, none⟩) (by simp; omega)
  have c2 := hw.cell (p := ⟨w.heap.size, 1, none⟩) (by simp; omega)
  have c3 := hw.cell (p := ⟨w.heap.size + 1, 0, none⟩) (by simp)
  have c4 := hw.cell (p := ⟨w.heap.size + 1, 1, none⟩) (by simp)
  simp at c1 c2 c3 c4
  go_wp2
  go_ret
  exact ⟨rfl, B⟩

end Go.Proofs.Ythfimeddfpchpaa.Gf
