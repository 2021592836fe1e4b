/-
  'Own w w'': w' is w with new blocks of cells laid behind it, cells of those written, draws made: below the heap's size nothing has turned, and no cell is frozen that was not. One relation for all contracts of this seat.
-/
import Derived.Test.YtehphjapahdalaaRows
import Derived.WalkKit
import Derived.Deep.QuietTactic
import Derived.BigQuiet
import Derived.WalkLawsBesides
namespace Go.Proofs.Ytehphjapahdalaa.Gf
set_option linter.unusedVariables false
open Go.RowKit

theorem ret_int {k : IntKind} {a b : Int} (h : a = b) : Ending.returned (.int k a) = .returned (.int k b) := by rw [h]

structure Own (w w' : World) : Prop where
  below : Below w.heap.size w w'
  frozen : ∀ a, w'.frozen? a = w.frozen? a

theorem Own.refl (w : World) : Own w w := ⟨Below.refl _ _, fun _ => rfl⟩
theorem Own.trans {a b c : World} (h : Own a b) (k : Own b c) : Own a c :=
  ⟨h.below.trans (k.below.mono h.below.size), fun x => (k.frozen x).trans (h.frozen x)⟩
theorem Own.drew {a b : World} (h : Own a b) : Own a b.drew := ⟨h.below.drew, h.frozen⟩
theorem Own.drewN {a b : World} (h : Own a b) (n : Nat) : Own a (b.drewN n) := ⟨h.below.trans ⟨rfl, rfl, rfl, Nat.le_refl _, fun _ _ => rfl⟩, h.frozen⟩
theorem Own.alloc {a b : World} (h : Own a b) (c : Array Value) (t : TypeId) : Own a (b.alloc (.cells c t)) :=
  ⟨h.below.alloc h.below.size _, fun x => ((Grown.refl b).alloc c t).2.1 x |>.trans (h.frozen x)⟩
theorem Own.setCell {a b : World} (h : Own a b) {p : Addr} (hp : a.heap.size ≤ p.block) (v : Value) : Own a (b.setCell p v) :=
  ⟨h.below.setCell hp v, fun x => by rw [← h.frozen x]; simp⟩
theorem Own.grown {a b : World} (h : Own a b) : Grown a b := ⟨h.below.frame _, h.frozen, h.below.size⟩
theorem Own.cell {w w' : World} (h : Own w w') {p : Addr} (hp : p.block < w.heap.size) : w'.cell? p = w.cell? p := h.below.cell hp

end Go.Proofs.Ytehphjapahdalaa.Gf
