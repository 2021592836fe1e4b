/-
  THE PROGRAM's ANSWERS AND THE DOCUMENT's ARE ONE: of each call of layer 5 one matrix and one error that both answer.
-/
import Derived.Test.YthfimeddfpchpaaCaCode
import Derived.Test.YthfimeddfpchpaaCaRefB
import Derived.Test.YthfimeddfpchpaaMxX
namespace Go.Proofs.Ythfimeddfpchpaa.Gf
set_option linter.unusedVariables false
set_option linter.unusedSimpArgs false
open Go.RowKit

theorem both_ccheck (k m : Int) : ∃ X : Int, (∀ w, Calls Try.prog 11 #[.int .i64 k, .int .i64 m] w fun e w' => e = .returned (.int .i64 X) ∧ Below w.heap.size w w') ∧ (∀ w, Calls Try.prog 12 #[.int .i64 k, .int .i64 m] w fun e w' => e = .returned (.int .i64 X) ∧ w' = w) := by
  by_cases h : OkC k m
  · exact ⟨0, fun w => ccheck_ok w h, fun w => rccheck_ok w h⟩
  · exact ⟨50, fun w => ccheck_bad w h, fun w => rccheck_bad w h⟩
theorem both_par (k m : Int) : ∃ R C L X, (∀ (b : Nat) (w : World), FieldAt w b → Calls Try.prog 14 #[.pointer (some ⟨b, 0, none⟩), .int .i64 k, .int .i64 m] w (MakesX w R C L X)) ∧ (∀ (w : World), Calls Try.prog 15 #[.int .i64 k, .int .i64 m] w (MakesX w R C L X)) := by
  by_cases h : OkC k m
  · obtain ⟨k, m, rfl, rfl, h1, h2⟩ := h.nat
    exact ⟨_, _, _, _, fun b w hF => (cpar_ok k m hF h1 h2 rfl rfl).mono fun e w' h => h.x, fun w => (rpar_ok w h1 h2 rfl rfl).mono fun e w' h => h.x⟩
  · exact ⟨_, _, _, _, fun b w hF => (cpar_bad hF h).mono fun e w' h => h.x, fun w => (rpar_bad w h).mono fun e w' h => h.x⟩
theorem both_gen (k m : Int) : ∃ R C L X, (∀ (b : Nat) (w : World), FieldAt w b → Calls Try.prog 16 #[.pointer (some ⟨b, 0, none⟩), .int .i64 k, .int .i64 m] w (MakesX w R C L X)) ∧ (∀ (w : World), Calls Try.prog 17 #[.int .i64 k, .int .i64 m] w (MakesX w R C L X)) := by
  by_cases h : OkC k m
  · obtain ⟨k, m, rfl, rfl, h1, h2⟩ := h.nat
    exact ⟨_, _, _, _, fun b w hF => (cgen_ok k m hF h1 h2 rfl rfl).mono fun e w' h => h.x, fun w => (rgen_ok w h1 h2 rfl rfl).mono fun e w' h => h.x⟩
  · exact ⟨_, _, _, _, fun b w hF => (cgen_bad hF h).mono fun e w' h => h.x, fun w => (rgen_bad w h).mono fun e w' h => h.x⟩
theorem both_chk (k m : Int) : ∃ R C L X, (∀ (b : Nat) (w : World), FieldAt w b → Calls Try.prog 18 #[.pointer (some ⟨b, 0, none⟩), .int .i64 k, .int .i64 m] w (MakesX w R C L X)) ∧ (∀ (w : World), Calls Try.prog 19 #[.int .i64 k, .int .i64 m] w (MakesX w R C L X)) := by
  by_cases h : OkC k m
  · obtain ⟨k, m, rfl, rfl, h1, h2⟩ := h.nat
    exact ⟨_, _, _, _, fun b w hF => (cchk_ok k m hF h1 h2 rfl rfl).mono fun e w' h => h.x, fun w => (rchk_ok w h1 h2 rfl rfl).mono fun e w' h => h.x⟩
  · exact ⟨_, _, _, _, fun b w hF => (cchk_bad hF h).mono fun e w' h => h.x, fun w => (rchk_bad w h).mono fun e w' h => h.x⟩

set_option maxRecDepth 100000 in
set_option maxHeartbeats 1000000 in
theorem few_some (k m : Int) : ∃ t : Bool, ∀ w, Calls Try.prog 13 #[.int .i64 k, .int .i64 m] w fun e w' => e = .returned (.bool t) ∧ Below w.heap.size w w' := by
  by_cases h : OkC k m
  · refine ⟨decide (k + m ≤ 40), fun w => ?_⟩
    have gw : IntKind.i64.wrap (k + m) = k + m := by rw [IntKind.wrap_i64]; have := h.1; have := h.2.1; have := h.2.2; omega
    go_enter Try.func13, Try.ntmps13
    go_wp2_with fail
    refine (rccheck_ok _ h).mono ?_
    rintro e w2 ⟨rfl, rfl⟩
    clear h
    go_wp2
    go_ret
    exact ⟨rfl, Below.refl _ _⟩
  · refine ⟨true, fun w => ?_⟩
    go_enter Try.func13, Try.ntmps13
    go_wp2_with fail
    refine (rccheck_bad _ h).mono ?_
    rintro e w2 ⟨rfl, rfl⟩
    clear h
    go_wp2
    go_ret
    exact ⟨rfl, Below.refl _ _⟩

end Go.Proofs.Ythfimeddfpchpaa.Gf
