/- TEXTS JOINED: ArVec. -/
import Derived.Test.YtpijncnpicgjeaaTome9
/-
  THE DOCUMENT's HELPERS BY CONTRACT: 'Ints' (package aumbryref10), 'Bools' (package aumbryref13), of two lists that are the same.
-/

namespace Go.Proofs.Ytpijncnpicgjeaa.Gf
set_option linter.unusedVariables false
set_option linter.unusedSimpArgs false
open Go.RowKit

set_option maxRecDepth 100000 in
theorem aints_eq {w : World} {g1 g2 n c1 c2 : Nat} {f : Nat → Int} (h1 : ∀ i, i < n → w.cell? ⟨g1, i, none⟩ = some (.int .i64 (f i))) (h2 : ∀ i, i < n → w.cell? ⟨g2, i, none⟩ = some (.int .i64 (f i))) (hn : n ≤ 1000) :
    Calls Try.prog 30 #[.slice (some ⟨g1, 0, none⟩) n c1, .slice (some ⟨g2, 0, none⟩) n c2] w fun e w' => e = .returned (.bool true) ∧ ∃ m, w' = w.drewN m := by
  go_enter Try.func30, Try.ntmps30
  go_wp2
  go_loopw [5] (fun i wr => ∃ k : Nat, k ≤ n ∧ i = .int .i64 (k : Int) ∧ ∃ m, wr = w.drewN m) (fun i _ => n - (intOf i).toNat)
  case atStart => exact ⟨0, Nat.zero_le _, rfl, 0, rfl⟩
  case round =>
    obtain ⟨k, hk, rfl, m, rfl⟩ := hrel
    by_cases hlt : k < n
    · have hlt' : (k : Int) < (n : Int) := by omega
      have g1' : IntKind.i64.wrap ((k : Int) + 1) = ((k + 1 : Nat) : Int) := by rw [IntKind.wrap_i64]; omega
      have k1 : (w.drewN m).cell? ⟨g1, k, none⟩ = some (.int .i64 (f k)) := h1 k hlt
      have k2 : (w.drewN m).cell? ⟨g2, k, none⟩ = some (.int .i64 (f k)) := h2 k hlt
      generalize f k = y at k1 k2
      obtain ⟨wq, hq⟩ : ∃ wq, wq = w.drewN m := ⟨_, rfl⟩
      have HQ : Hid (wq = w.drewN m) := hq
      rw [← hq] at k1 k2 ⊢
      clear hq h1 h2
      go_wp2_with fail
      try go_quiet (fail)
      try go_wp2
      go_roundw
      case rel => exact ⟨k + 1, by omega, by go_num, by first | exact ⟨_, HQ.out⟩ | exact ⟨_, by rw [HQ.out]; exact World.drewN_drewN _ _ _⟩⟩
      case measure => simp [intOf]; omega
    · have hlt' : ¬ (k : Int) < (n : Int) := by omega
      clear h1 h2
      go_wp2
      go_ret
      exact ⟨rfl, m, rfl⟩
set_option maxRecDepth 100000 in
theorem abools_eq {w : World} {g1 g2 n c1 c2 : Nat} {f : Nat → Bool} (h1 : ∀ i, i < n → w.cell? ⟨g1, i, none⟩ = some (.bool (f i))) (h2 : ∀ i, i < n → w.cell? ⟨g2, i, none⟩ = some (.bool (f i))) (hn : n ≤ 1000) :
    Calls Try.prog 31 #[.slice (some ⟨g1, 0, none⟩) n c1, .slice (some ⟨g2, 0, none⟩) n c2] w fun e w' => e = .returned (.bool true) ∧ ∃ m, w' = w.drewN m := by
  go_enter Try.func31, Try.ntmps31
  go_wp2
  go_loopw [5] (fun i wr => ∃ k : Nat, k ≤ n ∧ i = .int .i64 (k : Int) ∧ ∃ m, wr = w.drewN m) (fun i _ => n - (intOf i).toNat)
  case atStart => exact ⟨0, Nat.zero_le _, rfl, 0, rfl⟩
  case round =>
    obtain ⟨k, hk, rfl, m, rfl⟩ := hrel
    by_cases hlt : k < n
    · have hlt' : (k : Int) < (n : Int) := by omega
      have g1' : IntKind.i64.wrap ((k : Int) + 1) = ((k + 1 : Nat) : Int) := by rw [IntKind.wrap_i64]; omega
      have k1 : (w.drewN m).cell? ⟨g1, k, none⟩ = some (.bool (f k)) := h1 k hlt
      have k2 : (w.drewN m).cell? ⟨g2, k, none⟩ = some (.bool (f k)) := h2 k hlt
      generalize f k = y at k1 k2
      obtain ⟨wq, hq⟩ : ∃ wq, wq = w.drewN m := ⟨_, rfl⟩
      have HQ : Hid (wq = w.drewN m) := hq
      rw [← hq] at k1 k2 ⊢
      clear hq h1 h2
      cases y
      all_goals
        go_wp2_with fail
        try go_quiet (fail)
        try go_wp2
        go_roundw
        case rel => exact ⟨k + 1, by omega, by go_num, by first | exact ⟨_, HQ.out⟩ | exact ⟨_, by rw [HQ.out]; exact World.drewN_drewN _ _ _⟩⟩
        case measure => simp [intOf]; omega
    · have hlt' : ¬ (k : Int) < (n : Int) := by omega
      clear h1 h2
      go_wp2
      go_ret
      exact ⟨rfl, m, rfl⟩
end Go.Proofs.Ytpijncnpicgjeaa.Gf

