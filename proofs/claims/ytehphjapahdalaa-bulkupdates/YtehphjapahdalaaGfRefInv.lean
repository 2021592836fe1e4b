/-
  THE DOCUMENT's ANSWER FOR LAYER 1 (package aumbryref01) BY CONTRACT: inverses and quotients.
-/
import Derived.Test.YtehphjapahdalaaGfRefMul
import Derived.WalkSpells
namespace Go.Proofs.Ytehphjapahdalaa.Gf
set_option linter.unusedVariables false
open Go.RowKit

set_option maxRecDepth 100000 in
set_option maxHeartbeats 1000000 in
theorem rinv_any (a : Nat) (w : World) (ha : a < 256) :
    Calls Try.prog 44 #[.int .u8 a] w fun e w' => e = .returned (.tuple #[.int .u8 (invS a : Nat), .int .i64 (zE a : Nat)]) ∧ w' = w := by
  go_enter Try.func44, Try.ntmps44
  go_wp2
  go_loop [4] (fun i => ∃ k : Nat, 1 ≤ k ∧ k ≤ 256 ∧ i = .int .i64 k ∧ Hid (∀ j, 1 ≤ j → j < k → mulS a j ≠ 1)) (fun i => 256 - (intOf i).toNat)
  case atStart => exact ⟨1, by omega, by omega, rfl, fun j h1 h2 => by omega⟩
  case round =>
    obtain ⟨k, h1, hk, rfl, hno⟩ := hrel
    by_cases hlt : k < 256
    · by_cases hit : mulS a k = 1
      · obtain ⟨ha0, hinv⟩ := inv_found hlt hit
        have E1 : Hid (k = invS a) := hinv
        have E2 : Hid (a ≠ 0) := ha0
        clear hinv ha0
        go_wp2_with (go_at_call 35; go_must (refine (rmul_at a k rfl (by omega) ha hlt).mono ?_); rintro e w' ⟨rfl, rfl⟩)
        go_ret2
        refine ⟨?_, rfl⟩
        rw [zE_pos E2.out, ← E1.out]
        rfl
      · have hb : ((mulS a k : Nat) : Int) ≠ 1 := by omega
        have hb2 : (((mulS a k : Nat) : Int) == 1) = false := by simpa using hb
        clear hb
        have HN : Hid (∀ j, 1 ≤ j → j < k + 1 → mulS a j ≠ 1) := fun j g1 g2 => by
          by_cases e : j = k
          · subst e; exact hit
          · exact hno.out j g1 (by omega)
        clear hit
        go_wp2_with (go_at_call 35; go_must (refine (rmul_at a k rfl (by omega) ha hlt).mono ?_); rintro e w' ⟨rfl, rfl⟩)
        go_round
        case rel => exact ⟨k + 1, by omega, by omega, by go_num, HN⟩
        case measure => simp [intOf]; omega
    · have e : k = 256 := by omega
      subst e
      have e0 := inv_none hno.out
      subst e0
      clear hno
      go_wp2
      go_ret2
      exact ⟨rfl, rfl⟩

theorem rinv_at {x : Int} {w : World} (a : Nat) (hx : x = a) (ha : a < 256) :
    Calls Try.prog 44 #[.int .u8 x] w fun e w' => e = .returned (.tuple #[.int .u8 (invS a : Nat), .int .i64 (zE a : Nat)]) ∧ w' = w := by
  subst hx; exact rinv_any a w ha

end Go.Proofs.Ytehphjapahdalaa.Gf
