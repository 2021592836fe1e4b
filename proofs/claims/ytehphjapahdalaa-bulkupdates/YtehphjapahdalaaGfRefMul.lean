/-
  THE DOCUMENT's ANSWER FOR LAYER 1 (package aumbryref01) BY CONTRACT: products.
-/
import Derived.Test.YtehphjapahdalaaGfRefMath
import Derived.Test.YtehphjapahdalaaGfOwn
namespace Go.Proofs.Ytehphjapahdalaa.Gf
set_option linter.unusedVariables false
open Go.RowKit

set_option maxRecDepth 100000 in
set_option maxHeartbeats 1000000 in
theorem rmul_any (a b : Nat) (w : World) (ha : a < 256) (hb : b < 256) :
    Calls Try.prog 35 #[.int .u8 a, .int .u8 b] w fun e w' => e = .returned (.int .u8 (mulS a b : Nat)) ∧ w' = w := by
  go_enter Try.func35, Try.ntmps35
  go_wp2
  go_loop [5, 6, 7] (fun x o i => ∃ k : Nat, k ≤ 8 ∧ i = .int .i64 k ∧ x = .int .i64 (xt k a : Nat) ∧ o = .int .i64 (acc k a b : Nat)) (fun _ _ i => 8 - (intOf i).toNat)
  case atStart => exact ⟨0, by omega, rfl, rfl, rfl⟩
  case round =>
    obtain ⟨k, hk, rfl, rfl, rfl⟩ := hrel
    have lx := xt_lt ha k
    have lo := acc_lt b ha k
    by_cases hlt : k < 8
    · go_wp2
      all_goals
        go_round
        case rel => exact ⟨k + 1, by omega, by go_num, by first | exact val_int (x_hi ha ‹_›) | exact val_int (x_lo ‹_›), by first | exact val_int (o_hit ha hb ‹_›) | exact val_int (o_miss hb ‹_›)⟩
        case measure => simp [intOf]; omega
    · have e : k = 8 := by omega
      subst e
      have E : Hid (mulS a b = acc 8 a b) := mulS_acc ha hb
      go_wp2
      go_ret
      exact ⟨ret_int (by rw [E.out]), rfl⟩

theorem rmul_at {x y : Int} {w : World} (a b : Nat) (hx : x = a) (hy : y = b) (ha : a < 256) (hb : b < 256) :
    Calls Try.prog 35 #[.int .u8 x, .int .u8 y] w fun e w' => e = .returned (.int .u8 (mulS a b : Nat)) ∧ w' = w := by
  subst hx hy; exact rmul_any a b w ha hb

end Go.Proofs.Ytehphjapahdalaa.Gf
