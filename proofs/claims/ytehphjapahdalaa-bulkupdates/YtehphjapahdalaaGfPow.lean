/-
  THE FIELD's POWERS AND INVERSES BY CONTRACT, on a field that stands in memory; the world stands, but for draws.
-/
import Derived.Test.YtehphjapahdalaaGfMul
import Derived.Test.YtehphjapahdalaaGfPowMath
namespace Go.Proofs.Ytehphjapahdalaa.Gf
set_option linter.unusedVariables false
open Go.RowKit

set_option maxRecDepth 100000 in
theorem turns_any (n : Int) (w : World) (h1 : -9223372036854775808 ≤ n) (h2 : n ≤ 9223372036854775807) :
    Calls Try.prog 49 #[.int .i64 n] w fun e w' => e = .returned (.int .i64 (tn n : Nat)) ∧ w' = w := by
  have hb : -255 < n.tmod 255 ∧ n.tmod 255 < 255 := ⟨Int.lt_tmod_of_pos n (by omega), Int.tmod_lt_of_pos n (by omega)⟩
  have hq := Int.mul_tdiv_add_tmod n 255
  have E : Hid ((n.tmod 255 + 255) % 255 = (tn n : Nat)) := by rw [tn_cast]; show _ = _; omega
  clear hq
  obtain ⟨b1, b2⟩ := hb
  go_enter Try.func49, Try.ntmps49
  go_wp2
  go_ret
  exact ⟨ret_int E.out, rfl⟩

set_option maxRecDepth 100000 in
set_option maxHeartbeats 1000000 in
theorem pow_main (b a : Nat) (n : Int) (w : World) (hF : FieldAt w b) (ha0 : a ≠ 0) (hn0 : n ≠ 0) (ha : a < 256) (h1 : -9223372036854775808 ≤ n) (h2 : n ≤ 9223372036854775807) :
    Calls Try.prog 48 #[.pointer (some ⟨b, 0, none⟩), .int .u8 a, .int .i64 n] w fun e w' => e = .returned (.tuple #[.int .u8 (pw ((lg a * tn n) % 255) : Nat), .int .i64 0]) ∧ ∃ n, w' = w.drewN n := by
  have ka : ((a : Int) == 0) = false := by simpa using ha0
  have kn : (n == 0) = false := by simpa using hn0
  have p1 := hF.places a ha
  have l1 := lg_lt ha
  have l2 := tn_lt n
  have l3 : (lg a : Int) * (tn n : Int) ≤ 64516 := by
    have : lg a * tn n ≤ 254 * 254 := Nat.mul_le_mul (by omega) (by omega)
    have e : ((lg a * tn n : Nat) : Int) = (lg a : Int) * (tn n : Int) := by simp
    omega
  have l4 : 0 ≤ (lg a : Int) * (tn n : Int) := Int.mul_nonneg (by omega) (by omega)
  have p3 := hF.powers ((lg a * tn n) % 255) (Nat.mod_lt _ (by decide))
  go_enter Try.func48, Try.ntmps48
  go_wp2_with (go_at_call 45; go_must (refine (filled_any b _ hF).mono ?_); rintro e w' ⟨rfl, rfl⟩)
  go_quiet ((go_at_call 49; exact Calls.quiet_of_same (turns_any n _ h1 h2)))
  go_wp2
  go_ret2
  exact ⟨rfl, _, rfl⟩

set_option maxRecDepth 100000 in
theorem pow_nought (b a : Nat) (w : World) :
    Calls Try.prog 48 #[.pointer (some ⟨b, 0, none⟩), .int .u8 a, .int .i64 0] w fun e w' => e = .returned (.tuple #[.int .u8 1, .int .i64 0]) ∧ w' = w := by
  go_enter Try.func48, Try.ntmps48
  go_wp2
  go_ret2
  exact ⟨rfl, rfl⟩

set_option maxRecDepth 100000 in
theorem pow_zero_neg (b : Nat) (n : Int) (w : World) (hn : n < 0) :
    Calls Try.prog 48 #[.pointer (some ⟨b, 0, none⟩), .int .u8 0, .int .i64 n] w fun e w' => e = .returned (.tuple #[.int .u8 0, .int .i64 10]) ∧ w' = w := by
  have kn : (n == 0) = false := by simp; omega
  go_enter Try.func48, Try.ntmps48
  go_wp2
  go_ret2
  exact ⟨rfl, rfl⟩

set_option maxRecDepth 100000 in
theorem pow_zero_pos (b : Nat) (n : Int) (w : World) (hn : 0 < n) :
    Calls Try.prog 48 #[.pointer (some ⟨b, 0, none⟩), .int .u8 0, .int .i64 n] w fun e w' => e = .returned (.tuple #[.int .u8 0, .int .i64 0]) ∧ w' = w := by
  have kn : (n == 0) = false := by simp; omega
  go_enter Try.func48, Try.ntmps48
  go_wp2
  go_ret2
  exact ⟨rfl, rfl⟩

theorem pow_any (b a : Nat) (n : Int) (w : World) (hF : FieldAt w b) (ha : a < 256) (h1 : -9223372036854775808 ≤ n) (h2 : n ≤ 9223372036854775807) :
    Calls Try.prog 48 #[.pointer (some ⟨b, 0, none⟩), .int .u8 a, .int .i64 n] w fun e w' => e = .returned (.tuple #[.int .u8 (powV a n : Nat), .int .i64 (powE a n : Nat)]) ∧ ∃ n, w' = w.drewN n := by
  by_cases hn0 : n = 0
  · subst hn0
    exact (pow_nought b a w).mono fun e w' ⟨he, hw⟩ => ⟨by rw [he]; simp [powV, powE], 0, hw⟩
  · by_cases ha0 : a = 0
    · subst ha0
      by_cases hneg : n < 0
      · exact (pow_zero_neg b n w hneg).mono fun e w' ⟨he, hw⟩ => ⟨by rw [he]; simp [powV, powE, hn0, hneg], 0, hw⟩
      · exact (pow_zero_pos b n w (by omega)).mono fun e w' ⟨he, hw⟩ => ⟨by rw [he]; simp [powV, powE, hn0, hneg], 0, hw⟩
    · exact (pow_main b a n w hF ha0 hn0 ha h1 h2).mono fun e w' ⟨he, hw⟩ => ⟨by rw [he]; simp [powV, powE, hn0, ha0], hw⟩

set_option maxRecDepth 100000 in
theorem inv_any (b a : Nat) (w : World) (hF : FieldAt w b) (ha : a < 256) :
    Calls Try.prog 47 #[.pointer (some ⟨b, 0, none⟩), .int .u8 a] w fun e w' => e = .returned (.tuple #[.int .u8 (powV a (-1) : Nat), .int .i64 (powE a (-1) : Nat)]) ∧ ∃ n, w' = w.drewN n := by
  go_enter Try.func47, Try.ntmps47
  go_wp2_with (go_at_call 48; go_must (refine (pow_any b a (-1) _ hF ha (by omega) (by omega)).mono ?_); rintro e w' ⟨rfl, nd, rfl⟩)
  go_ret2
  exact ⟨rfl, _, rfl⟩

theorem pow_at {b : Nat} {x : Int} {w : World} (hF : FieldAt w b) (a : Nat) (n : Int) (hx : x = a) (ha : a < 256) (h1 : -9223372036854775808 ≤ n) (h2 : n ≤ 9223372036854775807) :
    Calls Try.prog 48 #[.pointer (some ⟨b, 0, none⟩), .int .u8 x, .int .i64 n] w fun e w' => e = .returned (.tuple #[.int .u8 (powV a n : Nat), .int .i64 (powE a n : Nat)]) ∧ ∃ n, w' = w.drewN n := by
  subst hx; exact pow_any b a n w hF ha h1 h2

theorem inv_at {b : Nat} {x : Int} {w : World} (hF : FieldAt w b) (a : Nat) (hx : x = a) (ha : a < 256) :
    Calls Try.prog 47 #[.pointer (some ⟨b, 0, none⟩), .int .u8 x] w fun e w' => e = .returned (.tuple #[.int .u8 (powV a (-1) : Nat), .int .i64 (powE a (-1) : Nat)]) ∧ ∃ n, w' = w.drewN n := by
  subst hx; exact inv_any b a w hF ha

theorem inv_all {b : Nat} {x : Int} {w : World} (hF : FieldAt w b) (a : Nat) (hx : x = a) (ha : a < 256) :
    Calls Try.prog 47 #[.pointer (some ⟨b, 0, none⟩), .int .u8 x] w fun e w' => e = .returned (.tuple #[.int .u8 (invS a : Nat), .int .i64 (zE a : Nat)]) ∧ ∃ n, w' = w.drewN n := by
  rw [← powV_m1, ← powE_m1]
  exact inv_at hF a hx ha

end Go.Proofs.Ytehphjapahdalaa.Gf
