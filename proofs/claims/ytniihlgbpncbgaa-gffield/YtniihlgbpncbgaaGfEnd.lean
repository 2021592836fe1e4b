/-
  SMALL LEMMAS for the statements' walks: a byte's number as a natural number; an int's bounds.
-/
import Derived.Test.YtniihlgbpncbgaaGfCalls
import Derived.Test.YtniihlgbpncbgaaGfAlg
import Derived.OpenShut
namespace Go.Proofs.Ytniihlgbpncbgaa.Gf
set_option linter.unusedVariables false
open Go.RowKit

theorem u8_nat {x : Int} (h : (Lit.int .u8 x).wf = true) : ∃ a : Nat, x = a ∧ a < 256 := by
  have := bounds_u8 h
  exact ⟨x.toNat, by omega, by omega⟩
theorem i64_bounds {x : Int} (h : (Lit.int .i64 x).wf = true) : -9223372036854775808 ≤ x ∧ x ≤ 9223372036854775807 := by
  have := bounds_i64 h
  omega

theorem tn_neg : tn (-1) = 254 := by kernel_rfl
theorem powV_inv {a : Nat} (h : a ≠ 0) : powV a (-1) = invS a := by
  unfold powV invS; rw [if_neg (by omega), if_neg h, if_neg h, tn_neg]
theorem powE_inv {a : Nat} (h : a ≠ 0) : powE a (-1) = 0 := by simp [powE, h]

theorem powV_lt (a : Nat) (n : Int) : powV a n < 256 := by
  unfold powV; split
  · omega
  · split
    · omega
    · exact pw_lt _
theorem powV_pos {a : Nat} (h : a ≠ 0) (n : Int) : powV a n = pw (lg a * tn n % 255) := by
  unfold powV
  by_cases e : n = 0
  · subst e
    rw [if_pos rfl, show tn 0 = 0 from rfl, Nat.mul_zero, Nat.zero_mod, pw_zero]
  · rw [if_neg e, if_neg h]
theorem powE_pos {a : Nat} (h : a ≠ 0) (n : Int) : powE a n = 0 := by simp [powE, h]
theorem powV_ne {a : Nat} (h : a ≠ 0) (n : Int) : powV a n ≠ 0 := by
  rw [powV_pos h]
  have := pw_pos (Nat.mod_lt (lg a * tn n) (by decide : 0 < 255))
  omega
theorem lg_powV {a : Nat} (h : a ≠ 0) (n : Int) : lg (powV a n) = lg a * tn n % 255 := by
  rw [powV_pos h, lg_pw (Nat.mod_lt _ (by decide))]
theorem tn_add (m n : Int) : tn (m + n) = (tn m + tn n) % 255 := by unfold tn; omega
theorem powV_add {a : Nat} (h : a ≠ 0) (m n : Int) : mulS (powV a m) (powV a n) = powV a (m + n) := by
  rw [mulS_pos (powV_ne h m) (powV_ne h n), lg_powV h, lg_powV h, powV_pos h, tn_add]
  congr 1
  rw [← Nat.add_mod, ← Nat.mul_add, Nat.mul_mod, Nat.mul_mod (lg a) ((tn m + tn n) % 255), Nat.mod_mod]
theorem powV_turn {a : Nat} (h : a ≠ 0) (m : Int) : powV a (m + 255) = powV a m := by
  rw [powV_pos h, powV_pos h]
  have : tn (m + 255) = tn m := by unfold tn; omega
  rw [this]
theorem lg_two : lg 2 = 1 := by kernel_rfl
theorem powV_lg {a : Nat} (h : a < 256) (h0 : a ≠ 0) : powV 2 (lg a : Nat) = a := by
  have l := lg_lt h
  have : tn (lg a : Nat) = lg a := by unfold tn; omega
  rw [powV_pos (by decide), lg_two, this, Nat.one_mul, Nat.mod_eq_of_lt l, pw_lg h h0]

theorem powV_m1 (a : Nat) : powV a (-1) = invS a := by
  by_cases h : a = 0
  · subst h; rfl
  · exact powV_inv h
theorem powE_m1 (a : Nat) : powE a (-1) = zE a := by
  by_cases h : a = 0
  · subst h; rfl
  · rw [powE_inv h, zE_pos h]
theorem div_all {b : Nat} {x y : Int} {w : World} (hF : FieldAt w b) (a c : Nat) (hx : x = a) (hy : y = c) (ha : a < 256) (hc : c < 256) :
    Calls Try.prog 13 #[.pointer (some ⟨b, 0, none⟩), .int .u8 x, .int .u8 y] w fun e w' => e = .returned (.tuple #[.int .u8 (mulS a (invS c) : Nat), .int .i64 (zE c : Nat)]) ∧ ∃ n, w' = w.drewN n := by
  by_cases hc0 : c = 0
  · subst hc0 hx hy
    have e1 : mulS a (invS 0) = 0 := mulS_zero a
    rw [e1, zE_zero]
    exact div_zero b a w hF
  · rw [← powV_m1 c, zE_pos hc0]
    exact div_at hF a c hx hy ha hc hc0
theorem inv_all {b : Nat} {x : Int} {w : World} (hF : FieldAt w b) (a : Nat) (hx : x = a) (ha : a < 256) :
    Calls Try.prog 11 #[.pointer (some ⟨b, 0, none⟩), .int .u8 x] w fun e w' => e = .returned (.tuple #[.int .u8 (invS a : Nat), .int .i64 (zE a : Nat)]) ∧ ∃ n, w' = w.drewN n := by
  rw [← powV_m1, ← powE_m1]
  exact inv_at hF a hx ha

end Go.Proofs.Ytniihlgbpncbgaa.Gf
