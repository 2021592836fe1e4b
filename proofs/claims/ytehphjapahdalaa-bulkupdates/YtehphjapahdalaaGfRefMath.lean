/-
  PLAIN MATHEMATICS, MORE: bits of ints that are not negative; a power by the bits of its exponent; an inverse that is sought; a logarithm that is sought. No program is named here.
-/
import Derived.Test.YtehphjapahdalaaGfPowMath
import Derived.WalkKit
namespace Go.Proofs.Ytehphjapahdalaa.Gf
set_option linter.unusedVariables false
open Go.RowKit

theorem val_int {k : IntKind} {a b : Int} (h : a = b) : Value.int k a = .int k b := by rw [h]
theorem i64_and_nat (a b : Nat) (ha : a < 9223372036854775808) (hb : b < 9223372036854775808) : bits .and .i64 (a : Int) (b : Int) = ((a &&& b : Nat) : Int) := by
  have hx : a &&& b < 2 ^ 63 := Nat.and_lt_two_pow _ (by omega)
  show IntKind.i64.wrap ((BitVec.ofInt 64 (a : Int) &&& BitVec.ofInt 64 (b : Int)).toNat : Int) = _
  rw [BitVec.toNat_and, ofInt_u64 a (by omega), ofInt_u64 b (by omega), IntKind.wrap_i64]
  omega
theorem i64_xor_nat (a b : Nat) (ha : a < 9223372036854775808) (hb : b < 9223372036854775808) : bits .xor .i64 (a : Int) (b : Int) = ((a ^^^ b : Nat) : Int) := by
  have hx : a ^^^ b < 2 ^ 63 := Nat.xor_lt_two_pow (by omega) (by omega)
  show IntKind.i64.wrap ((BitVec.ofInt 64 (a : Int) ^^^ BitVec.ofInt 64 (b : Int)).toNat : Int) = _
  rw [BitVec.toNat_xor, ofInt_u64 a (by omega), ofInt_u64 b (by omega), IntKind.wrap_i64]
  omega

theorem pow_cast (b k : Nat) : ((b : Int) / 2 ^ k) = ((b / 2 ^ k : Nat) : Int) := by simp
theorem bit_u8 {b : Nat} (hb : b < 256) (k : Nat) : (bits .and .u8 ((b : Int) / 2 ^ k) 1 == 1) = b.testBit k := by
  have hl : b / 2 ^ k < 256 := Nat.lt_of_le_of_lt (Nat.div_le_self _ _) hb
  rw [pow_cast, show (1 : Int) = ((1 : Nat) : Int) from rfl, u8_and_nat _ _ hl (by omega), nat_mask1, Nat.testBit_eq_decide_div_mod_eq, Bool.eq_iff_iff]
  simp only [beq_iff_eq, decide_eq_true_eq]
  omega
theorem bit_i64 {n : Nat} (hn : n < 9223372036854775808) (k : Nat) : (bits .and .i64 ((n : Int) / 2 ^ k) 1 == 1) = n.testBit k := by
  have hl : n / 2 ^ k < 9223372036854775808 := Nat.lt_of_le_of_lt (Nat.div_le_self _ _) hn
  rw [pow_cast, show (1 : Int) = ((1 : Nat) : Int) from rfl, i64_and_nat _ _ hl (by omega), nat_mask1, Nat.testBit_eq_decide_div_mod_eq, Bool.eq_iff_iff]
  simp only [beq_iff_eq, decide_eq_true_eq]
  omega

theorem acc_lt {a : Nat} (b : Nat) (ha : a < 256) : ∀ k, acc k a b < 256
  | 0 => by simp [acc]
  | k + 1 => by
    rw [acc]
    refine xor_lt (acc_lt b ha k) ?_
    split
    · exact xt_lt ha k
    · omega
theorem x_hi {a k : Nat} (ha : a < 256) (h : (256 : Int) ≤ (xt k a : Nat) * 2) : bits .xor .i64 ((xt k a : Nat) * 2) 285 = ((xt (k + 1) a : Nat) : Int) := by
  have lx := xt_lt ha k
  have e : (((xt k a : Nat) : Int) * 2) = ((2 * xt k a : Nat) : Int) := by omega
  rw [e, show (285 : Int) = ((285 : Nat) : Int) from rfl, i64_xor_nat _ _ (by omega) (by omega), xt, dbl, if_neg (by omega)]
theorem x_lo {a k : Nat} (h : ((xt k a : Nat) : Int) * 2 < 256) : ((xt k a : Nat) : Int) * 2 = ((xt (k + 1) a : Nat) : Int) := by
  rw [xt, dbl, if_pos (by omega)]; omega
theorem o_hit {a b k : Nat} (ha : a < 256) (hb : b < 256) (h : (bits .and .u8 ((b : Int) / 2 ^ k) 1 == 1) = true) : bits .xor .i64 (acc k a b : Nat) (xt k a : Nat) = ((acc (k + 1) a b : Nat) : Int) := by
  rw [bit_u8 hb] at h
  have := xt_lt ha k
  have := acc_lt b ha k
  rw [i64_xor_nat _ _ (by omega) (by omega), acc, if_pos h]
theorem o_miss {a b k : Nat} (hb : b < 256) (h : (bits .and .u8 ((b : Int) / 2 ^ k) 1 == 1) = false) : ((acc k a b : Nat) : Int) = ((acc (k + 1) a b : Nat) : Int) := by
  rw [bit_u8 hb] at h
  rw [acc, if_neg (by rw [h]; decide), Nat.xor_zero]

/-! A power by the bits of its exponent. -/
def tm : Nat → Nat → Nat → Nat
  | 0, _, _ => 1
  | k + 1, a, n => if n.testBit k then mulS (tm k a n) (sq k a) else tm k a n
theorem tm_lt (a n : Nat) : ∀ k, tm k a n < 256
  | 0 => by simp [tm]
  | k + 1 => by
    rw [tm]; split
    · exact mulS_lt _ _
    · exact tm_lt a n k
theorem mod_step (n k : Nat) : n % 2 ^ (k + 1) = n % 2 ^ k + (if n.testBit k then 2 ^ k else 0) := by
  rw [Nat.mod_pow_succ, Nat.testBit_eq_decide_div_mod_eq]
  have : n / 2 ^ k % 2 = 0 ∨ n / 2 ^ k % 2 = 1 := by omega
  rcases this with h | h <;> simp [h]
theorem tm_pos {a : Nat} (h : a < 256) (h0 : a ≠ 0) (n : Nat) : ∀ k, tm k a n ≠ 0 ∧ lg (tm k a n) = lg a * (n % 2 ^ k) % 255
  | 0 => by simp [tm, lg_one, Nat.mod_one]
  | k + 1 => by
    obtain ⟨h1, h2⟩ := tm_pos h h0 n k
    rw [mod_step, tm]
    by_cases b : n.testBit k = true
    · simp only [b, if_true]
      refine ⟨mulS_ne h1 (sq_ne h0 k), ?_⟩
      rw [lg_mulS h1 (sq_ne h0 k), h2, lg_sq h h0 k, ← Nat.add_mod, ← Nat.mul_add]
    · simp only [b]
      exact ⟨h1, by simpa using h2⟩
theorem tm_zero (n : Nat) : ∀ k, tm k 0 n = if n % 2 ^ k = 0 then 1 else 0
  | 0 => by simp [tm, Nat.mod_one]
  | k + 1 => by
    rw [mod_step, tm, tm_zero n k, sq_zero, mulS_zero]
    have := Nat.two_pow_pos k
    by_cases b : n.testBit k = true
    · simp only [b, if_true]
      rw [if_neg (by omega)]
    · simp only [b]
      simp
theorem tm_powV {a n : Nat} (h : a < 256) (hn : n < 9223372036854775808) : tm 63 a n = powV a (n : Nat) := by
  have hm : n % 2 ^ 63 = n := Nat.mod_eq_of_lt (by omega)
  by_cases h0 : a = 0
  · subst h0
    rw [tm_zero, hm, powV]
    simp
  · obtain ⟨h1, h2⟩ := tm_pos h h0 n 63
    refine lg_inj (tm_lt _ _ _) (powV_lt _ _) h1 (powV_ne h0 _) ?_
    rw [h2, hm, lg_powV h0]
    have : tn (n : Int) = n % 255 := by unfold tn; omega
    rw [this, Nat.mul_mod, Nat.mul_mod (lg a) (n % 255), Nat.mod_mod]
theorem powE_nat (a n : Nat) : powE a (n : Nat) = 0 := by
  unfold powE; rw [if_neg (by omega)]
theorem powV_inv_pow {a : Nat} (h0 : a ≠ 0) (m n : Int) (h : (m + n) % 255 = 0) : powV (invS a) m = powV a n := by
  rw [powV_pos (invS_ne h0), powV_pos h0, lg_invS h0]
  congr 1
  have e : (254 * tn m) % 255 = tn n % 255 := by unfold tn; omega
  rw [Nat.mul_mod, Nat.mod_mod, ← Nat.mul_mod, Nat.mul_assoc, Nat.mul_mod, e, ← Nat.mul_mod]

/-! What is sought. -/
theorem inv_found {a k : Nat} (hk : k < 256) (h : mulS a k = 1) : a ≠ 0 ∧ k = invS a := by
  have h0 : a ≠ 0 := by rintro rfl; rw [zero_mulS] at h; omega
  refine ⟨h0, ?_⟩
  have e : mulS (invS a) (mulS a k) = k := by
    rw [mulS_assoc, mulS_comm (invS a) a, mulS_invS h0, mulS_comm, mulS_one hk]
  rw [h, mulS_one (invS_lt a)] at e
  exact e.symm
theorem inv_none {a : Nat} (h : ∀ j, 1 ≤ j → j < 256 → mulS a j ≠ 1) : a = 0 := by
  by_cases h0 : a = 0
  · exact h0
  · exact absurd (mulS_invS h0) (h _ (by have := invS_ne h0; omega) (invS_lt a))
theorem log_found {a k : Nat} (hk : k < 255) (h : pw (k % 255) = a) : a ≠ 0 ∧ k = lg a := by
  rw [Nat.mod_eq_of_lt hk] at h
  subst h
  have := pw_pos hk
  exact ⟨by omega, (lg_pw hk).symm⟩
theorem log_none {a : Nat} (ha : a < 256) (h : ∀ j, j < 255 → pw (j % 255) ≠ a) : a = 0 := by
  by_cases h0 : a = 0
  · exact h0
  · exact absurd (by rw [Nat.mod_eq_of_lt (lg_lt ha)]; exact pw_lg ha h0) (h _ (lg_lt ha))
theorem pw_next {k : Nat} (hk : k < 255) : mulS (pw (k % 255)) 2 = pw ((k + 1) % 255) := by
  rw [mulS_two (pw_lt _), next_pw hk]

end Go.Proofs.Ytehphjapahdalaa.Gf
