/- TEXTS JOINED: GfRefMath, GfRefMul, GfRefInv, CaRefC, SyRef, SyRefO. -/
import Derived.Test.YtjgeipmfdmdmkaaTome4
import Derived.WalkKit
import Derived.Test.YtjgeipmfdmdmkaaTome1
import Derived.WalkSpells
import Derived.Test.YtjgeipmfdmdmkaaTome3
import Derived.Test.YtjgeipmfdmdmkaaTome5
import Derived.BigQuiet
import Derived.Deep.RegionWith
import Derived.Deep.QuietTactic
/-
  PLAIN MATHEMATICS, MORE: bits of ints that are not negative; a power by the bits of its exponent; an inverse that is sought; a logarithm that is sought. No program is named here.
-/

namespace Go.Proofs.Ytjgeipmfdmdmkaa.Gf
set_option linter.unusedVariables false
open Go.RowKit

theorem val_int {k : IntKind} {a b : Int} (h : a = b) : Value.int k a = .int k b := by rw [h]
theorem i64_and_nat (a b : Nat) (ha : a < 9223372036854775808) (hb : b < 9223372036854775808) : bits .and .i64 (a : Int) (b : Int) = ((a &&& b : Nat) : Int) := by
  have hx : a &&& b < 2 ^ 63 := Nat.and_lt_two_pow _ (by omega)
  show IntKind.i64.wrap ((BitVec.ofInt 64 (a : Int) &&& BitVec.ofInt 64 (b : Int)).toNat : Int) = _
  rw [BitVec.toNat_and, ofInt_u64 a (by omega), ofInt_u64 b (by omega), IntKind.wrap_i64]
  omega
theorem i64_xor_nat (a b : Nat) (ha : a < 9223372036854775808) (hb : b < 9223372036854775808) : bits .xor .i64 (a : Int) (b : Int) = ((a ^^^ b : Nat) : Int) := by
  have hx : a ^^^ b < 2 ^ 63 := Nat.xor_lt_two_pow (by omega) (by omega)
  show IntKind.i64.wrap ((BitVec.ofInt 64 (a : Int) ^^^ BitVec.ofInt 64 (b : Int)).toNat : Int) = _
  rw [BitVec.toNat_xor, ofInt_u64 a (by omega), ofInt_u64 b (by omega), IntKind.wrap_i64]
  omega

theorem pow_cast (b k : Nat) : ((b : Int) / 2 ^ k) = ((b / 2 ^ k : Nat) : Int) := by simp
theorem bit_u8 {b : Nat} (hb : b < 256) (k : Nat) : (bits .and .u8 ((b : Int) / 2 ^ k) 1 == 1) = b.testBit k := by
  have hl : b / 2 ^ k < 256 := Nat.lt_of_le_of_lt (Nat.div_le_self _ _) hb
  rw [pow_cast, show (1 : Int) = ((1 : Nat) : Int) from rfl, u8_and_nat _ _ hl (by omega), nat_mask1, Nat.testBit_eq_decide_div_mod_eq, Bool.eq_iff_iff]
  simp only [beq_iff_eq, decide_eq_true_eq]
  omega
theorem bit_i64 {n : Nat} (hn : n < 9223372036854775808) (k : Nat) : (bits .and .i64 ((n : Int) / 2 ^ k) 1 == 1) = n.testBit k := by
  have hl : n / 2 ^ k < 9223372036854775808 := Nat.lt_of_le_of_lt (Nat.div_le_self _ _) hn
  rw [pow_cast, show (1 : Int) = ((1 : Nat) : Int) from rfl, i64_and_nat _ _ hl (by omega), nat_mask1, Nat.testBit_eq_decide_div_mod_eq, Bool.eq_iff_iff]
  simp only [beq_iff_eq, decide_eq_true_eq]
  omega

theorem acc_lt {a : Nat} (b : Nat) (ha : a < 256) : ∀ k, acc k a b < 256
  | 0 => by simp [acc]
  | k + 1 => by
    rw [acc]
    refine xor_lt (acc_lt b ha k) ?_
    split
    · exact xt_lt ha k
    · omega
theorem x_hi {a k : Nat} (ha : a < 256) (h : (256 : Int) ≤ (xt k a : Nat) * 2) : bits .xor .i64 ((xt k a : Nat) * 2) 285 = ((xt (k + 1) a : Nat) : Int) := by
  have lx := xt_lt ha k
  have e : (((xt k a : Nat) : Int) * 2) = ((2 * xt k a : Nat) : Int) := by omega
  rw [e, show (285 : Int) = ((285 : Nat) : Int) from rfl, i64_xor_nat _ _ (by omega) (by omega), xt, dbl, if_neg (by omega)]
theorem x_lo {a k : Nat} (h : ((xt k a : Nat) : Int) * 2 < 256) : ((xt k a : Nat) : Int) * 2 = ((xt (k + 1) a : Nat) : Int) := by
  rw [xt, dbl, if_pos (by omega)]; omega
theorem o_hit {a b k : Nat} (ha : a < 256) (hb : b < 256) (h : (bits .and .u8 ((b : Int) / 2 ^ k) 1 == 1) = true) : bits .xor .i64 (acc k a b : Nat) (xt k a : Nat) = ((acc (k + 1) a b : Nat) : Int) := by
  rw [bit_u8 hb] at h
  have := xt_lt ha k
  have := acc_lt b ha k
  rw [i64_xor_nat _ _ (by omega) (by omega), acc, if_pos h]
theorem o_miss {a b k : Nat} (hb : b < 256) (h : (bits .and .u8 ((b : Int) / 2 ^ k) 1 == 1) = false) : ((acc k a b : Nat) : Int) = ((acc (k + 1) a b : Nat) : Int) := by
  rw [bit_u8 hb] at h
  rw [acc, if_neg (by rw [h]; decide), Nat.xor_zero]

/-! A power by the bits of its exponent. -/
def tm : Nat → Nat → Nat → Nat
  | 0, _, _ => 1
  | k + 1, a, n => if n.testBit k then mulS (tm k a n) (sq k a) else tm k a n
theorem tm_lt (a n : Nat) : ∀ k, tm k a n < 256
  | 0 => by simp [tm]
  | k + 1 => by
    rw [tm]; split
    · exact mulS_lt _ _
    · exact tm_lt a n k
theorem mod_step (n k : Nat) : n % 2 ^ (k + 1) = n % 2 ^ k + (if n.testBit k then 2 ^ k else 0) := by
  rw [Nat.mod_pow_succ, Nat.testBit_eq_decide_div_mod_eq]
  have : n / 2 ^ k % 2 = 0 ∨ n / 2 ^ k % 2 = 1 := by omega
  rcases this with h | h <;> simp [h]
theorem tm_pos {a : Nat} (h : a < 256) (h0 : a ≠ 0) (n : Nat) : ∀ k, tm k a n ≠ 0 ∧ lg (tm k a n) = lg a * (n % 2 ^ k) % 255
  | 0 => by simp [tm, lg_one, Nat.mod_one]
  | k + 1 => by
    obtain ⟨h1, h2⟩ := tm_pos h h0 n k
    rw [mod_step, tm]
    by_cases b : n.testBit k = true
    · simp only [b, if_true]
      refine ⟨mulS_ne h1 (sq_ne h0 k), ?_⟩
      rw [lg_mulS h1 (sq_ne h0 k), h2, lg_sq h h0 k, ← Nat.add_mod, ← Nat.mul_add]
    · simp only [b]
      exact ⟨h1, by simpa using h2⟩
theorem tm_zero (n : Nat) : ∀ k, tm k 0 n = if n % 2 ^ k = 0 then 1 else 0
  | 0 => by simp [tm, Nat.mod_one]
  | k + 1 => by
    rw [mod_step, tm, tm_zero n k, sq_zero, mulS_zero]
    have := Nat.two_pow_pos k
    by_cases b : n.testBit k = true
    · simp only [b, if_true]
      rw [if_neg (by omega)]
    · simp only [b]
      simp
theorem tm_powV {a n : Nat} (h : a < 256) (hn : n < 9223372036854775808) : tm 63 a n = powV a (n : Nat) := by
  have hm : n % 2 ^ 63 = n := Nat.mod_eq_of_lt (by omega)
  by_cases h0 : a = 0
  · subst h0
    rw [tm_zero, hm, powV]
    simp
  · obtain ⟨h1, h2⟩ := tm_pos h h0 n 63
    refine lg_inj (tm_lt _ _ _) (powV_lt _ _) h1 (powV_ne h0 _) ?_
    rw [h2, hm, lg_powV h0]
    have : tn (n : Int) = n % 255 := by unfold tn; omega
    rw [this, Nat.mul_mod, Nat.mul_mod (lg a) (n % 255), Nat.mod_mod]
theorem powE_nat (a n : Nat) : powE a (n : Nat) = 0 := by
  unfold powE; rw [if_neg (by omega)]
theorem powV_inv_pow {a : Nat} (h0 : a ≠ 0) (m n : Int) (h : (m + n) % 255 = 0) : powV (invS a) m = powV a n := by
  rw [powV_pos (invS_ne h0), powV_pos h0, lg_invS h0]
  congr 1
  have e : (254 * tn m) % 255 = tn n % 255 := by unfold tn; omega
  rw [Nat.mul_mod, Nat.mod_mod, ← Nat.mul_mod, Nat.mul_assoc, Nat.mul_mod, e, ← Nat.mul_mod]

/-! What is sought. -/
theorem inv_found {a k : Nat} (hk : k < 256) (h : mulS a k = 1) : a ≠ 0 ∧ k = invS a := by
  have h0 : a ≠ 0 := by rintro rfl; rw [zero_mulS] at h; omega
  refine ⟨h0, ?_⟩
  have e : mulS (invS a) (mulS a k) = k := by
    rw [mulS_assoc, mulS_comm (invS a) a, mulS_invS h0, mulS_comm, mulS_one hk]
  rw [h, mulS_one (invS_lt a)] at e
  exact e.symm
theorem inv_none {a : Nat} (h : ∀ j, 1 ≤ j → j < 256 → mulS a j ≠ 1) : a = 0 := by
  by_cases h0 : a = 0
  · exact h0
  · exact absurd (mulS_invS h0) (h _ (by have := invS_ne h0; omega) (invS_lt a))
theorem log_found {a k : Nat} (hk : k < 255) (h : pw (k % 255) = a) : a ≠ 0 ∧ k = lg a := by
  rw [Nat.mod_eq_of_lt hk] at h
  subst h
  have := pw_pos hk
  exact ⟨by omega, (lg_pw hk).symm⟩
theorem log_none {a : Nat} (ha : a < 256) (h : ∀ j, j < 255 → pw (j % 255) ≠ a) : a = 0 := by
  by_cases h0 : a = 0
  · exact h0
  · exact absurd (by rw [Nat.mod_eq_of_lt (lg_lt ha)]; exact pw_lg ha h0) (h _ (lg_lt ha))
theorem pw_next {k : Nat} (hk : k < 255) : mulS (pw (k % 255)) 2 = pw ((k + 1) % 255) := by
  rw [mulS_two (pw_lt _), next_pw hk]

end Go.Proofs.Ytjgeipmfdmdmkaa.Gf

/-
  THE DOCUMENT's ANSWER FOR LAYER 1 (package aumbryref01) BY CONTRACT: products.
-/

namespace Go.Proofs.Ytjgeipmfdmdmkaa.Gf
set_option linter.unusedVariables false
open Go.RowKit

set_option maxRecDepth 100000 in
set_option maxHeartbeats 1000000 in
theorem rmul_any (a b : Nat) (w : World) (ha : a < 256) (hb : b < 256) :
    Calls Try.prog 29 #[.int .u8 a, .int .u8 b] w fun e w' => e = .returned (.int .u8 (mulS a b : Nat)) ∧ w' = w := by
  go_enter Try.func29, Try.ntmps29
  go_wp2
  go_loop [5, 6, 7] (fun x o i => ∃ k : Nat, k ≤ 8 ∧ i = .int .i64 k ∧ x = .int .i64 (xt k a : Nat) ∧ o = .int .i64 (acc k a b : Nat)) (fun _ _ i => 8 - (intOf i).toNat)
  case atStart => exact ⟨0, by omega, rfl, rfl, rfl⟩
  case round =>
    obtain ⟨k, hk, rfl, rfl, rfl⟩ := hrel
    have lx := xt_lt ha k
    have lo := acc_lt b ha k
    by_cases hlt : k < 8
    · go_wp2
      all_goals
        go_round
        case rel => exact ⟨k + 1, by omega, by go_num, by first | exact val_int (x_hi ha ‹_›) | exact val_int (x_lo ‹_›), by first | exact val_int (o_hit ha hb ‹_›) | exact val_int (o_miss hb ‹_›)⟩
        case measure => simp [intOf]; omega
    · have e : k = 8 := by omega
      subst e
      have E : Hid (mulS a b = acc 8 a b) := mulS_acc ha hb
      go_wp2
      go_ret
      exact ⟨ret_int (by rw [E.out]), rfl⟩

theorem rmul_at {x y : Int} {w : World} (a b : Nat) (hx : x = a) (hy : y = b) (ha : a < 256) (hb : b < 256) :
    Calls Try.prog 29 #[.int .u8 x, .int .u8 y] w fun e w' => e = .returned (.int .u8 (mulS a b : Nat)) ∧ w' = w := by
  subst hx hy; exact rmul_any a b w ha hb

end Go.Proofs.Ytjgeipmfdmdmkaa.Gf

/-
  THE DOCUMENT's ANSWER FOR LAYER 1 (package aumbryref01) BY CONTRACT: inverses and quotients.
-/

namespace Go.Proofs.Ytjgeipmfdmdmkaa.Gf
set_option linter.unusedVariables false
open Go.RowKit

set_option maxRecDepth 100000 in
set_option maxHeartbeats 1000000 in
theorem rinv_any (a : Nat) (w : World) (ha : a < 256) :
    Calls Try.prog 38 #[.int .u8 a] w fun e w' => e = .returned (.tuple #[.int .u8 (invS a : Nat), .int .i64 (zE a : Nat)]) ∧ w' = w := by
  go_enter Try.func38, Try.ntmps38
  go_wp2
  go_loop [4] (fun i => ∃ k : Nat, 1 ≤ k ∧ k ≤ 256 ∧ i = .int .i64 k ∧ Hid (∀ j, 1 ≤ j → j < k → mulS a j ≠ 1)) (fun i => 256 - (intOf i).toNat)
  case atStart => exact ⟨1, by omega, by omega, rfl, fun j h1 h2 => by omega⟩
  case round =>
    obtain ⟨k, h1, hk, rfl, hno⟩ := hrel
    by_cases hlt : k < 256
    · by_cases hit : mulS a k = 1
      · obtain ⟨ha0, hinv⟩ := inv_found hlt hit
        have E1 : Hid (k = invS a) := hinv
        have E2 : Hid (a ≠ 0) := ha0
        clear hinv ha0
        go_wp2_with (go_at_call 29; go_must (refine (rmul_at a k rfl (by omega) ha hlt).mono ?_); rintro e w' ⟨rfl, rfl⟩)
        go_ret2
        refine ⟨?_, rfl⟩
        rw [zE_pos E2.out, ← E1.out]
        rfl
      · have hb : ((mulS a k : Nat) : Int) ≠ 1 := by omega
        have hb2 : (((mulS a k : Nat) : Int) == 1) = false := by simpa using hb
        clear hb
        have HN : Hid (∀ j, 1 ≤ j → j < k + 1 → mulS a j ≠ 1) := fun j g1 g2 => by
          by_cases e : j = k
          · subst e; exact hit
          · exact hno.out j g1 (by omega)
        clear hit
        go_wp2_with (go_at_call 29; go_must (refine (rmul_at a k rfl (by omega) ha hlt).mono ?_); rintro e w' ⟨rfl, rfl⟩)
        go_round
        case rel => exact ⟨k + 1, by omega, by omega, by go_num, HN⟩
        case measure => simp [intOf]; omega
    · have e : k = 256 := by omega
      subst e
      have e0 := inv_none hno.out
      subst e0
      clear hno
      go_wp2
      go_ret2
      exact ⟨rfl, rfl⟩

theorem rinv_at {x : Int} {w : World} (a : Nat) (hx : x = a) (ha : a < 256) :
    Calls Try.prog 38 #[.int .u8 x] w fun e w' => e = .returned (.tuple #[.int .u8 (invS a : Nat), .int .i64 (zE a : Nat)]) ∧ w' = w := by
  subst hx; exact rinv_any a w ha

end Go.Proofs.Ytjgeipmfdmdmkaa.Gf

/-
  THE DOCUMENT's ANSWER FOR LAYER 5 (package aumbryref05) BY CONTRACT: 'Check'.
-/

namespace Go.Proofs.Ytjgeipmfdmdmkaa.Gf
set_option linter.unusedVariables false
set_option linter.unusedSimpArgs false
open Go.RowKit

set_option maxRecDepth 100000 in
set_option maxHeartbeats 1000000 in
theorem rccheck_ok {k m : Int} (w : World) (h : OkC k m) : Calls Try.prog 26 #[.int .i64 k, .int .i64 m] w fun e w' => e = .returned (.int .i64 0) ∧ w' = w := by
  obtain ⟨h1, h2, h3⟩ := h
  have k1 : decide (k < 1) = false := decide_eq_false (by omega)
  have k2 : decide (k > 256) = false := decide_eq_false (by omega)
  have k3 : decide (m < 0) = false := decide_eq_false (by omega)
  have k4 : decide (m > 256) = false := decide_eq_false (by omega)
  have k5 : decide (k + m > 256) = false := decide_eq_false (by omega)
  have gw : IntKind.i64.wrap (k + m) = k + m := by rw [IntKind.wrap_i64]; omega
  go_enter Try.func26, Try.ntmps26
  go_wp2
  go_ret
  exact ⟨rfl, rfl⟩
set_option maxRecDepth 100000 in
set_option maxHeartbeats 1000000 in
theorem rccheck_bad {k m : Int} (w : World) (h : ¬ OkC k m) : Calls Try.prog 26 #[.int .i64 k, .int .i64 m] w fun e w' => e = .returned (.int .i64 50) ∧ w' = w := by
  by_cases h1 : k < 1
  · have k1 : decide (k < 1) = true := decide_eq_true h1
    clear h h1
    go_enter Try.func26, Try.ntmps26
    go_wp2
    go_ret
    exact ⟨rfl, rfl⟩
  have k1 : decide (k < 1) = false := decide_eq_false h1
  by_cases h2 : k > 256
  · have k2 : decide (k > 256) = true := decide_eq_true h2
    clear h h1 h2
    go_enter Try.func26, Try.ntmps26
    go_wp2
    go_ret
    exact ⟨rfl, rfl⟩
  have k2 : decide (k > 256) = false := decide_eq_false h2
  by_cases h3 : m < 0
  · have k3 : decide (m < 0) = true := decide_eq_true h3
    clear h h1 h2 h3
    go_enter Try.func26, Try.ntmps26
    go_wp2
    go_ret
    exact ⟨rfl, rfl⟩
  have k3 : decide (m < 0) = false := decide_eq_false h3
  by_cases h4 : m > 256
  · have k4 : decide (m > 256) = true := decide_eq_true h4
    clear h h1 h2 h3 h4
    go_enter Try.func26, Try.ntmps26
    go_wp2
    go_ret
    exact ⟨rfl, rfl⟩
  have k4 : decide (m > 256) = false := decide_eq_false h4
  have k5 : decide (k + m > 256) = true := decide_eq_true (by
    by_cases h5 : k + m ≤ 256
    · exact absurd ⟨by omega, by omega, h5⟩ h
    · omega)
  have gw : IntKind.i64.wrap (k + m) = k + m := by rw [IntKind.wrap_i64]; omega
  clear h h1 h2 h3 h4
  go_enter Try.func26, Try.ntmps26
  go_wp2
  go_ret
  exact ⟨rfl, rfl⟩

end Go.Proofs.Ytjgeipmfdmdmkaa.Gf

/-
  THE DOCUMENT's ANSWER FOR LAYER 8 (package aumbryref08) BY CONTRACT: 'Weight', 'Weights', 'Power', 'Of'.
-/





namespace Go.Proofs.Ytjgeipmfdmdmkaa.Gf
set_option linter.unusedVariables false
set_option linter.unusedSimpArgs false
open Go.RowKit

theorem rmu8_at {w : World} (a b : UInt8) {x y : Int} (hx : x = ((a.toNat : Nat) : Int)) (hy : y = ((b.toNat : Nat) : Int)) :
    Calls Try.prog 29 #[.int .u8 x, .int .u8 y] w fun e w' => e = .returned (.int .u8 ((mu a b).toNat : Nat)) ∧ w' = w := by
  rw [mu_toNat]
  exact rmul_at a.toNat b.toNat hx hy (u8_lt a) (u8_lt b)

set_option maxRecDepth 100000 in
set_option maxHeartbeats 2000000 in
theorem rwt_any {k m i : Nat} (w : World) (hkm : k + m ≤ 256) (hi : i < 256) {x y z : Int} (hx : x = (k : Int)) (hy : y = (m : Int)) (hz : z = (i : Int)) :
    Calls Try.prog 27 #[.int .i64 x, .int .i64 y, .int .i64 z] w fun e w' => e = .returned (.int .u8 ((wtF k m i).toNat : Nat)) ∧ w' = w := by
  subst hx hy hz
  obtain ⟨s, hs⟩ : ∃ s, Hid (s = k + m) := ⟨_, rfl⟩
  have g0 : (k : Int) + (m : Int) = (s : Int) := by have := hs.out; omega
  have hs2 : s ≤ 256 := by have := hs.out; omega
  have gw : IntKind.i64.wrap (s : Int) = (s : Int) := by rw [IntKind.wrap_i64]; omega
  have hks : k ≤ s := by have := hs.out; omega
  clear hkm
  go_enter Try.func27, Try.ntmps27
  go_wp2
  go_loop [7, 8] (fun p v => ∃ t : Nat, k ≤ t ∧ t ≤ s ∧ v = .int .i64 t ∧ p = .int .u8 ((wpd k i (t - k)).toNat : Nat)) (fun _ v => s - (intOf v).toNat)
  case atStart => exact ⟨k, by omega, by omega, rfl, by rw [Nat.sub_self]; rfl⟩
  case round =>
    obtain ⟨t, h1, h2, rfl, rfl⟩ := hrel
    by_cases hlt : t < s
    · have hlt' : (t : Int) < (s : Int) := by omega
      by_cases e : t = i
      · have hn : ((t : Int) != (i : Int)) = false := by simp [e]
        have HP : Hid (wpd k i (t + 1 - k) = wpd k i (t - k)) := by
          show _ = _
          rw [show t + 1 - k = (t - k) + 1 by omega, wpd_self (by omega)]
        clear e
        go_wp2
        go_round
        case rel => exact ⟨t + 1, by omega, by omega, by go_num, by rw [HP.out]⟩
        case measure => simp [intOf]; omega
      · have hn : ((t : Int) != (i : Int)) = true := by simp; omega
        have ht2 : t < 256 := by omega
        have m1 : (t : Int) % 256 = (t : Int) := by omega
        have m2 : (i : Int) % 256 = (i : Int) := by omega
        have X := pt_xor hi ht2
        have HP : Hid (wpd k i (t + 1 - k) = mu (wpd k i (t - k)) (pt i ^^^ pt t)) := by
          show _ = _
          rw [show t + 1 - k = (t - k) + 1 by omega, wpd_next (by omega), show k + (t - k) = t by omega]
        obtain ⟨u, hu⟩ : ∃ u, Hid (u = pt i ^^^ pt t) := ⟨_, rfl⟩
        rw [← hu.out] at X HP
        obtain ⟨q, hq⟩ : ∃ q, Hid (q = wpd k i (t - k)) := ⟨_, rfl⟩
        rw [← hq.out] at HP ⊢
        clear e
        go_wp2_with fail
        refine (rmu8_at q u rfl rfl).mono ?_
        rintro e w2 ⟨rfl, rfl⟩
        go_wp2
        go_round
        case rel => exact ⟨t + 1, by omega, by omega, by go_num, by rw [HP.out]⟩
        case measure => simp [intOf]; omega
    · have e : t = s := by omega
      subst e
      have hge : ¬ (t : Int) < (t : Int) := by omega
      have HW : Hid (((wtF k m i).toNat : Nat) = invS (wpd k i (t - k)).toNat) := by
        show _ = _
        unfold wtF
        rw [iv_toNat, show t - k = m by have := hs.out; omega]
      obtain ⟨q, hq⟩ : ∃ q, Hid (q = wpd k i (t - k)) := ⟨_, rfl⟩
      rw [← hq.out] at HW ⊢
      go_wp2_with fail
      refine (rinv_at q.toNat rfl (u8_lt q)).mono ?_
      rintro e w2 ⟨rfl, rfl⟩
      go_wp2
      go_ret
      exact ⟨by rw [HW.out]; rfl, rfl⟩

set_option maxRecDepth 100000 in
set_option maxHeartbeats 1000000 in
theorem rpw_any (a : UInt8) {n : Nat} (w : World) (hn : n ≤ 256) {x y : Int} (hx : x = ((a.toNat : Nat) : Int)) (hy : y = (n : Int)) :
    Calls Try.prog 30 #[.int .u8 x, .int .i64 y] w fun e w' => e = .returned (.int .u8 ((nmF 1 a n).toNat : Nat)) ∧ w' = w := by
  subst hx hy
  go_enter Try.func30, Try.ntmps30
  go_wp2
  go_loop [5, 6] (fun p v => ∃ t : Nat, t ≤ n ∧ v = .int .i64 t ∧ p = .int .u8 ((nmF 1 a t).toNat : Nat)) (fun _ v => n - (intOf v).toNat)
  case atStart => exact ⟨0, by omega, rfl, rfl⟩
  case round =>
    obtain ⟨t, ht, rfl, rfl⟩ := hrel
    by_cases hlt : t < n
    · have hlt' : (t : Int) < (n : Int) := by omega
      obtain ⟨q, hq⟩ : ∃ q, Hid (q = nmF 1 a t) := ⟨_, rfl⟩
      have HQ : Hid (nmF 1 a (t + 1) = mu q a) := by show _ = _; rw [hq.out]; rfl
      rw [← hq.out]
      go_wp2_with fail
      refine (rmu8_at q a rfl rfl).mono ?_
      rintro e w2 ⟨rfl, rfl⟩
      go_wp2
      go_round
      case rel => exact ⟨t + 1, by omega, by go_num, by rw [HQ.out]⟩
      case measure => simp [intOf]; omega
    · have e : t = n := by omega
      subst e
      have hge : ¬ (t : Int) < (t : Int) := by omega
      go_wp2
      go_ret
      exact ⟨rfl, rfl⟩

set_option maxRecDepth 100000 in
set_option maxHeartbeats 1000000 in
theorem rwts_bad {k m : Int} (w : World) (h : ¬ OkC k m) : Calls Try.prog 12 #[.int .i64 k, .int .i64 m] w (MakesP w 50 []) := by
  go_enter Try.func12, Try.ntmps12
  go_wp2_with fail
  refine (rccheck_bad _ h).mono ?_
  rintro e w2 ⟨rfl, rfl⟩
  clear h
  go_wp2
  exact bodyPost_ret (v := .tuple #[.slice none 0 0, .int .i64 50]) (by simp [results, Try.results12, go_sem]) rfl ⟨_, rfl, rd_nil _, Below.refl _ _⟩

set_option maxRecDepth 100000 in
set_option maxHeartbeats 2000000 in
theorem rwts_ok {k m : Nat} (w : World) (h1 : 1 ≤ k) (h2 : k + m ≤ 256) {x y : Int} (hx : x = (k : Int)) (hy : y = (m : Int)) : Calls Try.prog 12 #[.int .i64 x, .int .i64 y] w (MakesP w 0 (upto (wtF k m) (k + m))) := by
  subst hx hy
  obtain ⟨i0, hi, hz0, hz1, hz2⟩ := info_parts info_u8
  obtain ⟨s, hs⟩ : ∃ s, Hid (s = k + m) := ⟨_, rfl⟩
  have g0 : (k : Int) + (m : Int) = (s : Int) := by have := hs.out; omega
  have hs2 : s ≤ 256 := by have := hs.out; omega
  have gw : IntKind.i64.wrap (s : Int) = (s : Int) := by rw [IntKind.wrap_i64]; omega
  rw [← hs.out]
  have hok := okC_mk h1 h2
  have h2' : Hid _ := h2
  clear h2
  go_enter Try.func12, Try.ntmps12
  go_wp2_with fail
  refine (rccheck_ok _ hok).mono ?_
  rintro e w2 ⟨rfl, rfl⟩
  clear hok
  go_wp2
  go_loopw [7, 8] (fun o v wr => ∃ i : Nat, i ≤ s ∧ v = .int .i64 i ∧ wr.ownsRow w2.heap.size 5 1 o i ((upto (wtF k m) i).map vb) ∧ Below w2.heap.size w2 wr) (fun _ v _ => s - (intOf v).toNat)
  case atStart => exact ⟨0, by omega, rfl, World.ownsRow_nil _ _ _ _, Below.refl _ _⟩
  case round =>
    obtain ⟨i, hi9, rfl, hown, hbel⟩ := hrel
    have hsz := hbel.size
    by_cases hlt : i < s
    · have hlt' : (i : Int) < (s : Int) := by omega
      obtain ⟨av, cv, rfl⟩ := owns_form hown
      go_wp2_with fail
      refine (rwt_any (i := i) _ h2'.out (by omega) rfl rfl rfl).mono ?_
      rintro e w3 ⟨rfl, rfl⟩
      go_wp2_with (at_builtin; go_loud (refine wpList_append_rd2 _ rfl (.tmp 22) (.tmp 27) 22 rfl w2.heap.size 5 i0 Try.underlying22 hi hz0 hz1 hz2 (.slice av i cv) i _ rfl (World.ownsRow.alloc hown _) _ [wtF k m i] rfl (rd_lit (n := 1) [wtF k m i] rfl rfl (by decide)) (by simp; omega) (by simp; omega) ?_); intro x' w4 hx4 hg4 _)
      have HN : Hid (w4.ownsRow w2.heap.size 5 1 x' (i + 1) ((upto (wtF k m) (i + 1)).map vb)) := (by rw [upto_vb_succ]; exact hx4 : w4.ownsRow w2.heap.size 5 1 x' (i + 1) ((upto (wtF k m) (i + 1)).map vb))
      have HB : Hid (Below w2.heap.size w2 w4) := grow_below hbel hown hg4
      clear hx4 hg4 hown hbel
      go_roundw
      case rel => exact ⟨i + 1, by omega, by go_num, HN.out, HB.out⟩
      case measure => simp [intOf]; omega
    · have e : i = s := by omega
      subst e
      have hge : ¬ (i : Int) < (i : Int) := by omega
      obtain ⟨av, cv, rfl⟩ := owns_form hown
      have HP : Rd wr (.slice av i cv) (upto (wtF k m) i) := Rd.owned (base := w2.heap.size) (e := 5) (by rw [upto_length]; exact hown)
      clear hown
      go_wp2
      exact bodyPost_ret (v := .tuple #[.slice av i cv, .int .i64 0]) (by simp [results, Try.results12, go_sem]) rfl ⟨_, rfl, HP, hbel⟩

theorem rwts_any {k m : Int} (w : World) : Calls Try.prog 12 #[.int .i64 k, .int .i64 m] w (MakesP w (wtX k m) (wtR k m)) := by
  by_cases h : OkC k m
  · obtain ⟨k, m, rfl, rfl, h1, h2⟩ := h.nat
    rw [(wtX_ok h).1, (wtX_ok h).2]
    exact rwts_ok w h1 h2 rfl rfl
  · rw [(wtX_bad h).1, (wtX_bad h).2]
    exact rwts_bad w h

end Go.Proofs.Ytjgeipmfdmdmkaa.Gf

/-
  THE DOCUMENT's ANSWER FOR LAYER 8 (package aumbryref08) BY CONTRACT: 'Of'.
-/

namespace Go.Proofs.Ytjgeipmfdmdmkaa.Gf
set_option linter.unusedVariables false
set_option linter.unusedSimpArgs false
open Go.RowKit

set_option maxRecDepth 100000 in
set_option maxHeartbeats 1000000 in
theorem rof_bad {k m : Int} {v : Value} {z : List UInt8} {w : World} (h : ¬ OkC k m) (hz : Rd w v z) : Calls Try.prog 14 #[.int .i64 k, .int .i64 m, v] w (MakesP w 50 []) := by
  obtain ⟨a, c, rfl⟩ := hz.form
  clear hz
  go_enter Try.func14, Try.ntmps14
  go_wp2_with fail
  refine (rwts_bad _ h).mono ?_
  rintro e w2 ⟨v, rfl, hR, b2⟩
  obtain ⟨va, vc, rfl⟩ := hR.form
  clear h hR
  go_wp2
  exact bodyPost_ret (v := .tuple #[.slice none 0 0, .int .i64 50]) (by simp [results, Try.results14, go_sem]) rfl ⟨_, rfl, rd_nil _, b2⟩

set_option maxRecDepth 100000 in
set_option maxHeartbeats 1000000 in
theorem rof_shard {k m : Nat} {v : Value} {z : List UInt8} {w : World} (h1 : 1 ≤ k) (h2 : k + m ≤ 256) (hz : Rd w v z) (hne : ¬ z.length = k + m) {x y : Int} (hx : x = (k : Int)) (hy : y = (m : Int)) : Calls Try.prog 14 #[.int .i64 x, .int .i64 y, v] w (MakesP w 60 []) := by
  subst hx hy
  have hl := hz.len
  unfold maxLen at hl
  obtain ⟨a, c, rfl⟩ := hz.form
  obtain ⟨s, hs⟩ : ∃ s, Hid (s = k + m) := ⟨_, rfl⟩
  have g0 : (k : Int) + (m : Int) = (s : Int) := by have := hs.out; omega
  have hs2 : s ≤ 256 := by have := hs.out; omega
  have gw : IntKind.i64.wrap (s : Int) = (s : Int) := by rw [IntKind.wrap_i64]; omega
  have hn : ((z.length : Int) != (s : Int)) = true := by have := hs.out; simp; omega
  have HC := rwts_ok w h1 h2 rfl rfl
  clear hz hne h2
  go_enter Try.func14, Try.ntmps14
  go_wp2_with fail
  refine HC.mono ?_
  rintro e w2 ⟨v, rfl, hR, b2⟩
  obtain ⟨va, vc, rfl⟩ := hR.form
  clear hR HC
  go_wp2
  exact bodyPost_ret (v := .tuple #[.slice none 0 0, .int .i64 60]) (by simp [results, Try.results14, go_sem]) rfl ⟨_, rfl, rd_nil _, b2⟩

set_option maxRecDepth 100000 in
set_option maxHeartbeats 4000000 in
theorem rof_ok {k m : Nat} {v : Value} {z : List UInt8} {w : World} (h1 : 1 ≤ k) (h2 : k + m ≤ 256) (hz : Rd w v z) (hl : z.length = k + m) {x y : Int} (hx : x = (k : Int)) (hy : y = (m : Int)) : Calls Try.prog 14 #[.int .i64 x, .int .i64 y, v] w (MakesP w 0 (upto (synF k m (co z)) m)) := by
  subst hx hy
  obtain ⟨i0, hi, hz0, hz1, hz2⟩ := info_parts info_u8
  obtain ⟨za, zc, rfl⟩ := hz.form
  obtain ⟨s, hs⟩ : ∃ s, Hid (s = k + m) := ⟨_, rfl⟩
  have g0 : (k : Int) + (m : Int) = (s : Int) := by have := hs.out; omega
  have hs2 : s ≤ 256 := by have := hs.out; omega
  have hm2 : m ≤ 256 := by have := hs.out; omega
  have gw : IntKind.i64.wrap (s : Int) = (s : Int) := by rw [IntKind.wrap_i64]; omega
  have HL : Hid (z.length = s) := by show _ = _; rw [hs.out]; exact hl
  rw [hl, ← hs.out] at hz ⊢
  have hn : ((s : Int) != (s : Int)) = false := by simp
  have HC := rwts_ok w h1 h2 rfl rfl
  rw [← hs.out] at HC
  have HS : Hid (upto (synF k m (co z)) m = upto (syK k m (co z) s) m) := by show _ = _; rw [hs.out]; rfl
  rw [HS.out]
  clear h2 hl
  go_enter Try.func14, Try.ntmps14
  go_wp2_with fail
  refine HC.mono ?_
  rintro e w2 ⟨v, rfl, hV, b2⟩
  obtain ⟨va, vc, rfl⟩ := hV.form
  rw [upto_length] at hV ⊢
  have hz2' := hz.below b2
  clear HC hz
  go_wp2
  go_loopw [10, 11] (fun o v wr => ∃ l : Nat, l ≤ m ∧ v = .int .i64 l ∧ wr.ownsRow w2.heap.size 5 1 o l ((upto (syK k m (co z) s) l).map vb) ∧ Below w2.heap.size w2 wr) (fun _ v _ => m - (intOf v).toNat)
  case atStart => exact ⟨0, by omega, rfl, World.ownsRow_nil _ _ _ _, Below.refl _ _⟩
  case round =>
    obtain ⟨l, hl9, rfl, hown, hbel⟩ := hrel
    obtain ⟨wo, hwo⟩ : ∃ wo, wo = wr := ⟨_, rfl⟩
    subst hwo
    have hsz := hbel.size
    obtain ⟨av, cv, rfl⟩ := owns_form hown
    by_cases hlt : l < m
    · have hlt' : (l : Int) < (m : Int) := by omega
      have hzo := hz2'.below hbel
      have hVo := hV.below hbel
      go_wp2
      go_loopw [12, 13] (fun o v wr => ∃ i : Nat, i ≤ s ∧ v = .int .i64 i ∧ o = .int .u8 ((syK k m (co z) i l).toNat : Nat) ∧ ∃ nd, wr = wo.drewN nd) (fun _ v _ => s - (intOf v).toNat)
      case atStart => exact ⟨0, by omega, rfl, rfl, 0, rfl⟩
      case round =>
        obtain ⟨i, hi9, rfl, rfl, nd, hd0⟩ := hrel
        have hd : Hid (wr = wo.drewN nd) := hd0
        by_cases hlti : i < s
        · have hlti' : (i : Int) < (s : Int) := by omega
          obtain ⟨zb, zo, rfl, _, cz⟩ := hzo.byte (i := i) (by rw [HL.out]; exact hlti)
          obtain ⟨vb', vo, rfl, _, cw⟩ := hVo.byte (i := i) (by rw [upto_length]; exact hlti)
          rw [co_upto_in hlti] at cw
          have m1 : (i : Int) % 256 = (i : Int) := by omega
          have hpt : Hid ((i : Int) = (((pt i).toNat : Nat) : Int)) := by show _ = _; rw [pt_toNat (by omega)]
          have HX : Hid (syK k m (co z) (i + 1) l = syK k m (co z) i l ^^^ mu (mu (co z i) (wtF k m i)) (nmF 1 (pt i) l)) := rfl
          obtain ⟨x0, hx0⟩ : ∃ x0, Hid (x0 = co z i) := ⟨_, rfl⟩
          obtain ⟨x1, hx1⟩ : ∃ x1, Hid (x1 = wtF k m i) := ⟨_, rfl⟩
          obtain ⟨x2, hx2⟩ : ∃ x2, Hid (x2 = nmF 1 (pt i) l) := ⟨_, rfl⟩
          obtain ⟨x3, hx3⟩ : ∃ x3, Hid (x3 = syK k m (co z) i l) := ⟨_, rfl⟩
          rw [← hx0.out] at cz HX
          rw [← hx1.out] at cw HX
          rw [← hx2.out, ← hx3.out] at HX
          rw [← hx3.out]
          have HE : Hid ((x3.toNat ^^^ (mu (mu x0 x1) x2).toNat : Nat) = (syK k m (co z) (i + 1) l).toNat) := by show _ = _; rw [HX.out, UInt8.toNat_xor]
          have E := xor_u8 x3 (mu (mu x0 x1) x2)
          have HC : ∀ W : World, Calls Try.prog 30 #[.int .u8 (i : Int), .int .i64 (l : Int)] W fun e w' => e = .returned (.int .u8 (x2.toNat : Nat)) ∧ w' = W := fun W => by
            rw [hx2.out]
            exact rpw_any (pt i) W (by omega) hpt.out rfl
          have cz2 : wr.cell? ⟨zb, zo + i, none⟩ = some (.int .u8 (x0.toNat : Nat)) := by rw [hd0]; exact cz
          have cw2 : wr.cell? ⟨vb', vo + i, none⟩ = some (.int .u8 (x1.toNat : Nat)) := by rw [hd0]; exact cw
          clear hd0 cz cw hzo hVo hV hz2' hown hbel
          go_wp2
          go_quiet (first
            | (go_at_call_of 29 (Value.int .u8 (x1.toNat : Nat)); go_loud (exact Calls.quiet_of_same (rmu8_at x0 x1 rfl rfl)))
            | (go_at_call 30; go_loud (exact Calls.quiet_of_same (HC _)))
            | (go_at_call_of 29 (Value.int .u8 (x2.toNat : Nat)); go_loud (exact Calls.quiet_of_same (rmu8_at (mu x0 x1) x2 rfl rfl))))
          go_wp2
          go_roundw
          case rel => exact ⟨i + 1, by omega, by go_num, by rw [HE.out], _, by show _ = _; rw [hd.out, World.drewN_drewN]⟩
          case measure => simp [intOf]; omega
        · have e : i = s := by omega
          subst e
          have hge : ¬ (i : Int) < (i : Int) := by omega
          obtain ⟨x3, hx3⟩ : ∃ x3, Hid (x3 = syK k m (co z) i l) := ⟨_, rfl⟩
          rw [← hx3.out]
          have ho8 : World.ownsRow wr w2.heap.size 5 1 (.slice av l cv) l ((upto (syK k m (co z) i) l).map vb) := by rw [hd0]; exact hown
          have hB8 : Below w2.heap.size w2 wr := by rw [hd0]; exact Below.draws hbel nd
          have hs8 := hB8.size
          clear hd0 hown hbel hzo hVo
          go_wp2_with (at_builtin; go_loud (refine wpList_append_rd2 _ rfl (.tmp 57) (.tmp 59) 22 rfl w2.heap.size 5 i0 Try.underlying22 hi hz0 hz1 hz2 (.slice av l cv) l _ rfl (World.ownsRow.alloc ho8 _) _ [x3] rfl (rd_lit (n := 1) [x3] rfl rfl (by decide)) (by simp; omega) (by simp; omega) ?_); intro x' w4 hx4 hg4 _)
          have HN : Hid (w4.ownsRow w2.heap.size 5 1 x' (l + 1) ((upto (syK k m (co z) i) (l + 1)).map vb)) := (by rw [upto_vb_succ, ← hx3.out]; exact hx4 : w4.ownsRow w2.heap.size 5 1 x' (l + 1) ((upto (syK k m (co z) i) (l + 1)).map vb))
          have HB : Hid (Below w2.heap.size w2 w4) := grow_below hB8 ho8 hg4
          clear hx4 hg4 ho8 hB8
          go_roundw
          case rel => exact ⟨l + 1, by omega, by go_num, HN.out, HB.out⟩
          case measure => simp [intOf]; omega
    · have e : l = m := by omega
      subst e
      have hge : ¬ (l : Int) < (l : Int) := by omega
      have HP : Rd wo (.slice av l cv) (upto (syK k l (co z) s) l) := Rd.owned (base := w2.heap.size) (e := 5) (by rw [upto_length]; exact hown)
      have HB : Hid (Below w.heap.size w wo) := Below.next b2 hbel
      clear hown hbel hV hz2'
      go_wp2
      exact bodyPost_ret (v := .tuple #[.slice av l cv, .int .i64 0]) (by simp [results, Try.results14, go_sem]) rfl ⟨_, rfl, HP, HB.out⟩

theorem rof_any {k m : Int} {v : Value} {z : List UInt8} {w : World} (hz : Rd w v z) : Calls Try.prog 14 #[.int .i64 k, .int .i64 m, v] w (MakesP w (ofX k m z) (ofR k m z)) := by
  rcases of_cases k m z with c | ⟨c, d⟩ | ⟨c, d⟩
  · rw [(ofX_bad c).1, (ofX_bad c).2]
    exact rof_bad c hz
  · rw [(ofX_shard c d).1, (ofX_shard c d).2]
    obtain ⟨k, m, rfl, rfl, h1, h2⟩ := c.nat
    exact rof_shard h1 h2 hz (by omega) rfl rfl
  · obtain ⟨k, m, rfl, rfl, h1, h2⟩ := c.nat
    rw [(ofX_ok c (by omega)).1, (ofX_ok c (by omega)).2]
    exact rof_ok h1 h2 hz (by omega) rfl rfl

end Go.Proofs.Ytjgeipmfdmdmkaa.Gf

