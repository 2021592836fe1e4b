/- TEXTS JOINED: GfRefMath, GfRefMul, PoRAt, PoRNorm, PoRMul, PoRMulAll, GfRefInv, GfRefDiv, KeRefA, KeGauss. -/
import Derived.Test.YtlbachgbeefhcaaTome5
import Derived.WalkKit
import Derived.Test.YtlbachgbeefhcaaTome1
import Derived.Test.YtlbachgbeefhcaaTome3
import Derived.Test.YtlbachgbeefhcaaTome2
import Derived.Deep.RegionWith
import Derived.WalkSpells
import Derived.Test.YtlbachgbeefhcaaTome4
import Derived.BigQuiet
import Derived.Deep.QuietTactic
import Derived.Deep.RegionHeld3
/-
  PLAIN MATHEMATICS, MORE: bits of ints that are not negative; a power by the bits of its exponent; an inverse that is sought; a logarithm that is sought. No program is named here.
-/

namespace Go.Proofs.Ytlbachgbeefhcaa.Gf
set_option linter.unusedVariables false
open Go.RowKit

theorem val_int {k : IntKind} {a b : Int} (h : a = b) : Value.int k a = .int k b := by rw [h]
theorem i64_and_nat (a b : Nat) (ha : a < 9223372036854775808) (hb : b < 9223372036854775808) : bits .and .i64 (a : Int) (b : Int) = ((a &&& b : Nat) : Int) := by
  have hx : a &&& b < 2 ^ 63 := Nat.and_lt_two_pow _ (by omega)
  show IntKind.i64.wrap ((BitVec.ofInt 64 (a : Int) &&& BitVec.ofInt 64 (b : Int)).toNat : Int) = _
  rw [BitVec.toNat_and, ofInt_u64 a (by omega), ofInt_u64 b (by omega), IntKind.wrap_i64]
  omega
theorem i64_xor_nat (a b : Nat) (ha : a < 9223372036854775808) (hb : b < 9223372036854775808) : bits .xor .i64 (a : Int) (b : Int) = ((a ^^^ b : Nat) : Int) := by
  have hx : a ^^^ b < 2 ^ 63 := Nat.xor_lt_two_pow (by omega) (by omega)
  show IntKind.i64.wrap ((BitVec.ofInt 64 (a : Int) ^^^ BitVec.ofInt 64 (b : Int)).toNat : Int) = _
  rw [BitVec.toNat_xor, ofInt_u64 a (by omega), ofInt_u64 b (by omega), IntKind.wrap_i64]
  omega

theorem pow_cast (b k : Nat) : ((b : Int) / 2 ^ k) = ((b / 2 ^ k : Nat) : Int) := by simp
theorem bit_u8 {b : Nat} (hb : b < 256) (k : Nat) : (bits .and .u8 ((b : Int) / 2 ^ k) 1 == 1) = b.testBit k := by
  have hl : b / 2 ^ k < 256 := Nat.lt_of_le_of_lt (Nat.div_le_self _ _) hb
  rw [pow_cast, show (1 : Int) = ((1 : Nat) : Int) from rfl, u8_and_nat _ _ hl (by omega), nat_mask1, Nat.testBit_eq_decide_div_mod_eq, Bool.eq_iff_iff]
  simp only [beq_iff_eq, decide_eq_true_eq]
  omega
theorem bit_i64 {n : Nat} (hn : n < 9223372036854775808) (k : Nat) : (bits .and .i64 ((n : Int) / 2 ^ k) 1 == 1) = n.testBit k := by
  have hl : n / 2 ^ k < 9223372036854775808 := Nat.lt_of_le_of_lt (Nat.div_le_self _ _) hn
  rw [pow_cast, show (1 : Int) = ((1 : Nat) : Int) from rfl, i64_and_nat _ _ hl (by omega), nat_mask1, Nat.testBit_eq_decide_div_mod_eq, Bool.eq_iff_iff]
  simp only [beq_iff_eq, decide_eq_true_eq]
  omega

theorem acc_lt {a : Nat} (b : Nat) (ha : a < 256) : ∀ k, acc k a b < 256
  | 0 => by simp [acc]
  | k + 1 => by
    rw [acc]
    refine xor_lt (acc_lt b ha k) ?_
    split
    · exact xt_lt ha k
    · omega
theorem x_hi {a k : Nat} (ha : a < 256) (h : (256 : Int) ≤ (xt k a : Nat) * 2) : bits .xor .i64 ((xt k a : Nat) * 2) 285 = ((xt (k + 1) a : Nat) : Int) := by
  have lx := xt_lt ha k
  have e : (((xt k a : Nat) : Int) * 2) = ((2 * xt k a : Nat) : Int) := by omega
  rw [e, show (285 : Int) = ((285 : Nat) : Int) from rfl, i64_xor_nat _ _ (by omega) (by omega), xt, dbl, if_neg (by omega)]
theorem x_lo {a k : Nat} (h : ((xt k a : Nat) : Int) * 2 < 256) : ((xt k a : Nat) : Int) * 2 = ((xt (k + 1) a : Nat) : Int) := by
  rw [xt, dbl, if_pos (by omega)]; omega
theorem o_hit {a b k : Nat} (ha : a < 256) (hb : b < 256) (h : (bits .and .u8 ((b : Int) / 2 ^ k) 1 == 1) = true) : bits .xor .i64 (acc k a b : Nat) (xt k a : Nat) = ((acc (k + 1) a b : Nat) : Int) := by
  rw [bit_u8 hb] at h
  have := xt_lt ha k
  have := acc_lt b ha k
  rw [i64_xor_nat _ _ (by omega) (by omega), acc, if_pos h]
theorem o_miss {a b k : Nat} (hb : b < 256) (h : (bits .and .u8 ((b : Int) / 2 ^ k) 1 == 1) = false) : ((acc k a b : Nat) : Int) = ((acc (k + 1) a b : Nat) : Int) := by
  rw [bit_u8 hb] at h
  rw [acc, if_neg (by rw [h]; decide), Nat.xor_zero]

/-! A power by the bits of its exponent. -/
def tm : Nat → Nat → Nat → Nat
  | 0, _, _ => 1
  | k + 1, a, n => if n.testBit k then mulS (tm k a n) (sq k a) else tm k a n
theorem tm_lt (a n : Nat) : ∀ k, tm k a n < 256
  | 0 => by simp [tm]
  | k + 1 => by
    rw [tm]; split
    · exact mulS_lt _ _
    · exact tm_lt a n k
theorem mod_step (n k : Nat) : n % 2 ^ (k + 1) = n % 2 ^ k + (if n.testBit k then 2 ^ k else 0) := by
  rw [Nat.mod_pow_succ, Nat.testBit_eq_decide_div_mod_eq]
  have : n / 2 ^ k % 2 = 0 ∨ n / 2 ^ k % 2 = 1 := by omega
  rcases this with h | h <;> simp [h]
theorem tm_pos {a : Nat} (h : a < 256) (h0 : a ≠ 0) (n : Nat) : ∀ k, tm k a n ≠ 0 ∧ lg (tm k a n) = lg a * (n % 2 ^ k) % 255
  | 0 => by simp [tm, lg_one, Nat.mod_one]
  | k + 1 => by
    obtain ⟨h1, h2⟩ := tm_pos h h0 n k
    rw [mod_step, tm]
    by_cases b : n.testBit k = true
    · simp only [b, if_true]
      refine ⟨mulS_ne h1 (sq_ne h0 k), ?_⟩
      rw [lg_mulS h1 (sq_ne h0 k), h2, lg_sq h h0 k, ← Nat.add_mod, ← Nat.mul_add]
    · simp only [b]
      exact ⟨h1, by simpa using h2⟩
theorem tm_zero (n : Nat) : ∀ k, tm k 0 n = if n % 2 ^ k = 0 then 1 else 0
  | 0 => by simp [tm, Nat.mod_one]
  | k + 1 => by
    rw [mod_step, tm, tm_zero n k, sq_zero, mulS_zero]
    have := Nat.two_pow_pos k
    by_cases b : n.testBit k = true
    · simp only [b, if_true]
      rw [if_neg (by omega)]
    · simp only [b]
      simp
theorem tm_powV {a n : Nat} (h : a < 256) (hn : n < 9223372036854775808) : tm 63 a n = powV a (n : Nat) := by
  have hm : n % 2 ^ 63 = n := Nat.mod_eq_of_lt (by omega)
  by_cases h0 : a = 0
  · subst h0
    rw [tm_zero, hm, powV]
    simp
  · obtain ⟨h1, h2⟩ := tm_pos h h0 n 63
    refine lg_inj (tm_lt _ _ _) (powV_lt _ _) h1 (powV_ne h0 _) ?_
    rw [h2, hm, lg_powV h0]
    have : tn (n : Int) = n % 255 := by unfold tn; omega
    rw [this, Nat.mul_mod, Nat.mul_mod (lg a) (n % 255), Nat.mod_mod]
theorem powE_nat (a n : Nat) : powE a (n : Nat) = 0 := by
  unfold powE; rw [if_neg (by omega)]
theorem powV_inv_pow {a : Nat} (h0 : a ≠ 0) (m n : Int) (h : (m + n) % 255 = 0) : powV (invS a) m = powV a n := by
  rw [powV_pos (invS_ne h0), powV_pos h0, lg_invS h0]
  congr 1
  have e : (254 * tn m) % 255 = tn n % 255 := by unfold tn; omega
  rw [Nat.mul_mod, Nat.mod_mod, ← Nat.mul_mod, Nat.mul_assoc, Nat.mul_mod, e, ← Nat.mul_mod]

/-! What is sought. -/
theorem inv_found {a k : Nat} (hk : k < 256) (h : mulS a k = 1) : a ≠ 0 ∧ k = invS a := by
  have h0 : a ≠ 0 := by rintro rfl; rw [zero_mulS] at h; omega
  refine ⟨h0, ?_⟩
  have e : mulS (invS a) (mulS a k) = k := by
    rw [mulS_assoc, mulS_comm (invS a) a, mulS_invS h0, mulS_comm, mulS_one hk]
  rw [h, mulS_one (invS_lt a)] at e
  exact e.symm
theorem inv_none {a : Nat} (h : ∀ j, 1 ≤ j → j < 256 → mulS a j ≠ 1) : a = 0 := by
  by_cases h0 : a = 0
  · exact h0
  · exact absurd (mulS_invS h0) (h _ (by have := invS_ne h0; omega) (invS_lt a))
theorem log_found {a k : Nat} (hk : k < 255) (h : pw (k % 255) = a) : a ≠ 0 ∧ k = lg a := by
  rw [Nat.mod_eq_of_lt hk] at h
  subst h
  have := pw_pos hk
  exact ⟨by omega, (lg_pw hk).symm⟩
theorem log_none {a : Nat} (ha : a < 256) (h : ∀ j, j < 255 → pw (j % 255) ≠ a) : a = 0 := by
  by_cases h0 : a = 0
  · exact h0
  · exact absurd (by rw [Nat.mod_eq_of_lt (lg_lt ha)]; exact pw_lg ha h0) (h _ (lg_lt ha))
theorem pw_next {k : Nat} (hk : k < 255) : mulS (pw (k % 255)) 2 = pw ((k + 1) % 255) := by
  rw [mulS_two (pw_lt _), next_pw hk]

end Go.Proofs.Ytlbachgbeefhcaa.Gf

/-
  THE DOCUMENT's ANSWER FOR LAYER 1 (package aumbryref01) BY CONTRACT: products.
-/

namespace Go.Proofs.Ytlbachgbeefhcaa.Gf
set_option linter.unusedVariables false
open Go.RowKit

set_option maxRecDepth 100000 in
set_option maxHeartbeats 1000000 in
theorem rmul_any (a b : Nat) (w : World) (ha : a < 256) (hb : b < 256) :
    Calls Try.prog 42 #[.int .u8 a, .int .u8 b] w fun e w' => e = .returned (.int .u8 (mulS a b : Nat)) ∧ w' = w := by
  go_enter Try.func42, Try.ntmps42
  go_wp2
  go_loop [5, 6, 7] (fun x o i => ∃ k : Nat, k ≤ 8 ∧ i = .int .i64 k ∧ x = .int .i64 (xt k a : Nat) ∧ o = .int .i64 (acc k a b : Nat)) (fun _ _ i => 8 - (intOf i).toNat)
  case atStart => exact ⟨0, by omega, rfl, rfl, rfl⟩
  case round =>
    obtain ⟨k, hk, rfl, rfl, rfl⟩ := hrel
    have lx := xt_lt ha k
    have lo := acc_lt b ha k
    by_cases hlt : k < 8
    · go_wp2
      all_goals
        go_round
        case rel => exact ⟨k + 1, by omega, by go_num, by first | exact val_int (x_hi ha ‹_›) | exact val_int (x_lo ‹_›), by first | exact val_int (o_hit ha hb ‹_›) | exact val_int (o_miss hb ‹_›)⟩
        case measure => simp [intOf]; omega
    · have e : k = 8 := by omega
      subst e
      have E : Hid (mulS a b = acc 8 a b) := mulS_acc ha hb
      go_wp2
      go_ret
      exact ⟨ret_int (by rw [E.out]), rfl⟩

theorem rmul_at {x y : Int} {w : World} (a b : Nat) (hx : x = a) (hy : y = b) (ha : a < 256) (hb : b < 256) :
    Calls Try.prog 42 #[.int .u8 x, .int .u8 y] w fun e w' => e = .returned (.int .u8 (mulS a b : Nat)) ∧ w' = w := by
  subst hx hy; exact rmul_any a b w ha hb

end Go.Proofs.Ytlbachgbeefhcaa.Gf

/-
  THE DOCUMENT's ANSWER FOR LAYER 2 (package aumbryref02) BY CONTRACT: 'At'.
-/

namespace Go.Proofs.Ytlbachgbeefhcaa.Gf
set_option linter.unusedVariables false
set_option linter.unusedSimpArgs false
open Go.RowKit

theorem rmu_at {w : World} (a b : UInt8) {x y : Int} (hx : x = ((a.toNat : Nat) : Int)) (hy : y = ((b.toNat : Nat) : Int)) :
    Calls Try.prog 42 #[.int .u8 x, .int .u8 y] w fun e w' => e = .returned (.int .u8 ((mu a b).toNat : Nat)) ∧ w' = w := by
  rw [mu_toNat]
  exact rmul_at a.toNat b.toNat hx hy (u8_lt a) (u8_lt b)

set_option maxRecDepth 100000 in
theorem at_any {v : Value} {p : List UInt8} {w : World} (hp : Rd w v p) (i : Nat) {x : Int} (hx : x = (i : Int)) :
    Calls Try.prog 43 #[v, .int .i64 x] w fun e w' => e = .returned (.int .u8 ((co p i).toNat : Nat)) ∧ w' = w := by
  subst hx
  rcases hp with ⟨a, c, rfl, rfl, hc, hn⟩ | ⟨b, off, c, hp0, rfl, h1, h2, h3, hpc⟩
  · have e : co [] i = 0 := co_nil i
    go_enter Try.func43, Try.ntmps43
    go_wp2
    go_ret
    exact ⟨by first | rfl | (rw [e]; rfl), rfl⟩
  · by_cases hi : i < p.length
    · have c1 := hpc i hi
      clear hpc
      go_enter Try.func43, Try.ntmps43
      go_wp2
      go_ret
      exact ⟨rfl, rfl⟩
    · have e : co p i = 0 := co_ge (by omega)
      clear hpc
      go_enter Try.func43, Try.ntmps43
      go_wp2
      go_ret
      exact ⟨by first | rfl | (rw [e]; rfl), rfl⟩

end Go.Proofs.Ytlbachgbeefhcaa.Gf

/-
  THE DOCUMENT's ANSWER FOR LAYER 2 (package aumbryref02) BY CONTRACT: 'Norm' is the list up to its top, in a row of its own.
-/


namespace Go.Proofs.Ytlbachgbeefhcaa.Gf
set_option linter.unusedVariables false
set_option linter.unusedSimpArgs false
open Go.RowKit

theorem deg_step {f : Nat → UInt8} {k : Nat} (hk : 0 < k) (h : f (k - 1) = 0) : deg f k = deg f (k - 1) := by
  obtain ⟨j, rfl⟩ : ∃ j, k = j + 1 := ⟨k - 1, by omega⟩
  rw [Nat.add_sub_cancel] at h ⊢
  rw [deg, if_pos h]
theorem deg_stop {f : Nat → UInt8} {k : Nat} (h : k = 0 ∨ f (k - 1) ≠ 0) : deg f k = k := by
  match k, h with
  | 0, _ => rfl
  | j + 1, h =>
    rw [Nat.add_sub_cancel] at h
    rw [deg, if_neg (by simpa using h)]

set_option maxRecDepth 100000 in
set_option maxHeartbeats 1000000 in
theorem rnorm_main (b off c : Nat) (p : List UInt8) (w : World) (hl : p.length ≤ 1000000) (hm : p.length ≤ c) (hcm : c ≤ maxLen) (hb : b < w.heap.size)
    (hp : ∀ i, i < p.length → w.cell? ⟨b, off + i, none⟩ = some (.int .u8 ((co p i).toNat : Nat))) :
    Calls Try.prog 29 #[.slice (some ⟨b, off, none⟩) p.length c] w fun e w' => ∃ v, e = .returned v ∧ w'.ownsRow w.heap.size 5 1 v (norm p).length ((norm p).map vb) ∧ Below w.heap.size w w' := by
  unfold maxLen at hcm
  obtain ⟨i0, hi, hz0, hz1, hz2⟩ := info_parts info_u8
  go_enter Try.func29, Try.ntmps29
  go_wp2
  go_loop [3] (fun n => ∃ k : Nat, k ≤ p.length ∧ n = .int .i64 k ∧ Hid (deg (co p) p.length = deg (co p) k)) (fun n => (intOf n).toNat)
  case atStart => exact ⟨p.length, Nat.le_refl _, rfl, rfl⟩
  case round =>
    obtain ⟨k, hk, rfl, hd⟩ := hrel
    by_cases hgo : 0 < k ∧ co p (k - 1) = 0
    · obtain ⟨h0, hz⟩ := hgo
      have c1 : w.cell? ⟨b, off + (k - 1), none⟩ = some (.int .u8 0) := by rw [hp (k - 1) (by omega), hz]; rfl
      have HD : Hid (deg (co p) p.length = deg (co p) (k - 1)) := by show _ = _; rw [hd.out]; exact deg_step h0 hz
      clear hz hd
      go_wp2
      go_round
      case rel => exact ⟨k - 1, by omega, val_int (by omega), HD⟩
      case measure => simp [intOf]; omega
    · have hstop : k = 0 ∨ co p (k - 1) ≠ 0 := by
        by_cases h0 : k = 0
        · exact Or.inl h0
        · exact Or.inr (fun h => hgo ⟨by omega, h⟩)
      have HK : Hid (deg (co p) p.length = k) := by show _ = _; rw [hd.out]; exact deg_stop hstop
      clear hd hgo
      have hnews := news_of (k := k) (cells_alloc (.cells #[] 5) hb hp)
      have hlen : ((p.take k).map vb).length = k * 1 := by simp; omega
      have HN : Hid (norm p = p.take k) := by show _ = _; rw [norm_take, HK.out]
      have HL : Hid ((norm p).length = k) := by show _ = _; rw [HN.out, List.length_take]; omega
      by_cases h0 : k = 0
      · subst h0
        clear hnews hlen hp hstop
        go_wp2
        go_ret
        refine ⟨_, rfl, ?_, (Below.refl _ _).alloc (Nat.le_refl _) _⟩
        rw [HN.out]
        exact World.ownsRow_lit w #[] 0 (Nat.le_refl _) (Nat.zero_le _) rfl
      · have hne := hstop.resolve_left h0
        have c1 := hp (k - 1) (by omega)
        have c2 : ((((co p (k - 1)).toNat : Nat) : Int) == 0) = false := by rw [eq_u8_zero]; simpa using hne
        clear hne hstop hp
        go_wp2_with (at_builtin; go_loud (refine wpList_append_own _ rfl (.tmp 18) (.tmp 21) 23 rfl w.heap.size 5 i0 (.int .u8 0) 1 1 Try.underlying23 hi hz0 hz1 hz2 rfl (by decide) (.slice (some ⟨w.heap.size, 0, none⟩) 0 0) 0 [] rfl (World.ownsRow_lit w #[] 0 (Nat.le_refl _) (Nat.zero_le _) rfl) ⟨b, off, none⟩ k c ((p.take k).map vb) rfl hlen hnews (vb_one _) (by unfold maxLen; omega) (by omega) (by simp) ?_); intro v' w1 hown hgrow _)
        go_ret
        refine ⟨_, rfl, ?_, ((Below.refl _ _).alloc (Nat.le_refl _) _).grown hgrow (by simp) (fun g hg => ?_)⟩
        · have e := hown
          rw [Nat.zero_add, List.nil_append] at e
          rw [HL.out, HN.out]
          exact e
        · simp [Value.ownBlock] at hg
          omega

set_option maxRecDepth 100000 in
set_option maxHeartbeats 1000000 in
theorem rnorm_nil (ao : Option Addr) (c : Nat) (w : World) (hcm : c ≤ maxLen) (hn : ao = none → c = 0) :
    Calls Try.prog 29 #[.slice ao 0 c] w fun e w' => ∃ v, e = .returned v ∧ w'.ownsRow w.heap.size 5 1 v (norm []).length ((norm []).map vb) ∧ Below w.heap.size w w' := by
  unfold maxLen at hcm
  have key : ∀ e w', (e = Ending.returned (.slice (some ⟨w.heap.size, 0, none⟩) 0 0) ∧ w' = w.alloc (.cells #[] 5)) →
      ∃ v, e = .returned v ∧ w'.ownsRow w.heap.size 5 1 v (norm []).length ((norm []).map vb) ∧ Below w.heap.size w w' := by
    rintro e w' ⟨rfl, rfl⟩
    exact ⟨_, rfl, World.ownsRow_lit w #[] 0 (Nat.le_refl _) (Nat.zero_le _) rfl, (Below.refl _ _).alloc (Nat.le_refl _) _⟩
  refine Calls.mono ?_ key
  clear key
  rcases ao with _ | x
  · have := hn rfl
    subst this
    go_enter Try.func29, Try.ntmps29
    go_wp2
    go_loop [3] (fun n => n = .int .i64 0) (fun _ => 0)
    case atStart => rfl
    case round =>
      subst hrel
      go_wp2
      go_ret
      exact ⟨rfl, rfl⟩
  · go_enter Try.func29, Try.ntmps29
    go_wp2
    go_loop [3] (fun n => n = .int .i64 0) (fun _ => 0)
    case atStart => rfl
    case round =>
      subst hrel
      go_wp2
      all_goals go_ret
      all_goals exact ⟨rfl, rfl⟩

theorem rnorm_any {v : Value} {p : List UInt8} {w : World} (hp : Rd w v p) (hl : p.length ≤ 1000000) :
    Calls Try.prog 29 #[v] w fun e w' => ∃ v, e = .returned v ∧ w'.ownsRow w.heap.size 5 1 v (norm p).length ((norm p).map vb) ∧ Below w.heap.size w w' := by
  rcases hp with ⟨a, c, rfl, rfl, hc, hn⟩ | ⟨b, off, c, hp0, rfl, h1, h2, h3, hpc⟩
  · exact rnorm_nil a c w hc hn
  · exact rnorm_main b off c p w hl h1 h2 h3 hpc

end Go.Proofs.Ytlbachgbeefhcaa.Gf

/-
  THE DOCUMENT's ANSWER FOR LAYER 2 (package aumbryref02) BY CONTRACT: 'Mul'.
-/



namespace Go.Proofs.Ytlbachgbeefhcaa.Gf
set_option linter.unusedVariables false
set_option linter.unusedSimpArgs false
open Go.RowKit

set_option maxRecDepth 100000 in
set_option maxHeartbeats 2000000 in
theorem rpmul_main (b off b' off' c c' : Nat) (p q : List UInt8) (w : World) (hl : p.length ≤ 400000) (hl2 : q.length ≤ 400000) (hb : b < w.heap.size) (hb' : b' < w.heap.size)
    (hpc : ∀ i, i < p.length → w.cell? ⟨b, off + i, none⟩ = some (.int .u8 ((co p i).toNat : Nat)))
    (hqc : ∀ i, i < q.length → w.cell? ⟨b', off' + i, none⟩ = some (.int .u8 ((co q i).toNat : Nat))) :
    Calls Try.prog 30 #[.slice (some ⟨b, off, none⟩) p.length c, .slice (some ⟨b', off', none⟩) q.length c'] w fun e w' => ∃ v, e = .returned v ∧ w'.ownsRow w.heap.size 5 1 v (mulP p q).length ((mulP p q).map vb) ∧ Below w.heap.size w w' := by
  obtain ⟨i0, hi, hz0, hz1, hz2⟩ := info_parts info_u8
  go_enter Try.func30, Try.ntmps30
  go_wp2_with (at_make; go_loud (refine wpList_make_full _ rfl (.tmp 12) (.tmp 12) 23 rfl w.heap.size 5 i0 (.int .u8 0) 1 Try.underlying23 hi hz0 hz1 _ _ _ _ (p.length + q.length) rfl rfl (by omega) (by omega) (by rw [hz2]; omega) (by unfold maxLen; omega) (Nat.le_refl _) ?_); intro w1 hown1 hgrow1)
  have R1 := RowF.made hown1
  have B1 : Below w.heap.size w w1 := (Below.refl _ _).grown hgrow1 (Nat.le_refl _) (fun k h => by cases h)
  clear hown1 hgrow1
  go_loopw [6] (fun i wr => ∃ k : Nat, k ≤ p.length ∧ i = .int .i64 k ∧ RowF wr w.heap.size 5 w.heap.size (p.length + q.length) (p.length + q.length) (pc (co p) (co q) k) ∧ Below w.heap.size w wr) (fun i _ => p.length - (intOf i).toNat)
  case atStart => exact ⟨0, by omega, rfl, R1.congr (fun t _ => rfl), B1⟩
  case round =>
    obtain ⟨k, hk, rfl, hR, hB⟩ := hrel
    clear R1 B1
    by_cases hlt : k < p.length
    · have R0 : RowF wr w.heap.size 5 w.heap.size (p.length + q.length) (p.length + q.length) (pk (co p) (co q) k 0) := by rw [pk_zero]; exact hR
      clear hR
      go_wp2
      go_loopw [7] (fun j w2 => ∃ l : Nat, l ≤ q.length ∧ j = .int .i64 l ∧ RowF w2 w.heap.size 5 w.heap.size (p.length + q.length) (p.length + q.length) (pk (co p) (co q) k l) ∧ Below w.heap.size w w2) (fun j _ => q.length - (intOf j).toNat)
      case atStart => exact ⟨0, by omega, rfl, R0, hB⟩
      case round =>
        obtain ⟨l, hll, rfl, hR, hB2⟩ := hrel
        clear R0 hB
        by_cases hl3 : l < q.length
        · obtain ⟨t, ht⟩ : ∃ t, t = k + l := ⟨_, rfl⟩
          have htl : t < p.length + q.length := by omega
          have g0 : (k : Int) + (l : Int) = (t : Int) := by omega
          have c1 := hR.cell htl
          have f1 := hR.unfrozen t
          have c2 := (hB2.cell (p := ⟨b, off + k, none⟩) hb).trans (hpc k hlt)
          have c3 := (hB2.cell (p := ⟨b', off' + l, none⟩) hb').trans (hqc l hl3)
          have E := xor_u8 (pk (co p) (co q) k l t) (mu (co p k) (co q l))
          have HN : Hid (RowF (wr.setCell ⟨w.heap.size, t, none⟩ (.int .u8 (((pk (co p) (co q) k l t).toNat ^^^ (mu (co p k) (co q l)).toNat : Nat) : Int))) w.heap.size 5 w.heap.size (p.length + q.length) (p.length + q.length) (pk (co p) (co q) k (l + 1))) :=
            by rw [← UInt8.toNat_xor]; exact hR.store htl _ (by rw [ht]; exact pk_step (co p) (co q) k l)
          have HT : Hid (t = k + l) := ht
          clear hpc hqc ht
          have g1 : (t : Int) < (p.length : Int) + (q.length : Int) := by omega
          have gw : IntKind.i64.wrap (t : Int) = (t : Int) := by rw [IntKind.wrap_i64]; omega
          have g2 : (k : Int) < (p.length : Int) := by omega
          have g3 : (l : Int) < (q.length : Int) := by omega
          go_wp2
          go_region_with ((go_at_call 42; refine (rmu_at (co p k) (co q l) rfl rfl).mono ?_; rintro e w' ⟨rfl, rfl⟩))
          all_goals go_wp2
          all_goals
            go_roundw
            case rel => exact ⟨l + 1, by omega, by go_num, HN.out.drew, (hB2.setCell (p := ⟨w.heap.size, t, none⟩) (Nat.le_refl _) _).drew⟩
            case measure => simp [intOf]; omega
        · have e : l = q.length := by omega
          subst e
          rw [pk_whole (co_fin q)] at hR
          clear hpc hqc
          go_wp2
          go_roundw
          case rel => exact ⟨k + 1, by omega, by go_num, hR, hB2⟩
          case measure => simp [intOf]; omega
    · have e : k = p.length := by omega
      subst e
      rw [pc_whole (co_fin p)] at hR
      have hRd := hR.rd
      have hsz := hB.size
      have HN : Hid (norm (upto (conv (co p) (co q)) (p.length + q.length)) = mulP p q) := norm_upto (fin_conv p q) (fin_conv p q)
      clear hR hpc hqc
      go_wp2_with fail
      refine (rnorm_any hRd (by rw [upto_length]; omega)).mono ?_
      rintro e w2 ⟨v2, rfl, hown2, hb2⟩
      go_wp2
      go_ret
      refine ⟨_, rfl, ?_, hB.trans (hb2.mono hsz)⟩
      rw [← HN.out]
      exact ownsRow_base hown2 hsz

end Go.Proofs.Ytlbachgbeefhcaa.Gf

/-
  THE DOCUMENT's ANSWER FOR LAYER 2 (package aumbryref02) BY CONTRACT: 'Mul'.
-/

namespace Go.Proofs.Ytlbachgbeefhcaa.Gf
set_option linter.unusedVariables false
set_option linter.unusedSimpArgs false
open Go.RowKit

theorem mulP_empty {p q : List UInt8} (h : p = [] ∨ q = []) : mulP p q = [] := by
  have hz : ∀ i, conv (co p) (co q) i = 0 := by
    rcases h with rfl | rfl
    · intro i; rw [conv_comm]; exact conv_zero co_nil i
    · exact conv_zero co_nil
  have e : mulP p q = mk (fun _ => 0) 0 := mk_same (fin_conv p q) (fun _ _ => rfl) hz
  rw [e]; rfl
theorem norm_zeros (L : Nat) : norm (upto (fun _ => 0) L) = [] := by
  have e : norm (upto (fun _ => 0) L) = mk (fun _ => 0) 0 := norm_upto (fun _ _ => rfl) (fun _ _ => rfl)
  rw [e]; rfl

set_option maxRecDepth 100000 in
set_option maxHeartbeats 2000000 in
theorem rpmul_empty (a a' : Option Addr) (n m c c' : Nat) (w : World) (hn : n ≤ 400000) (hm : m ≤ 400000) (h0 : n = 0 ∨ m = 0) :
    Calls Try.prog 30 #[.slice a n c, .slice a' m c'] w fun e w' => ∃ v, e = .returned v ∧ w'.ownsRow w.heap.size 5 1 v 0 [] ∧ Below w.heap.size w w' := by
  obtain ⟨i0, hi, hz0, hz1, hz2⟩ := info_parts info_u8
  go_enter Try.func30, Try.ntmps30
  go_wp2_with (at_make; go_loud (refine wpList_make_full _ rfl (.tmp 12) (.tmp 12) 23 rfl w.heap.size 5 i0 (.int .u8 0) 1 Try.underlying23 hi hz0 hz1 _ _ _ _ (n + m) rfl rfl (by omega) (by omega) (by rw [hz2]; omega) (by unfold maxLen; omega) (Nat.le_refl _) ?_); intro w1 hown1 hgrow1)
  have R1 := RowF.made hown1
  have B1 : Below w.heap.size w w1 := (Below.refl _ _).grown hgrow1 (Nat.le_refl _) (fun k h => by cases h)
  clear hown1 hgrow1
  go_loopw [6] (fun i wr => ∃ k : Nat, k ≤ n ∧ i = .int .i64 k ∧ wr = w1) (fun i _ => n - (intOf i).toNat)
  case atStart => exact ⟨0, by omega, rfl, rfl⟩
  case round =>
    obtain ⟨k, hk, rfl, rfl⟩ := hrel
    by_cases hlt : k < n
    · have hm0 : m = 0 := by omega
      subst hm0
      go_wp2
      go_loop [7] (fun j => j = .int .i64 0) (fun _ => 0)
      case atStart => rfl
      case round =>
        subst hrel
        go_wp2
        exact ⟨⟨k + 1, by omega, by omega⟩, by simp [intOf]; omega⟩
    · have hRd := R1.rd
      have hsz := B1.size
      have HN := norm_zeros (n + m)
      have HE : Hid _ := HN
      clear R1 HN
      go_wp2_with fail
      refine (rnorm_any hRd (by rw [upto_length]; omega)).mono ?_
      rintro e w2 ⟨v2, rfl, hown2, hb2⟩
      go_wp2
      go_ret
      refine ⟨_, rfl, ?_, B1.trans (hb2.mono hsz)⟩
      rw [HE.out] at hown2
      exact ownsRow_base hown2 hsz

theorem rpmul_any {va vq : Value} {p q : List UInt8} {w : World} (hp : Rd w va p) (hq : Rd w vq q) (hl : p.length ≤ 400000) (hl2 : q.length ≤ 400000) :
    Calls Try.prog 30 #[va, vq] w fun e w' => ∃ v, e = .returned v ∧ w'.ownsRow w.heap.size 5 1 v (mulP p q).length ((mulP p q).map vb) ∧ Below w.heap.size w w' := by
  by_cases h0 : p = [] ∨ q = []
  · obtain ⟨a, c, rfl⟩ := hp.form
    obtain ⟨a', c', rfl⟩ := hq.form
    rw [mulP_empty h0]
    exact rpmul_empty a a' p.length q.length c c' w hl hl2 (by rcases h0 with rfl | rfl <;> simp)
  · rcases hp with ⟨a, c, rfl, rfl, hc, hn⟩ | ⟨b, off, c, hp0, rfl, h1, h2, h3, hpc⟩
    · exact absurd (Or.inl rfl) h0
    · rcases hq with ⟨a, c, rfl, rfl, hc, hn⟩ | ⟨b', off', c', hq0, rfl, h1', h2', h3', hqc⟩
      · exact absurd (Or.inr rfl) h0
      · exact rpmul_main b off b' off' c c' p q w hl hl2 h3 h3' hpc hqc

end Go.Proofs.Ytlbachgbeefhcaa.Gf

/-
  THE DOCUMENT's ANSWER FOR LAYER 1 (package aumbryref01) BY CONTRACT: inverses and quotients.
-/

namespace Go.Proofs.Ytlbachgbeefhcaa.Gf
set_option linter.unusedVariables false
open Go.RowKit

set_option maxRecDepth 100000 in
set_option maxHeartbeats 1000000 in
theorem rinv_any (a : Nat) (w : World) (ha : a < 256) :
    Calls Try.prog 50 #[.int .u8 a] w fun e w' => e = .returned (.tuple #[.int .u8 (invS a : Nat), .int .i64 (zE a : Nat)]) ∧ w' = w := by
  go_enter Try.func50, Try.ntmps50
  go_wp2
  go_loop [4] (fun i => ∃ k : Nat, 1 ≤ k ∧ k ≤ 256 ∧ i = .int .i64 k ∧ Hid (∀ j, 1 ≤ j → j < k → mulS a j ≠ 1)) (fun i => 256 - (intOf i).toNat)
  case atStart => exact ⟨1, by omega, by omega, rfl, fun j h1 h2 => by omega⟩
  case round =>
    obtain ⟨k, h1, hk, rfl, hno⟩ := hrel
    by_cases hlt : k < 256
    · by_cases hit : mulS a k = 1
      · obtain ⟨ha0, hinv⟩ := inv_found hlt hit
        have E1 : Hid (k = invS a) := hinv
        have E2 : Hid (a ≠ 0) := ha0
        clear hinv ha0
        go_wp2_with (go_at_call 42; go_must (refine (rmul_at a k rfl (by omega) ha hlt).mono ?_); rintro e w' ⟨rfl, rfl⟩)
        go_ret2
        refine ⟨?_, rfl⟩
        rw [zE_pos E2.out, ← E1.out]
        rfl
      · have hb : ((mulS a k : Nat) : Int) ≠ 1 := by omega
        have hb2 : (((mulS a k : Nat) : Int) == 1) = false := by simpa using hb
        clear hb
        have HN : Hid (∀ j, 1 ≤ j → j < k + 1 → mulS a j ≠ 1) := fun j g1 g2 => by
          by_cases e : j = k
          · subst e; exact hit
          · exact hno.out j g1 (by omega)
        clear hit
        go_wp2_with (go_at_call 42; go_must (refine (rmul_at a k rfl (by omega) ha hlt).mono ?_); rintro e w' ⟨rfl, rfl⟩)
        go_round
        case rel => exact ⟨k + 1, by omega, by omega, by go_num, HN⟩
        case measure => simp [intOf]; omega
    · have e : k = 256 := by omega
      subst e
      have e0 := inv_none hno.out
      subst e0
      clear hno
      go_wp2
      go_ret2
      exact ⟨rfl, rfl⟩

theorem rinv_at {x : Int} {w : World} (a : Nat) (hx : x = a) (ha : a < 256) :
    Calls Try.prog 50 #[.int .u8 x] w fun e w' => e = .returned (.tuple #[.int .u8 (invS a : Nat), .int .i64 (zE a : Nat)]) ∧ w' = w := by
  subst hx; exact rinv_any a w ha

end Go.Proofs.Ytlbachgbeefhcaa.Gf

/-
  THE DOCUMENT's ANSWER FOR LAYER 1 (package aumbryref01) BY CONTRACT: 'Div'.
-/

namespace Go.Proofs.Ytlbachgbeefhcaa.Gf
set_option linter.unusedVariables false
open Go.RowKit

set_option maxRecDepth 100000 in
theorem rdiv_any (a b : Nat) (w : World) (ha : a < 256) (hb : b < 256) :
    Calls Try.prog 48 #[.int .u8 a, .int .u8 b] w fun e w' => e = .returned (.tuple #[.int .u8 (mulS a (invS b) : Nat), .int .i64 (zE b : Nat)]) ∧ w' = w := by
  by_cases hb0 : b = 0
  · subst hb0
    have e1 : invS 0 = 0 := rfl
    have e2 := zE_zero
    have e3 := mulS_zero a
    go_enter Try.func48, Try.ntmps48
    go_wp2_with (go_at_call 50; go_must (refine (rinv_at 0 rfl (by omega)).mono ?_); rintro e w' ⟨rfl, rfl⟩)
    go_ret2
    exact ⟨by rw [e1, e3]; rfl, rfl⟩
  · have e2 := zE_pos hb0
    have l := invS_lt b
    go_enter Try.func48, Try.ntmps48
    go_wp2_with (first | (go_at_call 50; go_must (refine (rinv_at b rfl hb).mono ?_); rintro e w' ⟨rfl, rfl⟩) | (go_at_call 42; go_must (refine (rmul_at a (invS b) rfl rfl ha l).mono ?_); rintro e w' ⟨rfl, rfl⟩))
    go_ret2
    exact ⟨by rw [e2]; rfl, rfl⟩

theorem rdiv_at {x y : Int} {w : World} (a b : Nat) (hx : x = a) (hy : y = b) (ha : a < 256) (hb : b < 256) :
    Calls Try.prog 48 #[.int .u8 x, .int .u8 y] w fun e w' => e = .returned (.tuple #[.int .u8 (mulS a (invS b) : Nat), .int .i64 (zE b : Nat)]) ∧ w' = w := by
  subst hx hy; exact rdiv_any a b w ha hb

end Go.Proofs.Ytlbachgbeefhcaa.Gf

/-
  THE DOCUMENT's ANSWER FOR LAYER 9 (package aumbryref09) BY CONTRACT: 'taken', 'Turned', 'Locator'.
-/







namespace Go.Proofs.Ytlbachgbeefhcaa.Gf
set_option linter.unusedVariables false
set_option linter.unusedSimpArgs false
open Go.RowKit

theorem rdiv9_at {w : World} (a b : UInt8) {x y : Int} (hx : x = ((a.toNat : Nat) : Int)) (hy : y = ((b.toNat : Nat) : Int)) :
    Calls Try.prog 48 #[.int .u8 x, .int .u8 y] w fun e w' => e = .returned (.tuple #[.int .u8 ((mu a (iv b)).toNat : Nat), .int .i64 (zE b.toNat : Nat)]) ∧ w' = w := by
  rw [mu_toNat, iv_toNat]
  exact rdiv_at a.toNat b.toNat hx hy (u8_lt a) (u8_lt b)
theorem cell_alloc9 {W : World} {a : Addr} {v : Value} (h : W.cell? a = some v) (o : Obj) : (W.alloc o).cell? a = some v :=
  (((Below.refl W.heap.size W).alloc (Nat.le_refl _) o).cell (World.block_lt_of_cell? W _ h)).trans h
theorem cell_grown9 {W W' : World} {a : Addr} {v : Value} {r : Option Nat} {B : Nat} (hg : W.grownBy W' r) (h : W.cell? a = some v) (ha : a.block < B) (hr : ∀ k, r = some k → B ≤ k) : W'.cell? a = some v := by
  rw [hg.cell_far a (World.block_lt_of_cell? W _ h) (fun e => by have := hr _ e.symm; omega)]; exact h
/-- a row, from which a multiple of another one is taken -/
def clr9 (p q : Nat → UInt8) (c j : Nat) : UInt8 := p j ^^^ mu (mu (p c) (iv (q c))) (q j)

set_option maxRecDepth 100000 in
set_option maxHeartbeats 4000000 in
theorem rtaken_any {w : World} {vp vq : Value} {p q : List UInt8} {c : Nat} {x : Int} (hx : x = (c : Int)) (hp : Rd w vp p) (hq : Rd w vq q) (hpq : p.length = q.length) (hl : p.length ≤ 1000) (hc : c < p.length) :
    Calls Try.prog 47 #[vp, vq, .int .i64 x] w fun e w' => ∃ v, e = .returned v ∧ OwnP w' w.heap.size 5 v (upto (clr9 (co p) (co q) c) p.length) ∧ Below w.heap.size w w' := by
  subst hx
  obtain ⟨i0, hi, hz0, hz1, hz2⟩ := info_parts info_u8
  rcases hp with ⟨a1, c1, rfl, _⟩ | ⟨b1, o1, c1, hp0, rfl, h1, h2, h3, hpc⟩
  · simp at hc
  rcases hq with ⟨a2, c2, rfl, _⟩ | ⟨b2, o2, c2, hq0, rfl, h4, h5, h6, hqc⟩
  · simp at hpq; subst hpq; simp at hc
  have hpl := hpq
  rw [← hpq] at hqc h4 ⊢
  clear hpq hq0 hp0
  obtain ⟨L, hL⟩ : ∃ L, Hid (L = p.length) := ⟨_, rfl⟩
  rw [← hL.out] at hpc hqc hl hc h1 h4 ⊢
  have d1 := hpc c hc
  have d2 := hqc c hc
  have hc' : (c : Int) < (L : Int) := by omega
  obtain ⟨y, hy⟩ : ∃ y, Hid (y = mu (co p c) (iv (co q c))) := ⟨_, rfl⟩
  clear hpl h1 h2 h4 h5
  go_enter Try.func47, Try.ntmps47
  go_wp2
  go_quiet ((go_at_call 48; go_loud (exact Calls.quiet_of_same (rdiv9_at (co p c) (co q c) rfl rfl))))
  rw [← hy.out]
  clear d1 d2
  have hpc' : ∀ i, i < L → (w.drewN nq).cell? ⟨b1, o1 + i, none⟩ = some (.int .u8 ((co p i).toNat : Nat)) := hpc
  have hqc' : ∀ i, i < L → (w.drewN nq).cell? ⟨b2, o2 + i, none⟩ = some (.int .u8 ((co q i).toNat : Nat)) := hqc
  have B0 : Below w.heap.size w (w.drewN nq) := below_draws _ _
  go_wp2
  go_loopw [9, 10] (fun o i wr => ∃ k : Nat, k ≤ L ∧ i = .int .i64 k ∧ wr.ownsRow w.heap.size 5 1 o k ((upto (clr9 (co p) (co q) c) k).map vb) ∧ Below w.heap.size w wr) (fun _ i _ => L - (intOf i).toNat)
  case atStart => exact ⟨0, by omega, rfl, World.ownsRow_nil _ _ _ _, B0⟩
  case round =>
    obtain ⟨k, hk, rfl, hown, hB⟩ := hrel
    clear hpc' hqc' B0
    by_cases hlt : k < L
    · have hlt' : (k : Int) < (L : Int) := by omega
      have k1 := (hB.cell (p := ⟨b1, o1 + k, none⟩) h3).trans (hpc k hlt)
      have k2 := (hB.cell (p := ⟨b2, o2 + k, none⟩) h6).trans (hqc k hlt)
      have E := xor_u8 (co p k) (mu y (co q k))
      have hsz := hB.size
      have HS : Hid (∀ (v' : Value) (w1 : World), w1.ownsRow w.heap.size 5 1 v' (k + 1) ((upto (clr9 (co p) (co q) c) k).map vb ++ [co p k ^^^ mu y (co q k)].map vb) → w1.ownsRow w.heap.size 5 1 v' (k + 1) ((upto (clr9 (co p) (co q) c) (k + 1)).map vb)) := fun v' w1 h => by
        rw [hy.out] at h
        rw [upto_vb_succ]; exact h
      clear hpc hqc
      go_wp2
      go_region_held3 (fun wx => wx.cell? ⟨b1, o1 + k, none⟩ = some (.int .u8 ((co p k).toNat : Nat)) ∧ wx.cell? ⟨b2, o2 + k, none⟩ = some (.int .u8 ((co q k).toNat : Nat))) (first | exact ⟨k1, k2⟩ | exact ⟨cell_alloc9 k1 _, cell_alloc9 k2 _⟩ | exact ⟨cell_grown9 hg5 (cell_alloc9 k1 _) h3 (fun q hq => (World.ownsRow.lt hown q hq).1), cell_grown9 hg5 (cell_alloc9 k2 _) h6 (fun q hq => (World.ownsRow.lt hown q hq).1)⟩) (first | (go_at_call 42; refine (rmu_at y (co q k) rfl rfl).mono ?_; rintro e w' ⟨rfl, rfl⟩) | (refine step_append_rd rfl (.tmp 29) (.tmp 41) 23 rfl w.heap.size 5 i0 Try.underlying23 hi hz0 hz1 hz2 u9 k _ rfl (World.ownsRow.alloc (World.ownsRow.drew hown) _) (.slice (some ⟨wr.heap.size, 0, none⟩) 1 1) [co p k ^^^ mu y (co q k)] rfl (rd_lit _ rfl (by simp [vb, UInt8.toNat_xor]) (by decide)) (by simp; omega) (by simp; omega) ?_; intro v' w5 hv5 hg5))
      have HN : Hid _ := HS.out _ _ hv5
      have HB : Hid (Below w.heap.size w w5) := ((hB.alloc hsz _).drew).grown hg5 (by show w.heap.size ≤ (wr.alloc _).heap.size; simp; omega) (fun q hq => (World.ownsRow.lt hown q hq).1)
      clear hv5 hg5 hB hown k1 k2 E HS
      go_wp2
      go_roundw
      case rel => exact ⟨k + 1, by omega, by go_num, HN.out, HB.out⟩
      case measure => simp [intOf]; omega
    · have e : k = L := by omega
      subst e
      clear hpc hqc
      go_wp2
      go_ret
      refine ⟨_, rfl, ?_, hB⟩
      unfold OwnP
      rw [upto_length]
      exact hown

set_option maxRecDepth 100000 in
set_option maxHeartbeats 2000000 in
theorem rturn_any {v : Value} {s : List UInt8} {w : World} (hs : Rd w v s) (hl : s.length ≤ 1000) : Calls Try.prog 31 #[v] w fun e w' => ∃ v', e = .returned v' ∧ Rd w' v' (norm s.reverse) ∧ Below w.heap.size w w' := by
  obtain ⟨i0, hi, hz0, hz1, hz2⟩ := info_parts info_u8
  obtain ⟨a, c, rfl⟩ := hs.form
  have gw : IntKind.i64.wrap ((s.length : Int) - 1) = (s.length : Int) - 1 := by rw [IntKind.wrap_i64]; omega
  go_enter Try.func31, Try.ntmps31
  go_wp2
  go_loopw [3, 4] (fun o i wr => ∃ k : Nat, k ≤ s.length ∧ i = .int .i64 ((s.length : Int) - 1 - (k : Int)) ∧ wr.ownsRow w.heap.size 5 1 o k ((upto (revF s) k).map vb) ∧ Below w.heap.size w wr) (fun _ i _ => (intOf i + 1).toNat)
  case atStart => exact ⟨0, by omega, by simp, World.ownsRow_nil _ _ _ _, Below.refl _ _⟩
  case round =>
    obtain ⟨k, hk, rfl, hown, hB⟩ := hrel
    have hsz := hB.size
    obtain ⟨av, cv, rfl⟩ := owns_form hown
    by_cases hlt : k < s.length
    · obtain ⟨p, hp⟩ : ∃ p : Nat, Hid (p = s.length - 1 - k) := ⟨_, rfl⟩
      have ep : (s.length : Int) - 1 - (k : Int) = (p : Int) := by have := hp.out; omega
      have hps : p < s.length := by have := hp.out; omega
      have hps' : (p : Int) < (s.length : Int) := by omega
      have hp0 : (p : Int) ≥ 0 := by omega
      obtain ⟨b, off, rfl, _, c1⟩ := (hs.below hB).byte hps
      obtain ⟨x, hx⟩ : ∃ x, Hid (x = co s p) := ⟨_, rfl⟩
      rw [← hx.out] at c1
      have HX : Hid (revF s k = x) := by show _ = _; rw [hx.out, hp.out]; rfl
      have ep9 : Hid _ := ep
      rw [ep]
      clear ep hs
      go_wp2_with (at_builtin; go_loud (refine wpList_append_rd2 _ rfl (.tmp 12) (.tmp 17) 23 rfl w.heap.size 5 i0 Try.underlying23 hi hz0 hz1 hz2 (.slice av k cv) k _ rfl (World.ownsRow.alloc hown _) _ [x] rfl (rd_lit (n := 1) [x] rfl rfl (by decide)) (by simp; omega) (by simp; omega) ?_); intro x' w4 hx4 hg4 _)
      have HN : Hid (w4.ownsRow w.heap.size 5 1 x' (k + 1) ((upto (revF s) (k + 1)).map vb)) := (by rw [upto_vb_succ, HX.out]; exact hx4 : w4.ownsRow w.heap.size 5 1 x' (k + 1) ((upto (revF s) (k + 1)).map vb))
      have HB : Hid (Below w.heap.size w w4) := grow_below hB hown hg4
      clear hx4 hg4 hown hB c1
      go_roundw
      case rel => exact ⟨k + 1, by omega, by have := ep9.out; go_num, HN.out, HB.out⟩
      case measure => simp [intOf] <;> omega
    · have e : k = s.length := by omega
      have hge : ¬ (s.length : Int) - 1 - (k : Int) ≥ 0 := by omega
      have hR : Rd wr (.slice av k cv) s.reverse := by
        rw [← rev_upto, ← e]
        exact Rd.owned (base := w.heap.size) (e := 5) (by rw [upto_length]; exact hown)
      clear hown hs e
      go_wp2_with fail
      refine (rnorm_any hR (by rw [List.length_reverse]; omega)).mono ?_
      rintro e2 w2 ⟨v2, rfl, hown2, hb2⟩
      have HR : Rd w2 v2 (norm s.reverse) := Rd.owned hown2
      go_wp2
      go_ret
      exact ⟨_, rfl, HR, Below.next hB hb2⟩

set_option maxRecDepth 100000 in
set_option maxHeartbeats 2000000 in
theorem rloc_any {v : Value} {s : List UInt8} {w : World} (hs : Rd w v s) (hl : s.length ≤ 1000) : Calls Try.prog 15 #[v] w fun e w' => ∃ v', e = .returned v' ∧ Rd w' v' (locL s) ∧ Below w.heap.size w w' := by
  obtain ⟨a, c, rfl⟩ := hs.form
  go_enter Try.func15, Try.ntmps15
  go_wp2
  have B0 : Below w.heap.size w (w.alloc (.cells #[.int .u8 1] 5)) := (Below.refl _ _).alloc (Nat.le_refl _) _
  have R0 : Rd (w.alloc (.cells #[.int .u8 1] 5)) (.slice (some ⟨w.heap.size, 0, none⟩) 1 1) [1] := rd_lit (n := 1) [1] rfl rfl (by decide)
  go_loopw [3, 4] (fun o i wr => ∃ k : Nat, k ≤ s.length ∧ i = .int .i64 k ∧ Rd wr o (locN (co s) k) ∧ Below w.heap.size w wr) (fun _ i _ => s.length - (intOf i).toNat)
  case atStart => exact ⟨0, by omega, rfl, R0, B0⟩
  case round =>
    obtain ⟨k, hk, rfl, hR, hB⟩ := hrel
    clear R0 B0
    obtain ⟨av, cv, ev⟩ := hR.form
    rw [locN_length] at ev
    subst ev
    by_cases hlt : k < s.length
    · have hlt' : (k : Int) < (s.length : Int) := by omega
      obtain ⟨b, off, rfl, _, c1⟩ := (hs.below hB).byte hlt
      obtain ⟨x, hx⟩ : ∃ x, Hid (x = co s k) := ⟨_, rfl⟩
      rw [← hx.out] at c1
      have HM : Hid (mulP (locN (co s) k) [x, 1] = locN (co s) (k + 1)) := by show _ = _; rw [hx.out]; exact locN_succ _ _
      have HR : Hid _ := hR.below (w' := wr.alloc (.cells #[.int .u8 (x.toNat : Nat), .int .u8 1] 5)) ((Below.refl _ _).alloc (Nat.le_refl _) _)
      have HL : Hid (Rd (wr.alloc (.cells #[.int .u8 (x.toNat : Nat), .int .u8 1] 5)) (.slice (some ⟨wr.heap.size, 0, none⟩) 2 2) [x, 1]) := rd_lit (n := 2) [x, 1] rfl rfl (by decide)
      clear hs hR
      go_wp2_with fail
      refine (rpmul_any HR.out HL.out (by rw [locN_length]; omega) (by simp)).mono ?_
      rintro e w2 ⟨v2, rfl, hown2, hb2⟩
      have HR2 : Hid (Rd w2 v2 (locN (co s) (k + 1))) := by
        have := Rd.owned hown2
        rw [HM.out] at this
        exact this
      have HB2 : Hid (Below w.heap.size w w2) := Below.next (below_lit hB _) hb2
      clear hown2 hb2 HR HL c1 hB
      go_wp2
      go_roundw
      case rel => exact ⟨k + 1, by omega, by go_num, HR2.out, HB2.out⟩
      case measure => simp [intOf]; omega
    · have e : k = s.length := by omega
      have hge : ¬ (k : Int) < (s.length : Int) := by omega
      have HR : Hid (Rd wr (.slice av (k + 1) cv) (locL s)) := by
        show Rd _ _ _
        unfold locL
        rw [← e]; exact hR
      clear hs hR e
      go_wp2
      go_ret
      exact ⟨_, rfl, HR.out, hB⟩

end Go.Proofs.Ytlbachgbeefhcaa.Gf

/-
  PLAIN MATHEMATICS: Euclid's steps come to an end: a least locator there is, or none; equations for a locator's numbers, solved row by row. No program is named here.
-/

namespace Go.Proofs.Ytlbachgbeefhcaa.Gf
set_option linter.unusedVariables false
set_option linter.unusedSimpArgs false

/-- a quotient and what is left there are -/
theorem div_some {q : Nat → UInt8} {d : Nat} (hq : Fin0 q (d + 1)) (hd : q d ≠ 0) (n : Nat) (p : Nat → UInt8) (hp : Fin0 p n) : ∃ s r, Fin0 s (n - d) ∧ Fin0 r d ∧ ∀ i, p i = conv s q i ^^^ r i := by
  induction n generalizing p with
  | zero => exact ⟨fun _ => 0, p, fun _ _ => rfl, hp.mono (Nat.zero_le _), fun i => by rw [conv_comm, conv_zero (fun _ => rfl), zero_x]⟩
  | succ n ih =>
    rcases Nat.lt_or_ge n d with h | h
    · exact ⟨fun _ => 0, p, fun _ _ => rfl, hp.mono (by omega), fun i => by rw [conv_comm, conv_zero (fun _ => rfl), zero_x]⟩
    · obtain ⟨c, hc⟩ : ∃ c, c = mu (p n) (iv (q d)) := ⟨_, rfl⟩
      have e0 : conv (shF (n - d) (cst c)) q = shF (n - d) (fun j => mu c (q j)) := by rw [conv_comm, conv_shF, conv_comm, one_conv]
      obtain ⟨s, r, h1, h2, h3⟩ := ih (addF p (shF (n - d) (fun j => mu c (q j)))) (fun i hi => by
        rw [addF_at, shF_ge (by omega)]
        by_cases e : i = n
        · rw [e, show n - (n - d) = d by omega, hc, mu_assoc, mu_comm (iv _), mu_iv hd, mu_one, x_self]
        · rw [hp i (by omega), hq (i - (n - d)) (by omega), mu_zero]; rfl)
      refine ⟨addF s (shF (n - d) (cst c)), r, fun i hi => ?_, h2, fun i => ?_⟩
      · rw [addF_at, h1 i (by omega), shF_ge (by omega), cst_ne (by omega)]; rfl
      · rw [add_conv, addF_at, e0]
        have := h3 i
        rw [addF_at] at this
        have e1 : p i = (conv s q i ^^^ r i) ^^^ shF (n - d) (fun j => mu c (q j)) i := by rw [← this, x_assoc, x_self, x_zero]
        rw [e1, x_assoc, x_comm (r i), ← x_assoc]
theorem eu_end {P : Nat → UInt8} {m e : Nat} (N : Nat) : ∀ r0 r1 v0 v1 a b, b ≤ N → Eu P m r0 r1 v0 v1 a b → m + e ≤ 2 * b → ∃ r0 r1 v0 v1 a b n1, Eu P m r0 r1 v0 v1 a b ∧ m + e ≤ 2 * b ∧ Fin0 r1 n1 ∧ 2 * n1 ≤ m + e + 1 := by
  induction N with
  | zero => exact fun r0 r1 v0 v1 a b hb h hm => ⟨r0, r1, v0, v1, a, b, 0, h, hm, h.g1.mono (by omega), by omega⟩
  | succ N ih =>
    intro r0 r1 v0 v1 a b hb h hm
    by_cases h1 : 2 * deg r1 b ≤ m + e + 1
    · exact ⟨r0, r1, v0, v1, a, b, _, h, hm, deg_fin h.g1, h1⟩
    · have hle := deg_le r1 b
      have hd : Fin0 r1 (deg r1 b - 1 + 1) := (deg_fin h.g1).mono (by omega)
      have ht : r1 (deg r1 b - 1) ≠ 0 := deg_top r1 b (by omega)
      obtain ⟨q, r2, k1, k2, k3⟩ := div_some hd ht (b + 1) r0 h.g0
      exact ih _ _ _ _ _ _ (by omega) (h.step hd ht k3 (k1.mono (by omega)) k2) (by omega)
/-- a least locator there is, or none -/
theorem key_some (P : Nat → UInt8) (m e : Nat) (h : e ≤ m) : (∃ t L, LeastLoc P m e t L) ∨ (∀ t L, 2 * t + e ≤ m → ¬ IsLoc P m e t L) := by
  obtain ⟨r0, r1, v0, v1, a, b, n1, k1, k2, k3, k4⟩ := eu_end (P := P) (m := m) (e := e) m _ _ _ _ _ _ (Nat.le_refl _) (Eu.start (P := P) (r1 := fun j => if j < m then P j else 0) (fun j hj => (if_pos hj).symm) (fun j hj => if_neg (by omega))) (by omega)
  by_cases hr : Fin0 r1 (e + a)
  · exact Or.inl ⟨_, _, k1.least k2 k3 k4 hr⟩
  · exact Or.inr (k1.none k2 k3 k4 hr)

/-! Equations: N rows of t numbers, and what each is equal to. -/
def SolM (N t : Nat) (M : Mx) (x : Nat → UInt8) : Prop := ∀ r, r < N → S t (fun c => mu (M r c) (x c)) = M r t
structure UniqM (N t : Nat) (M : Mx) (x : Nat → UInt8) : Prop where
  sol : SolM N t M x
  one : ∀ y, SolM N t M y → ∀ c, c < t → y c = x c
/-- c columns are cleared -/
structure GS (N t : Nat) (A M : Mx) (c : Nat) : Prop where
  sol : ∀ x, SolM N t M x ↔ SolM N t A x
  piv : ∀ j, j < c → j < N ∧ M j j ≠ 0 ∧ ∀ r, r < N → r ≠ j → M r j = 0
theorem GS.start (N t : Nat) (A : Mx) : GS N t A A 0 := ⟨fun x => Iff.rfl, fun j hj => by omega⟩
theorem GS.congr {N t c : Nat} {A M M' : Mx} (h : GS N t A M c) (hc : c ≤ t) (e : ∀ r i, r < N → i ≤ t → M' r i = M r i) : GS N t A M' c :=
  ⟨fun x => by
    rw [← h.sol x]
    exact ⟨fun k r hr => by have := k r hr; rw [e r t hr (Nat.le_refl _)] at this; rw [← this]; exact S_congr fun i hi => by rw [e r i hr (by omega)], fun k r hr => by rw [e r t hr (Nat.le_refl _), ← k r hr]; exact S_congr fun i hi => by rw [e r i hr (by omega)]⟩,
   fun j hj => by
    obtain ⟨k1, k2, k3⟩ := h.piv j hj
    exact ⟨k1, by rw [e j j k1 (by omega)]; exact k2, fun r hr hne => by rw [e r j hr (by omega)]; exact k3 r hr hne⟩⟩
/-- two rows change places -/
theorem GS.swap {N t c p : Nat} {A M : Mx} (h : GS N t A M c) (hcp : c ≤ p) (hp : p < N) : GS N t A (fun r i => M (sw p c r) i) c := by
  refine ⟨fun x => ?_, fun j hj => ?_⟩
  · rw [← h.sol x]
    constructor
    · intro k r hr
      have := k (sw p c r) (sw_lt hp (by omega) hr)
      simp only [sw_sw] at this
      exact this
    · exact fun k r hr => k _ (sw_lt hp (by omega) hr)
  · obtain ⟨k1, k2, k3⟩ := h.piv j hj
    refine ⟨k1, ?_, fun r hr hne => ?_⟩
    · show M (sw p c j) j ≠ 0
      rw [sw_low hj hcp]; exact k2
    · refine k3 _ (sw_lt hp (by omega) hr) fun e => hne ?_
      have := congrArg (sw p c) e
      rwa [sw_sw, sw_low hj hcp] at this
/-- within the clearing of column c: the rows ahead of r are cleared -/
structure GT (N t : Nat) (A M : Mx) (c r : Nat) : Prop where
  gs : GS N t A M c
  cN : c < N
  top : M c c ≠ 0
  low : ∀ i, i < r → i < N → i ≠ c → M i c = 0
theorem GT.congr {N t c r : Nat} {A M M' : Mx} (h : GT N t A M c r) (hc : c ≤ t) (e : ∀ r i, r < N → i ≤ t → M' r i = M r i) : GT N t A M' c r :=
  ⟨h.gs.congr hc e, h.cN, by rw [e c c h.cN hc]; exact h.top, fun i hi hN hne => by rw [e i c hN hc]; exact h.low i hi hN hne⟩
theorem GT.skip {N t c : Nat} {A M : Mx} (h : GT N t A M c c) : GT N t A M c (c + 1) := ⟨h.gs, h.cN, h.top, fun i hi hN hne => h.low i (by omega) hN hne⟩
theorem GT.take {N t c r : Nat} {A M : Mx} (h : GT N t A M c r) (hc : c < t) (hr : r < N) (hne : r ≠ c) : GT N t A (fun i j => if i = r then M r j ^^^ mu (mu (M r c) (iv (M c c))) (M c j) else M i j) c (r + 1) := by
  obtain ⟨y, hy⟩ : ∃ y, y = mu (M r c) (iv (M c c)) := ⟨_, rfl⟩
  rw [← hy]
  have hcr : c ≠ r := fun e => hne e.symm
  refine ⟨⟨fun x => ?_, fun j hj => ?_⟩, h.cN, ?_, fun i hi hN hic => ?_⟩
  · rw [← h.gs.sol x]
    have key : ∀ k : SolM N t M x ∨ True, S t (fun i => mu (M r i ^^^ mu y (M c i)) (x i)) = S t (fun i => mu (M r i) (x i)) ^^^ mu y (S t (fun i => mu (M c i) (x i))) := fun _ => by
      rw [mu_S, ← S_xor]
      exact S_congr fun i _ => by rw [xor_mu, mu_assoc]
    constructor
    · intro k i hi
      have kc := k c h.cN
      simp only [if_neg hcr] at kc
      by_cases e : i = r
      · subst e
        have := k i hi
        simp only [if_pos] at this
        rw [key (Or.inr trivial), kc] at this
        have := congrArg (· ^^^ mu y (M c t)) this
        simp only [x_assoc, x_self, x_zero] at this
        exact this
      · have := k i hi
        simp only [if_neg e] at this
        exact this
    · intro k i hi
      by_cases e : i = r
      · subst e
        simp only [if_pos]
        rw [key (Or.inr trivial), k i hi, k c h.cN]
      · simp only [if_neg e]
        exact k i hi
  · obtain ⟨k1, k2, k3⟩ := h.gs.piv j hj
    have hcj : M c j = 0 := k3 c h.cN (by omega)
    refine ⟨k1, ?_, fun i hi hij => ?_⟩
    · show (if j = r then _ else _) ≠ 0
      by_cases e : j = r
      · rw [if_pos e, hcj, mu_zero, x_zero, ← e]; exact k2
      · rw [if_neg e]; exact k2
    · show (if i = r then _ else _) = 0
      by_cases e : i = r
      · rw [if_pos e, hcj, mu_zero, x_zero, ← e]; exact k3 i hi hij
      · rw [if_neg e]; exact k3 i hi hij
  · show (if c = r then _ else _) ≠ 0
    rw [if_neg hcr]; exact h.top
  · show (if i = r then _ else _) = 0
    by_cases e : i = r
    · rw [if_pos e, hy, mu_assoc, mu_comm (iv _), mu_iv h.top, mu_one, x_self]
    · rw [if_neg e]; exact h.low i (by omega) hN hic
theorem GT.done {N t c r : Nat} {A M : Mx} (h : GT N t A M c r) (hr : N ≤ r) : GS N t A M (c + 1) :=
  ⟨h.gs.sol, fun j hj => by
    by_cases e : j = c
    · subst e; exact ⟨h.cN, h.top, fun i hi hne => h.low i (by omega) hi hne⟩
    · exact h.gs.piv j (by omega)⟩
/-- no row to clear a column by: not one solution alone -/
theorem GS.none {N t c : Nat} {A M : Mx} (h : GS N t A M c) (hc : c < t) (h0 : ∀ r, c ≤ r → r < N → M r c = 0) : ¬ ∃ x, UniqM N t A x := by
  rintro ⟨x, hx⟩
  obtain ⟨z, hz⟩ : ∃ z : Nat → UInt8, z = fun i => if i = c then 1 else if i < c then mu (M i c) (iv (M i i)) else 0 := ⟨_, rfl⟩
  have hzc : z c = 1 := by rw [hz]; exact if_pos rfl
  have hker : ∀ r, r < N → S t (fun i => mu (M r i) (z i)) = 0 := fun r hr => by
    rcases Nat.lt_or_ge r c with hrc | hrc
    · obtain ⟨k1, k2, k3⟩ := h.piv r hrc
      have e : S t (fun i => mu (M r i) (z i)) = S t (fun i => (if i = c then M r c else 0) ^^^ (if i = r then M r c else 0)) := S_congr fun i hi => by
        by_cases e1 : i = c
        · rw [if_pos e1, if_neg (by omega), e1, hzc, mu_one, x_zero]
        · rw [if_neg e1, zero_x]
          by_cases e2 : i = r
          · rw [if_pos e2, e2, hz]
            show mu (M r r) (if r = c then 1 else if r < c then mu (M r c) (iv (M r r)) else 0) = M r c
            rw [if_neg (by omega), if_pos hrc, mu_left, mu_iv k2, mu_one]
          · rw [if_neg e2]
            by_cases e3 : i < c
            · rw [(h.piv i e3).2.2 r hr (fun x => e2 x.symm), zero_mu]
            · rw [hz]
              show mu (M r i) (if i = c then 1 else if i < c then _ else 0) = 0
              rw [if_neg e1, if_neg e3, mu_zero]
      rw [e, S_xor, S_one (k := c) hc (fun i _ hne => if_neg hne), S_one (k := r) (by omega) (fun i _ hne => if_neg hne), if_pos rfl, if_pos rfl, x_self]
    · refine S_zero fun i hi => ?_
      by_cases e1 : i = c
      · rw [e1, h0 r hrc hr, zero_mu]
      · by_cases e3 : i < c
        · rw [(h.piv i e3).2.2 r hr (by omega), zero_mu]
        · rw [hz]
          show mu (M r i) (if i = c then 1 else if i < c then _ else 0) = 0
          rw [if_neg e1, if_neg e3, mu_zero]
  have hy : SolM N t A (fun i => x i ^^^ z i) := (h.sol _).1 fun r hr => by
    have e : S t (fun i => mu (M r i) (x i ^^^ z i)) = S t (fun i => mu (M r i) (x i)) ^^^ S t (fun i => mu (M r i) (z i)) := by rw [← S_xor]; exact S_congr fun i _ => mu_xor _ _ _
    rw [e, hker r hr, x_zero]
    exact (h.sol x).2 hx.sol r hr
  have := hx.one _ hy c hc
  rw [hzc] at this
  have e : x c ^^^ (x c ^^^ 1) = x c ^^^ x c := by rw [this]
  rw [x_cancel, x_self] at e
  cases e
theorem GS.row {N t : Nat} {A M : Mx} (h : GS N t A M t) {r : Nat} (hr : r < N) (x : Nat → UInt8) : S t (fun i => mu (M r i) (x i)) = if r < t then mu (M r r) (x r) else 0 := by
  by_cases e : r < t
  · rw [if_pos e]
    exact S_one (k := r) e (fun i hi hne => by rw [(h.piv i hi).2.2 r hr (fun x => hne x.symm), zero_mu])
  · rw [if_neg e]
    exact S_zero fun i hi => by rw [(h.piv i hi).2.2 r hr (by omega), zero_mu]
/-- a row that asks for what can't be -/
theorem GS.bad {N t r : Nat} {A M : Mx} (h : GS N t A M t) (h1 : t ≤ r) (h2 : r < N) (h3 : M r t ≠ 0) : ¬ ∃ x, UniqM N t A x := by
  rintro ⟨x, hx⟩
  have := (h.sol x).2 hx.sol r h2
  rw [h.row h2 x, if_neg (by omega)] at this
  exact h3 this.symm
/-- .. else one solution alone -/
theorem GS.good {N t : Nat} {A M : Mx} (h : GS N t A M t) (h0 : ∀ r, t ≤ r → r < N → M r t = 0) : UniqM N t A (fun c => mu (M c t) (iv (M c c))) := by
  refine ⟨(h.sol _).1 fun r hr => ?_, fun y hy c hc => ?_⟩
  · rw [h.row hr]
    by_cases e : r < t
    · rw [if_pos e, mu_left, mu_iv (h.piv r e).2.1, mu_one]
    · rw [if_neg e, h0 r (by omega) hr]
  · obtain ⟨k1, k2, k3⟩ := h.piv c hc
    have := (h.sol y).2 hy c k1
    rw [h.row k1, if_pos hc] at this
    show y c = mu (M c t) (iv (M c c))
    rw [← this, mu_comm (M c c), mu_assoc, mu_iv k2, mu_one]

/-! The equations of a locator of degree t. -/
def eqM (P : Nat → UInt8) (e t : Nat) : Mx := fun r i => P (e + t + r - i)
def lcF (t : Nat) (x : Nat → UInt8) (i : Nat) : UInt8 := if i < t then x i else if i = t then 1 else 0
theorem lcF_fin (t : Nat) (x : Nat → UInt8) : Fin0 (lcF t x) (t + 1) := fun i hi => by unfold lcF; rw [if_neg (by omega), if_neg (by omega)]
theorem lcF_top (t : Nat) (x : Nat → UInt8) : lcF t x t = 1 := by unfold lcF; rw [if_neg (by omega), if_pos rfl]
theorem lcF_of {t : Nat} {L : Nat → UInt8} (h : Fin0 L (t + 1)) (h1 : L t = 1) : lcF t L = L := by
  funext i
  unfold lcF
  by_cases e : i < t
  · rw [if_pos e]
  · rw [if_neg e]
    by_cases e2 : i = t
    · rw [if_pos e2, e2, h1]
    · rw [if_neg e2, h i (by omega)]
theorem lcF_conv (P : Nat → UInt8) (t : Nat) (x : Nat → UInt8) {j : Nat} (hj : t ≤ j) : conv (lcF t x) P j = S t (fun i => mu (P (j - i)) (x i)) ^^^ P (j - t) := by
  unfold conv
  rw [S_more (n := t + 1) (m := j + 1) (by omega) (fun i h1 _ => by rw [lcF_fin t x i h1, zero_mu]), S, lcF_top, one_mu]
  congr 1
  exact S_congr fun i hi => by unfold lcF; rw [if_pos hi, mu_comm]
theorem eq_loc {P : Nat → UInt8} {m e t : Nat} {x : Nat → UInt8} : SolM (m - (e + t)) t (eqM P e t) x ↔ IsLoc P m e t (lcF t x) := by
  constructor
  · intro h
    refine ⟨lcF_fin t x, lcF_top t x, fun j h1 h2 => ?_⟩
    have := h (j - (e + t)) (by omega)
    unfold eqM at this
    rw [show e + t + (j - (e + t)) - t = j - t by omega] at this
    have key : S t (fun c => mu (P (e + t + (j - (e + t)) - c)) (x c)) = S t (fun i => mu (P (j - i)) (x i)) := S_congr fun i hi => by rw [show e + t + (j - (e + t)) - i = j - i by omega]
    rw [key] at this
    rw [lcF_conv P t x (by omega), this, x_self]
  · intro h r hr
    have := h.zero (e + t + r) (by omega) (by omega)
    rw [lcF_conv P t x (by omega)] at this
    exact x_eq_zero.1 this
/-- one solution alone is one locator alone -/
theorem uniq_loc {P : Nat → UInt8} {m e t : Nat} {x : Nat → UInt8} (h : UniqM (m - (e + t)) t (eqM P e t) x) : IsLoc P m e t (lcF t x) ∧ ∀ L, IsLoc P m e t L → L = lcF t x := by
  refine ⟨eq_loc.1 h.sol, fun L hL => ?_⟩
  have e1 := lcF_of hL.fin hL.top
  have h2 := h.one L (eq_loc.2 (by rw [e1]; exact hL))
  rw [← e1]
  funext i
  unfold lcF
  by_cases e : i < t
  · rw [if_pos e, if_pos e]; exact h2 i e
  · rw [if_neg e, if_neg e]
theorem loc_uniq {P : Nat → UInt8} {m e t : Nat} {L : Nat → UInt8} (h : IsLoc P m e t L) (h1 : ∀ L', IsLoc P m e t L' → L' = L) : UniqM (m - (e + t)) t (eqM P e t) L := by
  refine ⟨eq_loc.2 (by rw [lcF_of h.fin h.top]; exact h), fun y hy c hc => ?_⟩
  have := congrFun (h1 _ (eq_loc.1 hy)) c
  unfold lcF at this
  rw [if_pos hc] at this
  exact this
/-- the first degree at which the equations have one solution alone tells the least locator -/
theorem first_least {P : Nat → UInt8} {m e t : Nat} {x : Nat → UInt8} (he : e ≤ m) (ht : 2 * t + e ≤ m) (h : UniqM (m - (e + t)) t (eqM P e t) x) (hno : ∀ t', t' < t → ¬ ∃ y, UniqM (m - (e + t')) t' (eqM P e t') y) : LeastLoc P m e t (lcF t x) := by
  obtain ⟨h1, h2⟩ := uniq_loc h
  rcases key_some P m e he with ⟨t0, L0, k⟩ | k
  · have hle := k.least _ _ ht h1
    rcases Nat.lt_or_ge t0 t with hlt | hge
    · exact absurd ⟨_, loc_uniq k.loc k.one⟩ (hno t0 hlt)
    · obtain rfl : t0 = t := by omega
      rw [← h2 _ k.loc]; exact k
  · exact absurd h1 (k t _ ht)
theorem first_none {P : Nat → UInt8} {m e : Nat} (he : e ≤ m) (hno : ∀ t', 2 * t' + e ≤ m → ¬ ∃ y, UniqM (m - (e + t')) t' (eqM P e t') y) : ∀ t L, 2 * t + e ≤ m → ¬ IsLoc P m e t L := by
  rcases key_some P m e he with ⟨t0, L0, k⟩ | k
  · exact absurd ⟨_, loc_uniq k.loc k.one⟩ (hno t0 k.few)
  · exact k

end Go.Proofs.Ytlbachgbeefhcaa.Gf

