/-
  THE DOCUMENT's ANSWER FOR LAYER 1 (package aumbryref01) BY CONTRACT: its products, inverses, quotients, logarithms and powers are those of the plain mathematics.
-/
import Derived.Test.YtniihlgbpncbgaaGfRefMath
namespace Go.Proofs.Ytniihlgbpncbgaa.Gf
set_option linter.unusedVariables false
open Go.RowKit

set_option maxRecDepth 100000 in
set_option maxHeartbeats 1000000 in
theorem rmul_any (a b : Nat) (w : World) (ha : a < 256) (hb : b < 256) :
    Calls Try.prog 20 #[.int .u8 a, .int .u8 b] w fun e w' => e = .returned (.int .u8 (mulS a b : Nat)) ∧ w' = w := by
  go_enter Try.func20, Try.ntmps20
  go_wp2
  go_loop [5, 6, 7] (fun x o i => ∃ k : Nat, k ≤ 8 ∧ i = .int .i64 k ∧ x = .int .i64 (xt k a : Nat) ∧ o = .int .i64 (acc k a b : Nat)) (fun _ _ i => 8 - (intOf i).toNat)
  case atStart => exact ⟨0, by omega, rfl, rfl, rfl⟩
  case round =>
    obtain ⟨k, hk, rfl, rfl, rfl⟩ := hrel
    have lx := xt_lt ha k
    have lo := acc_lt b ha k
    by_cases hlt : k < 8
    · go_wp2
      all_goals
        go_round
        case rel => exact ⟨k + 1, by omega, by go_num, by first | exact val_int (x_hi ha ‹_›) | exact val_int (x_lo ‹_›), by first | exact val_int (o_hit ha hb ‹_›) | exact val_int (o_miss hb ‹_›)⟩
        case measure => simp [intOf]; omega
    · have e : k = 8 := by omega
      subst e
      have E : Hid (mulS a b = acc 8 a b) := mulS_acc ha hb
      go_wp2
      go_ret
      exact ⟨ret_int (by rw [E.out]), rfl⟩

theorem rmul_at {x y : Int} {w : World} (a b : Nat) (hx : x = a) (hy : y = b) (ha : a < 256) (hb : b < 256) :
    Calls Try.prog 20 #[.int .u8 x, .int .u8 y] w fun e w' => e = .returned (.int .u8 (mulS a b : Nat)) ∧ w' = w := by
  subst hx hy; exact rmul_any a b w ha hb

set_option maxRecDepth 100000 in
set_option maxHeartbeats 1000000 in
theorem rinv_any (a : Nat) (w : World) (ha : a < 256) :
    Calls Try.prog 12 #[.int .u8 a] w fun e w' => e = .returned (.tuple #[.int .u8 (invS a : Nat), .int .i64 (zE a : Nat)]) ∧ w' = w := by
  go_enter Try.func12, Try.ntmps12
  go_wp2
  go_loop [4] (fun i => ∃ k : Nat, 1 ≤ k ∧ k ≤ 256 ∧ i = .int .i64 k ∧ Hid (∀ j, 1 ≤ j → j < k → mulS a j ≠ 1)) (fun i => 256 - (intOf i).toNat)
  case atStart => exact ⟨1, by omega, by omega, rfl, fun j h1 h2 => by omega⟩
  case round =>
    obtain ⟨k, h1, hk, rfl, hno⟩ := hrel
    by_cases hlt : k < 256
    · by_cases hit : mulS a k = 1
      · obtain ⟨ha0, hinv⟩ := inv_found hlt hit
        have E1 : Hid (k = invS a) := hinv
        have E2 : Hid (a ≠ 0) := ha0
        clear hinv ha0
        go_wp2_with (go_at_call 20; go_must (refine (rmul_at a k rfl (by omega) ha hlt).mono ?_); rintro e w' ⟨rfl, rfl⟩)
        go_ret2
        refine ⟨?_, rfl⟩
        rw [zE_pos E2.out, ← E1.out]
        rfl
      · have hb : ((mulS a k : Nat) : Int) ≠ 1 := by omega
        have hb2 : (((mulS a k : Nat) : Int) == 1) = false := by simpa using hb
        clear hb
        have HN : Hid (∀ j, 1 ≤ j → j < k + 1 → mulS a j ≠ 1) := fun j g1 g2 => by
          by_cases e : j = k
          · subst e; exact hit
          · exact hno.out j g1 (by omega)
        clear hit
        go_wp2_with (go_at_call 20; go_must (refine (rmul_at a k rfl (by omega) ha hlt).mono ?_); rintro e w' ⟨rfl, rfl⟩)
        go_round
        case rel => exact ⟨k + 1, by omega, by omega, by go_num, HN⟩
        case measure => simp [intOf]; omega
    · have e : k = 256 := by omega
      subst e
      have e0 := inv_none hno.out
      subst e0
      clear hno
      go_wp2
      go_ret2
      exact ⟨rfl, rfl⟩

set_option maxRecDepth 100000 in
set_option maxHeartbeats 1000000 in
theorem rlog_any (a : Nat) (w : World) (ha : a < 256) :
    Calls Try.prog 18 #[.int .u8 a] w fun e w' => e = .returned (.tuple #[.int .i64 (lg a : Nat), .int .i64 (zE a : Nat)]) ∧ w' = w := by
  go_enter Try.func18, Try.ntmps18
  go_wp2
  go_loop [4, 5] (fun x i => ∃ k : Nat, k ≤ 255 ∧ x = .int .u8 (pw (k % 255) : Nat) ∧ i = .int .i64 k ∧ Hid (∀ j, j < k → pw (j % 255) ≠ a)) (fun _ i => 255 - (intOf i).toNat)
  case atStart => exact ⟨0, by omega, by simp [pw_zero], rfl, fun j h2 => by omega⟩
  case round =>
    obtain ⟨k, hk, rfl, rfl, hno⟩ := hrel
    have lp := pw_lt (k % 255)
    by_cases hlt : k < 255
    · by_cases hit : pw (k % 255) = a
      · obtain ⟨ha0, hinv⟩ := log_found hlt hit
        have E1 : Hid (k = lg a) := hinv
        have E2 : Hid (a ≠ 0) := ha0
        clear hinv ha0
        have hb2 : (((pw (k % 255) : Nat) : Int) == (a : Int)) = true := by rw [hit]; simp
        clear hit
        go_wp2
        go_ret2
        refine ⟨?_, rfl⟩
        rw [zE_pos E2.out, ← E1.out]
        rfl
      · have hb2 : (((pw (k % 255) : Nat) : Int) == (a : Int)) = false := by simpa using (by omega : ¬ ((pw (k % 255) : Nat) : Int) = (a : Int))
        have HN : Hid (∀ j, j < k + 1 → pw (j % 255) ≠ a) := fun j g2 => by
          by_cases e : j = k
          · subst e; exact hit
          · exact hno.out j (by omega)
        clear hit
        have E : Hid (mulS (pw (k % 255)) 2 = pw ((k + 1) % 255)) := pw_next hlt
        go_wp2_with (go_at_call 20; go_must (refine (rmul_at (pw (k % 255)) 2 rfl rfl lp (by omega)).mono ?_); rintro e w' ⟨rfl, rfl⟩)
        go_round
        case rel => exact ⟨k + 1, by omega, by rw [E.out], by go_num, HN⟩
        case measure => simp [intOf]; omega
    · have e : k = 255 := by omega
      subst e
      have e0 := log_none ha hno.out
      subst e0
      clear hno
      go_wp2
      go_ret2
      exact ⟨by rw [lg_zero]; rfl, rfl⟩

set_option maxRecDepth 100000 in
set_option maxHeartbeats 1000000 in
theorem rtimes_any (a n : Nat) (w : World) (ha : a < 256) (hn : n < 9223372036854775808) :
    Calls Try.prog 25 #[.int .u8 a, .int .i64 n] w fun e w' => e = .returned (.int .u8 (powV a (n : Nat) : Nat)) ∧ w' = w := by
  go_enter Try.func25, Try.ntmps25
  go_wp2
  go_loop [0, 5, 6] (fun x o i => ∃ k : Nat, k ≤ 63 ∧ x = .int .u8 (sq k a : Nat) ∧ o = .int .u8 (tm k a n : Nat) ∧ i = .int .i64 k) (fun _ _ i => 63 - (intOf i).toNat)
  case atStart => exact ⟨0, by omega, rfl, rfl, rfl⟩
  case round =>
    obtain ⟨k, hk, rfl, rfl, rfl⟩ := hrel
    have lx := sq_lt ha k
    have lo := tm_lt a n k
    by_cases hlt : k < 63
    · by_cases hb : n.testBit k = true
      · have hb2 : (bits .and .i64 ((n : Int) / 2 ^ k) 1 == 1) = true := by rw [bit_i64 hn]; exact hb
        have E : Hid (tm (k + 1) a n = mulS (tm k a n) (sq k a)) := by show _ = _; rw [tm, if_pos hb]
        clear hb
        go_wp2_with fail
        refine (rmul_at (tm k a n) (sq k a) rfl rfl lo lx).mono ?_
        rintro e w' ⟨rfl, rfl⟩
        go_wp2_with fail
        refine (rmul_at (sq k a) (sq k a) rfl rfl lx lx).mono ?_
        rintro e w' ⟨rfl, rfl⟩
        go_wp2
        go_round
        case rel => exact ⟨k + 1, by omega, rfl, by rw [E.out], by go_num⟩
        case measure => simp [intOf]; omega
      · have hb2 : (bits .and .i64 ((n : Int) / 2 ^ k) 1 == 1) = false := by rw [bit_i64 hn]; simpa using hb
        have E : Hid (tm (k + 1) a n = tm k a n) := by show _ = _; rw [tm, if_neg hb]
        clear hb
        go_wp2_with fail
        refine (rmul_at (sq k a) (sq k a) rfl rfl lx lx).mono ?_
        rintro e w' ⟨rfl, rfl⟩
        go_wp2
        go_round
        case rel => exact ⟨k + 1, by omega, rfl, by rw [E.out], by go_num⟩
        case measure => simp [intOf]; omega
    · have e : k = 63 := by omega
      subst e
      have E : Hid (tm 63 a n = powV a (n : Nat)) := tm_powV ha hn
      go_wp2
      go_ret
      exact ⟨ret_int (by rw [E.out]), rfl⟩

theorem rinv_at {x : Int} {w : World} (a : Nat) (hx : x = a) (ha : a < 256) :
    Calls Try.prog 12 #[.int .u8 x] w fun e w' => e = .returned (.tuple #[.int .u8 (invS a : Nat), .int .i64 (zE a : Nat)]) ∧ w' = w := by
  subst hx; exact rinv_any a w ha

theorem rtimes_at {x n : Int} {w : World} (a : Nat) (hx : x = a) (ha : a < 256) (h0 : 0 ≤ n) (hn : n ≤ 9223372036854775807) :
    Calls Try.prog 25 #[.int .u8 x, .int .i64 n] w fun e w' => e = .returned (.int .u8 (powV a n : Nat)) ∧ w' = w := by
  obtain ⟨m, rfl⟩ := Int.eq_ofNat_of_zero_le h0
  subst hx; exact rtimes_any a m w ha (by omega)

set_option maxRecDepth 100000 in
theorem rdiv_any (a b : Nat) (w : World) (ha : a < 256) (hb : b < 256) :
    Calls Try.prog 14 #[.int .u8 a, .int .u8 b] w fun e w' => e = .returned (.tuple #[.int .u8 (mulS a (invS b) : Nat), .int .i64 (zE b : Nat)]) ∧ w' = w := by
  by_cases hb0 : b = 0
  · subst hb0
    have e1 : invS 0 = 0 := rfl
    have e2 := zE_zero
    have e3 := mulS_zero a
    go_enter Try.func14, Try.ntmps14
    go_wp2_with (go_at_call 12; go_must (refine (rinv_at 0 rfl (by omega)).mono ?_); rintro e w' ⟨rfl, rfl⟩)
    go_ret2
    exact ⟨by rw [e1, e3]; rfl, rfl⟩
  · have e2 := zE_pos hb0
    have l := invS_lt b
    go_enter Try.func14, Try.ntmps14
    go_wp2_with (first | (go_at_call 12; go_must (refine (rinv_at b rfl hb).mono ?_); rintro e w' ⟨rfl, rfl⟩) | (go_at_call 20; go_must (refine (rmul_at a (invS b) rfl rfl ha l).mono ?_); rintro e w' ⟨rfl, rfl⟩))
    go_ret2
    exact ⟨by rw [e2]; rfl, rfl⟩

set_option maxRecDepth 100000 in
theorem rpow_any (a : Nat) (n : Int) (w : World) (ha : a < 256) (h1 : -9223372036854775808 ≤ n) (h2 : n ≤ 9223372036854775807) :
    Calls Try.prog 16 #[.int .u8 a, .int .i64 n] w fun e w' => e = .returned (.tuple #[.int .u8 (powV a n : Nat), .int .i64 (powE a n : Nat)]) ∧ w' = w := by
  by_cases hn : 0 ≤ n
  · have e2 : powE a n = 0 := by unfold powE; rw [if_neg (by omega)]
    go_enter Try.func16, Try.ntmps16
    go_wp2_with (go_at_call 25; go_must (refine (rtimes_at a rfl ha hn h2).mono ?_); rintro e w' ⟨rfl, rfl⟩)
    go_ret2
    exact ⟨by rw [e2]; rfl, rfl⟩
  · by_cases ha0 : a = 0
    · subst ha0
      have e1 : powV 0 n = 0 := by unfold powV; rw [if_neg (by omega), if_pos rfl]
      have e2 : powE 0 n = 10 := by unfold powE; rw [if_pos ⟨by omega, rfl⟩]
      have e3 := zE_zero
      go_enter Try.func16, Try.ntmps16
      go_wp2_with (go_at_call 12; go_must (refine (rinv_at 0 rfl (by omega)).mono ?_); rintro e w' ⟨rfl, rfl⟩)
      go_ret2
      exact ⟨by rw [e1, e2]; rfl, rfl⟩
    · have e2 : powE a n = 0 := powE_pos ha0 n
      have e3 := zE_pos ha0
      have l := invS_lt a
      have hb : -255 < n.tmod 255 ∧ n.tmod 255 < 255 := ⟨Int.lt_tmod_of_pos n (by omega), Int.tmod_lt_of_pos n (by omega)⟩
      obtain ⟨b1, b2⟩ := hb
      have b3 : n.tmod 255 ≤ 0 := by
        have h := Int.tmod_nonneg 255 (a := -n) (by omega)
        rw [Int.neg_tmod] at h
        omega
      have hq := Int.mul_tdiv_add_tmod n 255
      have E : Hid (powV (invS a) (-(n.tmod 255)) = powV a n) := powV_inv_pow ha0 _ _ (by omega)
      clear hq
      go_enter Try.func16, Try.ntmps16
      go_wp2_with (first | (go_at_call 12; go_must (refine (rinv_at a rfl ha).mono ?_); rintro e w' ⟨rfl, rfl⟩) | (go_at_call 25; go_must (refine (rtimes_at (invS a) rfl l (by omega) (by omega)).mono ?_); rintro e w' ⟨rfl, rfl⟩))
      go_ret2
      exact ⟨by rw [e2, ← E.out]; rfl, rfl⟩

theorem rdiv_at {x y : Int} {w : World} (a b : Nat) (hx : x = a) (hy : y = b) (ha : a < 256) (hb : b < 256) :
    Calls Try.prog 14 #[.int .u8 x, .int .u8 y] w fun e w' => e = .returned (.tuple #[.int .u8 (mulS a (invS b) : Nat), .int .i64 (zE b : Nat)]) ∧ w' = w := by
  subst hx hy; exact rdiv_any a b w ha hb

end Go.Proofs.Ytniihlgbpncbgaa.Gf
