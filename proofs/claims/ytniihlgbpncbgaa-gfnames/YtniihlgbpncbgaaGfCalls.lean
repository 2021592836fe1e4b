/-
  THE FIELD's METHODS BY CONTRACT, on a field that stands in memory: products, powers, inverses, quotients and logarithms are those of the plain mathematics; the world stands, but for draws.
-/
import Derived.Test.YtniihlgbpncbgaaGfNew
namespace Go.Proofs.Ytniihlgbpncbgaa.Gf
set_option linter.unusedVariables false
open Go.RowKit

set_option maxRecDepth 100000 in
theorem filled_any (b : Nat) (w : World) (hF : FieldAt w b) :
    Calls Try.prog 23 #[.pointer (some ⟨b, 0, none⟩)] w fun e w' => e = .returned (.pointer (some ⟨b, 0, none⟩)) ∧ w' = w := by
  have h0 : w.cell? ⟨b, 0, none⟩ = some (.int .u8 1) := by rw [hF.powers 0 (by omega), pw_zero]; rfl
  go_enter Try.func23, Try.ntmps23
  go_wp2
  go_ret
  exact ⟨rfl, rfl⟩

set_option maxRecDepth 100000 in
theorem mul_zero_l (b c : Nat) (w : World) :
    Calls Try.prog 19 #[.pointer (some ⟨b, 0, none⟩), .int .u8 0, .int .u8 c] w fun e w' => e = .returned (.int .u8 0) ∧ w' = w := by
  go_enter Try.func19, Try.ntmps19
  go_wp2
  go_ret
  exact ⟨rfl, rfl⟩

set_option maxRecDepth 100000 in
theorem mul_zero_r (b a : Nat) (w : World) (ha : a ≠ 0) :
    Calls Try.prog 19 #[.pointer (some ⟨b, 0, none⟩), .int .u8 a, .int .u8 0] w fun e w' => e = .returned (.int .u8 0) ∧ w' = w := by
  go_enter Try.func19, Try.ntmps19
  go_wp2
  go_ret
  exact ⟨rfl, rfl⟩

set_option maxRecDepth 100000 in
set_option maxHeartbeats 1000000 in
theorem mul_main (b a c : Nat) (w : World) (hF : FieldAt w b) (ha0 : a ≠ 0) (hc0 : c ≠ 0) (ha : a < 256) (hc : c < 256) :
    Calls Try.prog 19 #[.pointer (some ⟨b, 0, none⟩), .int .u8 a, .int .u8 c] w fun e w' => e = .returned (.int .u8 (pw ((lg a + lg c) % 255) : Nat)) ∧ ∃ n, w' = w.drewN n := by
  have ka : ((a : Int) == 0) = false := by simpa using ha0
  have kc : ((c : Int) == 0) = false := by simpa using hc0
  have h1 := hF.places a ha
  have h2 := hF.places c hc
  have l1 := lg_lt ha
  have l2 := lg_lt hc
  have h3 := hF.powers ((lg a + lg c) % 255) (Nat.mod_lt _ (by decide))
  go_enter Try.func19, Try.ntmps19
  go_wp2_with (go_at_call 23; go_must (refine (filled_any b _ hF).mono ?_); rintro e w' ⟨rfl, rfl⟩)
  go_quiet (fail)
  go_wp2
  go_ret
  exact ⟨rfl, _, rfl⟩

theorem mul_any (b a c : Nat) (w : World) (hF : FieldAt w b) (ha : a < 256) (hc : c < 256) :
    Calls Try.prog 19 #[.pointer (some ⟨b, 0, none⟩), .int .u8 a, .int .u8 c] w fun e w' => e = .returned (.int .u8 (mulS a c : Nat)) ∧ ∃ n, w' = w.drewN n := by
  by_cases ha0 : a = 0
  · subst ha0
    exact (mul_zero_l b c w).mono fun e w' ⟨he, hw⟩ => ⟨by rw [he]; simp [mulS], 0, hw⟩
  · by_cases hc0 : c = 0
    · subst hc0
      exact (mul_zero_r b a w ha0).mono fun e w' ⟨he, hw⟩ => ⟨by rw [he]; simp [mulS], 0, hw⟩
    · exact (mul_main b a c w hF ha0 hc0 ha hc).mono fun e w' ⟨he, hw⟩ => ⟨by rw [he]; simp [mulS, ha0, hc0], hw⟩

/-- n, less multiples of 255. -/
def tn (n : Int) : Nat := (n % 255).toNat
theorem tn_lt (n : Int) : tn n < 255 := by unfold tn; omega
theorem tn_cast (n : Int) : ((tn n : Nat) : Int) = n % 255 := by unfold tn; omega

set_option maxRecDepth 100000 in
theorem turns_any (n : Int) (w : World) (h1 : -9223372036854775808 ≤ n) (h2 : n ≤ 9223372036854775807) :
    Calls Try.prog 24 #[.int .i64 n] w fun e w' => e = .returned (.int .i64 (tn n : Nat)) ∧ w' = w := by
  have hb : -255 < n.tmod 255 ∧ n.tmod 255 < 255 := ⟨Int.lt_tmod_of_pos n (by omega), Int.tmod_lt_of_pos n (by omega)⟩
  have hq := Int.mul_tdiv_add_tmod n 255
  have E : Hid ((n.tmod 255 + 255) % 255 = (tn n : Nat)) := by rw [tn_cast]; show _ = _; omega
  clear hq
  obtain ⟨b1, b2⟩ := hb
  go_enter Try.func24, Try.ntmps24
  go_wp2
  go_ret
  exact ⟨ret_int E.out, rfl⟩

set_option maxRecDepth 100000 in
set_option maxHeartbeats 1000000 in
theorem pow_main (b a : Nat) (n : Int) (w : World) (hF : FieldAt w b) (ha0 : a ≠ 0) (hn0 : n ≠ 0) (ha : a < 256) (h1 : -9223372036854775808 ≤ n) (h2 : n ≤ 9223372036854775807) :
    Calls Try.prog 15 #[.pointer (some ⟨b, 0, none⟩), .int .u8 a, .int .i64 n] w fun e w' => e = .returned (.tuple #[.int .u8 (pw ((lg a * tn n) % 255) : Nat), .int .i64 0]) ∧ ∃ n, w' = w.drewN n := by
  have ka : ((a : Int) == 0) = false := by simpa using ha0
  have kn : (n == 0) = false := by simpa using hn0
  have p1 := hF.places a ha
  have l1 := lg_lt ha
  have l2 := tn_lt n
  have l3 : (lg a : Int) * (tn n : Int) ≤ 64516 := by
    have : lg a * tn n ≤ 254 * 254 := Nat.mul_le_mul (by omega) (by omega)
    have e : ((lg a * tn n : Nat) : Int) = (lg a : Int) * (tn n : Int) := by simp
    omega
  have l4 : 0 ≤ (lg a : Int) * (tn n : Int) := Int.mul_nonneg (by omega) (by omega)
  have p3 := hF.powers ((lg a * tn n) % 255) (Nat.mod_lt _ (by decide))
  go_enter Try.func15, Try.ntmps15
  go_wp2_with (go_at_call 23; go_must (refine (filled_any b _ hF).mono ?_); rintro e w' ⟨rfl, rfl⟩)
  go_quiet ((go_at_call 24; exact Calls.quiet_of_same (turns_any n _ h1 h2)))
  go_wp2
  go_ret2
  exact ⟨rfl, _, rfl⟩

set_option maxRecDepth 100000 in
theorem pow_nought (b a : Nat) (w : World) :
    Calls Try.prog 15 #[.pointer (some ⟨b, 0, none⟩), .int .u8 a, .int .i64 0] w fun e w' => e = .returned (.tuple #[.int .u8 1, .int .i64 0]) ∧ w' = w := by
  go_enter Try.func15, Try.ntmps15
  go_wp2
  go_ret2
  exact ⟨rfl, rfl⟩

set_option maxRecDepth 100000 in
theorem pow_zero_neg (b : Nat) (n : Int) (w : World) (hn : n < 0) :
    Calls Try.prog 15 #[.pointer (some ⟨b, 0, none⟩), .int .u8 0, .int .i64 n] w fun e w' => e = .returned (.tuple #[.int .u8 0, .int .i64 10]) ∧ w' = w := by
  have kn : (n == 0) = false := by simp; omega
  go_enter Try.func15, Try.ntmps15
  go_wp2
  go_ret2
  exact ⟨rfl, rfl⟩

set_option maxRecDepth 100000 in
theorem pow_zero_pos (b : Nat) (n : Int) (w : World) (hn : 0 < n) :
    Calls Try.prog 15 #[.pointer (some ⟨b, 0, none⟩), .int .u8 0, .int .i64 n] w fun e w' => e = .returned (.tuple #[.int .u8 0, .int .i64 0]) ∧ w' = w := by
  have kn : (n == 0) = false := by simp; omega
  go_enter Try.func15, Try.ntmps15
  go_wp2
  go_ret2
  exact ⟨rfl, rfl⟩

def powV (a : Nat) (n : Int) : Nat := if n = 0 then 1 else if a = 0 then 0 else pw ((lg a * tn n) % 255)
def powE (a : Nat) (n : Int) : Nat := if n < 0 ∧ a = 0 then 10 else 0

theorem pow_any (b a : Nat) (n : Int) (w : World) (hF : FieldAt w b) (ha : a < 256) (h1 : -9223372036854775808 ≤ n) (h2 : n ≤ 9223372036854775807) :
    Calls Try.prog 15 #[.pointer (some ⟨b, 0, none⟩), .int .u8 a, .int .i64 n] w fun e w' => e = .returned (.tuple #[.int .u8 (powV a n : Nat), .int .i64 (powE a n : Nat)]) ∧ ∃ n, w' = w.drewN n := by
  by_cases hn0 : n = 0
  · subst hn0
    exact (pow_nought b a w).mono fun e w' ⟨he, hw⟩ => ⟨by rw [he]; simp [powV, powE], 0, hw⟩
  · by_cases ha0 : a = 0
    · subst ha0
      by_cases hneg : n < 0
      · exact (pow_zero_neg b n w hneg).mono fun e w' ⟨he, hw⟩ => ⟨by rw [he]; simp [powV, powE, hn0, hneg], 0, hw⟩
      · exact (pow_zero_pos b n w (by omega)).mono fun e w' ⟨he, hw⟩ => ⟨by rw [he]; simp [powV, powE, hn0, hneg], 0, hw⟩
    · exact (pow_main b a n w hF ha0 hn0 ha h1 h2).mono fun e w' ⟨he, hw⟩ => ⟨by rw [he]; simp [powV, powE, hn0, ha0], hw⟩

set_option maxRecDepth 100000 in
theorem inv_any (b a : Nat) (w : World) (hF : FieldAt w b) (ha : a < 256) :
    Calls Try.prog 11 #[.pointer (some ⟨b, 0, none⟩), .int .u8 a] w fun e w' => e = .returned (.tuple #[.int .u8 (powV a (-1) : Nat), .int .i64 (powE a (-1) : Nat)]) ∧ ∃ n, w' = w.drewN n := by
  go_enter Try.func11, Try.ntmps11
  go_wp2_with (go_at_call 15; go_must (refine (pow_any b a (-1) _ hF ha (by omega) (by omega)).mono ?_); rintro e w' ⟨rfl, nd, rfl⟩)
  go_ret2
  exact ⟨rfl, _, rfl⟩

set_option maxRecDepth 100000 in
theorem div_zero (b a : Nat) (w : World) (hF : FieldAt w b) :
    Calls Try.prog 13 #[.pointer (some ⟨b, 0, none⟩), .int .u8 a, .int .u8 0] w fun e w' => e = .returned (.tuple #[.int .u8 0, .int .i64 10]) ∧ ∃ n, w' = w.drewN n := by
  have e1 : powV 0 (-1) = 0 := rfl
  have e2 : powE 0 (-1) = 10 := rfl
  go_enter Try.func13, Try.ntmps13
  go_wp2_with (go_at_call 11; go_must (refine (inv_any b 0 _ hF (by omega)).mono ?_); rintro e w' ⟨rfl, nd, rfl⟩)
  go_ret2
  exact ⟨rfl, _, rfl⟩

theorem FieldAt.drewN {w : World} {b : Nat} (h : FieldAt w b) (n : Nat) : FieldAt (w.drewN n) b := h.own ((Own.refl w).drewN n)

set_option maxRecDepth 100000 in
theorem div_main (b a c : Nat) (w : World) (hF : FieldAt w b) (ha : a < 256) (hc : c < 256) (hc0 : c ≠ 0) :
    Calls Try.prog 13 #[.pointer (some ⟨b, 0, none⟩), .int .u8 a, .int .u8 c] w fun e w' => e = .returned (.tuple #[.int .u8 (mulS a (powV c (-1)) : Nat), .int .i64 0]) ∧ ∃ n, w' = w.drewN n := by
  have e2 : powE c (-1) = 0 := by simp [powE, hc0]
  have l : powV c (-1) < 256 := by unfold powV; rw [if_neg (by omega), if_neg hc0]; exact pw_lt _
  go_enter Try.func13, Try.ntmps13
  go_wp2_with (go_at_call 11; go_must (refine (inv_any b c _ hF hc).mono ?_); rintro e w' ⟨rfl, nd, rfl⟩)
  go_wp2_with (go_at_call 19; go_must (refine (mul_any b a _ _ (hF.drewN nd) ha l).mono ?_); rintro e w' ⟨rfl, nd2, rfl⟩)
  go_ret2
  exact ⟨rfl, _, rfl⟩

set_option maxRecDepth 100000 in
theorem log_any (b a : Nat) (w : World) (hF : FieldAt w b) (ha : a < 256) :
    Calls Try.prog 17 #[.pointer (some ⟨b, 0, none⟩), .int .u8 a] w fun e w' => e = .returned (.tuple #[.int .i64 (lg a : Nat), .int .i64 (zE a : Nat)]) ∧ w' = w := by
  have l1 := lg_lt ha
  by_cases ha0 : a = 0
  · subst ha0
    rw [lg_zero, zE_zero]
    go_enter Try.func17, Try.ntmps17
    go_wp2
    go_ret2
    exact ⟨rfl, rfl⟩
  · have ka : ((a : Int) == 0) = false := by simpa using ha0
    have p1 := hF.places a ha
    rw [zE_pos ha0]
    go_enter Try.func17, Try.ntmps17
    go_wp2_with (go_at_call 23; go_must (refine (filled_any b _ hF).mono ?_); rintro e w' ⟨rfl, rfl⟩)
    go_ret2
    exact ⟨rfl, rfl⟩

/-! The same, at numbers that are written as they stand (the walk then need not see that a number is a cast one). -/
theorem mul_at {b : Nat} {x y : Int} {w : World} (hF : FieldAt w b) (a c : Nat) (hx : x = a) (hy : y = c) (ha : a < 256) (hc : c < 256) :
    Calls Try.prog 19 #[.pointer (some ⟨b, 0, none⟩), .int .u8 x, .int .u8 y] w fun e w' => e = .returned (.int .u8 (mulS a c : Nat)) ∧ ∃ n, w' = w.drewN n := by
  subst hx hy; exact mul_any b a c w hF ha hc
theorem pow_at {b : Nat} {x : Int} {w : World} (hF : FieldAt w b) (a : Nat) (n : Int) (hx : x = a) (ha : a < 256) (h1 : -9223372036854775808 ≤ n) (h2 : n ≤ 9223372036854775807) :
    Calls Try.prog 15 #[.pointer (some ⟨b, 0, none⟩), .int .u8 x, .int .i64 n] w fun e w' => e = .returned (.tuple #[.int .u8 (powV a n : Nat), .int .i64 (powE a n : Nat)]) ∧ ∃ n, w' = w.drewN n := by
  subst hx; exact pow_any b a n w hF ha h1 h2
theorem inv_at {b : Nat} {x : Int} {w : World} (hF : FieldAt w b) (a : Nat) (hx : x = a) (ha : a < 256) :
    Calls Try.prog 11 #[.pointer (some ⟨b, 0, none⟩), .int .u8 x] w fun e w' => e = .returned (.tuple #[.int .u8 (powV a (-1) : Nat), .int .i64 (powE a (-1) : Nat)]) ∧ ∃ n, w' = w.drewN n := by
  subst hx; exact inv_any b a w hF ha
theorem div_at {b : Nat} {x y : Int} {w : World} (hF : FieldAt w b) (a c : Nat) (hx : x = a) (hy : y = c) (ha : a < 256) (hc : c < 256) (hc0 : c ≠ 0) :
    Calls Try.prog 13 #[.pointer (some ⟨b, 0, none⟩), .int .u8 x, .int .u8 y] w fun e w' => e = .returned (.tuple #[.int .u8 (mulS a (powV c (-1)) : Nat), .int .i64 0]) ∧ ∃ n, w' = w.drewN n := by
  subst hx hy; exact div_main b a c w hF ha hc hc0
theorem log_at {b : Nat} {x : Int} {w : World} (hF : FieldAt w b) (a : Nat) (hx : x = a) (ha : a < 256) :
    Calls Try.prog 17 #[.pointer (some ⟨b, 0, none⟩), .int .u8 x] w fun e w' => e = .returned (.tuple #[.int .i64 (lg a : Nat), .int .i64 (zE a : Nat)]) ∧ w' = w := by
  subst hx; exact log_any b a w hF ha

end Go.Proofs.Ytniihlgbpncbgaa.Gf
