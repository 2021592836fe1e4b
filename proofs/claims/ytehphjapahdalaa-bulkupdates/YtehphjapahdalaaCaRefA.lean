/-
  THE DOCUMENT's ANSWER FOR LAYER 5 (package aumbryref05) BY CONTRACT: 'Check', 'part', 'same'.
-/
import Derived.Test.YtehphjapahdalaaCaOk
import Derived.Test.YtehphjapahdalaaGfRefInv
namespace Go.Proofs.Ytehphjapahdalaa.Gf
set_option linter.unusedVariables false
set_option linter.unusedSimpArgs false
open Go.RowKit

set_option maxRecDepth 100000 in
set_option maxHeartbeats 1000000 in
theorem rccheck_ok {k m : Int} (w : World) (h : OkC k m) : Calls Try.prog 31 #[.int .i64 k, .int .i64 m] w fun e w' => e = .returned (.int .i64 0) ∧ w' = w := by
  obtain ⟨h1, h2, h3⟩ := h
  have k1 : decide (k < 1) = false := decide_eq_false (by omega)
  have k2 : decide (k > 256) = false := decide_eq_false (by omega)
  have k3 : decide (m < 0) = false := decide_eq_false (by omega)
  have k4 : decide (m > 256) = false := decide_eq_false (by omega)
  have k5 : decide (k + m > 256) = false := decide_eq_false (by omega)
  have gw : IntKind.i64.wrap (k + m) = k + m := by rw [IntKind.wrap_i64]; omega
  go_enter Try.func31, Try.ntmps31
  go_wp2
  go_ret
  exact ⟨rfl, rfl⟩
set_option maxRecDepth 100000 in
set_option maxHeartbeats 1000000 in
theorem rccheck_bad {k m : Int} (w : World) (h : ¬ OkC k m) : Calls Try.prog 31 #[.int .i64 k, .int .i64 m] w fun e w' => e = .returned (.int .i64 50) ∧ w' = w := by
  by_cases h1 : k < 1
  · have k1 : decide (k < 1) = true := decide_eq_true h1
    clear h h1
    go_enter Try.func31, Try.ntmps31
    go_wp2
    go_ret
    exact ⟨rfl, rfl⟩
  have k1 : decide (k < 1) = false := decide_eq_false h1
  by_cases h2 : k > 256
  · have k2 : decide (k > 256) = true := decide_eq_true h2
    clear h h1 h2
    go_enter Try.func31, Try.ntmps31
    go_wp2
    go_ret
    exact ⟨rfl, rfl⟩
  have k2 : decide (k > 256) = false := decide_eq_false h2
  by_cases h3 : m < 0
  · have k3 : decide (m < 0) = true := decide_eq_true h3
    clear h h1 h2 h3
    go_enter Try.func31, Try.ntmps31
    go_wp2
    go_ret
    exact ⟨rfl, rfl⟩
  have k3 : decide (m < 0) = false := decide_eq_false h3
  by_cases h4 : m > 256
  · have k4 : decide (m > 256) = true := decide_eq_true h4
    clear h h1 h2 h3 h4
    go_enter Try.func31, Try.ntmps31
    go_wp2
    go_ret
    exact ⟨rfl, rfl⟩
  have k4 : decide (m > 256) = false := decide_eq_false h4
  have k5 : decide (k + m > 256) = true := decide_eq_true (by
    by_cases h5 : k + m ≤ 256
    · exact absurd ⟨by omega, by omega, h5⟩ h
    · omega)
  have gw : IntKind.i64.wrap (k + m) = k + m := by rw [IntKind.wrap_i64]; omega
  clear h h1 h2 h3 h4
  go_enter Try.func31, Try.ntmps31
  go_wp2
  go_ret
  exact ⟨rfl, rfl⟩

set_option maxRecDepth 100000 in
set_option maxHeartbeats 1000000 in
theorem rpart_any {k i j : Nat} (w : World) (hk : k + i < 256) (hj : j < 256) {x y z : Int} (hx : x = (k : Int)) (hy : y = (i : Int)) (hz : z = (j : Int)) :
    Calls Try.prog 38 #[.int .i64 x, .int .i64 y, .int .i64 z] w fun e w' => e = .returned (.int .u8 ((parF k i j).toNat : Nat)) ∧ w' = w := by
  subst hx hy hz
  obtain ⟨t, ht⟩ : ∃ t, Hid (t = k + i) := ⟨_, rfl⟩
  have g0 : (k : Int) + (i : Int) = (t : Int) := by have := ht.out; omega
  have ht2 : t < 256 := by have := ht.out; omega
  have X := pt_xor ht2 hj
  have HP : Hid (parF k i j = iv (pt t ^^^ pt j)) := by show _ = _; rw [ht.out]; rfl
  have m1 : (t : Int) % 256 = (t : Int) := by omega
  have m2 : (j : Int) % 256 = (j : Int) := by omega
  obtain ⟨u, hu⟩ : ∃ u, Hid (u = pt t ^^^ pt j) := ⟨_, rfl⟩
  rw [← hu.out] at X HP
  go_enter Try.func38, Try.ntmps38
  go_wp2_with fail
  refine (rinv_at u.toNat rfl (u8_lt u)).mono ?_
  rintro e w' ⟨rfl, rfl⟩
  go_wp2
  go_ret
  exact ⟨by rw [HP.out, iv_toNat]; rfl, rfl⟩

end Go.Proofs.Ytehphjapahdalaa.Gf
