/-
  THE DOCUMENT's ANSWER FOR LAYER 3 (package aumbryref03) BY CONTRACT: 'Check'.
-/
import Derived.Test.YtljbecalobnkbaaMxRd
import Derived.Test.YtljbecalobnkbaaPoInfo
namespace Go.Proofs.Ytljbecalobnkbaa.Gf
set_option linter.unusedVariables false
set_option linter.unusedSimpArgs false
open Go.RowKit

set_option maxRecDepth 100000 in
set_option maxHeartbeats 1000000 in
theorem rcheck_ok {v : Value} {r c : Int} {A : List UInt8} {w : World} (h : RdM w v r c A) (hok : OkM r c A) :
    Calls Try.prog 22 #[v] w fun e w' => e = .returned (.int .i64 0) ∧ Below w.heap.size w w' := by
  obtain ⟨vs, rfl, hr⟩ := h
  obtain ⟨a, cap, rfl⟩ := hr.form
  obtain ⟨h1, h2, h3, h4, h5⟩ := hok
  have k1 : decide (r < 0) = false := by simp; omega
  have k2 : decide (r > 256) = false := by simp; omega
  have k3 : decide (c < 0) = false := by simp; omega
  have k4 : decide (c > 256) = false := by simp; omega
  generalize A.length = n at *
  have gw : IntKind.i64.wrap (r * c) = (n : Int) := by
    rw [← h5, IntKind.wrap_i64]
    have : r * c ≤ 256 * 256 := Int.mul_le_mul h2 h4 h3 (by decide)
    omega
  clear hr h5
  go_enter Try.func22, Try.ntmps22
  go_wp2
  go_ret
  exact ⟨rfl, by repeat (first | exact Below.refl _ _ | apply below_lit)⟩

set_option maxRecDepth 100000 in
set_option maxHeartbeats 1000000 in
theorem rcheck_bad {v : Value} {r c : Int} {A : List UInt8} {w : World} (h : RdM w v r c A) (hok : ¬ OkM r c A) :
    Calls Try.prog 22 #[v] w fun e w' => e = .returned (.int .i64 30) ∧ Below w.heap.size w w' := by
  obtain ⟨vs, rfl, hr⟩ := h
  obtain ⟨a, cap, rfl⟩ := hr.form
  have hl := hr.len
  clear hr
  by_cases h1 : r < 0
  · clear hok
    go_enter Try.func22, Try.ntmps22
    go_wp2
    go_ret
    exact ⟨rfl, by repeat (first | exact Below.refl _ _ | apply below_lit)⟩
  by_cases h2 : r > 256
  · clear hok
    go_enter Try.func22, Try.ntmps22
    go_wp2
    go_ret
    exact ⟨rfl, by repeat (first | exact Below.refl _ _ | apply below_lit)⟩
  by_cases h3 : c < 0
  · clear hok
    go_enter Try.func22, Try.ntmps22
    go_wp2
    go_ret
    exact ⟨rfl, by repeat (first | exact Below.refl _ _ | apply below_lit)⟩
  by_cases h4 : c > 256
  · clear hok
    go_enter Try.func22, Try.ntmps22
    go_wp2
    go_ret
    exact ⟨rfl, by repeat (first | exact Below.refl _ _ | apply below_lit)⟩
  · have h5 : ¬ (A.length : Int) = r * c := fun h5 => hok ⟨by omega, by omega, by omega, by omega, h5⟩
    clear hok
    generalize A.length = n at *
    obtain ⟨m, hm⟩ : ∃ m, m = r * c := ⟨_, rfl⟩
    have gw : IntKind.i64.wrap (r * c) = m := by
      rw [hm, IntKind.wrap_i64]
      have : r * c ≤ 256 * 256 := Int.mul_le_mul (by omega) (by omega) (by omega) (by decide)
      have : 0 ≤ r * c := Int.mul_nonneg (by omega) (by omega)
      omega
    rw [← hm] at h5
    clear hm
    have k5 : ((n : Int) != m) = true := by simpa using h5
    go_enter Try.func22, Try.ntmps22
    go_wp2
    go_ret
    exact ⟨rfl, by repeat (first | exact Below.refl _ _ | apply below_lit)⟩

end Go.Proofs.Ytljbecalobnkbaa.Gf
