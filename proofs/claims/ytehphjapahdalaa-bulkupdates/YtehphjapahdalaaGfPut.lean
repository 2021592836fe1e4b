/-
  TWO CALLEES OF gf.New BY CONTRACT: 'double' is the product with 2; the closure 'put' writes a power and its place, and doubles the variable 'power'.
-/
import Derived.Test.YtehphjapahdalaaGfMath
import Derived.Test.YtehphjapahdalaaGfOwn
namespace Go.Proofs.Ytehphjapahdalaa.Gf
set_option linter.unusedVariables false
open Go.RowKit

theorem dbl_hi {a : Nat} (h : a < 256) (hh : ¬ a < 128) : bits .xor .u8 ((a : Int) * 2 % 256) 29 = (dbl a : Nat) := by
  have e : ((a : Int) * 2 % 256) = ((2 * a - 256 : Nat) : Int) := by omega
  rw [e, show (29 : Int) = ((29 : Nat) : Int) from rfl, u8_xor_nat _ _ (by omega) (by omega)]
  have := of_decide_eq_true (allB_out (n := 256) (f := fun k => decide (¬ k < 128 → (2 * k - 256) ^^^ 29 = dbl k)) (by kernel_rfl) a h) hh
  rw [this]
set_option maxRecDepth 100000 in
theorem double_any (a : Nat) (h : a < 256) (w : World) :
    Calls Try.prog 22 #[.int .u8 a] w fun e w' => e = .returned (.int .u8 (dbl a)) ∧ w' = w := by
  by_cases hlt : a < 128
  · have e : ((a : Int) * 2) = (dbl a : Nat) := by unfold dbl; rw [if_pos hlt]; omega
    have E : Hid (((a : Int) * 2) = (dbl a : Nat)) := e
    clear e
    go_enter Try.func22, Try.ntmps22
    go_wp2
    go_ret
    exact ⟨ret_int E.out, rfl⟩
  · have E : Hid (bits .xor .u8 ((a : Int) * 2 % 256) 29 = (dbl a : Nat)) := dbl_hi h hlt
    go_enter Try.func22, Try.ntmps22
    go_wp2
    go_ret
    exact ⟨ret_int E.out, rfl⟩

set_option maxHeartbeats 1000000 in
theorem put_any (b bf bp n p : Nat) (w : World) (hn : n < 255) (hp : p < 256) (hbf : b ≠ bf) (hbp : b ≠ bp) (hfp : bf ≠ bp)
    (cf : w.cell? ⟨bf, 0, none⟩ = some (.pointer (some ⟨b, 0, none⟩))) (cp : w.cell? ⟨bp, 0, none⟩ = some (.int .u8 p)) (zp : w.frozen? ⟨bp, 0, none⟩ = false)
    (v1 v2 : Value) (c1 : w.cell? ⟨b, n, none⟩ = some v1) (c2 : w.cell? ⟨b, 255 + p, none⟩ = some v2) (z1 : w.frozen? ⟨b, n, none⟩ = false) (z2 : w.frozen? ⟨b, 255 + p, none⟩ = false) :
    Calls Try.prog 21 #[.int .i64 n, .pointer (some ⟨bp, 0, none⟩), .pointer (some ⟨bf, 0, none⟩)] w fun e w' => e = .returned (.tuple #[]) ∧
      w' = (((w.setCell ⟨b, n, none⟩ (.int .u8 p)).setCell ⟨b, 255 + p, none⟩ (.int .u8 n)).setCell ⟨bp, 0, none⟩ (.int .u8 (dbl p))).drew.drew := by
  go_enter Try.func21, Try.ntmps21
  go_wp2
  go_region
  go_wp2
  go_region
  go_wp2_with (go_at_call 22; refine (double_any _ hp _).mono ?_; rintro e w' ⟨rfl, rfl⟩)
  go_end0
  exact ⟨rfl, rfl⟩

end Go.Proofs.Ytehphjapahdalaa.Gf
