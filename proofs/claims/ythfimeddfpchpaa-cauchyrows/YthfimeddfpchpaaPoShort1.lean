/-
  SMALL CALLEES OF THE STATEMENTS OF LAYER 2 BY CONTRACT: a product of two bytes.
-/
import Derived.Test.YthfimeddfpchpaaPoApi
import Derived.Test.YthfimeddfpchpaaGfMul
namespace Go.Proofs.Ythfimeddfpchpaa.Gf
set_option linter.unusedVariables false
set_option linter.unusedSimpArgs false
open Go.RowKit

theorem u8_byte {x : Int} (h : (Lit.int .u8 x).wf = true) : ∃ a : UInt8, x = ((a.toNat : Nat) : Int) := by
  have := bounds_u8 h
  exact ⟨UInt8.ofNat x.toNat, by rw [ofNat_u8 (by omega)]; omega⟩
theorem rd_nil_any {w : World} : Rd w (.slice none 0 0) [] := Or.inl ⟨none, 0, rfl, rfl, Nat.zero_le _, fun _ => rfl⟩
theorem fmu_at {b : Nat} {w : World} (hF : FieldAt w b) (a c : UInt8) {x y : Int} (hx : x = ((a.toNat : Nat) : Int)) (hy : y = ((c.toNat : Nat) : Int)) :
    Calls Try.prog 25 #[.pointer (some ⟨b, 0, none⟩), .int .u8 x, .int .u8 y] w fun e w' => e = .returned (.int .u8 ((mu a c).toNat : Nat)) ∧ Below w.heap.size w w' := by
  rw [mu_toNat]
  exact (mul_at hF a.toNat c.toNat hx hy (u8_lt a) (u8_lt c)).mono fun e w' ⟨he, n, hw⟩ => ⟨he, by rw [hw]; exact below_draws w n⟩

end Go.Proofs.Ythfimeddfpchpaa.Gf
