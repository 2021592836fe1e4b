/-
  WHICH NUMBERS OF SHARDS MAY BE; points as bytes. No program's function is named here.
-/
import Derived.Test.YtehphjapahdalaaCaMath
import Derived.Test.YtehphjapahdalaaMxRd
namespace Go.Proofs.Ytehphjapahdalaa.Gf
set_option linter.unusedVariables false
set_option linter.unusedSimpArgs false
open Go.RowKit

/-- so many shards may be -/
def OkC (k m : Int) : Prop := 1 ≤ k ∧ 0 ≤ m ∧ k + m ≤ 256
theorem OkC.nat {k m : Int} (h : OkC k m) : ∃ k' m' : Nat, k = (k' : Int) ∧ m = (m' : Int) ∧ 1 ≤ k' ∧ k' + m' ≤ 256 := by
  obtain ⟨h1, h2, h3⟩ := h
  obtain ⟨k', rfl⟩ := Int.eq_ofNat_of_zero_le (show 0 ≤ k by omega)
  obtain ⟨m', rfl⟩ := Int.eq_ofNat_of_zero_le h2
  exact ⟨k', m', rfl, rfl, by omega, by omega⟩
theorem okC_mk {k m : Nat} (h1 : 1 ≤ k) (h2 : k + m ≤ 256) : OkC k m := ⟨by omega, by omega, by omega⟩
theorem pt_toNat {n : Nat} (h : n < 256) : (pt n).toNat = n := by unfold pt; rw [UInt8.toNat_ofNat']; exact Nat.mod_eq_of_lt h
theorem pt_xor {a b : Nat} (ha : a < 256) (hb : b < 256) : bits .xor .u8 (a : Int) (b : Int) = (((pt a ^^^ pt b).toNat : Nat) : Int) := by
  rw [u8_xor_nat _ _ ha hb, UInt8.toNat_xor, pt_toNat ha, pt_toNat hb]

end Go.Proofs.Ytehphjapahdalaa.Gf
