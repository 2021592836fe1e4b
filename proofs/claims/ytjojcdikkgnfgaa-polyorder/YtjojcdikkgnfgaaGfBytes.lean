/-
  SMALL LEMMAS for the statements' walks: a byte's number as a natural number; an int's bounds.
-/
import Derived.WalkKit
import Derived.OpenShut
namespace Go.Proofs.Ytjojcdikkgnfgaa.Gf
set_option linter.unusedVariables false
open Go.RowKit

theorem u8_nat {x : Int} (h : (Lit.int .u8 x).wf = true) : ∃ a : Nat, x = a ∧ a < 256 := by
  have := bounds_u8 h
  exact ⟨x.toNat, by omega, by omega⟩

theorem i64_bounds {x : Int} (h : (Lit.int .i64 x).wf = true) : -9223372036854775808 ≤ x ∧ x ≤ 9223372036854775807 := by
  have := bounds_i64 h
  omega

end Go.Proofs.Ytjojcdikkgnfgaa.Gf
