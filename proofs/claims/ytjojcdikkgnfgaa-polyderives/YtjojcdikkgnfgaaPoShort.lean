/-
  SMALL CALLEES OF THE STATEMENTS OF LAYER 2 BY CONTRACT: 'short'; a product of two bytes.
-/
import Derived.Test.YtjojcdikkgnfgaaPoShort1
namespace Go.Proofs.Ytjojcdikkgnfgaa.Gf
set_option linter.unusedVariables false
set_option linter.unusedSimpArgs false
open Go.RowKit

set_option maxRecDepth 100000 in
theorem short_yes {a a' : Option Addr} {n m c c' : Nat} {w : World} (h1 : n ≤ 60) (h2 : m ≤ 60) :
    Calls Try.prog 11 #[.slice a n c, .slice a' m c'] w fun e w' => e = .returned (.bool true) ∧ w' = w := by
  have k2 : decide ((m : Int) ≤ 60) = true := by simp; omega
  go_enter Try.func11, Try.ntmps11
  go_wp2
  go_ret
  exact ⟨rfl, rfl⟩
set_option maxRecDepth 100000 in
theorem short_no {a a' : Option Addr} {n m c c' : Nat} {w : World} (h : ¬ (n ≤ 60 ∧ m ≤ 60)) :
    Calls Try.prog 11 #[.slice a n c, .slice a' m c'] w fun e w' => e = .returned (.bool false) ∧ w' = w := by
  by_cases h1 : n ≤ 60
  · have h2 : ¬ m ≤ 60 := fun h2 => h ⟨h1, h2⟩
    have k2 : decide ((m : Int) ≤ 60) = false := by simp; omega
    clear h
    go_enter Try.func11, Try.ntmps11
    go_wp2
    go_ret
    exact ⟨rfl, rfl⟩
  · clear h
    go_enter Try.func11, Try.ntmps11
    go_wp2
    go_ret
    exact ⟨rfl, rfl⟩
end Go.Proofs.Ytjojcdikkgnfgaa.Gf
