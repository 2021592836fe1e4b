/-
  INVERSES AND PRODUCTS BY CONTRACT, whatever the matrix: an inverse, or an error.
-/
import Derived.Test.YtljbecalobnkbaaMxCode
namespace Go.Proofs.Ytljbecalobnkbaa.Gf
set_option linter.unusedVariables false
open Go.RowKit

theorem minv_some {b : Nat} {va : Value} {r c : Nat} {A : List UInt8} {w : World} (hF : FieldAt w b) (ha : RdM w va r c A) (hok : OkM r c A) :
    Calls Try.prog 14 #[.pointer (some ⟨b, 0, none⟩), va] w fun e w' => (∃ V, r = c ∧ IsInv r (en r A) V ∧ MakesM w r r V e w') ∨ (∃ x : Int, (x != 0) = true ∧ MakesErr w x e w') := by
  by_cases h : r = c
  · subst h
    refine (minv_ok hF ha hok).mono ?_
    rintro e w' (⟨V, hV, hm⟩ | ⟨_, hm⟩)
    · exact Or.inl ⟨V, rfl, hV, hm⟩
    · exact Or.inr ⟨31, by decide, hm⟩
  · refine (minv_bad hF ha (fun hh => h (by exact_mod_cast hh.2))).mono ?_
    intro e w' hm
    exact Or.inr ⟨30, by decide, hm⟩

end Go.Proofs.Ytljbecalobnkbaa.Gf
