/-
  WHAT ENCODING AND ASKING ANSWER, by k, m and the shards: errors and shards. No program's function is named here.
-/
import Derived.Test.YtehphjapahdalaaBkMath
import Derived.Test.YtehphjapahdalaaCaOk
namespace Go.Proofs.Ytehphjapahdalaa.Gf
set_option linter.unusedVariables false
set_option linter.unusedSimpArgs false
open Go.RowKit

instance (k m : Int) : Decidable (OkC k m) := inferInstanceAs (Decidable (1 ≤ k ∧ 0 ≤ m ∧ k + m ≤ 256))
def encX (k m : Int) (L : List (List UInt8)) : Int := if OkC k m then (if (L.length : Int) = k ∧ Even L then 0 else 60) else 50
def encR (k m : Int) (L : List (List UInt8)) : List (List UInt8) := if OkC k m ∧ (L.length : Int) = k ∧ Even L then encL m.toNat k.toNat (parF k.toNat) L else []
theorem encX_bad {k m : Int} {L : List (List UInt8)} (h : ¬ OkC k m) : encX k m L = 50 ∧ encR k m L = [] := ⟨if_neg h, if_neg fun e => h e.1⟩
theorem encX_shard {k m : Int} {L : List (List UInt8)} (h : OkC k m) (h2 : ¬ ((L.length : Int) = k ∧ Even L)) : encX k m L = 60 ∧ encR k m L = [] := ⟨by unfold encX; rw [if_pos h, if_neg h2], if_neg fun e => h2 e.2⟩
theorem encX_ok {k m : Nat} {L : List (List UInt8)} (h : OkC k m) (h2 : (L.length : Int) = k) (h3 : Even L) : encX k m L = 0 ∧ encR k m L = encL m k (parF k) L := ⟨by unfold encX; rw [if_pos h, if_pos ⟨h2, h3⟩], if_pos ⟨h, h2, h3⟩⟩
/-- which of the three -/
theorem enc_cases (k m : Int) (L : List (List UInt8)) : (¬ OkC k m) ∨ (OkC k m ∧ ¬ ((L.length : Int) = k ∧ Even L)) ∨ (OkC k m ∧ (L.length : Int) = k ∧ Even L) := by
  by_cases h : OkC k m
  · by_cases h2 : (L.length : Int) = k ∧ Even L
    · exact Or.inr (Or.inr ⟨h, h2⟩)
    · exact Or.inr (Or.inl ⟨h, h2⟩)
  · exact Or.inl h
def fitX (k m : Int) (L : List (List UInt8)) : Int := if OkC k m then (if (L.length : Int) = k + m ∧ Even L then 0 else 60) else 50
def fitB (k m : Int) (L : List (List UInt8)) : Bool := decide (OkC k m ∧ (L.length : Int) = k + m ∧ Even L ∧ encL m.toNat k.toNat (parF k.toNat) (L.take k.toNat) = L)
theorem fitX_bad {k m : Int} {L : List (List UInt8)} (h : ¬ OkC k m) : fitX k m L = 50 ∧ fitB k m L = false := ⟨if_neg h, decide_eq_false fun e => h e.1⟩
theorem fitX_shard {k m : Int} {L : List (List UInt8)} (h : OkC k m) (h2 : ¬ ((L.length : Int) = k + m ∧ Even L)) : fitX k m L = 60 ∧ fitB k m L = false := ⟨by unfold fitX; rw [if_pos h, if_neg h2], decide_eq_false fun e => h2 ⟨e.2.1, e.2.2.1⟩⟩
theorem fitX_ok {k m : Nat} {L : List (List UInt8)} (h : OkC k m) (h2 : (L.length : Int) = k + m) (h3 : Even L) : fitX k m L = 0 ∧ fitB k m L = sameL (encL m k (parF k) (L.take k)) L := by
  refine ⟨by unfold fitX; rw [if_pos h, if_pos ⟨h2, h3⟩], ?_⟩
  unfold fitB sameL
  rw [Bool.eq_iff_iff, decide_eq_true_eq, decide_eq_true_eq]
  exact ⟨fun e => e.2.2.2, fun e => ⟨h, h2, h3, e⟩⟩
theorem fit_cases (k m : Int) (L : List (List UInt8)) : (¬ OkC k m) ∨ (OkC k m ∧ ¬ ((L.length : Int) = k + m ∧ Even L)) ∨ (OkC k m ∧ (L.length : Int) = k + m ∧ Even L) := by
  by_cases h : OkC k m
  · by_cases h2 : (L.length : Int) = k + m ∧ Even L
    · exact Or.inr (Or.inr ⟨h, h2⟩)
    · exact Or.inr (Or.inl ⟨h, h2⟩)
  · exact Or.inl h
theorem even_take {L : List (List UInt8)} (h : Even L) (k : Nat) : Even (L.take k) := fun i hi => by
  rw [List.length_take] at hi
  rw [ro_take (by omega), ro_take (by omega)]
  exact h i (by omega)
theorem small_take {L : List (List UInt8)} (h : Small L) (k : Nat) : Small (L.take k) := ⟨by rw [List.length_take]; have := h.1; omega, fun i => by
  by_cases e : i < k
  · rw [ro_take e]; exact h.2 i
  · rw [ro_ge (by rw [List.length_take]; omega)]; simp⟩

end Go.Proofs.Ytehphjapahdalaa.Gf
