/-
  WHAT UPDATING ANSWERS, by its arguments. No program's function is named here.
-/
import Derived.Test.YtehphjapahdalaaBkX
import Derived.Test.YtehphjapahdalaaBkPut
namespace Go.Proofs.Ytehphjapahdalaa.Gf
set_option linter.unusedVariables false
set_option linter.unusedSimpArgs false
open Go.RowKit

def OkU (k m j : Int) (p q : List UInt8) (A : List (List UInt8)) : Prop := (A.length : Int) = m ∧ Even (A ++ [p, q]) ∧ 0 ≤ j ∧ j < k
instance (k m j : Int) (p q : List UInt8) (A : List (List UInt8)) : Decidable (OkU k m j p q A) := inferInstanceAs (Decidable ((A.length : Int) = m ∧ Even (A ++ [p, q]) ∧ 0 ≤ j ∧ j < k))
def updX (k m j : Int) (p q : List UInt8) (A : List (List UInt8)) : Int := if OkC k m then (if OkU k m j p q A then 0 else 60) else 50
def updY (k m j : Int) (p q : List UInt8) (A : List (List UInt8)) : List (List UInt8) := if OkC k m ∧ OkU k m j p q A then updL m.toNat (parF k.toNat) j.toNat p q A else []
theorem updX_bad {k m j : Int} {p q : List UInt8} {A : List (List UInt8)} (h : ¬ OkC k m) : updX k m j p q A = 50 ∧ updY k m j p q A = [] := ⟨if_neg h, if_neg fun e => h e.1⟩
theorem updX_shard {k m j : Int} {p q : List UInt8} {A : List (List UInt8)} (h : OkC k m) (h2 : ¬ OkU k m j p q A) : updX k m j p q A = 60 ∧ updY k m j p q A = [] := ⟨by unfold updX; rw [if_pos h, if_neg h2], if_neg fun e => h2 e.2⟩
theorem updX_ok {k m j : Int} {p q : List UInt8} {A : List (List UInt8)} (h : OkC k m) (h2 : OkU k m j p q A) : updX k m j p q A = 0 ∧ updY k m j p q A = updL m.toNat (parF k.toNat) j.toNat p q A := ⟨by unfold updX; rw [if_pos h, if_pos h2], if_pos ⟨h, h2⟩⟩
theorem small_mem {L : List (List UInt8)} (h : L.length ≤ 300) (h2 : ∀ p ∈ L, p.length ≤ 300) : Small L := ⟨h, fun i => by
  by_cases e : i < L.length
  · rw [ro_lt e]; exact h2 _ (List.getElem_mem e)
  · rw [ro_ge (by omega)]; simp⟩

end Go.Proofs.Ytehphjapahdalaa.Gf
