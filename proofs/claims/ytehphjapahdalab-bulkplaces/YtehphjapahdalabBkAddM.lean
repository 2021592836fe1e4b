/-
  SUMS OF SHARDS, place by place. No program's function is named here.
-/
import Derived.Test.YtehphjapahdalabBkMath
namespace Go.Proofs.Ytehphjapahdalab.Gf
set_option linter.unusedVariables false
set_option linter.unusedSimpArgs false
open Go.RowKit

/-- the sums, place by place -/
def addL (A B : List (List UInt8)) : List (List UInt8) := mkL A.length (fun i => upto (fun n => co (ro A i) n ^^^ co (ro B i) n) (ro A i).length)
/-- .. of the first i shards, and of the shard i the first c places -/
def adP (A B : List (List UInt8)) (i c : Nat) : List (List UInt8) := mkL A.length (fun r => upto (fun n => if r < i ∨ (r = i ∧ n < c) then co (ro A r) n ^^^ co (ro B r) n else co (ro A r) n) (ro A r).length)
theorem adP_length (A B : List (List UInt8)) (i c : Nat) : (adP A B i c).length = A.length := mkL_length _ _
theorem adP_row {A B : List (List UInt8)} {i c r : Nat} (h : r < A.length) : (ro (adP A B i c) r).length = (ro A r).length := by unfold adP; rw [ro_mkL h, upto_length]
theorem adP_zero (A B : List (List UInt8)) : adP A B 0 0 = A := by
  refine ro_ext (adP_length _ _ _ _) fun r hr => ?_
  rw [adP_length] at hr
  unfold adP
  rw [ro_mkL hr]
  conv => rhs; rw [← upto_co (ro A r)]
  exact upto_congr fun n hn => if_neg (by omega)
theorem adP_all {A B : List (List UInt8)} {i : Nat} (h : A.length ≤ i ∨ B.length ≤ i) : adP A B i 0 = addL A B := by
  refine mkL_congr fun r hr => upto_congr fun n hn => ?_
  by_cases e : r < i
  · exact if_pos (Or.inl e)
  · rw [if_neg (by omega), ro_ge (L := B) (by omega)]
    show _ = _ ^^^ (0 : UInt8)
    rw [x_zero]
theorem adP_next {A B : List (List UInt8)} {i c : Nat} (hi : i < A.length) (h : (ro A i).length ≤ c ∨ (ro B i).length ≤ c) : adP A B i c = adP A B (i + 1) 0 := by
  refine mkL_congr fun r hr => upto_congr fun n hn => ?_
  by_cases e : r < i
  · rw [if_pos (Or.inl e), if_pos (Or.inl (by omega))]
  · by_cases e2 : r = i
    · subst e2
      rw [if_pos (show r < r + 1 ∨ _ from Or.inl (by omega))]
      by_cases e3 : n < c
      · rw [if_pos (Or.inr ⟨rfl, e3⟩)]
      · rw [if_neg (by omega), co_ge (p := ro B r) (by omega), x_zero]
    · rw [if_neg (by omega), if_neg (by omega)]
theorem adP_at {A B : List (List UInt8)} {i c : Nat} (hi : i < A.length) (hc : c < (ro A i).length) : co (ro (adP A B i c) i) c = co (ro A i) c := by
  unfold adP
  rw [ro_mkL hi, co_upto_in hc]
  exact if_neg (by omega)
theorem adP_step {A B : List (List UInt8)} {i c : Nat} (hi : i < A.length) (hc : c < (ro A i).length) : setL (adP A B i c) i c (co (ro A i) c ^^^ co (ro B i) c) = adP A B i (c + 1) := by
  refine ro_ext (by rw [setL_length, adP_length, adP_length]) fun r hr => ?_
  rw [setL_length, adP_length] at hr
  unfold setL
  rw [ro_set (by rw [adP_length]; exact hi)]
  by_cases e : r = i
  · subst e
    rw [if_pos rfl]
    refine co_ext (by rw [List.length_set, adP_row hr, adP_row hr]) fun n hn => ?_
    rw [List.length_set, adP_row hr] at hn
    rw [co_at (by rw [adP_row hr]; exact hc)]
    unfold adP
    rw [ro_mkL hr, ro_mkL hr, co_upto_in hn, co_upto_in hn]
    by_cases e2 : n = c
    · subst e2; rw [if_pos rfl, if_pos (Or.inr ⟨rfl, by omega⟩)]
    · rw [if_neg e2]
      by_cases e3 : n < c
      · rw [if_pos (Or.inr ⟨rfl, e3⟩), if_pos (Or.inr ⟨rfl, by omega⟩)]
      · rw [if_neg (by omega), if_neg (by omega)]
  · rw [if_neg e]
    unfold adP
    rw [ro_mkL hr, ro_mkL hr]
    refine upto_congr fun n hn => ?_
    by_cases e3 : r < i
    · rw [if_pos (Or.inl e3), if_pos (Or.inl e3)]
    · rw [if_neg (by omega), if_neg (by omega)]

end Go.Proofs.Ytehphjapahdalab.Gf
