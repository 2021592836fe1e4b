/-
  PLAIN MATHEMATICS: one column of an inverse by rows' steps, where the matrix and what became of the identity stand side by side.
-/
import Derived.Test.YthfimeddfpchpaaMxCC
import Derived.Test.YthfimeddfpchpaaMxCD
namespace Go.Proofs.Ythfimeddfpchpaa.Gf
set_option linter.unusedVariables false
set_option linter.unusedSimpArgs false
open Go.RowKit

theorem swapK_pl {n C k l : Nat} {W : Mx} : ∀ t, t < n * C → swapK (pl C W) (k * C) (l * C) C t = pl C (fun i j => W (sw l k i) j) t := by
  intro t ht
  have hC := pos_of_lt ht
  have hm := Nat.mod_lt t hC
  show _ = W (sw l k (t / C)) (t % C)
  unfold swapK sw
  by_cases e1 : t / C = k
  · rw [if_pos ((row_iff hC).2 e1), ← e1, row_sub, pl_at _ hm]
    by_cases e2 : t / C = l
    · rw [if_pos e2, ← e2]
    · rw [if_neg e2, if_pos rfl]
  · rw [if_neg (fun h => e1 ((row_iff hC).1 h))]
    by_cases e2 : t / C = l
    · rw [if_pos ((row_iff hC).2 e2), if_pos e2, ← e2, row_sub, pl_at _ hm]
    · rw [if_neg (fun h => e2 ((row_iff hC).1 h)), if_neg e2, if_neg e1]
      rfl

/-- the right half -/
def rt (n : Nat) (W : Mx) : Mx := fun i j => W i (n + j)
theorem gj_wide (n : Nat) (A : List UInt8) : GJ n (en n A) (wideF n A) (rt n (wideF n A)) 0 :=
  (GJ.start n (en n A)).congr (Nat.zero_le _) (fun _ _ _ _ => rfl) (fun i j _ hj => (if_pos hj).symm) (fun i j _ _ => by
    show one i j = if n + j < n then en n A i (n + j) else one i (n + j - n)
    rw [if_neg (by omega), Nat.add_sub_cancel_left])
theorem gj_clear {n k : Nat} {A F : Mx} (h : GJ n A F (rt n F) k) (hk : k < n) (hp : F k k ≠ 0) (j : Nat) (hj : j ≤ n) : GJ n A (clrK F k j) (rt n (clrK F k j)) k := by
  have hiv : iv (F k k) ≠ 0 := fun e => by
    have := mu_iv hp
    rw [e, mu_zero] at this
    cases this
  induction j with
  | zero =>
    refine (h.scale hk hiv).congr (by omega) (fun _ _ _ _ => rfl) (fun i j _ _ => ?_) (fun i j _ _ => ?_)
    · show (if i = k then mu (iv (F k k)) (F i j) else F i j) = clrK F k 0 i j
      unfold clrK
      by_cases e : i = k
      · subst e; rw [if_pos rfl, if_pos rfl, mu_comm]
      · rw [if_neg e, if_neg e, if_neg (Nat.not_lt_zero _)]
    · show (if i = k then mu (iv (F k k)) (F i (n + j)) else F i (n + j)) = clrK F k 0 i (n + j)
      unfold clrK
      by_cases e : i = k
      · subst e; rw [if_pos rfl, if_pos rfl, mu_comm]
      · rw [if_neg e, if_neg e, if_neg (Nat.not_lt_zero _)]
  | succ j ih =>
    have g := ih (by omega)
    by_cases e : j = k
    · subst e; rw [clrK_skip]; exact g
    · have key : ∀ i x, (if i = j then clrK F k j i x ^^^ mu (F j k) (clrK F k j k x) else clrK F k j i x) = clrK F k (j + 1) i x := by
        intro i x
        unfold clrK
        by_cases e2 : i = j
        · subst e2; rw [if_pos rfl, if_neg e, if_neg e, if_neg (by omega), if_pos (by omega), if_pos (by omega), mu_comm]
        · rw [if_neg e2]
          by_cases e3 : i = k
          · rw [if_pos e3, if_pos e3]
          · rw [if_neg e3, if_neg e3]
            by_cases h5 : i < j
            · rw [if_pos h5, if_pos (by omega)]
            · rw [if_neg h5, if_neg (by omega)]
      exact (g.clear (r := j) (x := F j k) (by omega) hk e).congr (by omega) (fun _ _ _ _ => rfl) (fun i x _ _ => key i x) (fun i x _ _ => key i (n + x))
theorem gj_round {n k l : Nat} {A W : Mx} (h : GJ n A W (rt n W) k) (hd : ∀ i, i < k → W i i = 1) (hkl : k ≤ l) (hl : l < n) (hp : W l k ≠ 0) :
    GJ n A (clrK (fun i j => W (sw l k i) j) k n) (rt n (clrK (fun i j => W (sw l k i) j) k n)) (k + 1) ∧ ∀ i, i < k + 1 → clrK (fun i j => W (sw l k i) j) k n i i = 1 := by
  have hswk : sw l k k = l := by
    unfold sw
    by_cases e : k = l
    · rw [if_pos e]; exact e
    · rw [if_neg e, if_pos rfl]
  have g1 : GJ n A (fun i j => W (sw l k i) j) (rt n (fun i j => W (sw l k i) j)) k := h.swap hkl hl
  obtain ⟨F, hF⟩ : ∃ F : Mx, F = fun i j => W (sw l k i) j := ⟨_, rfl⟩
  rw [← hF] at g1 ⊢
  have hpF : F k k ≠ 0 := by rw [hF]; show W (sw l k k) k ≠ 0; rw [hswk]; exact hp
  have one1 : mu (F k k) (iv (F k k)) = 1 := mu_iv hpF
  have g2 := gj_clear g1 (by omega) hpF n (Nat.le_refl _)
  have hkk : clrK F k n k k = 1 := by unfold clrK; rw [if_pos rfl, one1]
  refine ⟨g2.next (fun i hi hik => ?_) (by rw [hkk]; decide), fun i hi => ?_⟩
  · unfold clrK
    rw [if_neg hik, if_pos hi, one1, one_mu, x_self]
  · by_cases e : i = k
    · subst e; exact hkk
    · have hik : i < k := by omega
      have e1 : F k i = 0 := by
        rw [hF]
        show W (sw l k k) i = 0
        rw [hswk]
        exact h.done i hik l hl (by omega)
      have e2 : F i i = 1 := by
        rw [hF]
        show W (sw l k i) i = 1
        rw [sw_low hik hkl]
        exact hd i hik
      unfold clrK
      rw [if_neg e, if_pos (by omega), e1, e2, zero_mu, zero_mu, x_zero]

end Go.Proofs.Ythfimeddfpchpaa.Gf
