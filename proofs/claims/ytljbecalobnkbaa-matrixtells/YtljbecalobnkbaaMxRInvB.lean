/-
  PLAIN MATHEMATICS: one column of an inverse by rows' steps, as the document's answer takes them (no row is scaled till the end).
-/
import Derived.Test.YtljbecalobnkbaaMxGJ
import Derived.Test.YtljbecalobnkbaaMxRInvA
namespace Go.Proofs.Ytljbecalobnkbaa.Gf
set_option linter.unusedVariables false
set_option linter.unusedSimpArgs false
open Go.RowKit

def clr2 (F : Mx) (c k : Nat) : Mx := fun i j => if i = c then F c j else if i < k then clearL (F i) (F c) c j else F i j
theorem clr2_zero (F : Mx) (c : Nat) : clr2 F c 0 = F := by
  funext i j
  unfold clr2
  by_cases e : i = c
  · rw [if_pos e, e]
  · rw [if_neg e, if_neg (Nat.not_lt_zero _)]
theorem clr2_skip (F : Mx) (c : Nat) : clr2 F c (c + 1) = clr2 F c c := by
  funext i j
  unfold clr2
  by_cases e : i = c
  · rw [if_pos e, if_pos e]
  · rw [if_neg e, if_neg e]
    by_cases h : i < c
    · rw [if_pos h, if_pos (by omega)]
    · rw [if_neg h, if_neg (by omega)]
theorem clr2_other {F : Mx} {c k i : Nat} (hi : i ≠ k) (j : Nat) : clr2 F c k i j = clr2 F c (k + 1) i j := by
  unfold clr2
  by_cases e : i = c
  · rw [if_pos e, if_pos e]
  · rw [if_neg e, if_neg e]
    by_cases h : i < k
    · rw [if_pos h, if_pos (by omega)]
    · rw [if_neg h, if_neg (by omega)]
theorem clr2_row {F : Mx} {c k : Nat} (hk : k ≠ c) : clr2 F c k k = F k := by
  funext j; unfold clr2; rw [if_neg hk, if_neg (by omega)]
theorem clr2_piv (F : Mx) (c k : Nat) : clr2 F c k c = F c := by
  funext j; unfold clr2; rw [if_pos rfl]
theorem clr2_new {F : Mx} {c k : Nat} (hk : k ≠ c) (j : Nat) : clr2 F c (k + 1) k j = clearL (F k) (F c) c j := by
  unfold clr2; rw [if_neg hk, if_pos (by omega)]
theorem gj2_clear {n k : Nat} {A F : Mx} (h : GJ n A F (rt n F) k) (hk : k < n) (j : Nat) (hj : j ≤ n) : GJ n A (clr2 F k j) (rt n (clr2 F k j)) k := by
  induction j with
  | zero => rw [clr2_zero]; exact h
  | succ j ih =>
    have g := ih (by omega)
    by_cases e : j = k
    · subst e; rw [clr2_skip]; exact g
    · have key : ∀ i x, (if i = j then clr2 F k j i x ^^^ mu (mu (F j k) (iv (F k k))) (clr2 F k j k x) else clr2 F k j i x) = clr2 F k (j + 1) i x := by
        intro i x
        by_cases e2 : i = j
        · subst e2; rw [if_pos rfl, clr2_row e, clr2_piv, clr2_new e]; rfl
        · rw [if_neg e2, clr2_other e2]
      exact (g.clear (r := j) (x := mu (F j k) (iv (F k k))) (by omega) hk e).congr (by omega) (fun _ _ _ _ => rfl) (fun i x _ _ => key i x) (fun i x _ _ => key i (n + x))
theorem sw_self {l k : Nat} : sw l k k = l := by
  unfold sw
  by_cases e : k = l
  · rw [if_pos e]; exact e
  · rw [if_neg e, if_pos rfl]
theorem gj2_round {n k l : Nat} {A W : Mx} (h : GJ n A W (rt n W) k) (hkl : k ≤ l) (hl : l < n) (hp : W l k ≠ 0) :
    GJ n A (clr2 (fun i j => W (sw l k i) j) k n) (rt n (clr2 (fun i j => W (sw l k i) j) k n)) (k + 1) := by
  have g1 : GJ n A (fun i j => W (sw l k i) j) (rt n (fun i j => W (sw l k i) j)) k := h.swap hkl hl
  obtain ⟨F, hF⟩ : ∃ F : Mx, F = fun i j => W (sw l k i) j := ⟨_, rfl⟩
  rw [← hF] at g1 ⊢
  have hpF : F k k ≠ 0 := by rw [hF]; show W (sw l k k) k ≠ 0; rw [sw_self]; exact hp
  refine (gj2_clear g1 (by omega) n (Nat.le_refl _)).next (fun i hi hik => ?_) (by rw [clr2_piv]; exact hpF)
  unfold clr2 clearL
  rw [if_neg hik, if_pos hi, mu_assoc, mu_comm (iv (F k k)) (F k k), mu_iv hpF, mu_one, x_self]
/-- rows that were widened by the identity's -/
def wrow (n : Nat) (A : List UInt8) (k i : Nat) : List UInt8 := if i < k then upto (wideF n A i) (n + n) else upto (fun j => en n A i j) n
theorem wrow_step {n : Nat} {A : List UInt8} {k i : Nat} (h : i ≠ k) : wrow n A (k + 1) i = wrow n A k i := by
  unfold wrow
  by_cases h2 : i < k
  · rw [if_pos h2, if_pos (by omega)]
  · rw [if_neg h2, if_neg (by omega)]
theorem wrow_new (n : Nat) (A : List UInt8) (k : Nat) : wrow n A (k + 1) k = upto (fun j => en n A k j) n ++ upto (fun j => one k j) n := by
  unfold wrow
  rw [if_pos (by omega), upto_add]
  congr 1
  · exact upto_congr fun j hj => if_pos hj
  · refine upto_congr fun j hj => ?_
    show (if n + j < n then en n A k (n + j) else one k (n + j - n)) = one k j
    rw [if_neg (by omega), Nat.add_sub_cancel_left]
theorem wrow_old (n : Nat) (A : List UInt8) (k : Nat) : wrow n A k k = upto (fun j => en n A k j) n := by unfold wrow; rw [if_neg (by omega)]
theorem wrow_zero (n : Nat) (A : List UInt8) : wrow n A 0 = fun i => upto (fun j => en n A i j) n := by funext i; unfold wrow; rw [if_neg (Nat.not_lt_zero _)]
theorem RowsO.grid {w : World} {base u bt G n C : Nat} {vals : List Value} {A : List UInt8} (h : RowsO w base u (.slice (some ⟨G, 0, none⟩) n C) vals (wrow n A n)) (hv : w.ownsRow base bt 1 (.slice (some ⟨G, 0, none⟩) n C) n vals) : Grid w base bt G n C (n + n) (wideF n A) := by
  have hlen : vals.length = n := by have := hv.1; omega
  refine ⟨vals, hv, fun i hi => ?_⟩
  have hx : vals[i]? = some (vals[i]'(by omega)) := List.getElem?_eq_getElem (by omega)
  refine ⟨_, hx, ?_, fun a m c e => ?_⟩
  · have := Rd.owned (h.own i _ hx)
    unfold wrow at this
    rw [if_pos hi] at this
    exact this
  · right
    rcases h.out i _ hx with h1 | h1
    · rw [e] at h1; cases h1
    · rw [e] at h1
      intro e2
      exact h1 (by show some a.block = some G; rw [e2])

end Go.Proofs.Ytljbecalobnkbaa.Gf
