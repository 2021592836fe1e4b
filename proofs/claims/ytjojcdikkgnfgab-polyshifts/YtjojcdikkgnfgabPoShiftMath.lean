/-
  PLAIN MATHEMATICS: a product with x's power of n; a product with one number. No program's function is named here.
-/
import Derived.Test.YtjojcdikkgnfgabPoMulMath
import Derived.Test.YtjojcdikkgnfgabPoLaws
namespace Go.Proofs.Ytjojcdikkgnfgab.Gf
set_option linter.unusedVariables false
set_option linter.unusedSimpArgs false
open Go.RowKit

/-- x's power of n, as a function of places -/
def xpow (n t : Nat) : UInt8 := if t = n then 1 else 0
theorem xpow_fin (n : Nat) : Fin0 (xpow n) (n + 1) := fun i hi => if_neg (by omega)
theorem conv_xpow (f : Nat → UInt8) (n t : Nat) : conv f (xpow n) t = if n ≤ t then f (t - n) else 0 := by
  unfold conv
  by_cases h : n ≤ t
  · rw [if_pos h, S_one (k := t - n) (by omega) (fun i hi hne => by
      show mu (f i) (xpow n (t - i)) = 0
      rw [xpow, if_neg (by omega), mu_zero])]
    show mu (f (t - n)) (xpow n (t - (t - n))) = _
    rw [xpow, if_pos (by omega), mu_one]
  · rw [if_neg h]
    exact S_zero fun i hi => by rw [xpow, if_neg (by omega), mu_zero]
theorem mul_xpow (p : List UInt8) (n : Nat) : mulP p (upto (xpow n) (n + 1)) = norm (List.replicate n 0 ++ p) := by
  refine mk_ext (fin_conv _ _) (co_fin _) ?_
  funext t
  have e : co (upto (xpow n) (n + 1)) = xpow n := by funext i; exact co_upto (xpow_fin n) i
  rw [e, conv_xpow]
  by_cases h : n ≤ t
  · rw [if_pos h, co_append_ge (by rw [List.length_replicate]; exact h), List.length_replicate]
  · rw [if_neg h, co_append_lt (by rw [List.length_replicate]; omega), co_replicate]
/-- each number times c -/
def tms (p : List UInt8) (c : UInt8) (i : Nat) : UInt8 := mu (co p i) c
theorem mul_single (p : List UInt8) (c : UInt8) : mulP p [c] = norm (upto (tms p c) p.length) := by
  have hf : Fin0 (tms p c) p.length := fun i hi => by unfold tms; rw [co_ge hi, zero_mu]
  refine mk_ext (fin_conv _ _) (co_fin _) ?_
  funext t
  rw [co_upto hf]
  unfold conv
  rw [S_one (k := t) (by omega) (fun i hi hne => by
    show mu (co p i) (co [c] (t - i)) = 0
    rw [co_ge (p := [c]) (by show 1 ≤ t - i; omega), mu_zero])]
  show mu (co p t) (co [c] (t - t)) = _
  rw [Nat.sub_self]; rfl
theorem xpow_store (n : Nat) : ∀ t, xpow n t = if t = n then 1 else (fun _ => (0 : UInt8)) t := fun t => rfl
theorem vb_shift (p : List UInt8) (n : Nat) : (List.replicate n 0 ++ p).map vb = (upto (fun _ => 0) n).map vb ++ p.map vb := by
  rw [List.map_append, upto_zeros, List.map_replicate]; rfl

end Go.Proofs.Ytjojcdikkgnfgab.Gf
