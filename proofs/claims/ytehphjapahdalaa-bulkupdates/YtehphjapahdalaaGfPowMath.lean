/-
  PLAIN MATHEMATICS: powers and inverses by logarithms. No program is named here.
-/
import Derived.Test.YtehphjapahdalaaGfAlg
namespace Go.Proofs.Ytehphjapahdalaa.Gf
set_option linter.unusedVariables false

/-- n, less multiples of 255. -/
def tn (n : Int) : Nat := (n % 255).toNat

theorem tn_lt (n : Int) : tn n < 255 := by unfold tn; omega

theorem tn_cast (n : Int) : ((tn n : Nat) : Int) = n % 255 := by unfold tn; omega

def powV (a : Nat) (n : Int) : Nat := if n = 0 then 1 else if a = 0 then 0 else pw ((lg a * tn n) % 255)

def powE (a : Nat) (n : Int) : Nat := if n < 0 ∧ a = 0 then 10 else 0

theorem tn_neg : tn (-1) = 254 := by kernel_rfl

theorem powV_inv {a : Nat} (h : a ≠ 0) : powV a (-1) = invS a := by
  unfold powV invS; rw [if_neg (by omega), if_neg h, if_neg h, tn_neg]

theorem powE_inv {a : Nat} (h : a ≠ 0) : powE a (-1) = 0 := by simp [powE, h]

theorem powV_lt (a : Nat) (n : Int) : powV a n < 256 := by
  unfold powV; split
  · omega
  · split
    · omega
    · exact pw_lt _

theorem powV_pos {a : Nat} (h : a ≠ 0) (n : Int) : powV a n = pw (lg a * tn n % 255) := by
  unfold powV
  by_cases e : n = 0
  · subst e
    rw [if_pos rfl, show tn 0 = 0 from rfl, Nat.mul_zero, Nat.zero_mod, pw_zero]
  · rw [if_neg e, if_neg h]

theorem powE_pos {a : Nat} (h : a ≠ 0) (n : Int) : powE a n = 0 := by simp [powE, h]

theorem powV_ne {a : Nat} (h : a ≠ 0) (n : Int) : powV a n ≠ 0 := by
  rw [powV_pos h]
  have := pw_pos (Nat.mod_lt (lg a * tn n) (by decide : 0 < 255))
  omega

theorem lg_powV {a : Nat} (h : a ≠ 0) (n : Int) : lg (powV a n) = lg a * tn n % 255 := by
  rw [powV_pos h, lg_pw (Nat.mod_lt _ (by decide))]

theorem tn_add (m n : Int) : tn (m + n) = (tn m + tn n) % 255 := by unfold tn; omega

theorem powV_add {a : Nat} (h : a ≠ 0) (m n : Int) : mulS (powV a m) (powV a n) = powV a (m + n) := by
  rw [mulS_pos (powV_ne h m) (powV_ne h n), lg_powV h, lg_powV h, powV_pos h, tn_add]
  congr 1
  rw [← Nat.add_mod, ← Nat.mul_add, Nat.mul_mod, Nat.mul_mod (lg a) ((tn m + tn n) % 255), Nat.mod_mod]

theorem powV_turn {a : Nat} (h : a ≠ 0) (m : Int) : powV a (m + 255) = powV a m := by
  rw [powV_pos h, powV_pos h]
  have : tn (m + 255) = tn m := by unfold tn; omega
  rw [this]

theorem lg_two : lg 2 = 1 := by kernel_rfl

theorem powV_lg {a : Nat} (h : a < 256) (h0 : a ≠ 0) : powV 2 (lg a : Nat) = a := by
  have l := lg_lt h
  have : tn (lg a : Nat) = lg a := by unfold tn; omega
  rw [powV_pos (by decide), lg_two, this, Nat.one_mul, Nat.mod_eq_of_lt l, pw_lg h h0]

theorem powV_m1 (a : Nat) : powV a (-1) = invS a := by
  by_cases h : a = 0
  · subst h; rfl
  · exact powV_inv h

theorem powE_m1 (a : Nat) : powE a (-1) = zE a := by
  by_cases h : a = 0
  · subst h; rfl
  · rw [powE_inv h, zE_pos h]

end Go.Proofs.Ytehphjapahdalaa.Gf
