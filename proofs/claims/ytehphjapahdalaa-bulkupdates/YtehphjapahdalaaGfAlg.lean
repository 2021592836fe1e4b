/-
  PLAIN MATHEMATICS, MORE: what follows of the field of 256 numbers: no order, no brackets, sums, inverses, powers, squares, logarithms. No program is named here.
-/
import Derived.Test.YtehphjapahdalaaGfMath
namespace Go.Proofs.Ytehphjapahdalaa.Gf
set_option linter.unusedVariables false

theorem mul_accR : allB 256 (fun a => allB 256 fun b => Nat.beq (mulS a b) (accR a b)) = true := by kernel_rfl
theorem mulS_lt (a b : Nat) : mulS a b < 256 := by
  unfold mulS; split
  · omega
  · exact pw_lt _
theorem mulS_comm (a b : Nat) : mulS a b = mulS b a := by
  unfold mulS
  rw [Nat.add_comm (lg a)]
  simp only [Or.comm]
theorem mulS_zero (a : Nat) : mulS a 0 = 0 := by simp [mulS]
theorem zero_mulS (a : Nat) : mulS 0 a = 0 := by simp [mulS]
theorem mulS_pos {a b : Nat} (ha : a ≠ 0) (hb : b ≠ 0) : mulS a b = pw ((lg a + lg b) % 255) := by simp [mulS, ha, hb]
theorem mulS_ne {a b : Nat} (ha : a ≠ 0) (hb : b ≠ 0) : mulS a b ≠ 0 := by
  rw [mulS_pos ha hb]
  have := pw_pos (Nat.mod_lt (lg a + lg b) (by decide : 0 < 255))
  omega
theorem lg_mulS {a b : Nat} (ha : a ≠ 0) (hb : b ≠ 0) : lg (mulS a b) = (lg a + lg b) % 255 := by
  rw [mulS_pos ha hb, lg_pw (Nat.mod_lt _ (by decide))]
theorem lg_one : lg 1 = 0 := by kernel_rfl
theorem mulS_one {a : Nat} (ha : a < 256) : mulS a 1 = a := by
  by_cases h : a = 0
  · subst h; exact zero_mulS 1
  · rw [mulS_pos h (by decide), lg_one, Nat.add_zero, Nat.mod_eq_of_lt (lg_lt ha), pw_lg ha h]
theorem mulS_assoc (a b c : Nat) : mulS a (mulS b c) = mulS (mulS a b) c := by
  by_cases ha : a = 0
  · subst ha; simp only [zero_mulS]
  by_cases hb : b = 0
  · subst hb; simp only [zero_mulS, mulS_zero]
  by_cases hc : c = 0
  · subst hc; simp only [mulS_zero]
  rw [mulS_pos ha (mulS_ne hb hc), mulS_pos (mulS_ne ha hb) hc, lg_mulS hb hc, lg_mulS ha hb]
  congr 1
  omega
theorem mulS_eq_zero {a b : Nat} : mulS a b = 0 ↔ a = 0 ∨ b = 0 := by
  constructor
  · intro h
    by_cases ha : a = 0
    · exact Or.inl ha
    · by_cases hb : b = 0
      · exact Or.inr hb
      · exact absurd h (mulS_ne ha hb)
  · rintro (rfl | rfl)
    · exact zero_mulS _
    · exact mulS_zero _

def accG (n : Nat) : Nat → Nat → Nat → Nat :=
  Nat.rec (fun _ _ out => out) (fun _ r x y out => r (dbl x) (y / 2) (if y % 2 = 1 then out ^^^ x else out)) n
theorem accG_eq (a b : Nat) : ∀ n i, accG n (xt i a) (b / 2 ^ i) (acc i a b) = acc (i + n) a b
  | 0, _ => rfl
  | n + 1, i => by
    have e : accG (n + 1) (xt i a) (b / 2 ^ i) (acc i a b) = accG n (xt (i + 1) a) (b / 2 ^ (i + 1)) (acc (i + 1) a b) := by
      have h1 : accG (n + 1) (xt i a) (b / 2 ^ i) (acc i a b) = accG n (dbl (xt i a)) (b / 2 ^ i / 2) (if b / 2 ^ i % 2 = 1 then acc i a b ^^^ xt i a else acc i a b) := rfl
      rw [h1, Nat.div_div_eq_div_mul, ← Nat.pow_succ, acc, Nat.testBit_eq_decide_div_mod_eq]
      by_cases h : b / 2 ^ i % 2 = 1
      · simp [h, xt]
      · simp [h, xt]
    rw [e, accG_eq a b n (i + 1)]
    congr 1; omega
theorem accR_eq (a b : Nat) : accR a b = acc 8 a b := by
  have h := accG_eq a b 8 0
  simp only [Nat.pow_zero, Nat.div_one] at h
  exact h
theorem xt_lt {a : Nat} (ha : a < 256) : ∀ k, xt k a < 256
  | 0 => ha
  | k + 1 => dbl_lt (xt_lt ha k)
theorem mulS_acc {a b : Nat} (ha : a < 256) (hb : b < 256) : mulS a b = acc 8 a b := by
  rw [← accR_eq]
  exact Nat.eq_of_beq_eq_true (allB_out (allB_out mul_accR a ha) b hb)
theorem acc_xor (a b c : Nat) : ∀ i, acc i a (b ^^^ c) = acc i a b ^^^ acc i a c
  | 0 => by simp [acc]
  | i + 1 => by
    simp only [acc]
    rw [acc_xor a b c i, Nat.testBit_xor]
    have e : (if (b.testBit i ^^ c.testBit i) = true then xt i a else 0) = (if b.testBit i = true then xt i a else 0) ^^^ (if c.testBit i = true then xt i a else 0) := by
      cases b.testBit i <;> cases c.testBit i <;> simp
    rw [e]
    ac_rfl
theorem xor_lt {b c : Nat} (hb : b < 256) (hc : c < 256) : b ^^^ c < 256 := Nat.xor_lt_two_pow (n := 8) hb hc
theorem mulS_xor {a b c : Nat} (ha : a < 256) (hb : b < 256) (hc : c < 256) : mulS a (b ^^^ c) = mulS a b ^^^ mulS a c := by
  rw [mulS_acc ha (xor_lt hb hc), mulS_acc ha hb, mulS_acc ha hc, acc_xor]

/-! Inverses. -/
def invS (a : Nat) : Nat := if a = 0 then 0 else pw ((lg a * 254) % 255)
theorem invS_lt (a : Nat) : invS a < 256 := by
  unfold invS; split
  · omega
  · exact pw_lt _
theorem invS_ne {a : Nat} (ha : a ≠ 0) : invS a ≠ 0 := by
  unfold invS; rw [if_neg ha]
  have := pw_pos (Nat.mod_lt (lg a * 254) (by decide : 0 < 255))
  omega
theorem lg_invS {a : Nat} (ha : a ≠ 0) : lg (invS a) = (lg a * 254) % 255 := by
  unfold invS; rw [if_neg ha, lg_pw (Nat.mod_lt _ (by decide))]
theorem mulS_invS {a : Nat} (ha : a ≠ 0) : mulS a (invS a) = 1 := by
  rw [mulS_pos ha (invS_ne ha), lg_invS ha]
  have : (lg a + lg a * 254 % 255) % 255 = 0 := by omega
  rw [this, pw_zero]
theorem invS_invS {a : Nat} (h : a < 256) (ha : a ≠ 0) : invS (invS a) = a := by
  have e : invS (invS a) = pw ((lg (invS a) * 254) % 255) := by
    rw [invS, if_neg (invS_ne ha)]
  rw [e, lg_invS ha]
  have hl := lg_lt h
  have : (lg a * 254 % 255 * 254) % 255 = lg a := by omega
  rw [this, pw_lg h ha]
theorem divS_mulS {a b : Nat} (h : a < 256) (hb : b ≠ 0) : mulS (mulS a (invS b)) b = a := by
  rw [← mulS_assoc, mulS_comm (invS b) b, mulS_invS hb, mulS_one h]

/-! Squares. -/
theorem square_xor {a b : Nat} (ha : a < 256) (hb : b < 256) : mulS (a ^^^ b) (a ^^^ b) = mulS a a ^^^ mulS b b := by
  rw [mulS_xor (xor_lt ha hb) ha hb, mulS_comm (a ^^^ b) a, mulS_comm (a ^^^ b) b, mulS_xor ha ha hb, mulS_xor hb ha hb, mulS_comm b a]
  have : (mulS a a ^^^ mulS a b) ^^^ (mulS a b ^^^ mulS b b) = mulS a a ^^^ ((mulS a b ^^^ mulS a b) ^^^ mulS b b) := by ac_rfl
  rw [this, Nat.xor_self, Nat.zero_xor]
theorem lg_inj {a b : Nat} (ha : a < 256) (hb : b < 256) (ha0 : a ≠ 0) (hb0 : b ≠ 0) (h : lg a = lg b) : a = b := by
  rw [← pw_lg ha ha0, ← pw_lg hb hb0, h]
theorem square_inj {a b : Nat} (ha : a < 256) (hb : b < 256) : mulS a a = mulS b b ↔ a = b := by
  constructor
  · intro h
    by_cases ha0 : a = 0
    · subst ha0
      rw [zero_mulS] at h
      rcases mulS_eq_zero.1 h.symm with e | e <;> exact e.symm
    · by_cases hb0 : b = 0
      · subst hb0
        rw [zero_mulS] at h
        rcases mulS_eq_zero.1 h with e | e <;> exact e
      · have hl : lg (mulS a a) = lg (mulS b b) := by rw [h]
        rw [lg_mulS ha0 ha0, lg_mulS hb0 hb0] at hl
        have := lg_lt ha
        have := lg_lt hb
        exact lg_inj ha hb ha0 hb0 (by omega)
  · rintro rfl; rfl
/-- a, squared k times -/
def sq : Nat → Nat → Nat
  | 0, a => a
  | k + 1, a => mulS (sq k a) (sq k a)
theorem sq_lt {a : Nat} (ha : a < 256) : ∀ k, sq k a < 256
  | 0 => ha
  | k + 1 => mulS_lt _ _
theorem sq_zero : ∀ k, sq k 0 = 0
  | 0 => rfl
  | k + 1 => by rw [sq, sq_zero k]; exact zero_mulS 0
theorem sq_ne {a : Nat} (ha : a ≠ 0) : ∀ k, sq k a ≠ 0
  | 0 => ha
  | k + 1 => mulS_ne (sq_ne ha k) (sq_ne ha k)
theorem lg_sq {a : Nat} (h : a < 256) (ha : a ≠ 0) : ∀ k, lg (sq k a) = lg a * 2 ^ k % 255
  | 0 => by simp [sq, Nat.mod_eq_of_lt (lg_lt h)]
  | k + 1 => by
    rw [sq, lg_mulS (sq_ne ha k) (sq_ne ha k), lg_sq h ha k, Nat.pow_succ, ← Nat.mul_assoc]
    generalize lg a * 2 ^ k = x
    omega
theorem sq_eight {a : Nat} (h : a < 256) : sq 8 a = a := by
  by_cases ha : a = 0
  · subst ha; exact sq_zero 8
  · refine lg_inj (sq_lt h 8) h (sq_ne ha 8) ha ?_
    rw [lg_sq h ha 8]
    have := lg_lt h
    omega

/-! Doubling. -/
theorem mulS_two {a : Nat} (ha : a < 256) : mulS a 2 = dbl a :=
  of_decide_eq_true (allB_out (n := 256) (f := fun a => decide (mulS a 2 = dbl a)) (by kernel_rfl) a ha)

#print axioms sq_eight
#print axioms mulS_xor
end Go.Proofs.Ytehphjapahdalaa.Gf
