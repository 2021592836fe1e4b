/-
  PLAIN MATHEMATICS: the field of 256 numbers over bytes (UInt8), and finite sums in it. No program is named here.
-/
import Derived.Test.YtehphjapahdalaaGfAlg
namespace Go.Proofs.Ytehphjapahdalaa.Gf
set_option linter.unusedVariables false
set_option linter.unusedSimpArgs false

def mu (a b : UInt8) : UInt8 := UInt8.ofNat (mulS a.toNat b.toNat)
def iv (a : UInt8) : UInt8 := UInt8.ofNat (invS a.toNat)
theorem u8_lt (a : UInt8) : a.toNat < 256 := a.toNat_lt
theorem mu_toNat (a b : UInt8) : (mu a b).toNat = mulS a.toNat b.toNat := by
  unfold mu; rw [UInt8.toNat_ofNat']; exact Nat.mod_eq_of_lt (mulS_lt _ _)
theorem iv_toNat (a : UInt8) : (iv a).toNat = invS a.toNat := by
  unfold iv; rw [UInt8.toNat_ofNat']; exact Nat.mod_eq_of_lt (invS_lt _)
theorem u8_ext {a b : UInt8} (h : a.toNat = b.toNat) : a = b := UInt8.toNat_inj.1 h
theorem u8_ne {a : UInt8} (h : a ≠ 0) : a.toNat ≠ 0 := fun e => h (u8_ext e)
theorem mu_comm (a b : UInt8) : mu a b = mu b a := u8_ext (by rw [mu_toNat, mu_toNat, mulS_comm])
theorem mu_assoc (a b c : UInt8) : mu (mu a b) c = mu a (mu b c) := u8_ext (by simp only [mu_toNat]; rw [mulS_assoc])
theorem mu_left (a b c : UInt8) : mu a (mu b c) = mu b (mu a c) := by rw [← mu_assoc, mu_comm a b, mu_assoc]
theorem mu_xor (a b c : UInt8) : mu a (b ^^^ c) = mu a b ^^^ mu a c := u8_ext (by
  rw [UInt8.toNat_xor, mu_toNat, mu_toNat, mu_toNat, UInt8.toNat_xor, mulS_xor (u8_lt a) (u8_lt b) (u8_lt c)])
theorem xor_mu (a b c : UInt8) : mu (a ^^^ b) c = mu a c ^^^ mu b c := by rw [mu_comm, mu_xor, mu_comm c a, mu_comm c b]
theorem mu_one (a : UInt8) : mu a 1 = a := u8_ext (by rw [mu_toNat]; exact mulS_one (u8_lt a))
theorem one_mu (a : UInt8) : mu 1 a = a := by rw [mu_comm, mu_one]
theorem mu_zero (a : UInt8) : mu a 0 = 0 := u8_ext (by rw [mu_toNat]; exact mulS_zero _)
theorem zero_mu (a : UInt8) : mu 0 a = 0 := by rw [mu_comm, mu_zero]
theorem mu_eq_zero {a b : UInt8} : mu a b = 0 ↔ a = 0 ∨ b = 0 := by
  constructor
  · intro h
    have : mulS a.toNat b.toNat = 0 := by rw [← mu_toNat, h]; rfl
    rcases mulS_eq_zero.1 this with e | e
    · exact Or.inl (u8_ext e)
    · exact Or.inr (u8_ext e)
  · rintro (rfl | rfl)
    · exact zero_mu _
    · exact mu_zero _
theorem mu_iv {a : UInt8} (h : a ≠ 0) : mu a (iv a) = 1 := u8_ext (by rw [mu_toNat, iv_toNat, mulS_invS (u8_ne h)]; rfl)
theorem mu_ne {a b : UInt8} (ha : a ≠ 0) (hb : b ≠ 0) : mu a b ≠ 0 := fun h => by rcases mu_eq_zero.1 h with e | e <;> contradiction

/-! Sums. -/
theorem x_assoc (a b c : UInt8) : (a ^^^ b) ^^^ c = a ^^^ (b ^^^ c) := UInt8.xor_assoc a b c
theorem x_comm (a b : UInt8) : a ^^^ b = b ^^^ a := UInt8.xor_comm a b
theorem x_left (a b c : UInt8) : a ^^^ (b ^^^ c) = b ^^^ (a ^^^ c) := by rw [← x_assoc, x_comm a b, x_assoc]
theorem x_self (a : UInt8) : a ^^^ a = 0 := UInt8.xor_self
theorem x_zero (a : UInt8) : a ^^^ 0 = a := UInt8.xor_zero
theorem zero_x (a : UInt8) : 0 ^^^ a = a := UInt8.zero_xor
theorem x_cancel (a b : UInt8) : a ^^^ (a ^^^ b) = b := by rw [← x_assoc, x_self, zero_x]
theorem x_eq_zero {a b : UInt8} : a ^^^ b = 0 ↔ a = b := by
  constructor
  · intro h
    have : a ^^^ (a ^^^ b) = a ^^^ 0 := by rw [h]
    rw [x_cancel, x_zero] at this
    exact this.symm
  · rintro rfl; exact x_self a
theorem x4 (a b c d : UInt8) : (a ^^^ b) ^^^ (c ^^^ d) = (a ^^^ c) ^^^ (b ^^^ d) := by
  rw [x_assoc, x_assoc, x_left b c d]

def S : Nat → (Nat → UInt8) → UInt8
  | 0, _ => 0
  | n + 1, f => S n f ^^^ f n
theorem S_congr {n : Nat} {f g : Nat → UInt8} (h : ∀ i, i < n → f i = g i) : S n f = S n g := by
  induction n with
  | zero => rfl
  | succ n ih => rw [S, S, ih (fun i hi => h i (by omega)), h n (by omega)]
theorem S_zero {n : Nat} {f : Nat → UInt8} (h : ∀ i, i < n → f i = 0) : S n f = 0 := by
  induction n with
  | zero => rfl
  | succ n ih => rw [S, ih (fun i hi => h i (by omega)), h n (by omega)]; rfl
theorem S_xor (n : Nat) (f g : Nat → UInt8) : S n (fun i => f i ^^^ g i) = S n f ^^^ S n g := by
  induction n with
  | zero => exact (x_self 0).symm
  | succ n ih => rw [S, S, S, ih, x4]
theorem mu_S (a : UInt8) (n : Nat) (f : Nat → UInt8) : mu a (S n f) = S n (fun i => mu a (f i)) := by
  induction n with
  | zero => exact mu_zero a
  | succ n ih => rw [S, S, mu_xor, ih]
theorem S_mu (a : UInt8) (n : Nat) (f : Nat → UInt8) : mu (S n f) a = S n (fun i => mu (f i) a) := by
  rw [mu_comm, mu_S]; exact S_congr fun i _ => mu_comm _ _
theorem S_head (n : Nat) (f : Nat → UInt8) : S (n + 1) f = f 0 ^^^ S n (fun i => f (i + 1)) := by
  induction n with
  | zero => rw [S, S, S, zero_x, x_zero]
  | succ n ih => rw [S, ih, S, x_assoc]
theorem S_rev (n : Nat) (f : Nat → UInt8) : S (n + 1) (fun i => f (n - i)) = S (n + 1) f := by
  induction n with
  | zero => rfl
  | succ n ih =>
    rw [S_head]
    have : S (n + 1) (fun i => f (n + 1 - (i + 1))) = S (n + 1) (fun i => f (n - i)) := S_congr fun i _ => by rw [Nat.add_sub_add_right]
    rw [this, ih, x_comm]
    rfl
theorem S_more {n m : Nat} {f : Nat → UInt8} (hnm : n ≤ m) (h : ∀ i, n ≤ i → i < m → f i = 0) : S m f = S n f := by
  induction m with
  | zero => rw [Nat.le_zero.1 hnm]
  | succ m ih =>
    by_cases e : n = m + 1
    · rw [e]
    · rw [S, ih (by omega) (fun i h1 h2 => h i h1 (by omega)), h m (by omega) (by omega), x_zero]
theorem S_one {n k : Nat} {f : Nat → UInt8} (hk : k < n) (h : ∀ i, i < n → i ≠ k → f i = 0) : S n f = f k := by
  induction n with
  | zero => omega
  | succ n ih =>
    by_cases e : k = n
    · subst e
      rw [S, S_zero (fun i hi => h i (by omega) (by omega)), zero_x]
    · rw [S, ih (by omega) (fun i h1 h2 => h i (by omega) h2), h n (by omega) (by omega), x_zero]
/-- Two sums over a triangle. -/
theorem S_tri (n : Nat) (F : Nat → Nat → UInt8) : S n (fun i => S (i + 1) (fun j => F i j)) = S n (fun j => S (n - j) (fun l => F (j + l) j)) := by
  induction n with
  | zero => rfl
  | succ n ih =>
    rw [S, ih, S, S, ← x_assoc, ← S_xor]
    have e1 : S (n + 1 - n) (fun l => F (n + l) n) = F n n := by
      rw [show n + 1 - n = 1 by omega, S, S, zero_x]; rfl
    rw [e1]
    congr 1
    refine S_congr fun j hj => ?_
    rw [show n + 1 - j = (n - j) + 1 by omega, S, show j + (n - j) = n by omega]

end Go.Proofs.Ytehphjapahdalaa.Gf
