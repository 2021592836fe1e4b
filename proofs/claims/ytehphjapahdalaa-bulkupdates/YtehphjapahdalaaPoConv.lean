/-
  PLAIN MATHEMATICS: polynomials over the field as functions from places to numbers: products, values, derivatives, division. No program is named here.
-/
import Derived.Test.YtehphjapahdalaaPoSum
namespace Go.Proofs.Ytehphjapahdalaa.Gf
set_option linter.unusedVariables false
set_option linter.unusedSimpArgs false

def conv (p q : Nat → UInt8) (k : Nat) : UInt8 := S (k + 1) (fun i => mu (p i) (q (k - i)))
def addF (p q : Nat → UInt8) (k : Nat) : UInt8 := p k ^^^ q k
theorem conv_comm (p q : Nat → UInt8) : conv p q = conv q p := by
  funext k
  unfold conv
  rw [← S_rev k (fun i => mu (q i) (p (k - i)))]
  refine S_congr fun i hi => ?_
  rw [mu_comm, show k - (k - i) = i by omega]
theorem conv_add (p q r : Nat → UInt8) : conv p (addF q r) = addF (conv p q) (conv p r) := by
  funext k
  unfold conv addF
  rw [← S_xor]
  exact S_congr fun i _ => mu_xor _ _ _
theorem add_conv (p q r : Nat → UInt8) : conv (addF p q) r = addF (conv p r) (conv q r) := by
  rw [conv_comm, conv_add, conv_comm r p, conv_comm r q]
theorem conv_assoc (p q r : Nat → UInt8) : conv (conv p q) r = conv p (conv q r) := by
  funext k
  have e1 : conv (conv p q) r k = S (k + 1) (fun i => S (i + 1) (fun j => mu (mu (p j) (q (i - j))) (r (k - i)))) := by
    unfold conv; exact S_congr fun i _ => S_mu _ _ _
  have e2 : conv p (conv q r) k = S (k + 1) (fun j => S (k + 1 - j) (fun l => mu (mu (p j) (q (j + l - j))) (r (k - (j + l))))) := by
    unfold conv
    refine S_congr fun j hj => ?_
    rw [mu_S, show k + 1 - j = k - j + 1 by omega]
    refine S_congr fun l hl => ?_
    rw [mu_assoc, show j + l - j = l by omega, show k - (j + l) = k - j - l by omega]
  rw [e1, e2, S_tri (k + 1) (fun i j => mu (mu (p j) (q (i - j))) (r (k - i)))]

/-- 0 from n on -/
def Fin0 (f : Nat → UInt8) (n : Nat) : Prop := ∀ i, n ≤ i → f i = 0
theorem Fin0.mono {f : Nat → UInt8} {n m : Nat} (h : Fin0 f n) (hm : n ≤ m) : Fin0 f m := fun i hi => h i (by omega)
theorem Fin0.add {f g : Nat → UInt8} {n : Nat} (h : Fin0 f n) (k : Fin0 g n) : Fin0 (addF f g) n := fun i hi => by
  unfold addF; rw [h i hi, k i hi]; exact x_self 0
theorem Fin0.conv {f g : Nat → UInt8} {n m : Nat} (h : Fin0 f n) (k : Fin0 g m) : Fin0 (conv f g) (n + m - 1) := fun i hi => by
  unfold Gf.conv
  refine S_zero fun j hj => ?_
  by_cases e : n ≤ j
  · rw [h j e, zero_mu]
  · rw [k (i - j) (by omega), mu_zero]
/-- A product's top. -/
theorem conv_top {f g : Nat → UInt8} {n m : Nat} (h : Fin0 f (n + 1)) (k : Fin0 g (m + 1)) : conv f g (n + m) = mu (f n) (g m) := by
  unfold conv
  have e := S_one (n := n + m + 1) (k := n) (f := fun i => mu (f i) (g (n + m - i))) (by omega) (fun i h1 h2 => by
    by_cases e : n < i
    · show mu (f i) _ = 0
      rw [h i (by omega), zero_mu]
    · show mu _ (g (n + m - i)) = 0
      rw [k (n + m - i) (by omega), mu_zero])
  rw [e]
  show mu (f n) (g (n + m - n)) = _
  rw [show n + m - n = m by omega]
theorem conv_zero {f : Nat → UInt8} {g : Nat → UInt8} (h : ∀ i, g i = 0) (k : Nat) : conv f g k = 0 := by
  unfold conv; exact S_zero fun i _ => by rw [h, mu_zero]

/-! Values. -/
def pwr (x : UInt8) : Nat → UInt8
  | 0 => 1
  | i + 1 => mu (pwr x i) x
theorem pwr_add (x : UInt8) (i j : Nat) : pwr x (i + j) = mu (pwr x i) (pwr x j) := by
  induction j with
  | zero => rw [Nat.add_zero, pwr, mu_one]
  | succ j ih => rw [← Nat.add_assoc, pwr, ih, pwr, mu_assoc]
def ev (n : Nat) (f : Nat → UInt8) (x : UInt8) : UInt8 := S n (fun i => mu (f i) (pwr x i))
theorem ev_more {f : Nat → UInt8} {n m : Nat} (x : UInt8) (h : Fin0 f n) (hm : n ≤ m) : ev m f x = ev n f x := by
  unfold ev; exact S_more hm fun i h1 _ => by rw [h i h1, zero_mu]
theorem ev_add (n : Nat) (f g : Nat → UInt8) (x : UInt8) : ev n (addF f g) x = ev n f x ^^^ ev n g x := by
  unfold ev addF; rw [← S_xor]; exact S_congr fun i _ => xor_mu _ _ _
theorem ev_conv {f g : Nat → UInt8} {n m : Nat} (x : UInt8) (h : Fin0 f n) (k : Fin0 g m) : ev (n + m) (conv f g) x = mu (ev n f x) (ev m g x) := by
  have e1 : ev (n + m) (conv f g) x = S (n + m) (fun i => S (i + 1) (fun j => mu (mu (f j) (pwr x j)) (mu (g (i - j)) (pwr x (i - j))))) := by
    unfold ev conv
    refine S_congr fun i _ => ?_
    rw [S_mu]
    refine S_congr fun j hj => ?_
    have : pwr x i = mu (pwr x j) (pwr x (i - j)) := by rw [← pwr_add, show j + (i - j) = i by omega]
    rw [this, mu_assoc, mu_assoc, mu_left (g (i - j))]
  rw [e1, S_tri (n + m) (fun i j => mu (mu (f j) (pwr x j)) (mu (g (i - j)) (pwr x (i - j))))]
  have e2 : ∀ j, j < n + m → S (n + m - j) (fun l => mu (mu (f j) (pwr x j)) (mu (g (j + l - j)) (pwr x (j + l - j)))) = mu (mu (f j) (pwr x j)) (ev m g x) := by
    intro j hj
    rw [← mu_S (mu (f j) (pwr x j)) (n + m - j) (fun l => mu (g (j + l - j)) (pwr x (j + l - j)))]
    by_cases e : n ≤ j
    · rw [h j e, zero_mu, zero_mu, zero_mu]
    · have : S (n + m - j) (fun l => mu (g (j + l - j)) (pwr x (j + l - j))) = ev (n + m - j) g x := by
        unfold ev; exact S_congr fun l _ => by rw [show j + l - j = l by omega]
      rw [this, ev_more x k (by omega)]
  rw [S_congr e2]
  unfold ev
  rw [← S_mu]
  congr 1
  exact S_more (by omega) fun i h1 _ => by rw [h i h1, zero_mu]

/-! Derivatives. -/
def od (n : Nat) (a : UInt8) : UInt8 := if n % 2 = 1 then a else 0
def der (f : Nat → UInt8) (i : Nat) : UInt8 := od (i + 1) (f (i + 1))
theorem od_mu (n : Nat) (a b : UInt8) : mu (od n a) b = od n (mu a b) := by
  unfold od; split
  · rfl
  · exact zero_mu b
theorem mu_od (n : Nat) (a b : UInt8) : mu a (od n b) = od n (mu a b) := by rw [mu_comm, od_mu, mu_comm]
theorem od_add (n m : Nat) (a : UInt8) : od (n + m) a = od n a ^^^ od m a := by
  unfold od
  by_cases h1 : n % 2 = 1
  · by_cases h2 : m % 2 = 1
    · rw [if_pos h1, if_pos h2, if_neg (by omega), x_self]
    · rw [if_pos h1, if_neg h2, if_pos (by omega), x_zero]
  · by_cases h2 : m % 2 = 1
    · rw [if_neg h1, if_pos h2, if_pos (by omega), zero_x]
    · rw [if_neg h1, if_neg h2, if_neg (by omega), x_self]
theorem od_xor (n : Nat) (a b : UInt8) : od n (a ^^^ b) = od n a ^^^ od n b := by
  unfold od; split
  · rfl
  · exact (x_self 0).symm
theorem od_S (m n : Nat) (f : Nat → UInt8) : od m (S n f) = S n (fun i => od m (f i)) := by
  induction n with
  | zero => unfold od; split <;> rfl
  | succ n ih => rw [S, S, od_xor, ih]
theorem od_zero (a : UInt8) : od 0 a = 0 := rfl
theorem der_add (f g : Nat → UInt8) : der (addF f g) = addF (der f) (der g) := by
  funext i; exact od_xor _ _ _
theorem der_conv (f g : Nat → UInt8) : der (conv f g) = addF (conv (der f) g) (conv f (der g)) := by
  funext k
  have e : der (conv f g) k = S (k + 2) (fun i => od i (mu (f i) (g (k + 1 - i)))) ^^^ S (k + 2) (fun i => od (k + 1 - i) (mu (f i) (g (k + 1 - i)))) := by
    unfold der conv
    rw [od_S, ← S_xor]
    refine S_congr fun i hi => ?_
    rw [← od_add, show i + (k + 1 - i) = k + 1 by omega]
  rw [e]
  unfold addF
  congr 1
  · rw [S_head, od_zero, zero_x]
    unfold conv der
    refine S_congr fun i hi => ?_
    rw [od_mu, show k + 1 - (i + 1) = k - i by omega]
  · rw [S, show k + 1 - (k + 1) = 0 by omega, od_zero, x_zero]
    unfold conv der
    refine S_congr fun i hi => ?_
    rw [mu_od, show k + 1 - i = k - i + 1 by omega]
theorem Fin0.der {f : Nat → UInt8} {n : Nat} (h : Fin0 f n) : Fin0 (der f) (n - 1) := fun i hi => by
  unfold Gf.der
  rw [h (i + 1) (by omega)]
  unfold od; split <;> rfl

/-! Division: quotient and rest are one. -/
theorem div_one {q s r s' r' : Nat → UInt8} {m n : Nat} (hq : Fin0 q (m + 1)) (hm : q m ≠ 0) (hs : Fin0 s n) (hs' : Fin0 s' n) (hr : Fin0 r m) (hr' : Fin0 r' m)
    (h : ∀ i, conv s q i ^^^ r i = conv s' q i ^^^ r' i) : (∀ i, s i = s' i) ∧ ∀ i, r i = r' i := by
  have key : ∀ k, k ≤ n → ∀ i, n - k ≤ i → s i = s' i := by
    intro k
    induction k with
    | zero => intro _ i hi; rw [hs i (by omega), hs' i (by omega)]
    | succ k ih =>
      intro hk i hi
      by_cases e : n - k ≤ i
      · exact ih (by omega) i e
      · have ei : i = n - (k + 1) := by omega
        subst ei
        have hF : Fin0 (addF s s') (n - (k + 1) + 1) := fun j hj => by
          unfold addF
          rw [ih (by omega) j (by omega), x_self]
        have ht := conv_top hF hq
        have h0 := h (n - (k + 1) + m)
        rw [hr _ (by omega), hr' _ (by omega), x_zero, x_zero] at h0
        rw [add_conv] at ht
        unfold addF at ht
        rw [h0, x_self] at ht
        rcases mu_eq_zero.1 ht.symm with e1 | e1
        · exact x_eq_zero.1 e1
        · exact absurd e1 hm
  have hss : ∀ i, s i = s' i := fun i => key n (by omega) i (by omega)
  refine ⟨hss, fun i => ?_⟩
  have := h i
  have e : conv s q i = conv s' q i := by
    unfold conv; exact S_congr fun j _ => by rw [hss]
  rw [e] at this
  have h2 : conv s' q i ^^^ (conv s' q i ^^^ r i) = conv s' q i ^^^ (conv s' q i ^^^ r' i) := by rw [this]
  rwa [x_cancel, x_cancel] at h2

end Go.Proofs.Ytehphjapahdalaa.Gf
