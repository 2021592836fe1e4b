/-
  PLAIN MATHEMATICS: Cauchy's matrices over the field: the checks' product with the generator is nought; any k rows of the generator take nothing but nought to nought. No program is named here.
-/
import Derived.Test.YtehphjapahdalaaMxMath
namespace Go.Proofs.Ytehphjapahdalaa.Gf
set_option linter.unusedVariables false
set_option linter.unusedSimpArgs false

/-- the point of a shard -/
def pt (n : Nat) : UInt8 := UInt8.ofNat n
theorem pt_inj {a b : Nat} (ha : a < 256) (hb : b < 256) (h : pt a = pt b) : a = b := by
  have := congrArg UInt8.toNat h
  unfold pt at this
  rw [UInt8.toNat_ofNat', UInt8.toNat_ofNat', Nat.mod_eq_of_lt ha, Nat.mod_eq_of_lt hb] at this
  exact this
theorem pt_ne {a b : Nat} (ha : a < 256) (hb : b < 256) (h : a ≠ b) : pt a ^^^ pt b ≠ 0 := fun e => h (pt_inj ha hb (x_eq_zero.1 e))
def parF (k : Nat) : Mx := fun i j => iv (pt (k + i) ^^^ pt j)
def genF (k : Nat) : Mx := fun i j => if i < k then one i j else parF k (i - k) j
def chkF (k : Nat) : Mx := fun i j => if j < k then parF k i j else one i (j - k)

theorem S_split (n m : Nat) (f : Nat → UInt8) : S (n + m) f = S n f ^^^ S m (fun i => f (n + i)) := by
  induction m with
  | zero => rw [Nat.add_zero]; show S n f = S n f ^^^ 0; rw [x_zero]
  | succ m ih => rw [← Nat.add_assoc, S, ih, S, x_assoc]
/-- the checks' product with the generator -/
theorem chk_gen (k m : Nat) {i j : Nat} (hi : i < m) (hj : j < k) : mm (k + m) (chkF k) (genF k) i j = 0 := by
  unfold mm
  rw [S_split]
  have e1 : S k (fun x => mu (chkF k i x) (genF k x j)) = parF k i j := by
    rw [S_one (k := j) hj (fun x hx hxj => ?_)]
    · unfold chkF genF; rw [if_pos hj, if_pos hj, one_self, mu_one]
    · unfold genF; rw [if_pos hx, one_ne hxj, mu_zero]
  have e2 : S m (fun x => mu (chkF k i (k + x)) (genF k (k + x) j)) = parF k i j := by
    rw [S_one (k := i) hi (fun x hx hxi => ?_)]
    · unfold chkF genF; rw [if_neg (by omega), if_neg (by omega), Nat.add_sub_cancel_left, one_self, one_mu]
    · unfold chkF; rw [if_neg (by omega), Nat.add_sub_cancel_left, one_ne (fun h => hxi h.symm), zero_mu]
  rw [e1, e2, x_self]

/-! Polynomials of less than k numbers, as functions. -/
def PF : Nat → (UInt8 → UInt8) → Prop
  | 0, f => ∀ z, f z = 0
  | k + 1, f => ∃ c h, PF k h ∧ ∀ z, f z = c ^^^ mu z (h z)
theorem PF.congr {k : Nat} {f g : UInt8 → UInt8} (h : PF k f) (e : ∀ z, g z = f z) : PF k g := by
  cases k with
  | zero => intro z; rw [e]; exact h z
  | succ k => obtain ⟨c, h1, h2, h3⟩ := h; exact ⟨c, h1, h2, fun z => by rw [e]; exact h3 z⟩
theorem PF.zero (k : Nat) : PF k (fun _ => 0) := by
  induction k with
  | zero => intro z; rfl
  | succ k ih => exact ⟨0, fun _ => 0, ih, fun z => by rw [mu_zero, x_zero]⟩
theorem PF.mono {k : Nat} {f : UInt8 → UInt8} (h : PF k f) : PF (k + 1) f := by
  induction k generalizing f with
  | zero => exact ⟨0, fun _ => 0, PF.zero 0, fun z => by rw [h z, mu_zero, x_zero]⟩
  | succ k ih => obtain ⟨c, g, h1, h2⟩ := h; exact ⟨c, g, ih h1, h2⟩
theorem PF.add {k : Nat} {f g : UInt8 → UInt8} (hf : PF k f) (hg : PF k g) : PF k (fun z => f z ^^^ g z) := by
  induction k generalizing f g with
  | zero => intro z; show f z ^^^ g z = 0; rw [hf z, hg z]; rfl
  | succ k ih =>
    obtain ⟨c, f1, h1, h2⟩ := hf
    obtain ⟨d, g1, h3, h4⟩ := hg
    refine ⟨c ^^^ d, _, ih h1 h3, fun z => ?_⟩
    show f z ^^^ g z = c ^^^ d ^^^ mu z (f1 z ^^^ g1 z)
    rw [h2, h4, mu_xor, x_assoc, x_assoc, x_left (mu z (f1 z)) d]
theorem PF.smul {k : Nat} {f : UInt8 → UInt8} (a : UInt8) (hf : PF k f) : PF k (fun z => mu a (f z)) := by
  induction k generalizing f with
  | zero => intro z; show mu a (f z) = 0; rw [hf z, mu_zero]
  | succ k ih =>
    obtain ⟨c, f1, h1, h2⟩ := hf
    refine ⟨mu a c, _, ih h1, fun z => ?_⟩
    show mu a (f z) = mu a c ^^^ mu z (mu a (f1 z))
    rw [h2, mu_xor, mu_left a z]
theorem PF.lin {k : Nat} {f : UInt8 → UInt8} (q : UInt8) (hf : PF k f) : PF (k + 1) (fun z => mu (z ^^^ q) (f z)) := by
  have h1 : PF (k + 1) (fun z => mu z (f z)) := ⟨0, f, hf, fun z => by rw [zero_x]⟩
  exact (h1.add (hf.smul q).mono).congr fun z => xor_mu _ _ _
theorem PF.const (c : UInt8) : PF 1 (fun _ => c) := ⟨c, fun _ => 0, fun _ => rfl, fun z => by rw [mu_zero, x_zero]⟩
theorem PF.sum {k n : Nat} {f : Nat → UInt8 → UInt8} (h : ∀ j, j < n → PF k (f j)) : PF k (fun z => S n (fun j => f j z)) := by
  induction n with
  | zero => exact PF.zero k
  | succ n ih => exact (ih fun j hj => h j (by omega)).add (h n (by omega))
/-- less what it is at r it is divided by z less r -/
theorem PF.div {k : Nat} {f : UInt8 → UInt8} (r : UInt8) (hf : PF (k + 1) f) : ∃ g, PF k g ∧ ∀ z, f z = mu (z ^^^ r) (g z) ^^^ f r := by
  induction k generalizing f with
  | zero =>
    obtain ⟨c, f1, h1, h2⟩ := hf
    exact ⟨fun _ => 0, fun _ => rfl, fun z => by rw [h2 z, h2 r, h1 z, h1 r, mu_zero, mu_zero, mu_zero, zero_x]⟩
  | succ k ih =>
    obtain ⟨c, f1, h1, h2⟩ := hf
    obtain ⟨g, hg, hz⟩ := ih h1
    refine ⟨fun z => f1 r ^^^ mu z (g z), ⟨f1 r, g, hg, fun z => rfl⟩, fun z => ?_⟩
    show f z = mu (z ^^^ r) (f1 r ^^^ mu z (g z)) ^^^ f r
    have e1 : mu z (mu (z ^^^ r) (g z)) = mu (z ^^^ r) (mu z (g z)) := mu_left _ _ _
    rw [h2 z, h2 r, hz z, mu_xor, mu_xor, e1, xor_mu z r (f1 r)]
    generalize mu (z ^^^ r) (mu z (g z)) = A
    generalize mu z (f1 r) = B
    generalize mu r (f1 r) = D
    rw [x_assoc (B ^^^ D), x_left A c D, x_assoc B D, x_left D c, x_left D A, x_self, x_zero, x_left B c, x_comm B A]
/-- as many roots as numbers -/
theorem PF.roots {k : Nat} {f : UInt8 → UInt8} (hf : PF k f) (rs : Nat → UInt8) (hd : ∀ i j, i < k → j < k → i ≠ j → rs i ≠ rs j) (hr : ∀ i, i < k → f (rs i) = 0) : ∀ z, f z = 0 := by
  induction k generalizing f with
  | zero => exact hf
  | succ k ih =>
    obtain ⟨g, hg, hz⟩ := hf.div (rs k)
    rw [hr k (by omega)] at hz
    have h0 := ih hg (fun i j hi hj => hd i j (by omega) (by omega)) (fun i hi => by
      have h1 := hr i (by omega)
      rw [hz, x_zero] at h1
      rcases mu_eq_zero.1 h1 with h2 | h2
      · exact absurd (x_eq_zero.1 h2) (hd i k (by omega) (by omega) (by omega))
      · exact h2)
    intro z
    rw [hz, h0 z, mu_zero, x_zero]

/-! Products of all z less q, but one. -/
def PD (q : Nat → UInt8) : Nat → UInt8 → UInt8
  | 0, _ => 1
  | n + 1, z => mu (z ^^^ q n) (PD q n z)
def PE (q : Nat → UInt8) (j : Nat) : Nat → UInt8 → UInt8
  | 0, _ => 1
  | n + 1, z => if n = j then PE q j n z else mu (z ^^^ q n) (PE q j n z)
theorem PE_deg (q : Nat → UInt8) (j n : Nat) : (j < n → PF n (PE q j n)) ∧ (n ≤ j → PF (n + 1) (PE q j n)) := by
  induction n with
  | zero => exact ⟨fun h => by omega, fun _ => PF.const 1⟩
  | succ n ih =>
    refine ⟨fun h => ?_, fun h => ?_⟩
    · by_cases e : n = j
      · exact (ih.2 (by omega)).congr fun z => by rw [PE, if_pos e]
      · exact ((ih.1 (by omega)).lin (q n)).congr fun z => by rw [PE, if_neg e]
    · exact ((ih.2 (by omega)).lin (q n)).congr fun z => by rw [PE, if_neg (by omega)]
theorem PE_far (q : Nat → UInt8) (j n : Nat) (h : n ≤ j) (z : UInt8) : PE q j n z = PD q n z := by
  induction n with
  | zero => rfl
  | succ n ih => rw [PE, if_neg (by omega), ih (by omega), PD]
theorem PE_mul (q : Nat → UInt8) {j n : Nat} (h : j < n) (z : UInt8) : mu (z ^^^ q j) (PE q j n z) = PD q n z := by
  induction n with
  | zero => omega
  | succ n ih =>
    by_cases e : n = j
    · subst e; rw [PE, if_pos rfl, PE_far q n n (Nat.le_refl _), PD]
    · rw [PE, if_neg e, mu_left, ih (by omega), PD]
theorem PE_other (q : Nat → UInt8) {j l n : Nat} (hl : l < n) (hj : l ≠ j) : PE q j n (q l) = 0 := by
  induction n with
  | zero => omega
  | succ n ih =>
    by_cases e : n = l
    · subst e; rw [PE, if_neg hj, x_self, zero_mu]
    · have := ih (by omega)
      rw [PE, this, mu_zero]; split <;> rfl
theorem PE_own (q : Nat → UInt8) (j n : Nat) (hd : ∀ l, l < n → l ≠ j → q j ^^^ q l ≠ 0) : PE q j n (q j) ≠ 0 := by
  induction n with
  | zero => exact (by decide : (1 : UInt8) ≠ 0)
  | succ n ih =>
    have h := ih fun l hl => hd l (by omega)
    rw [PE]
    split
    · exact h
    · exact mu_ne (hd n (by omega) (by assumption)) h
/-- Any k rows of the generator take nothing but nought to nought. -/
theorem gen_rows {k N : Nat} (hN : N ≤ 256) (hk : k ≤ N) (rs : Nat → Nat) (hlt : ∀ i, i < k → rs i < N) (hd : ∀ i j, i < k → j < k → i ≠ j → rs i ≠ rs j) : ¬ IsSing k (fun i j => genF k (rs i) j) := by
  rintro ⟨x, ⟨j0, hj0, hx0⟩, hx⟩
  have hf : PF k (fun z => S k (fun j => mu (x j) (PE pt j k z))) := PF.sum fun j hj => ((PE_deg pt j k).1 hj).smul (x j)
  have hz := hf.roots (fun i => pt (rs i)) (fun i j hi hj hij e => hd i j hi hj hij (pt_inj (by have := hlt i hi; omega) (by have := hlt j hj; omega) e)) (fun i hi => ?_)
  · have h1 := hz (pt j0)
    have h2 : S k (fun j => mu (x j) (PE pt j k (pt j0))) = mu (x j0) (PE pt j0 k (pt j0)) := S_one (k := j0) hj0 fun j hj hne => by rw [PE_other pt hj0 (fun e => hne e.symm), mu_zero]
    have h3 : mu (x j0) (PE pt j0 k (pt j0)) = 0 := by rw [← h2]; exact h1
    rcases mu_eq_zero.1 h3 with h4 | h4
    · exact hx0 h4
    · exact PE_own pt j0 k (fun l hl hne => pt_ne (by omega) (by omega) (fun e => hne e.symm)) h4
  · show S k (fun j => mu (x j) (PE pt j k (pt (rs i)))) = 0
    have hr := hlt i hi
    have h0 := hx i hi
    by_cases hik : rs i < k
    · have e1 : x (rs i) = 0 := by
        rw [← h0]
        unfold mv
        rw [S_one (k := rs i) hik (fun j hj hne => ?_)]
        · show x (rs i) = mu (genF k (rs i) (rs i)) (x (rs i)); unfold genF; rw [if_pos hik, one_self, one_mu]
        · show mu (genF k (rs i) j) (x j) = 0; unfold genF; rw [if_pos hik, one_ne (fun h => hne h.symm), zero_mu]
      rw [S_one (k := rs i) hik (fun j hj hne => by rw [PE_other pt hik (fun e => hne e.symm), mu_zero]), e1, zero_mu]
    · have e1 : S k (fun j => mu (x j) (PE pt j k (pt (rs i)))) = mu (mv k (fun i j => genF k (rs i) j) x i) (PD pt k (pt (rs i))) := by
        unfold mv
        rw [S_mu]
        refine S_congr fun j hj => ?_
        show mu (x j) (PE pt j k (pt (rs i))) = mu (mu (genF k (rs i) j) (x j)) (PD pt k (pt (rs i)))
        have hne : pt (rs i) ^^^ pt j ≠ 0 := pt_ne (by omega) (by omega) (by omega)
        have e2 : genF k (rs i) j = iv (pt (rs i) ^^^ pt j) := by
          unfold genF parF
          rw [if_neg hik, show k + (rs i - k) = rs i by omega]
        rw [e2, ← PE_mul pt hj, mu_comm (iv _) (x j), mu_assoc, ← mu_assoc (iv _), mu_comm (iv _), mu_iv hne, one_mu]
      rw [e1, h0, zero_mu]

end Go.Proofs.Ytehphjapahdalaa.Gf
