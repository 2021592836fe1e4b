/- TEXTS JOINED: CaMath, KeLoc, KeEuc, PoLaws, PoTop, PoSumInto, PoCodeA, GfMul, PoShort1, PoTimes. -/
import Derived.Test.YtlbachgbeefhcabTome2
import Derived.Test.YtlbachgbeefhcabTome1
import Derived.Test.YtlbachgbeefhcabTome3
import Derived.Deep.RegionWith
/-
  PLAIN MATHEMATICS: Cauchy's matrices over the field: the checks' product with the generator is nought; any k rows of the generator take nothing but nought to nought. No program is named here.
-/

namespace Go.Proofs.Ytlbachgbeefhcab.Gf
set_option linter.unusedVariables false
set_option linter.unusedSimpArgs false

/-- the point of a shard -/
def pt (n : Nat) : UInt8 := UInt8.ofNat n
theorem pt_inj {a b : Nat} (ha : a < 256) (hb : b < 256) (h : pt a = pt b) : a = b := by
  have := congrArg UInt8.toNat h
  unfold pt at this
  rw [UInt8.toNat_ofNat', UInt8.toNat_ofNat', Nat.mod_eq_of_lt ha, Nat.mod_eq_of_lt hb] at this
  exact this
theorem pt_ne {a b : Nat} (ha : a < 256) (hb : b < 256) (h : a ≠ b) : pt a ^^^ pt b ≠ 0 := fun e => h (pt_inj ha hb (x_eq_zero.1 e))
def parF (k : Nat) : Mx := fun i j => iv (pt (k + i) ^^^ pt j)
def genF (k : Nat) : Mx := fun i j => if i < k then one i j else parF k (i - k) j
def chkF (k : Nat) : Mx := fun i j => if j < k then parF k i j else one i (j - k)

theorem S_split (n m : Nat) (f : Nat → UInt8) : S (n + m) f = S n f ^^^ S m (fun i => f (n + i)) := by
  induction m with
  | zero => rw [Nat.add_zero]; show S n f = S n f ^^^ 0; rw [x_zero]
  | succ m ih => rw [← Nat.add_assoc, S, ih, S, x_assoc]
/-- the checks' product with the generator -/
theorem chk_gen (k m : Nat) {i j : Nat} (hi : i < m) (hj : j < k) : mm (k + m) (chkF k) (genF k) i j = 0 := by
  unfold mm
  rw [S_split]
  have e1 : S k (fun x => mu (chkF k i x) (genF k x j)) = parF k i j := by
    rw [S_one (k := j) hj (fun x hx hxj => ?_)]
    · unfold chkF genF; rw [if_pos hj, if_pos hj, one_self, mu_one]
    · unfold genF; rw [if_pos hx, one_ne hxj, mu_zero]
  have e2 : S m (fun x => mu (chkF k i (k + x)) (genF k (k + x) j)) = parF k i j := by
    rw [S_one (k := i) hi (fun x hx hxi => ?_)]
    · unfold chkF genF; rw [if_neg (by omega), if_neg (by omega), Nat.add_sub_cancel_left, one_self, one_mu]
    · unfold chkF; rw [if_neg (by omega), Nat.add_sub_cancel_left, one_ne (fun h => hxi h.symm), zero_mu]
  rw [e1, e2, x_self]

/-! Polynomials of less than k numbers, as functions. -/
def PF : Nat → (UInt8 → UInt8) → Prop
  | 0, f => ∀ z, f z = 0
  | k + 1, f => ∃ c h, PF k h ∧ ∀ z, f z = c ^^^ mu z (h z)
theorem PF.congr {k : Nat} {f g : UInt8 → UInt8} (h : PF k f) (e : ∀ z, g z = f z) : PF k g := by
  cases k with
  | zero => intro z; rw [e]; exact h z
  | succ k => obtain ⟨c, h1, h2, h3⟩ := h; exact ⟨c, h1, h2, fun z => by rw [e]; exact h3 z⟩
theorem PF.zero (k : Nat) : PF k (fun _ => 0) := by
  induction k with
  | zero => intro z; rfl
  | succ k ih => exact ⟨0, fun _ => 0, ih, fun z => by rw [mu_zero, x_zero]⟩
theorem PF.mono {k : Nat} {f : UInt8 → UInt8} (h : PF k f) : PF (k + 1) f := by
  induction k generalizing f with
  | zero => exact ⟨0, fun _ => 0, PF.zero 0, fun z => by rw [h z, mu_zero, x_zero]⟩
  | succ k ih => obtain ⟨c, g, h1, h2⟩ := h; exact ⟨c, g, ih h1, h2⟩
theorem PF.add {k : Nat} {f g : UInt8 → UInt8} (hf : PF k f) (hg : PF k g) : PF k (fun z => f z ^^^ g z) := by
  induction k generalizing f g with
  | zero => intro z; show f z ^^^ g z = 0; rw [hf z, hg z]; rfl
  | succ k ih =>
    obtain ⟨c, f1, h1, h2⟩ := hf
    obtain ⟨d, g1, h3, h4⟩ := hg
    refine ⟨c ^^^ d, _, ih h1 h3, fun z => ?_⟩
    show f z ^^^ g z = c ^^^ d ^^^ mu z (f1 z ^^^ g1 z)
    rw [h2, h4, mu_xor, x_assoc, x_assoc, x_left (mu z (f1 z)) d]
theorem PF.smul {k : Nat} {f : UInt8 → UInt8} (a : UInt8) (hf : PF k f) : PF k (fun z => mu a (f z)) := by
  induction k generalizing f with
  | zero => intro z; show mu a (f z) = 0; rw [hf z, mu_zero]
  | succ k ih =>
    obtain ⟨c, f1, h1, h2⟩ := hf
    refine ⟨mu a c, _, ih h1, fun z => ?_⟩
    show mu a (f z) = mu a c ^^^ mu z (mu a (f1 z))
    rw [h2, mu_xor, mu_left a z]
theorem PF.lin {k : Nat} {f : UInt8 → UInt8} (q : UInt8) (hf : PF k f) : PF (k + 1) (fun z => mu (z ^^^ q) (f z)) := by
  have h1 : PF (k + 1) (fun z => mu z (f z)) := ⟨0, f, hf, fun z => by rw [zero_x]⟩
  exact (h1.add (hf.smul q).mono).congr fun z => xor_mu _ _ _
theorem PF.const (c : UInt8) : PF 1 (fun _ => c) := ⟨c, fun _ => 0, fun _ => rfl, fun z => by rw [mu_zero, x_zero]⟩
theorem PF.sum {k n : Nat} {f : Nat → UInt8 → UInt8} (h : ∀ j, j < n → PF k (f j)) : PF k (fun z => S n (fun j => f j z)) := by
  induction n with
  | zero => exact PF.zero k
  | succ n ih => exact (ih fun j hj => h j (by omega)).add (h n (by omega))
/-- less what it is at r it is divided by z less r -/
theorem PF.div {k : Nat} {f : UInt8 → UInt8} (r : UInt8) (hf : PF (k + 1) f) : ∃ g, PF k g ∧ ∀ z, f z = mu (z ^^^ r) (g z) ^^^ f r := by
  induction k generalizing f with
  | zero =>
    obtain ⟨c, f1, h1, h2⟩ := hf
    exact ⟨fun _ => 0, fun _ => rfl, fun z => by rw [h2 z, h2 r, h1 z, h1 r, mu_zero, mu_zero, mu_zero, zero_x]⟩
  | succ k ih =>
    obtain ⟨c, f1, h1, h2⟩ := hf
    obtain ⟨g, hg, hz⟩ := ih h1
    refine ⟨fun z => f1 r ^^^ mu z (g z), ⟨f1 r, g, hg, fun z => rfl⟩, fun z => ?_⟩
    show f z = mu (z ^^^ r) (f1 r ^^^ mu z (g z)) ^^^ f r
    have e1 : mu z (mu (z ^^^ r) (g z)) = mu (z ^^^ r) (mu z (g z)) := mu_left _ _ _
    rw [h2 z, h2 r, hz z, mu_xor, mu_xor, e1, xor_mu z r (f1 r)]
    generalize mu (z ^^^ r) (mu z (g z)) = A
    generalize mu z (f1 r) = B
    generalize mu r (f1 r) = D
    rw [x_assoc (B ^^^ D), x_left A c D, x_assoc B D, x_left D c, x_left D A, x_self, x_zero, x_left B c, x_comm B A]
/-- as many roots as numbers -/
theorem PF.roots {k : Nat} {f : UInt8 → UInt8} (hf : PF k f) (rs : Nat → UInt8) (hd : ∀ i j, i < k → j < k → i ≠ j → rs i ≠ rs j) (hr : ∀ i, i < k → f (rs i) = 0) : ∀ z, f z = 0 := by
  induction k generalizing f with
  | zero => exact hf
  | succ k ih =>
    obtain ⟨g, hg, hz⟩ := hf.div (rs k)
    rw [hr k (by omega)] at hz
    have h0 := ih hg (fun i j hi hj => hd i j (by omega) (by omega)) (fun i hi => by
      have h1 := hr i (by omega)
      rw [hz, x_zero] at h1
      rcases mu_eq_zero.1 h1 with h2 | h2
      · exact absurd (x_eq_zero.1 h2) (hd i k (by omega) (by omega) (by omega))
      · exact h2)
    intro z
    rw [hz, h0 z, mu_zero, x_zero]

/-! Products of all z less q, but one. -/
def PD (q : Nat → UInt8) : Nat → UInt8 → UInt8
  | 0, _ => 1
  | n + 1, z => mu (z ^^^ q n) (PD q n z)
def PE (q : Nat → UInt8) (j : Nat) : Nat → UInt8 → UInt8
  | 0, _ => 1
  | n + 1, z => if n = j then PE q j n z else mu (z ^^^ q n) (PE q j n z)
theorem PE_deg (q : Nat → UInt8) (j n : Nat) : (j < n → PF n (PE q j n)) ∧ (n ≤ j → PF (n + 1) (PE q j n)) := by
  induction n with
  | zero => exact ⟨fun h => by omega, fun _ => PF.const 1⟩
  | succ n ih =>
    refine ⟨fun h => ?_, fun h => ?_⟩
    · by_cases e : n = j
      · exact (ih.2 (by omega)).congr fun z => by rw [PE, if_pos e]
      · exact ((ih.1 (by omega)).lin (q n)).congr fun z => by rw [PE, if_neg e]
    · exact ((ih.2 (by omega)).lin (q n)).congr fun z => by rw [PE, if_neg (by omega)]
theorem PE_far (q : Nat → UInt8) (j n : Nat) (h : n ≤ j) (z : UInt8) : PE q j n z = PD q n z := by
  induction n with
  | zero => rfl
  | succ n ih => rw [PE, if_neg (by omega), ih (by omega), PD]
theorem PE_mul (q : Nat → UInt8) {j n : Nat} (h : j < n) (z : UInt8) : mu (z ^^^ q j) (PE q j n z) = PD q n z := by
  induction n with
  | zero => omega
  | succ n ih =>
    by_cases e : n = j
    · subst e; rw [PE, if_pos rfl, PE_far q n n (Nat.le_refl _), PD]
    · rw [PE, if_neg e, mu_left, ih (by omega), PD]
theorem PE_other (q : Nat → UInt8) {j l n : Nat} (hl : l < n) (hj : l ≠ j) : PE q j n (q l) = 0 := by
  induction n with
  | zero => omega
  | succ n ih =>
    by_cases e : n = l
    · subst e; rw [PE, if_neg hj, x_self, zero_mu]
    · have := ih (by omega)
      rw [PE, this, mu_zero]; split <;> rfl
theorem PE_own (q : Nat → UInt8) (j n : Nat) (hd : ∀ l, l < n → l ≠ j → q j ^^^ q l ≠ 0) : PE q j n (q j) ≠ 0 := by
  induction n with
  | zero => exact (by decide : (1 : UInt8) ≠ 0)
  | succ n ih =>
    have h := ih fun l hl => hd l (by omega)
    rw [PE]
    split
    · exact h
    · exact mu_ne (hd n (by omega) (by assumption)) h
/-- Any k rows of the generator take nothing but nought to nought. -/
theorem gen_rows {k N : Nat} (hN : N ≤ 256) (hk : k ≤ N) (rs : Nat → Nat) (hlt : ∀ i, i < k → rs i < N) (hd : ∀ i j, i < k → j < k → i ≠ j → rs i ≠ rs j) : ¬ IsSing k (fun i j => genF k (rs i) j) := by
  rintro ⟨x, ⟨j0, hj0, hx0⟩, hx⟩
  have hf : PF k (fun z => S k (fun j => mu (x j) (PE pt j k z))) := PF.sum fun j hj => ((PE_deg pt j k).1 hj).smul (x j)
  have hz := hf.roots (fun i => pt (rs i)) (fun i j hi hj hij e => hd i j hi hj hij (pt_inj (by have := hlt i hi; omega) (by have := hlt j hj; omega) e)) (fun i hi => ?_)
  · have h1 := hz (pt j0)
    have h2 : S k (fun j => mu (x j) (PE pt j k (pt j0))) = mu (x j0) (PE pt j0 k (pt j0)) := S_one (k := j0) hj0 fun j hj hne => by rw [PE_other pt hj0 (fun e => hne e.symm), mu_zero]
    have h3 : mu (x j0) (PE pt j0 k (pt j0)) = 0 := by rw [← h2]; exact h1
    rcases mu_eq_zero.1 h3 with h4 | h4
    · exact hx0 h4
    · exact PE_own pt j0 k (fun l hl hne => pt_ne (by omega) (by omega) (fun e => hne e.symm)) h4
  · show S k (fun j => mu (x j) (PE pt j k (pt (rs i)))) = 0
    have hr := hlt i hi
    have h0 := hx i hi
    by_cases hik : rs i < k
    · have e1 : x (rs i) = 0 := by
        rw [← h0]
        unfold mv
        rw [S_one (k := rs i) hik (fun j hj hne => ?_)]
        · show x (rs i) = mu (genF k (rs i) (rs i)) (x (rs i)); unfold genF; rw [if_pos hik, one_self, one_mu]
        · show mu (genF k (rs i) j) (x j) = 0; unfold genF; rw [if_pos hik, one_ne (fun h => hne h.symm), zero_mu]
      rw [S_one (k := rs i) hik (fun j hj hne => by rw [PE_other pt hik (fun e => hne e.symm), mu_zero]), e1, zero_mu]
    · have e1 : S k (fun j => mu (x j) (PE pt j k (pt (rs i)))) = mu (mv k (fun i j => genF k (rs i) j) x i) (PD pt k (pt (rs i))) := by
        unfold mv
        rw [S_mu]
        refine S_congr fun j hj => ?_
        show mu (x j) (PE pt j k (pt (rs i))) = mu (mu (genF k (rs i) j) (x j)) (PD pt k (pt (rs i)))
        have hne : pt (rs i) ^^^ pt j ≠ 0 := pt_ne (by omega) (by omega) (by omega)
        have e2 : genF k (rs i) j = iv (pt (rs i) ^^^ pt j) := by
          unfold genF parF
          rw [if_neg hik, show k + (rs i - k) = rs i by omega]
        rw [e2, ← PE_mul pt hj, mu_comm (iv _) (x j), mu_assoc, ← mu_assoc (iv _), mu_comm (iv _), mu_iv hne, one_mu]
      rw [e1, h0, zero_mu]

end Go.Proofs.Ytlbachgbeefhcab.Gf

/-
  PLAIN MATHEMATICS: locators of points: their roots; of syndromes that points make the least locator is that of the points, and the evaluator tells by what (Forney). No program's function is named here.
-/

namespace Go.Proofs.Ytlbachgbeefhcab.Gf
set_option linter.unusedVariables false
set_option linter.unusedSimpArgs false

/-- x and a number -/
def linF (x : UInt8) (i : Nat) : UInt8 := if i = 0 then x else if i = 1 then 1 else 0
theorem co_lin (x : UInt8) : co [x, 1] = linF x := by
  funext i
  rcases i with _ | _ | i
  · rfl
  · rfl
  · rw [co_ge (by simp)]; unfold linF; rw [if_neg (by omega), if_neg (by omega)]
theorem linF_fin (x : UInt8) : Fin0 (linF x) 2 := fun i hi => by unfold linF; rw [if_neg (by omega), if_neg (by omega)]
theorem lin_conv_zero (x : UInt8) (g : Nat → UInt8) : conv (linF x) g 0 = mu x (g 0) := by
  show S 1 _ = _
  rw [S, S, zero_x]; rfl
theorem lin_conv_succ (x : UInt8) (g : Nat → UInt8) (j : Nat) : conv (linF x) g (j + 1) = mu x (g (j + 1)) ^^^ g j := by
  unfold conv
  rw [S_head]
  congr 1
  rw [S_one (k := 0) (by omega) (fun i _ hi => by unfold linF; rw [if_neg (by omega), if_neg (by omega), zero_mu])]
  show mu 1 (g (j + 1 - (0 + 1))) = g j
  rw [one_mu]; rfl
theorem ev_lin (y x : UInt8) : ev 2 (linF y) x = x ^^^ y := by
  unfold ev
  rw [S, S, S, zero_x]
  show mu y (pwr x 0) ^^^ mu 1 (pwr x 1) = _
  show mu y 1 ^^^ mu 1 (mu 1 x) = _
  rw [mu_one, one_mu, one_mu, x_comm]
theorem ev_one (x : UInt8) : ev 1 (cst 1) x = 1 := by
  unfold ev
  rw [S, S, zero_x]
  show mu 1 1 = 1
  rw [one_mu]
/-- the product of x and each of the first n points -/
def locF (a : Nat → UInt8) : Nat → Nat → UInt8
  | 0 => cst 1
  | n + 1 => conv (locF a n) (linF (a n))
theorem locF_fin (a : Nat → UInt8) (n : Nat) : Fin0 (locF a n) (n + 1) := by
  induction n with
  | zero => exact fun i hi => cst_ne (by omega)
  | succ n ih => exact (ih.conv (linF_fin (a n))).mono (by omega)
theorem locF_top (a : Nat → UInt8) (n : Nat) : locF a n n = 1 := by
  induction n with
  | zero => rfl
  | succ n ih => rw [locF, conv_top (locF_fin a n) (linF_fin (a n)), ih, one_mu]; rfl
theorem locF_congr {a b : Nat → UInt8} {n : Nat} (h : ∀ i, i < n → a i = b i) : locF a n = locF b n := by
  induction n with
  | zero => rfl
  | succ n ih => rw [locF, locF, ih (fun i hi => h i (by omega)), h n (by omega)]
theorem locF_append (a : Nat → UInt8) (t n : Nat) : locF a (t + n) = conv (locF a t) (locF (fun i => a (t + i)) n) := by
  induction n with
  | zero => rw [Nat.add_zero, locF, conv_comm, one_conv]; funext j; rw [one_mu]
  | succ n ih => rw [← Nat.add_assoc, locF, ih, locF, conv_assoc]
theorem ev_loc (a : Nat → UInt8) (n : Nat) (x : UInt8) : ev (n + 1) (locF a n) x = PD a n x := by
  induction n with
  | zero => exact ev_one x
  | succ n ih =>
    have := ev_conv x (locF_fin a n) (linF_fin (a n))
    rw [ev_more x (f := conv (locF a n) (linF (a n))) (n := n + 1 + 1) (m := n + 1 + 2) ((locF_fin a n).conv (linF_fin (a n)) |>.mono (by omega)) (by omega)] at this
    rw [locF, this, ih, ev_lin, mu_comm, PD]
theorem PD_zero {a : Nat → UInt8} {n : Nat} {x : UInt8} : PD a n x = 0 ↔ ∃ i, i < n ∧ a i = x := by
  induction n with
  | zero => exact ⟨fun h => absurd (show (1 : UInt8) = 0 from h) (by decide), fun ⟨i, h, _⟩ => by omega⟩
  | succ n ih =>
    rw [PD, mu_eq_zero, ih]
    constructor
    · rintro (h | ⟨i, h1, h2⟩)
      · exact ⟨n, by omega, (x_eq_zero.1 h).symm⟩
      · exact ⟨i, by omega, h2⟩
    · rintro ⟨i, h1, h2⟩
      by_cases e : i = n
      · subst e; exact Or.inl (x_eq_zero.2 h2.symm)
      · exact Or.inr ⟨i, by omega, h2⟩
/-- the locator as a list -/
def locN (a : Nat → UInt8) (n : Nat) : List UInt8 := upto (locF a n) (n + 1)
def locL (ps : List UInt8) : List UInt8 := locN (co ps) ps.length
theorem co_locN (a : Nat → UInt8) (n : Nat) : co (locN a n) = locF a n := funext fun i => co_upto (locF_fin a n) i
theorem locN_length (a : Nat → UInt8) (n : Nat) : (locN a n).length = n + 1 := upto_length _ _
theorem locN_zero (a : Nat → UInt8) : locN a 0 = [1] := rfl
theorem locN_succ (a : Nat → UInt8) (n : Nat) : mulP (locN a n) [a n, 1] = locN a (n + 1) := by
  have e : conv (co (locN a n)) (co [a n, 1]) = locF a (n + 1) := by rw [co_locN, co_lin]; rfl
  have hl : (mulP (locN a n) [a n, 1]).length = n + 2 := by
    unfold mulP
    rw [mk_length, e]
    exact deg_unique ((locF_fin a (n + 1)).mono (by rw [locN_length]; simp)) (locF_fin a (n + 1)) (fun _ => by show locF a (n + 1) (n + 1) ≠ 0; rw [locF_top]; decide)
  refine co_ext (by rw [hl, locN_length]) fun i _ => ?_
  rw [co_mulP, e, co_locN]
theorem norm_locN (a : Nat → UInt8) (n : Nat) : norm (locN a n) = locN a n := by
  have hd : deg (co (locN a n)) (locN a n).length = n + 1 := by
    rw [co_locN]
    exact deg_unique ((locF_fin a n).mono (by rw [locN_length]; omega)) (locF_fin a n) (fun _ => by show locF a n n ≠ 0; rw [locF_top]; decide)
  refine co_ext (by unfold norm; rw [mk_length, hd, locN_length]) fun i _ => ?_
  rw [co_norm]
theorem evP_loc (ps : List UInt8) (x : UInt8) : evP (locL ps) x = PD (co ps) ps.length x := by
  unfold evP locL
  rw [locN_length, co_locN, ev_loc]

/-! Roots: a polynomial with as many roots as numbers is nought. -/
theorem root_div {f : Nat → UInt8} {n : Nat} (h : Fin0 f (n + 1)) (r : UInt8) (hr : ev (n + 1) f r = 0) : ∃ g, Fin0 g n ∧ f = conv (linF r) g := by
  refine ⟨fun i => S (n + 1) (fun k => if i < k then mu (f k) (pwr r (k - 1 - i)) else 0), fun i hi => S_zero fun k hk => if_neg (by omega), ?_⟩
  funext i
  cases i with
  | zero =>
    rw [lin_conv_zero, mu_S]
    have e : S (n + 1) (fun k => mu r (if 0 < k then mu (f k) (pwr r (k - 1 - 0)) else 0)) = S (n + 1) (fun k => mu (f k) (pwr r k) ^^^ (if k = 0 then f 0 else 0)) := S_congr fun k hk => by
      cases k with
      | zero => rw [if_neg (by omega), if_pos rfl, mu_zero]; show 0 = mu (f 0) 1 ^^^ f 0; rw [mu_one, x_self]
      | succ k => rw [if_pos (by omega), if_neg (by omega), x_zero, Nat.add_sub_cancel, Nat.sub_zero, pwr, mu_left, mu_comm r]
    rw [e, S_xor, S_one (k := 0) (by omega) (fun k _ hk => if_neg hk), if_pos rfl]
    have : S (n + 1) (fun k => mu (f k) (pwr r k)) = 0 := hr
    rw [this, zero_x]
  | succ i =>
    rw [lin_conv_succ, mu_S, ← S_xor]
    have e : S (n + 1) (fun k => mu r (if i + 1 < k then mu (f k) (pwr r (k - 1 - (i + 1))) else 0) ^^^ (if i < k then mu (f k) (pwr r (k - 1 - i)) else 0)) = S (n + 1) (fun k => if k = i + 1 then f (i + 1) else 0) := S_congr fun k hk => by
      by_cases h1 : i + 1 < k
      · rw [if_pos h1, if_pos (by omega), if_neg (by omega), show k - 1 - i = (k - 1 - (i + 1)) + 1 by omega, pwr, mu_left, mu_comm r, x_self]
      · rw [if_neg h1, mu_zero, zero_x]
        by_cases h2 : k = i + 1
        · subst h2; rw [if_pos (by omega), if_pos rfl, show i + 1 - 1 - i = 0 by omega]; exact mu_one _
        · rw [if_neg (by omega), if_neg h2]
    rw [e]
    by_cases hi : i + 1 < n + 1
    · rw [S_one (k := i + 1) hi (fun k _ hk => if_neg hk), if_pos rfl]
    · rw [h (i + 1) (by omega)]
      exact (S_zero fun k hk => if_neg (by omega)).symm
theorem roots_all {n : Nat} {f : Nat → UInt8} (h : Fin0 f n) (rs : Nat → UInt8) (hd : ∀ i j, i < n → j < n → i ≠ j → rs i ≠ rs j) (hr : ∀ i, i < n → ev n f (rs i) = 0) : ∀ i, f i = 0 := by
  induction n generalizing f with
  | zero => exact fun i => h i (Nat.zero_le _)
  | succ n ih =>
    obtain ⟨g, hg, e⟩ := root_div h (rs n) (hr n (by omega))
    have h0 := ih hg (fun i j hi hj => hd i j (by omega) (by omega)) (fun i hi => by
      have h1 := hr i (by omega)
      have h2 := ev_conv (rs i) (linF_fin (rs n)) hg
      rw [← e, ev_more (rs i) h (show n + 1 ≤ 2 + n by omega), h1, ev_lin] at h2
      rcases mu_eq_zero.1 h2.symm with h3 | h3
      · exact absurd (x_eq_zero.1 h3) (hd i n (by omega) (by omega) (by omega))
      · exact h3)
    intro i
    rw [e]; exact conv_zero h0 i

/-! All points but one. -/
def peF (a : Nat → UInt8) (j : Nat) : Nat → Nat → UInt8
  | 0 => cst 1
  | n + 1 => if n = j then peF a j n else conv (peF a j n) (linF (a n))
theorem peF_fin (a : Nat → UInt8) (j n : Nat) : (n ≤ j → Fin0 (peF a j n) (n + 1)) ∧ (j < n → Fin0 (peF a j n) n) := by
  induction n with
  | zero => exact ⟨fun _ i hi => cst_ne (by omega), fun h => by omega⟩
  | succ n ih =>
    refine ⟨fun h => ?_, fun h => ?_⟩
    · rw [peF, if_neg (by omega)]; exact ((ih.1 (by omega)).conv (linF_fin (a n))).mono (by omega)
    · rw [peF]
      by_cases e : n = j
      · rw [if_pos e]; exact ih.1 (by omega)
      · rw [if_neg e]; exact ((ih.2 (by omega)).conv (linF_fin (a n))).mono (by omega)
theorem peF_far (a : Nat → UInt8) (j n : Nat) (h : n ≤ j) : peF a j n = locF a n := by
  induction n with
  | zero => rfl
  | succ n ih => rw [peF, if_neg (by omega), ih (by omega), locF]
theorem peF_mul (a : Nat → UInt8) {j n : Nat} (h : j < n) : locF a n = conv (peF a j n) (linF (a j)) := by
  induction n with
  | zero => omega
  | succ n ih =>
    by_cases e : n = j
    · subst e; rw [peF, if_pos rfl, peF_far a n n (Nat.le_refl _), locF]
    · rw [peF, if_neg e, locF, ih (by omega), conv_assoc, conv_assoc, conv_comm (linF (a j))]
theorem ev_pe (a : Nat → UInt8) (j n : Nat) (x : UInt8) : ev (n + 1) (peF a j n) x = PE a j n x := by
  induction n with
  | zero => exact ev_one x
  | succ n ih =>
    have hf : Fin0 (peF a j n) (n + 1) := by
      rcases Nat.lt_or_ge j n with h | h
      · exact ((peF_fin a j n).2 h).mono (by omega)
      · exact (peF_fin a j n).1 h
    rw [peF, PE]
    by_cases e : n = j
    · rw [if_pos e, if_pos e, ev_more x hf (by omega), ih]
    · rw [if_neg e, if_neg e]
      have := ev_conv x hf (linF_fin (a n))
      rw [ev_more x (f := conv (peF a j n) (linF (a n))) (n := n + 1 + 1) (m := n + 1 + 2) ((hf.conv (linF_fin (a n))).mono (by omega)) (by omega)] at this
      rw [this, ih, ev_lin, mu_comm]
theorem ev_pe' {a : Nat → UInt8} {j n : Nat} (h : j < n) (x : UInt8) : ev n (peF a j n) x = PE a j n x := by
  rw [← ev_pe]; exact (ev_more x ((peF_fin a j n).2 h) (by omega)).symm
theorem der_lin (x : UInt8) : der (linF x) = cst 1 := by
  funext i
  cases i with
  | zero => rfl
  | succ i =>
    unfold der
    rw [linF_fin x (i + 1 + 1) (by omega), cst_ne (by omega)]
    unfold od; split <;> rfl
/-- a locator's derivative at a point of its own -/
theorem ev_der {a : Nat → UInt8} {j n : Nat} (h : j < n) : ev (n + 2) (der (locF a n)) (a j) = PE a j n (a j) := by
  have hf := (peF_fin a j n).2 h
  rw [peF_mul a h, der_conv, der_lin, conv_comm (peF a j n) (cst 1), one_conv, ev_add]
  have e1 : ev (n + 2) (conv (der (peF a j n)) (linF (a j))) (a j) = 0 := by
    rw [ev_conv (a j) (hf.der.mono (by omega)) (linF_fin (a j)), ev_lin, x_self, mu_zero]
  have e2 : ev (n + 2) (fun i => mu 1 (peF a j n i)) (a j) = ev (n + 2) (peF a j n) (a j) := S_congr fun i _ => by show mu (mu 1 _) _ = _; rw [one_mu]
  rw [e1, e2, zero_x, ev_more (a j) hf (by omega), ev_pe' h]

/-! Syndromes that points make. -/
def syP (a bv : Nat → UInt8) (N l : Nat) : UInt8 := S N (fun i => mu (bv i) (pwr (a i) l))
def geoF (x : UInt8) (m j : Nat) : UInt8 := if j < m then pwr x (m - 1 - j) else 0
theorem lin_geo (x : UInt8) (m j : Nat) : conv (linF x) (geoF x m) j = (if j = m then 1 else 0) ^^^ (if j = 0 then pwr x m else 0) := by
  cases j with
  | zero =>
    rw [lin_conv_zero, if_pos rfl]
    unfold geoF
    cases m with
    | zero => rw [if_neg (by omega), if_pos rfl, mu_zero]; exact (x_self 1).symm
    | succ m => rw [if_pos (by omega), if_neg (by omega), zero_x, Nat.add_sub_cancel, Nat.sub_zero, pwr, mu_comm]
  | succ j =>
    rw [lin_conv_succ, if_neg (show ¬ j + 1 = 0 by omega), x_zero]
    unfold geoF
    by_cases h1 : j + 1 < m
    · rw [if_pos h1, if_pos (by omega), if_neg (by omega), show m - 1 - j = (m - 1 - (j + 1)) + 1 by omega, pwr, mu_comm, x_self]
    · rw [if_neg h1, mu_zero, zero_x]
      by_cases h2 : j + 1 = m
      · rw [if_pos (by omega), if_pos h2, show m - 1 - j = 0 by omega]; rfl
      · rw [if_neg (by omega), if_neg h2]
theorem conv_Sum (f : Nat → UInt8) (n : Nat) (G : Nat → Nat → UInt8) (j : Nat) : conv f (fun i => S n (fun k => G k i)) j = S n (fun k => conv f (G k) j) := by
  unfold conv
  rw [← S_swap]
  exact S_congr fun i _ => mu_S _ _ _
/-- the turned one times all points' locator -/
theorem loc_turn {a bv : Nat → UInt8} {N m : Nat} (j : Nat) : conv (locF a N) (fun i => S N (fun k => mu (bv k) (geoF (a k) m i))) j = S N (fun k => mu (bv k) (shF m (peF a k N) j ^^^ mu (pwr (a k) m) (peF a k N j))) := by
  rw [conv_Sum]
  refine S_congr fun k hk => ?_
  rw [conv_smul]
  show mu (bv k) (conv (locF a N) (geoF (a k) m) j) = _
  congr 1
  have e : conv (linF (a k)) (geoF (a k) m) = addF (shF m (cst 1)) (cst (pwr (a k) m)) := by
    funext i
    rw [lin_geo, addF_at]
    congr 1
    by_cases h : m ≤ i
    · rw [shF_ge h]
      by_cases h2 : i = m
      · rw [if_pos h2, h2, Nat.sub_self, cst_zero]
      · rw [if_neg h2, cst_ne (by omega)]
    · rw [shF_low (by omega), if_neg (by omega)]
  rw [peF_mul a hk, conv_assoc, e, conv_add, addF_at, conv_shF, conv_comm _ (cst 1), one_conv, conv_comm _ (cst (pwr (a k) m)), one_conv]
  congr 1
  unfold shF
  split
  · exact one_mu _
  · rfl

end Go.Proofs.Ytlbachgbeefhcab.Gf

/-
  PLAIN MATHEMATICS: Euclid's steps on lists: where they begin, a step by a quotient and what is left, what is told at their end. No program's function is named here.
-/

namespace Go.Proofs.Ytlbachgbeefhcab.Gf
set_option linter.unusedVariables false
set_option linter.unusedSimpArgs false

/-- where Euclid's steps stand, as lists; e is known's degree -/
structure EuL (s known : List UInt8) (e : Nat) (r0 r1 v0 v1 : List UInt8) : Prop where
  eu : ∃ a b, Eu (keP s known) s.length (co r0) (co r1) (co v0) (co v1) a b ∧ s.length + e ≤ 2 * b ∧ v1.length = a + 1 ∧ r0.length = b + 1
  n1 : norm r1 = r1
  m1 : norm v1 = v1
theorem norm_tops {p : List UInt8} (h : norm p = p) (h0 : p.length ≠ 0) : co p (p.length - 1) ≠ 0 := by
  have hl : p.length = deg (co p) p.length := by
    have := congrArg List.length h
    unfold norm at this
    rw [mk_length] at this
    exact this.symm
  have := deg_top (co p) p.length (by rw [← hl]; exact h0)
  rwa [← hl] at this
theorem norm_of_top {p : List UInt8} (h : p.length ≠ 0 → co p (p.length - 1) ≠ 0) : norm p = p := by
  have hd : deg (co p) p.length = p.length := deg_unique (co_fin p) (co_fin p) h
  refine co_ext (by unfold norm; rw [mk_length, hd]) fun i _ => ?_
  rw [co_norm]
/-- the first numbers of a list, up to the top -/
theorem EuL.start {s known r1 x : List UInt8} {e : Nat} (he : e ≤ s.length) (hx : ∀ i, co x i = if i = s.length then 1 else 0) (hxl : x.length = s.length + 1) (hr : ∀ j, j < s.length → co r1 j = keP s known j) (hrl : r1.length ≤ s.length) (hn : norm r1 = r1) : EuL s known e x r1 [] [1] := by
  refine ⟨⟨0, s.length, ?_, by omega, rfl, hxl⟩, hn, by decide +kernel⟩
  have h := Eu.start (P := keP s known) (r1 := co r1) (m := s.length) (fun j hj => (hr j hj).symm) ((co_fin r1).mono hrl)
  have e1 : co x = fun i => if i = s.length then 1 else 0 := funext hx
  have e2 : co [] = fun _ => (0 : UInt8) := funext co_nil
  have e3 : co [1] = cst 1 := by
    funext j
    cases j with
    | zero => rfl
    | succ j => rw [cst_ne (by omega)]; rfl
  rw [e1, e2, e3]
  exact h
theorem EuL.step {s known r0 r1 v0 v1 q r : List UInt8} {e : Nat} (h : EuL s known e r0 r1 v0 v1) (hb : s.length + e + 2 ≤ 2 * r1.length) (hd : IsDiv r0 r1 q r) : EuL s known e r1 r v1 (addP v0 (mulP q v1)) := by
  obtain ⟨a, b, eu, h2, ha, hb0⟩ := h.eu
  have hne : r1.length ≠ 0 := by omega
  have ht := norm_tops h.n1 hne
  have hf : Fin0 (co r1) (r1.length - 1 + 1) := by rw [show r1.length - 1 + 1 = r1.length by omega]; exact co_fin r1
  have hdb : r1.length - 1 < b := by
    rcases Nat.lt_or_ge (r1.length - 1) b with h | h
    · exact h
    · exact absurd (eu.g1 _ h) ht
  have hless := hd.less
  rw [h.n1] at hless
  -- the quotient's length
  have hqf : Fin0 (co q) (b - (r1.length - 1) + 1) := by
    have hq := co_fin q
    by_cases hq0 : q.length = 0
    · exact hq.mono (by omega)
    · have hqt := norm_tops hd.ns hq0
      have htop := conv_top (f := co q) (g := co r1) (n := q.length - 1) (m := r1.length - 1) (by rw [show q.length - 1 + 1 = q.length by omega]; exact hq) hf
      rcases Nat.lt_or_ge b (q.length - 1 + (r1.length - 1)) with hlt | hge
      · have e1 := hd.eqn (q.length - 1 + (r1.length - 1))
        rw [eu.g0 _ (by omega), htop, co_ge (p := r) (by omega), x_zero] at e1
        exact absurd e1.symm (mu_ne hqt ht)
      · exact hq.mono (by omega)
  have st := eu.step hf ht hd.eqn hqf ((co_fin r).mono (by omega))
  have e1 : co (addP v0 (mulP q v1)) = addF (co v0) (conv (co q) (co v1)) := by rw [co_addP, co_mulP]
  have hl : (addP v0 (mulP q v1)).length = a + (b - (r1.length - 1)) + 1 := by
    unfold addP
    rw [mk_length]
    refine deg_unique (fin_add _ _) ?_ (fun _ => ?_)
    · rw [co_mulP]; exact st.f1
    · rw [co_mulP]; exact st.t1
  refine ⟨⟨a + (b - (r1.length - 1)), r1.length - 1, ?_, by omega, hl, by omega⟩, hd.nr, norm_mk (fin_add _ _)⟩
  rw [e1]
  exact st
/-- what is told at the end -/
theorem EuL.least {s known r0 r1 v0 v1 : List UInt8} {e : Nat} (h : EuL s known e r0 r1 v0 v1) (h1 : 2 * r1.length ≤ s.length + e + 1) (hr : r1.length ≤ e + (v1.length - 1)) :
    v1.length ≠ 0 ∧ co v1 (v1.length - 1) ≠ 0 ∧ LeastLoc (keP s known) s.length e (v1.length - 1) (fun j => mu (iv (co v1 (v1.length - 1))) (co v1 j)) := by
  obtain ⟨a, b, eu, h2, ha, hb0⟩ := h.eu
  have ea : v1.length - 1 = a := by omega
  rw [ea] at hr ⊢
  exact ⟨by omega, eu.t1, eu.least h2 (co_fin r1) h1 ((co_fin r1).mono hr)⟩
theorem EuL.none {s known r0 r1 v0 v1 : List UInt8} {e : Nat} (h : EuL s known e r0 r1 v0 v1) (h1 : 2 * r1.length ≤ s.length + e + 1) (hr : e + (v1.length - 1) < r1.length) : ∀ t L, 2 * t + e ≤ s.length → ¬ IsLoc (keP s known) s.length e t L := by
  obtain ⟨a, b, eu, h2, ha, hb0⟩ := h.eu
  refine eu.none h2 (co_fin r1) h1 fun hf => ?_
  have ea : v1.length - 1 = a := by omega
  rw [ea] at hr
  exact norm_tops h.n1 (by omega) (hf _ (by omega))
theorem EuL.fac {s known r0 r1 v0 v1 : List UInt8} {e : Nat} (h : EuL s known e r0 r1 v0 v1) : 1 ≤ v1.length ∧ v1.length ≤ s.length + 1 ∧ r0.length ≤ s.length + 1 ∧ r1.length < r0.length ∧ 2 * v1.length + e ≤ s.length + 2 := by
  obtain ⟨a, b, eu, h2, ha, hb0⟩ := h.eu
  have := eu.sum
  refine ⟨by omega, by omega, by omega, ?_, by omega⟩
  rcases Nat.lt_or_ge r1.length r0.length with h9 | h9
  · exact h9
  · exact absurd (eu.g1 _ (by omega)) (norm_tops h.n1 (by omega))
/-- a list times the inverse of its top -/
theorem mul_top {v : List UInt8} (h : v.length ≠ 0) (ht : co v (v.length - 1) ≠ 0) : mulP v [iv (co v (v.length - 1))] = upto (fun j => mu (iv (co v (v.length - 1))) (co v j)) (v.length - 1 + 1) := by
  obtain ⟨c, hc⟩ : ∃ c, c = iv (co v (v.length - 1)) := ⟨_, rfl⟩
  have hc0 : c ≠ 0 := fun e => by
    have := mu_iv ht
    rw [← hc, e, mu_zero] at this
    cases this
  rw [← hc]
  have e3 : co [c] = cst c := by
    funext j
    cases j with
    | zero => rfl
    | succ j => rw [cst_ne (by omega)]; rfl
  have e4 : conv (co v) (co [c]) = fun j => mu c (co v j) := by rw [e3, conv_comm, one_conv]
  have hf : Fin0 (fun j => mu c (co v j)) v.length := fun i hi => by show mu c (co v i) = 0; rw [co_ge hi, mu_zero]
  have hl : (mulP v [c]).length = v.length := by
    unfold mulP
    rw [mk_length, e4]
    exact deg_unique (hf.mono (by omega)) hf (fun _ => mu_ne hc0 ht)
  refine co_ext (by rw [hl, upto_length]; omega) fun i hi => ?_
  rw [hl] at hi
  rw [co_mulP, e4, upto, co_map_range _ (by omega)]

end Go.Proofs.Ytlbachgbeefhcab.Gf

/-
  PLAIN MATHEMATICS: what follows of polynomials, in the words of lists without noughts at their tops. No program is named here.
-/

namespace Go.Proofs.Ytlbachgbeefhcab.Gf
set_option linter.unusedVariables false
set_option linter.unusedSimpArgs false

theorem norm_eq_nil {p : List UInt8} : norm p = [] ↔ ∀ i, co p i = 0 := by
  constructor
  · intro h i
    rw [← co_norm p, h]; exact co_nil i
  · intro h
    have e : norm p = mk (fun _ => 0) 0 := mk_same (co_fin p) (fun _ _ => rfl) h
    rw [e]; rfl
theorem norm_length (p : List UInt8) : (norm p).length = deg (co p) p.length := mk_length _ _
theorem norm_length_le (p : List UInt8) : (norm p).length ≤ p.length := by rw [norm_length]; exact deg_le _ _
theorem norm_addP (p q : List UInt8) : norm (addP p q) = addP p q := norm_mk (fin_add p q)
theorem norm_mulP (p q : List UInt8) : norm (mulP p q) = mulP p q := norm_mk (fin_conv p q)
theorem norm_derP (p : List UInt8) : norm (derP p) = derP p := norm_mk (fin_der p)
theorem norm_norm (p : List UInt8) : norm (norm p) = norm p := norm_mk (co_fin p)
theorem addP_length (p q : List UInt8) : (addP p q).length ≤ p.length + q.length := by rw [addP, mk_length]; exact deg_le _ _
theorem mulP_length_le (p q : List UInt8) : (mulP p q).length ≤ p.length + q.length := by rw [mulP, mk_length]; exact deg_le _ _
theorem derP_length (p : List UInt8) : (derP p).length ≤ p.length := by rw [derP, mk_length]; exact deg_le _ _
/-- two lists whose numbers are the same ones serve as one -/
theorem addP_congr {p p' q q' : List UInt8} (hp : co p = co p') (hq : co q = co q') : addP p q = addP p' q' := mk_ext (fin_add _ _) (fin_add _ _) (by rw [hp, hq])
theorem mulP_congr {p p' q q' : List UInt8} (hp : co p = co p') (hq : co q = co q') : mulP p q = mulP p' q' := mk_ext (fin_conv _ _) (fin_conv _ _) (by rw [hp, hq])
theorem derP_congr {p p' : List UInt8} (hp : co p = co p') : derP p = derP p' := mk_ext (fin_der _) (fin_der _) (by rw [hp])
theorem addP_comm (p q : List UInt8) : addP p q = addP q p := mk_ext (fin_add _ _) (fin_add _ _) (by funext i; exact x_comm _ _)
theorem mulP_comm (p q : List UInt8) : mulP p q = mulP q p := mk_ext (fin_conv _ _) (fin_conv _ _) (conv_comm _ _)
theorem mulP_assoc (p q r : List UInt8) : mulP (mulP p q) r = mulP p (mulP q r) := mk_ext (fin_conv _ _) (fin_conv _ _) (by rw [co_mulP, co_mulP, conv_assoc])
theorem addP_assoc (p q r : List UInt8) : addP (addP p q) r = addP p (addP q r) := mk_ext (fin_add _ _) (fin_add _ _) (by rw [co_addP, co_addP]; funext i; exact x_assoc _ _ _)
theorem mulP_addP (p q r : List UInt8) : mulP p (addP q r) = addP (mulP p q) (mulP p r) := mk_ext (fin_conv _ _) (fin_add _ _) (by rw [co_addP, co_mulP, co_mulP, conv_add])
theorem derP_mulP (p q : List UInt8) : derP (mulP p q) = addP (mulP (derP p) q) (mulP p (derP q)) := mk_ext (fin_der _) (fin_add _ _) (by rw [co_mulP, co_mulP, co_mulP, co_derP, co_derP, der_conv])
theorem derP_addP (p q : List UInt8) : derP (addP p q) = addP (derP p) (derP q) := mk_ext (fin_der _) (fin_add _ _) (by rw [co_addP, co_derP, co_derP, der_add])
theorem add_back {p q s r : List UInt8} (h : IsDiv p q s r) : addP (mulP s q) r = norm p := mk_ext (fin_add _ _) (co_fin p) (by rw [co_mulP]; funext i; exact (h.eqn i).symm)

/-! Values. -/
theorem evP_more (p : List UInt8) (x : UInt8) {n : Nat} (h : Fin0 (co p) n) : evP p x = ev n (co p) x := by
  unfold evP
  by_cases e : n ≤ p.length
  · exact ev_more x h e
  · exact (ev_more x (co_fin p) (by omega)).symm
theorem evP_mulP (p q : List UInt8) (x : UInt8) : evP (mulP p q) x = mu (evP p x) (evP q x) := by
  rw [evP_more (mulP p q) x (n := p.length + q.length) (by rw [co_mulP]; exact fin_conv p q), co_mulP]
  exact ev_conv x (co_fin p) (co_fin q)
theorem evP_addP (p q : List UInt8) (x : UInt8) : evP (addP p q) x = evP p x ^^^ evP q x := by
  rw [evP_more (addP p q) x (n := p.length + q.length) (by rw [co_addP]; exact fin_add p q), co_addP, ev_add]
  rw [evP_more p x ((co_fin p).mono (by omega : p.length ≤ p.length + q.length)), evP_more q x ((co_fin q).mono (by omega : q.length ≤ p.length + q.length))]
theorem evP_norm (p : List UInt8) (x : UInt8) : evP (norm p) x = evP p x := by
  rw [evP_more (norm p) x (n := p.length) (by rw [co_norm]; exact co_fin p), co_norm]; rfl
theorem evP_nil (x : UInt8) : evP [] x = 0 := rfl
theorem evP_one (c x : UInt8) : evP [c] x = c := by
  show S 1 (fun i => mu (co [c] i) (pwr x i)) = c
  rw [S, S, zero_x]
  show mu c 1 = c
  exact mu_one c
theorem evP_root (x : UInt8) : evP [x, 1] x = 0 := by
  show S 2 (fun i => mu (co [x, 1] i) (pwr x i)) = 0
  rw [S, S, S, zero_x]
  show mu x 1 ^^^ mu 1 (mu 1 x) = 0
  rw [mu_one, one_mu, one_mu, x_self]
theorem norm_root (x : UInt8) : norm [x, 1] = [x, 1] := by
  have e : (norm [x, 1]).length = 2 := by
    rw [norm_length]
    show deg (co [x, 1]) 2 = 2
    rw [deg, if_neg (by show ¬ (1 : UInt8) = 0; decide)]
  exact co_ext (by rw [e]; rfl) fun i _ => by rw [co_norm]
theorem rest_root {p s r : List UInt8} {x : UInt8} (h : IsDiv p [x, 1] s r) : (r = [] ∧ evP p x = 0) ∨ (∃ c, r = [c] ∧ c = evP p x ∧ c ≠ 0) := by
  have hv : evP p x = evP r x := by
    rw [← evP_norm p x, ← add_back h, evP_addP, evP_mulP, evP_root, mu_zero, zero_x]
  have hl := h.less
  rw [norm_root] at hl
  match r, h, hv, hl with
  | [], h, hv, _ => exact Or.inl ⟨rfl, by rw [hv]; rfl⟩
  | [c], h, hv, _ =>
    refine Or.inr ⟨c, rfl, by rw [hv, evP_one], fun hc => ?_⟩
    have := h.nr
    rw [hc] at this
    exact absurd this (by decide +kernel)
  | _ :: _ :: _, _, _, hl => exact absurd hl (by simp)

/-! Degrees; a product divided. -/
theorem mulP_length (p q : List UInt8) : (mulP p q).length = if (norm p).length = 0 ∨ (norm q).length = 0 then 0 else (norm p).length + (norm q).length - 1 := by
  rw [mulP, mk_length, norm_length, norm_length]
  exact deg_conv (co_fin p) (co_fin q) (fin_conv p q)
theorem div_undo {p q : List UInt8} (hq : norm q ≠ []) : IsDiv (mulP p q) q (norm p) [] := by
  have hpos : 0 < (norm q).length := List.length_pos_iff.2 hq
  refine ⟨norm_norm p, by decide +kernel, fun i => ?_, hpos, ?_, Nat.zero_le _⟩
  · rw [co_mulP, co_norm, co_nil, x_zero]
  · rw [mulP_length]
    by_cases h : (norm p).length = 0
    · rw [h]; exact Nat.zero_le _
    · rw [if_neg (by omega)]; omega

end Go.Proofs.Ytlbachgbeefhcab.Gf

/-
  THE PROGRAM's 'upToTop' BY CONTRACT: a part of the slice itself, up to its top; memory stands.
-/



namespace Go.Proofs.Ytlbachgbeefhcab.Gf
set_option linter.unusedVariables false
set_option linter.unusedSimpArgs false
open Go.RowKit

theorem topg_step {f : Nat → UInt8} {k : Nat} (hk : 0 < k) (h : f (k - 1) = 0) : deg f k = deg f (k - 1) := by
  obtain ⟨j, rfl⟩ : ∃ j, k = j + 1 := ⟨k - 1, by omega⟩
  rw [Nat.add_sub_cancel] at h ⊢
  rw [deg, if_pos h]
theorem topg_stop {f : Nat → UInt8} {k : Nat} (h : k = 0 ∨ f (k - 1) ≠ 0) : deg f k = k := by
  match k, h with
  | 0, _ => rfl
  | j + 1, h =>
    rw [Nat.add_sub_cancel] at h
    rw [deg, if_neg (by simpa using h)]
def lenV : Value → Nat
  | .slice _ n _ => n
  | _ => 0

set_option maxRecDepth 100000 in
set_option maxHeartbeats 1000000 in
theorem top_main (b off c : Nat) (p : List UInt8) (w : World) (hl : p.length ≤ 140737488355328) (hm : p.length ≤ c) (hcm : c ≤ maxLen)
    (hp : ∀ i, i < p.length → w.cell? ⟨b, off + i, none⟩ = some (.int .u8 ((co p i).toNat : Nat))) :
    Calls Try.prog 19 #[.slice (some ⟨b, off, none⟩) p.length c] w fun e w' => e = .returned (.slice (some ⟨b, off, none⟩) (norm p).length c) ∧ w' = w := by
  unfold maxLen at hcm
  go_enter Try.func19, Try.ntmps19
  go_wp2
  go_loop [0] (fun v => ∃ k : Nat, k ≤ p.length ∧ v = .slice (some ⟨b, off, none⟩) k c ∧ Hid (deg (co p) p.length = deg (co p) k)) (fun v => lenV v)
  case atStart => exact ⟨p.length, Nat.le_refl _, rfl, rfl⟩
  case round =>
    obtain ⟨k, hk, rfl, hd⟩ := hrel
    by_cases hgo : 0 < k ∧ co p (k - 1) = 0
    · obtain ⟨h0, hz⟩ := hgo
      have c1 : w.cell? ⟨b, off + (k - 1), none⟩ = some (.int .u8 0) := by rw [hp (k - 1) (by omega), hz]; rfl
      have HD : Hid (deg (co p) p.length = deg (co p) (k - 1)) := by show _ = _; rw [hd.out]; exact topg_step h0 hz
      clear hz hd
      go_wp2
      go_round
      case rel => exact ⟨k - 1, by omega, by go_num, HD⟩
      case measure => simp [lenV]; omega
    · have hstop : k = 0 ∨ co p (k - 1) ≠ 0 := by
        by_cases h0 : k = 0
        · exact Or.inl h0
        · exact Or.inr (fun h => hgo ⟨by omega, h⟩)
      have HK : Hid ((norm p).length = k) := by show _ = _; rw [norm_length, hd.out]; exact topg_stop hstop
      clear hd hgo
      by_cases h0 : k = 0
      · subst h0
        clear hp hstop
        go_wp2
        go_ret
        exact ⟨by rw [HK.out]; rfl, rfl⟩
      · have hne := hstop.resolve_left h0
        have c1 := hp (k - 1) (by omega)
        have c2 : ((((co p (k - 1)).toNat : Nat) : Int) == 0) = false := by rw [eq_u8_zero]; simpa using hne
        clear hne hstop hp
        go_wp2
        go_ret
        exact ⟨by rw [HK.out]; rfl, rfl⟩

set_option maxRecDepth 100000 in
set_option maxHeartbeats 1000000 in
theorem top_nil (ao : Option Addr) (c : Nat) (w : World) :
    Calls Try.prog 19 #[.slice ao 0 c] w fun e w' => e = .returned (.slice ao 0 c) ∧ w' = w := by
  go_enter Try.func19, Try.ntmps19
  go_wp2
  go_loop [0] (fun v => v = .slice ao 0 c) (fun v => 0)
  case atStart => rfl
  case round =>
    subst hrel
    go_wp2
    go_ret
    exact ⟨rfl, rfl⟩

theorem Rd.n {w : World} {ao : Option Addr} {n c : Nat} {p : List UInt8} (h : Rd w (.slice ao n c) p) : n = p.length := by
  obtain ⟨a, c', e⟩ := h.form
  simp at e
  exact e.2.1
/-- A slice, and the first numbers of it. -/
theorem Rd.part {w : World} {ao : Option Addr} {n c : Nat} {p : List UInt8} (h : Rd w (.slice ao n c) p) : Rd w (.slice ao (norm p).length c) (norm p) := by
  by_cases h0 : norm p = []
  · rw [h0]
    rcases h with ⟨a, c', e1, e2, hc, hn⟩ | ⟨b, off, c', hp0, e2, h1, h2, h3, hpc⟩
    · simp at e2; obtain ⟨rfl, _, rfl⟩ := e2
      exact Or.inl ⟨_, _, rfl, rfl, hc, hn⟩
    · simp at e2; obtain ⟨rfl, rfl, rfl⟩ := e2
      exact Or.inl ⟨_, _, rfl, rfl, h2, fun h => by cases h⟩
  · have hle := norm_length_le p
    rcases h with ⟨a, c', e1, e2, hc, hn⟩ | ⟨b, off, c', hp0, e2, h1, h2, h3, hpc⟩
    · subst e1; exact absurd rfl h0
    · simp at e2; obtain ⟨rfl, rfl, rfl⟩ := e2
      exact Or.inr ⟨b, off, _, h0, rfl, Nat.le_trans hle h1, h2, h3, fun i hi => by rw [co_norm]; exact hpc i (Nat.lt_of_lt_of_le hi hle)⟩

theorem top_any {ao : Option Addr} {n c : Nat} {p : List UInt8} {w : World} (hp : Rd w (.slice ao n c) p) (hl : p.length ≤ 140737488355328) :
    Calls Try.prog 19 #[.slice ao n c] w fun e w' => e = .returned (.slice ao (norm p).length c) ∧ w' = w := by
  have hn := hp.n
  subst hn
  rcases hp with ⟨a, c', rfl, e2, hc, hn⟩ | ⟨b, off, c', hp0, e2, h1, h2, h3, hpc⟩
  · exact top_nil ao c w
  · simp at e2; obtain ⟨rfl, rfl⟩ := e2
    exact top_main b off _ p w hl h1 h2 hpc

end Go.Proofs.Ytlbachgbeefhcab.Gf

/-
  THE PROGRAM's 'add' BY CONTRACT: terms are added, place by place, to a part of a row of the caller's own; nothing but that row turns.
-/


namespace Go.Proofs.Ytlbachgbeefhcab.Gf
set_option linter.unusedVariables false
set_option linter.unusedSimpArgs false
open Go.RowKit

/-- q added to f, o places higher -/
def addAt (f : Nat → UInt8) (o : Nat) (q : List UInt8) (t : Nat) : UInt8 := f t ^^^ (if o ≤ t then co q (t - o) else 0)
/-- the first k numbers of it -/
def addK (f : Nat → UInt8) (o : Nat) (q : List UInt8) (k t : Nat) : UInt8 := f t ^^^ (if o ≤ t ∧ t < o + k then co q (t - o) else 0)
theorem addK_zero (f : Nat → UInt8) (o : Nat) (q : List UInt8) : addK f o q 0 = f := by
  funext t; unfold addK; rw [if_neg (by omega), x_zero]
theorem addK_whole (f : Nat → UInt8) (o : Nat) (q : List UInt8) : addK f o q q.length = addAt f o q := by
  funext t; unfold addK addAt
  by_cases h : o ≤ t
  · rw [if_pos h]
    by_cases h2 : t < o + q.length
    · rw [if_pos ⟨h, h2⟩]
    · rw [if_neg (by omega), co_ge (by omega)]
  · rw [if_neg h, if_neg (by omega)]
theorem addK_step (f : Nat → UInt8) (o : Nat) (q : List UInt8) (k t : Nat) : addK f o q (k + 1) t = if t = o + k then addK f o q k (o + k) ^^^ co q k else addK f o q k t := by
  by_cases e : t = o + k
  · subst e
    rw [if_pos rfl]
    unfold addK
    rw [if_pos (by omega), if_neg (by omega), x_zero, show o + k - o = k by omega]
  · rw [if_neg e]
    unfold addK
    by_cases h : o ≤ t ∧ t < o + k
    · rw [if_pos h, if_pos (by omega)]
    · rw [if_neg h, if_neg (by omega)]
def addAll (f : Nat → UInt8) (o : Nat) (ts : List (Value × List UInt8)) : Nat → UInt8 := ts.foldl (fun f x => addAt f o x.2) f
theorem addAll_step (f : Nat → UInt8) (o : Nat) (ts : List (Value × List UInt8)) {j : Nat} {x : Value × List UInt8} (h : ts[j]? = some x) : addAll f o (ts.take (j + 1)) = addAt (addAll f o (ts.take j)) o x.2 := by
  unfold addAll
  rw [List.take_add_one, h]
  simp

set_option maxRecDepth 100000 in
set_option maxHeartbeats 2000000 in
theorem sum_into {w : World} {base u g L C o n c tb tc : Nat} {f : Nat → UInt8} (ts : List (Value × List UInt8)) (hR : RowF w base u g L C f) (ho : o + n ≤ L) (hn : n ≤ 140737488355328) (hL : L ≤ 140737488355328) (htb : tb ≠ g) (htl : ts.length ≤ 1000)
    (hts : ∀ j x, ts[j]? = some x → w.cell? ⟨tb, j, none⟩ = some x.1 ∧ Rd w x.1 x.2 ∧ Apart g x.1 ∧ x.2.length ≤ n) :
    Calls Try.prog 20 #[.slice (some ⟨g, o, none⟩) n c, .slice (some ⟨tb, 0, none⟩) ts.length tc] w fun e w' => e = .returned (.tuple #[]) ∧ Only g w w' ∧ RowF w' base u g L C (addAll f o ts) := by
  go_enter Try.func20, Try.ntmps20
  go_wp2
  go_loopw [9] (fun i wr => ∃ j : Nat, j ≤ ts.length ∧ i = .int .i64 j ∧ Only g w wr ∧ RowF wr base u g L C (addAll f o (ts.take j))) (fun i _ => ts.length - (intOf i).toNat)
  case atStart => exact ⟨0, by omega, rfl, Only.refl _ _, hR⟩
  case round =>
    obtain ⟨j, hj, rfl, hO, hRj⟩ := hrel
    clear hR
    by_cases hlt : j < ts.length
    · obtain ⟨x, hx⟩ : ∃ x, ts[j]? = some x := ⟨_, List.getElem?_eq_getElem hlt⟩
      obtain ⟨c0, hrd, hap, hxl⟩ := hts j x hx
      have HS := addAll_step f o ts hx
      have HS' : Hid _ := HS
      obtain ⟨v, q⟩ := x
      clear HS hts hx
      have c1 : wr.cell? ⟨tb, j, none⟩ = some v := (hO.cell (p := ⟨tb, j, none⟩) htb).trans c0
      clear c0
      obtain ⟨fj, hfj⟩ : ∃ fj, fj = addAll f o (ts.take j) := ⟨_, rfl⟩
      rw [← hfj] at hRj HS'
      clear hfj
      have R0 : RowF wr base u g L C (addK fj o q 0) := by rw [addK_zero]; exact hRj
      clear hRj
      simp only at hrd hap hxl HS'
      rcases hrd with ⟨a, cc, rfl, rfl, hc, hnn⟩ | ⟨b, off, cc, hq0, rfl, h1, h2, h3, hqc⟩
      · go_wp2
        go_loopw [15] (fun i w2 => i = .int .i64 0 ∧ w2 = wr) (fun _ _ => 0)
        case atStart => exact ⟨rfl, rfl⟩
        case round =>
          obtain ⟨rfl, rfl⟩ := hrel
          go_wp2
          go_roundw
          case rel => exact ⟨j + 1, by omega, by go_num, hO, by rw [HS'.out, ← addK_whole]; exact R0⟩
          case measure => simp [intOf]; omega
      · have hb : b ≠ g := by
          rcases hap _ _ _ rfl with e | e
          · exact absurd (List.length_eq_zero_iff.1 e) hq0
          · exact e
        clear hap
        go_wp2
        go_loopw [15] (fun i w2 => ∃ l : Nat, l ≤ q.length ∧ i = .int .i64 l ∧ Only g w w2 ∧ RowF w2 base u g L C (addK fj o q l)) (fun i _ => q.length - (intOf i).toNat)
        case atStart => exact ⟨0, by omega, rfl, hO, R0⟩
        case round =>
          obtain ⟨l, hll, rfl, hO2, hR2⟩ := hrel
          clear R0 hO c1
          by_cases hl3 : l < q.length
          · obtain ⟨t, ht⟩ : ∃ t, Hid (t = o + l) := ⟨_, rfl⟩
            have ht' := ht.out
            have htl2 : t < L := by omega
            have k1 := hR2.cell htl2
            have f1 := hR2.unfrozen t
            have k3 := (hO2.cell (p := ⟨b, off + l, none⟩) hb).trans (hqc l hl3)
            have E := xor_u8 (addK fj o q l t) (co q l)
            have N1 : Hid (RowF (wr.setCell ⟨g, t, none⟩ (.int .u8 (((addK fj o q l t).toNat ^^^ (co q l).toNat : Nat) : Int))) base u g L C (addK fj o q (l + 1))) := by
              rw [← UInt8.toNat_xor]; exact hR2.store htl2 _ (by rw [ht']; exact addK_step fj o q l)
            have N2 : Hid (Only g w (wr.setCell ⟨g, t, none⟩ (.int .u8 (((addK fj o q l t).toNat ^^^ (co q l).toNat : Nat) : Int)))) := hO2.setCell t _
            rw [ht'] at k1 f1 E N1 N2
            clear hqc hR2 hO2 ht ht' htl2
            go_wp2
            go_region
            go_wp2
            go_roundw
            case rel => exact ⟨l + 1, by omega, by go_num, N2.out.drew, N1.out.drew⟩
            case measure => simp [intOf]; omega
          · have e : l = q.length := by omega
            subst e
            clear hqc
            go_wp2
            go_roundw
            case rel => exact ⟨j + 1, by omega, by go_num, hO2, by rw [HS'.out, ← addK_whole]; exact hR2⟩
            case measure => simp [intOf]; omega
    · have e : j = ts.length := by omega
      subst e
      rw [List.take_length] at hRj
      clear hts
      go_wp2
      go_end0
      exact ⟨rfl, hO, hRj⟩

/-- the same where the list of terms has just been made -/
theorem sum_terms {w : World} {base u g L C o n c k kc : Nat} {f : Nat → UInt8} {tt : TypeId} {cs : Array Value} (ts : List (Value × List UInt8)) (hR : RowF w base u g L C f) (ho : o + n ≤ L) (hL : L ≤ 140737488355328) (hcs : cs.toList = ts.map (·.1)) (hk : k = ts.length) (htl : ts.length ≤ 1000)
    (hts : ∀ x ∈ ts, Rd w x.1 x.2 ∧ Apart g x.1 ∧ x.2.length ≤ n) :
    Calls Try.prog 20 #[.slice (some ⟨g, o, none⟩) n c, .slice (some ⟨w.heap.size, 0, none⟩) k kc] (w.alloc (.cells cs tt)) fun e w' => e = .returned (.tuple #[]) ∧ Only g (w.alloc (.cells cs tt)) w' ∧ RowF w' base u g L C (addAll f o ts) := by
  subst hk
  have hB : Below w.heap.size w (w.alloc (.cells cs tt)) := (Below.refl _ _).alloc (Nat.le_refl _) _
  have hg := hR.lt
  refine sum_into ts (hR.later hB) ho (by omega) hL (by omega) htl fun j x hx => ?_
  obtain ⟨h1, h2, h3⟩ := hts x (List.mem_of_getElem? hx)
  refine ⟨?_, h1.below hB, h2, h3⟩
  rw [World.cell?_alloc_new, ← Array.getElem?_toList, hcs, List.getElem?_map, hx]
  rfl

end Go.Proofs.Ytlbachgbeefhcab.Gf

/-
  THE PROGRAM's 'Norm' AND 'Add' BY CONTRACT.
-/

namespace Go.Proofs.Ytlbachgbeefhcab.Gf
set_option linter.unusedVariables false
set_option linter.unusedSimpArgs false
open Go.RowKit

theorem addAll_one (v : Value) (p : List UInt8) : addAll (fun _ => 0) 0 [(v, p)] = co p := by
  funext t
  simp [addAll, addAt]
theorem addAll_two (v v' : Value) (p q : List UInt8) : addAll (fun _ => 0) 0 [(v, p), (v', q)] = addF (co p) (co q) := by
  funext t
  simp [addAll, addAt, addF]

set_option maxRecDepth 100000 in
set_option maxHeartbeats 1000000 in
theorem pnorm_own {v : Value} {p : List UInt8} {w : World} (hp : Rd w v p) (hl : p.length ≤ 140737488355328) :
    Calls Try.prog 14 #[v] w fun e w' => e = .returned (.slice (some ⟨w.heap.size, 0, none⟩) (norm p).length (norm p).length) ∧ RowF w' w.heap.size 5 w.heap.size (norm p).length (norm p).length (co p) ∧ Below w.heap.size w w' := by
  obtain ⟨i0, hi, hz0, hz1, hz2⟩ := info_parts info_u8
  obtain ⟨ao, c, rfl⟩ := hp.form
  have hP := hp.part
  have hle := norm_length_le p
  have HC := co_norm p
  have HC' : Hid _ := HC
  clear HC
  go_enter Try.func14, Try.ntmps14
  go_wp2_with fail
  refine (top_any hp hl).mono ?_
  rintro e w ⟨rfl, rfl⟩
  obtain ⟨q, hq⟩ : ∃ q, q = norm p := ⟨_, rfl⟩
  rw [← hq] at hP hle HC'
  simp only [← hq]
  have HQ : Hid (q = norm p) := hq
  clear hq
  go_wp2_with (at_make; go_loud (refine wpList_make_full _ rfl (.tmp 7) (.tmp 7) 22 rfl w.heap.size 5 i0 (.int .u8 0) 1 Try.underlying22 hi hz0 hz1 _ _ _ _ q.length rfl rfl (by omega) (by omega) (by rw [hz2]; omega) (by unfold maxLen; omega) (Nat.le_refl _) ?_); intro w1 hown1 hgrow1)
  have R1 := RowF.made hown1
  have B1 : Below w.heap.size w w1 := (Below.refl _ _).grown hgrow1 (Nat.le_refl _) (fun k h => by cases h)
  clear hown1 hgrow1
  have hA : Apart w.heap.size (.slice ao q.length c) := hP.apart (Nat.le_refl _)
  have hP1 := hP.below B1
  go_wp2_with (go_at_call 20; refine (sum_terms [(.slice ao q.length c, q)] R1 (by omega) (by omega) rfl rfl (by simp) (by intro x hx; simp at hx; subst hx; exact ⟨hP1, hA, Nat.le_refl _⟩)).mono ?_; rintro e w' ⟨rfl, hO, hR⟩)
  go_ret
  rw [addAll_one, HC'.out] at hR
  exact ⟨by rw [← HQ.out]; rfl, by rw [← HQ.out]; exact hR, (below_lit B1 _).trans (hO.below (Nat.le_refl _))⟩

theorem pnorm_far {v : Value} {p : List UInt8} {w : World} (hp : Rd w v p) (hl : p.length ≤ 140737488355328) :
    Calls Try.prog 14 #[v] w (MakesF w (norm p)) := by
  refine (pnorm_own hp hl).mono ?_
  rintro e w' ⟨rfl, hR, hB⟩
  have e1 : upto (co p) (norm p).length = norm p := co_ext (upto_length _ _) fun i hi => by
    rw [upto_length] at hi; rw [co_norm]; exact co_map_range _ hi
  exact ⟨_, rfl, by have := hR.rd; rwa [e1] at this, hB, far_some (Nat.le_refl _)⟩
theorem pnorm_any {v : Value} {p : List UInt8} {w : World} (hp : Rd w v p) (hl : p.length ≤ 140737488355328) :
    Calls Try.prog 14 #[v] w (Makes w (norm p)) := (pnorm_far hp hl).mono fun _ _ h => h.plain

set_option maxRecDepth 100000 in
set_option maxHeartbeats 1000000 in
theorem padd_far {va vq : Value} {p q : List UInt8} {w : World} (hp : Rd w va p) (hq : Rd w vq q) (hl : p.length ≤ 400000) (hl2 : q.length ≤ 400000) :
    Calls Try.prog 25 #[va, vq] w (MakesF w (addP p q)) := by
  obtain ⟨i0, hi, hz0, hz1, hz2⟩ := info_parts info_u8
  obtain ⟨ao, c, rfl⟩ := hp.form
  obtain ⟨ao', c', rfl⟩ := hq.form
  obtain ⟨n, hn⟩ : ∃ n, (p.length < q.length ∧ n = q.length) ∨ (¬ p.length < q.length ∧ n = p.length) := by
    by_cases h : p.length < q.length
    · exact ⟨_, Or.inl ⟨h, rfl⟩⟩
    · exact ⟨_, Or.inr ⟨h, rfl⟩⟩
  have hpn : p.length ≤ n := by omega
  have hqn : q.length ≤ n := by omega
  have hnn : n ≤ 400000 := by omega
  have HN : Hid (norm (upto (addF (co p) (co q)) n) = addP p q) := norm_upto (((co_fin p).mono (by omega)).add ((co_fin q).mono (by omega))) (fin_add p q)
  have HU : Hid ((upto (addF (co p) (co q)) n).length = n) := upto_length _ _
  rcases hn with ⟨hlt, rfl⟩ | ⟨hlt, rfl⟩
  · go_enter Try.func25, Try.ntmps25
    go_wp2_with (at_make; go_loud (refine wpList_make_full _ rfl (.tmp 10) (.tmp 10) 22 rfl w.heap.size 5 i0 (.int .u8 0) 1 Try.underlying22 hi hz0 hz1 _ _ _ _ q.length rfl rfl (by omega) (by omega) (by rw [hz2]; omega) (by unfold maxLen; omega) (Nat.le_refl _) ?_); intro w1 hown1 hgrow1)
    have R1 := RowF.made hown1
    have B1 : Below w.heap.size w w1 := (Below.refl _ _).grown hgrow1 (Nat.le_refl _) (fun k h => by cases h)
    clear hown1 hgrow1
    have hA := hp.apart (Nat.le_refl _)
    have hA2 := hq.apart (Nat.le_refl _)
    have hP1 := hp.below B1
    have hQ1 := hq.below B1
    go_wp2_with fail
    refine (sum_terms [(.slice ao p.length c, p), (.slice ao' q.length c', q)] R1 (by omega) (by omega) rfl rfl (by simp) (by intro x hx; simp at hx; rcases hx with rfl | rfl; exact ⟨hP1, hA, hpn⟩; exact ⟨hQ1, hA2, hqn⟩)).mono ?_
    rintro e w' ⟨rfl, hO, hR⟩
    rw [addAll_two] at hR
    have B2 := (below_lit B1 _).trans (hO.below (Nat.le_refl _))
    have hRd := hR.rd
    clear hR hO hP1 hQ1
    have hRN := hRd.part
    go_wp2_with fail
    refine (top_any hRd (by rw [HU.out]; omega)).mono ?_
    rintro e w'' ⟨rfl, rfl⟩
    go_wp2
    go_ret
    rw [← HN.out]
    exact ⟨_, rfl, hRN, B2, far_some (Nat.le_refl _)⟩
  · go_enter Try.func25, Try.ntmps25
    go_wp2_with (at_make; go_loud (refine wpList_make_full _ rfl (.tmp 10) (.tmp 10) 22 rfl w.heap.size 5 i0 (.int .u8 0) 1 Try.underlying22 hi hz0 hz1 _ _ _ _ p.length rfl rfl (by omega) (by omega) (by rw [hz2]; omega) (by unfold maxLen; omega) (Nat.le_refl _) ?_); intro w1 hown1 hgrow1)
    have R1 := RowF.made hown1
    have B1 : Below w.heap.size w w1 := (Below.refl _ _).grown hgrow1 (Nat.le_refl _) (fun k h => by cases h)
    clear hown1 hgrow1
    have hA := hp.apart (Nat.le_refl _)
    have hA2 := hq.apart (Nat.le_refl _)
    have hP1 := hp.below B1
    have hQ1 := hq.below B1
    go_wp2_with fail
    refine (sum_terms [(.slice ao p.length c, p), (.slice ao' q.length c', q)] R1 (by omega) (by omega) rfl rfl (by simp) (by intro x hx; simp at hx; rcases hx with rfl | rfl; exact ⟨hP1, hA, hpn⟩; exact ⟨hQ1, hA2, hqn⟩)).mono ?_
    rintro e w' ⟨rfl, hO, hR⟩
    rw [addAll_two] at hR
    have B2 := (below_lit B1 _).trans (hO.below (Nat.le_refl _))
    have hRd := hR.rd
    clear hR hO hP1 hQ1
    have hRN := hRd.part
    go_wp2_with fail
    refine (top_any hRd (by rw [HU.out]; omega)).mono ?_
    rintro e w'' ⟨rfl, rfl⟩
    go_wp2
    go_ret
    rw [← HN.out]
    exact ⟨_, rfl, hRN, B2, far_some (Nat.le_refl _)⟩
theorem padd_any {va vq : Value} {p q : List UInt8} {w : World} (hp : Rd w va p) (hq : Rd w vq q) (hl : p.length ≤ 400000) (hl2 : q.length ≤ 400000) :
    Calls Try.prog 25 #[va, vq] w (Makes w (addP p q)) := (padd_far hp hq hl hl2).mono fun _ _ h => h.plain

end Go.Proofs.Ytlbachgbeefhcab.Gf

/-
  THE FIELD's PRODUCTS BY CONTRACT, on a field that stands in memory; the world stands, but for draws.
-/

namespace Go.Proofs.Ytlbachgbeefhcab.Gf
set_option linter.unusedVariables false
open Go.RowKit

set_option maxRecDepth 100000 in
theorem filled_any (b : Nat) (w : World) (hF : FieldAt w b) :
    Calls Try.prog 13 #[.pointer (some ⟨b, 0, none⟩)] w fun e w' => e = .returned (.pointer (some ⟨b, 0, none⟩)) ∧ w' = w := by
  have h0 : w.cell? ⟨b, 0, none⟩ = some (.int .u8 1) := by rw [hF.powers 0 (by omega), pw_zero]; rfl
  go_enter Try.func13, Try.ntmps13
  go_wp2
  go_ret
  exact ⟨rfl, rfl⟩

set_option maxRecDepth 100000 in
theorem mul_zero_l (b c : Nat) (w : World) :
    Calls Try.prog 6 #[.pointer (some ⟨b, 0, none⟩), .int .u8 0, .int .u8 c] w fun e w' => e = .returned (.int .u8 0) ∧ w' = w := by
  go_enter Try.func6, Try.ntmps6
  go_wp2
  go_ret
  exact ⟨rfl, rfl⟩

set_option maxRecDepth 100000 in
theorem mul_zero_r (b a : Nat) (w : World) (ha : a ≠ 0) :
    Calls Try.prog 6 #[.pointer (some ⟨b, 0, none⟩), .int .u8 a, .int .u8 0] w fun e w' => e = .returned (.int .u8 0) ∧ w' = w := by
  go_enter Try.func6, Try.ntmps6
  go_wp2
  go_ret
  exact ⟨rfl, rfl⟩

set_option maxRecDepth 100000 in
set_option maxHeartbeats 1000000 in
theorem mul_main (b a c : Nat) (w : World) (hF : FieldAt w b) (ha0 : a ≠ 0) (hc0 : c ≠ 0) (ha : a < 256) (hc : c < 256) :
    Calls Try.prog 6 #[.pointer (some ⟨b, 0, none⟩), .int .u8 a, .int .u8 c] w fun e w' => e = .returned (.int .u8 (pw ((lg a + lg c) % 255) : Nat)) ∧ ∃ n, w' = w.drewN n := by
  have ka : ((a : Int) == 0) = false := by simpa using ha0
  have kc : ((c : Int) == 0) = false := by simpa using hc0
  have h1 := hF.places a ha
  have h2 := hF.places c hc
  have l1 := lg_lt ha
  have l2 := lg_lt hc
  have h3 := hF.powers ((lg a + lg c) % 255) (Nat.mod_lt _ (by decide))
  go_enter Try.func6, Try.ntmps6
  go_wp2_with (go_at_call 13; go_must (refine (filled_any b _ hF).mono ?_); rintro e w' ⟨rfl, rfl⟩)
  go_quiet (fail)
  go_wp2
  go_ret
  exact ⟨rfl, _, rfl⟩

theorem mul_any (b a c : Nat) (w : World) (hF : FieldAt w b) (ha : a < 256) (hc : c < 256) :
    Calls Try.prog 6 #[.pointer (some ⟨b, 0, none⟩), .int .u8 a, .int .u8 c] w fun e w' => e = .returned (.int .u8 (mulS a c : Nat)) ∧ ∃ n, w' = w.drewN n := by
  by_cases ha0 : a = 0
  · subst ha0
    exact (mul_zero_l b c w).mono fun e w' ⟨he, hw⟩ => ⟨by rw [he]; simp [mulS], 0, hw⟩
  · by_cases hc0 : c = 0
    · subst hc0
      exact (mul_zero_r b a w ha0).mono fun e w' ⟨he, hw⟩ => ⟨by rw [he]; simp [mulS], 0, hw⟩
    · exact (mul_main b a c w hF ha0 hc0 ha hc).mono fun e w' ⟨he, hw⟩ => ⟨by rw [he]; simp [mulS, ha0, hc0], hw⟩

theorem FieldAt.drewN {w : World} {b : Nat} (h : FieldAt w b) (n : Nat) : FieldAt (w.drewN n) b := h.own ((Own.refl w).drewN n)

/-! The same, at numbers that are written as they stand (the walk then need not see that a number is a cast one). -/
theorem mul_at {b : Nat} {x y : Int} {w : World} (hF : FieldAt w b) (a c : Nat) (hx : x = a) (hy : y = c) (ha : a < 256) (hc : c < 256) :
    Calls Try.prog 6 #[.pointer (some ⟨b, 0, none⟩), .int .u8 x, .int .u8 y] w fun e w' => e = .returned (.int .u8 (mulS a c : Nat)) ∧ ∃ n, w' = w.drewN n := by
  subst hx hy; exact mul_any b a c w hF ha hc

end Go.Proofs.Ytlbachgbeefhcab.Gf

/-
  SMALL CALLEES OF THE STATEMENTS OF LAYER 2 BY CONTRACT: a product of two bytes.
-/

namespace Go.Proofs.Ytlbachgbeefhcab.Gf
set_option linter.unusedVariables false
set_option linter.unusedSimpArgs false
open Go.RowKit

theorem u8_byte {x : Int} (h : (Lit.int .u8 x).wf = true) : ∃ a : UInt8, x = ((a.toNat : Nat) : Int) := by
  have := bounds_u8 h
  exact ⟨UInt8.ofNat x.toNat, by rw [ofNat_u8 (by omega)]; omega⟩
theorem rd_nil_any {w : World} : Rd w (.slice none 0 0) [] := Or.inl ⟨none, 0, rfl, rfl, Nat.zero_le _, fun _ => rfl⟩
theorem fmu_at {b : Nat} {w : World} (hF : FieldAt w b) (a c : UInt8) {x y : Int} (hx : x = ((a.toNat : Nat) : Int)) (hy : y = ((c.toNat : Nat) : Int)) :
    Calls Try.prog 6 #[.pointer (some ⟨b, 0, none⟩), .int .u8 x, .int .u8 y] w fun e w' => e = .returned (.int .u8 ((mu a c).toNat : Nat)) ∧ Below w.heap.size w w' := by
  rw [mu_toNat]
  exact (mul_at hF a.toNat c.toNat hx hy (u8_lt a) (u8_lt c)).mono fun e w' ⟨he, n, hw⟩ => ⟨he, by rw [hw]; exact below_draws w n⟩

end Go.Proofs.Ytlbachgbeefhcab.Gf

/-
  THE PROGRAM's 'times' BY CONTRACT: each number times one, in a row of its own.
-/

namespace Go.Proofs.Ytlbachgbeefhcab.Gf
set_option linter.unusedVariables false
set_option linter.unusedSimpArgs false
open Go.RowKit

/-- the first k multiples -/
def tk (q : Nat → UInt8) (a : UInt8) (k t : Nat) : UInt8 := if t < k then mu (q t) a else 0
theorem tk_zero (q : Nat → UInt8) (a : UInt8) (t : Nat) : tk q a 0 t = 0 := if_neg (by omega)
theorem tk_step (q : Nat → UInt8) (a : UInt8) (k t : Nat) : tk q a (k + 1) t = if t = k then mu (q k) a else tk q a k t := by
  unfold tk
  by_cases e : t = k
  · subst e; rw [if_pos (by omega), if_pos rfl]
  · rw [if_neg e]
    by_cases h2 : t < k
    · rw [if_pos h2, if_pos (by omega)]
    · rw [if_neg h2, if_neg (by omega)]
def mulBy (q : List UInt8) (a : UInt8) : List UInt8 := upto (fun t => mu (co q t) a) q.length
theorem mulBy_length (q : List UInt8) (a : UInt8) : (mulBy q a).length = q.length := upto_length _ _
theorem co_mulBy (q : List UInt8) (a : UInt8) (t : Nat) : co (mulBy q a) t = mu (co q t) a :=
  co_upto (k := q.length) (f := fun t => mu (co q t) a) (fun i hi => by show mu (co q i) a = 0; rw [co_ge hi, zero_mu]) t

set_option maxRecDepth 100000 in
set_option maxHeartbeats 1000000 in
theorem times_main (b b' off' c' : Nat) (q : List UInt8) (a : UInt8) (w : World) (hF : FieldAt w b) (hl : q.length ≤ 400000) (hb : b' < w.heap.size)
    (hqc : ∀ i, i < q.length → w.cell? ⟨b', off' + i, none⟩ = some (.int .u8 ((co q i).toNat : Nat))) :
    Calls Try.prog 21 #[.pointer (some ⟨b, 0, none⟩), .slice (some ⟨b', off', none⟩) q.length c', .int .u8 ((a.toNat : Nat) : Int)] w fun e w' =>
      e = .returned (.slice (some ⟨w.heap.size, 0, none⟩) q.length q.length) ∧ RowF w' w.heap.size 5 w.heap.size q.length q.length (fun t => mu (co q t) a) ∧ Below w.heap.size w w' := by
  obtain ⟨i0, hi, hz0, hz1, hz2⟩ := info_parts info_u8
  go_enter Try.func21, Try.ntmps21
  go_wp2_with (at_make; go_loud (refine wpList_make_full _ rfl (.tmp 10) (.tmp 10) 22 rfl w.heap.size 5 i0 (.int .u8 0) 1 Try.underlying22 hi hz0 hz1 _ _ _ _ q.length rfl rfl (by omega) (by omega) (by rw [hz2]; omega) (by unfold maxLen; omega) (Nat.le_refl _) ?_); intro w1 hown1 hgrow1)
  have R1 := RowF.made hown1
  have B1 : Below w.heap.size w w1 := (Below.refl _ _).grown hgrow1 (Nat.le_refl _) (fun k h => by cases h)
  clear hown1 hgrow1
  go_loopw [14] (fun i wr => ∃ k : Nat, k ≤ q.length ∧ i = .int .i64 k ∧ RowF wr w.heap.size 5 w.heap.size q.length q.length (tk (co q) a k) ∧ Below w.heap.size w wr) (fun i _ => q.length - (intOf i).toNat)
  case atStart => exact ⟨0, by omega, rfl, R1.congr (fun t _ => (tk_zero _ _ t).symm), B1⟩
  case round =>
    obtain ⟨k, hk, rfl, hR, hB⟩ := hrel
    clear R1 B1
    by_cases hlt : k < q.length
    · have c1 := (hB.cell (p := ⟨b', off' + k, none⟩) hb).trans (hqc k hlt)
      have hF1 := hF.below hB
      clear hqc
      go_wp2_with fail
      refine (fmu_at hF1 (co q k) a rfl rfl).mono ?_
      rintro e w2 ⟨rfl, hb2⟩
      have hR2 := hR.later hb2
      have hB2 := Below.next hB hb2
      have c2 := hR2.cell hlt
      have f1 := hR2.unfrozen k
      have N1 : Hid _ := hR2.store hlt (mu (co q k) a) (tk_step (co q) a k)
      have N2 : Hid _ := hB2.setCell (p := ⟨w.heap.size, k, none⟩) (Nat.le_refl _) (.int .u8 (((mu (co q k) a).toNat : Nat) : Int))
      clear hR hR2 hB hB2 hb2 hF1
      go_wp2
      go_roundw
      case rel => exact ⟨k + 1, by omega, by go_num, N1.out, N2.out⟩
      case measure => simp [intOf]; omega
    · have e : k = q.length := by omega
      subst e
      clear hqc
      go_wp2
      go_ret
      exact ⟨rfl, hR.congr (fun t ht => if_pos ht), hB⟩

set_option maxRecDepth 100000 in
set_option maxHeartbeats 1000000 in
theorem times_nil (v1 : Value) (ao : Option Addr) (c' : Nat) (y : Int) (w : World) :
    Calls Try.prog 21 #[v1, .slice ao 0 c', .int .u8 y] w fun e w' => e = .returned (.slice (some ⟨w.heap.size, 0, none⟩) 0 0) ∧ RowF w' w.heap.size 5 w.heap.size 0 0 (fun _ => 0) ∧ Below w.heap.size w w' := by
  obtain ⟨i0, hi, hz0, hz1, hz2⟩ := info_parts info_u8
  go_enter Try.func21, Try.ntmps21
  go_wp2_with (at_make; go_loud (refine wpList_make_full _ rfl (.tmp 10) (.tmp 10) 22 rfl w.heap.size 5 i0 (.int .u8 0) 1 Try.underlying22 hi hz0 hz1 _ _ _ _ 0 rfl rfl (by omega) (by omega) (by rw [hz2]; omega) (by unfold maxLen; omega) (Nat.le_refl _) ?_); intro w1 hown1 hgrow1)
  have R1 := RowF.made hown1
  have B1 : Below w.heap.size w w1 := (Below.refl _ _).grown hgrow1 (Nat.le_refl _) (fun k h => by cases h)
  clear hown1 hgrow1
  go_loop [14] (fun i => i = .int .i64 0) (fun _ => 0)
  case atStart => rfl
  case round =>
    subst hrel
    go_wp2
    go_ret
    exact ⟨rfl, R1, B1⟩

theorem times_any {b n c : Nat} {ao : Option Addr} {q : List UInt8} {w : World} (hF : FieldAt w b) (hq : Rd w (.slice ao n c) q) (hl : q.length ≤ 400000) (a : UInt8) {y : Int} (hy : y = ((a.toNat : Nat) : Int)) :
    Calls Try.prog 21 #[.pointer (some ⟨b, 0, none⟩), .slice ao n c, .int .u8 y] w fun e w' =>
      e = .returned (.slice (some ⟨w.heap.size, 0, none⟩) n n) ∧ Rd w' (.slice (some ⟨w.heap.size, 0, none⟩) n n) (mulBy q a) ∧ Below w.heap.size w w' := by
  subst hy
  have hn := hq.n
  subst hn
  rcases hq with ⟨a', c', rfl, e2, hc, hn⟩ | ⟨b', off', c', hp0, e2, h1, h2, h3, hqc⟩
  · refine (times_nil _ _ _ _ w).mono ?_
    rintro e w' ⟨rfl, hR, hB⟩
    exact ⟨rfl, hR.rd, hB⟩
  · simp at e2; obtain ⟨rfl, rfl⟩ := e2
    refine (times_main b b' off' _ q a w hF hl h3 hqc).mono ?_
    rintro e w' ⟨rfl, hR, hB⟩
    exact ⟨rfl, hR.rd, hB⟩

end Go.Proofs.Ytlbachgbeefhcab.Gf

