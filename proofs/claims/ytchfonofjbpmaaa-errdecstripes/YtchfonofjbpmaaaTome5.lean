/- TEXTS JOINED: SyMath, WdMath, WdSets, ErLawM, BkInf, SyCol, SyLawC, WdTry. -/
import Derived.Test.YtchfonofjbpmaaaTome4
import Derived.Test.YtchfonofjbpmaaaTome1
import Derived.Test.YtchfonofjbpmaaaTome3
/-
  PLAIN MATHEMATICS: weights and syndromes; all syndromes of a word are 0 just if its parity is that of its data. No program's function is named here.
-/

namespace Go.Proofs.Ytchfonofjbpmaaa.Gf
set_option linter.unusedVariables false
set_option linter.unusedSimpArgs false

/-- the product of the sums of the point i and the first n parity points, but i itself -/
def wpd (k i : Nat) : Nat → UInt8
  | 0 => 1
  | n + 1 => if k + n = i then wpd k i n else mu (wpd k i n) (pt i ^^^ pt (k + n))
theorem wpd_zero (k i : Nat) : wpd k i 0 = 1 := rfl
theorem wpd_self {k i n : Nat} (h : k + n = i) : wpd k i (n + 1) = wpd k i n := by rw [wpd, if_pos h]
theorem wpd_next {k i n : Nat} (h : k + n ≠ i) : wpd k i (n + 1) = mu (wpd k i n) (pt i ^^^ pt (k + n)) := by rw [wpd, if_neg h]
theorem wpd_ne {k i n : Nat} (hk : k + n ≤ 256) (hi : i < 256) : wpd k i n ≠ 0 := by
  induction n with
  | zero => exact (by decide : (1 : UInt8) ≠ 0)
  | succ n ih =>
    have h := ih (by omega)
    by_cases e : k + n = i
    · rw [wpd_self e]; exact h
    · rw [wpd_next e]; exact mu_ne h (pt_ne hi (by omega) (fun x => e x.symm))
/-- the weight of the shard i -/
def wtF (k m i : Nat) : UInt8 := iv (wpd k i m)
theorem wiv_ne {a : UInt8} (h : a ≠ 0) : iv a ≠ 0 := fun e => by
  have := mu_iv h
  rw [e, mu_zero] at this
  cases this
theorem wtF_ne {k m i : Nat} (h : k + m ≤ 256) (hi : i < 256) : wtF k m i ≠ 0 := wiv_ne (wpd_ne h hi)
/-- a number times a point's powers, as it goes on -/
def nmF (a p : UInt8) : Nat → UInt8
  | 0 => a
  | n + 1 => mu (nmF a p n) p
theorem nmF_pwr (a p : UInt8) (n : Nat) : nmF a p n = mu a (nmF 1 p n) := by
  induction n with
  | zero => exact (mu_one a).symm
  | succ n ih => rw [nmF, ih, nmF, mu_assoc]
/-- the syndrome of l -/
def synF (k m : Nat) (z : Nat → UInt8) (l : Nat) : UInt8 := S (k + m) (fun i => mu (mu (z i) (wtF k m i)) (nmF 1 (pt i) l))
theorem synF_congr {k m l : Nat} {z y : Nat → UInt8} (h : ∀ i, i < k + m → z i = y i) : synF k m z l = synF k m y l := S_congr fun i hi => by rw [h i hi]
theorem synF_add {k m l : Nat} {z y x : Nat → UInt8} (h : ∀ i, i < k + m → x i = z i ^^^ y i) : synF k m x l = synF k m z l ^^^ synF k m y l := by
  unfold synF
  rw [← S_xor]
  exact S_congr fun i hi => by rw [h i hi, xor_mu, xor_mu]
theorem synF_times {k m l : Nat} {z x : Nat → UInt8} {c : UInt8} (h : ∀ i, i < k + m → x i = mu (z i) c) : synF k m x l = mu (synF k m z l) c := by
  unfold synF
  rw [S_mu]
  exact S_congr fun i hi => by rw [h i hi]; simp only [mu_assoc, mu_comm, mu_left]
theorem synF_one {k m l j : Nat} {z : Nat → UInt8} (hj : j < k + m) (h : ∀ i, i < k + m → i ≠ j → z i = 0) : synF k m z l = nmF (mu (z j) (wtF k m j)) (pt j) l := by
  unfold synF
  rw [S_one hj (fun i hi hne => by rw [h i hi hne, zero_mu, zero_mu]), nmF_pwr (mu _ _)]

/-! Polynomials. -/
theorem PF.mono' {k n : Nat} {f : UInt8 → UInt8} (h : PF k f) (hn : k ≤ n) : PF n f := by
  induction n with
  | zero => rw [Nat.le_zero.1 hn] at h; exact h
  | succ n ih =>
    by_cases e : k = n + 1
    · rw [← e]; exact h
    · exact (ih (by omega)).mono
theorem nm_PF (l : Nat) : PF (l + 1) (fun z => nmF 1 z l) := by
  induction l with
  | zero => exact PF.const 1
  | succ l ih => exact ⟨0, _, ih, fun z => by rw [zero_x]; exact mu_comm _ _⟩
/-- a polynomial's numbers -/
theorem PF.coef {k : Nat} {f : UInt8 → UInt8} (h : PF k f) : ∃ c : Nat → UInt8, ∀ z, f z = S k (fun l => mu (c l) (nmF 1 z l)) := by
  induction k generalizing f with
  | zero => exact ⟨fun _ => 0, h⟩
  | succ k ih =>
    obtain ⟨a, g, hg, hz⟩ := h
    obtain ⟨c, hc⟩ := ih hg
    refine ⟨fun l => if l = 0 then a else c (l - 1), fun z => ?_⟩
    rw [S_head, hz z, hc z, mu_S]
    congr 1
    · show a = mu (if (0 : Nat) = 0 then a else _) (nmF 1 z 0)
      rw [if_pos rfl]; exact (mu_one a).symm
    · refine S_congr fun l hl => ?_
      show mu z (mu (c l) (nmF 1 z l)) = mu (if l + 1 = 0 then a else c (l + 1 - 1)) (nmF 1 z (l + 1))
      rw [if_neg (by omega), Nat.add_sub_cancel, nmF, mu_left, mu_comm z]
/-- .. so a word without syndromes is nought with each of them -/
theorem syn_poly {k m : Nat} {z : Nat → UInt8} (h : ∀ l, l < m → synF k m z l = 0) {g : UInt8 → UInt8} (hg : PF m g) : S (k + m) (fun i => mu (mu (z i) (wtF k m i)) (g (pt i))) = 0 := by
  obtain ⟨c, hc⟩ := hg.coef
  have e1 : S (k + m) (fun i => mu (mu (z i) (wtF k m i)) (g (pt i))) = S (k + m) (fun i => S m (fun l => mu (c l) (mu (mu (z i) (wtF k m i)) (nmF 1 (pt i) l)))) :=
    S_congr fun i hi => by rw [hc, mu_S]; exact S_congr fun l hl => mu_left _ _ _
  rw [e1, S_swap]
  refine S_zero fun l hl => ?_
  rw [← mu_S]
  have := h l hl
  unfold synF at this
  rw [this, mu_zero]
/-- the parity points -/
def qp (k n : Nat) : UInt8 := pt (k + n)
theorem wpd_data {k j n : Nat} (hj : j < k) : wpd k j n = PD (qp k) n (pt j) := by
  induction n with
  | zero => rfl
  | succ n ih => rw [wpd_next (by omega), ih, PD, mu_comm]; rfl
theorem wpd_par {k i n : Nat} : wpd k (k + i) n = PE (qp k) i n (pt (k + i)) := by
  induction n with
  | zero => rfl
  | succ n ih =>
    by_cases e : n = i
    · rw [wpd_self (by omega), ih, PE, if_pos e]
    · rw [wpd_next (by omega), ih, PE, if_neg e, mu_comm]; rfl
theorem PD_ne {k j n : Nat} (hj : j < k) (h : k + n ≤ 256) : PD (qp k) n (pt j) ≠ 0 := by rw [← wpd_data hj]; exact wpd_ne h (by omega)
/-- a data shard's weight times all parity points but one's polynomial -/
theorem wt_data {k m j i : Nat} (hj : j < k) (hi : i < m) (h : k + m ≤ 256) : mu (wtF k m j) (PE (qp k) i m (pt j)) = parF k i j := by
  unfold wtF parF
  have hne : pt j ^^^ pt (k + i) ≠ 0 := pt_ne (by omega) (by omega) (by omega)
  have e1 : PD (qp k) m (pt j) = mu (pt j ^^^ pt (k + i)) (PE (qp k) i m (pt j)) := (PE_mul (qp k) hi (pt j)).symm
  have hD := PD_ne (n := m) hj h
  have hE : PE (qp k) i m (pt j) ≠ 0 := fun e => hD (by rw [e1, e, mu_zero])
  rw [wpd_data hj, x_comm (pt (k + i))]
  have h1 := mu_iv hD
  have h2 := mu_iv hne
  -- both are the number whose product with the sum is 1
  have h3 : mu (pt j ^^^ pt (k + i)) (mu (iv (PD (qp k) m (pt j))) (PE (qp k) i m (pt j))) = 1 := by
    rw [mu_left, ← e1, mu_comm]; exact h1
  have h4 := congrArg (mu (iv (pt j ^^^ pt (k + i)))) h3
  rw [← mu_assoc, mu_comm (iv _) (pt j ^^^ _), h2, one_mu, mu_one] at h4
  exact h4
theorem wt_par {k m i : Nat} (hi : i < m) (h : k + m ≤ 256) : mu (wtF k m (k + i)) (PE (qp k) i m (pt (k + i))) = 1 := by
  unfold wtF
  rw [wpd_par, mu_comm]
  exact mu_iv (by rw [← wpd_par]; exact wpd_ne h (by omega))
/-- of a word without syndromes the parity is that of its data -/
theorem syn_par {k m : Nat} {z : Nat → UInt8} (h : k + m ≤ 256) (hz : ∀ l, l < m → synF k m z l = 0) {i : Nat} (hi : i < m) : z (k + i) = S k (fun j => mu (parF k i j) (z j)) := by
  have h0 := syn_poly hz ((PE_deg (qp k) i m).1 hi)
  rw [S_split] at h0
  have e1 : S k (fun j => mu (mu (z j) (wtF k m j)) (PE (qp k) i m (pt j))) = S k (fun j => mu (parF k i j) (z j)) := S_congr fun j hj => by
    rw [mu_assoc, wt_data hj hi h, mu_comm]
  have e2 : S m (fun n => mu (mu (z (k + n)) (wtF k m (k + n))) (PE (qp k) i m (pt (k + n)))) = z (k + i) := by
    rw [S_one hi (fun n hn hne => ?_)]
    · rw [mu_assoc, wt_par hi h, mu_one]
    · have : PE (qp k) i m (qp k n) = 0 := PE_other (qp k) hn hne
      show mu _ (PE (qp k) i m (qp k n)) = 0
      rw [this, mu_zero]
  rw [e1, e2] at h0
  exact (x_eq_zero.1 h0).symm
/-- a polynomial out of its values at the parity points -/
theorem lagrange {k m : Nat} (h : k + m ≤ 256) {g : UInt8 → UInt8} (hg : PF m g) (z : UInt8) : g z = S m (fun i => mu (mu (g (qp k i)) (wtF k m (k + i))) (PE (qp k) i m z)) := by
  have hf : PF m (fun z => g z ^^^ S m (fun i => mu (mu (g (qp k i)) (wtF k m (k + i))) (PE (qp k) i m z))) :=
    hg.add (PF.sum fun i hi => ((PE_deg (qp k) i m).1 hi).smul _)
  have := hf.roots (qp k) (fun i j hi hj hij e => hij (by have := pt_inj (by omega) (by omega) e; omega)) (fun n hn => ?_)
  · exact x_eq_zero.1 (this z)
  · show g (qp k n) ^^^ S m (fun i => mu (mu (g (qp k i)) (wtF k m (k + i))) (PE (qp k) i m (qp k n))) = 0
    rw [S_one hn (fun i hi hne => by rw [PE_other (qp k) hn (fun e => hne e.symm), mu_zero])]
    have e := wt_par (k := k) hn h
    show g (qp k n) ^^^ mu (mu (g (qp k n)) (wtF k m (k + n))) (PE (qp k) n m (pt (k + n))) = 0
    rw [mu_assoc, e, mu_one, x_self]
/-- .. and a word whose parity is that of its data has none -/
theorem par_syn {k m : Nat} {z : Nat → UInt8} (h : k + m ≤ 256) (hz : ∀ i, i < m → z (k + i) = S k (fun j => mu (parF k i j) (z j))) {l : Nat} (hl : l < m) : synF k m z l = 0 := by
  unfold synF
  rw [S_split]
  have hg : PF m (fun z => nmF 1 z l) := (nm_PF l).mono' (by omega)
  have e1 : S k (fun j => mu (mu (z j) (wtF k m j)) (nmF 1 (pt j) l)) = S m (fun i => mu (mu (z (k + i)) (wtF k m (k + i))) (nmF 1 (pt (k + i)) l)) := by
    have a1 : S k (fun j => mu (mu (z j) (wtF k m j)) (nmF 1 (pt j) l)) = S k (fun j => S m (fun i => mu (mu (nmF 1 (pt (k + i)) l) (wtF k m (k + i))) (mu (parF k i j) (z j)))) := S_congr fun j hj => by
      have := lagrange h hg (pt j)
      rw [this, mu_S]
      refine S_congr fun i hi => ?_
      rw [← wt_data hj hi h]
      show mu (mu (z j) (wtF k m j)) (mu (mu (nmF 1 (pt (k + i)) l) (wtF k m (k + i))) (PE (qp k) i m (pt j))) = _
      rw [mu_left, mu_assoc (z j), mu_comm (z j)]
    rw [a1, S_swap]
    refine S_congr fun i hi => ?_
    rw [← mu_S, ← hz i hi]
    simp only [mu_assoc, mu_comm, mu_left]
  rw [e1, x_self]

/-! What is answered. -/
def ofX (k m : Int) (z : List UInt8) : Int := if OkC k m then (if (z.length : Int) = k + m then 0 else 60) else 50
def ofR (k m : Int) (z : List UInt8) : List UInt8 := if OkC k m ∧ (z.length : Int) = k + m then upto (synF k.toNat m.toNat (co z)) m.toNat else []
theorem ofX_bad {k m : Int} {z : List UInt8} (h : ¬ OkC k m) : ofX k m z = 50 ∧ ofR k m z = [] := ⟨if_neg h, if_neg fun e => h e.1⟩
theorem ofX_shard {k m : Int} {z : List UInt8} (h : OkC k m) (h2 : ¬ (z.length : Int) = k + m) : ofX k m z = 60 ∧ ofR k m z = [] := ⟨by unfold ofX; rw [if_pos h, if_neg h2], if_neg fun e => h2 e.2⟩
theorem ofX_ok {k m : Nat} {z : List UInt8} (h : OkC k m) (h2 : z.length = k + m) : ofX k m z = 0 ∧ ofR k m z = upto (synF k m (co z)) m := ⟨by unfold ofX; rw [if_pos h, if_pos (by omega)], if_pos ⟨h, by omega⟩⟩
theorem of_cases (k m : Int) (z : List UInt8) : (¬ OkC k m) ∨ (OkC k m ∧ ¬ (z.length : Int) = k + m) ∨ (OkC k m ∧ (z.length : Int) = k + m) := by
  by_cases h : OkC k m
  · by_cases h2 : (z.length : Int) = k + m
    · exact Or.inr (Or.inr ⟨h, h2⟩)
    · exact Or.inr (Or.inl ⟨h, h2⟩)
  · exact Or.inl h
def wtX (k m : Int) : Int := if OkC k m then 0 else 50
def wtR (k m : Int) : List UInt8 := if OkC k m then upto (wtF k.toNat m.toNat) (k.toNat + m.toNat) else []
theorem wtX_bad {k m : Int} (h : ¬ OkC k m) : wtX k m = 50 ∧ wtR k m = [] := ⟨if_neg h, if_neg h⟩
theorem wtX_ok {k m : Nat} (h : OkC k m) : wtX k m = 0 ∧ wtR k m = upto (wtF k m) (k + m) := ⟨if_pos h, if_pos h⟩

end Go.Proofs.Ytchfonofjbpmaaa.Gf

/-
  PLAIN MATHEMATICS: of the words of the code that are near a word there is one alone; places that are missing or wrong are counted. No program is named here.
-/

namespace Go.Proofs.Ytchfonofjbpmaaa.Gf
set_option linter.unusedVariables false
set_option linter.unusedSimpArgs false

/-- how many of the first n are so -/
def cnt (p : Nat → Bool) : Nat → Nat
  | 0 => 0
  | n + 1 => cnt p n + (if p n then 1 else 0)
theorem cnt_mono {p q : Nat → Bool} {n : Nat} (h : ∀ i, i < n → p i = true → q i = true) : cnt p n ≤ cnt q n := by
  induction n with
  | zero => exact Nat.le_refl _
  | succ n ih =>
    have h1 := ih fun i hi => h i (by omega)
    rw [cnt, cnt]
    by_cases e : p n = true
    · rw [if_pos e, if_pos (h n (by omega) e)]; omega
    · rw [if_neg e]; omega
theorem cnt_or (p q : Nat → Bool) (n : Nat) : cnt (fun i => p i || q i) n ≤ cnt p n + cnt q n := by
  induction n with
  | zero => exact Nat.le_refl _
  | succ n ih =>
    rw [cnt, cnt, cnt]
    cases p n <;> cases q n <;> simp <;> omega
theorem cnt_le (p : Nat → Bool) (n : Nat) : cnt p n ≤ n := by
  induction n with
  | zero => exact Nat.le_refl _
  | succ n ih => rw [cnt]; split <;> omega
theorem cnt_congr {p q : Nat → Bool} {n : Nat} (h : ∀ i, i < n → p i = q i) : cnt p n = cnt q n := by
  induction n with
  | zero => rfl
  | succ n ih => rw [cnt, cnt, ih fun i hi => h i (by omega), h n (by omega)]
/-- the places, rising -/
def plc (p : Nat → Bool) (n : Nat) : List Nat := (List.range n).filter p
theorem plc_succ (p : Nat → Bool) (n : Nat) : plc p (n + 1) = plc p n ++ (if p n then [n] else []) := by
  unfold plc
  rw [List.range_succ, List.filter_append]
  congr 1
  cases h : p n <;> simp [h]
theorem plc_length (p : Nat → Bool) (n : Nat) : (plc p n).length = cnt p n := by
  induction n with
  | zero => rfl
  | succ n ih => rw [plc_succ, cnt, List.length_append, ih]; congr 1; split <;> rfl
theorem plc_mem {p : Nat → Bool} {n i : Nat} : i ∈ plc p n ↔ i < n ∧ p i = true := by unfold plc; rw [List.mem_filter, List.mem_range]
theorem plc_nodup (p : Nat → Bool) (n : Nat) : (plc p n).Nodup := List.Nodup.sublist List.filter_sublist List.nodup_range

/-- the product of z and the points of some places -/
def prL (z : UInt8) : List Nat → UInt8
  | [] => 1
  | i :: I => mu (z ^^^ pt i) (prL z I)
theorem prL_PF (I : List Nat) : PF (I.length + 1) (fun z => prL z I) := by
  induction I with
  | nil => exact PF.const 1
  | cons i I ih => exact (ih.lin (pt i)).congr fun z => rfl
theorem prL_zero {z : UInt8} {I : List Nat} : prL z I = 0 ↔ ∃ i, i ∈ I ∧ z = pt i := by
  induction I with
  | nil => exact ⟨fun h => absurd (show (1 : UInt8) = 0 from h) (by decide), fun ⟨i, h, _⟩ => by simp at h⟩
  | cons a I ih =>
    rw [prL, mu_eq_zero, ih]
    constructor
    · rintro (h | ⟨i, h1, h2⟩)
      · exact ⟨a, by simp, x_eq_zero.1 h⟩
      · exact ⟨i, by simp [h1], h2⟩
    · rintro ⟨i, h1, h2⟩
      rcases List.mem_cons.1 h1 with e | e
      · subst e; exact Or.inl (x_eq_zero.2 h2)
      · exact Or.inr ⟨i, e, h2⟩
/-- a word of the code -/
def CodeW (k m : Nat) (c : Nat → UInt8) : Prop := ∀ l, l < m → synF k m c l = 0
/-- one that is not nought has more than m numbers but 0 -/
theorem mds {k m : Nat} {c : Nat → UInt8} (h : k + m ≤ 256) (hc : CodeW k m c) (hn : cnt (fun i => decide (c i ≠ 0)) (k + m) ≤ m) : ∀ i, i < k + m → c i = 0 := by
  intro j hj
  by_cases e : c j = 0
  · exact e
  · exfalso
    have hjI : j ∈ plc (fun i => decide (c i ≠ 0)) (k + m) := plc_mem.2 ⟨hj, decide_eq_true e⟩
    obtain ⟨I, hI⟩ : ∃ I, I = (plc (fun i => decide (c i ≠ 0)) (k + m)).erase j := ⟨_, rfl⟩
    have hlen : I.length + 1 ≤ m := by
      rw [hI, List.length_erase_of_mem hjI, plc_length]
      have : 0 < (plc (fun i => decide (c i ≠ 0)) (k + m)).length := List.length_pos_of_mem hjI
      rw [plc_length] at this
      omega
    have hs := syn_poly hc ((prL_PF I).mono' hlen)
    rw [S_one (k := j) hj (fun i hi hne => ?_)] at hs
    · rcases mu_eq_zero.1 hs with h1 | h1
      · rcases mu_eq_zero.1 h1 with h2 | h2
        · exact e h2
        · exact wtF_ne h (by omega) h2
      · obtain ⟨i, h2, h3⟩ := prL_zero.1 h1
        rw [hI] at h2
        have h4 := List.Nodup.mem_erase_iff (plc_nodup (fun i => decide (c i ≠ 0)) (k + m)) (a := i) (b := j)
        obtain ⟨h5, h6⟩ := h4.1 h2
        have := (plc_mem.1 h6).1
        exact h5 (pt_inj (by omega) (by omega) h3).symm
    · show mu (mu (c i) (wtF k m i)) (prL (pt i) I) = 0
      by_cases ei : c i = 0
      · rw [ei, zero_mu, zero_mu]
      · rw [prL_zero.2 ⟨i, ?_, rfl⟩, mu_zero]
        rw [hI]
        exact (List.Nodup.mem_erase_iff (plc_nodup _ _)).2 ⟨hne, plc_mem.2 ⟨hi, decide_eq_true ei⟩⟩
theorem CodeW.add {k m : Nat} {c d : Nat → UInt8} (hc : CodeW k m c) (hd : CodeW k m d) : CodeW k m (fun i => c i ^^^ d i) := fun l hl => by
  rw [synF_add (fun i _ => rfl), hc l hl, hd l hl]; rfl
theorem CodeW.congr {k m : Nat} {c d : Nat → UInt8} (hc : CodeW k m c) (h : ∀ i, i < k + m → d i = c i) : CodeW k m d := fun l hl => by
  rw [synF_congr h]; exact hc l hl

/-- where c and z differ, besides what is missing -/
def wrg (z c : Nat → UInt8) (ms : Nat → Bool) (i : Nat) : Bool := !ms i && decide (c i ≠ z i)
/-- a word of the code near z -/
structure Near (k m : Nat) (z : Nat → UInt8) (ms : Nat → Bool) (c : Nat → UInt8) : Prop where
  code : CodeW k m c
  few : 2 * cnt (wrg z c ms) (k + m) + cnt ms (k + m) ≤ m
/-- there is one alone -/
theorem Near.unique {k m : Nat} {z c d : Nat → UInt8} {ms : Nat → Bool} (h : k + m ≤ 256) (hc : Near k m z ms c) (hd : Near k m z ms d) : ∀ i, i < k + m → c i = d i := by
  have key := mds h (hc.code.add hd.code) (by
    have h1 : cnt (fun i => decide (c i ^^^ d i ≠ 0)) (k + m) ≤ cnt (fun i => (ms i || wrg z c ms i) || wrg z d ms i) (k + m) := cnt_mono fun i hi hne => by
      have hne' : c i ≠ d i := fun e => (of_decide_eq_true hne) (x_eq_zero.2 e)
      cases em : ms i
      · by_cases e1 : c i = z i
        · have e2 : d i ≠ z i := fun e => hne' (e1.trans e.symm)
          simp [wrg, em, e2]
        · simp [wrg, em, e1]
      · simp
    have h2 := cnt_or (fun i => ms i || wrg z c ms i) (wrg z d ms) (k + m)
    have h3 := cnt_or ms (wrg z c ms) (k + m)
    have h4 := hc.few
    have h5 := hd.few
    omega)
  intro i hi
  exact x_eq_zero.1 (key i hi)

end Go.Proofs.Ytchfonofjbpmaaa.Gf

/-
  PLAIN MATHEMATICS: sets of t places out of n, one behind the other in order. No program is named here.
-/

namespace Go.Proofs.Ytchfonofjbpmaaa.Gf
set_option linter.unusedVariables false
set_option linter.unusedSimpArgs false

/-- t places that rise, all below n -/
structure Inc (n t : Nat) (g : Nat → Nat) : Prop where
  up : ∀ i j, i < j → j < t → g i < g j
  lt : ∀ i, i < t → g i < n
theorem Inc.gap {n t : Nat} {g : Nat → Nat} (h : Inc n t g) {i : Nat} (d : Nat) (hd : i + d < t) : g i + d ≤ g (i + d) := by
  induction d with
  | zero => exact Nat.le_refl _
  | succ d ih =>
    have h1 := ih (by omega)
    have h2 := h.up (i + d) (i + (d + 1)) (by omega) hd
    omega
theorem Inc.max {n t : Nat} {g : Nat → Nat} (h : Inc n t g) {i : Nat} (hi : i < t) : g i + t ≤ n + i := by
  have h1 := h.gap (i := i) (t - 1 - i) (by omega)
  have h2 := h.lt (i + (t - 1 - i)) (by omega)
  omega
theorem Inc.min {n t : Nat} {g : Nat → Nat} (h : Inc n t g) {i : Nat} (hi : i < t) : i ≤ g i := by
  have h1 := h.gap (i := 0) i (by omega)
  rw [Nat.zero_add] at h1
  omega
/-- one ahead of the other -/
def Lx (t : Nat) (g h : Nat → Nat) : Prop := ∃ i, i < t ∧ (∀ j, j < i → g j = h j) ∧ g i < h i
def Eqs (t : Nat) (g h : Nat → Nat) : Prop := ∀ j, j < t → g j = h j
theorem lx_total (t : Nat) (g h : Nat → Nat) : Lx t g h ∨ Eqs t g h ∨ Lx t h g := by
  induction t with
  | zero => exact Or.inr (Or.inl fun j hj => by omega)
  | succ t ih =>
    rcases ih with ⟨i, h1, h2, h3⟩ | e | ⟨i, h1, h2, h3⟩
    · exact Or.inl ⟨i, by omega, h2, h3⟩
    · rcases Nat.lt_trichotomy (g t) (h t) with a | a | a
      · exact Or.inl ⟨t, by omega, fun j hj => e j hj, a⟩
      · refine Or.inr (Or.inl fun j hj => ?_)
        by_cases ej : j = t
        · rw [ej]; exact a
        · exact e j (by omega)
      · exact Or.inr (Or.inr ⟨t, by omega, fun j hj => (e j hj).symm, a⟩)
    · exact Or.inr (Or.inr ⟨i, by omega, h2, h3⟩)
theorem Lx.asymm {t : Nat} {g h : Nat → Nat} (a : Lx t g h) (b : Lx t h g) : False := by
  obtain ⟨i, h1, h2, h3⟩ := a
  obtain ⟨j, k1, k2, k3⟩ := b
  rcases Nat.lt_trichotomy i j with e | e | e
  · have := k2 i e; omega
  · subst e; omega
  · have := h2 j e; omega
theorem Lx.not_eq {t : Nat} {g h : Nat → Nat} (a : Lx t g h) (b : Eqs t g h) : False := by
  obtain ⟨i, h1, h2, h3⟩ := a
  have := b i h1
  omega
/-- the next one, where the place i can go on -/
def nxF (g : Nat → Nat) (i j : Nat) : Nat := if j < i then g j else g i + 1 + (j - i)
theorem nx_inc {n t i : Nat} {g : Nat → Nat} (h : Inc n t g) (hi : i < t) (hl : g i + t < n + i) : Inc n t (nxF g i) := by
  refine ⟨fun a b hab hb => ?_, fun a ha => ?_⟩
  · unfold nxF
    by_cases h1 : b < i
    · rw [if_pos h1, if_pos (by omega)]; exact h.up a b hab hb
    · rw [if_neg h1]
      by_cases h2 : a < i
      · rw [if_pos h2]; have := h.up a i h2 hi; omega
      · rw [if_neg h2]; omega
  · unfold nxF
    by_cases h1 : a < i
    · rw [if_pos h1]; exact h.lt a ha
    · rw [if_neg h1]; omega
theorem nx_lx {t i : Nat} {g : Nat → Nat} (hi : i < t) : Lx t g (nxF g i) :=
  ⟨i, hi, fun j hj => by unfold nxF; rw [if_pos hj], by unfold nxF; rw [if_neg (by omega)]; omega⟩
/-- none lies between -/
theorem nx_next {n t i : Nat} {g T : Nat → Nat} (hi : i < t) (hm : ∀ j, i < j → j < t → g j + t = n + j) (hT : Inc n t T) (h : Lx t g T) : Eqs t (nxF g i) T ∨ Lx t (nxF g i) T := by
  obtain ⟨p, h1, h2, h3⟩ := h
  have hpi : p ≤ i := by
    rcases Nat.lt_or_ge i p with e | e
    · have := hm p e h1
      have := hT.max h1
      omega
    · exact e
  rcases Nat.lt_or_ge p i with e | e
  · exact Or.inr ⟨p, h1, fun j hj => by unfold nxF; rw [if_pos (by omega)]; exact h2 j hj, by unfold nxF; rw [if_pos e]; exact h3⟩
  · obtain rfl : p = i := by omega
    have low : ∀ j, j < p → nxF g p j = T j := fun j hj => by unfold nxF; rw [if_pos hj]; exact h2 j hj
    rcases lx_total t (nxF g p) T with a | a | ⟨q, k1, k2, k3⟩
    · exact Or.inr a
    · exact Or.inl a
    · exfalso
      rcases Nat.lt_or_ge q p with e2 | e2
      · have := low q e2; omega
      · have h5 := hT.gap (i := p) (q - p) (by omega)
        rw [show p + (q - p) = q by omega] at h5
        unfold nxF at k3
        rw [if_neg (by omega)] at k3
        omega
/-- none is behind the last one -/
theorem nx_last {n t : Nat} {g T : Nat → Nat} (hm : ∀ j, j < t → g j + t = n + j) (hT : Inc n t T) : ¬ Lx t g T := by
  rintro ⟨p, h1, h2, h3⟩
  have := hm p h1
  have := hT.max h1
  omega
/-- none is ahead of the first one -/
theorem nx_first {n t : Nat} {T : Nat → Nat} (hT : Inc n t T) : ¬ Lx t T (fun j => j) := by
  rintro ⟨p, h1, h2, h3⟩
  have h4 : T p < p := h3
  have := hT.min h1
  omega
theorem first_inc {n t : Nat} (h : t ≤ n) : Inc n t (fun j => j) := ⟨fun i j h1 _ => h1, fun i hi => by show i < n; omega⟩
/-- what has been tried: all ahead of one; behind it all ahead of the next one -/
theorem tried_next {n t i : Nat} {g : Nat → Nat} {Bad : (Nat → Nat) → Prop} (hi : i < t) (hm : ∀ j, i < j → j < t → g j + t = n + j) (hc : ∀ a b, Eqs t a b → Bad a → Bad b) (h : ∀ T, Inc n t T → Lx t T g → Bad T) (hg : Bad g) : ∀ T, Inc n t T → Lx t T (nxF g i) → Bad T := by
  intro T hT hl
  rcases lx_total t T g with a | a | a
  · exact h T hT a
  · exact hc g T (fun j hj => (a j hj).symm) hg
  · rcases nx_next hi hm hT a with b | b
    · exact absurd (fun j hj => (b j hj).symm) (fun c => hl.not_eq c)
    · exact absurd hl (fun c => c.asymm b)
theorem tried_all {n t : Nat} {g : Nat → Nat} {Bad : (Nat → Nat) → Prop} (hm : ∀ j, j < t → g j + t = n + j) (hc : ∀ a b, Eqs t a b → Bad a → Bad b) (h : ∀ T, Inc n t T → Lx t T g → Bad T) (hg : Bad g) : ∀ T, Inc n t T → Bad T := by
  intro T hT
  rcases lx_total t T g with a | a | a
  · exact h T hT a
  · exact hc g T (fun j hj => (a j hj).symm) hg
  · exact absurd a (nx_last hm hT)
/-- a number that grows from one to the next -/
def rkF (n : Nat) (g : Nat → Nat) : Nat → Nat
  | 0 => 0
  | t + 1 => rkF n g t * (n + 1) + g t
theorem rk_lt {n t : Nat} {g : Nat → Nat} (h : ∀ i, i < t → g i ≤ n) : rkF n g t < (n + 1) ^ t := by
  induction t with
  | zero => exact Nat.one_pos
  | succ t ih =>
    have h1 := ih fun i hi => h i (by omega)
    have h2 := h t (by omega)
    rw [rkF, Nat.pow_succ]
    have h3 : (rkF n g t + 1) * (n + 1) ≤ (n + 1) ^ t * (n + 1) := Nat.mul_le_mul_right _ h1
    rw [Nat.add_mul, Nat.one_mul] at h3
    omega
theorem rk_lx {n t : Nat} {g h : Nat → Nat} (hg : ∀ i, i < t → g i ≤ n) (hl : Lx t g h) : rkF n g t < rkF n h t := by
  induction t with
  | zero => obtain ⟨i, h1, _⟩ := hl; omega
  | succ t ih =>
    obtain ⟨i, h1, h2, h3⟩ := hl
    rw [rkF, rkF]
    by_cases e : i = t
    · subst e
      have : rkF n g i = rkF n h i := by
        have key : ∀ s, s ≤ i → rkF n g s = rkF n h s := fun s => by
          induction s with
          | zero => intro _; rfl
          | succ s ihs => intro hs; rw [rkF, rkF, ihs (by omega), h2 s (by omega)]
        exact key i (Nat.le_refl _)
      rw [this]; omega
    · have h4 := ih (fun j hj => hg j (by omega)) ⟨i, by omega, h2, h3⟩
      have h5 := hg t (by omega)
      have h6 : (rkF n g t + 1) * (n + 1) ≤ rkF n h t * (n + 1) := Nat.mul_le_mul_right _ h4
      rw [Nat.add_mul, Nat.one_mul] at h6
      omega

end Go.Proofs.Ytchfonofjbpmaaa.Gf

/-
  WHAT THE STATEMENTS OF LAYER 7 ASK, as mathematics. No program's function is named here.
-/

namespace Go.Proofs.Ytchfonofjbpmaaa.Gf
set_option linter.unusedVariables false
set_option linter.unusedSimpArgs false
open Go.RowKit

theorem hb_lt {h : List Bool} {i : Nat} (e : hb h i = true) : i < h.length := (pl7_at e).1
/-! Shards that are lost: junk in their place. -/
def lostP (x : List (List UInt8)) (h : List Bool) (j : List UInt8) (i : Nat) : List (List UInt8) := mkL x.length (fun r => if r < i ∧ hb h r = false then j else ro x r)
theorem lostP_length (x : List (List UInt8)) (h : List Bool) (j : List UInt8) (i : Nat) : (lostP x h j i).length = x.length := mkL_length _ _
theorem lostP_zero (x : List (List UInt8)) (h : List Bool) (j : List UInt8) : lostP x h j 0 = x := by
  unfold lostP
  rw [mkL_congr (g := ro x) (fun i hi => if_neg (by omega)), mkL_ro]
theorem lostP_keep {x : List (List UInt8)} {h : List Bool} {j : List UInt8} {i : Nat} (e : hb h i = true) : lostP x h j (i + 1) = lostP x h j i := mkL_congr fun r hr => by
  by_cases e2 : r = i
  · subst e2; rw [e, if_neg (by simp), if_neg (by simp)]
  · by_cases e3 : r < i ∧ hb h r = false
    · rw [if_pos e3, if_pos ⟨by omega, e3.2⟩]
    · rw [if_neg e3, if_neg fun q => e3 ⟨by omega, q.2⟩]
theorem lostP_step {x : List (List UInt8)} {h : List Bool} {j : List UInt8} {i : Nat} (e : hb h i = false) (hi : i < x.length) : (lostP x h j i).set i j = lostP x h j (i + 1) := by
  refine ro_ext (by rw [List.length_set, lostP_length, lostP_length]) fun r hr => ?_
  rw [List.length_set, lostP_length] at hr
  unfold lostP
  rw [ro_set (by rw [mkL_length]; exact hi), ro_mkL hr, ro_mkL hr]
  by_cases e2 : r = i
  · subst e2; rw [if_pos rfl, if_pos ⟨by omega, e⟩]
  · rw [if_neg e2]
    by_cases e3 : r < i ∧ hb h r = false
    · rw [if_pos e3, if_pos ⟨by omega, e3.2⟩]
    · rw [if_neg e3, if_neg fun q => e3 ⟨by omega, q.2⟩]
theorem lost_row {x : List (List UInt8)} {h : List Bool} {j : List UInt8} {i r : Nat} (hr : r < x.length) (e : hb h r = true) : ro (lostP x h j i) r = ro x r := by
  unfold lostP
  rw [ro_mkL hr, if_neg fun q => by rw [e] at q; cases q.2]
theorem lost_ok {k m : Nat} {D : List (List UInt8)} {h : List Bool} {j : List UInt8} {i : Nat} (hD : D.length = k) (hE : Even D) (hh : h.length = k + m) : OkH k m h (lostP (encL m k (parF k) D) h j i) := by
  refine ⟨by omega, by rw [lostP_length, encL_length]; omega, fun r s hr hs => ?_⟩
  have h1 := hb_lt hr
  have h2 := hb_lt hs
  rw [lost_row (by rw [encL_length]; omega) hr, lost_row (by rw [encL_length]; omega) hs, enc_len hE (by omega), enc_len hE (by omega)]
theorem lost_small {k m : Nat} {D : List (List UInt8)} {h : List Bool} {j : List UInt8} {i : Nat} (hD : D.length = k) (hE : Even D) (hS : Small D) (hkm : k + m ≤ 256) (hh : h.length = k + m) : SmallH h (lostP (encL m k (parF k) D) h j i) := by
  refine ⟨by rw [lostP_length, encL_length]; omega, fun r hr => ?_⟩
  have h1 := hb_lt hr
  rw [lost_row (by rw [encL_length]; omega) hr, enc_len hE (by omega)]
  exact hS.2 0
/-- places of those that are there -/
theorem pl7_bound {k m : Nat} {h : List Bool} (hh : h.length = k + m) (hf : k ≤ (thr h h.length).length) : ∀ i, i < k → pl7 h i < k + m := fun i hi => by
  have := (pl7_in (h := h) (i := i) (by omega)).1
  omega
theorem pl7_has {k : Nat} {h : List Bool} (hf : k ≤ (thr h h.length).length) {i : Nat} (hi : i < k) : hb h (pl7 h i) = true := (pl7_in (by omega)).2
theorem lost_back {k m : Nat} {D : List (List UInt8)} {h : List Bool} {j : List UInt8} {i : Nat} (h1 : 1 ≤ k) (h2 : k + m ≤ 256) (hD : D.length = k) (hE : Even D) (hh : h.length = k + m) (hf : k ≤ (thr h h.length).length) (hV : IsInv k (rowsF k (pl7 h)) (invF k (pl7 h))) :
    decR k m h (lostP (encL m k (parF k) D) h j i) = encL m k (parF k) D := by
  rw [(decX_ok (okC_mk h1 h2) (lost_ok hD hE hh) hf).2, dec_back (m := m) (D := D) h1 hV (pl7_bound hh hf) hD hE fun r hr => lost_row (by rw [encL_length, hD]; exact pl7_bound hh hf r hr) (pl7_has hf hr)]

/-! Shards that do not matter: changed by a byte. -/
def ltr (h : List Bool) (k : Int) (r : Nat) : Prop := (((thr h (r + 1)).length : Nat) : Int) > k ∨ hb h r = false
noncomputable def latP (L : List (List UInt8)) (h : List Bool) (k : Int) (y : UInt8) (i c : Nat) : List (List UInt8) := by
  classical
  exact mkL L.length (fun r => upto (fun n => if ltr h k r ∧ (r < i ∨ (r = i ∧ n < c)) then co (ro L r) n ^^^ y else co (ro L r) n) (ro L r).length)
theorem latP_length (L : List (List UInt8)) (h : List Bool) (k : Int) (y : UInt8) (i c : Nat) : (latP L h k y i c).length = L.length := by unfold latP; rw [mkL_length]
theorem latP_row {L : List (List UInt8)} {h : List Bool} {k : Int} {y : UInt8} {i c r : Nat} (hr : r < L.length) : (ro (latP L h k y i c) r).length = (ro L r).length := by unfold latP; rw [ro_mkL hr, upto_length]
theorem latP_len (L : List (List UInt8)) (h : List Bool) (k : Int) (y : UInt8) (i c r : Nat) : (ro (latP L h k y i c) r).length = (ro L r).length := by
  by_cases hr : r < L.length
  · exact latP_row hr
  · rw [ro_ge (by rw [latP_length]; omega), ro_ge (by omega)]
theorem latP_zero (L : List (List UInt8)) (h : List Bool) (k : Int) (y : UInt8) : latP L h k y 0 0 = L := by
  refine L_ext (latP_length _ _ _ _ _ _) (fun r hr => latP_len _ _ _ _ _ _ _) fun r n hr hn => ?_
  rw [latP_length] at hr
  rw [latP_row hr] at hn
  unfold latP
  rw [ro_mkL hr, co_upto_in hn, if_neg (by omega)]
theorem latP_at {L : List (List UInt8)} {h : List Bool} {k : Int} {y : UInt8} {i c : Nat} (hi : i < L.length) (hc : c < (ro L i).length) : co (ro (latP L h k y i c) i) c = co (ro L i) c := by
  unfold latP
  rw [ro_mkL hi, co_upto_in hc, if_neg (by omega)]
theorem latP_step {L : List (List UInt8)} {h : List Bool} {k : Int} {y : UInt8} {i c : Nat} (hl : ltr h k i) (hi : i < L.length) (hc : c < (ro L i).length) : setL (latP L h k y i c) i c (co (ro L i) c ^^^ y) = latP L h k y i (c + 1) := by
  refine L_ext (by rw [setL_length, latP_length, latP_length]) (fun r hr => by rw [setL_row (by rw [latP_length]; exact hi), latP_len, latP_len]) fun r n hr hn => ?_
  rw [setL_length, latP_length] at hr
  rw [setL_row (by rw [latP_length]; exact hi), latP_len] at hn
  rw [setL_co (by rw [latP_length]; exact hi) (by rw [latP_len]; exact hc)]
  unfold latP
  rw [ro_mkL hr, co_upto_in hn, ro_mkL hr, co_upto_in hn]
  by_cases e : r = i ∧ n = c
  · obtain ⟨rfl, rfl⟩ := e
    rw [if_pos ⟨rfl, rfl⟩, if_pos ⟨hl, Or.inr ⟨rfl, by omega⟩⟩]
  · rw [if_neg e]
    by_cases e2 : ltr h k r ∧ (r < i ∨ (r = i ∧ n < c))
    · rw [if_pos e2, if_pos ⟨e2.1, by omega⟩]
    · rw [if_neg e2, if_neg fun q => e2 ⟨q.1, by have := q.2; omega⟩]
theorem latP_next {L : List (List UInt8)} {h : List Bool} {k : Int} {y : UInt8} {i c : Nat} (hi : i < L.length) (hc : ¬ ltr h k i ∨ (ro L i).length ≤ c) : latP L h k y i c = latP L h k y (i + 1) 0 := by
  refine L_ext (by rw [latP_length, latP_length]) (fun r hr => by rw [latP_len, latP_len]) fun r n hr hn => ?_
  rw [latP_length] at hr
  rw [latP_len] at hn
  unfold latP
  rw [ro_mkL hr, co_upto_in hn, ro_mkL hr, co_upto_in hn]
  by_cases e2 : ltr h k r ∧ (r < i ∨ (r = i ∧ n < c))
  · rw [if_pos e2, if_pos ⟨e2.1, by omega⟩]
  · rw [if_neg e2, if_neg fun q => ?_]
    refine e2 ⟨q.1, ?_⟩
    rcases hc with hc | hc
    · by_cases e3 : r = i
      · subst e3; exact absurd q.1 hc
      · have := q.2; omega
    · by_cases e3 : r = i
      · subst e3; exact Or.inr ⟨rfl, by omega⟩
      · have := q.2; omega
theorem lat_small {L : List (List UInt8)} {h : List Bool} {k : Int} {y : UInt8} {i c : Nat} (hS : Small L) : Small (latP L h k y i c) := ⟨by rw [latP_length]; exact hS.1, fun r => by rw [latP_len]; exact hS.2 r⟩
theorem lat_row {L : List (List UInt8)} {h : List Bool} {k : Int} {y : UInt8} {i c r : Nat} (hr : r < L.length) (hl : ¬ ltr h k r) : ro (latP L h k y i c) r = ro L r := by
  refine co_ext (latP_row hr) fun n hn => ?_
  rw [latP_row hr] at hn
  unfold latP
  rw [ro_mkL hr, co_upto_in hn, if_neg fun q => hl q.1]
theorem lat_dec {L : List (List UInt8)} {h : List Bool} {k m : Int} {y : UInt8} {i c : Nat} : decX k m h (latP L h k y i c) = decX k m h L ∧ decR k m h (latP L h k y i c) = decR k m h L := by
  have hx : decX k m h (latP L h k y i c) = decX k m h L := decX_len (latP_length _ _ _ _ _ _) (fun r => latP_len _ _ _ _ _ _ _)
  refine ⟨hx, ?_⟩
  by_cases e : decX k m h L = 0
  · obtain ⟨k', m', rfl, rfl, h1, h2, h3, h4, h5, h6, h7⟩ := dec_zero e
    obtain ⟨k2, m2, e1, e2, _, _, _, _, _, _, h8⟩ := dec_zero (hx.trans e)
    obtain rfl : k' = k2 := by omega
    obtain rfl : m' = m2 := by omega
    rw [h7, h8, dec_same h1 fun r hr => lat_row (by rw [h4]; exact pl7_bound h3 h6 r hr) ?_]
    rintro (q | q)
    · rw [thr_yes (pl7_has h6 hr), List.length_append, pl7_rank (by omega)] at q
      simp at q
      omega
    · rw [pl7_has h6 hr] at q; cases q
  · rw [dec_not e, dec_not (fun q => e (hx.symm.trans q))]

/-! All but one are there. -/
theorem thr_most {h : List Bool} {q : Int} (n : Nat) (hq : ∀ i : Nat, i < n → (i : Int) ≠ q → hb h i = true) : n ≤ (thr h n).length + 1 ∧ ((n : Int) ≤ q ∨ q < 0 → n ≤ (thr h n).length) := by
  induction n with
  | zero => exact ⟨by omega, fun _ => by omega⟩
  | succ n ih =>
    obtain ⟨i1, i2⟩ := ih fun i hi => hq i (by omega)
    by_cases e : (n : Int) = q
    · refine ⟨?_, fun h => by omega⟩
      have := i2 (Or.inl (by omega))
      have h2 := thr_mono (h := h) (show n ≤ n + 1 by omega)
      omega
    · have hn := hq n (by omega) e
      rw [thr_yes hn, List.length_append]
      refine ⟨by simp; omega, fun h => by have := i2 (by omega); simp; omega⟩
theorem thr_whole {h : List Bool} (n : Nat) (hq : ∀ i : Nat, i < n → hb h i = true) : (thr h n).length = n := by
  induction n with
  | zero => rfl
  | succ n ih => rw [thr_yes (hq n (by omega)), List.length_append, ih fun i hi => hq i (by omega)]; rfl
def allB7 (s : Nat) (q m : Int) : List Bool := (List.range s).map (fun (i : Nat) => decide ((i : Int) ≠ q) || decide (m = 0))
theorem allB7_length (s : Nat) (q m : Int) : (allB7 s q m).length = s := by simp [allB7]
theorem allB7_hb {s : Nat} {q m : Int} {i : Nat} (hi : i < s) : hb (allB7 s q m) i = (decide ((i : Int) ≠ q) || decide (m = 0)) := by simp [hb, allB7, List.getD, hi]
theorem allB7_few {k m : Nat} (q : Int) : k ≤ (thr (allB7 (k + m) q m) (allB7 (k + m) q m).length).length := by
  rw [allB7_length]
  by_cases e : m = 0
  · subst e
    rw [thr_whole (k + 0) fun i hi => by rw [allB7_hb hi]; simp]
    omega
  · have := (thr_most (h := allB7 (k + m) q m) (q := q) (k + m) fun i hi hne => by rw [allB7_hb hi]; simp [hne]).1
    omega
/-- a stripe, decoded from itself -/
theorem self_ok {k m : Nat} {D : List (List UInt8)} {h : List Bool} (hD : D.length = k) (hE : Even D) (hh : h.length = k + m) : OkH k m h (encL m k (parF k) D) := by
  refine ⟨by omega, by rw [encL_length]; omega, fun r s hr hs => ?_⟩
  have h1 := hb_lt hr
  have h2 := hb_lt hs
  rw [enc_len hE (by omega), enc_len hE (by omega)]
theorem self_back {k m : Nat} {D : List (List UInt8)} {h : List Bool} (h1 : 1 ≤ k) (h2 : k + m ≤ 256) (hD : D.length = k) (hE : Even D) (hh : h.length = k + m) (hf : k ≤ (thr h h.length).length) (hV : IsInv k (rowsF k (pl7 h)) (invF k (pl7 h))) :
    decR k m h (encL m k (parF k) D) = encL m k (parF k) D := by
  rw [(decX_ok (okC_mk h1 h2) (self_ok hD hE hh) hf).2, dec_back (m := m) (D := D) h1 hV (pl7_bound hh hf) hD hE fun r hr => rfl]
theorem addL_len {A B : List (List UInt8)} (i : Nat) : (ro (addL A B) i).length = (ro A i).length := by
  by_cases h : i < A.length
  · exact addL_row h
  · rw [ro_ge (by rw [addL_length]; omega), ro_ge (by omega)]
/-- the sum's -/
theorem sum_dec {k m : Nat} {A B : List (List UInt8)} {h : List Bool} (h1 : 1 ≤ k) (h2 : k + m ≤ 256) (hA : A.length = k + m) (hB : B.length = k + m) (hl : ∀ i, i < A.length → (ro A i).length = (ro B i).length) (hh : h.length = k + m) (hE : EvenH h A) (hf : k ≤ (thr h h.length).length) :
    encL m k (parF k) (decD k (invF k (pl7 h)) (pl7 h) (addL A B)) = addL (encL m k (parF k) (decD k (invF k (pl7 h)) (pl7 h) A)) (encL m k (parF k) (decD k (invF k (pl7 h)) (pl7 h) B)) := by
  have hp := pl7_bound (m := m) hh hf
  rw [dec_add h1 (fun i hi => by rw [hA]; exact hp i hi) (fun i hi => hE _ _ (pl7_has hf hi) (pl7_has hf (by omega))) (hl _ (by rw [hA]; exact hp 0 (by omega))).symm]
  exact enc_add (decD_length _ _ _ _) (decD_length _ _ _ _) (by omega) (decD_even h1) (decD_even h1) (by rw [decD_row (by omega), decD_row (by omega)]; exact hl _ (by rw [hA]; exact hp 0 (by omega)))

end Go.Proofs.Ytchfonofjbpmaaa.Gf

/-
  SLICES OF SLICES: what the program says of the type of a shard. No program's function is named here.
-/

namespace Go.Proofs.Ytchfonofjbpmaaa.Gf
set_option linter.unusedVariables false
set_option linter.unusedSimpArgs false
open Go.RowKit

theorem info_shard : (Try.prog.info? 22).map (fun i => (i.zero, i.size, i.bytes)) = some (some (.slice none 0 0), 1, 24) := by kernel_rfl
theorem take_next {M : List (List UInt8)} {k : Nat} (h : k < M.length) : M.take (k + 1) = M.take k ++ [ro M k] := by
  rw [List.take_add_one, ro_some h]; rfl

end Go.Proofs.Ytchfonofjbpmaaa.Gf

/-
  THE STATEMENTS' HELPERS OF LAYER 8 BY CONTRACT: 'Column', 'Line'.
-/

namespace Go.Proofs.Ytchfonofjbpmaaa.Gf
set_option linter.unusedVariables false
set_option linter.unusedSimpArgs false
open Go.RowKit

/-- are all of them 0? -/
def noughtB (p : List UInt8) : Bool := decide (∀ i, i < p.length → co p i = 0)

/-- a word as shards of one byte each -/
def colL (p : List UInt8) : List (List UInt8) := mkL p.length (fun i => [co p i])

set_option maxRecDepth 100000 in
set_option maxHeartbeats 2000000 in
theorem col_any {v : Value} {p : List UInt8} {w : World} (hp : Rd w v p) (hl : p.length ≤ 300) : Calls Try.prog 21 #[v] w fun e w' => ∃ v', e = .returned v' ∧ Rs w' v' (colL p) ∧ Below w.heap.size w w' := by
  obtain ⟨i0, hi, hz0, hz1, hz2⟩ := info_parts info_u8
  obtain ⟨i1, hj, hy0, hy1, hy2⟩ := info_parts info_shard
  obtain ⟨a, c, rfl⟩ := hp.form
  go_enter Try.func21, Try.ntmps21
  go_wp2
  go_loopw [3, 4] (fun o i wr => ∃ k : Nat, k ≤ p.length ∧ i = .int .i64 k ∧ Os wr w.heap.size 22 5 o (mkL k (fun i => [co p i])) ∧ Below w.heap.size w wr) (fun _ i _ => p.length - (intOf i).toNat)
  case atStart => exact ⟨0, by omega, rfl, Os.nil _ _ _ _, Below.refl _ _⟩
  case round =>
    obtain ⟨k, hk, rfl, hO, hB⟩ := hrel
    have hsz := hB.size
    have HL : Hid ((mkL k (fun i => [co p i])).length = k) := mkL_length _ _
    obtain ⟨av, cv, ev⟩ := hO.form
    rw [HL.out] at ev
    subst ev
    by_cases hlt : k < p.length
    · obtain ⟨b, off, rfl, hb, c1⟩ := (hp.below hB).byte hlt
      have hlt' : (k : Int) < (p.length : Int) := by omega
      obtain ⟨x, hx⟩ : ∃ x, Hid (x = co p k) := ⟨_, rfl⟩
      have HT : Hid (mkL (k + 1) (fun i => [co p i]) = mkL k (fun i => [co p i]) ++ [[x]]) := by show _ = _; rw [hx.out]; exact mkL_succ _ _
      rw [← hx.out] at c1
      have hA1 : Below wr.heap.size wr (wr.alloc (.cells #[.int .u8 (x.toNat : Nat)] 5)) := (Below.refl _ _).alloc (Nat.le_refl _) _
      have hx5 : OwnP (wr.alloc (.cells #[.int .u8 (x.toNat : Nat)] 5)) w.heap.size 5 (.slice (some ⟨wr.heap.size, 0, none⟩) 1 1) [x] :=
        ownsRow_base (World.ownsRow_lit wr #[.int .u8 (x.toNat : Nat)] 1 (Nat.le_refl _) (by unfold maxLen; omega) rfl) hsz
      clear hp
      go_wp2_with (at_builtin; go_loud (refine wpList_append_os rfl (.tmp 11) (.tmp 17) 36 rfl w.heap.size 22 i1 Try.underlying36 hj hy0 hy1 hy2 5 (.slice av k cv) (mkL k (fun i => [co p i])) rfl hO hA1 (.slice (some ⟨wr.heap.size, 0, none⟩) 1 1) [x] hx5 (by intro q hq; cases hq; exact Nat.le_refl _) _ 1 (show Value.slice (some ⟨wr.heap.size + 1, 0, none⟩) 1 1 = _ by simp) (by rw [HL.out]; omega) hsz ?_); intro v' w6 hv6 hb6 _ _)
      rw [← HT.out] at hv6
      have HB : Hid (Below w.heap.size w w6) := hB.trans hb6
      have HO : Hid (Os w6 w.heap.size 22 5 v' (mkL (k + 1) (fun i => [co p i]))) := hv6
      clear hB hb6 hv6 hO hx5 hA1 c1
      go_roundw
      case rel => exact ⟨k + 1, by omega, by go_num, HO.out, HB.out⟩
      case measure => simp [intOf]; omega
    · have e : k = p.length := by omega
      have hge : ¬ (k : Int) < (p.length : Int) := by omega
      have HR : Hid (Rs wr (.slice av k cv) (colL p)) := by
        show Rs _ _ _
        unfold colL
        rw [← e]; exact hO.rs
      clear hp e hO
      go_wp2
      go_ret
      exact ⟨_, rfl, HR.out, hB⟩

/-- shards of one byte each as a word -/
def lineL (L : List (List UInt8)) : List UInt8 := upto (fun i => co (ro L i) 0) L.length

set_option maxRecDepth 100000 in
set_option maxHeartbeats 2000000 in
theorem line_far {v : Value} {L : List (List UInt8)} {w : World} (hL : Rs w v L) (hl : L.length ≤ 300) (h1 : ∀ i, i < L.length → (ro L i).length = 1) : Calls Try.prog 22 #[v] w fun e w' => ∃ v', e = .returned v' ∧ Rd w' v' (lineL L) ∧ Below w.heap.size w w' ∧ Far w.heap.size v' := by
  obtain ⟨i0, hi, hz0, hz1, hz2⟩ := info_parts info_u8
  obtain ⟨a, c, rfl⟩ := hL.form
  have h1' : Hid _ := h1
  clear h1
  go_enter Try.func22, Try.ntmps22
  go_wp2
  go_loopw [3, 4] (fun o i wr => ∃ k : Nat, k ≤ L.length ∧ i = .int .i64 k ∧ wr.ownsRow w.heap.size 5 1 o k ((upto (fun i => co (ro L i) 0) k).map vb) ∧ Below w.heap.size w wr) (fun _ i _ => L.length - (intOf i).toNat)
  case atStart => exact ⟨0, by omega, rfl, World.ownsRow_nil _ _ _ _, Below.refl _ _⟩
  case round =>
    obtain ⟨k, hk, rfl, hown, hB⟩ := hrel
    have hsz := hB.size
    obtain ⟨av, cv, rfl⟩ := owns_form hown
    by_cases hlt : k < L.length
    · obtain ⟨b, off, xa, xc, rfl, hb, c1, r1⟩ := (hL.below hB).at hlt
      have hlt' : (k : Int) < (L.length : Int) := by omega
      have e1 := h1'.out k hlt
      obtain ⟨x, hx⟩ : ∃ x, Hid (x = co (ro L k) 0) := ⟨_, rfl⟩
      have e2 : ro L k = [x] := by
        refine co_ext (by rw [e1]; rfl) fun i hi => ?_
        rw [show i = 0 by omega, hx.out]; rfl
      rw [e2] at c1 r1
      have HR : Hid (Rd wr (.slice xa 1 xc) [x]) := r1
      have c1' : wr.cell? ⟨b, off + k, none⟩ = some (.slice xa 1 xc) := c1
      clear e1 e2 c1 r1 hL
      go_wp2_with (at_builtin; go_loud (refine wpList_append_rd2 _ rfl (.tmp 11) (.tmp 15) 22 rfl w.heap.size 5 i0 Try.underlying22 hi hz0 hz1 hz2 (.slice av k cv) k _ rfl hown _ [x] rfl HR.out (by simp; omega) hsz ?_); intro x' w4 hx4 hg4 _)
      have HN : Hid (w4.ownsRow w.heap.size 5 1 x' (k + 1) ((upto (fun i => co (ro L i) 0) (k + 1)).map vb)) := (by rw [upto_vb_succ, ← hx.out]; exact hx4 : w4.ownsRow w.heap.size 5 1 x' (k + 1) ((upto (fun i => co (ro L i) 0) (k + 1)).map vb))
      have HB : Hid (Below w.heap.size w w4) := hB.grown hg4 hsz (fun q hq => (World.ownsRow.lt hown q hq).1)
      clear hx4 hg4 hown hB c1' HR
      go_roundw
      case rel => exact ⟨k + 1, by omega, by go_num, HN.out, HB.out⟩
      case measure => simp [intOf]; omega
    · have e : k = L.length := by omega
      have hge : ¬ (k : Int) < (L.length : Int) := by omega
      have HR : Hid (Rd wr (.slice av k cv) (lineL L)) := by
        show Rd _ _ _
        unfold lineL
        rw [← e]
        exact Rd.owned (base := w.heap.size) (e := 5) (by rw [upto_length]; exact hown)
      have HF : Hid (Far w.heap.size (.slice av k cv)) := fun x n9 c9 e9 => by
        obtain ⟨_, ⟨q1, _⟩ | ⟨gq, capq, curq, q1, q2, _⟩⟩ := hown
        · rw [q1] at e9; simp at e9
        · rw [q1] at e9
          simp at e9
          rw [← e9.1]
          exact q2
      clear e hown hL
      go_wp2
      go_ret
      exact ⟨_, rfl, HR.out, hB, HF.out⟩

theorem line_any {v : Value} {L : List (List UInt8)} {w : World} (hL : Rs w v L) (hl : L.length ≤ 300) (h1 : ∀ i, i < L.length → (ro L i).length = 1) : Calls Try.prog 22 #[v] w fun e w' => ∃ v', e = .returned v' ∧ Rd w' v' (lineL L) ∧ Below w.heap.size w w' :=
  (line_far hL hl h1).mono fun e w' ⟨v', h1, h2, h3, _⟩ => ⟨v', h1, h2, h3⟩

end Go.Proofs.Ytchfonofjbpmaaa.Gf

/-
  WORDS AS SHARDS OF ONE BYTE EACH: what is encoded has no syndromes; a word fits just if it has none. No program's function is named here.
-/

namespace Go.Proofs.Ytchfonofjbpmaaa.Gf
set_option linter.unusedVariables false
set_option linter.unusedSimpArgs false
open Go.RowKit

/-- the first bytes of a slice -/
theorem Rd.first {w : World} {b off n c k : Nat} {p : List UInt8} (h : Rd w (.slice (some ⟨b, off, none⟩) n c) p) (hk : k ≤ p.length) (h0 : 1 ≤ k) : Rd w (.slice (some ⟨b, off, none⟩) k c) (p.take k) := by
  rcases h with ⟨a, c', e, _⟩ | ⟨b', off', c', h1, h2, h3, h4, h5, h6⟩
  · subst e; simp at hk; omega
  · simp at h2
    obtain ⟨⟨rfl, rfl⟩, rfl, rfl⟩ := h2
    have hl : (p.take k).length = k := by rw [List.length_take]; omega
    refine Or.inr ⟨b, off, c, fun e => by rw [e] at hl; simp at hl; omega, by rw [hl], by omega, h4, h5, fun i hi => ?_⟩
    rw [hl] at hi
    rw [h6 i (by omega), co_take hi]
theorem Rd.place {w : World} {v : Value} {p : List UInt8} (h : Rd w v p) (h0 : 0 < p.length) : ∃ b off c, v = .slice (some ⟨b, off, none⟩) p.length c ∧ p.length ≤ c ∧ c ≤ maxLen := by
  rcases h with ⟨a, c', e, _⟩ | ⟨b', off', c', h1, h2, h3, h4, h5, h6⟩
  · subst e; simp at h0
  · exact ⟨b', off', c', h2, h3, h4⟩
theorem colL_length (p : List UInt8) : (colL p).length = p.length := mkL_length _ _
theorem colL_row {p : List UInt8} {i : Nat} (h : i < p.length) : ro (colL p) i = [co p i] := ro_mkL h
theorem colL_even (p : List UInt8) : Even (colL p) := fun i hi => by
  rw [colL_length] at hi
  rw [colL_row hi, colL_row (by omega)]; rfl
theorem colL_small {p : List UInt8} (h : p.length ≤ 300) : Small (colL p) := ⟨by rw [colL_length]; exact h, fun i => by
  by_cases e : i < p.length
  · rw [colL_row e]; simp
  · rw [ro_ge (by rw [colL_length]; omega)]; simp⟩
theorem colL_take {p : List UInt8} {k : Nat} (h : k ≤ p.length) : (colL p).take k = colL (p.take k) := by
  have hl : (p.take k).length = k := by rw [List.length_take]; omega
  refine ro_ext (by rw [List.length_take, colL_length, colL_length, hl]; omega) fun i hi => ?_
  rw [List.length_take, colL_length] at hi
  rw [ro_take (by omega), colL_row (by omega), colL_row (by omega), co_take (by omega)]
theorem encC_len {p : List UInt8} {k m i : Nat} (hk : p.length = k) (h1 : 1 ≤ k) (hi : i < k + m) : (ro (encL m k (parF k) (colL p)) i).length = 1 := by
  rw [enc_len (colL_even p) (by rw [colL_length]; omega), colL_row (by omega)]; rfl
theorem encC_data {p : List UInt8} {k m i : Nat} (hk : p.length = k) (hi : i < k) : co (ro (encL m k (parF k) (colL p)) i) 0 = co p i := by
  rw [enc_row_lt (by rw [colL_length]; omega), colL_row (by omega)]; rfl
theorem encC_par {p : List UInt8} {k m i : Nat} (hk : p.length = k) (h1 : 1 ≤ k) (hi : i < m) : co (ro (encL m k (parF k) (colL p)) (k + i)) 0 = S k (fun j => mu (parF k i j) (co p j)) := by
  rw [enc_row_ge' (by rw [colL_length]; omega) (by rw [colL_length]; omega), colL_length, hk, show k + i - k = i by omega]
  unfold parR
  rw [colL_row (by omega), co_upto_in (by simp)]
  exact S_congr fun l hl => by rw [colL_row (by omega)]; rfl
theorem line_len {p : List UInt8} {k m : Nat} (hk : p.length = k) : (lineL (encL m k (parF k) (colL p))).length = k + m := by
  unfold lineL
  rw [upto_length, encL_length, colL_length, hk]
/-- what is encoded has no syndromes -/
theorem line_nought {p : List UInt8} {k m : Nat} (h1 : 1 ≤ k) (h2 : k + m ≤ 256) (hk : p.length = k) : noughtB (upto (synF k m (co (lineL (encL m k (parF k) (colL p))))) m) = true := by
  refine decide_eq_true fun l hl => ?_
  rw [upto_length] at hl
  rw [co_upto_in hl]
  have hc : ∀ i, i < k + m → co (lineL (encL m k (parF k) (colL p))) i = co (ro (encL m k (parF k) (colL p)) i) 0 := fun i hi => by
    unfold lineL
    rw [co_upto_in (by rw [encL_length, colL_length]; omega)]
  refine par_syn h2 (fun i hi => ?_) hl
  rw [hc _ (by omega), encC_par hk h1 hi]
  exact S_congr fun j hj => by rw [hc _ (by omega), encC_data hk hj]
/-- a word fits just if it has none -/
theorem fit_nought {z : List UInt8} {k m : Nat} (h1 : 1 ≤ k) (h2 : k + m ≤ 256) (hl : z.length = k + m) : sameL (encL m k (parF k) ((colL z).take k)) (colL z) = noughtB (upto (synF k m (co z)) m) := by
  have hk : (z.take k).length = k := by rw [List.length_take]; omega
  rw [colL_take (by omega)]
  unfold sameL noughtB
  rw [Bool.eq_iff_iff, decide_eq_true_eq, decide_eq_true_eq]
  constructor
  · intro e l hl2
    rw [upto_length] at hl2
    rw [co_upto_in hl2]
    refine par_syn h2 (fun i hi => ?_) hl2
    have e1 := encC_par (m := m) hk h1 hi
    rw [e, colL_row (by omega)] at e1
    have e2 : co z (k + i) = S k (fun j => mu (parF k i j) (co (z.take k) j)) := e1
    rw [e2]
    exact S_congr fun j hj => by rw [co_take hj]
  · intro h
    refine ro_ext (by rw [encL_length, colL_length, colL_length, hk, hl]) fun i hi => ?_
    rw [encL_length, colL_length, hk] at hi
    refine co_ext (by rw [encC_len hk h1 hi, colL_row (by omega)]; rfl) fun n hn => ?_
    rw [encC_len hk h1 hi] at hn
    obtain rfl : n = 0 := by omega
    rw [colL_row (by omega)]
    show _ = co z i
    by_cases e : i < k
    · rw [encC_data hk e, co_take e]
    · obtain ⟨r, rfl⟩ : ∃ r, i = k + r := ⟨i - k, by omega⟩
      rw [encC_par hk h1 (by omega), syn_par (z := co z) h2 (fun l hl3 => ?_) (show r < m by omega)]
      · exact S_congr fun j hj => by rw [co_take hj]
      · have := h l (by rw [upto_length]; exact hl3)
        rwa [co_upto_in hl3] at this

end Go.Proofs.Ytchfonofjbpmaaa.Gf

/-
  PLAIN MATHEMATICS: a word of the code is sought by trying sets of places: those out of which the rest is made anew. No program is named here.
-/



namespace Go.Proofs.Ytchfonofjbpmaaa.Gf
set_option linter.unusedVariables false
set_option linter.unusedSimpArgs false

/-! A matrix has an inverse, or makes nought of numbers that are not. -/
theorem gj_col10 {n c : Nat} {A L R : Mx} (h : GJ n A L R c) (hc : c < n) (hp : L c c ≠ 0) (s : Nat) (hs : s ≤ n) : ∃ L' R', GJ n A L' R' c ∧ L' c c ≠ 0 ∧ ∀ i, i < s → i ≠ c → L' i c = 0 := by
  induction s with
  | zero => exact ⟨L, R, h, hp, fun i hi => by omega⟩
  | succ s ih =>
    obtain ⟨L', R', h1, h2, h3⟩ := ih (by omega)
    by_cases e : s = c
    · exact ⟨L', R', h1, h2, fun i hi hne => h3 i (by omega) hne⟩
    · refine ⟨_, _, h1.clear (x := mu (L' s c) (iv (L' c c))) (r := s) (by omega) hc e, ?_, fun i hi hne => ?_⟩
      · show (if c = s then _ else L' c c) ≠ 0
        rw [if_neg (fun q => e q.symm)]; exact h2
      · show (if i = s then L' i c ^^^ mu (mu (L' s c) (iv (L' c c))) (L' c c) else L' i c) = 0
        by_cases ei : i = s
        · subst ei
          rw [if_pos rfl, mu_assoc, mu_comm (iv _), mu_iv h2, mu_one, x_self]
        · rw [if_neg ei]; exact h3 i (by omega) hne
theorem inv_or_sing (n : Nat) (A : Mx) : (∃ V, IsInv n A V) ∨ IsSing n A := by
  have key : ∀ c, c ≤ n → (∃ L R, GJ n A L R c) ∨ IsSing n A := by
    intro c
    induction c with
    | zero => intro _; exact Or.inl ⟨_, _, GJ.start n A⟩
    | succ c ih =>
      intro hc
      rcases ih (by omega) with ⟨L, R, h⟩ | h
      · by_cases hz : ∀ i, c ≤ i → i < n → L i c = 0
        · exact Or.inr (h.sing (by omega) hz)
        · obtain ⟨p, h1, h2, h3⟩ : ∃ p, c ≤ p ∧ p < n ∧ L p c ≠ 0 := by
            refine Classical.byContradiction fun q => hz fun i hi hn => Classical.byContradiction fun q2 => q ⟨i, hi, hn, q2⟩
          have e : sw p c c = p := by unfold sw; split <;> simp_all
          obtain ⟨L', R', g1, g2, g3⟩ := gj_col10 (h.swap h1 h2) (by omega) (by show L (sw p c c) c ≠ 0; rw [e]; exact h3) n (Nat.le_refl _)
          exact Or.inl ⟨L', R', g1.next (fun i hi hne => g3 i hi hne) g2⟩
      · exact Or.inr h
  rcases key n (Nat.le_refl _) with ⟨L, R, h⟩ | h
  · exact Or.inl ⟨_, h.finish⟩
  · exact Or.inr h
/-- the rows of those that are there have an inverse -/
theorem there_inv {k m : Nat} {h : List Bool} (h2 : k + m ≤ 256) (hl : h.length = k + m) (hk : k ≤ (thr h h.length).length) : IsInv k (rowsF k (pl7 h)) (invF k (pl7 h)) := by
  rcases inv_or_sing k (rowsF k (pl7 h)) with e | e
  · exact invF_is e
  · exact absurd e (gen_rows (N := k + m) h2 (by omega) (pl7 h) (fun i hi => by have := (pl7_in (h := h) (i := i) (by omega)).1; omega) (fun i j hi hj hij e => hij (pl7_inj (by omega) (by omega) e)))

/-- the word made anew out of those that are there -/
noncomputable def tryL (k m : Nat) (hs : List Bool) (z : List UInt8) : List UInt8 := lineL (encL m k (parF k) (decD k (invF k (pl7 hs)) (pl7 hs) (colL z)))
theorem try_col {k m : Nat} {hs : List Bool} {z : List UInt8} {V : Mx} (h1 : 1 ≤ k) (hl : hs.length = k + m) (hz : z.length = k + m) (hk : k ≤ (thr hs hs.length).length) : decD k V (pl7 hs) (colL z) = colL (upto (fun j => dwd V (pl7 hs) (colL z) j k 0) k) := by
  have hp := (pl7_in (h := hs) (i := 0) (by omega)).1
  have hr : (ro (colL z) (pl7 hs 0)).length = 1 := by rw [colL_row (by omega)]; rfl
  have hu : (upto (fun j => dwd V (pl7 hs) (colL z) j k 0) k).length = k := upto_length _ _
  refine L_ext (by rw [decD_length, colL_length, hu]) (fun i hi => ?_) fun i n hi hn => ?_
  · rw [decD_length] at hi
    rw [decD_row hi, hr, colL_row (by omega)]; rfl
  · rw [decD_length] at hi
    rw [decD_row hi, hr] at hn
    obtain rfl : n = 0 := by omega
    rw [decD_co hi (by omega), colL_row (by omega), co_upto_in hi]; rfl
theorem try_len {k m : Nat} {hs : List Bool} {z : List UInt8} (h1 : 1 ≤ k) (hl : hs.length = k + m) (hz : z.length = k + m) (hk : k ≤ (thr hs hs.length).length) : (tryL k m hs z).length = k + m := by
  unfold tryL
  rw [try_col h1 hl hz hk]
  exact line_len (upto_length _ _)
/-- .. is one of the code -/
theorem try_code {k m : Nat} {hs : List Bool} {z : List UInt8} (h1 : 1 ≤ k) (h2 : k + m ≤ 256) (hl : hs.length = k + m) (hz : z.length = k + m) (hk : k ≤ (thr hs hs.length).length) : CodeW k m (co (tryL k m hs z)) := by
  unfold tryL
  rw [try_col h1 hl hz hk]
  have h := of_decide_eq_true (line_nought (m := m) h1 h2 (upto_length (fun j => dwd (invF k (pl7 hs)) (pl7 hs) (colL z) j k 0) k))
  intro l hlm
  have e := h l (by rw [upto_length]; exact hlm)
  rwa [co_upto_in hlm] at e
/-- a word of the code is what its first k make -/
theorem enc_code {k m : Nat} {c : Nat → UInt8} (h1 : 1 ≤ k) (h2 : k + m ≤ 256) (hc : CodeW k m c) {i : Nat} (hi : i < k + m) : co (ro (encL m k (parF k) (colL (upto c k))) i) 0 = c i := by
  have hu : (upto c k).length = k := upto_length _ _
  by_cases e : i < k
  · rw [encC_data hu e, co_upto_in e]
  · obtain ⟨j, rfl⟩ : ∃ j, i = k + j := ⟨i - k, by omega⟩
    rw [encC_par hu h1 (by omega), syn_par h2 hc (by omega)]
    exact S_congr fun l hlk => by rw [co_upto_in hlk]
/-- a word of the code that agrees with those that are there is the one that is made -/
theorem try_is {k m : Nat} {hs : List Bool} {z : List UInt8} {c : Nat → UInt8} (h1 : 1 ≤ k) (h2 : k + m ≤ 256) (hl : hs.length = k + m) (hz : z.length = k + m) (hk : k ≤ (thr hs hs.length).length) (hc : CodeW k m c) (h : ∀ i, hb hs i = true → c i = co z i) {i : Nat} (hi : i < k + m) : co (tryL k m hs z) i = c i := by
  have hu : (upto c k).length = k := upto_length _ _
  have hp : ∀ i, i < k → pl7 hs i < k + m := fun i hi => by have := (pl7_in (h := hs) (i := i) (by omega)).1; omega
  have e : decD k (invF k (pl7 hs)) (pl7 hs) (colL z) = colL (upto c k) := by
    refine dec_back (m := m) h1 (there_inv h2 hl hk) hp (by rw [colL_length, hu]) (colL_even _) fun i hi => ?_
    have hb1 := (pl7_in (h := hs) (i := i) (by omega)).2
    have hpi := hp i hi
    rw [colL_row (by omega)]
    refine co_ext (by rw [encC_len hu h1 hpi]; rfl) fun n hn => ?_
    obtain rfl : n = 0 := by simp at hn; exact hn
    rw [enc_code h1 h2 hc hpi, h _ hb1]; rfl
  unfold tryL lineL
  rw [e, co_upto_in (by rw [encL_length, colL_length, hu]; exact hi)]
  exact enc_code h1 h2 hc hi

/-! Which are there, without some. -/
theorem thr_cnt (h : List Bool) (n : Nat) : (thr h n).length = cnt (hb h) n := by
  induction n with
  | zero => rfl
  | succ n ih =>
    rw [cnt]
    cases e : hb h n
    · rw [thr_no e, ih]; simp
    · rw [thr_yes e, List.length_append, ih]; simp
theorem cnt_not (p : Nat → Bool) (n : Nat) : cnt (fun i => !p i) n + cnt p n = n := by
  induction n with
  | zero => rfl
  | succ n ih => rw [cnt, cnt]; cases p n <;> simp <;> omega
theorem cnt_one (a n : Nat) : cnt (fun i => decide (i = a)) n ≤ (if a < n then 1 else 0) := by
  induction n with
  | zero => exact Nat.zero_le _
  | succ n ih =>
    rw [cnt]
    by_cases e : n = a
    · subst e
      rw [if_neg (Nat.lt_irrefl _)] at ih
      rw [if_pos (Nat.lt_succ_self _), if_pos (decide_eq_true rfl)]; omega
    · rw [if_neg (by simp [e])]
      by_cases h : a < n
      · rw [if_pos h] at ih; rw [if_pos (by omega)]; exact ih
      · rw [if_neg h] at ih; omega
theorem cnt_in (T : List Nat) (n : Nat) : cnt (fun i => decide (i ∈ T)) n ≤ T.length := by
  induction T with
  | nil =>
    have h := cnt_mono (p := fun i => decide (i ∈ ([] : List Nat))) (q := fun i => decide (i = n)) (n := n) (fun i hi h => by simp at h)
    have h2 := cnt_one n n
    rw [if_neg (by omega)] at h2
    simp at h ⊢; omega
  | cons a T ih =>
    have h1 := cnt_mono (p := fun i => decide (i ∈ a :: T)) (q := fun i => decide (i = a) || decide (i ∈ T)) (n := n) (fun i hi h => by simpa using h)
    have h2 := cnt_or (fun i => decide (i = a)) (fun i => decide (i ∈ T)) n
    have h3 := cnt_one a n
    have h4 : (if a < n then 1 else 0) ≤ 1 := by split <;> omega
    rw [List.length_cons]
    omega
def wth (ms : List Bool) (T : List Nat) : List Bool := (List.range ms.length).map (fun i => !hb ms i && !decide (i ∈ T))
theorem wth_length (ms : List Bool) (T : List Nat) : (wth ms T).length = ms.length := by simp [wth]
theorem wth_hb {ms : List Bool} {T : List Nat} {i : Nat} (hi : i < ms.length) : hb (wth ms T) i = (!hb ms i && !decide (i ∈ T)) := by
  unfold wth
  rw [hb, List.getD]
  simp [hi]
theorem wth_there {ms : List Bool} {T : List Nat} {k m : Nat} (hl : ms.length = k + m) (h : T.length + cnt (hb ms) (k + m) ≤ m) : k ≤ (thr (wth ms T) (wth ms T).length).length := by
  rw [thr_cnt, wth_length, hl, cnt_congr (q := fun i => !(hb ms i || decide (i ∈ T))) (fun i hi => by rw [wth_hb (by omega)]; simp)]
  have h1 := cnt_not (fun i => hb ms i || decide (i ∈ T)) (k + m)
  have h2 := cnt_or (hb ms) (fun i => decide (i ∈ T)) (k + m)
  have h3 := cnt_in T (k + m)
  omega
/-- what is tried and differs in few enough is near -/
theorem try_near {k m : Nat} {ms : List Bool} {z : List UInt8} {T : List Nat} (h1 : 1 ≤ k) (h2 : k + m ≤ 256) (hl : ms.length = k + m) (hz : z.length = k + m) (ht : 2 * T.length + cnt (hb ms) (k + m) ≤ m)
    (hd : cnt (wrg (co z) (co (tryL k m (wth ms T) z)) (hb ms)) (k + m) ≤ T.length) : Near k m (co z) (hb ms) (co (tryL k m (wth ms T) z)) :=
  ⟨try_code h1 h2 (by rw [wth_length]; exact hl) hz (wth_there hl (by omega)), by omega⟩
/-- the near one is found where all that are wrong are left out -/
theorem try_finds {k m : Nat} {ms : List Bool} {z : List UInt8} {T : List Nat} {c : Nat → UInt8} (h1 : 1 ≤ k) (h2 : k + m ≤ 256) (hl : ms.length = k + m) (hz : z.length = k + m) (ht : T.length + cnt (hb ms) (k + m) ≤ m)
    (hc : CodeW k m c) (hT : ∀ i, i < k + m → wrg (co z) c (hb ms) i = true → i ∈ T) {i : Nat} (hi : i < k + m) : co (tryL k m (wth ms T) z) i = c i := by
  refine try_is h1 h2 (by rw [wth_length]; exact hl) hz (wth_there hl ht) hc (fun j hj => ?_) hi
  have hjl := hb_lt hj
  rw [wth_length] at hjl
  rw [wth_hb hjl] at hj
  simp at hj
  refine Classical.byContradiction fun q => hj.2 (hT j (by omega) ?_)
  simp [wrg, hj.1, q]
/-- the places of a function of places, as a set that rises -/
theorem plc_inc (p : Nat → Bool) (n : Nat) : Inc n (cnt p n) (fun i => (plc p n).getD i 0) := by
  have hs : (plc p n).Pairwise (· < ·) := List.Pairwise.filter _ List.pairwise_lt_range
  refine ⟨fun i j hij hj => ?_, fun i hi => ?_⟩
  · rw [← plc_length] at hj
    have := List.pairwise_iff_getElem.1 hs i j (by omega) hj hij
    simpa [List.getD, hj, show i < (plc p n).length by omega] using this
  · rw [← plc_length] at hi
    have := plc_mem.1 (List.getElem_mem hi)
    simpa [List.getD, hi] using this.1
/-- a set as a list -/
def stL (g : Nat → Nat) (t : Nat) : List Nat := (List.range t).map g
theorem stL_length (g : Nat → Nat) (t : Nat) : (stL g t).length = t := by simp [stL]
theorem stL_eqs {g h : Nat → Nat} {t : Nat} (e : Eqs t g h) : stL g t = stL h t := List.map_congr_left fun i hi => e i (List.mem_range.1 hi)
theorem stL_plc (p : Nat → Bool) (n : Nat) : stL (fun i => (plc p n).getD i 0) (cnt p n) = plc p n := by
  refine List.ext_getElem (by rw [stL_length, plc_length]) fun i h1 h2 => ?_
  simp [stL, List.getD, h2]
/-- a set that was tried in vain -/
def Vain (k m : Nat) (z : List UInt8) (ms : List Bool) (t : Nat) (g : Nat → Nat) : Prop := t < cnt (wrg (co z) (co (tryL k m (wth ms (stL g t)) z)) (hb ms)) (k + m)
theorem Vain.congr {k m : Nat} {z : List UInt8} {ms : List Bool} {t : Nat} {a b : Nat → Nat} (e : Eqs t a b) (h : Vain k m z ms t a) : Vain k m z ms t b := by
  unfold Vain at h ⊢
  rwa [← stL_eqs e]
/-- where all are tried in vain there is none -/
theorem vain_none {k m : Nat} {z : List UInt8} {ms : List Bool} (h1 : 1 ≤ k) (h2 : k + m ≤ 256) (hl : ms.length = k + m) (hz : z.length = k + m)
    (h : ∀ t g, 2 * t + cnt (hb ms) (k + m) ≤ m → Inc (k + m) t g → Vain k m z ms t g) : ¬ ∃ c, Near k m (co z) (hb ms) c := by
  rintro ⟨c, hc⟩
  have hf := hc.few
  have v := h (cnt (wrg (co z) c (hb ms)) (k + m)) _ hf (plc_inc _ _)
  unfold Vain at v
  rw [stL_plc] at v
  have e : ∀ i, i < k + m → co (tryL k m (wth ms (plc (wrg (co z) c (hb ms)) (k + m))) z) i = c i := fun i hi =>
    try_finds h1 h2 hl hz (by rw [plc_length]; omega) hc.code (fun j hj hw => plc_mem.2 ⟨hj, hw⟩) hi
  have e2 : cnt (wrg (co z) (co (tryL k m (wth ms (plc (wrg (co z) c (hb ms)) (k + m))) z)) (hb ms)) (k + m) = cnt (wrg (co z) c (hb ms)) (k + m) := cnt_congr fun i hi => by
    show (!hb ms i && decide (_ ≠ co z i)) = (!hb ms i && decide (c i ≠ co z i))
    rw [e i hi]
  rw [e2] at v
  exact Nat.lt_irrefl _ v

end Go.Proofs.Ytchfonofjbpmaaa.Gf

