/-
  PLAIN MATHEMATICS: square and other matrices over the field as functions of two places: products, inverses by rows' steps (Gauss and Jordan), and matrices that have none. No program is named here.
-/
import Derived.Test.YtehphjapahdalaaPoSum
namespace Go.Proofs.Ytehphjapahdalaa.Gf
set_option linter.unusedVariables false
set_option linter.unusedSimpArgs false

theorem S_swap (n m : Nat) (F : Nat → Nat → UInt8) : S n (fun i => S m (fun j => F i j)) = S m (fun j => S n (fun i => F i j)) := by
  induction n with
  | zero => rw [S]; exact (S_zero fun _ _ => rfl).symm
  | succ n ih =>
    rw [S, ih, ← S_xor]
    exact S_congr fun j _ => rfl

abbrev Mx := Nat → Nat → UInt8
def mm (n : Nat) (A B : Mx) : Mx := fun i j => S n (fun k => mu (A i k) (B k j))
def mv (n : Nat) (A : Mx) (x : Nat → UInt8) (i : Nat) : UInt8 := S n (fun k => mu (A i k) (x k))
def one : Mx := fun i j => if i = j then 1 else 0
theorem one_self (i : Nat) : one i i = 1 := if_pos rfl
theorem one_ne {i j : Nat} (h : i ≠ j) : one i j = 0 := if_neg h
theorem mm_assoc (n m : Nat) (A B C : Mx) : mm n (mm m A B) C = mm m A (mm n B C) := by
  funext i j
  unfold mm
  have e1 : S n (fun k => mu (S m (fun l => mu (A i l) (B l k))) (C k j)) = S n (fun k => S m (fun l => mu (A i l) (mu (B l k) (C k j)))) :=
    S_congr fun k _ => by rw [S_mu]; exact S_congr fun l _ => mu_assoc _ _ _
  have e2 : S m (fun l => mu (A i l) (S n (fun k => mu (B l k) (C k j)))) = S m (fun l => S n (fun k => mu (A i l) (mu (B l k) (C k j)))) :=
    S_congr fun l _ => mu_S _ _ _
  rw [e1, e2, S_swap]
theorem mv_assoc (n m : Nat) (A B : Mx) (x : Nat → UInt8) : mv n (mm m A B) x = mv m A (mv n B x) := by
  funext i
  exact congrFun (congrFun (mm_assoc n m A B (fun k _ => x k)) i) 0
theorem mm_congr {n : Nat} {A A' B B' : Mx} {i j : Nat} (hA : ∀ k, k < n → A i k = A' i k) (hB : ∀ k, k < n → B k j = B' k j) : mm n A B i j = mm n A' B' i j :=
  S_congr fun k hk => by rw [hA k hk, hB k hk]
theorem mv_congr {n : Nat} {A A' : Mx} {x x' : Nat → UInt8} {i : Nat} (hA : ∀ k, k < n → A i k = A' i k) (hx : ∀ k, k < n → x k = x' k) : mv n A x i = mv n A' x' i :=
  S_congr fun k hk => by rw [hA k hk, hx k hk]
theorem mm_one {n : Nat} (A : Mx) (i : Nat) {j : Nat} (hj : j < n) : mm n A one i j = A i j := by
  unfold mm
  rw [S_one (k := j) hj (fun k _ hk => by rw [one_ne hk, mu_zero]), one_self, mu_one]
theorem one_mm {n : Nat} (A : Mx) {i : Nat} (j : Nat) (hi : i < n) : mm n one A i j = A i j := by
  unfold mm
  rw [S_one (k := i) hi (fun k _ hk => by rw [one_ne (fun h => hk h.symm), zero_mu]), one_self, one_mu]
theorem one_mv {n : Nat} (x : Nat → UInt8) {i : Nat} (hi : i < n) : mv n one x i = x i := one_mm (fun k _ => x k) 0 hi
theorem mm_add (n : Nat) (A B C : Mx) (i j : Nat) : mm n A (fun i j => B i j ^^^ C i j) i j = mm n A B i j ^^^ mm n A C i j := by
  unfold mm
  rw [← S_xor]
  exact S_congr fun k _ => mu_xor _ _ _
theorem mv_add (n : Nat) (A : Mx) (x y : Nat → UInt8) (i : Nat) : mv n A (fun k => x k ^^^ y k) i = mv n A x i ^^^ mv n A y i := mm_add n A (fun k _ => x k) (fun k _ => y k) i 0

/-- V is A's inverse, on both sides. -/
structure IsInv (n : Nat) (A V : Mx) : Prop where
  left : ∀ i j, i < n → j < n → mm n V A i j = one i j
  right : ∀ i j, i < n → j < n → mm n A V i j = one i j
/-- A takes something that is not nought to nought. -/
def IsSing (n : Nat) (A : Mx) : Prop := ∃ x : Nat → UInt8, (∃ j, j < n ∧ x j ≠ 0) ∧ ∀ i, i < n → mv n A x i = 0
theorem IsSing.no_left {n : Nat} {A V : Mx} (h : IsSing n A) (hV : ∀ i j, i < n → j < n → mm n V A i j = one i j) : False := by
  obtain ⟨x, ⟨j, hj, hx⟩, h0⟩ := h
  apply hx
  have e : mv n (mm n V A) x j = x j := by rw [mv_congr (A' := one) (x' := x) (fun k hk => hV j k hj hk) (fun _ _ => rfl), one_mv x hj]
  rw [← e, mv_assoc]
  exact S_zero fun k hk => by rw [h0 k hk, mu_zero]
theorem IsInv.unique_left {n : Nat} {A V V' : Mx} (h : IsInv n A V) (hV : ∀ i j, i < n → j < n → mm n V' A i j = one i j) : ∀ i j, i < n → j < n → V' i j = V i j := by
  intro i j hi hj
  have e1 : mm n V' (mm n A V) i j = V' i j := by rw [mm_congr (A' := V') (B' := one) (fun _ _ => rfl) (fun k hk => h.right k j hk hj), mm_one V' i hj]
  have e2 : mm n (mm n V' A) V i j = V i j := by rw [mm_congr (A' := one) (B' := V) (fun k hk => hV i k hi hk) (fun _ _ => rfl), one_mm V j hi]
  rw [← e1, ← e2, mm_assoc]
theorem IsInv.unique {n : Nat} {A V V' : Mx} (h : IsInv n A V) (h' : IsInv n A V') : ∀ i j, i < n → j < n → V' i j = V i j := h.unique_left h'.left
theorem IsInv.symm {n : Nat} {A V : Mx} (h : IsInv n A V) : IsInv n V A := ⟨h.right, h.left⟩
theorem IsInv.congr {n : Nat} {A A' V V' : Mx} (h : IsInv n A V) (hA : ∀ i j, i < n → j < n → A i j = A' i j) (hV : ∀ i j, i < n → j < n → V i j = V' i j) : IsInv n A' V' :=
  ⟨fun i j hi hj => by rw [← h.left i j hi hj]; exact (mm_congr (fun k hk => hV i k hi hk) (fun k hk => hA k j hk hj)).symm,
   fun i j hi hj => by rw [← h.right i j hi hj]; exact (mm_congr (fun k hk => hA i k hi hk) (fun k hk => hV k j hk hj)).symm⟩
theorem IsSing.congr {n : Nat} {A A' : Mx} (h : IsSing n A) (hA : ∀ i j, i < n → j < n → A i j = A' i j) : IsSing n A' := by
  obtain ⟨x, hx, h0⟩ := h
  exact ⟨x, hx, fun i hi => by rw [← h0 i hi]; exact (mv_congr (fun k hk => hA i k hi hk) (fun _ _ => rfl)).symm⟩
theorem isInv_one (n : Nat) : IsInv n one one := ⟨fun i j hi hj => mm_one one i hj, fun i j hi hj => mm_one one i hj⟩
theorem IsInv.mul {n : Nat} {A B V W : Mx} (hA : IsInv n A V) (hB : IsInv n B W) : IsInv n (mm n A B) (mm n W V) := by
  have key : ∀ {A B V W : Mx}, (∀ i j, i < n → j < n → mm n V A i j = one i j) → (∀ i j, i < n → j < n → mm n W B i j = one i j) → ∀ i j, i < n → j < n → mm n (mm n W V) (mm n A B) i j = one i j := by
    intro A B V W h1 h2 i j hi hj
    rw [mm_assoc, ← h2 i j hi hj]
    refine mm_congr (fun _ _ => rfl) fun k hk => ?_
    rw [← mm_assoc, mm_congr (A' := one) (B' := B) (fun l hl => h1 k l hk hl) (fun _ _ => rfl), one_mm B j hk]
  exact ⟨key hA.left hB.left, key hB.right hA.right⟩
/-- two rows alike -/
theorem IsInv.rows_apart {n : Nat} {A V : Mx} (h : IsInv n A V) {i j : Nat} (hi : i < n) (hj : j < n) (hij : i ≠ j) (he : ∀ k, k < n → A i k = A j k) : False := by
  have e1 := h.right i i hi hi
  have e2 := h.right j i hj hi
  rw [one_self] at e1
  rw [one_ne (fun e => hij e.symm)] at e2
  have e3 : mm n A V i i = mm n A V j i := S_congr fun k hk => by rw [he k hk]
  rw [e1, e2] at e3
  cases e3

/-! Gauss and Jordan: L is what became of A, R of the identity; c columns are done. -/
structure GJ (n : Nat) (A L R : Mx) (c : Nat) : Prop where
  eqn : ∀ i j, i < n → j < n → mm n R A i j = L i j
  ker : ∀ x : Nat → UInt8, (∀ i, i < n → mv n R x i = 0) → ∀ j, j < n → x j = 0
  done : ∀ j, j < c → ∀ i, i < n → i ≠ j → L i j = 0
  piv : ∀ j, j < c → L j j ≠ 0
theorem GJ.start (n : Nat) (A : Mx) : GJ n A A one 0 :=
  ⟨fun i j hi hj => one_mm A j hi, fun x h j hj => by rw [← h j hj, one_mv x hj], fun j h => by omega, fun j h => by omega⟩
theorem GJ.congr {n c : Nat} {A A' L L' R R' : Mx} (h : GJ n A L R c) (hc : c ≤ n) (hA : ∀ i j, i < n → j < n → A i j = A' i j) (hL : ∀ i j, i < n → j < n → L i j = L' i j) (hR : ∀ i j, i < n → j < n → R i j = R' i j) : GJ n A' L' R' c :=
  ⟨fun i j hi hj => by rw [← hL i j hi hj, ← h.eqn i j hi hj]; exact (mm_congr (fun k hk => hR i k hi hk) (fun k hk => hA k j hk hj)).symm,
   fun x hx => h.ker x fun i hi => by rw [← hx i hi]; exact mv_congr (fun k hk => hR i k hi hk) (fun _ _ => rfl),
   fun j hj i hi hij => by rw [← hL i j hi (by omega)]; exact h.done j hj i hi hij,
   fun j hj => by rw [← hL j j (by omega) (by omega)]; exact h.piv j hj⟩
/-- rows change places -/
def sw (p c i : Nat) : Nat := if i = p then c else if i = c then p else i
theorem sw_lt {p c i n : Nat} (hp : p < n) (hc : c < n) (hi : i < n) : sw p c i < n := by unfold sw; split <;> (try split) <;> omega
theorem sw_sw (p c i : Nat) : sw p c (sw p c i) = i := by
  unfold sw
  by_cases h1 : i = p
  · subst h1; rw [if_pos rfl]
    by_cases h2 : c = i
    · rw [if_pos h2]; exact h2
    · rw [if_neg h2, if_pos rfl]
  · rw [if_neg h1]
    by_cases h2 : i = c
    · rw [if_pos h2, if_pos rfl]; exact h2.symm
    · rw [if_neg h2, if_neg h1, if_neg h2]
theorem sw_low {p c j : Nat} (h1 : j < c) (h2 : c ≤ p) : sw p c j = j := by unfold sw; rw [if_neg (by omega), if_neg (by omega)]
theorem GJ.swap {n c p : Nat} {A L R : Mx} (h : GJ n A L R c) (hcp : c ≤ p) (hp : p < n) : GJ n A (fun i j => L (sw p c i) j) (fun i j => R (sw p c i) j) c := by
  have hc : c < n := by omega
  refine ⟨fun i j hi hj => ?_, fun x hx j hj => ?_, fun j hj i hi hij => ?_, fun j hj => ?_⟩
  · exact h.eqn (sw p c i) j (sw_lt hp hc hi) hj
  · refine h.ker x (fun i hi => ?_) j hj
    have := hx (sw p c i) (sw_lt hp hc hi)
    rw [← this]
    unfold mv
    exact S_congr fun k _ => by simp only [sw_sw]
  · refine h.done j hj _ (sw_lt hp hc hi) fun e => hij ?_
    rw [← sw_sw p c i, e, sw_low hj hcp]
  · show L (sw p c j) j ≠ 0
    rw [sw_low hj hcp]; exact h.piv j hj
theorem mm_scale (n : Nat) (R A : Mx) (x : UInt8) (i j : Nat) : S n (fun k => mu (mu x (R i k)) (A k j)) = mu x (mm n R A i j) := by
  unfold mm
  rw [mu_S]
  exact S_congr fun k _ => mu_assoc _ _ _
/-- a row times a number -/
theorem GJ.scale {n c r : Nat} {A L R : Mx} {x : UInt8} (h : GJ n A L R c) (hr : r < n) (hx : x ≠ 0) : GJ n A (fun i j => if i = r then mu x (L i j) else L i j) (fun i j => if i = r then mu x (R i j) else R i j) c := by
  refine ⟨fun i j hi hj => ?_, fun y hy j hj => ?_, fun j hj i hi hij => ?_, fun j hj => ?_⟩
  · by_cases e : i = r
    · subst e
      rw [if_pos rfl, ← h.eqn i j hi hj, ← mm_scale]
      exact S_congr fun k _ => by simp only [if_pos, ↓reduceIte]
    · rw [if_neg e, ← h.eqn i j hi hj]
      exact S_congr fun k _ => by simp only [if_neg e]
  · refine h.ker y (fun i hi => ?_) j hj
    have h1 := hy i hi
    by_cases e : i = r
    · subst e
      have e2 : mv n (fun i_1 j => if i_1 = i then mu x (R i_1 j) else R i_1 j) y i = mu x (mv n R y i) := by
        rw [show mu x (mv n R y i) = mu x (mm n R (fun k _ => y k) i 0) from rfl, ← mm_scale]
        exact S_congr fun k _ => by simp only [if_pos, ↓reduceIte]
      rw [e2] at h1
      rcases mu_eq_zero.1 h1 with h2 | h2
      · exact absurd h2 hx
      · exact h2
    · rw [← h1]
      exact S_congr fun k _ => by simp only [if_neg e]
  · show (if i = r then mu x (L i j) else L i j) = 0
    rw [h.done j hj i hi hij, mu_zero]; split <;> rfl
  · show (if j = r then mu x (L j j) else L j j) ≠ 0
    split
    · exact mu_ne hx (h.piv j hj)
    · exact h.piv j hj
/-- a row, from which a multiple of another one is taken -/
theorem GJ.clear {n c r : Nat} {A L R : Mx} {x : UInt8} (h : GJ n A L R c) (hr : r < n) (hc : c < n) (hrc : r ≠ c) : GJ n A (fun i j => if i = r then L i j ^^^ mu x (L c j) else L i j) (fun i j => if i = r then R i j ^^^ mu x (R c j) else R i j) c := by
  have key : ∀ B : Mx, ∀ j, S n (fun k => mu (R r k ^^^ mu x (R c k)) (B k j)) = mm n R B r j ^^^ mu x (mm n R B c j) := by
    intro B j
    rw [← mm_scale, mm, ← S_xor]
    exact S_congr fun k _ => xor_mu _ _ _
  refine ⟨fun i j hi hj => ?_, fun y hy => ?_, fun j hj i hi hij => ?_, fun j hj => ?_⟩
  · by_cases e : i = r
    · subst e
      rw [if_pos rfl, ← h.eqn i j hi hj, ← h.eqn c j hc hj, ← key A j]
      exact S_congr fun k _ => by simp only [if_pos, ↓reduceIte]
    · rw [if_neg e, ← h.eqn i j hi hj]
      exact S_congr fun k _ => by simp only [if_neg e]
  · have hn : ∀ i, i < n → i ≠ r → mv n R y i = 0 := fun i hi e => by
      rw [← hy i hi]
      exact S_congr fun k _ => by simp only [if_neg e]
    refine h.ker y (fun i hi => ?_)
    by_cases e : i = r
    · subst e
      have h1 := hy i hi
      have e2 : mv n (fun i_1 j => if i_1 = i then R i_1 j ^^^ mu x (R c j) else R i_1 j) y i = mv n R y i ^^^ mu x (mv n R y c) := by
        rw [show mv n R y i ^^^ mu x (mv n R y c) = mm n R (fun k _ => y k) i 0 ^^^ mu x (mm n R (fun k _ => y k) c 0) from rfl, ← key]
        exact S_congr fun k _ => by simp only [if_pos, ↓reduceIte]
      rw [e2, hn c hc (fun h => hrc h.symm), mu_zero, x_zero] at h1
      exact h1
    · exact hn i hi e
  · show (if i = r then L i j ^^^ mu x (L c j) else L i j) = 0
    rw [h.done j hj i hi hij, h.done j hj c hc (by omega), mu_zero, x_zero]; split <;> rfl
  · show (if j = r then L j j ^^^ mu x (L c j) else L j j) ≠ 0
    rw [h.done j hj c hc (by omega), mu_zero, x_zero]; split <;> exact h.piv j hj
theorem GJ.next {n c : Nat} {A L R : Mx} (h : GJ n A L R c) (hcol : ∀ i, i < n → i ≠ c → L i c = 0) (hp : L c c ≠ 0) : GJ n A L R (c + 1) :=
  ⟨h.eqn, h.ker, fun j hj i hi hij => by
    by_cases e : j = c
    · subst e; exact hcol i hi hij
    · exact h.done j (by omega) i hi hij,
   fun j hj => by
    by_cases e : j = c
    · subst e; exact hp
    · exact h.piv j (by omega)⟩
theorem GJ.sing {n c : Nat} {A L R : Mx} (h : GJ n A L R c) (hc : c < n) (hz : ∀ i, c ≤ i → i < n → L i c = 0) : IsSing n A := by
  refine ⟨fun j => if j < c then mu (L j c) (iv (L j j)) else one j c, ⟨c, hc, by show (if c < c then _ else one c c) ≠ 0; rw [if_neg (by omega), one_self]; decide⟩, ?_⟩
  refine h.ker _ fun i hi => ?_
  rw [← mv_assoc, mv_congr (A' := L) (fun k hk => h.eqn i k hi hk) (fun _ _ => rfl)]
  have hsplit : mv n L (fun j => if j < c then mu (L j c) (iv (L j j)) else one j c) i = S n (fun k => mu (L i k) (if k < c then mu (L k c) (iv (L k k)) else 0)) ^^^ S n (fun k => mu (L i k) (one k c)) := by
    unfold mv
    rw [← S_xor]
    refine S_congr fun k _ => ?_
    show mu (L i k) (if k < c then mu (L k c) (iv (L k k)) else one k c) = _
    by_cases hk : k < c
    · rw [if_pos hk, if_pos hk, one_ne (by omega), mu_zero, x_zero]
    · rw [if_neg hk, if_neg hk, mu_zero, zero_x]
  have e2 : S n (fun k => mu (L i k) (one k c)) = L i c := mm_one L i hc
  rw [hsplit, e2]
  by_cases hic : i < c
  · rw [S_one (k := i) hi (fun k hk hki => ?_)]
    · rw [if_pos hic, mu_left, mu_iv (h.piv i hic), mu_one, x_self]
    · by_cases hkc : k < c
      · rw [h.done k hkc i hi (fun e => hki e.symm), zero_mu]
      · rw [if_neg hkc, mu_zero]
  · rw [hz i (by omega) hi, x_zero]
    refine S_zero fun k hk => ?_
    by_cases hkc : k < c
    · rw [h.done k hkc i hi (by omega), zero_mu]
    · rw [if_neg hkc, mu_zero]
/-- An inverse on the left that takes nothing to nought is one on both sides. -/
theorem inv_of_left {n : Nat} {A V : Mx} (hl : ∀ i j, i < n → j < n → mm n V A i j = one i j) (hk : ∀ x : Nat → UInt8, (∀ i, i < n → mv n V x i = 0) → ∀ j, j < n → x j = 0) : IsInv n A V := by
  refine ⟨hl, fun i j hi hj => ?_⟩
  have h := hk (fun k => mm n A V k j ^^^ one k j) (fun r hr => ?_) i hi
  · exact x_eq_zero.1 h
  · rw [mv_add]
    have e1 : mv n V (fun k => mm n A V k j) r = mm n V (mm n A V) r j := rfl
    have e2 : mv n V (fun k => one k j) r = mm n V one r j := rfl
    rw [e1, e2, mm_one V r hj, ← mm_assoc, mm_congr (A' := one) (B' := V) (fun k hk2 => hl r k hr hk2) (fun _ _ => rfl), one_mm V j hr, x_self]
theorem GJ.finish {n : Nat} {A L R : Mx} (h : GJ n A L R n) : IsInv n A (fun i j => mu (iv (L i i)) (R i j)) := by
  refine inv_of_left (fun i j hi hj => ?_) (fun x hx => h.ker x fun i hi => ?_)
  · have e : mm n (fun i j => mu (iv (L i i)) (R i j)) A i j = mu (iv (L i i)) (mm n R A i j) := mm_scale n R A _ i j
    rw [e, h.eqn i j hi hj]
    by_cases hij : i = j
    · subst hij; rw [one_self, mu_comm, mu_iv (h.piv i hi)]
    · rw [one_ne hij, h.done j hj i hi hij, mu_zero]
  · have e : mv n (fun i j => mu (iv (L i i)) (R i j)) x i = mu (iv (L i i)) (mv n R x i) := mm_scale n R (fun k _ => x k) _ i 0
    have h1 := hx i hi
    rw [e] at h1
    rcases mu_eq_zero.1 h1 with h2 | h2
    · exfalso
      have h3 := mu_iv (h.piv i hi)
      rw [h2, mu_zero] at h3
      cases h3
    · exact h2
/-- .. where the pivots are 1 -/
theorem GJ.finish1 {n : Nat} {A L R : Mx} (h : GJ n A L R n) (h1 : ∀ i, i < n → L i i = 1) : IsInv n A R :=
  h.finish.congr (fun _ _ _ _ => rfl) fun i j hi _ => by
    rw [h1 i hi]
    have e : iv 1 = 1 := by rw [← one_mu (iv 1)]; exact mu_iv (by decide)
    rw [e, one_mu]
theorem IsInv.no_sing {n : Nat} {A V : Mx} (h : IsInv n A V) (hs : IsSing n A) : False := hs.no_left h.left

end Go.Proofs.Ytehphjapahdalaa.Gf
