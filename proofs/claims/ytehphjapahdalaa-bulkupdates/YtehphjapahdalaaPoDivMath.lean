/-
  PLAIN MATHEMATICS: a division as a loop does it, number by number, highest first; what is answered is one. No program is named here.
-/
import Derived.Test.YtehphjapahdalaaPoMk
namespace Go.Proofs.Ytehphjapahdalaa.Gf
set_option linter.unusedVariables false
set_option linter.unusedSimpArgs false

/-- s and r are the quotient and the rest of p and q, without noughts at their tops. -/
structure IsDiv (p q s r : List UInt8) : Prop where
  ns : norm s = s
  nr : norm r = r
  eqn : ∀ i, co p i = conv (co s) (co q) i ^^^ co r i
  less : r.length < (norm q).length
  ls : s.length ≤ p.length
  lr : r.length ≤ p.length
theorem norm_co {p q : List UInt8} (hp : norm p = p) (hq : norm q = q) (h : ∀ i, co p i = co q i) : p = q := by
  rw [← hp, ← hq]; exact mk_same (co_fin p) (co_fin q) h
theorem IsDiv.unique {p q s r s' r' : List UInt8} (h : IsDiv p q s r) (h' : IsDiv p q s' r') : s = s' ∧ r = r' := by
  have hq := h.less
  have hd : (norm q).length = deg (co q) q.length := mk_length _ _
  have hq1 : Fin0 (co q) ((norm q).length - 1 + 1) := by
    rw [show (norm q).length - 1 + 1 = (norm q).length by omega, hd]; exact deg_fin (co_fin q)
  have ht : co q ((norm q).length - 1) ≠ 0 := by rw [hd]; exact deg_top _ _ (by omega)
  obtain ⟨e1, e2⟩ := div_one (q := co q) (s := co s) (r := co r) (s' := co s') (r' := co r') (m := (norm q).length - 1) (n := p.length) hq1 ht
    ((co_fin s).mono h.ls) ((co_fin s').mono h'.ls) ((co_fin r).mono (by omega)) ((co_fin r').mono (by have := h'.less; omega))
    (fun i => by rw [← h.eqn i, ← h'.eqn i])
  exact ⟨norm_co h.ns h'.ns e1, norm_co h.nr h'.nr e2⟩

/-- Some steps are done: j are left. -/
structure DivInv (p q fs fr : Nat → UInt8) (n m j : Nat) : Prop where
  eqn : ∀ t, p t = conv fs q t ^^^ fr t
  top : Fin0 fr (j + (m - 1))
  low : ∀ t, t < j → fs t = 0
  fin : Fin0 fs n
theorem conv_set {fs fs' q : Nat → UInt8} {i : Nat} {c : UInt8} (h0 : fs i = 0) (h : ∀ t, fs' t = if t = i then c else fs t) (t : Nat) :
    conv fs' q t = conv fs q t ^^^ (if i ≤ t then mu c (q (t - i)) else 0) := by
  have e : ∀ j, fs' j = fs j ^^^ (if j = i then c else 0) := by
    intro j; rw [h]
    by_cases ej : j = i
    · subst ej; rw [if_pos rfl, if_pos rfl, h0, zero_x]
    · rw [if_neg ej, if_neg ej, x_zero]
  have e1 : conv fs' q t = conv fs q t ^^^ S (t + 1) (fun j => mu (if j = i then c else 0) (q (t - j))) := by
    unfold conv
    rw [← S_xor]
    exact S_congr fun j _ => by rw [e, xor_mu]
  rw [e1]
  congr 1
  by_cases hit : i ≤ t
  · rw [if_pos hit, S_one (k := i) (by omega) (fun j _ hj => by rw [if_neg hj, zero_mu])]
    rw [if_pos rfl]
  · rw [if_neg hit]
    exact S_zero fun j hj => by rw [if_neg (by omega), zero_mu]
/-- the rest, less the first k numbers of c times q, i places higher -/
def rk (fr q : Nat → UInt8) (c : UInt8) (i k t : Nat) : UInt8 := fr t ^^^ (if i ≤ t ∧ t < i + k then mu c (q (t - i)) else 0)
theorem rk_zero (fr q : Nat → UInt8) (c : UInt8) (i : Nat) : rk fr q c i 0 = fr := by
  funext t; unfold rk; rw [if_neg (by omega), x_zero]
theorem rk_step (fr q : Nat → UInt8) (c : UInt8) (i k t : Nat) : rk fr q c i (k + 1) t = if t = i + k then rk fr q c i k (i + k) ^^^ mu c (q k) else rk fr q c i k t := by
  by_cases e : t = i + k
  · subst e
    rw [if_pos rfl]
    unfold rk
    rw [if_pos (by omega), if_neg (by omega), x_zero, show i + k - i = k by omega]
  · rw [if_neg e]
    unfold rk
    by_cases h : i ≤ t ∧ t < i + k
    · rw [if_pos h, if_pos (by omega)]
    · rw [if_neg h, if_neg (by omega)]
theorem DivInv.step {p q fs fs' fr : Nat → UInt8} {n m i : Nat} (h : DivInv p q fs fr n m (i + 1)) (hm : 0 < m) (hq : Fin0 q m) (ht : q (m - 1) ≠ 0) (hin : i < n)
    (hs : ∀ t, fs' t = if t = i then mu (fr (i + m - 1)) (iv (q (m - 1))) else fs t) : DivInv p q fs' (rk fr q (mu (fr (i + m - 1)) (iv (q (m - 1)))) i m) n m i := by
  have c0 := h.low i (by omega)
  refine ⟨fun t => ?_, fun t htt => ?_, fun t htt => ?_, fun t htt => ?_⟩
  · rw [h.eqn t, conv_set c0 hs t]
    unfold rk
    rw [x_assoc]
    congr 1
    by_cases hit : i ≤ t
    · rw [if_pos hit]
      by_cases h2 : t < i + m
      · rw [if_pos ⟨hit, h2⟩, x_left, x_self, x_zero]
      · rw [if_neg (by omega), hq (t - i) (by omega), mu_zero, zero_x, x_zero]
    · rw [if_neg hit, if_neg (by omega), zero_x, x_zero]
  · unfold rk
    by_cases e : t = i + (m - 1)
    · subst e
      rw [if_pos (by omega), show i + (m - 1) - i = m - 1 by omega, show i + m - 1 = i + (m - 1) by omega, mu_assoc, mu_comm (iv (q (m - 1))), mu_iv ht, mu_one, x_self]
    · rw [if_neg (by omega), x_zero]
      exact h.top t (by omega)
  · rw [hs, if_neg (by omega)]; exact h.low t (by omega)
  · rw [hs, if_neg (by omega)]; exact h.fin t htt
theorem DivInv.start {p q : Nat → UInt8} {n m : Nat} (hp : Fin0 p n) (j : Nat) (hj : n ≤ j + (m - 1)) : DivInv p q (fun _ => 0) p n m j :=
  ⟨fun t => by rw [conv_comm, conv_zero (fun _ => rfl), zero_x], hp.mono hj, fun _ _ => rfl, fun _ _ => rfl⟩
theorem div_done {p q : List UInt8} {fs fr : Nat → UInt8} {n m : Nat} (h : DivInv (co p) (co q) fs fr n m 0) (hm : (norm q).length = m) (hm0 : 0 < m) (hn : n ≤ p.length) (hfr : Fin0 fr n) : IsDiv p q (mk fs n) (mk fr n) := by
  refine ⟨norm_mk h.fin, norm_mk hfr, fun i => ?_, ?_, ?_, ?_⟩
  · rw [co_mk h.fin, co_mk hfr]; exact h.eqn i
  · rw [mk_length, hm]
    have : deg fr n ≤ m - 1 := by
      have ht := h.top
      rw [Nat.zero_add] at ht
      by_cases e : deg fr n ≤ m - 1
      · exact e
      · exact absurd (ht (deg fr n - 1) (by omega)) (deg_top fr n (by omega))
    omega
  · rw [mk_length]; have := deg_le fs n; omega
  · rw [mk_length]; have := deg_le fr n; omega

end Go.Proofs.Ytehphjapahdalaa.Gf
