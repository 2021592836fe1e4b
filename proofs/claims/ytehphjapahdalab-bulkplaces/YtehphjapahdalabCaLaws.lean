/-
  SMALL FACTS OF LAYER 5's STATEMENTS.
-/
import Derived.Test.YtehphjapahdalabCaOk
import Derived.Test.YtehphjapahdalabMxOwn
namespace Go.Proofs.Ytehphjapahdalab.Gf
set_option linter.unusedVariables false
set_option linter.unusedSimpArgs false
open Go.RowKit

theorem co_flat {r c : Nat} {F : Mx} {i j : Nat} (hi : i < r) (hj : j < c) : co (flat r c F) (i * c + j) = F i j := en_flat F hi hj
/-- the checks' product with the generator, as it lies -/
theorem nought_zero (k m i : Nat) : co (flat m k (mm (k + m) (en (k + m) (flat m (k + m) (chkF k))) (en k (flat (k + m) k (genF k))))) i = 0 := by
  by_cases hi : i < m * k
  · have hk : 0 < k := by
      rcases Nat.eq_zero_or_pos k with e | e
      · rw [e, Nat.mul_zero] at hi; omega
      · exact e
    have h1 : i / k < m := (Nat.div_lt_iff_lt_mul hk).2 hi
    have h2 : i % k < k := Nat.mod_lt _ hk
    have e1 : co (flat m k (mm (k + m) (en (k + m) (flat m (k + m) (chkF k))) (en k (flat (k + m) k (genF k))))) i = mm (k + m) (en (k + m) (flat m (k + m) (chkF k))) (en k (flat (k + m) k (genF k))) (i / k) (i % k) := co_map_range _ hi
    rw [e1, mm_congr (A' := chkF k) (B' := genF k) (fun x hx => en_flat _ h1 hx) (fun x hx => en_flat _ hx h2)]
    exact chk_gen k m h1 h2
  · exact co_ge (by rw [flat_length]; omega)

theorem iv_inj {a b : UInt8} (ha : a ≠ 0) (hb : b ≠ 0) (h : iv a = iv b) : a = b := by
  have h1 := mu_iv ha
  have h2 := mu_iv hb
  rw [← h] at h2
  have e : mu (mu a (iv a)) b = mu a (mu (iv a) b) := mu_assoc _ _ _
  rw [h1, one_mu, mu_comm (iv a) b, h2, mu_one] at e
  exact e.symm
theorem par_row {k i j n : Nat} (h : k + i < 256) (hj : j < k) (hn : n < k) (hne : n ≠ j) : parF k i n ≠ parF k i j := by
  intro e
  have := iv_inj (pt_ne h (by omega) (by omega)) (pt_ne h (by omega) (by omega)) e
  have e2 : pt n = pt j := by
    have h3 := congrArg (pt (k + i) ^^^ ·) this
    simp only [x_cancel] at h3
    exact h3
  exact hne (pt_inj (by omega) (by omega) e2)
theorem par_col {k i j n : Nat} (h : k + i < 256) (h' : k + n < 256) (hj : j < k) (hne : n ≠ i) : parF k n j ≠ parF k i j := by
  intro e
  have := iv_inj (pt_ne h' (by omega) (by omega)) (pt_ne h (by omega) (by omega)) e
  have e2 : pt (k + n) = pt (k + i) := by
    have h3 := congrArg (· ^^^ pt j) this
    simp only [x_assoc, x_self, x_zero] at h3
    exact h3
  exact hne (by have := pt_inj h' h e2; omega)
theorem par_one {k i j : Nat} (h : k + i < 256) (hj : j < k) : mu (parF k i j) (pt (k + i) ^^^ pt j) = 1 := by
  rw [mu_comm]; exact mu_iv (pt_ne h (by omega) (by omega))
theorem par_ne {k i j : Nat} (h : k + i < 256) (hj : j < k) : parF k i j ≠ 0 := by
  intro e
  have := par_one h hj
  rw [e, zero_mu] at this
  cases this

theorem flat_at {r c i : Nat} (F : Mx) (hi : i < r * c) : co (flat r c F) i = F (i / c) (i % c) := co_map_range _ hi
theorem gen_more {k N N1 i : Nat} (h : N1 ≤ N) (hi : i < N1 * k) : co (flat N k (genF k)) i = co (flat N1 k (genF k)) i := by
  rw [flat_at _ hi, flat_at _ (Nat.lt_of_lt_of_le hi (Nat.mul_le_mul_right k h))]
theorem gen_par {k m i : Nat} (hi : i < m * k) : co (flat (k + m) k (genF k)) (k * k + i) = co (flat m k (parF k)) i := by
  have hk : 0 < k := by
    rcases Nat.eq_zero_or_pos k with e | e
    · rw [e, Nat.mul_zero] at hi; omega
    · exact e
  have h1 : k * k + i < (k + m) * k := by rw [Nat.add_mul]; omega
  rw [flat_at _ hi, flat_at _ h1]
  have e1 : (k * k + i) / k = k + i / k := by rw [Nat.mul_comm, Nat.mul_add_div hk]
  have e2 : (k * k + i) % k = i % k := by rw [Nat.mul_add_mod]
  rw [e1, e2]
  unfold genF
  rw [if_neg (Nat.not_lt.2 (Nat.le_add_right _ _)), Nat.add_sub_cancel_left]
theorem par_some {k m i : Nat} (h : k + m ≤ 256) (hi : i < m * k) : co (flat m k (parF k)) i ≠ 0 := by
  have hk : 0 < k := by
    rcases Nat.eq_zero_or_pos k with e | e
    · rw [e, Nat.mul_zero] at hi; omega
    · exact e
  rw [flat_at _ hi]
  have h1 : i / k < m := (Nat.div_lt_iff_lt_mul hk).2 hi
  exact par_ne (by omega) (Nat.mod_lt _ hk)

end Go.Proofs.Ytehphjapahdalab.Gf
