/-
  PLAIN MATHEMATICS: what follows of polynomials, in the words of lists without noughts at their tops. No program is named here.
-/
import Derived.Test.YtjojcdikkgnfgaaPoDivMath
namespace Go.Proofs.Ytjojcdikkgnfgaa.Gf
set_option linter.unusedVariables false
set_option linter.unusedSimpArgs false

theorem norm_eq_nil {p : List UInt8} : norm p = [] ↔ ∀ i, co p i = 0 := by
  constructor
  · intro h i
    rw [← co_norm p, h]; exact co_nil i
  · intro h
    have e : norm p = mk (fun _ => 0) 0 := mk_same (co_fin p) (fun _ _ => rfl) h
    rw [e]; rfl
theorem norm_length (p : List UInt8) : (norm p).length = deg (co p) p.length := mk_length _ _
theorem norm_length_le (p : List UInt8) : (norm p).length ≤ p.length := by rw [norm_length]; exact deg_le _ _
theorem norm_addP (p q : List UInt8) : norm (addP p q) = addP p q := norm_mk (fin_add p q)
theorem norm_mulP (p q : List UInt8) : norm (mulP p q) = mulP p q := norm_mk (fin_conv p q)
theorem norm_derP (p : List UInt8) : norm (derP p) = derP p := norm_mk (fin_der p)
theorem norm_norm (p : List UInt8) : norm (norm p) = norm p := norm_mk (co_fin p)
theorem addP_length (p q : List UInt8) : (addP p q).length ≤ p.length + q.length := by rw [addP, mk_length]; exact deg_le _ _
theorem mulP_length_le (p q : List UInt8) : (mulP p q).length ≤ p.length + q.length := by rw [mulP, mk_length]; exact deg_le _ _
theorem derP_length (p : List UInt8) : (derP p).length ≤ p.length := by rw [derP, mk_length]; exact deg_le _ _
/-- two lists whose numbers are the same ones serve as one -/
theorem addP_congr {p p' q q' : List UInt8} (hp : co p = co p') (hq : co q = co q') : addP p q = addP p' q' := mk_ext (fin_add _ _) (fin_add _ _) (by rw [hp, hq])
theorem mulP_congr {p p' q q' : List UInt8} (hp : co p = co p') (hq : co q = co q') : mulP p q = mulP p' q' := mk_ext (fin_conv _ _) (fin_conv _ _) (by rw [hp, hq])
theorem derP_congr {p p' : List UInt8} (hp : co p = co p') : derP p = derP p' := mk_ext (fin_der _) (fin_der _) (by rw [hp])
theorem addP_comm (p q : List UInt8) : addP p q = addP q p := mk_ext (fin_add _ _) (fin_add _ _) (by funext i; exact x_comm _ _)
theorem mulP_comm (p q : List UInt8) : mulP p q = mulP q p := mk_ext (fin_conv _ _) (fin_conv _ _) (conv_comm _ _)
theorem mulP_assoc (p q r : List UInt8) : mulP (mulP p q) r = mulP p (mulP q r) := mk_ext (fin_conv _ _) (fin_conv _ _) (by rw [co_mulP, co_mulP, conv_assoc])
theorem addP_assoc (p q r : List UInt8) : addP (addP p q) r = addP p (addP q r) := mk_ext (fin_add _ _) (fin_add _ _) (by rw [co_addP, co_addP]; funext i; exact x_assoc _ _ _)
theorem mulP_addP (p q r : List UInt8) : mulP p (addP q r) = addP (mulP p q) (mulP p r) := mk_ext (fin_conv _ _) (fin_add _ _) (by rw [co_addP, co_mulP, co_mulP, conv_add])
theorem derP_mulP (p q : List UInt8) : derP (mulP p q) = addP (mulP (derP p) q) (mulP p (derP q)) := mk_ext (fin_der _) (fin_add _ _) (by rw [co_mulP, co_mulP, co_mulP, co_derP, co_derP, der_conv])
theorem derP_addP (p q : List UInt8) : derP (addP p q) = addP (derP p) (derP q) := mk_ext (fin_der _) (fin_add _ _) (by rw [co_addP, co_derP, co_derP, der_add])
theorem add_back {p q s r : List UInt8} (h : IsDiv p q s r) : addP (mulP s q) r = norm p := mk_ext (fin_add _ _) (co_fin p) (by rw [co_mulP]; funext i; exact (h.eqn i).symm)

/-! Values. -/
theorem evP_more (p : List UInt8) (x : UInt8) {n : Nat} (h : Fin0 (co p) n) : evP p x = ev n (co p) x := by
  unfold evP
  by_cases e : n ≤ p.length
  · exact ev_more x h e
  · exact (ev_more x (co_fin p) (by omega)).symm
theorem evP_mulP (p q : List UInt8) (x : UInt8) : evP (mulP p q) x = mu (evP p x) (evP q x) := by
  rw [evP_more (mulP p q) x (n := p.length + q.length) (by rw [co_mulP]; exact fin_conv p q), co_mulP]
  exact ev_conv x (co_fin p) (co_fin q)
theorem evP_addP (p q : List UInt8) (x : UInt8) : evP (addP p q) x = evP p x ^^^ evP q x := by
  rw [evP_more (addP p q) x (n := p.length + q.length) (by rw [co_addP]; exact fin_add p q), co_addP, ev_add]
  rw [evP_more p x ((co_fin p).mono (by omega : p.length ≤ p.length + q.length)), evP_more q x ((co_fin q).mono (by omega : q.length ≤ p.length + q.length))]
theorem evP_norm (p : List UInt8) (x : UInt8) : evP (norm p) x = evP p x := by
  rw [evP_more (norm p) x (n := p.length) (by rw [co_norm]; exact co_fin p), co_norm]; rfl
theorem evP_nil (x : UInt8) : evP [] x = 0 := rfl
theorem evP_one (c x : UInt8) : evP [c] x = c := by
  show S 1 (fun i => mu (co [c] i) (pwr x i)) = c
  rw [S, S, zero_x]
  show mu c 1 = c
  exact mu_one c
theorem evP_root (x : UInt8) : evP [x, 1] x = 0 := by
  show S 2 (fun i => mu (co [x, 1] i) (pwr x i)) = 0
  rw [S, S, S, zero_x]
  show mu x 1 ^^^ mu 1 (mu 1 x) = 0
  rw [mu_one, one_mu, one_mu, x_self]
theorem norm_root (x : UInt8) : norm [x, 1] = [x, 1] := by
  have e : (norm [x, 1]).length = 2 := by
    rw [norm_length]
    show deg (co [x, 1]) 2 = 2
    rw [deg, if_neg (by show ¬ (1 : UInt8) = 0; decide)]
  exact co_ext (by rw [e]; rfl) fun i _ => by rw [co_norm]
theorem rest_root {p s r : List UInt8} {x : UInt8} (h : IsDiv p [x, 1] s r) : (r = [] ∧ evP p x = 0) ∨ (∃ c, r = [c] ∧ c = evP p x ∧ c ≠ 0) := by
  have hv : evP p x = evP r x := by
    rw [← evP_norm p x, ← add_back h, evP_addP, evP_mulP, evP_root, mu_zero, zero_x]
  have hl := h.less
  rw [norm_root] at hl
  match r, h, hv, hl with
  | [], h, hv, _ => exact Or.inl ⟨rfl, by rw [hv]; rfl⟩
  | [c], h, hv, _ =>
    refine Or.inr ⟨c, rfl, by rw [hv, evP_one], fun hc => ?_⟩
    have := h.nr
    rw [hc] at this
    exact absurd this (by decide +kernel)
  | _ :: _ :: _, _, _, hl => exact absurd hl (by simp)

/-! Degrees; a product divided. -/
theorem mulP_length (p q : List UInt8) : (mulP p q).length = if (norm p).length = 0 ∨ (norm q).length = 0 then 0 else (norm p).length + (norm q).length - 1 := by
  rw [mulP, mk_length, norm_length, norm_length]
  exact deg_conv (co_fin p) (co_fin q) (fin_conv p q)
theorem div_undo {p q : List UInt8} (hq : norm q ≠ []) : IsDiv (mulP p q) q (norm p) [] := by
  have hpos : 0 < (norm q).length := List.length_pos_iff.2 hq
  refine ⟨norm_norm p, by decide +kernel, fun i => ?_, hpos, ?_, Nat.zero_le _⟩
  · rw [co_mulP, co_norm, co_nil, x_zero]
  · rw [mulP_length]
    by_cases h : (norm p).length = 0
    · rw [h]; exact Nat.zero_le _
    · rw [if_neg (by omega)]; omega

end Go.Proofs.Ytjojcdikkgnfgaa.Gf
