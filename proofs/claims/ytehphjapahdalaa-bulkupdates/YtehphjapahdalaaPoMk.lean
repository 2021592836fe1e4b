/-
  PLAIN MATHEMATICS: polynomials as lists of bytes: their numbers by place, their tops, the one list without noughts at its top. No program is named here.
-/
import Derived.Test.YtehphjapahdalaaPoConv
namespace Go.Proofs.Ytehphjapahdalaa.Gf
set_option linter.unusedVariables false
set_option linter.unusedSimpArgs false

def co (p : List UInt8) (i : Nat) : UInt8 := p[i]?.getD 0
theorem co_lt {p : List UInt8} {i : Nat} (h : i < p.length) : co p i = p[i] := by unfold co; rw [List.getElem?_eq_getElem h]; rfl
theorem co_ge {p : List UInt8} {i : Nat} (h : p.length ≤ i) : co p i = 0 := by unfold co; rw [List.getElem?_eq_none h]; rfl
theorem co_fin (p : List UInt8) : Fin0 (co p) p.length := fun i hi => co_ge hi
theorem co_nil (i : Nat) : co [] i = 0 := co_ge (by simp)
theorem co_ext {p q : List UInt8} (hl : p.length = q.length) (h : ∀ i, i < p.length → co p i = co q i) : p = q := by
  refine List.ext_getElem hl fun i h1 h2 => ?_
  have := h i h1
  rwa [co_lt h1, co_lt h2] at this
theorem co_append_lt {p q : List UInt8} {i : Nat} (h : i < p.length) : co (p ++ q) i = co p i := by
  unfold co; rw [List.getElem?_append_left h]
theorem co_append_ge {p q : List UInt8} {i : Nat} (h : p.length ≤ i) : co (p ++ q) i = co q (i - p.length) := by
  unfold co; rw [List.getElem?_append_right h]
theorem co_take {p : List UInt8} {n i : Nat} (h : i < n) : co (p.take n) i = co p i := by
  unfold co; rw [List.getElem?_take_of_lt h]
theorem co_replicate (n i : Nat) : co (List.replicate n 0) i = 0 := by
  by_cases h : i < n
  · rw [co_lt (by simpa using h)]; simp
  · exact co_ge (by simpa using h)
theorem co_set {p : List UInt8} {j : Nat} (x : UInt8) (hj : j < p.length) (i : Nat) : co (p.set j x) i = if i = j then x else co p i := by
  unfold co
  by_cases e : i = j
  · subst e; rw [if_pos rfl, List.getElem?_set_self hj]; rfl
  · rw [if_neg e, List.getElem?_set_ne (fun h => e h.symm)]
theorem co_map_range (f : Nat → UInt8) {n i : Nat} (h : i < n) : co ((List.range n).map f) i = f i := by
  rw [co_lt (by simpa using h)]; simp

def deg (f : Nat → UInt8) : Nat → Nat
  | 0 => 0
  | n + 1 => if f n = 0 then deg f n else n + 1
theorem deg_le (f : Nat → UInt8) (n : Nat) : deg f n ≤ n := by
  induction n with
  | zero => exact Nat.le_refl _
  | succ n ih => rw [deg]; split <;> omega
theorem deg_top (f : Nat → UInt8) (n : Nat) : deg f n ≠ 0 → f (deg f n - 1) ≠ 0 := by
  induction n with
  | zero => intro h; exact absurd rfl h
  | succ n ih =>
    rw [deg]; split
    · exact ih
    · intro _; rwa [Nat.add_sub_cancel]
theorem deg_over (f : Nat → UInt8) (n : Nat) : ∀ i, deg f n ≤ i → i < n → f i = 0 := by
  induction n with
  | zero => intro i _ h; omega
  | succ n ih =>
    rw [deg]; split
    · intro i h1 h2
      by_cases e : i = n
      · rw [e]; assumption
      · exact ih i h1 (by omega)
    · intro i h1 h2; omega
theorem deg_fin {f : Nat → UInt8} {n : Nat} (h : Fin0 f n) : Fin0 f (deg f n) := fun i hi => by
  by_cases e : i < n
  · exact deg_over f n i hi e
  · exact h i (by omega)
theorem deg_unique {f : Nat → UInt8} {n d : Nat} (hn : Fin0 f n) (h : Fin0 f d) (ht : d ≠ 0 → f (d - 1) ≠ 0) : deg f n = d := by
  have hf := deg_fin hn
  by_cases e : deg f n < d
  · exact absurd (hf (d - 1) (by omega)) (ht (by omega))
  · by_cases e2 : d < deg f n
    · exact absurd (h (deg f n - 1) (by omega)) (deg_top f n (by omega))
    · omega
theorem deg_same {f g : Nat → UInt8} {n m : Nat} (hf : Fin0 f n) (hg : Fin0 g m) (h : ∀ i, f i = g i) : deg f n = deg g m := by
  have e : f = g := funext h
  subst e
  exact deg_unique hf (deg_fin hg) (deg_top f m)
/-- The list of f's numbers up to its top (f is 0 from n on). -/
def mk (f : Nat → UInt8) (n : Nat) : List UInt8 := (List.range (deg f n)).map f
theorem mk_length (f : Nat → UInt8) (n : Nat) : (mk f n).length = deg f n := by simp [mk]
theorem co_mk {f : Nat → UInt8} {n : Nat} (h : Fin0 f n) : co (mk f n) = f := by
  funext i
  by_cases e : i < deg f n
  · exact co_map_range f e
  · rw [co_ge (by rw [mk_length]; omega), deg_fin h i (by omega)]
theorem mk_same {f g : Nat → UInt8} {n m : Nat} (hf : Fin0 f n) (hg : Fin0 g m) (h : ∀ i, f i = g i) : mk f n = mk g m := by
  have e : f = g := funext h
  subst e
  unfold mk
  rw [deg_same hf hg (fun _ => rfl)]
def norm (p : List UInt8) : List UInt8 := mk (co p) p.length
theorem norm_take (p : List UInt8) : norm p = p.take (deg (co p) p.length) := by
  have hd := deg_le (co p) p.length
  refine co_ext (by rw [norm, mk_length, List.length_take]; omega) fun i hi => ?_
  rw [norm, mk_length] at hi
  rw [norm, mk, co_map_range _ hi, co_take hi]
theorem co_norm (p : List UInt8) : co (norm p) = co p := co_mk (co_fin p)
theorem norm_mk {f : Nat → UInt8} {n : Nat} (h : Fin0 f n) : norm (mk f n) = mk f n :=
  mk_same (co_fin _) h fun i => by rw [co_mk h]
theorem norm_of {p : List UInt8} {f : Nat → UInt8} {n : Nat} (hf : Fin0 f n) (h : ∀ i, co p i = f i) : norm p = mk f n := mk_same (co_fin p) hf h

def addP (p q : List UInt8) : List UInt8 := mk (addF (co p) (co q)) (p.length + q.length)
def mulP (p q : List UInt8) : List UInt8 := mk (conv (co p) (co q)) (p.length + q.length)
def derP (p : List UInt8) : List UInt8 := mk (der (co p)) p.length
def evP (p : List UInt8) (x : UInt8) : UInt8 := ev p.length (co p) x
theorem fin_add (p q : List UInt8) : Fin0 (addF (co p) (co q)) (p.length + q.length) := ((co_fin p).mono (by omega)).add ((co_fin q).mono (by omega))
theorem fin_conv (p q : List UInt8) : Fin0 (conv (co p) (co q)) (p.length + q.length) := ((co_fin p).conv (co_fin q)).mono (by omega)
theorem fin_der (p : List UInt8) : Fin0 (der (co p)) p.length := (co_fin p).der.mono (by omega)
theorem co_addP (p q : List UInt8) : co (addP p q) = addF (co p) (co q) := co_mk (fin_add p q)
theorem co_mulP (p q : List UInt8) : co (mulP p q) = conv (co p) (co q) := co_mk (fin_conv p q)
theorem co_derP (p : List UInt8) : co (derP p) = der (co p) := co_mk (fin_der p)
/-- Two that are answered are one, if their numbers are. -/
theorem mk_ext {f g : Nat → UInt8} {n m : Nat} (hf : Fin0 f n) (hg : Fin0 g m) (h : f = g) : mk f n = mk g m := mk_same hf hg fun i => by rw [h]
theorem deg_conv {f g : Nat → UInt8} {n m k : Nat} (hf : Fin0 f n) (hg : Fin0 g m) (hk : Fin0 (conv f g) k) :
    deg (conv f g) k = if deg f n = 0 ∨ deg g m = 0 then 0 else deg f n + deg g m - 1 := by
  have h1 := deg_fin hf
  have h2 := deg_fin hg
  by_cases e1 : deg f n = 0
  · rw [if_pos (Or.inl e1)]
    refine deg_unique hk (fun i _ => ?_) (fun h => absurd rfl h)
    rw [conv_comm]; exact conv_zero (fun j => h1 j (by omega)) i
  · by_cases e2 : deg g m = 0
    · rw [if_pos (Or.inr e2)]
      refine deg_unique hk (fun i _ => ?_) (fun h => absurd rfl h)
      exact conv_zero (fun j => h2 j (by omega)) i
    · rw [if_neg (by omega)]
      refine deg_unique hk (h1.conv h2) (fun _ => ?_)
      have ht := conv_top (f := f) (g := g) (n := deg f n - 1) (m := deg g m - 1) (h1.mono (by omega)) (h2.mono (by omega))
      rw [show deg f n + deg g m - 1 - 1 = deg f n - 1 + (deg g m - 1) by omega, ht]
      exact mu_ne (deg_top f n e1) (deg_top g m e2)

end Go.Proofs.Ytehphjapahdalaa.Gf
