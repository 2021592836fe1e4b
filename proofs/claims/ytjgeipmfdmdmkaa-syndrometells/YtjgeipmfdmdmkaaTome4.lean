/- TEXTS JOINED: BkPut, BkUy, CaLaws, BkLin, SyMath, GfMul, GfQuiet, GfPowMath, GfPow, SyCA. -/
import Derived.Test.YtjgeipmfdmdmkaaTome3
import Derived.Test.YtjgeipmfdmdmkaaTome2
import Derived.Test.YtjgeipmfdmdmkaaTome1
/-
  SHARDS OF THE CALL'S OWN INTO WHOSE PLACES OTHERS ARE STORED; literals of shards. No program's function is named here.
-/

namespace Go.Proofs.Ytjgeipmfdmdmkaa.Gf
set_option linter.unusedVariables false
set_option linter.unusedSimpArgs false
open Go.RowKit

/-- a literal of shards -/
theorem rs_lit {w : World} {cs : Array Value} {e n b : Nat} {L : List (List UInt8)} (hb : b = w.heap.size) (hn : n = L.length) (hl : n ≤ 1000000) (h : ∀ i, i < L.length → ∃ x, cs[i]? = some x ∧ Rd w x (ro L i)) : Rs (w.alloc (.cells cs e)) (.slice (some ⟨b, 0, none⟩) n n) L := by
  subst hb hn
  refine ⟨some ⟨w.heap.size, 0, none⟩, L.length, rfl, Nat.le_refl _, by unfold maxLen; omega, nofun, fun i hi => ?_⟩
  obtain ⟨x, h1, h2⟩ := h i hi
  exact ⟨w.heap.size, 0, x, rfl, by simp, by rw [Nat.zero_add, World.cell?_alloc_new]; exact h1, h2.below ((Below.refl _ _).alloc (Nat.le_refl _) _)⟩
theorem rs_lit1 {w : World} {x : Value} {e b : Nat} {p : List UInt8} (hb : b = w.heap.size) (h : Rd w x p) : Rs (w.alloc (.cells #[x] e)) (.slice (some ⟨b, 0, none⟩) 1 1) [p] :=
  rs_lit hb rfl (by decide) fun i hi => by
    rcases i with _ | i
    · exact ⟨x, rfl, h⟩
    · simp at hi
theorem rs_lit2 {w : World} {x y : Value} {e b : Nat} {p q : List UInt8} (hb : b = w.heap.size) (h : Rd w x p) (h2 : Rd w y q) : Rs (w.alloc (.cells #[x, y] e)) (.slice (some ⟨b, 0, none⟩) 2 2) [p, q] :=
  rs_lit hb rfl (by decide) fun i hi => by
    rcases i with _ | _ | i
    · exact ⟨x, rfl, h⟩
    · exact ⟨y, rfl, h2⟩
    · simp at hi; omega
/-- what a store of a slice to its place leaves -/
theorem Os.spot {wr w1 : World} {base T u G n C : Nat} {L : List (List UInt8)} (h : Os wr base T u (.slice (some ⟨G, 0, none⟩) n C) L) (b1 : Below wr.heap.size wr w1) {i : Nat} (hi : i < L.length) :
    ∃ y, w1.cell? ⟨G, i, none⟩ = some y ∧ w1.frozen? ⟨G, i, none⟩ = false ∧ G < w1.heap.size ∧ base ≤ G ∧ G < wr.heap.size := by
  obtain ⟨vals, hv, hr⟩ := h
  have hl : vals.length = L.length := by have := hv.1; omega
  have hG := World.ownsRow.lt hv G rfl
  have hv1 := owns_later hv b1
  have hn : n = L.length := by
    obtain ⟨_, ⟨e, _⟩ | ⟨g, cap, cur, e, _⟩⟩ := hv <;> simp at e
    exact e.2.1
  subst hn
  exact ⟨vals[i], by rw [World.ownsRow.cellAt hv1 i (by omega)]; exact List.getElem?_eq_getElem (by omega), World.ownsRow.frozenAt hv1 i, Nat.lt_of_lt_of_le hG.2 b1.size, hG.1, hG.2⟩
theorem grown_set (w : World) (g n : Nat) (x : Value) : w.grownBy (w.setCell ⟨g, n, none⟩ x) (some g) := by
  have O := (Only.refl g w).setCell n x
  exact ⟨O.os, O.tape, O.output, by rw [O.size]; exact Nat.le_refl _, fun q _ hq => O.block q (fun e => hq (by rw [e]))⟩
theorem Only.grown {g : Nat} {w w' : World} (O : Only g w w') : w.grownBy w' (some g) :=
  ⟨O.os, O.tape, O.output, by rw [O.size]; exact Nat.le_refl _, fun q _ hq => O.block q (fun e => hq (by rw [e]))⟩
/-- a shard of the call's own, stored to its place, and then told anew in its block g -/
theorem Os.put {wr w1 w3 : World} {base T u G n C g : Nat} {x : Value} {L : List (List UInt8)} {p : List UInt8} (h : Os wr base T u (.slice (some ⟨G, 0, none⟩) n C) L) (b1 : Below wr.heap.size wr w1) {i : Nat} (hi : i < L.length) (hx : x.ownBlock = some g) (hg : wr.heap.size ≤ g)
    (O : Only g (w1.setCell ⟨G, i, none⟩ x) w3) (hp : OwnP w3 base u x p) : Os w3 base T u (.slice (some ⟨G, 0, none⟩) n C) (L.set i p) := by
  obtain ⟨vals, hv, hr⟩ := h
  have hl : vals.length = L.length := by have := hv.1; omega
  have hG := World.ownsRow.lt hv G rfl
  have hv1 := owns_later hv b1
  have hn : n = L.length := by
    obtain ⟨_, ⟨e, _⟩ | ⟨g, cap, cur, e, _⟩⟩ := hv <;> simp at e
    exact e.2.1
  subst hn
  obtain ⟨v8, g8⟩ := World.ownsRow.stored hv1 i x
  have old : ∀ (j : Nat) (y : Value), vals[j]? = some y → ∀ k, y.ownBlock = some k → k < wr.heap.size := fun j y hy k hk => ((hr.own j y hy).lt hk).2
  have sets : ∀ (j : Nat) (y : Value), (vals.set i x)[j]? = some y → (j = i ∧ y = x) ∨ (j ≠ i ∧ vals[j]? = some y) := fun j y hy => by
    by_cases e : j = i
    · subst e
      rw [List.getElem?_set_self (by omega)] at hy
      exact Or.inl ⟨rfl, by cases hy; rfl⟩
    · rw [List.getElem?_set_ne (fun h => e h.symm)] at hy
      exact Or.inr ⟨e, hy⟩
  refine ⟨vals.set i x, by rw [List.length_set]; exact World.ownsRow.kept v8 O.grown (Or.inr (by simp [Value.ownBlock]; omega)), ⟨fun j y hy => ?_, fun j l y z hy hz hjl => ?_, fun j y hy => ?_⟩⟩
  · rw [ro_set hi]
    rcases sets j y hy with ⟨rfl, rfl⟩ | ⟨e, hy⟩
    · rw [if_pos rfl]; exact hp
    · rw [if_neg e]
      exact OwnP.kept (OwnP.kept (owns_later (hr.own j y hy) b1) g8 (hr.out j y hy)) O.grown (block_apart (old j y hy) (fun k e => by cases e; exact hg))
  · rcases sets j y hy with ⟨ej, ey⟩ | ⟨ej, hy'⟩
    · rcases sets l z hz with ⟨el, ez⟩ | ⟨el, hz'⟩
      · exact absurd (ej.trans el.symm) hjl
      · rw [ey]; exact block_apart' (s := wr.heap.size) (fun k hk => by rw [hx] at hk; cases hk; exact hg) (old l z hz')
    · rcases sets l z hz with ⟨el, ez⟩ | ⟨el, hz'⟩
      · rw [ez]; exact block_apart (old j y hy') (fun k hk => by rw [hx] at hk; cases hk; exact hg)
      · exact hr.diff j l y z hy' hz' hjl
  · rcases sets j y hy with ⟨rfl, rfl⟩ | ⟨e, hy⟩
    · right; rw [hx]; simp [Value.ownBlock]; omega
    · exact hr.out j y hy
/-- any slice stored to a place: what is read then -/
theorem Os.setRd {w : World} {base T u G n C : Nat} {x : Value} {L : List (List UInt8)} {p : List UInt8} (h : Os w base T u (.slice (some ⟨G, 0, none⟩) n C) L) {i : Nat} (hi : i < L.length) (hx : Rd w x p) (ha : Apart G x) : Rs (w.setCell ⟨G, i, none⟩ x) (.slice (some ⟨G, 0, none⟩) n C) (L.set i p) := by
  have hrs := h.rs
  obtain ⟨vals, hv, hr⟩ := h
  have hl : vals.length = L.length := by have := hv.1; omega
  have hG := World.ownsRow.lt hv G rfl
  obtain ⟨a, c, e, h1, h2, h3, h4⟩ := hrs
  simp at e
  obtain ⟨e1, e2, e3⟩ := e
  subst e1 e2 e3
  have g8 := grown_set w G i x
  refine ⟨some ⟨G, 0, none⟩, C, by rw [List.length_set], by rw [List.length_set]; exact h1, h2, nofun, fun j hj => ?_⟩
  rw [List.length_set] at hj
  rw [ro_set hi]
  by_cases ej : j = i
  · subst ej
    rw [if_pos rfl]
    obtain ⟨b, off, y, k1, k2, k3, k4⟩ := h4 j hj
    simp at k1
    obtain ⟨rfl, rfl⟩ := k1
    refine ⟨G, 0, x, rfl, by simpa using k2, ?_, hx.grown g8 ha⟩
    rw [Nat.zero_add] at k3 ⊢
    exact World.cell?_setCell_same w ⟨G, j, none⟩ x k3
  · rw [if_neg ej]
    have hy : vals[j]? = some vals[j] := List.getElem?_eq_getElem (by omega)
    refine ⟨G, 0, vals[j], rfl, by simpa using hG.2, ?_, Rd.owned (OwnP.kept (hr.own j _ hy) g8 (hr.out j _ hy))⟩
    rw [Nat.zero_add, World.cell?_setCell_other w ⟨G, i, none⟩ ⟨G, j, none⟩ x (by simp <;> omega), World.ownsRow.cellAt hv j (by omega), hy]
/-- 'make' of shards: none of them -/
theorem Os.blank {w : World} {base T u G n : Nat} {cs : List Value} (hv : w.ownsRow base T 1 (.slice (some ⟨G, 0, none⟩) n n) n cs) (hc : ∀ y ∈ cs, y = .slice none 0 0) : Os w base T u (.slice (some ⟨G, 0, none⟩) n n) (mkL n (fun _ => [])) := by
  have hl : cs.length = n := by have := hv.1; omega
  refine ⟨cs, by rw [mkL_length]; exact hv, ⟨fun i x hx => ?_, fun i j x y hx _ _ => ?_, fun i x hx => ?_⟩⟩
  · have hi : i < n := by
      rcases Nat.lt_or_ge i cs.length with h | h
      · omega
      · rw [List.getElem?_eq_none h] at hx; cases hx
    rw [ro_mkL hi, hc x (List.mem_of_getElem? hx)]
    exact World.ownsRow_nil _ _ _ _
  · left; rw [hc x (List.mem_of_getElem? hx)]; rfl
  · left; rw [hc x (List.mem_of_getElem? hx)]; rfl
/-- the parity shard i, where the data shard j is another one -/
def updR (F : Mx) (j : Nat) (p q : List UInt8) (A : List (List UInt8)) (i : Nat) : List UInt8 := upto (fun t => co (ro A i) t ^^^ mu (F i j) (co p t ^^^ co q t)) (ro A i).length
def updL (m : Nat) (F : Mx) (j : Nat) (p q : List UInt8) (A : List (List UInt8)) : List (List UInt8) := mkL m (updR F j p q A)
/-- the first r of them -/
def updP (m : Nat) (F : Mx) (j : Nat) (p q : List UInt8) (A : List (List UInt8)) (r : Nat) : List (List UInt8) := mkL m (fun i => if i < r then updR F j p q A i else [])
theorem updP_zero (m : Nat) (F : Mx) (j : Nat) (p q : List UInt8) (A : List (List UInt8)) : updP m F j p q A 0 = mkL m (fun _ => []) := mkL_congr fun i hi => if_neg (by omega)
theorem updP_all (m : Nat) (F : Mx) (j : Nat) (p q : List UInt8) (A : List (List UInt8)) : updP m F j p q A m = updL m F j p q A := mkL_congr fun i hi => if_pos hi
theorem updP_step {m : Nat} {F : Mx} {j : Nat} {p q : List UInt8} {A : List (List UInt8)} {r : Nat} (h : r < m) : (updP m F j p q A r).set r (updR F j p q A r) = updP m F j p q A (r + 1) := by
  refine ro_ext (by rw [List.length_set]; unfold updP; rw [mkL_length, mkL_length]) fun i hi => ?_
  rw [List.length_set] at hi
  unfold updP at hi ⊢
  rw [mkL_length] at hi
  rw [ro_set (by rw [mkL_length]; exact h), ro_mkL hi, ro_mkL hi]
  by_cases e : i = r
  · subst e; rw [if_pos rfl, if_pos (by omega)]
  · rw [if_neg e]
    by_cases h2 : i < r
    · rw [if_pos h2, if_pos (by omega)]
    · rw [if_neg h2, if_neg (by omega)]

end Go.Proofs.Ytjgeipmfdmdmkaa.Gf

/-
  WHAT UPDATING ANSWERS, by its arguments. No program's function is named here.
-/

namespace Go.Proofs.Ytjgeipmfdmdmkaa.Gf
set_option linter.unusedVariables false
set_option linter.unusedSimpArgs false
open Go.RowKit

def OkU (k m j : Int) (p q : List UInt8) (A : List (List UInt8)) : Prop := (A.length : Int) = m ∧ Even (A ++ [p, q]) ∧ 0 ≤ j ∧ j < k
instance (k m j : Int) (p q : List UInt8) (A : List (List UInt8)) : Decidable (OkU k m j p q A) := inferInstanceAs (Decidable ((A.length : Int) = m ∧ Even (A ++ [p, q]) ∧ 0 ≤ j ∧ j < k))
def updX (k m j : Int) (p q : List UInt8) (A : List (List UInt8)) : Int := if OkC k m then (if OkU k m j p q A then 0 else 60) else 50
def updY (k m j : Int) (p q : List UInt8) (A : List (List UInt8)) : List (List UInt8) := if OkC k m ∧ OkU k m j p q A then updL m.toNat (parF k.toNat) j.toNat p q A else []
theorem updX_bad {k m j : Int} {p q : List UInt8} {A : List (List UInt8)} (h : ¬ OkC k m) : updX k m j p q A = 50 ∧ updY k m j p q A = [] := ⟨if_neg h, if_neg fun e => h e.1⟩
theorem updX_shard {k m j : Int} {p q : List UInt8} {A : List (List UInt8)} (h : OkC k m) (h2 : ¬ OkU k m j p q A) : updX k m j p q A = 60 ∧ updY k m j p q A = [] := ⟨by unfold updX; rw [if_pos h, if_neg h2], if_neg fun e => h2 e.2⟩
theorem updX_ok {k m j : Int} {p q : List UInt8} {A : List (List UInt8)} (h : OkC k m) (h2 : OkU k m j p q A) : updX k m j p q A = 0 ∧ updY k m j p q A = updL m.toNat (parF k.toNat) j.toNat p q A := ⟨by unfold updX; rw [if_pos h, if_pos h2], if_pos ⟨h, h2⟩⟩
theorem small_mem {L : List (List UInt8)} (h : L.length ≤ 300) (h2 : ∀ p ∈ L, p.length ≤ 300) : Small L := ⟨h, fun i => by
  by_cases e : i < L.length
  · rw [ro_lt e]; exact h2 _ (List.getElem_mem e)
  · rw [ro_ge (by omega)]; simp⟩

end Go.Proofs.Ytjgeipmfdmdmkaa.Gf

/-
  SMALL FACTS OF LAYER 5's STATEMENTS.
-/

namespace Go.Proofs.Ytjgeipmfdmdmkaa.Gf
set_option linter.unusedVariables false
set_option linter.unusedSimpArgs false
open Go.RowKit

theorem co_flat {r c : Nat} {F : Mx} {i j : Nat} (hi : i < r) (hj : j < c) : co (flat r c F) (i * c + j) = F i j := en_flat F hi hj
/-- the checks' product with the generator, as it lies -/
theorem nought_zero (k m i : Nat) : co (flat m k (mm (k + m) (en (k + m) (flat m (k + m) (chkF k))) (en k (flat (k + m) k (genF k))))) i = 0 := by
  by_cases hi : i < m * k
  · have hk : 0 < k := by
      rcases Nat.eq_zero_or_pos k with e | e
      · rw [e, Nat.mul_zero] at hi; omega
      · exact e
    have h1 : i / k < m := (Nat.div_lt_iff_lt_mul hk).2 hi
    have h2 : i % k < k := Nat.mod_lt _ hk
    have e1 : co (flat m k (mm (k + m) (en (k + m) (flat m (k + m) (chkF k))) (en k (flat (k + m) k (genF k))))) i = mm (k + m) (en (k + m) (flat m (k + m) (chkF k))) (en k (flat (k + m) k (genF k))) (i / k) (i % k) := co_map_range _ hi
    rw [e1, mm_congr (A' := chkF k) (B' := genF k) (fun x hx => en_flat _ h1 hx) (fun x hx => en_flat _ hx h2)]
    exact chk_gen k m h1 h2
  · exact co_ge (by rw [flat_length]; omega)

theorem iv_inj {a b : UInt8} (ha : a ≠ 0) (hb : b ≠ 0) (h : iv a = iv b) : a = b := by
  have h1 := mu_iv ha
  have h2 := mu_iv hb
  rw [← h] at h2
  have e : mu (mu a (iv a)) b = mu a (mu (iv a) b) := mu_assoc _ _ _
  rw [h1, one_mu, mu_comm (iv a) b, h2, mu_one] at e
  exact e.symm
theorem par_row {k i j n : Nat} (h : k + i < 256) (hj : j < k) (hn : n < k) (hne : n ≠ j) : parF k i n ≠ parF k i j := by
  intro e
  have := iv_inj (pt_ne h (by omega) (by omega)) (pt_ne h (by omega) (by omega)) e
  have e2 : pt n = pt j := by
    have h3 := congrArg (pt (k + i) ^^^ ·) this
    simp only [x_cancel] at h3
    exact h3
  exact hne (pt_inj (by omega) (by omega) e2)
theorem par_col {k i j n : Nat} (h : k + i < 256) (h' : k + n < 256) (hj : j < k) (hne : n ≠ i) : parF k n j ≠ parF k i j := by
  intro e
  have := iv_inj (pt_ne h' (by omega) (by omega)) (pt_ne h (by omega) (by omega)) e
  have e2 : pt (k + n) = pt (k + i) := by
    have h3 := congrArg (· ^^^ pt j) this
    simp only [x_assoc, x_self, x_zero] at h3
    exact h3
  exact hne (by have := pt_inj h' h e2; omega)
theorem par_one {k i j : Nat} (h : k + i < 256) (hj : j < k) : mu (parF k i j) (pt (k + i) ^^^ pt j) = 1 := by
  rw [mu_comm]; exact mu_iv (pt_ne h (by omega) (by omega))
theorem par_ne {k i j : Nat} (h : k + i < 256) (hj : j < k) : parF k i j ≠ 0 := by
  intro e
  have := par_one h hj
  rw [e, zero_mu] at this
  cases this

theorem flat_at {r c i : Nat} (F : Mx) (hi : i < r * c) : co (flat r c F) i = F (i / c) (i % c) := co_map_range _ hi
theorem gen_more {k N N1 i : Nat} (h : N1 ≤ N) (hi : i < N1 * k) : co (flat N k (genF k)) i = co (flat N1 k (genF k)) i := by
  rw [flat_at _ hi, flat_at _ (Nat.lt_of_lt_of_le hi (Nat.mul_le_mul_right k h))]
theorem gen_par {k m i : Nat} (hi : i < m * k) : co (flat (k + m) k (genF k)) (k * k + i) = co (flat m k (parF k)) i := by
  have hk : 0 < k := by
    rcases Nat.eq_zero_or_pos k with e | e
    · rw [e, Nat.mul_zero] at hi; omega
    · exact e
  have h1 : k * k + i < (k + m) * k := by rw [Nat.add_mul]; omega
  rw [flat_at _ hi, flat_at _ h1]
  have e1 : (k * k + i) / k = k + i / k := by rw [Nat.mul_comm, Nat.mul_add_div hk]
  have e2 : (k * k + i) % k = i % k := by rw [Nat.mul_add_mod]
  rw [e1, e2]
  unfold genF
  rw [if_neg (Nat.not_lt.2 (Nat.le_add_right _ _)), Nat.add_sub_cancel_left]
theorem par_some {k m i : Nat} (h : k + m ≤ 256) (hi : i < m * k) : co (flat m k (parF k)) i ≠ 0 := by
  have hk : 0 < k := by
    rcases Nat.eq_zero_or_pos k with e | e
    · rw [e, Nat.mul_zero] at hi; omega
    · exact e
  rw [flat_at _ hi]
  have h1 : i / k < m := (Nat.div_lt_iff_lt_mul hk).2 hi
  exact par_ne (by omega) (Nat.mod_lt _ hk)

end Go.Proofs.Ytjgeipmfdmdmkaa.Gf

/-
  STRIPES ARE LINEAR: the mathematics of layer 6. No program's function is named here.
-/


namespace Go.Proofs.Ytjgeipmfdmdmkaa.Gf
set_option linter.unusedVariables false
set_option linter.unusedSimpArgs false
open Go.RowKit

/-- lists of shards are told by their lengths and bytes -/
theorem L_ext {L M : List (List UInt8)} (h : L.length = M.length) (h1 : ∀ i, i < L.length → (ro L i).length = (ro M i).length) (h2 : ∀ i n, i < L.length → n < (ro L i).length → co (ro L i) n = co (ro M i) n) : L = M :=
  ro_ext h fun i hi => co_ext (h1 i hi) fun n hn => h2 i n hi hn
theorem enc_row_lt {m k : Nat} {F : Mx} {L : List (List UInt8)} {i : Nat} (h : i < L.length) : ro (encL m k F L) i = ro L i := ro_append_left h
theorem enc_row_ge {m k : Nat} {F : Mx} {L : List (List UInt8)} {i : Nat} (h : i < m) : ro (encL m k F L) (L.length + i) = parR k F L i := by
  unfold encL
  rw [ro_append_right (by omega), show L.length + i - L.length = i by omega, ro_mkL h]
theorem enc_row_ge' {m k : Nat} {F : Mx} {L : List (List UInt8)} {i : Nat} (h : L.length ≤ i) (h2 : i < L.length + m) : ro (encL m k F L) i = parR k F L (i - L.length) := by
  have := enc_row_ge (m := m) (k := k) (F := F) (L := L) (i := i - L.length) (by omega)
  rwa [show L.length + (i - L.length) = i by omega] at this
theorem enc_len {m k : Nat} {F : Mx} {L : List (List UInt8)} (hE : Even L) {i : Nat} (h : i < L.length + m) : (ro (encL m k F L) i).length = (ro L 0).length := by
  by_cases e : i < L.length
  · rw [enc_row_lt e]; exact hE i e
  · rw [enc_row_ge' (by omega) h, parR_length]
theorem enc_even {m k : Nat} {F : Mx} {L : List (List UInt8)} (hE : Even L) (h0 : 0 < L.length) : Even (encL m k F L) := fun i hi => by
  rw [encL_length] at hi
  rw [enc_len hE hi, enc_len hE (by omega)]
theorem enc_small {m k : Nat} {F : Mx} {L : List (List UInt8)} (hE : Even L) (h : L.length + m ≤ 300) (hS : Small L) : Small (encL m k F L) := ⟨by rw [encL_length]; exact h, fun i => by
  by_cases e : i < L.length + m
  · rw [enc_len hE e]; exact hS.2 0
  · rw [ro_ge (by rw [encL_length]; omega)]; simp⟩
theorem enc_take {m k : Nat} {F : Mx} {L : List (List UInt8)} (h : L.length = k) : (encL m k F L).take k = L := by
  unfold encL
  rw [← h]; exact List.take_left
theorem enc_drop {m k : Nat} {F : Mx} {L : List (List UInt8)} (h : L.length = k) : (encL m k F L).drop k = mkL m (parR k F L) := by
  unfold encL
  rw [← h]; exact List.drop_left
theorem wd_add {F : Mx} {A B C : List (List UInt8)} {i k n : Nat} (h : ∀ l, l < k → co (ro C l) n = co (ro A l) n ^^^ co (ro B l) n) : wd F C i k n = wd F A i k n ^^^ wd F B i k n := by
  unfold wd
  rw [← S_xor]
  exact S_congr fun l hl => by rw [h l hl, mu_xor]
theorem addL_length (A B : List (List UInt8)) : (addL A B).length = A.length := mkL_length _ _
theorem addL_row {A B : List (List UInt8)} {i : Nat} (h : i < A.length) : (ro (addL A B) i).length = (ro A i).length := by unfold addL; rw [ro_mkL h, upto_length]
theorem addL_co {A B : List (List UInt8)} {i n : Nat} (h : i < A.length) (hn : n < (ro A i).length) : co (ro (addL A B) i) n = co (ro A i) n ^^^ co (ro B i) n := by
  unfold addL; rw [ro_mkL h, co_upto_in hn]
theorem addL_even {A B : List (List UInt8)} (hE : Even A) : Even (addL A B) := fun i hi => by
  rw [addL_length] at hi
  rw [addL_row hi, addL_row (by omega)]; exact hE i hi
theorem addL_small {A B : List (List UInt8)} (hS : Small A) : Small (addL A B) := ⟨by rw [addL_length]; exact hS.1, fun i => by
  by_cases e : i < A.length
  · rw [addL_row e]; exact hS.2 i
  · rw [ro_ge (by rw [addL_length]; omega)]; simp⟩
theorem enc_add {m k : Nat} {F : Mx} {A B : List (List UInt8)} (hA : A.length = k) (hB : B.length = k) (h0 : 0 < k) (hE : Even A) (hE2 : Even B) (hl : (ro A 0).length = (ro B 0).length) : encL m k F (addL A B) = addL (encL m k F A) (encL m k F B) := by
  have hEn := addL_even (B := B) hE
  refine L_ext (by rw [encL_length, addL_length, addL_length, encL_length]) (fun i hi => ?_) fun i n hi hn => ?_
  · rw [encL_length, addL_length] at hi
    rw [enc_len hEn (by rw [addL_length]; exact hi), addL_row (by omega), addL_row (by rw [encL_length]; exact hi), enc_len hE hi]
  · rw [encL_length, addL_length] at hi
    rw [enc_len hEn (by rw [addL_length]; exact hi), addL_row (by omega)] at hn
    rw [addL_co (by rw [encL_length]; exact hi) (by rw [enc_len hE hi]; exact hn)]
    by_cases e : i < A.length
    · rw [enc_row_lt (by rw [addL_length]; exact e), enc_row_lt e, enc_row_lt (by omega), addL_co e (by rw [hE i e]; exact hn)]
    · rw [enc_row_ge' (by rw [addL_length]; omega) (by rw [addL_length]; exact hi), enc_row_ge' (by omega) hi, enc_row_ge' (by omega) (by omega), addL_length, hA, hB]
      unfold parR
      rw [co_upto_in (by rw [addL_row (by omega)]; exact hn), co_upto_in hn, co_upto_in (by omega)]
      exact wd_add fun l hl => addL_co (by omega) (by rw [hE l (by omega)]; exact hn)

/-- a data shard that is another one -/
theorem upd_enc {m k j : Nat} {F : Mx} {L : List (List UInt8)} {q : List UInt8} (hL : L.length = k) (hj : j < k) (hE : Even L) (hq : q.length = (ro L 0).length) : updL m F j (ro L j) q (mkL m (parR k F L)) = mkL m (parR k F (L.set j q)) := by
  refine mkL_congr fun i hi => ?_
  unfold updR
  rw [ro_mkL hi, parR_length]
  have e0 : (ro (L.set j q) 0).length = (ro L 0).length := by
    rw [ro_set (by omega)]
    by_cases e : 0 = j
    · rw [if_pos e, hq]
    · rw [if_neg e]
  unfold parR
  rw [e0]
  refine upto_congr fun n hn => ?_
  rw [co_upto_in hn]
  unfold wd
  have h1 : S k (fun l => mu (F i l) (co (ro (L.set j q) l) n)) = S k (fun l => mu (F i l) (co (ro L l) n) ^^^ (if l = j then mu (F i j) (co (ro L j) n ^^^ co q n) else 0)) := S_congr fun l hl => by
    rw [ro_set (by omega)]
    by_cases e : l = j
    · subst e
      rw [if_pos rfl, if_pos rfl, mu_xor, ← x_assoc, x_self, zero_x]
    · rw [if_neg e, if_neg e, x_zero]
  rw [h1, S_xor]
  congr 1
  rw [S_one hj (fun l hl hne => if_neg hne), if_pos rfl]
theorem upd_ok_of {m k j : Nat} {F : Mx} {L : List (List UInt8)} {q : List UInt8} (hL : L.length = k) (hj : j < k) (hE : Even L) (hq : q.length = (ro L 0).length) : OkU k m j (ro L j) q (mkL m (parR k F L)) := by
  refine ⟨by rw [mkL_length], fun i hi => ?_, by omega, by omega⟩
  have all : ∀ i, i < m + 2 → (ro (mkL m (parR k F L) ++ [ro L j, q]) i).length = (ro L 0).length := fun i hi => by
    by_cases e : i < m
    · rw [ro_append_left (by rw [mkL_length]; exact e), ro_mkL e, parR_length]
    · rw [ro_append_right (by rw [mkL_length]; omega), mkL_length]
      rcases Nat.lt_or_ge (i - m) 1 with h | h
      · rw [show i - m = 0 by omega]; exact hE j (by omega)
      · rw [show i - m = 1 by omega]; exact hq
  rw [List.length_append, mkL_length] at hi
  rw [all i (by simpa using hi), all 0 (by omega)]
theorem set_even {L : List (List UInt8)} {j : Nat} {q : List UInt8} (hj : j < L.length) (hE : Even L) (hq : q.length = (ro L 0).length) : Even (L.set j q) := by
  have all : ∀ i, i < L.length → (ro (L.set j q) i).length = (ro L 0).length := fun i hi => by
    rw [ro_set hj]
    by_cases e : i = j
    · rw [if_pos e, hq]
    · rw [if_neg e]; exact hE i hi
  intro i hi
  rw [List.length_set] at hi
  rw [all i hi, all 0 (by omega)]
theorem set_small {L : List (List UInt8)} {j : Nat} {q : List UInt8} (hS : Small L) (hj : j < L.length) (hq : q.length ≤ 300) : Small (L.set j q) := ⟨by rw [List.length_set]; exact hS.1, fun i => by
  rw [ro_set hj]
  by_cases e : i = j
  · rw [if_pos e]; exact hq
  · rw [if_neg e]; exact hS.2 i⟩
theorem mk_small {m k : Nat} {F : Mx} {L : List (List UInt8)} (hm : m ≤ 300) (hS : Small L) : Small (mkL m (parR k F L)) := ⟨by rw [mkL_length]; exact hm, fun i => by
  by_cases e : i < m
  · rw [ro_mkL e, parR_length]; exact hS.2 0
  · rw [ro_ge (by rw [mkL_length]; omega)]; simp⟩

/-- one byte that is another one -/
theorem setL_row {L : List (List UInt8)} {i n r : Nat} {y : UInt8} (hi : i < L.length) : (ro (setL L i n y) r).length = (ro L r).length := by
  unfold setL
  rw [ro_set hi]
  by_cases e : r = i
  · subst e; rw [if_pos rfl, List.length_set]
  · rw [if_neg e]
theorem setL_co {L : List (List UInt8)} {i n r t : Nat} {y : UInt8} (hi : i < L.length) (hn : n < (ro L i).length) : co (ro (setL L i n y) r) t = if r = i ∧ t = n then y else co (ro L r) t := by
  unfold setL
  rw [ro_set hi]
  by_cases e : r = i
  · subst e
    rw [if_pos rfl, co_at hn]
    by_cases e2 : t = n
    · rw [if_pos e2, if_pos ⟨rfl, e2⟩]
    · rw [if_neg e2, if_neg (fun h => e2 h.2)]
  · rw [if_neg e, if_neg (fun h => e h.1)]
theorem setL_even {L : List (List UInt8)} {i n : Nat} {y : UInt8} (hi : i < L.length) (hE : Even L) : Even (setL L i n y) := fun r hr => by
  rw [setL_length] at hr
  rw [setL_row hi, setL_row hi]; exact hE r hr
theorem setL_small {L : List (List UInt8)} {i n : Nat} {y : UInt8} (hi : i < L.length) (hS : Small L) : Small (setL L i n y) := ⟨by rw [setL_length]; exact hS.1, fun r => by rw [setL_row hi]; exact hS.2 r⟩
/-- .. is seen by each parity shard -/
theorem wd_set {F : Mx} {L : List (List UInt8)} {i k j n : Nat} {by' : UInt8} (hj : j < k) (hL : L.length = k) (hn : n < (ro L j).length) : wd F (setL L j n (co (ro L j) n ^^^ by')) i k n = wd F L i k n ^^^ mu (F i j) by' := by
  unfold wd
  have h1 : S k (fun l => mu (F i l) (co (ro (setL L j n (co (ro L j) n ^^^ by')) l) n)) = S k (fun l => mu (F i l) (co (ro L l) n) ^^^ (if l = j then mu (F i j) by' else 0)) := S_congr fun l hl => by
    rw [setL_co (by omega) hn]
    by_cases e : l = j
    · subst e; rw [if_pos ⟨rfl, rfl⟩, if_pos rfl, mu_xor]
    · rw [if_neg (fun h => e h.1), if_neg e, x_zero]
  rw [h1, S_xor, S_one hj (fun l hl hne => if_neg hne), if_pos rfl]
theorem x_ne {a b : UInt8} (h : b ≠ 0) : a ^^^ b ≠ a := fun e => h (by have := congrArg (a ^^^ ·) e; simp only [x_cancel, x_self] at this; exact this)
theorem take_setL {L : List (List UInt8)} {j n k : Nat} {y : UInt8} (hj : j < k) (hk : k ≤ L.length) : (setL L j n y).take k = setL (L.take k) j n y := by
  refine ro_ext (by rw [List.length_take, setL_length, setL_length, List.length_take]) fun r hr => ?_
  rw [List.length_take, setL_length] at hr
  rw [ro_take (by omega)]
  unfold setL
  rw [ro_set (by omega), ro_set (by rw [List.length_take]; omega), ro_take hj, ro_take (by omega)]
theorem take_setL' {L : List (List UInt8)} {j n k : Nat} {y : UInt8} (hj : k ≤ j) (hjl : j < L.length) : (setL L j n y).take k = L.take k := by
  refine ro_ext (by rw [List.length_take, setL_length, List.length_take]) fun r hr => ?_
  rw [List.length_take, setL_length] at hr
  rw [ro_take (by omega), ro_take (by omega)]
  unfold setL
  rw [ro_set hjl, if_neg (by omega)]
/-- the parity bytes are others -/
theorem single_ne {m k j n i : Nat} {L : List (List UInt8)} {by' : UInt8} (hL : L.length = k) (hkm : k + m ≤ 256) (hi : i < m) (hj : j < k) (hE : Even L) (hn : n < (ro L 0).length) (hb : by' ≠ 0) :
    co (ro (encL m k (parF k) (setL L j n (co (ro L j) n ^^^ by'))) (k + i)) n ≠ co (ro (encL m k (parF k) L) (k + i)) n := by
  have hnj : n < (ro L j).length := by rw [hE j (by omega)]; exact hn
  have hl : (setL L j n (co (ro L j) n ^^^ by')).length = k := by rw [setL_length, hL]
  rw [show k + i = (setL L j n (co (ro L j) n ^^^ by')).length + i by rw [hl], enc_row_ge hi]
  rw [show (setL L j n (co (ro L j) n ^^^ by')).length + i = L.length + i by rw [setL_length], enc_row_ge hi]
  unfold parR
  rw [co_upto_in (by rw [setL_row (by omega)]; exact hn), co_upto_in hn, wd_set hj hL hnj]
  exact x_ne (mu_ne (par_ne (by omega) hj) hb)
theorem single_fit {m k j n : Nat} {L : List (List UInt8)} {by' : UInt8} (hL : L.length = k) (hk : 1 ≤ k) (hkm : k + m ≤ 256) (hm : 0 < m) (hj : j < k + m) (hE : Even L) (hn : n < (ro L 0).length) (hb : by' ≠ 0) :
    fitX k m (setL (encL m k (parF k) L) j n (co (ro (encL m k (parF k) L) j) n ^^^ by')) = 0 ∧ fitB k m (setL (encL m k (parF k) L) j n (co (ro (encL m k (parF k) L) j) n ^^^ by')) = false := by
  have hXl : (encL m k (parF k) L).length = k + m := by rw [encL_length, hL]
  have hXe : Even (encL m k (parF k) L) := enc_even hE (by omega)
  have hnj : n < (ro (encL m k (parF k) L) j).length := by rw [enc_len hE (by omega)]; exact hn
  have h := fitX_ok (okC_mk hk hkm) (L := setL (encL m k (parF k) L) j n (co (ro (encL m k (parF k) L) j) n ^^^ by')) (by rw [setL_length, hXl]; exact_mod_cast rfl) (setL_even (by omega) hXe)
  refine ⟨h.1, ?_⟩
  rw [h.2]
  refine decide_eq_false fun e => ?_
  by_cases hjk : j < k
  · have e1 : ro (encL m k (parF k) L) j = ro L j := enc_row_lt (by omega)
    rw [take_setL hjk (by omega), enc_take hL, e1] at e
    have h2 := single_ne (i := 0) hL hkm hm hjk hE hn hb
    rw [e] at h2
    rw [setL_co (by omega) hnj, if_neg (by omega)] at h2
    exact h2 rfl
  · rw [take_setL' (by omega) (by omega), enc_take hL] at e
    have h2 := congrArg (fun M => co (ro M j) n) e
    rw [setL_co (by omega) hnj, if_pos ⟨rfl, rfl⟩] at h2
    exact x_ne hb h2.symm

/-- one place alone -/
def oneL (L : List (List UInt8)) (n : Nat) : List (List UInt8) := mkL L.length (fun i => [co (ro L i) n])
theorem oneL_length (L : List (List UInt8)) (n : Nat) : (oneL L n).length = L.length := mkL_length _ _
theorem oneL_row {L : List (List UInt8)} {n i : Nat} (h : i < L.length) : ro (oneL L n) i = [co (ro L i) n] := ro_mkL h
theorem oneL_even (L : List (List UInt8)) (n : Nat) : Even (oneL L n) := fun i hi => by
  rw [oneL_length] at hi
  rw [oneL_row hi, oneL_row (by omega)]; rfl
theorem oneL_small {L : List (List UInt8)} {n : Nat} (hS : Small L) : Small (oneL L n) := ⟨by rw [oneL_length]; exact hS.1, fun i => by
  by_cases e : i < L.length
  · rw [oneL_row e]; simp
  · rw [ro_ge (by rw [oneL_length]; omega)]; simp⟩
theorem place_enc {m k n i : Nat} {F : Mx} {L : List (List UInt8)} (hL : L.length = k) (h0 : 0 < k) (hE : Even L) (hn : n < (ro L 0).length) (hi : i < k + m) :
    ro (encL m k F (oneL L n)) i = [co (ro (encL m k F L) i) n] := by
  by_cases e : i < k
  · rw [enc_row_lt (by rw [oneL_length]; omega), enc_row_lt (by omega), oneL_row (by omega)]
  · rw [enc_row_ge' (by rw [oneL_length]; omega) (by rw [oneL_length]; omega), enc_row_ge' (by omega) (by omega), oneL_length]
    unfold parR
    rw [co_upto_in hn, oneL_row (by omega)]
    show [wd F (oneL L n) (i - L.length) k 0] = [wd F L (i - L.length) k n]
    congr 1
    exact S_congr fun l hl => by rw [oneL_row (by omega)]; rfl

/-- times a number -/
def timesL (L : List (List UInt8)) (c : UInt8) : List (List UInt8) := mkL L.length (fun i => upto (fun n => mu (co (ro L i) n) c) (ro L i).length)
theorem timesL_length (L : List (List UInt8)) (c : UInt8) : (timesL L c).length = L.length := mkL_length _ _
theorem timesL_row {L : List (List UInt8)} {c : UInt8} {i : Nat} (h : i < L.length) : (ro (timesL L c) i).length = (ro L i).length := by unfold timesL; rw [ro_mkL h, upto_length]
theorem timesL_co {L : List (List UInt8)} {c : UInt8} {i n : Nat} (h : i < L.length) (hn : n < (ro L i).length) : co (ro (timesL L c) i) n = mu (co (ro L i) n) c := by
  unfold timesL; rw [ro_mkL h, co_upto_in hn]
theorem timesL_even {L : List (List UInt8)} {c : UInt8} : Even (timesL L c) ↔ Even L := by
  constructor
  · intro h i hi
    have := h i (by rw [timesL_length]; exact hi)
    rwa [timesL_row hi, timesL_row (by omega)] at this
  · intro h i hi
    rw [timesL_length] at hi
    rw [timesL_row hi, timesL_row (by omega)]; exact h i hi
theorem timesL_small {L : List (List UInt8)} {c : UInt8} (hS : Small L) : Small (timesL L c) := ⟨by rw [timesL_length]; exact hS.1, fun i => by
  by_cases e : i < L.length
  · rw [timesL_row e]; exact hS.2 i
  · rw [ro_ge (by rw [timesL_length]; omega)]; simp⟩
theorem times_encX (k m : Int) (L : List (List UInt8)) (c : UInt8) : encX k m (timesL L c) = encX k m L := by
  unfold encX
  by_cases h : OkC k m
  · rw [if_pos h, if_pos h]
    by_cases h2 : (L.length : Int) = k ∧ Even L
    · rw [if_pos h2, if_pos ⟨by rw [timesL_length]; exact h2.1, timesL_even.2 h2.2⟩]
    · rw [if_neg h2, if_neg (fun e => h2 ⟨by have := e.1; rwa [timesL_length] at this, timesL_even.1 e.2⟩)]
  · rw [if_neg h, if_neg h]
theorem times_enc {m k : Nat} {F : Mx} {L : List (List UInt8)} (c : UInt8) (hL : L.length = k) (h0 : 0 < k) (hE : Even L) : encL m k F (timesL L c) = timesL (encL m k F L) c := by
  have hEn : Even (timesL L c) := timesL_even.2 hE
  refine L_ext (by rw [encL_length, timesL_length, timesL_length, encL_length]) (fun i hi => ?_) fun i n hi hn => ?_
  · rw [encL_length, timesL_length] at hi
    rw [enc_len hEn (by rw [timesL_length]; exact hi), timesL_row (by omega), timesL_row (by rw [encL_length]; exact hi), enc_len hE hi]
  · rw [encL_length, timesL_length] at hi
    rw [enc_len hEn (by rw [timesL_length]; exact hi), timesL_row (by omega)] at hn
    rw [timesL_co (by rw [encL_length]; exact hi) (by rw [enc_len hE hi]; exact hn)]
    by_cases e : i < L.length
    · rw [enc_row_lt (by rw [timesL_length]; exact e), enc_row_lt e, timesL_co e (by rw [hE i e]; exact hn)]
    · rw [enc_row_ge' (by rw [timesL_length]; omega) (by rw [timesL_length]; exact hi), enc_row_ge' (by omega) hi, timesL_length, hL]
      unfold parR
      rw [co_upto_in (by rw [timesL_row (by omega)]; exact hn), co_upto_in hn]
      unfold wd
      rw [S_mu]
      exact S_congr fun l hl => by rw [timesL_co (by omega) (by rw [hE l (by omega)]; exact hn), mu_assoc]

/-- where encoding answers no error -/
theorem enc_zero {k m : Int} {L : List (List UInt8)} (h : encX k m L = 0) : ∃ k' m' : Nat, k = (k' : Int) ∧ m = (m' : Int) ∧ 1 ≤ k' ∧ k' + m' ≤ 256 ∧ L.length = k' ∧ Even L ∧ encR k m L = encL m' k' (parF k') L := by
  rcases enc_cases k m L with c | ⟨c, d⟩ | ⟨c, d1, d2⟩
  · rw [(encX_bad c).1] at h; cases h
  · rw [(encX_shard c d).1] at h; cases h
  · obtain ⟨k', m', rfl, rfl, h1, h2⟩ := c.nat
    exact ⟨k', m', rfl, rfl, h1, h2, by omega, d2, (encX_ok c d1 d2).2⟩
theorem enc_not {k m : Int} {L : List (List UInt8)} (h : encX k m L ≠ 0) : encR k m L = [] := by
  rcases enc_cases k m L with c | ⟨c, d⟩ | ⟨c, d1, d2⟩
  · exact (encX_bad c).2
  · exact (encX_shard c d).2
  · obtain ⟨k', m', rfl, rfl, h1, h2⟩ := c.nat
    exact absurd (encX_ok c d1 d2).1 h

end Go.Proofs.Ytjgeipmfdmdmkaa.Gf

/-
  PLAIN MATHEMATICS: weights and syndromes; all syndromes of a word are 0 just if its parity is that of its data. No program's function is named here.
-/

namespace Go.Proofs.Ytjgeipmfdmdmkaa.Gf
set_option linter.unusedVariables false
set_option linter.unusedSimpArgs false

/-- the product of the sums of the point i and the first n parity points, but i itself -/
def wpd (k i : Nat) : Nat → UInt8
  | 0 => 1
  | n + 1 => if k + n = i then wpd k i n else mu (wpd k i n) (pt i ^^^ pt (k + n))
theorem wpd_zero (k i : Nat) : wpd k i 0 = 1 := rfl
theorem wpd_self {k i n : Nat} (h : k + n = i) : wpd k i (n + 1) = wpd k i n := by rw [wpd, if_pos h]
theorem wpd_next {k i n : Nat} (h : k + n ≠ i) : wpd k i (n + 1) = mu (wpd k i n) (pt i ^^^ pt (k + n)) := by rw [wpd, if_neg h]
theorem wpd_ne {k i n : Nat} (hk : k + n ≤ 256) (hi : i < 256) : wpd k i n ≠ 0 := by
  induction n with
  | zero => exact (by decide : (1 : UInt8) ≠ 0)
  | succ n ih =>
    have h := ih (by omega)
    by_cases e : k + n = i
    · rw [wpd_self e]; exact h
    · rw [wpd_next e]; exact mu_ne h (pt_ne hi (by omega) (fun x => e x.symm))
/-- the weight of the shard i -/
def wtF (k m i : Nat) : UInt8 := iv (wpd k i m)
theorem iv_ne {a : UInt8} (h : a ≠ 0) : iv a ≠ 0 := fun e => by
  have := mu_iv h
  rw [e, mu_zero] at this
  cases this
theorem wtF_ne {k m i : Nat} (h : k + m ≤ 256) (hi : i < 256) : wtF k m i ≠ 0 := iv_ne (wpd_ne h hi)
/-- a number times a point's powers, as it goes on -/
def nmF (a p : UInt8) : Nat → UInt8
  | 0 => a
  | n + 1 => mu (nmF a p n) p
theorem nmF_pwr (a p : UInt8) (n : Nat) : nmF a p n = mu a (nmF 1 p n) := by
  induction n with
  | zero => exact (mu_one a).symm
  | succ n ih => rw [nmF, ih, nmF, mu_assoc]
/-- the syndrome of l -/
def synF (k m : Nat) (z : Nat → UInt8) (l : Nat) : UInt8 := S (k + m) (fun i => mu (mu (z i) (wtF k m i)) (nmF 1 (pt i) l))
theorem synF_congr {k m l : Nat} {z y : Nat → UInt8} (h : ∀ i, i < k + m → z i = y i) : synF k m z l = synF k m y l := S_congr fun i hi => by rw [h i hi]
theorem synF_add {k m l : Nat} {z y x : Nat → UInt8} (h : ∀ i, i < k + m → x i = z i ^^^ y i) : synF k m x l = synF k m z l ^^^ synF k m y l := by
  unfold synF
  rw [← S_xor]
  exact S_congr fun i hi => by rw [h i hi, xor_mu, xor_mu]
theorem synF_times {k m l : Nat} {z x : Nat → UInt8} {c : UInt8} (h : ∀ i, i < k + m → x i = mu (z i) c) : synF k m x l = mu (synF k m z l) c := by
  unfold synF
  rw [S_mu]
  exact S_congr fun i hi => by rw [h i hi]; simp only [mu_assoc, mu_comm, mu_left]
theorem synF_one {k m l j : Nat} {z : Nat → UInt8} (hj : j < k + m) (h : ∀ i, i < k + m → i ≠ j → z i = 0) : synF k m z l = nmF (mu (z j) (wtF k m j)) (pt j) l := by
  unfold synF
  rw [S_one hj (fun i hi hne => by rw [h i hi hne, zero_mu, zero_mu]), nmF_pwr (mu _ _)]

/-! Polynomials. -/
theorem PF.mono' {k n : Nat} {f : UInt8 → UInt8} (h : PF k f) (hn : k ≤ n) : PF n f := by
  induction n with
  | zero => rw [Nat.le_zero.1 hn] at h; exact h
  | succ n ih =>
    by_cases e : k = n + 1
    · rw [← e]; exact h
    · exact (ih (by omega)).mono
theorem nm_PF (l : Nat) : PF (l + 1) (fun z => nmF 1 z l) := by
  induction l with
  | zero => exact PF.const 1
  | succ l ih => exact ⟨0, _, ih, fun z => by rw [zero_x]; exact mu_comm _ _⟩
/-- a polynomial's numbers -/
theorem PF.coef {k : Nat} {f : UInt8 → UInt8} (h : PF k f) : ∃ c : Nat → UInt8, ∀ z, f z = S k (fun l => mu (c l) (nmF 1 z l)) := by
  induction k generalizing f with
  | zero => exact ⟨fun _ => 0, h⟩
  | succ k ih =>
    obtain ⟨a, g, hg, hz⟩ := h
    obtain ⟨c, hc⟩ := ih hg
    refine ⟨fun l => if l = 0 then a else c (l - 1), fun z => ?_⟩
    rw [S_head, hz z, hc z, mu_S]
    congr 1
    · show a = mu (if (0 : Nat) = 0 then a else _) (nmF 1 z 0)
      rw [if_pos rfl]; exact (mu_one a).symm
    · refine S_congr fun l hl => ?_
      show mu z (mu (c l) (nmF 1 z l)) = mu (if l + 1 = 0 then a else c (l + 1 - 1)) (nmF 1 z (l + 1))
      rw [if_neg (by omega), Nat.add_sub_cancel, nmF, mu_left, mu_comm z]
/-- .. so a word without syndromes is nought with each of them -/
theorem syn_poly {k m : Nat} {z : Nat → UInt8} (h : ∀ l, l < m → synF k m z l = 0) {g : UInt8 → UInt8} (hg : PF m g) : S (k + m) (fun i => mu (mu (z i) (wtF k m i)) (g (pt i))) = 0 := by
  obtain ⟨c, hc⟩ := hg.coef
  have e1 : S (k + m) (fun i => mu (mu (z i) (wtF k m i)) (g (pt i))) = S (k + m) (fun i => S m (fun l => mu (c l) (mu (mu (z i) (wtF k m i)) (nmF 1 (pt i) l)))) :=
    S_congr fun i hi => by rw [hc, mu_S]; exact S_congr fun l hl => mu_left _ _ _
  rw [e1, S_swap]
  refine S_zero fun l hl => ?_
  rw [← mu_S]
  have := h l hl
  unfold synF at this
  rw [this, mu_zero]
/-- the parity points -/
def qp (k n : Nat) : UInt8 := pt (k + n)
theorem wpd_data {k j n : Nat} (hj : j < k) : wpd k j n = PD (qp k) n (pt j) := by
  induction n with
  | zero => rfl
  | succ n ih => rw [wpd_next (by omega), ih, PD, mu_comm]; rfl
theorem wpd_par {k i n : Nat} : wpd k (k + i) n = PE (qp k) i n (pt (k + i)) := by
  induction n with
  | zero => rfl
  | succ n ih =>
    by_cases e : n = i
    · rw [wpd_self (by omega), ih, PE, if_pos e]
    · rw [wpd_next (by omega), ih, PE, if_neg e, mu_comm]; rfl
theorem PD_ne {k j n : Nat} (hj : j < k) (h : k + n ≤ 256) : PD (qp k) n (pt j) ≠ 0 := by rw [← wpd_data hj]; exact wpd_ne h (by omega)
/-- a data shard's weight times all parity points but one's polynomial -/
theorem wt_data {k m j i : Nat} (hj : j < k) (hi : i < m) (h : k + m ≤ 256) : mu (wtF k m j) (PE (qp k) i m (pt j)) = parF k i j := by
  unfold wtF parF
  have hne : pt j ^^^ pt (k + i) ≠ 0 := pt_ne (by omega) (by omega) (by omega)
  have e1 : PD (qp k) m (pt j) = mu (pt j ^^^ pt (k + i)) (PE (qp k) i m (pt j)) := (PE_mul (qp k) hi (pt j)).symm
  have hD := PD_ne (n := m) hj h
  have hE : PE (qp k) i m (pt j) ≠ 0 := fun e => hD (by rw [e1, e, mu_zero])
  rw [wpd_data hj, x_comm (pt (k + i))]
  have h1 := mu_iv hD
  have h2 := mu_iv hne
  -- both are the number whose product with the sum is 1
  have h3 : mu (pt j ^^^ pt (k + i)) (mu (iv (PD (qp k) m (pt j))) (PE (qp k) i m (pt j))) = 1 := by
    rw [mu_left, ← e1, mu_comm]; exact h1
  have h4 := congrArg (mu (iv (pt j ^^^ pt (k + i)))) h3
  rw [← mu_assoc, mu_comm (iv _) (pt j ^^^ _), h2, one_mu, mu_one] at h4
  exact h4
theorem wt_par {k m i : Nat} (hi : i < m) (h : k + m ≤ 256) : mu (wtF k m (k + i)) (PE (qp k) i m (pt (k + i))) = 1 := by
  unfold wtF
  rw [wpd_par, mu_comm]
  exact mu_iv (by rw [← wpd_par]; exact wpd_ne h (by omega))
/-- of a word without syndromes the parity is that of its data -/
theorem syn_par {k m : Nat} {z : Nat → UInt8} (h : k + m ≤ 256) (hz : ∀ l, l < m → synF k m z l = 0) {i : Nat} (hi : i < m) : z (k + i) = S k (fun j => mu (parF k i j) (z j)) := by
  have h0 := syn_poly hz ((PE_deg (qp k) i m).1 hi)
  rw [S_split] at h0
  have e1 : S k (fun j => mu (mu (z j) (wtF k m j)) (PE (qp k) i m (pt j))) = S k (fun j => mu (parF k i j) (z j)) := S_congr fun j hj => by
    rw [mu_assoc, wt_data hj hi h, mu_comm]
  have e2 : S m (fun n => mu (mu (z (k + n)) (wtF k m (k + n))) (PE (qp k) i m (pt (k + n)))) = z (k + i) := by
    rw [S_one hi (fun n hn hne => ?_)]
    · rw [mu_assoc, wt_par hi h, mu_one]
    · have : PE (qp k) i m (qp k n) = 0 := PE_other (qp k) hn hne
      show mu _ (PE (qp k) i m (qp k n)) = 0
      rw [this, mu_zero]
  rw [e1, e2] at h0
  exact (x_eq_zero.1 h0).symm
/-- a polynomial out of its values at the parity points -/
theorem lagrange {k m : Nat} (h : k + m ≤ 256) {g : UInt8 → UInt8} (hg : PF m g) (z : UInt8) : g z = S m (fun i => mu (mu (g (qp k i)) (wtF k m (k + i))) (PE (qp k) i m z)) := by
  have hf : PF m (fun z => g z ^^^ S m (fun i => mu (mu (g (qp k i)) (wtF k m (k + i))) (PE (qp k) i m z))) :=
    hg.add (PF.sum fun i hi => ((PE_deg (qp k) i m).1 hi).smul _)
  have := hf.roots (qp k) (fun i j hi hj hij e => hij (by have := pt_inj (by omega) (by omega) e; omega)) (fun n hn => ?_)
  · exact x_eq_zero.1 (this z)
  · show g (qp k n) ^^^ S m (fun i => mu (mu (g (qp k i)) (wtF k m (k + i))) (PE (qp k) i m (qp k n))) = 0
    rw [S_one hn (fun i hi hne => by rw [PE_other (qp k) hn (fun e => hne e.symm), mu_zero])]
    have e := wt_par (k := k) hn h
    show g (qp k n) ^^^ mu (mu (g (qp k n)) (wtF k m (k + n))) (PE (qp k) n m (pt (k + n))) = 0
    rw [mu_assoc, e, mu_one, x_self]
/-- .. and a word whose parity is that of its data has none -/
theorem par_syn {k m : Nat} {z : Nat → UInt8} (h : k + m ≤ 256) (hz : ∀ i, i < m → z (k + i) = S k (fun j => mu (parF k i j) (z j))) {l : Nat} (hl : l < m) : synF k m z l = 0 := by
  unfold synF
  rw [S_split]
  have hg : PF m (fun z => nmF 1 z l) := (nm_PF l).mono' (by omega)
  have e1 : S k (fun j => mu (mu (z j) (wtF k m j)) (nmF 1 (pt j) l)) = S m (fun i => mu (mu (z (k + i)) (wtF k m (k + i))) (nmF 1 (pt (k + i)) l)) := by
    have a1 : S k (fun j => mu (mu (z j) (wtF k m j)) (nmF 1 (pt j) l)) = S k (fun j => S m (fun i => mu (mu (nmF 1 (pt (k + i)) l) (wtF k m (k + i))) (mu (parF k i j) (z j)))) := S_congr fun j hj => by
      have := lagrange h hg (pt j)
      rw [this, mu_S]
      refine S_congr fun i hi => ?_
      rw [← wt_data hj hi h]
      show mu (mu (z j) (wtF k m j)) (mu (mu (nmF 1 (pt (k + i)) l) (wtF k m (k + i))) (PE (qp k) i m (pt j))) = _
      rw [mu_left, mu_assoc (z j), mu_comm (z j)]
    rw [a1, S_swap]
    refine S_congr fun i hi => ?_
    rw [← mu_S, ← hz i hi]
    simp only [mu_assoc, mu_comm, mu_left]
  rw [e1, x_self]

/-! What is answered. -/
def ofX (k m : Int) (z : List UInt8) : Int := if OkC k m then (if (z.length : Int) = k + m then 0 else 60) else 50
def ofR (k m : Int) (z : List UInt8) : List UInt8 := if OkC k m ∧ (z.length : Int) = k + m then upto (synF k.toNat m.toNat (co z)) m.toNat else []
theorem ofX_bad {k m : Int} {z : List UInt8} (h : ¬ OkC k m) : ofX k m z = 50 ∧ ofR k m z = [] := ⟨if_neg h, if_neg fun e => h e.1⟩
theorem ofX_shard {k m : Int} {z : List UInt8} (h : OkC k m) (h2 : ¬ (z.length : Int) = k + m) : ofX k m z = 60 ∧ ofR k m z = [] := ⟨by unfold ofX; rw [if_pos h, if_neg h2], if_neg fun e => h2 e.2⟩
theorem ofX_ok {k m : Nat} {z : List UInt8} (h : OkC k m) (h2 : z.length = k + m) : ofX k m z = 0 ∧ ofR k m z = upto (synF k m (co z)) m := ⟨by unfold ofX; rw [if_pos h, if_pos (by omega)], if_pos ⟨h, by omega⟩⟩
theorem of_cases (k m : Int) (z : List UInt8) : (¬ OkC k m) ∨ (OkC k m ∧ ¬ (z.length : Int) = k + m) ∨ (OkC k m ∧ (z.length : Int) = k + m) := by
  by_cases h : OkC k m
  · by_cases h2 : (z.length : Int) = k + m
    · exact Or.inr (Or.inr ⟨h, h2⟩)
    · exact Or.inr (Or.inl ⟨h, h2⟩)
  · exact Or.inl h
def wtX (k m : Int) : Int := if OkC k m then 0 else 50
def wtR (k m : Int) : List UInt8 := if OkC k m then upto (wtF k.toNat m.toNat) (k.toNat + m.toNat) else []
theorem wtX_bad {k m : Int} (h : ¬ OkC k m) : wtX k m = 50 ∧ wtR k m = [] := ⟨if_neg h, if_neg h⟩
theorem wtX_ok {k m : Nat} (h : OkC k m) : wtX k m = 0 ∧ wtR k m = upto (wtF k m) (k + m) := ⟨if_pos h, if_pos h⟩

end Go.Proofs.Ytjgeipmfdmdmkaa.Gf

/-
  THE FIELD's PRODUCTS BY CONTRACT, on a field that stands in memory; the world stands, but for draws.
-/

namespace Go.Proofs.Ytjgeipmfdmdmkaa.Gf
set_option linter.unusedVariables false
open Go.RowKit

set_option maxRecDepth 100000 in
theorem filled_any (b : Nat) (w : World) (hF : FieldAt w b) :
    Calls Try.prog 35 #[.pointer (some ⟨b, 0, none⟩)] w fun e w' => e = .returned (.pointer (some ⟨b, 0, none⟩)) ∧ w' = w := by
  have h0 : w.cell? ⟨b, 0, none⟩ = some (.int .u8 1) := by rw [hF.powers 0 (by omega), pw_zero]; rfl
  go_enter Try.func35, Try.ntmps35
  go_wp2
  go_ret
  exact ⟨rfl, rfl⟩

set_option maxRecDepth 100000 in
theorem mul_zero_l (b c : Nat) (w : World) :
    Calls Try.prog 22 #[.pointer (some ⟨b, 0, none⟩), .int .u8 0, .int .u8 c] w fun e w' => e = .returned (.int .u8 0) ∧ w' = w := by
  go_enter Try.func22, Try.ntmps22
  go_wp2
  go_ret
  exact ⟨rfl, rfl⟩

set_option maxRecDepth 100000 in
theorem mul_zero_r (b a : Nat) (w : World) (ha : a ≠ 0) :
    Calls Try.prog 22 #[.pointer (some ⟨b, 0, none⟩), .int .u8 a, .int .u8 0] w fun e w' => e = .returned (.int .u8 0) ∧ w' = w := by
  go_enter Try.func22, Try.ntmps22
  go_wp2
  go_ret
  exact ⟨rfl, rfl⟩

set_option maxRecDepth 100000 in
set_option maxHeartbeats 1000000 in
theorem mul_main (b a c : Nat) (w : World) (hF : FieldAt w b) (ha0 : a ≠ 0) (hc0 : c ≠ 0) (ha : a < 256) (hc : c < 256) :
    Calls Try.prog 22 #[.pointer (some ⟨b, 0, none⟩), .int .u8 a, .int .u8 c] w fun e w' => e = .returned (.int .u8 (pw ((lg a + lg c) % 255) : Nat)) ∧ ∃ n, w' = w.drewN n := by
  have ka : ((a : Int) == 0) = false := by simpa using ha0
  have kc : ((c : Int) == 0) = false := by simpa using hc0
  have h1 := hF.places a ha
  have h2 := hF.places c hc
  have l1 := lg_lt ha
  have l2 := lg_lt hc
  have h3 := hF.powers ((lg a + lg c) % 255) (Nat.mod_lt _ (by decide))
  go_enter Try.func22, Try.ntmps22
  go_wp2_with (go_at_call 35; go_must (refine (filled_any b _ hF).mono ?_); rintro e w' ⟨rfl, rfl⟩)
  go_quiet (fail)
  go_wp2
  go_ret
  exact ⟨rfl, _, rfl⟩

theorem mul_any (b a c : Nat) (w : World) (hF : FieldAt w b) (ha : a < 256) (hc : c < 256) :
    Calls Try.prog 22 #[.pointer (some ⟨b, 0, none⟩), .int .u8 a, .int .u8 c] w fun e w' => e = .returned (.int .u8 (mulS a c : Nat)) ∧ ∃ n, w' = w.drewN n := by
  by_cases ha0 : a = 0
  · subst ha0
    exact (mul_zero_l b c w).mono fun e w' ⟨he, hw⟩ => ⟨by rw [he]; simp [mulS], 0, hw⟩
  · by_cases hc0 : c = 0
    · subst hc0
      exact (mul_zero_r b a w ha0).mono fun e w' ⟨he, hw⟩ => ⟨by rw [he]; simp [mulS], 0, hw⟩
    · exact (mul_main b a c w hF ha0 hc0 ha hc).mono fun e w' ⟨he, hw⟩ => ⟨by rw [he]; simp [mulS, ha0, hc0], hw⟩

theorem FieldAt.drewN {w : World} {b : Nat} (h : FieldAt w b) (n : Nat) : FieldAt (w.drewN n) b := h.own ((Own.refl w).drewN n)

/-! The same, at numbers that are written as they stand (the walk then need not see that a number is a cast one). -/
theorem mul_at {b : Nat} {x y : Int} {w : World} (hF : FieldAt w b) (a c : Nat) (hx : x = a) (hy : y = c) (ha : a < 256) (hc : c < 256) :
    Calls Try.prog 22 #[.pointer (some ⟨b, 0, none⟩), .int .u8 x, .int .u8 y] w fun e w' => e = .returned (.int .u8 (mulS a c : Nat)) ∧ ∃ n, w' = w.drewN n := by
  subst hx hy; exact mul_any b a c w hF ha hc

end Go.Proofs.Ytjgeipmfdmdmkaa.Gf

/-
  A PRODUCT OF BYTES BY CONTRACT.
-/

namespace Go.Proofs.Ytjgeipmfdmdmkaa.Gf
set_option linter.unusedVariables false
set_option linter.unusedSimpArgs false
open Go.RowKit

theorem fmu_quiet {b : Nat} {w : World} (hF : FieldAt w b) (a c : UInt8) {x y : Int} (hx : x = ((a.toNat : Nat) : Int)) (hy : y = ((c.toNat : Nat) : Int)) :
    Calls Try.prog 22 #[.pointer (some ⟨b, 0, none⟩), .int .u8 x, .int .u8 y] w fun e w' => e = .returned (.int .u8 ((mu a c).toNat : Nat)) ∧ ∃ n, w' = w.drewN n := by
  rw [mu_toNat]
  exact mul_at hF a.toNat c.toNat hx hy (u8_lt a) (u8_lt c)

end Go.Proofs.Ytjgeipmfdmdmkaa.Gf

/-
  PLAIN MATHEMATICS: powers and inverses by logarithms. No program is named here.
-/

namespace Go.Proofs.Ytjgeipmfdmdmkaa.Gf
set_option linter.unusedVariables false

/-- n, less multiples of 255. -/
def tn (n : Int) : Nat := (n % 255).toNat

theorem tn_lt (n : Int) : tn n < 255 := by unfold tn; omega

theorem tn_cast (n : Int) : ((tn n : Nat) : Int) = n % 255 := by unfold tn; omega

def powV (a : Nat) (n : Int) : Nat := if n = 0 then 1 else if a = 0 then 0 else pw ((lg a * tn n) % 255)

def powE (a : Nat) (n : Int) : Nat := if n < 0 ∧ a = 0 then 10 else 0

theorem tn_neg : tn (-1) = 254 := by kernel_rfl

theorem powV_inv {a : Nat} (h : a ≠ 0) : powV a (-1) = invS a := by
  unfold powV invS; rw [if_neg (by omega), if_neg h, if_neg h, tn_neg]

theorem powE_inv {a : Nat} (h : a ≠ 0) : powE a (-1) = 0 := by simp [powE, h]

theorem powV_lt (a : Nat) (n : Int) : powV a n < 256 := by
  unfold powV; split
  · omega
  · split
    · omega
    · exact pw_lt _

theorem powV_pos {a : Nat} (h : a ≠ 0) (n : Int) : powV a n = pw (lg a * tn n % 255) := by
  unfold powV
  by_cases e : n = 0
  · subst e
    rw [if_pos rfl, show tn 0 = 0 from rfl, Nat.mul_zero, Nat.zero_mod, pw_zero]
  · rw [if_neg e, if_neg h]

theorem powE_pos {a : Nat} (h : a ≠ 0) (n : Int) : powE a n = 0 := by simp [powE, h]

theorem powV_ne {a : Nat} (h : a ≠ 0) (n : Int) : powV a n ≠ 0 := by
  rw [powV_pos h]
  have := pw_pos (Nat.mod_lt (lg a * tn n) (by decide : 0 < 255))
  omega

theorem lg_powV {a : Nat} (h : a ≠ 0) (n : Int) : lg (powV a n) = lg a * tn n % 255 := by
  rw [powV_pos h, lg_pw (Nat.mod_lt _ (by decide))]

theorem tn_add (m n : Int) : tn (m + n) = (tn m + tn n) % 255 := by unfold tn; omega

theorem powV_add {a : Nat} (h : a ≠ 0) (m n : Int) : mulS (powV a m) (powV a n) = powV a (m + n) := by
  rw [mulS_pos (powV_ne h m) (powV_ne h n), lg_powV h, lg_powV h, powV_pos h, tn_add]
  congr 1
  rw [← Nat.add_mod, ← Nat.mul_add, Nat.mul_mod, Nat.mul_mod (lg a) ((tn m + tn n) % 255), Nat.mod_mod]

theorem powV_turn {a : Nat} (h : a ≠ 0) (m : Int) : powV a (m + 255) = powV a m := by
  rw [powV_pos h, powV_pos h]
  have : tn (m + 255) = tn m := by unfold tn; omega
  rw [this]

theorem lg_two : lg 2 = 1 := by kernel_rfl

theorem powV_lg {a : Nat} (h : a < 256) (h0 : a ≠ 0) : powV 2 (lg a : Nat) = a := by
  have l := lg_lt h
  have : tn (lg a : Nat) = lg a := by unfold tn; omega
  rw [powV_pos (by decide), lg_two, this, Nat.one_mul, Nat.mod_eq_of_lt l, pw_lg h h0]

theorem powV_m1 (a : Nat) : powV a (-1) = invS a := by
  by_cases h : a = 0
  · subst h; rfl
  · exact powV_inv h

theorem powE_m1 (a : Nat) : powE a (-1) = zE a := by
  by_cases h : a = 0
  · subst h; rfl
  · rw [powE_inv h, zE_pos h]

end Go.Proofs.Ytjgeipmfdmdmkaa.Gf

/-
  THE FIELD's POWERS AND INVERSES BY CONTRACT, on a field that stands in memory; the world stands, but for draws.
-/

namespace Go.Proofs.Ytjgeipmfdmdmkaa.Gf
set_option linter.unusedVariables false
open Go.RowKit

set_option maxRecDepth 100000 in
theorem turns_any (n : Int) (w : World) (h1 : -9223372036854775808 ≤ n) (h2 : n ≤ 9223372036854775807) :
    Calls Try.prog 48 #[.int .i64 n] w fun e w' => e = .returned (.int .i64 (tn n : Nat)) ∧ w' = w := by
  have hb : -255 < n.tmod 255 ∧ n.tmod 255 < 255 := ⟨Int.lt_tmod_of_pos n (by omega), Int.tmod_lt_of_pos n (by omega)⟩
  have hq := Int.mul_tdiv_add_tmod n 255
  have E : Hid ((n.tmod 255 + 255) % 255 = (tn n : Nat)) := by rw [tn_cast]; show _ = _; omega
  clear hq
  obtain ⟨b1, b2⟩ := hb
  go_enter Try.func48, Try.ntmps48
  go_wp2
  go_ret
  exact ⟨ret_int E.out, rfl⟩

set_option maxRecDepth 100000 in
set_option maxHeartbeats 1000000 in
theorem pow_main (b a : Nat) (n : Int) (w : World) (hF : FieldAt w b) (ha0 : a ≠ 0) (hn0 : n ≠ 0) (ha : a < 256) (h1 : -9223372036854775808 ≤ n) (h2 : n ≤ 9223372036854775807) :
    Calls Try.prog 43 #[.pointer (some ⟨b, 0, none⟩), .int .u8 a, .int .i64 n] w fun e w' => e = .returned (.tuple #[.int .u8 (pw ((lg a * tn n) % 255) : Nat), .int .i64 0]) ∧ ∃ n, w' = w.drewN n := by
  have ka : ((a : Int) == 0) = false := by simpa using ha0
  have kn : (n == 0) = false := by simpa using hn0
  have p1 := hF.places a ha
  have l1 := lg_lt ha
  have l2 := tn_lt n
  have l3 : (lg a : Int) * (tn n : Int) ≤ 64516 := by
    have : lg a * tn n ≤ 254 * 254 := Nat.mul_le_mul (by omega) (by omega)
    have e : ((lg a * tn n : Nat) : Int) = (lg a : Int) * (tn n : Int) := by simp
    omega
  have l4 : 0 ≤ (lg a : Int) * (tn n : Int) := Int.mul_nonneg (by omega) (by omega)
  have p3 := hF.powers ((lg a * tn n) % 255) (Nat.mod_lt _ (by decide))
  go_enter Try.func43, Try.ntmps43
  go_wp2_with (go_at_call 35; go_must (refine (filled_any b _ hF).mono ?_); rintro e w' ⟨rfl, rfl⟩)
  go_quiet ((go_at_call 48; exact Calls.quiet_of_same (turns_any n _ h1 h2)))
  go_wp2
  go_ret2
  exact ⟨rfl, _, rfl⟩

set_option maxRecDepth 100000 in
theorem pow_nought (b a : Nat) (w : World) :
    Calls Try.prog 43 #[.pointer (some ⟨b, 0, none⟩), .int .u8 a, .int .i64 0] w fun e w' => e = .returned (.tuple #[.int .u8 1, .int .i64 0]) ∧ w' = w := by
  go_enter Try.func43, Try.ntmps43
  go_wp2
  go_ret2
  exact ⟨rfl, rfl⟩

set_option maxRecDepth 100000 in
theorem pow_zero_neg (b : Nat) (n : Int) (w : World) (hn : n < 0) :
    Calls Try.prog 43 #[.pointer (some ⟨b, 0, none⟩), .int .u8 0, .int .i64 n] w fun e w' => e = .returned (.tuple #[.int .u8 0, .int .i64 10]) ∧ w' = w := by
  have kn : (n == 0) = false := by simp; omega
  go_enter Try.func43, Try.ntmps43
  go_wp2
  go_ret2
  exact ⟨rfl, rfl⟩

set_option maxRecDepth 100000 in
theorem pow_zero_pos (b : Nat) (n : Int) (w : World) (hn : 0 < n) :
    Calls Try.prog 43 #[.pointer (some ⟨b, 0, none⟩), .int .u8 0, .int .i64 n] w fun e w' => e = .returned (.tuple #[.int .u8 0, .int .i64 0]) ∧ w' = w := by
  have kn : (n == 0) = false := by simp; omega
  go_enter Try.func43, Try.ntmps43
  go_wp2
  go_ret2
  exact ⟨rfl, rfl⟩

theorem pow_any (b a : Nat) (n : Int) (w : World) (hF : FieldAt w b) (ha : a < 256) (h1 : -9223372036854775808 ≤ n) (h2 : n ≤ 9223372036854775807) :
    Calls Try.prog 43 #[.pointer (some ⟨b, 0, none⟩), .int .u8 a, .int .i64 n] w fun e w' => e = .returned (.tuple #[.int .u8 (powV a n : Nat), .int .i64 (powE a n : Nat)]) ∧ ∃ n, w' = w.drewN n := by
  by_cases hn0 : n = 0
  · subst hn0
    exact (pow_nought b a w).mono fun e w' ⟨he, hw⟩ => ⟨by rw [he]; simp [powV, powE], 0, hw⟩
  · by_cases ha0 : a = 0
    · subst ha0
      by_cases hneg : n < 0
      · exact (pow_zero_neg b n w hneg).mono fun e w' ⟨he, hw⟩ => ⟨by rw [he]; simp [powV, powE, hn0, hneg], 0, hw⟩
      · exact (pow_zero_pos b n w (by omega)).mono fun e w' ⟨he, hw⟩ => ⟨by rw [he]; simp [powV, powE, hn0, hneg], 0, hw⟩
    · exact (pow_main b a n w hF ha0 hn0 ha h1 h2).mono fun e w' ⟨he, hw⟩ => ⟨by rw [he]; simp [powV, powE, hn0, ha0], hw⟩

set_option maxRecDepth 100000 in
theorem inv_any (b a : Nat) (w : World) (hF : FieldAt w b) (ha : a < 256) :
    Calls Try.prog 37 #[.pointer (some ⟨b, 0, none⟩), .int .u8 a] w fun e w' => e = .returned (.tuple #[.int .u8 (powV a (-1) : Nat), .int .i64 (powE a (-1) : Nat)]) ∧ ∃ n, w' = w.drewN n := by
  go_enter Try.func37, Try.ntmps37
  go_wp2_with (go_at_call 43; go_must (refine (pow_any b a (-1) _ hF ha (by omega) (by omega)).mono ?_); rintro e w' ⟨rfl, nd, rfl⟩)
  go_ret2
  exact ⟨rfl, _, rfl⟩

theorem pow_at {b : Nat} {x : Int} {w : World} (hF : FieldAt w b) (a : Nat) (n : Int) (hx : x = a) (ha : a < 256) (h1 : -9223372036854775808 ≤ n) (h2 : n ≤ 9223372036854775807) :
    Calls Try.prog 43 #[.pointer (some ⟨b, 0, none⟩), .int .u8 x, .int .i64 n] w fun e w' => e = .returned (.tuple #[.int .u8 (powV a n : Nat), .int .i64 (powE a n : Nat)]) ∧ ∃ n, w' = w.drewN n := by
  subst hx; exact pow_any b a n w hF ha h1 h2

theorem inv_at {b : Nat} {x : Int} {w : World} (hF : FieldAt w b) (a : Nat) (hx : x = a) (ha : a < 256) :
    Calls Try.prog 37 #[.pointer (some ⟨b, 0, none⟩), .int .u8 x] w fun e w' => e = .returned (.tuple #[.int .u8 (powV a (-1) : Nat), .int .i64 (powE a (-1) : Nat)]) ∧ ∃ n, w' = w.drewN n := by
  subst hx; exact inv_any b a w hF ha

theorem inv_all {b : Nat} {x : Int} {w : World} (hF : FieldAt w b) (a : Nat) (hx : x = a) (ha : a < 256) :
    Calls Try.prog 37 #[.pointer (some ⟨b, 0, none⟩), .int .u8 x] w fun e w' => e = .returned (.tuple #[.int .u8 (invS a : Nat), .int .i64 (zE a : Nat)]) ∧ ∃ n, w' = w.drewN n := by
  rw [← powV_m1, ← powE_m1]
  exact inv_at hF a hx ha

end Go.Proofs.Ytjgeipmfdmdmkaa.Gf

/-
  THE PROGRAM's 'weighing', THE CLOSURE THAT IT MAKES, AND 'addPowers' (package syndrome) BY CONTRACT.
-/


namespace Go.Proofs.Ytjgeipmfdmdmkaa.Gf
set_option linter.unusedVariables false
set_option linter.unusedSimpArgs false
open Go.RowKit

/-- what 'weighing' lays: its three variables -/
structure Wg8 (w : World) (b fb kb mb : Nat) (k m : Int) : Prop where
  cf : w.cell? ⟨fb, 0, none⟩ = some (.pointer (some ⟨b, 0, none⟩))
  ck : w.cell? ⟨kb, 0, none⟩ = some (.int .i64 k)
  cm : w.cell? ⟨mb, 0, none⟩ = some (.int .i64 m)
  lf : fb < w.heap.size
  lk : kb < w.heap.size
  lm : mb < w.heap.size
theorem Wg8.below {w w' : World} {b fb kb mb : Nat} {k m : Int} (h : Wg8 w b fb kb mb k m) (hb : Below w.heap.size w w') : Wg8 w' b fb kb mb k m :=
  ⟨(hb.cell (p := ⟨fb, 0, none⟩) h.lf).trans h.cf, (hb.cell (p := ⟨kb, 0, none⟩) h.lk).trans h.ck, (hb.cell (p := ⟨mb, 0, none⟩) h.lm).trans h.cm, Nat.lt_of_lt_of_le h.lf hb.size, Nat.lt_of_lt_of_le h.lk hb.size, Nat.lt_of_lt_of_le h.lm hb.size⟩

set_option maxRecDepth 100000 in
set_option maxHeartbeats 1000000 in
theorem wg_any {b : Nat} {k m : Int} (w : World) : Calls Try.prog 25 #[.pointer (some ⟨b, 0, none⟩), .int .i64 k, .int .i64 m] w fun e w' =>
    ∃ fb kb mb, e = .returned (.func (.func 36) #[] #[.pointer (some ⟨kb, 0, none⟩), .pointer (some ⟨mb, 0, none⟩), .pointer (some ⟨fb, 0, none⟩)]) ∧ Wg8 w' b fb kb mb k m ∧ Below w.heap.size w w' := by
  go_enter Try.func25, Try.ntmps25
  go_wp2
  go_ret
  refine ⟨w.heap.size, w.heap.size + 1, w.heap.size + 1 + 1, rfl, ⟨by go_simp, by go_simp, by go_simp, by simp <;> omega, by simp <;> omega, by simp <;> omega⟩, by repeat (first | exact Below.refl _ _ | apply below_lit)⟩

set_option maxRecDepth 100000 in
set_option maxHeartbeats 2000000 in
/-- the weight of the shard i -/
theorem wg1_any {w : World} {b fb kb mb k m i : Nat} (hF : FieldAt w b) (hW : Wg8 w b fb kb mb (k : Int) (m : Int)) (hkm : k + m ≤ 256) (hi : i < 256) {x : Int} (hx : x = (i : Int)) :
    Calls Try.prog 36 #[.int .i64 x, .pointer (some ⟨kb, 0, none⟩), .pointer (some ⟨mb, 0, none⟩), .pointer (some ⟨fb, 0, none⟩)] w fun e w' => e = .returned (.int .u8 ((wtF k m i).toNat : Nat)) ∧ ∃ n, w' = w.drewN n := by
  subst hx
  obtain ⟨cf, ck, cm, _, _, _⟩ := hW
  obtain ⟨s, hs⟩ : ∃ s, Hid (s = k + m) := ⟨_, rfl⟩
  have g0 : (k : Int) + (m : Int) = (s : Int) := by have := hs.out; omega
  have hs2 : s ≤ 256 := by have := hs.out; omega
  have gw : IntKind.i64.wrap (s : Int) = (s : Int) := by rw [IntKind.wrap_i64]; omega
  have hks : k ≤ s := by have := hs.out; omega
  clear hkm
  go_enter Try.func36, Try.ntmps36
  go_wp2
  go_loopw [6, 7] (fun p v wr => ∃ t : Nat, k ≤ t ∧ t ≤ s ∧ v = .int .i64 t ∧ p = .int .u8 ((wpd k i (t - k)).toNat : Nat) ∧ ∃ nd, wr = w.drewN nd) (fun _ v _ => s - (intOf v).toNat)
  case atStart => exact ⟨k, by omega, by omega, rfl, by rw [Nat.sub_self]; rfl, 0, rfl⟩
  case round =>
    obtain ⟨t, h1, h2, rfl, rfl, nd, hd0⟩ := hrel
    have hd : Hid (wr = w.drewN nd) := hd0
    have hFr : FieldAt wr b := by rw [hd0]; exact hF.drewN nd
    have cfr : wr.cell? ⟨fb, 0, none⟩ = some (.pointer (some ⟨b, 0, none⟩)) := by rw [hd0]; exact cf
    have ckr : wr.cell? ⟨kb, 0, none⟩ = some (.int .i64 (k : Int)) := by rw [hd0]; exact ck
    have cmr : wr.cell? ⟨mb, 0, none⟩ = some (.int .i64 (m : Int)) := by rw [hd0]; exact cm
    clear hd0 hF cf ck cm
    by_cases hlt : t < s
    · have hlt' : (t : Int) < (s : Int) := by omega
      by_cases e : t = i
      · have hn : ((t : Int) != (i : Int)) = false := by simp [e]
        have HP : Hid (wpd k i (t + 1 - k) = wpd k i (t - k)) := by
          show _ = _
          rw [show t + 1 - k = (t - k) + 1 by omega, wpd_self (by omega)]
        clear e
        go_wp2
        go_roundw
        case rel => exact ⟨t + 1, by omega, by omega, by go_num, by rw [HP.out], nd, by first | exact hd.out | rfl⟩
        case measure => simp [intOf]; omega
      · have hn : ((t : Int) != (i : Int)) = true := by simp; omega
        have ht2 : t < 256 := by omega
        have m1 : (t : Int) % 256 = (t : Int) := by omega
        have m2 : (i : Int) % 256 = (i : Int) := by omega
        have X := pt_xor hi ht2
        have HP : Hid (wpd k i (t + 1 - k) = mu (wpd k i (t - k)) (pt i ^^^ pt t)) := by
          show _ = _
          rw [show t + 1 - k = (t - k) + 1 by omega, wpd_next (by omega), show k + (t - k) = t by omega]
        obtain ⟨u, hu⟩ : ∃ u, Hid (u = pt i ^^^ pt t) := ⟨_, rfl⟩
        rw [← hu.out] at X HP
        obtain ⟨q, hq⟩ : ∃ q, Hid (q = wpd k i (t - k)) := ⟨_, rfl⟩
        rw [← hq.out] at HP ⊢
        clear e
        go_wp2_with fail
        refine (fmu_quiet hFr q u rfl rfl).mono ?_
        rintro e w2 ⟨rfl, n2, hw2⟩
        have hw : Hid _ := hw2
        clear hw2
        go_wp2
        go_roundw
        case rel => exact ⟨t + 1, by omega, by omega, by go_num, by rw [HP.out], nd + n2, by rw [hw.out, hd.out, World.drewN_drewN]⟩
        case measure => simp [intOf]; omega
    · have e : t = s := by omega
      subst e
      have hge : ¬ (t : Int) < (t : Int) := by omega
      have HW : Hid (((wtF k m i).toNat : Nat) = invS (wpd k i (t - k)).toNat) := by
        show _ = _
        unfold wtF
        rw [iv_toNat, show t - k = m by have := hs.out; omega]
      obtain ⟨q, hq⟩ : ∃ q, Hid (q = wpd k i (t - k)) := ⟨_, rfl⟩
      rw [← hq.out] at HW ⊢
      go_wp2_with fail
      refine (inv_all hFr q.toNat rfl (u8_lt q)).mono ?_
      rintro e w2 ⟨rfl, n2, hw2⟩
      have hw : Hid _ := hw2
      clear hw2
      go_wp2
      go_ret
      exact ⟨by rw [HW.out]; rfl, nd + n2, by rw [hw.out, hd.out, World.drewN_drewN]⟩

/-- what is added to a row of sums, up to n -/
def apR (f : Nat → UInt8) (a p : UInt8) (n t : Nat) : UInt8 := if t < n then f t ^^^ nmF a p t else f t
theorem apR_zero (f : Nat → UInt8) (a p : UInt8) : apR f a p 0 = f := by funext t; exact if_neg (Nat.not_lt_zero _)
theorem apR_step (f : Nat → UInt8) (a p : UInt8) (n t : Nat) : apR f a p (n + 1) t = if t = n then f n ^^^ nmF a p n else apR f a p n t := by
  unfold apR
  by_cases e : t = n
  · subst e; rw [if_pos (by omega), if_pos rfl]
  · rw [if_neg e]
    by_cases h : t < n
    · rw [if_pos h, if_pos (by omega)]
    · rw [if_neg h, if_neg (by omega)]

set_option maxRecDepth 100000 in
set_option maxHeartbeats 2000000 in
/-- a number times a point's powers is added to a row of sums -/
theorem apw_any {w : World} {base u g n c b : Nat} {f : Nat → UInt8} (a p : UInt8) (hF : FieldAt w b) (hbg : b ≠ g) (hR : RowF w base u g n c f) (hL : n ≤ 1000000) {x y : Int} (hx : x = ((a.toNat : Nat) : Int)) (hy : y = ((p.toNat : Nat) : Int)) :
    Calls Try.prog 28 #[.pointer (some ⟨b, 0, none⟩), .slice (some ⟨g, 0, none⟩) n c, .int .u8 x, .int .u8 y] w fun e w' => e = .returned (.tuple #[]) ∧ Only g w w' ∧ RowF w' base u g n c (apR f a p n) := by
  subst hx hy
  go_enter Try.func28, Try.ntmps28
  go_wp2
  go_loopw [2, 11] (fun v i wr => ∃ l : Nat, l ≤ n ∧ i = .int .i64 l ∧ v = .int .u8 ((nmF a p l).toNat : Nat) ∧ Only g w wr ∧ RowF wr base u g n c (apR f a p l)) (fun _ i _ => n - (intOf i).toNat)
  case atStart => exact ⟨0, by omega, rfl, rfl, Only.refl _ _, by rw [apR_zero]; exact hR⟩
  case round =>
    obtain ⟨l, hl, rfl, rfl, hO, hRl⟩ := hrel
    by_cases hlt : l < n
    · have hlt' : (l : Int) < (n : Int) := by omega
      have c1 := hRl.cell hlt
      have f1 := hRl.unfrozen l
      have e1 : apR f a p l l = f l := if_neg (by omega)
      rw [e1] at c1
      obtain ⟨q, hq⟩ : ∃ q, Hid (q = nmF a p l) := ⟨_, rfl⟩
      have HQ : Hid (nmF a p (l + 1) = mu q p) := by show _ = _; rw [hq.out]; rfl
      have E := xor_u8 (f l) q
      have HN : Hid (RowF (wr.setCell ⟨g, l, none⟩ (.int .u8 (((f l).toNat ^^^ q.toNat : Nat) : Int))) base u g n c (apR f a p (l + 1))) := by
        rw [← UInt8.toNat_xor]
        exact hRl.store hlt _ fun s => by rw [hq.out]; exact apR_step _ _ _ _ _
      have HO : Hid (Only g w (wr.setCell ⟨g, l, none⟩ (.int .u8 (((f l).toNat ^^^ q.toNat : Nat) : Int)))) := hO.setCell l _
      have hFr := hF.only hbg HO.out
      rw [← hq.out]
      clear hRl hO hR e1 hF
      go_wp2_with fail
      refine (fmu_quiet hFr q p rfl rfl).mono ?_
      rintro e w2 ⟨rfl, n2, hw2⟩
      have HN2 : Hid (RowF w2 base u g n c (apR f a p (l + 1))) := by rw [hw2]; exact HN.out.drewN _
      have HO2 : Hid (Only g w w2) := by rw [hw2]; exact HO.out.drewN _
      clear hw2 HN HO hFr c1 f1
      go_wp2
      go_roundw
      case rel => exact ⟨l + 1, by omega, by go_num, by rw [HQ.out], HO2.out, HN2.out⟩
      case measure => simp [intOf]; omega
    · have e : l = n := by omega
      subst e
      have hge : ¬ (l : Int) < (l : Int) := by omega
      go_wp2
      go_end0
      exact ⟨rfl, hO, hRl⟩

end Go.Proofs.Ytjgeipmfdmdmkaa.Gf

