/- TEXTS JOINED: BkPut, BkUy, CaLaws, BkLin, ErMath, ErRd, PoAppend, ErOwn. -/
import Derived.Test.YtchfonofjbpmaaaTome3
import Derived.Test.YtchfonofjbpmaaaTome2
import Derived.Test.YtchfonofjbpmaaaTome1
import Derived.Laws.AppendOwnNone
/-
  SHARDS OF THE CALL'S OWN INTO WHOSE PLACES OTHERS ARE STORED; literals of shards. No program's function is named here.
-/

namespace Go.Proofs.Ytchfonofjbpmaaa.Gf
set_option linter.unusedVariables false
set_option linter.unusedSimpArgs false
open Go.RowKit

/-- a literal of shards -/
theorem rs_lit {w : World} {cs : Array Value} {e n b : Nat} {L : List (List UInt8)} (hb : b = w.heap.size) (hn : n = L.length) (hl : n ≤ 1000000) (h : ∀ i, i < L.length → ∃ x, cs[i]? = some x ∧ Rd w x (ro L i)) : Rs (w.alloc (.cells cs e)) (.slice (some ⟨b, 0, none⟩) n n) L := by
  subst hb hn
  refine ⟨some ⟨w.heap.size, 0, none⟩, L.length, rfl, Nat.le_refl _, by unfold maxLen; omega, nofun, fun i hi => ?_⟩
  obtain ⟨x, h1, h2⟩ := h i hi
  exact ⟨w.heap.size, 0, x, rfl, by simp, by rw [Nat.zero_add, World.cell?_alloc_new]; exact h1, h2.below ((Below.refl _ _).alloc (Nat.le_refl _) _)⟩
theorem rs_lit1 {w : World} {x : Value} {e b : Nat} {p : List UInt8} (hb : b = w.heap.size) (h : Rd w x p) : Rs (w.alloc (.cells #[x] e)) (.slice (some ⟨b, 0, none⟩) 1 1) [p] :=
  rs_lit hb rfl (by decide) fun i hi => by
    rcases i with _ | i
    · exact ⟨x, rfl, h⟩
    · simp at hi
theorem rs_lit2 {w : World} {x y : Value} {e b : Nat} {p q : List UInt8} (hb : b = w.heap.size) (h : Rd w x p) (h2 : Rd w y q) : Rs (w.alloc (.cells #[x, y] e)) (.slice (some ⟨b, 0, none⟩) 2 2) [p, q] :=
  rs_lit hb rfl (by decide) fun i hi => by
    rcases i with _ | _ | i
    · exact ⟨x, rfl, h⟩
    · exact ⟨y, rfl, h2⟩
    · simp at hi; omega
/-- what a store of a slice to its place leaves -/
theorem Os.spot {wr w1 : World} {base T u G n C : Nat} {L : List (List UInt8)} (h : Os wr base T u (.slice (some ⟨G, 0, none⟩) n C) L) (b1 : Below wr.heap.size wr w1) {i : Nat} (hi : i < L.length) :
    ∃ y, w1.cell? ⟨G, i, none⟩ = some y ∧ w1.frozen? ⟨G, i, none⟩ = false ∧ G < w1.heap.size ∧ base ≤ G ∧ G < wr.heap.size := by
  obtain ⟨vals, hv, hr⟩ := h
  have hl : vals.length = L.length := by have := hv.1; omega
  have hG := World.ownsRow.lt hv G rfl
  have hv1 := owns_later hv b1
  have hn : n = L.length := by
    obtain ⟨_, ⟨e, _⟩ | ⟨g, cap, cur, e, _⟩⟩ := hv <;> simp at e
    exact e.2.1
  subst hn
  exact ⟨vals[i], by rw [World.ownsRow.cellAt hv1 i (by omega)]; exact List.getElem?_eq_getElem (by omega), World.ownsRow.frozenAt hv1 i, Nat.lt_of_lt_of_le hG.2 b1.size, hG.1, hG.2⟩
theorem grown_set (w : World) (g n : Nat) (x : Value) : w.grownBy (w.setCell ⟨g, n, none⟩ x) (some g) := by
  have O := (Only.refl g w).setCell n x
  exact ⟨O.os, O.tape, O.output, by rw [O.size]; exact Nat.le_refl _, fun q _ hq => O.block q (fun e => hq (by rw [e]))⟩
theorem Only.grown {g : Nat} {w w' : World} (O : Only g w w') : w.grownBy w' (some g) :=
  ⟨O.os, O.tape, O.output, by rw [O.size]; exact Nat.le_refl _, fun q _ hq => O.block q (fun e => hq (by rw [e]))⟩
/-- a shard of the call's own, stored to its place, and then told anew in its block g -/
theorem Os.put {wr w1 w3 : World} {base T u G n C g : Nat} {x : Value} {L : List (List UInt8)} {p : List UInt8} (h : Os wr base T u (.slice (some ⟨G, 0, none⟩) n C) L) (b1 : Below wr.heap.size wr w1) {i : Nat} (hi : i < L.length) (hx : x.ownBlock = some g) (hg : wr.heap.size ≤ g)
    (O : Only g (w1.setCell ⟨G, i, none⟩ x) w3) (hp : OwnP w3 base u x p) : Os w3 base T u (.slice (some ⟨G, 0, none⟩) n C) (L.set i p) := by
  obtain ⟨vals, hv, hr⟩ := h
  have hl : vals.length = L.length := by have := hv.1; omega
  have hG := World.ownsRow.lt hv G rfl
  have hv1 := owns_later hv b1
  have hn : n = L.length := by
    obtain ⟨_, ⟨e, _⟩ | ⟨g, cap, cur, e, _⟩⟩ := hv <;> simp at e
    exact e.2.1
  subst hn
  obtain ⟨v8, g8⟩ := World.ownsRow.stored hv1 i x
  have old : ∀ (j : Nat) (y : Value), vals[j]? = some y → ∀ k, y.ownBlock = some k → k < wr.heap.size := fun j y hy k hk => ((hr.own j y hy).lt hk).2
  have sets : ∀ (j : Nat) (y : Value), (vals.set i x)[j]? = some y → (j = i ∧ y = x) ∨ (j ≠ i ∧ vals[j]? = some y) := fun j y hy => by
    by_cases e : j = i
    · subst e
      rw [List.getElem?_set_self (by omega)] at hy
      exact Or.inl ⟨rfl, by cases hy; rfl⟩
    · rw [List.getElem?_set_ne (fun h => e h.symm)] at hy
      exact Or.inr ⟨e, hy⟩
  refine ⟨vals.set i x, by rw [List.length_set]; exact World.ownsRow.kept v8 O.grown (Or.inr (by simp [Value.ownBlock]; omega)), ⟨fun j y hy => ?_, fun j l y z hy hz hjl => ?_, fun j y hy => ?_⟩⟩
  · rw [ro_set hi]
    rcases sets j y hy with ⟨rfl, rfl⟩ | ⟨e, hy⟩
    · rw [if_pos rfl]; exact hp
    · rw [if_neg e]
      exact OwnP.kept (OwnP.kept (owns_later (hr.own j y hy) b1) g8 (hr.out j y hy)) O.grown (block_apart (old j y hy) (fun k e => by cases e; exact hg))
  · rcases sets j y hy with ⟨ej, ey⟩ | ⟨ej, hy'⟩
    · rcases sets l z hz with ⟨el, ez⟩ | ⟨el, hz'⟩
      · exact absurd (ej.trans el.symm) hjl
      · rw [ey]; exact block_apart' (s := wr.heap.size) (fun k hk => by rw [hx] at hk; cases hk; exact hg) (old l z hz')
    · rcases sets l z hz with ⟨el, ez⟩ | ⟨el, hz'⟩
      · rw [ez]; exact block_apart (old j y hy') (fun k hk => by rw [hx] at hk; cases hk; exact hg)
      · exact hr.diff j l y z hy' hz' hjl
  · rcases sets j y hy with ⟨rfl, rfl⟩ | ⟨e, hy⟩
    · right; rw [hx]; simp [Value.ownBlock]; omega
    · exact hr.out j y hy
/-- any slice stored to a place: what is read then -/
theorem Os.setRd {w : World} {base T u G n C : Nat} {x : Value} {L : List (List UInt8)} {p : List UInt8} (h : Os w base T u (.slice (some ⟨G, 0, none⟩) n C) L) {i : Nat} (hi : i < L.length) (hx : Rd w x p) (ha : Apart G x) : Rs (w.setCell ⟨G, i, none⟩ x) (.slice (some ⟨G, 0, none⟩) n C) (L.set i p) := by
  have hrs := h.rs
  obtain ⟨vals, hv, hr⟩ := h
  have hl : vals.length = L.length := by have := hv.1; omega
  have hG := World.ownsRow.lt hv G rfl
  obtain ⟨a, c, e, h1, h2, h3, h4⟩ := hrs
  simp at e
  obtain ⟨e1, e2, e3⟩ := e
  subst e1 e2 e3
  have g8 := grown_set w G i x
  refine ⟨some ⟨G, 0, none⟩, C, by rw [List.length_set], by rw [List.length_set]; exact h1, h2, nofun, fun j hj => ?_⟩
  rw [List.length_set] at hj
  rw [ro_set hi]
  by_cases ej : j = i
  · subst ej
    rw [if_pos rfl]
    obtain ⟨b, off, y, k1, k2, k3, k4⟩ := h4 j hj
    simp at k1
    obtain ⟨rfl, rfl⟩ := k1
    refine ⟨G, 0, x, rfl, by simpa using k2, ?_, hx.grown g8 ha⟩
    rw [Nat.zero_add] at k3 ⊢
    exact World.cell?_setCell_same w ⟨G, j, none⟩ x k3
  · rw [if_neg ej]
    have hy : vals[j]? = some vals[j] := List.getElem?_eq_getElem (by omega)
    refine ⟨G, 0, vals[j], rfl, by simpa using hG.2, ?_, Rd.owned (OwnP.kept (hr.own j _ hy) g8 (hr.out j _ hy))⟩
    rw [Nat.zero_add, World.cell?_setCell_other w ⟨G, i, none⟩ ⟨G, j, none⟩ x (by simp <;> omega), World.ownsRow.cellAt hv j (by omega), hy]
/-- 'make' of shards: none of them -/
theorem Os.blank {w : World} {base T u G n : Nat} {cs : List Value} (hv : w.ownsRow base T 1 (.slice (some ⟨G, 0, none⟩) n n) n cs) (hc : ∀ y ∈ cs, y = .slice none 0 0) : Os w base T u (.slice (some ⟨G, 0, none⟩) n n) (mkL n (fun _ => [])) := by
  have hl : cs.length = n := by have := hv.1; omega
  refine ⟨cs, by rw [mkL_length]; exact hv, ⟨fun i x hx => ?_, fun i j x y hx _ _ => ?_, fun i x hx => ?_⟩⟩
  · have hi : i < n := by
      rcases Nat.lt_or_ge i cs.length with h | h
      · omega
      · rw [List.getElem?_eq_none h] at hx; cases hx
    rw [ro_mkL hi, hc x (List.mem_of_getElem? hx)]
    exact World.ownsRow_nil _ _ _ _
  · left; rw [hc x (List.mem_of_getElem? hx)]; rfl
  · left; rw [hc x (List.mem_of_getElem? hx)]; rfl
/-- the parity shard i, where the data shard j is another one -/
def updR (F : Mx) (j : Nat) (p q : List UInt8) (A : List (List UInt8)) (i : Nat) : List UInt8 := upto (fun t => co (ro A i) t ^^^ mu (F i j) (co p t ^^^ co q t)) (ro A i).length
def updL (m : Nat) (F : Mx) (j : Nat) (p q : List UInt8) (A : List (List UInt8)) : List (List UInt8) := mkL m (updR F j p q A)
/-- the first r of them -/
def updP (m : Nat) (F : Mx) (j : Nat) (p q : List UInt8) (A : List (List UInt8)) (r : Nat) : List (List UInt8) := mkL m (fun i => if i < r then updR F j p q A i else [])
theorem updP_zero (m : Nat) (F : Mx) (j : Nat) (p q : List UInt8) (A : List (List UInt8)) : updP m F j p q A 0 = mkL m (fun _ => []) := mkL_congr fun i hi => if_neg (by omega)
theorem updP_all (m : Nat) (F : Mx) (j : Nat) (p q : List UInt8) (A : List (List UInt8)) : updP m F j p q A m = updL m F j p q A := mkL_congr fun i hi => if_pos hi
theorem updP_step {m : Nat} {F : Mx} {j : Nat} {p q : List UInt8} {A : List (List UInt8)} {r : Nat} (h : r < m) : (updP m F j p q A r).set r (updR F j p q A r) = updP m F j p q A (r + 1) := by
  refine ro_ext (by rw [List.length_set]; unfold updP; rw [mkL_length, mkL_length]) fun i hi => ?_
  rw [List.length_set] at hi
  unfold updP at hi ⊢
  rw [mkL_length] at hi
  rw [ro_set (by rw [mkL_length]; exact h), ro_mkL hi, ro_mkL hi]
  by_cases e : i = r
  · subst e; rw [if_pos rfl, if_pos (by omega)]
  · rw [if_neg e]
    by_cases h2 : i < r
    · rw [if_pos h2, if_pos (by omega)]
    · rw [if_neg h2, if_neg (by omega)]

end Go.Proofs.Ytchfonofjbpmaaa.Gf

/-
  WHAT UPDATING ANSWERS, by its arguments. No program's function is named here.
-/

namespace Go.Proofs.Ytchfonofjbpmaaa.Gf
set_option linter.unusedVariables false
set_option linter.unusedSimpArgs false
open Go.RowKit

def OkU (k m j : Int) (p q : List UInt8) (A : List (List UInt8)) : Prop := (A.length : Int) = m ∧ Even (A ++ [p, q]) ∧ 0 ≤ j ∧ j < k
instance (k m j : Int) (p q : List UInt8) (A : List (List UInt8)) : Decidable (OkU k m j p q A) := inferInstanceAs (Decidable ((A.length : Int) = m ∧ Even (A ++ [p, q]) ∧ 0 ≤ j ∧ j < k))
def updX (k m j : Int) (p q : List UInt8) (A : List (List UInt8)) : Int := if OkC k m then (if OkU k m j p q A then 0 else 60) else 50
def updY (k m j : Int) (p q : List UInt8) (A : List (List UInt8)) : List (List UInt8) := if OkC k m ∧ OkU k m j p q A then updL m.toNat (parF k.toNat) j.toNat p q A else []
theorem updX_bad {k m j : Int} {p q : List UInt8} {A : List (List UInt8)} (h : ¬ OkC k m) : updX k m j p q A = 50 ∧ updY k m j p q A = [] := ⟨if_neg h, if_neg fun e => h e.1⟩
theorem updX_shard {k m j : Int} {p q : List UInt8} {A : List (List UInt8)} (h : OkC k m) (h2 : ¬ OkU k m j p q A) : updX k m j p q A = 60 ∧ updY k m j p q A = [] := ⟨by unfold updX; rw [if_pos h, if_neg h2], if_neg fun e => h2 e.2⟩
theorem updX_ok {k m j : Int} {p q : List UInt8} {A : List (List UInt8)} (h : OkC k m) (h2 : OkU k m j p q A) : updX k m j p q A = 0 ∧ updY k m j p q A = updL m.toNat (parF k.toNat) j.toNat p q A := ⟨by unfold updX; rw [if_pos h, if_pos h2], if_pos ⟨h, h2⟩⟩
theorem small_mem {L : List (List UInt8)} (h : L.length ≤ 300) (h2 : ∀ p ∈ L, p.length ≤ 300) : Small L := ⟨h, fun i => by
  by_cases e : i < L.length
  · rw [ro_lt e]; exact h2 _ (List.getElem_mem e)
  · rw [ro_ge (by omega)]; simp⟩

end Go.Proofs.Ytchfonofjbpmaaa.Gf

/-
  SMALL FACTS OF LAYER 5's STATEMENTS.
-/

namespace Go.Proofs.Ytchfonofjbpmaaa.Gf
set_option linter.unusedVariables false
set_option linter.unusedSimpArgs false
open Go.RowKit

theorem co_flat {r c : Nat} {F : Mx} {i j : Nat} (hi : i < r) (hj : j < c) : co (flat r c F) (i * c + j) = F i j := en_flat F hi hj
/-- the checks' product with the generator, as it lies -/
theorem nought_zero (k m i : Nat) : co (flat m k (mm (k + m) (en (k + m) (flat m (k + m) (chkF k))) (en k (flat (k + m) k (genF k))))) i = 0 := by
  by_cases hi : i < m * k
  · have hk : 0 < k := by
      rcases Nat.eq_zero_or_pos k with e | e
      · rw [e, Nat.mul_zero] at hi; omega
      · exact e
    have h1 : i / k < m := (Nat.div_lt_iff_lt_mul hk).2 hi
    have h2 : i % k < k := Nat.mod_lt _ hk
    have e1 : co (flat m k (mm (k + m) (en (k + m) (flat m (k + m) (chkF k))) (en k (flat (k + m) k (genF k))))) i = mm (k + m) (en (k + m) (flat m (k + m) (chkF k))) (en k (flat (k + m) k (genF k))) (i / k) (i % k) := co_map_range _ hi
    rw [e1, mm_congr (A' := chkF k) (B' := genF k) (fun x hx => en_flat _ h1 hx) (fun x hx => en_flat _ hx h2)]
    exact chk_gen k m h1 h2
  · exact co_ge (by rw [flat_length]; omega)

theorem iv_inj {a b : UInt8} (ha : a ≠ 0) (hb : b ≠ 0) (h : iv a = iv b) : a = b := by
  have h1 := mu_iv ha
  have h2 := mu_iv hb
  rw [← h] at h2
  have e : mu (mu a (iv a)) b = mu a (mu (iv a) b) := mu_assoc _ _ _
  rw [h1, one_mu, mu_comm (iv a) b, h2, mu_one] at e
  exact e.symm
theorem par_row {k i j n : Nat} (h : k + i < 256) (hj : j < k) (hn : n < k) (hne : n ≠ j) : parF k i n ≠ parF k i j := by
  intro e
  have := iv_inj (pt_ne h (by omega) (by omega)) (pt_ne h (by omega) (by omega)) e
  have e2 : pt n = pt j := by
    have h3 := congrArg (pt (k + i) ^^^ ·) this
    simp only [x_cancel] at h3
    exact h3
  exact hne (pt_inj (by omega) (by omega) e2)
theorem par_col {k i j n : Nat} (h : k + i < 256) (h' : k + n < 256) (hj : j < k) (hne : n ≠ i) : parF k n j ≠ parF k i j := by
  intro e
  have := iv_inj (pt_ne h' (by omega) (by omega)) (pt_ne h (by omega) (by omega)) e
  have e2 : pt (k + n) = pt (k + i) := by
    have h3 := congrArg (· ^^^ pt j) this
    simp only [x_assoc, x_self, x_zero] at h3
    exact h3
  exact hne (by have := pt_inj h' h e2; omega)
theorem par_one {k i j : Nat} (h : k + i < 256) (hj : j < k) : mu (parF k i j) (pt (k + i) ^^^ pt j) = 1 := by
  rw [mu_comm]; exact mu_iv (pt_ne h (by omega) (by omega))
theorem par_ne {k i j : Nat} (h : k + i < 256) (hj : j < k) : parF k i j ≠ 0 := by
  intro e
  have := par_one h hj
  rw [e, zero_mu] at this
  cases this

theorem flat_at {r c i : Nat} (F : Mx) (hi : i < r * c) : co (flat r c F) i = F (i / c) (i % c) := co_map_range _ hi
theorem gen_more {k N N1 i : Nat} (h : N1 ≤ N) (hi : i < N1 * k) : co (flat N k (genF k)) i = co (flat N1 k (genF k)) i := by
  rw [flat_at _ hi, flat_at _ (Nat.lt_of_lt_of_le hi (Nat.mul_le_mul_right k h))]
theorem gen_par {k m i : Nat} (hi : i < m * k) : co (flat (k + m) k (genF k)) (k * k + i) = co (flat m k (parF k)) i := by
  have hk : 0 < k := by
    rcases Nat.eq_zero_or_pos k with e | e
    · rw [e, Nat.mul_zero] at hi; omega
    · exact e
  have h1 : k * k + i < (k + m) * k := by rw [Nat.add_mul]; omega
  rw [flat_at _ hi, flat_at _ h1]
  have e1 : (k * k + i) / k = k + i / k := by rw [Nat.mul_comm, Nat.mul_add_div hk]
  have e2 : (k * k + i) % k = i % k := by rw [Nat.mul_add_mod]
  rw [e1, e2]
  unfold genF
  rw [if_neg (Nat.not_lt.2 (Nat.le_add_right _ _)), Nat.add_sub_cancel_left]
theorem par_some {k m i : Nat} (h : k + m ≤ 256) (hi : i < m * k) : co (flat m k (parF k)) i ≠ 0 := by
  have hk : 0 < k := by
    rcases Nat.eq_zero_or_pos k with e | e
    · rw [e, Nat.mul_zero] at hi; omega
    · exact e
  rw [flat_at _ hi]
  have h1 : i / k < m := (Nat.div_lt_iff_lt_mul hk).2 hi
  exact par_ne (by omega) (Nat.mod_lt _ hk)

end Go.Proofs.Ytchfonofjbpmaaa.Gf

/-
  STRIPES ARE LINEAR: the mathematics of layer 6. No program's function is named here.
-/


namespace Go.Proofs.Ytchfonofjbpmaaa.Gf
set_option linter.unusedVariables false
set_option linter.unusedSimpArgs false
open Go.RowKit

/-- lists of shards are told by their lengths and bytes -/
theorem L_ext {L M : List (List UInt8)} (h : L.length = M.length) (h1 : ∀ i, i < L.length → (ro L i).length = (ro M i).length) (h2 : ∀ i n, i < L.length → n < (ro L i).length → co (ro L i) n = co (ro M i) n) : L = M :=
  ro_ext h fun i hi => co_ext (h1 i hi) fun n hn => h2 i n hi hn
theorem enc_row_lt {m k : Nat} {F : Mx} {L : List (List UInt8)} {i : Nat} (h : i < L.length) : ro (encL m k F L) i = ro L i := ro_append_left h
theorem enc_row_ge {m k : Nat} {F : Mx} {L : List (List UInt8)} {i : Nat} (h : i < m) : ro (encL m k F L) (L.length + i) = parR k F L i := by
  unfold encL
  rw [ro_append_right (by omega), show L.length + i - L.length = i by omega, ro_mkL h]
theorem enc_row_ge' {m k : Nat} {F : Mx} {L : List (List UInt8)} {i : Nat} (h : L.length ≤ i) (h2 : i < L.length + m) : ro (encL m k F L) i = parR k F L (i - L.length) := by
  have := enc_row_ge (m := m) (k := k) (F := F) (L := L) (i := i - L.length) (by omega)
  rwa [show L.length + (i - L.length) = i by omega] at this
theorem enc_len {m k : Nat} {F : Mx} {L : List (List UInt8)} (hE : Even L) {i : Nat} (h : i < L.length + m) : (ro (encL m k F L) i).length = (ro L 0).length := by
  by_cases e : i < L.length
  · rw [enc_row_lt e]; exact hE i e
  · rw [enc_row_ge' (by omega) h, parR_length]
theorem enc_even {m k : Nat} {F : Mx} {L : List (List UInt8)} (hE : Even L) (h0 : 0 < L.length) : Even (encL m k F L) := fun i hi => by
  rw [encL_length] at hi
  rw [enc_len hE hi, enc_len hE (by omega)]
theorem enc_small {m k : Nat} {F : Mx} {L : List (List UInt8)} (hE : Even L) (h : L.length + m ≤ 300) (hS : Small L) : Small (encL m k F L) := ⟨by rw [encL_length]; exact h, fun i => by
  by_cases e : i < L.length + m
  · rw [enc_len hE e]; exact hS.2 0
  · rw [ro_ge (by rw [encL_length]; omega)]; simp⟩
theorem enc_take {m k : Nat} {F : Mx} {L : List (List UInt8)} (h : L.length = k) : (encL m k F L).take k = L := by
  unfold encL
  rw [← h]; exact List.take_left
theorem enc_drop {m k : Nat} {F : Mx} {L : List (List UInt8)} (h : L.length = k) : (encL m k F L).drop k = mkL m (parR k F L) := by
  unfold encL
  rw [← h]; exact List.drop_left
theorem wd_add {F : Mx} {A B C : List (List UInt8)} {i k n : Nat} (h : ∀ l, l < k → co (ro C l) n = co (ro A l) n ^^^ co (ro B l) n) : wd F C i k n = wd F A i k n ^^^ wd F B i k n := by
  unfold wd
  rw [← S_xor]
  exact S_congr fun l hl => by rw [h l hl, mu_xor]
theorem addL_length (A B : List (List UInt8)) : (addL A B).length = A.length := mkL_length _ _
theorem addL_row {A B : List (List UInt8)} {i : Nat} (h : i < A.length) : (ro (addL A B) i).length = (ro A i).length := by unfold addL; rw [ro_mkL h, upto_length]
theorem addL_co {A B : List (List UInt8)} {i n : Nat} (h : i < A.length) (hn : n < (ro A i).length) : co (ro (addL A B) i) n = co (ro A i) n ^^^ co (ro B i) n := by
  unfold addL; rw [ro_mkL h, co_upto_in hn]
theorem addL_even {A B : List (List UInt8)} (hE : Even A) : Even (addL A B) := fun i hi => by
  rw [addL_length] at hi
  rw [addL_row hi, addL_row (by omega)]; exact hE i hi
theorem addL_small {A B : List (List UInt8)} (hS : Small A) : Small (addL A B) := ⟨by rw [addL_length]; exact hS.1, fun i => by
  by_cases e : i < A.length
  · rw [addL_row e]; exact hS.2 i
  · rw [ro_ge (by rw [addL_length]; omega)]; simp⟩
theorem enc_add {m k : Nat} {F : Mx} {A B : List (List UInt8)} (hA : A.length = k) (hB : B.length = k) (h0 : 0 < k) (hE : Even A) (hE2 : Even B) (hl : (ro A 0).length = (ro B 0).length) : encL m k F (addL A B) = addL (encL m k F A) (encL m k F B) := by
  have hEn := addL_even (B := B) hE
  refine L_ext (by rw [encL_length, addL_length, addL_length, encL_length]) (fun i hi => ?_) fun i n hi hn => ?_
  · rw [encL_length, addL_length] at hi
    rw [enc_len hEn (by rw [addL_length]; exact hi), addL_row (by omega), addL_row (by rw [encL_length]; exact hi), enc_len hE hi]
  · rw [encL_length, addL_length] at hi
    rw [enc_len hEn (by rw [addL_length]; exact hi), addL_row (by omega)] at hn
    rw [addL_co (by rw [encL_length]; exact hi) (by rw [enc_len hE hi]; exact hn)]
    by_cases e : i < A.length
    · rw [enc_row_lt (by rw [addL_length]; exact e), enc_row_lt e, enc_row_lt (by omega), addL_co e (by rw [hE i e]; exact hn)]
    · rw [enc_row_ge' (by rw [addL_length]; omega) (by rw [addL_length]; exact hi), enc_row_ge' (by omega) hi, enc_row_ge' (by omega) (by omega), addL_length, hA, hB]
      unfold parR
      rw [co_upto_in (by rw [addL_row (by omega)]; exact hn), co_upto_in hn, co_upto_in (by omega)]
      exact wd_add fun l hl => addL_co (by omega) (by rw [hE l (by omega)]; exact hn)

/-- a data shard that is another one -/
theorem upd_enc {m k j : Nat} {F : Mx} {L : List (List UInt8)} {q : List UInt8} (hL : L.length = k) (hj : j < k) (hE : Even L) (hq : q.length = (ro L 0).length) : updL m F j (ro L j) q (mkL m (parR k F L)) = mkL m (parR k F (L.set j q)) := by
  refine mkL_congr fun i hi => ?_
  unfold updR
  rw [ro_mkL hi, parR_length]
  have e0 : (ro (L.set j q) 0).length = (ro L 0).length := by
    rw [ro_set (by omega)]
    by_cases e : 0 = j
    · rw [if_pos e, hq]
    · rw [if_neg e]
  unfold parR
  rw [e0]
  refine upto_congr fun n hn => ?_
  rw [co_upto_in hn]
  unfold wd
  have h1 : S k (fun l => mu (F i l) (co (ro (L.set j q) l) n)) = S k (fun l => mu (F i l) (co (ro L l) n) ^^^ (if l = j then mu (F i j) (co (ro L j) n ^^^ co q n) else 0)) := S_congr fun l hl => by
    rw [ro_set (by omega)]
    by_cases e : l = j
    · subst e
      rw [if_pos rfl, if_pos rfl, mu_xor, ← x_assoc, x_self, zero_x]
    · rw [if_neg e, if_neg e, x_zero]
  rw [h1, S_xor]
  congr 1
  rw [S_one hj (fun l hl hne => if_neg hne), if_pos rfl]
theorem upd_ok_of {m k j : Nat} {F : Mx} {L : List (List UInt8)} {q : List UInt8} (hL : L.length = k) (hj : j < k) (hE : Even L) (hq : q.length = (ro L 0).length) : OkU k m j (ro L j) q (mkL m (parR k F L)) := by
  refine ⟨by rw [mkL_length], fun i hi => ?_, by omega, by omega⟩
  have all : ∀ i, i < m + 2 → (ro (mkL m (parR k F L) ++ [ro L j, q]) i).length = (ro L 0).length := fun i hi => by
    by_cases e : i < m
    · rw [ro_append_left (by rw [mkL_length]; exact e), ro_mkL e, parR_length]
    · rw [ro_append_right (by rw [mkL_length]; omega), mkL_length]
      rcases Nat.lt_or_ge (i - m) 1 with h | h
      · rw [show i - m = 0 by omega]; exact hE j (by omega)
      · rw [show i - m = 1 by omega]; exact hq
  rw [List.length_append, mkL_length] at hi
  rw [all i (by simpa using hi), all 0 (by omega)]
theorem set_even {L : List (List UInt8)} {j : Nat} {q : List UInt8} (hj : j < L.length) (hE : Even L) (hq : q.length = (ro L 0).length) : Even (L.set j q) := by
  have all : ∀ i, i < L.length → (ro (L.set j q) i).length = (ro L 0).length := fun i hi => by
    rw [ro_set hj]
    by_cases e : i = j
    · rw [if_pos e, hq]
    · rw [if_neg e]; exact hE i hi
  intro i hi
  rw [List.length_set] at hi
  rw [all i hi, all 0 (by omega)]
theorem set_small {L : List (List UInt8)} {j : Nat} {q : List UInt8} (hS : Small L) (hj : j < L.length) (hq : q.length ≤ 300) : Small (L.set j q) := ⟨by rw [List.length_set]; exact hS.1, fun i => by
  rw [ro_set hj]
  by_cases e : i = j
  · rw [if_pos e]; exact hq
  · rw [if_neg e]; exact hS.2 i⟩
theorem mk_small {m k : Nat} {F : Mx} {L : List (List UInt8)} (hm : m ≤ 300) (hS : Small L) : Small (mkL m (parR k F L)) := ⟨by rw [mkL_length]; exact hm, fun i => by
  by_cases e : i < m
  · rw [ro_mkL e, parR_length]; exact hS.2 0
  · rw [ro_ge (by rw [mkL_length]; omega)]; simp⟩

/-- one byte that is another one -/
theorem setL_row {L : List (List UInt8)} {i n r : Nat} {y : UInt8} (hi : i < L.length) : (ro (setL L i n y) r).length = (ro L r).length := by
  unfold setL
  rw [ro_set hi]
  by_cases e : r = i
  · subst e; rw [if_pos rfl, List.length_set]
  · rw [if_neg e]
theorem setL_co {L : List (List UInt8)} {i n r t : Nat} {y : UInt8} (hi : i < L.length) (hn : n < (ro L i).length) : co (ro (setL L i n y) r) t = if r = i ∧ t = n then y else co (ro L r) t := by
  unfold setL
  rw [ro_set hi]
  by_cases e : r = i
  · subst e
    rw [if_pos rfl, co_at hn]
    by_cases e2 : t = n
    · rw [if_pos e2, if_pos ⟨rfl, e2⟩]
    · rw [if_neg e2, if_neg (fun h => e2 h.2)]
  · rw [if_neg e, if_neg (fun h => e h.1)]
theorem setL_even {L : List (List UInt8)} {i n : Nat} {y : UInt8} (hi : i < L.length) (hE : Even L) : Even (setL L i n y) := fun r hr => by
  rw [setL_length] at hr
  rw [setL_row hi, setL_row hi]; exact hE r hr
theorem setL_small {L : List (List UInt8)} {i n : Nat} {y : UInt8} (hi : i < L.length) (hS : Small L) : Small (setL L i n y) := ⟨by rw [setL_length]; exact hS.1, fun r => by rw [setL_row hi]; exact hS.2 r⟩
/-- .. is seen by each parity shard -/
theorem wd_set {F : Mx} {L : List (List UInt8)} {i k j n : Nat} {by' : UInt8} (hj : j < k) (hL : L.length = k) (hn : n < (ro L j).length) : wd F (setL L j n (co (ro L j) n ^^^ by')) i k n = wd F L i k n ^^^ mu (F i j) by' := by
  unfold wd
  have h1 : S k (fun l => mu (F i l) (co (ro (setL L j n (co (ro L j) n ^^^ by')) l) n)) = S k (fun l => mu (F i l) (co (ro L l) n) ^^^ (if l = j then mu (F i j) by' else 0)) := S_congr fun l hl => by
    rw [setL_co (by omega) hn]
    by_cases e : l = j
    · subst e; rw [if_pos ⟨rfl, rfl⟩, if_pos rfl, mu_xor]
    · rw [if_neg (fun h => e h.1), if_neg e, x_zero]
  rw [h1, S_xor, S_one hj (fun l hl hne => if_neg hne), if_pos rfl]
theorem x_ne {a b : UInt8} (h : b ≠ 0) : a ^^^ b ≠ a := fun e => h (by have := congrArg (a ^^^ ·) e; simp only [x_cancel, x_self] at this; exact this)
theorem take_setL {L : List (List UInt8)} {j n k : Nat} {y : UInt8} (hj : j < k) (hk : k ≤ L.length) : (setL L j n y).take k = setL (L.take k) j n y := by
  refine ro_ext (by rw [List.length_take, setL_length, setL_length, List.length_take]) fun r hr => ?_
  rw [List.length_take, setL_length] at hr
  rw [ro_take (by omega)]
  unfold setL
  rw [ro_set (by omega), ro_set (by rw [List.length_take]; omega), ro_take hj, ro_take (by omega)]
theorem take_setL' {L : List (List UInt8)} {j n k : Nat} {y : UInt8} (hj : k ≤ j) (hjl : j < L.length) : (setL L j n y).take k = L.take k := by
  refine ro_ext (by rw [List.length_take, setL_length, List.length_take]) fun r hr => ?_
  rw [List.length_take, setL_length] at hr
  rw [ro_take (by omega), ro_take (by omega)]
  unfold setL
  rw [ro_set hjl, if_neg (by omega)]
/-- the parity bytes are others -/
theorem single_ne {m k j n i : Nat} {L : List (List UInt8)} {by' : UInt8} (hL : L.length = k) (hkm : k + m ≤ 256) (hi : i < m) (hj : j < k) (hE : Even L) (hn : n < (ro L 0).length) (hb : by' ≠ 0) :
    co (ro (encL m k (parF k) (setL L j n (co (ro L j) n ^^^ by'))) (k + i)) n ≠ co (ro (encL m k (parF k) L) (k + i)) n := by
  have hnj : n < (ro L j).length := by rw [hE j (by omega)]; exact hn
  have hl : (setL L j n (co (ro L j) n ^^^ by')).length = k := by rw [setL_length, hL]
  rw [show k + i = (setL L j n (co (ro L j) n ^^^ by')).length + i by rw [hl], enc_row_ge hi]
  rw [show (setL L j n (co (ro L j) n ^^^ by')).length + i = L.length + i by rw [setL_length], enc_row_ge hi]
  unfold parR
  rw [co_upto_in (by rw [setL_row (by omega)]; exact hn), co_upto_in hn, wd_set hj hL hnj]
  exact x_ne (mu_ne (par_ne (by omega) hj) hb)
theorem single_fit {m k j n : Nat} {L : List (List UInt8)} {by' : UInt8} (hL : L.length = k) (hk : 1 ≤ k) (hkm : k + m ≤ 256) (hm : 0 < m) (hj : j < k + m) (hE : Even L) (hn : n < (ro L 0).length) (hb : by' ≠ 0) :
    fitX k m (setL (encL m k (parF k) L) j n (co (ro (encL m k (parF k) L) j) n ^^^ by')) = 0 ∧ fitB k m (setL (encL m k (parF k) L) j n (co (ro (encL m k (parF k) L) j) n ^^^ by')) = false := by
  have hXl : (encL m k (parF k) L).length = k + m := by rw [encL_length, hL]
  have hXe : Even (encL m k (parF k) L) := enc_even hE (by omega)
  have hnj : n < (ro (encL m k (parF k) L) j).length := by rw [enc_len hE (by omega)]; exact hn
  have h := fitX_ok (okC_mk hk hkm) (L := setL (encL m k (parF k) L) j n (co (ro (encL m k (parF k) L) j) n ^^^ by')) (by rw [setL_length, hXl]; exact_mod_cast rfl) (setL_even (by omega) hXe)
  refine ⟨h.1, ?_⟩
  rw [h.2]
  refine decide_eq_false fun e => ?_
  by_cases hjk : j < k
  · have e1 : ro (encL m k (parF k) L) j = ro L j := enc_row_lt (by omega)
    rw [take_setL hjk (by omega), enc_take hL, e1] at e
    have h2 := single_ne (i := 0) hL hkm hm hjk hE hn hb
    rw [e] at h2
    rw [setL_co (by omega) hnj, if_neg (by omega)] at h2
    exact h2 rfl
  · rw [take_setL' (by omega) (by omega), enc_take hL] at e
    have h2 := congrArg (fun M => co (ro M j) n) e
    rw [setL_co (by omega) hnj, if_pos ⟨rfl, rfl⟩] at h2
    exact x_ne hb h2.symm

/-- one place alone -/
def oneL (L : List (List UInt8)) (n : Nat) : List (List UInt8) := mkL L.length (fun i => [co (ro L i) n])
theorem oneL_length (L : List (List UInt8)) (n : Nat) : (oneL L n).length = L.length := mkL_length _ _
theorem oneL_row {L : List (List UInt8)} {n i : Nat} (h : i < L.length) : ro (oneL L n) i = [co (ro L i) n] := ro_mkL h
theorem oneL_even (L : List (List UInt8)) (n : Nat) : Even (oneL L n) := fun i hi => by
  rw [oneL_length] at hi
  rw [oneL_row hi, oneL_row (by omega)]; rfl
theorem oneL_small {L : List (List UInt8)} {n : Nat} (hS : Small L) : Small (oneL L n) := ⟨by rw [oneL_length]; exact hS.1, fun i => by
  by_cases e : i < L.length
  · rw [oneL_row e]; simp
  · rw [ro_ge (by rw [oneL_length]; omega)]; simp⟩
theorem place_enc {m k n i : Nat} {F : Mx} {L : List (List UInt8)} (hL : L.length = k) (h0 : 0 < k) (hE : Even L) (hn : n < (ro L 0).length) (hi : i < k + m) :
    ro (encL m k F (oneL L n)) i = [co (ro (encL m k F L) i) n] := by
  by_cases e : i < k
  · rw [enc_row_lt (by rw [oneL_length]; omega), enc_row_lt (by omega), oneL_row (by omega)]
  · rw [enc_row_ge' (by rw [oneL_length]; omega) (by rw [oneL_length]; omega), enc_row_ge' (by omega) (by omega), oneL_length]
    unfold parR
    rw [co_upto_in hn, oneL_row (by omega)]
    show [wd F (oneL L n) (i - L.length) k 0] = [wd F L (i - L.length) k n]
    congr 1
    exact S_congr fun l hl => by rw [oneL_row (by omega)]; rfl

/-- times a number -/
def timesL (L : List (List UInt8)) (c : UInt8) : List (List UInt8) := mkL L.length (fun i => upto (fun n => mu (co (ro L i) n) c) (ro L i).length)
theorem timesL_length (L : List (List UInt8)) (c : UInt8) : (timesL L c).length = L.length := mkL_length _ _
theorem timesL_row {L : List (List UInt8)} {c : UInt8} {i : Nat} (h : i < L.length) : (ro (timesL L c) i).length = (ro L i).length := by unfold timesL; rw [ro_mkL h, upto_length]
theorem timesL_co {L : List (List UInt8)} {c : UInt8} {i n : Nat} (h : i < L.length) (hn : n < (ro L i).length) : co (ro (timesL L c) i) n = mu (co (ro L i) n) c := by
  unfold timesL; rw [ro_mkL h, co_upto_in hn]
theorem timesL_even {L : List (List UInt8)} {c : UInt8} : Even (timesL L c) ↔ Even L := by
  constructor
  · intro h i hi
    have := h i (by rw [timesL_length]; exact hi)
    rwa [timesL_row hi, timesL_row (by omega)] at this
  · intro h i hi
    rw [timesL_length] at hi
    rw [timesL_row hi, timesL_row (by omega)]; exact h i hi
theorem timesL_small {L : List (List UInt8)} {c : UInt8} (hS : Small L) : Small (timesL L c) := ⟨by rw [timesL_length]; exact hS.1, fun i => by
  by_cases e : i < L.length
  · rw [timesL_row e]; exact hS.2 i
  · rw [ro_ge (by rw [timesL_length]; omega)]; simp⟩
theorem times_encX (k m : Int) (L : List (List UInt8)) (c : UInt8) : encX k m (timesL L c) = encX k m L := by
  unfold encX
  by_cases h : OkC k m
  · rw [if_pos h, if_pos h]
    by_cases h2 : (L.length : Int) = k ∧ Even L
    · rw [if_pos h2, if_pos ⟨by rw [timesL_length]; exact h2.1, timesL_even.2 h2.2⟩]
    · rw [if_neg h2, if_neg (fun e => h2 ⟨by have := e.1; rwa [timesL_length] at this, timesL_even.1 e.2⟩)]
  · rw [if_neg h, if_neg h]
theorem times_enc {m k : Nat} {F : Mx} {L : List (List UInt8)} (c : UInt8) (hL : L.length = k) (h0 : 0 < k) (hE : Even L) : encL m k F (timesL L c) = timesL (encL m k F L) c := by
  have hEn : Even (timesL L c) := timesL_even.2 hE
  refine L_ext (by rw [encL_length, timesL_length, timesL_length, encL_length]) (fun i hi => ?_) fun i n hi hn => ?_
  · rw [encL_length, timesL_length] at hi
    rw [enc_len hEn (by rw [timesL_length]; exact hi), timesL_row (by omega), timesL_row (by rw [encL_length]; exact hi), enc_len hE hi]
  · rw [encL_length, timesL_length] at hi
    rw [enc_len hEn (by rw [timesL_length]; exact hi), timesL_row (by omega)] at hn
    rw [timesL_co (by rw [encL_length]; exact hi) (by rw [enc_len hE hi]; exact hn)]
    by_cases e : i < L.length
    · rw [enc_row_lt (by rw [timesL_length]; exact e), enc_row_lt e, timesL_co e (by rw [hE i e]; exact hn)]
    · rw [enc_row_ge' (by rw [timesL_length]; omega) (by rw [timesL_length]; exact hi), enc_row_ge' (by omega) hi, timesL_length, hL]
      unfold parR
      rw [co_upto_in (by rw [timesL_row (by omega)]; exact hn), co_upto_in hn]
      unfold wd
      rw [S_mu]
      exact S_congr fun l hl => by rw [timesL_co (by omega) (by rw [hE l (by omega)]; exact hn), mu_assoc]

/-- where encoding answers no error -/
theorem enc_zero {k m : Int} {L : List (List UInt8)} (h : encX k m L = 0) : ∃ k' m' : Nat, k = (k' : Int) ∧ m = (m' : Int) ∧ 1 ≤ k' ∧ k' + m' ≤ 256 ∧ L.length = k' ∧ Even L ∧ encR k m L = encL m' k' (parF k') L := by
  rcases enc_cases k m L with c | ⟨c, d⟩ | ⟨c, d1, d2⟩
  · rw [(encX_bad c).1] at h; cases h
  · rw [(encX_shard c d).1] at h; cases h
  · obtain ⟨k', m', rfl, rfl, h1, h2⟩ := c.nat
    exact ⟨k', m', rfl, rfl, h1, h2, by omega, d2, (encX_ok c d1 d2).2⟩
theorem enc_not {k m : Int} {L : List (List UInt8)} (h : encX k m L ≠ 0) : encR k m L = [] := by
  rcases enc_cases k m L with c | ⟨c, d⟩ | ⟨c, d1, d2⟩
  · exact (encX_bad c).2
  · exact (encX_shard c d).2
  · obtain ⟨k', m', rfl, rfl, h1, h2⟩ := c.nat
    exact absurd (encX_ok c d1 d2).1 h

end Go.Proofs.Ytchfonofjbpmaaa.Gf

/-
  SHARDS THAT ARE THERE, AND WHAT THEY TELL OF ALL: the mathematics of layer 7. No program's function is named here.
-/

namespace Go.Proofs.Ytchfonofjbpmaaa.Gf
set_option linter.unusedVariables false
set_option linter.unusedSimpArgs false
open Go.RowKit

/-- is the shard i there? -/
def hb (h : List Bool) (i : Nat) : Bool := h.getD i false
theorem hb_ge {h : List Bool} {i : Nat} (hi : h.length ≤ i) : hb h i = false := by simp [hb, List.getD, hi]
/-- the places of those that are there, of the first n -/
def thr (h : List Bool) : Nat → List Nat
  | 0 => []
  | n + 1 => if hb h n = true then thr h n ++ [n] else thr h n
theorem thr_yes {h : List Bool} {n : Nat} (e : hb h n = true) : thr h (n + 1) = thr h n ++ [n] := by rw [thr, if_pos e]
theorem thr_no {h : List Bool} {n : Nat} (e : hb h n = false) : thr h (n + 1) = thr h n := by rw [thr, if_neg (by rw [e]; decide)]
theorem thr_mem {h : List Bool} {n x : Nat} (hx : x ∈ thr h n) : x < n ∧ hb h x = true := by
  induction n with
  | zero => simp [thr] at hx
  | succ n ih =>
    cases e : hb h n with
    | true =>
      rw [thr_yes e] at hx
      rcases List.mem_append.1 hx with h1 | h1
      · have := ih h1; exact ⟨by omega, this.2⟩
      · rw [List.mem_singleton] at h1; subst h1; exact ⟨by omega, e⟩
    | false => rw [thr_no e] at hx; have := ih hx; exact ⟨by omega, this.2⟩
theorem thr_len (h : List Bool) (n : Nat) : (thr h n).length ≤ n := by
  induction n with
  | zero => simp [thr]
  | succ n ih =>
    cases e : hb h n with
    | true => rw [thr_yes e, List.length_append]; simp; omega
    | false => rw [thr_no e]; omega
theorem thr_pre (h : List Bool) {i n : Nat} (hin : i ≤ n) : ∃ t, thr h n = thr h i ++ t := by
  induction n with
  | zero => rw [Nat.le_zero.1 hin]; exact ⟨[], by simp⟩
  | succ n ih =>
    by_cases e : i = n + 1
    · subst e; exact ⟨[], by simp⟩
    · obtain ⟨t, ht⟩ := ih (by omega)
      cases e : hb h n with
      | true => exact ⟨t ++ [n], by rw [thr_yes e, ht, List.append_assoc]⟩
      | false => exact ⟨t, by rw [thr_no e, ht]⟩
/-- the place of the i-th one that is there -/
def pl7 (h : List Bool) (i : Nat) : Nat := (thr h h.length).getD i 0
theorem getD_append_left {l t : List Nat} {i : Nat} (hi : i < l.length) : (l ++ t).getD i 0 = l.getD i 0 := by simp [List.getD, List.getElem?_append_left hi]
theorem pl7_of {h : List Bool} {n i : Nat} (hn : n ≤ h.length) (hi : i < (thr h n).length) : (thr h n).getD i 0 = pl7 h i := by
  obtain ⟨t, ht⟩ := thr_pre h hn
  unfold pl7
  rw [ht, getD_append_left hi]
theorem pl7_in {h : List Bool} {i : Nat} (hi : i < (thr h h.length).length) : pl7 h i < h.length ∧ hb h (pl7 h i) = true := by
  have e : pl7 h i = (thr h h.length)[i] := by simp [pl7, List.getD, hi]
  rw [e]
  exact thr_mem (List.getElem_mem hi)
/-- the place i, if it is there, is just that one which so many are ahead of -/
theorem pl7_at {h : List Bool} {i : Nat} (e : hb h i = true) : i < h.length ∧ (thr h i).length < (thr h h.length).length ∧ pl7 h (thr h i).length = i := by
  have hi : i < h.length := by
    rcases Nat.lt_or_ge i h.length with k | k
    · exact k
    · rw [hb_ge k] at e; cases e
  obtain ⟨t, ht⟩ := thr_pre h (show i + 1 ≤ h.length from hi)
  rw [thr_yes e] at ht
  refine ⟨hi, by rw [ht]; simp, ?_⟩
  unfold pl7
  rw [ht]
  simp [List.getD]
theorem thr_mono {h : List Bool} {i j : Nat} (hij : i ≤ j) : (thr h i).length ≤ (thr h j).length := by
  obtain ⟨t, ht⟩ := thr_pre h hij
  rw [ht, List.length_append]; omega
theorem pl7_rank {h : List Bool} {i : Nat} (hi : i < (thr h h.length).length) : (thr h (pl7 h i)).length = i := by
  -- by the places ahead of n
  have key : ∀ n i, i < (thr h n).length → (thr h ((thr h n).getD i 0)).length = i := by
    intro n
    induction n with
    | zero => intro i hi; simp [thr] at hi
    | succ n ih =>
      intro i hi
      cases e : hb h n with
      | true =>
        rw [thr_yes e] at hi ⊢
        by_cases hk : i < (thr h n).length
        · rw [getD_append_left hk]; exact ih i hk
        · simp at hi
          have hi2 : i = (thr h n).length := by omega
          subst hi2
          have : (thr h n ++ [n]).getD (thr h n).length 0 = n := by simp [List.getD]
          rw [this]
      | false => rw [thr_no e] at hi ⊢; exact ih i hi
  exact key _ i hi
theorem pl7_inj {h : List Bool} {i j : Nat} (hi : i < (thr h h.length).length) (hj : j < (thr h h.length).length) (e : pl7 h i = pl7 h j) : i = j := by
  rw [← pl7_rank hi, e, pl7_rank hj]
/-- of those that are there all are of one length -/
def EvenH (h : List Bool) (L : List (List UInt8)) : Prop := ∀ i j, hb h i = true → hb h j = true → (ro L i).length = (ro L j).length
/-- .. and short -/
def SmallH (h : List Bool) (L : List (List UInt8)) : Prop := L.length ≤ 300 ∧ ∀ i, hb h i = true → (ro L i).length ≤ 300
theorem Small.h {L : List (List UInt8)} (hS : Small L) (h : List Bool) : SmallH h L := ⟨hS.1, fun i _ => hS.2 i⟩

/-- the first k rows that are there, of the generator -/
def rowsF (k : Nat) (p : Nat → Nat) : Mx := fun i j => genF k (p i) j
/-- .. their inverse -/
noncomputable def invF (k : Nat) (p : Nat → Nat) : Mx := by
  classical
  exact if h : ∃ V, IsInv k (rowsF k p) V then h.choose else one
theorem invF_is {k : Nat} {p : Nat → Nat} (h : ∃ V, IsInv k (rowsF k p) V) : IsInv k (rowsF k p) (invF k p) := by
  unfold invF
  rw [dif_pos h]
  exact h.choose_spec
theorem invF_flat {k : Nat} {p : Nat → Nat} {V : Mx} (h : IsInv k (rowsF k p) V) : flat k k V = flat k k (invF k p) := flat_congr fun i j hi hj => (invF_is ⟨V, h⟩).unique h i j hi hj
/-- a byte of a data shard, of the first c of those shards -/
def dwd (V : Mx) (p : Nat → Nat) (L : List (List UInt8)) (j c n : Nat) : UInt8 := S c (fun i => mu (V j i) (co (ro L (p i)) n))
theorem dwd_zero (V : Mx) (p : Nat → Nat) (L : List (List UInt8)) (j n : Nat) : dwd V p L j 0 n = 0 := rfl
theorem dwd_succ (V : Mx) (p : Nat → Nat) (L : List (List UInt8)) (j c n : Nat) : dwd V p L j (c + 1) n = dwd V p L j c n ^^^ mu (V j c) (co (ro L (p c)) n) := rfl
def dsh (k : Nat) (V : Mx) (p : Nat → Nat) (L : List (List UInt8)) (j : Nat) : List UInt8 := upto (dwd V p L j k) (ro L (p 0)).length
def decD (k : Nat) (V : Mx) (p : Nat → Nat) (L : List (List UInt8)) : List (List UInt8) := mkL k (dsh k V p L)
theorem decD_length (k : Nat) (V : Mx) (p : Nat → Nat) (L : List (List UInt8)) : (decD k V p L).length = k := mkL_length _ _
theorem decD_row {k : Nat} {V : Mx} {p : Nat → Nat} {L : List (List UInt8)} {j : Nat} (hj : j < k) : (ro (decD k V p L) j).length = (ro L (p 0)).length := by unfold decD dsh; rw [ro_mkL hj, upto_length]
theorem decD_co {k : Nat} {V : Mx} {p : Nat → Nat} {L : List (List UInt8)} {j n : Nat} (hj : j < k) (hn : n < (ro L (p 0)).length) : co (ro (decD k V p L) j) n = dwd V p L j k n := by unfold decD dsh; rw [ro_mkL hj, co_upto_in hn]
theorem decD_even {k : Nat} {V : Mx} {p : Nat → Nat} {L : List (List UInt8)} (hk : 1 ≤ k) : Even (decD k V p L) := fun i hi => by
  rw [decD_length] at hi
  rw [decD_row hi, decD_row (by omega)]
theorem decD_small {k : Nat} {V : Mx} {p : Nat → Nat} {L : List (List UInt8)} (hk : k ≤ 256) (hp : (ro L (p 0)).length ≤ 300) : Small (decD k V p L) := ⟨by rw [decD_length]; omega, fun i => by
  by_cases e : i < k
  · rw [decD_row e]; exact hp
  · rw [ro_ge (by rw [decD_length]; omega)]; simp⟩
/-- a byte of a stripe, by the generator's row -/
theorem enc_gen {m k i n : Nat} {D : List (List UInt8)} (hD : D.length = k) (hE : Even D) (hi : i < k + m) (hn : n < (ro D 0).length) : co (ro (encL m k (parF k) D) i) n = S k (fun l => mu (genF k i l) (co (ro D l) n)) := by
  by_cases e : i < k
  · rw [enc_row_lt (by omega), S_one (k := i) e (fun l hl hne => by unfold genF; rw [if_pos e, one_ne (fun h => hne h.symm), zero_mu])]
    unfold genF
    rw [if_pos e, one_self, one_mu]
  · rw [enc_row_ge' (by omega) (by omega), hD]
    unfold parR
    rw [co_upto_in hn]
    unfold wd
    exact S_congr fun l hl => by unfold genF; rw [if_neg e]
/-- of a stripe any k shards tell the data -/
theorem dec_back {m k : Nat} {V : Mx} {p : Nat → Nat} {L D : List (List UInt8)} (hk : 1 ≤ k) (hV : IsInv k (rowsF k p) V) (hp : ∀ i, i < k → p i < k + m) (hD : D.length = k) (hE : Even D) (h : ∀ i, i < k → ro L (p i) = ro (encL m k (parF k) D) (p i)) : decD k V p L = D := by
  have hl0 : (ro L (p 0)).length = (ro D 0).length := by rw [h 0 (by omega), enc_len hE (by rw [hD]; exact hp 0 (by omega))]
  refine L_ext (by rw [decD_length, hD]) (fun j hj => ?_) fun j n hj hn => ?_
  · rw [decD_length] at hj
    rw [decD_row hj, hl0, hE j (by omega)]
  · rw [decD_length] at hj
    rw [decD_row hj] at hn
    rw [decD_co hj hn]
    rw [hl0] at hn
    have e1 : dwd V p L j k n = mv k V (mv k (rowsF k p) (fun l => co (ro D l) n)) j := S_congr fun i hi => by
      rw [h i hi, enc_gen hD hE (hp i hi) hn]; rfl
    rw [e1, ← mv_assoc, mv_congr (A' := one) (x' := fun l => co (ro D l) n) (fun l hl => hV.left j l hj hl) (fun _ _ => rfl), one_mv _ hj]
/-- what is decoded holds those shards -/
theorem dec_keep {m k i : Nat} {V : Mx} {p : Nat → Nat} {L : List (List UInt8)} (hV : IsInv k (rowsF k p) V) (hp : ∀ i, i < k → p i < k + m) (hl : ∀ i, i < k → (ro L (p i)).length = (ro L (p 0)).length) (hi : i < k) : ro (encL m k (parF k) (decD k V p L)) (p i) = ro L (p i) := by
  have hE : Even (decD k V p L) := decD_even (by omega)
  have h0 : (ro (decD k V p L) 0).length = (ro L (p 0)).length := decD_row (by omega)
  have hle : (ro (encL m k (parF k) (decD k V p L)) (p i)).length = (ro L (p 0)).length := by rw [enc_len hE (by rw [decD_length]; exact hp i hi), h0]
  refine co_ext (by rw [hle, hl i hi]) fun n hn => ?_
  rw [hle] at hn
  rw [enc_gen (decD_length _ _ _ _) hE (hp i hi) (by rw [h0]; exact hn)]
  have e1 : S k (fun l => mu (genF k (p i) l) (co (ro (decD k V p L) l) n)) = mv k (rowsF k p) (mv k V (fun j => co (ro L (p j)) n)) i := S_congr fun l hlk => by
    rw [decD_co hlk hn]; rfl
  rw [e1, ← mv_assoc, mv_congr (A' := one) (x' := fun j => co (ro L (p j)) n) (fun l hl => hV.right i l hi hl) (fun _ _ => rfl), one_mv _ hi]
/-- those shards alone matter -/
theorem dec_same {k : Nat} {V : Mx} {p : Nat → Nat} {A B : List (List UInt8)} (hk : 1 ≤ k) (h : ∀ i, i < k → ro A (p i) = ro B (p i)) : decD k V p A = decD k V p B := by
  refine mkL_congr fun j hj => ?_
  unfold dsh
  rw [h 0 (by omega)]
  exact upto_congr fun n hn => S_congr fun i hi => by rw [h i hi]
/-- the sum's is the sum -/
theorem dec_add {k : Nat} {V : Mx} {p : Nat → Nat} {A B : List (List UInt8)} (hk : 1 ≤ k) (hp : ∀ i, i < k → p i < A.length) (hl : ∀ i, i < k → (ro A (p i)).length = (ro A (p 0)).length) (hlb : (ro B (p 0)).length = (ro A (p 0)).length) : decD k V p (addL A B) = addL (decD k V p A) (decD k V p B) := by
  have h0 : (ro (addL A B) (p 0)).length = (ro A (p 0)).length := addL_row (hp 0 (by omega))
  refine L_ext (by rw [decD_length, addL_length, decD_length]) (fun j hj => ?_) fun j n hj hn => ?_
  · rw [decD_length] at hj
    rw [decD_row hj, h0, addL_row (by rw [decD_length]; exact hj), decD_row hj]
  · rw [decD_length] at hj
    rw [decD_row hj, h0] at hn
    rw [decD_co hj (by rw [h0]; exact hn), addL_co (by rw [decD_length]; exact hj) (by rw [decD_row hj]; exact hn), decD_co hj hn]
    have e1 : dwd V p (addL A B) j k n = dwd V p A j k n ^^^ dwd V p B j k n := by
      unfold dwd
      rw [← S_xor]
      exact S_congr fun i hi => by rw [addL_co (hp i hi) (by rw [hl i hi]; exact hn), mu_xor]
    rw [e1, decD_co hj (by rw [hlb]; exact hn)]

/-! What decoding answers. -/
/-- has and shards are as many as there should be, those that are there of one length -/
def OkH (k m : Int) (h : List Bool) (L : List (List UInt8)) : Prop := (h.length : Int) = k + m ∧ (L.length : Int) = k + m ∧ EvenH h L
noncomputable def evenB (h : List Bool) (L : List (List UInt8)) : Bool := by
  classical
  exact decide (EvenH h L)
theorem evenB_yes {h : List Bool} {L : List (List UInt8)} (e : EvenH h L) : evenB h L = true := by classical unfold evenB; simpa using e
theorem evenB_no {h : List Bool} {L : List (List UInt8)} (e : ¬ EvenH h L) : evenB h L = false := by classical unfold evenB; simpa using e
noncomputable def decX (k m : Int) (h : List Bool) (L : List (List UInt8)) : Int := by
  classical
  exact if OkC k m then (if OkH k m h L then (if ((thr h h.length).length : Int) < k then 70 else 0) else 60) else 50
noncomputable def decR (k m : Int) (h : List Bool) (L : List (List UInt8)) : List (List UInt8) := by
  classical
  exact if OkC k m ∧ OkH k m h L ∧ ¬ ((thr h h.length).length : Int) < k then encL m.toNat k.toNat (parF k.toNat) (decD k.toNat (invF k.toNat (pl7 h)) (pl7 h) L) else []
theorem decX_bad {k m : Int} {h : List Bool} {L : List (List UInt8)} (c : ¬ OkC k m) : decX k m h L = 50 ∧ decR k m h L = [] := ⟨by unfold decX; rw [if_neg c], by unfold decR; rw [if_neg fun e => c e.1]⟩
theorem decX_shard {k m : Int} {h : List Bool} {L : List (List UInt8)} (c : OkC k m) (d : ¬ OkH k m h L) : decX k m h L = 60 ∧ decR k m h L = [] := ⟨by unfold decX; rw [if_pos c, if_neg d], by unfold decR; rw [if_neg fun e => d e.2.1]⟩
theorem decX_few {k m : Int} {h : List Bool} {L : List (List UInt8)} (c : OkC k m) (d : OkH k m h L) (f : ((thr h h.length).length : Int) < k) : decX k m h L = 70 ∧ decR k m h L = [] := ⟨by unfold decX; rw [if_pos c, if_pos d, if_pos f], by unfold decR; rw [if_neg fun e => e.2.2 f]⟩
theorem decX_ok {k m : Nat} {h : List Bool} {L : List (List UInt8)} (c : OkC k m) (d : OkH k m h L) (f : k ≤ (thr h h.length).length) : decX k m h L = 0 ∧ decR k m h L = encL m k (parF k) (decD k (invF k (pl7 h)) (pl7 h) L) := ⟨by unfold decX; rw [if_pos c, if_pos d, if_neg (by omega)], by unfold decR; rw [if_pos ⟨c, d, by omega⟩]; rfl⟩
theorem dec_cases (k m : Int) (h : List Bool) (L : List (List UInt8)) : (¬ OkC k m) ∨ (OkC k m ∧ ¬ OkH k m h L) ∨ (OkC k m ∧ OkH k m h L ∧ ((thr h h.length).length : Int) < k) ∨ (OkC k m ∧ OkH k m h L ∧ k ≤ ((thr h h.length).length : Int)) := by
  by_cases c : OkC k m
  · by_cases d : OkH k m h L
    · by_cases f : ((thr h h.length).length : Int) < k
      · exact Or.inr (Or.inr (Or.inl ⟨c, d, f⟩))
      · exact Or.inr (Or.inr (Or.inr ⟨c, d, by omega⟩))
    · exact Or.inr (Or.inl ⟨c, d⟩)
  · exact Or.inl c
/-- .. with no error -/
theorem dec_zero {k m : Int} {h : List Bool} {L : List (List UInt8)} (e : decX k m h L = 0) : ∃ k' m' : Nat, k = (k' : Int) ∧ m = (m' : Int) ∧ 1 ≤ k' ∧ k' + m' ≤ 256 ∧ h.length = k' + m' ∧ L.length = k' + m' ∧ EvenH h L ∧ k' ≤ (thr h h.length).length ∧ decR k m h L = encL m' k' (parF k') (decD k' (invF k' (pl7 h)) (pl7 h) L) := by
  rcases dec_cases k m h L with c | ⟨c, d⟩ | ⟨c, d, f⟩ | ⟨c, d, f⟩
  · rw [(decX_bad c).1] at e; cases e
  · rw [(decX_shard c d).1] at e; cases e
  · rw [(decX_few c d f).1] at e; cases e
  · obtain ⟨k', m', rfl, rfl, h1, h2⟩ := c.nat
    refine ⟨k', m', rfl, rfl, h1, h2, by have := d.1; omega, by have := d.2.1; omega, d.2.2, by omega, (decX_ok c d (by omega)).2⟩
theorem dec_not {k m : Int} {h : List Bool} {L : List (List UInt8)} (e : decX k m h L ≠ 0) : decR k m h L = [] := by
  rcases dec_cases k m h L with c | ⟨c, d⟩ | ⟨c, d, f⟩ | ⟨c, d, f⟩
  · exact (decX_bad c).2
  · exact (decX_shard c d).2
  · exact (decX_few c d f).2
  · obtain ⟨k', m', rfl, rfl, h1, h2⟩ := c.nat
    exact absurd (decX_ok c d (by omega)).1 e
/-- lengths alone tell the error -/
theorem decX_len {k m : Int} {h : List Bool} {A B : List (List UInt8)} (e : A.length = B.length) (he : ∀ i, (ro A i).length = (ro B i).length) : decX k m h A = decX k m h B := by
  have d : OkH k m h A ↔ OkH k m h B := by
    unfold OkH EvenH
    rw [e]
    simp only [he]
  unfold decX
  by_cases c : OkC k m
  · rw [if_pos c, if_pos c]
    by_cases dA : OkH k m h A
    · rw [if_pos dA, if_pos (d.1 dA)]
    · rw [if_neg dA, if_neg fun x => dA (d.2 x)]
  · rw [if_neg c, if_neg c]

end Go.Proofs.Ytchfonofjbpmaaa.Gf

/-
  SLICES OF BOOLS IN MEMORY: 'RdB w v h': the slice value v reads, in the world w, as the bools h. No program's function is named here.
-/

namespace Go.Proofs.Ytchfonofjbpmaaa.Gf
set_option linter.unusedVariables false
set_option linter.unusedSimpArgs false
open Go.RowKit

def RdB (w : World) (v : Value) (h : List Bool) : Prop :=
  ∃ (a : Option Addr) (cap : Nat), v = .slice a h.length cap ∧ h.length ≤ cap ∧ cap ≤ maxLen ∧ (a = none → cap = 0) ∧ ∀ i, i < h.length → ∃ b off, a = some ⟨b, off, none⟩ ∧ b < w.heap.size ∧ w.cell? ⟨b, off + i, none⟩ = some (.bool (hb h i))
theorem RdB.below {w w' : World} {v : Value} {h : List Bool} (r : RdB w v h) (hb : Below w.heap.size w w') : RdB w' v h := by
  obtain ⟨a, cap, h1, h2, h3, h4, h5⟩ := r
  refine ⟨a, cap, h1, h2, h3, h4, fun i hi => ?_⟩
  obtain ⟨b, off, k1, k2, k3⟩ := h5 i hi
  exact ⟨b, off, k1, Nat.lt_of_lt_of_le k2 hb.size, (hb.cell (p := ⟨b, off + i, none⟩) k2).trans k3⟩
theorem RdB.drewN {w : World} {v : Value} {h : List Bool} (r : RdB w v h) (n : Nat) : RdB (w.drewN n) v h := r
theorem RdB.form {w : World} {v : Value} {h : List Bool} (r : RdB w v h) : ∃ a c, v = .slice a h.length c := by
  obtain ⟨a, c, e, _⟩ := r
  exact ⟨a, c, e⟩
theorem RdB.len {w : World} {v : Value} {h : List Bool} (r : RdB w v h) : h.length ≤ maxLen := by
  obtain ⟨a, c, e, h1, h2, _⟩ := r
  omega
theorem RdB.lenEq {w : World} {a : Option Addr} {n c : Nat} {h : List Bool} (r : RdB w (.slice a n c) h) : n = h.length := by
  obtain ⟨a', c', e, _⟩ := r
  simp at e
  exact e.2.1
/-- a bool, as the walk meets it -/
theorem RdB.at {w : World} {a : Option Addr} {n c : Nat} {h : List Bool} (r : RdB w (.slice a n c) h) {i : Nat} (hi : i < h.length) : ∃ b off, a = some ⟨b, off, none⟩ ∧ b < w.heap.size ∧ w.cell? ⟨b, off + i, none⟩ = some (.bool (hb h i)) := by
  obtain ⟨a', c', e, h1, h2, h3, h4⟩ := r
  simp at e
  obtain ⟨rfl, rfl, rfl⟩ := e
  exact h4 i hi
theorem RdB.get {w : World} {b off n c : Nat} {h : List Bool} (r : RdB w (.slice (some ⟨b, off, none⟩) n c) h) {i : Nat} (hi : i < h.length) : w.cell? ⟨b, off + i, none⟩ = some (.bool (hb h i)) := by
  obtain ⟨b', off', e, _, h1⟩ := r.at hi
  simp at e
  obtain ⟨rfl, rfl⟩ := e
  exact h1
theorem rdB_none {w : World} : RdB w (.slice none 0 0) [] := ⟨none, 0, rfl, Nat.le_refl _, Nat.zero_le _, fun _ => rfl, fun i hi => by simp at hi⟩
/-- a literal of bools -/
theorem rdB_lit {w : World} {n b : Nat} {cs : Array Value} {e : Nat} (h : List Bool) (hb0 : b = w.heap.size) (hn : h.length = n) (hs : cs.toList = h.map Value.bool) (hl : n ≤ 1000000) : RdB (w.alloc (.cells cs e)) (.slice (some ⟨b, 0, none⟩) n n) h := by
  subst hb0 hn
  refine ⟨some ⟨w.heap.size, 0, none⟩, h.length, rfl, Nat.le_refl _, by unfold maxLen; omega, nofun, fun i hi => ⟨w.heap.size, 0, rfl, by simp, ?_⟩⟩
  rw [Nat.zero_add, World.cell?_alloc_new, ← Array.getElem?_toList, hs, List.getElem?_map, List.getElem?_eq_getElem hi]
  simp [hb, List.getD, hi]
/-- A slice of bools that came in, as the frame of a statement's proof tells it. -/
theorem rdB_row {w : World} {a : Addr} {len cap : Nat} {B : Nat → Bool} (hl : len ≤ cap) (hm : cap ≤ maxLen) (h : ∀ i, i < cap → w.cell? (a.add i) = some (.bool (B i))) : ∃ p, RdB w (.slice (some a) len cap) p := by
  have hll : ((List.range len).map B).length = len := by simp
  refine ⟨(List.range len).map B, some a, cap, by rw [hll], by rw [hll]; exact hl, hm, nofun, fun i hi => ?_⟩
  rw [hll] at hi
  have h1 := h i (by omega)
  obtain ⟨b, off, spot⟩ := a
  have hspot : spot = none := by
    have h0 := World.cell?_spot (h 0 (by omega))
    simpa [Addr.add] using h0
  subst hspot
  rw [add_at] at h1
  refine ⟨b, off, rfl, World.block_lt_of_cell? w _ h1, ?_⟩
  rw [h1]
  simp [hb, List.getD, hi]

end Go.Proofs.Ytchfonofjbpmaaa.Gf

/-
  A LAW ON A BUILTIN: 'append(s, p...)', s a row of the call's own, p whatever slice of bytes (nil, empty, or not): the bytes of p behind those of s. Made of the library's laws on append; no program's function is named here.
-/

namespace Go.Proofs.Ytchfonofjbpmaaa.Gf
set_option linter.unusedVariables false
set_option linter.unusedSimpArgs false
open Go.RowKit

theorem wpList_append_rd {P : Program} (w : World) {ops : Array Oper} {rest : List Oper} {o : Oper} {a : Act} {Q : Exit → Act → World → Prop} (hgd : o.guard = none) (s x : Operand) (t : TypeId)
    (ho : o.op = .call { callee := .builtin .append, args := #[s, x], argTypes := #[t, t] })
    (base : Nat) (e : TypeId) (i : TypeInfo) (ht : P.underlying t = some (.slice e)) (hi : P.info? e = some i) (hz : i.zero = some (.int .u8 0)) (hsize : i.size = 1) (hby : i.bytes = 1)
    (v : Value) (n : Nat) (xs : List Value) (hs : a.eval s = v) (hown : w.ownsRow base e 1 v n xs) (va : Value) (p : List UInt8) (hx : a.eval x = va) (hr : Rd w va p) (hl : n + p.length ≤ 1000000) (hbase : base ≤ w.heap.size)
    (h : ∀ v' w', w'.ownsRow base e 1 v' (n + p.length) (xs ++ p.map vb) → w.grownBy w' v.ownBlock → wpList P ops Q rest (a.put o.dst v') w') : wpList P ops Q (o :: rest) a w := by
  rcases hr with ⟨ao, cap, rfl, rfl, hc, hn⟩ | ⟨b, off, cap, hp0, rfl, h1, h2, h3, hpc⟩
  · rcases ao with _ | ad
    · have := hn rfl
      subst this
      refine wpList_append_own_none hgd s x t ho base e i 1 ht hi v n xs hs hown hx ?_
      exact h v w (by simpa using hown) (World.grownBy.refl _ _)
    · refine wpList_append_own w hgd s x t ho base e i (.int .u8 0) 1 1 ht hi hz hsize hby rfl (by decide) v n xs hs hown ad 0 cap [] hx rfl (by intro j u hj; simp at hj) (by intro u hu; simp at hu) (by unfold maxLen; omega) (by omega) hbase ?_
      intro v' w' ho' hg' _
      exact h v' w' (by simpa using ho') hg'
  · refine wpList_append_own w hgd s x t ho base e i (.int .u8 0) 1 1 ht hi hz hsize hby rfl (by decide) v n xs hs hown ⟨b, off, none⟩ p.length cap ((p.take p.length).map vb) hx (by simp) (news_of hpc) (vb_one _) (by unfold maxLen; omega) (by omega) hbase ?_
    intro v' w' ho' hg' _
    exact h v' w' (by simpa using ho') hg'

end Go.Proofs.Ytchfonofjbpmaaa.Gf

/-
  ROWS OF NUMBERS (places) OF THE CALL's OWN. No program's function is named here.
-/

namespace Go.Proofs.Ytchfonofjbpmaaa.Gf
set_option linter.unusedVariables false
set_option linter.unusedSimpArgs false
open Go.RowKit

def vi (z : Nat) : Value := .int .i64 (z : Int)
def toI (zs : List Nat) : List Int := zs.map fun (z : Nat) => (z : Int)
theorem toI_length (zs : List Nat) : (toI zs).length = zs.length := by simp [toI]
theorem toI_getD (zs : List Nat) (i : Nat) : (toI zs).getD i 0 = ((zs.getD i 0 : Nat) : Int) := by
  unfold toI
  by_cases h : i < zs.length
  · simp [List.getD, h]
  · simp [List.getD, Nat.le_of_not_lt h]
/-- a row of places of the call's own -/
def OwnI (w : World) (base e : Nat) (v : Value) (zs : List Nat) : Prop := w.ownsRow base e 1 v zs.length (zs.map vi)
theorem OwnI.form {w : World} {base e : Nat} {v : Value} {zs : List Nat} (h : OwnI w base e v zs) : ∃ a c, v = .slice a zs.length c := owns_form h
theorem OwnI.cell {w : World} {base e : Nat} {a : Option Addr} {n c : Nat} {zs : List Nat} (h : OwnI w base e (.slice a n c) zs) {i : Nat} (hi : i < zs.length) : ∃ g, a = some ⟨g, 0, none⟩ ∧ g < w.heap.size ∧ base ≤ g ∧ w.cell? ⟨g, i, none⟩ = some (.int .i64 ((zs.getD i 0 : Nat) : Int)) := by
  have h' := h
  obtain ⟨_, ⟨e, hn⟩ | ⟨g, cap, cur, e, hg, hh, hc, hm, hs, ht⟩⟩ := h
  · omega
  · simp at e
    obtain ⟨rfl, rfl, rfl⟩ := e
    have hlt := World.ownsRow.lt h' g rfl
    refine ⟨g, rfl, hlt.2, hlt.1, ?_⟩
    rw [World.ownsRow.cellAt h' i (by omega), List.getElem?_map, List.getElem?_eq_getElem hi]
    simp [vi, List.getD, hi]
theorem OwnI.rd {w : World} {base e : Nat} {v : Value} {zs : List Nat} (h : OwnI w base e v zs) (hl : zs.length ≤ 1000000) : RdI w v (toI zs) := by
  obtain ⟨a, c, rfl⟩ := h.form
  by_cases h0 : zs = []
  · subst h0; exact Or.inl ⟨a, c, rfl, rfl⟩
  · have hpos : 0 < zs.length := List.length_pos_iff.2 h0
    obtain ⟨g, rfl, hg, _, _⟩ := h.cell hpos
    refine Or.inr ⟨g, 0, c, fun e => h0 (by unfold toI at e; simpa using e), by rw [toI_length], by rw [toI_length]; unfold maxLen; omega, hg, fun i hi => ?_⟩
    rw [toI_length] at hi
    obtain ⟨g', e, _, _, hc⟩ := h.cell hi
    simp at e
    subst e
    rw [Nat.zero_add, hc, toI_getD]
theorem OwnI.nil (w : World) (base e : Nat) : OwnI w base e (.slice none 0 0) [] := World.ownsRow_nil _ _ _ _
/-- a slice of places, as the walk meets it -/
theorem RdI.at {w : World} {a : Option Addr} {n c : Nat} {zs : List Int} (h : RdI w (.slice a n c) zs) {i : Nat} (hi : i < zs.length) : ∃ b off, a = some ⟨b, off, none⟩ ∧ b < w.heap.size ∧ w.cell? ⟨b, off + i, none⟩ = some (.int .i64 (zs.getD i 0)) := by
  rcases h with ⟨_, _, e, _⟩ | ⟨b, off, cap, _, e, _, hb, hc⟩
  · subst e; simp at hi
  · simp at e
    obtain ⟨rfl, rfl, rfl⟩ := e
    exact ⟨b, off, rfl, hb, hc i hi⟩
theorem RdI.get {w : World} {b off n c : Nat} {zs : List Int} (h : RdI w (.slice (some ⟨b, off, none⟩) n c) zs) {i : Nat} (hi : i < zs.length) : w.cell? ⟨b, off + i, none⟩ = some (.int .i64 (zs.getD i 0)) := by
  obtain ⟨b', off', e, _, h1⟩ := h.at hi
  simp at e
  obtain ⟨rfl, rfl⟩ := e
  exact h1
/-- 'append(s, x)' on places of the call's own, x laid as a list of one -/
theorem wpList_append_int {P : Program} {wr : World} {ops : Array Oper} {rest : List Oper} {o : Oper} {a : Act} {Q : Exit → Act → World → Prop} (hgd : o.guard = none) (s xo : Operand) (t : TypeId)
    (ho : o.op = .call { callee := .builtin .append, args := #[s, xo], argTypes := #[t, t] })
    (base e : Nat) (i : TypeInfo) (ht : P.underlying t = some (.slice e)) (hi : P.info? e = some i) (hz : i.zero = some (.int .i64 0)) (hsize : i.size = 1) (hby : i.bytes = 8)
    (v : Value) (zs : List Nat) (hs : a.eval s = v) (hO : OwnI wr base e v zs) (z : Nat) (et c : Nat) (hxo : a.eval xo = .slice (some ⟨wr.heap.size, 0, none⟩) 1 c) (hl : zs.length ≤ 100000) (hbase : base ≤ wr.heap.size)
    (h : ∀ v' w2, OwnI w2 base e v' (zs ++ [z]) → Below base wr w2 → wpList P ops Q rest (a.put o.dst v') w2) : wpList P ops Q (o :: rest) a (wr.alloc (.cells #[.int .i64 (z : Int)] et)) := by
  refine wpList_plain hgd fun K hK => ?_
  obtain ⟨v', w', hrun, h2, h3, _, h5⟩ := run_append_own_at (P := P) (wr.alloc (.cells #[.int .i64 (z : Int)] et)) base t o.type e i (.int .i64 0) 1 8 ht hi hz hsize hby rfl (by decide) v zs.length (zs.map vi) (World.ownsRow.alloc hO _) ⟨wr.heap.size, 0, none⟩ 1 c [vi z] rfl (by intro j y hj; rw [add_at, Nat.zero_add]; rcases j with _ | j <;> simp at hj; subst hj; simp [vi]) (by intro y hy; simp at hy; rw [hy]; rfl) (by unfold maxLen; omega) (by omega) (by simp; omega)
  unfold Oper.wp execOp
  simp only [ho, resolve, invoke, builtin, Sem.run_bind, Sem.run_pure, Result.andThen_ok, List.map_toArray, List.map_cons, List.map_nil, hs, hxo, hrun]
  refine hK _ _ (h v' w' ?_ ?_)
  · unfold OwnI
    rw [List.length_append, List.map_append]
    exact h2
  · exact ((Below.refl base wr).alloc hbase _).grown h3 (by simp; omega) (fun q hq => (World.ownsRow.lt hO q hq).1)

end Go.Proofs.Ytchfonofjbpmaaa.Gf

