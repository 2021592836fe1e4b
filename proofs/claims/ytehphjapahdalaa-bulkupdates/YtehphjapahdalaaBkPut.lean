/-
  SHARDS OF THE CALL'S OWN INTO WHOSE PLACES OTHERS ARE STORED; literals of shards. No program's function is named here.
-/
import Derived.Test.YtehphjapahdalaaBkRd
import Derived.Test.YtehphjapahdalaaBkMath
namespace Go.Proofs.Ytehphjapahdalaa.Gf
set_option linter.unusedVariables false
set_option linter.unusedSimpArgs false
open Go.RowKit

/-- a literal of shards -/
theorem rs_lit {w : World} {cs : Array Value} {e n b : Nat} {L : List (List UInt8)} (hb : b = w.heap.size) (hn : n = L.length) (hl : n ≤ 1000000) (h : ∀ i, i < L.length → ∃ x, cs[i]? = some x ∧ Rd w x (ro L i)) : Rs (w.alloc (.cells cs e)) (.slice (some ⟨b, 0, none⟩) n n) L := by
  subst hb hn
  refine ⟨some ⟨w.heap.size, 0, none⟩, L.length, rfl, Nat.le_refl _, by unfold maxLen; omega, nofun, fun i hi => ?_⟩
  obtain ⟨x, h1, h2⟩ := h i hi
  exact ⟨w.heap.size, 0, x, rfl, by simp, by rw [Nat.zero_add, World.cell?_alloc_new]; exact h1, h2.below ((Below.refl _ _).alloc (Nat.le_refl _) _)⟩
theorem rs_lit1 {w : World} {x : Value} {e b : Nat} {p : List UInt8} (hb : b = w.heap.size) (h : Rd w x p) : Rs (w.alloc (.cells #[x] e)) (.slice (some ⟨b, 0, none⟩) 1 1) [p] :=
  rs_lit hb rfl (by decide) fun i hi => by
    rcases i with _ | i
    · exact ⟨x, rfl, h⟩
    · simp at hi
theorem rs_lit2 {w : World} {x y : Value} {e b : Nat} {p q : List UInt8} (hb : b = w.heap.size) (h : Rd w x p) (h2 : Rd w y q) : Rs (w.alloc (.cells #[x, y] e)) (.slice (some ⟨b, 0, none⟩) 2 2) [p, q] :=
  rs_lit hb rfl (by decide) fun i hi => by
    rcases i with _ | _ | i
    · exact ⟨x, rfl, h⟩
    · exact ⟨y, rfl, h2⟩
    · simp at hi; omega
/-- what a store of a slice to its place leaves -/
theorem Os.spot {wr w1 : World} {base T u G n C : Nat} {L : List (List UInt8)} (h : Os wr base T u (.slice (some ⟨G, 0, none⟩) n C) L) (b1 : Below wr.heap.size wr w1) {i : Nat} (hi : i < L.length) :
    ∃ y, w1.cell? ⟨G, i, none⟩ = some y ∧ w1.frozen? ⟨G, i, none⟩ = false ∧ G < w1.heap.size ∧ base ≤ G ∧ G < wr.heap.size := by
  obtain ⟨vals, hv, hr⟩ := h
  have hl : vals.length = L.length := by have := hv.1; omega
  have hG := World.ownsRow.lt hv G rfl
  have hv1 := owns_later hv b1
  have hn : n = L.length := by
    obtain ⟨_, ⟨e, _⟩ | ⟨g, cap, cur, e, _⟩⟩ := hv <;> simp at e
    exact e.2.1
  subst hn
  exact ⟨vals[i], by rw [World.ownsRow.cellAt hv1 i (by omega)]; exact List.getElem?_eq_getElem (by omega), World.ownsRow.frozenAt hv1 i, Nat.lt_of_lt_of_le hG.2 b1.size, hG.1, hG.2⟩
theorem grown_set (w : World) (g n : Nat) (x : Value) : w.grownBy (w.setCell ⟨g, n, none⟩ x) (some g) := by
  have O := (Only.refl g w).setCell n x
  exact ⟨O.os, O.tape, O.output, by rw [O.size]; exact Nat.le_refl _, fun q _ hq => O.block q (fun e => hq (by rw [e]))⟩
theorem Only.grown {g : Nat} {w w' : World} (O : Only g w w') : w.grownBy w' (some g) :=
  ⟨O.os, O.tape, O.output, by rw [O.size]; exact Nat.le_refl _, fun q _ hq => O.block q (fun e => hq (by rw [e]))⟩
/-- a shard of the call's own, stored to its place, and then told anew in its block g -/
theorem Os.put {wr w1 w3 : World} {base T u G n C g : Nat} {x : Value} {L : List (List UInt8)} {p : List UInt8} (h : Os wr base T u (.slice (some ⟨G, 0, none⟩) n C) L) (b1 : Below wr.heap.size wr w1) {i : Nat} (hi : i < L.length) (hx : x.ownBlock = some g) (hg : wr.heap.size ≤ g)
    (O : Only g (w1.setCell ⟨G, i, none⟩ x) w3) (hp : OwnP w3 base u x p) : Os w3 base T u (.slice (some ⟨G, 0, none⟩) n C) (L.set i p) := by
  obtain ⟨vals, hv, hr⟩ := h
  have hl : vals.length = L.length := by have := hv.1; omega
  have hG := World.ownsRow.lt hv G rfl
  have hv1 := owns_later hv b1
  have hn : n = L.length := by
    obtain ⟨_, ⟨e, _⟩ | ⟨g, cap, cur, e, _⟩⟩ := hv <;> simp at e
    exact e.2.1
  subst hn
  obtain ⟨v8, g8⟩ := World.ownsRow.stored hv1 i x
  have old : ∀ (j : Nat) (y : Value), vals[j]? = some y → ∀ k, y.ownBlock = some k → k < wr.heap.size := fun j y hy k hk => ((hr.own j y hy).lt hk).2
  have sets : ∀ (j : Nat) (y : Value), (vals.set i x)[j]? = some y → (j = i ∧ y = x) ∨ (j ≠ i ∧ vals[j]? = some y) := fun j y hy => by
    by_cases e : j = i
    · subst e
      rw [List.getElem?_set_self (by omega)] at hy
      exact Or.inl ⟨rfl, by cases hy; rfl⟩
    · rw [List.getElem?_set_ne (fun h => e h.symm)] at hy
      exact Or.inr ⟨e, hy⟩
  refine ⟨vals.set i x, by rw [List.length_set]; exact World.ownsRow.kept v8 O.grown (Or.inr (by simp [Value.ownBlock]; omega)), ⟨fun j y hy => ?_, fun j l y z hy hz hjl => ?_, fun j y hy => ?_⟩⟩
  · rw [ro_set hi]
    rcases sets j y hy with ⟨rfl, rfl⟩ | ⟨e, hy⟩
    · rw [if_pos rfl]; exact hp
    · rw [if_neg e]
      exact OwnP.kept (OwnP.kept (owns_later (hr.own j y hy) b1) g8 (hr.out j y hy)) O.grown (block_apart (old j y hy) (fun k e => by cases e; exact hg))
  · rcases sets j y hy with ⟨ej, ey⟩ | ⟨ej, hy'⟩
    · rcases sets l z hz with ⟨el, ez⟩ | ⟨el, hz'⟩
      · exact absurd (ej.trans el.symm) hjl
      · rw [ey]; exact block_apart' (s := wr.heap.size) (fun k hk => by rw [hx] at hk; cases hk; exact hg) (old l z hz')
    · rcases sets l z hz with ⟨el, ez⟩ | ⟨el, hz'⟩
      · rw [ez]; exact block_apart (old j y hy') (fun k hk => by rw [hx] at hk; cases hk; exact hg)
      · exact hr.diff j l y z hy' hz' hjl
  · rcases sets j y hy with ⟨rfl, rfl⟩ | ⟨e, hy⟩
    · right; rw [hx]; simp [Value.ownBlock]; omega
    · exact hr.out j y hy
/-- any slice stored to a place: what is read then -/
theorem Os.setRd {w : World} {base T u G n C : Nat} {x : Value} {L : List (List UInt8)} {p : List UInt8} (h : Os w base T u (.slice (some ⟨G, 0, none⟩) n C) L) {i : Nat} (hi : i < L.length) (hx : Rd w x p) (ha : Apart G x) : Rs (w.setCell ⟨G, i, none⟩ x) (.slice (some ⟨G, 0, none⟩) n C) (L.set i p) := by
  have hrs := h.rs
  obtain ⟨vals, hv, hr⟩ := h
  have hl : vals.length = L.length := by have := hv.1; omega
  have hG := World.ownsRow.lt hv G rfl
  obtain ⟨a, c, e, h1, h2, h3, h4⟩ := hrs
  simp at e
  obtain ⟨e1, e2, e3⟩ := e
  subst e1 e2 e3
  have g8 := grown_set w G i x
  refine ⟨some ⟨G, 0, none⟩, C, by rw [List.length_set], by rw [List.length_set]; exact h1, h2, nofun, fun j hj => ?_⟩
  rw [List.length_set] at hj
  rw [ro_set hi]
  by_cases ej : j = i
  · subst ej
    rw [if_pos rfl]
    obtain ⟨b, off, y, k1, k2, k3, k4⟩ := h4 j hj
    simp at k1
    obtain ⟨rfl, rfl⟩ := k1
    refine ⟨G, 0, x, rfl, by simpa using k2, ?_, hx.grown g8 ha⟩
    rw [Nat.zero_add] at k3 ⊢
    exact World.cell?_setCell_same w ⟨G, j, none⟩ x k3
  · rw [if_neg ej]
    have hy : vals[j]? = some vals[j] := List.getElem?_eq_getElem (by omega)
    refine ⟨G, 0, vals[j], rfl, by simpa using hG.2, ?_, Rd.owned (OwnP.kept (hr.own j _ hy) g8 (hr.out j _ hy))⟩
    rw [Nat.zero_add, World.cell?_setCell_other w ⟨G, i, none⟩ ⟨G, j, none⟩ x (by simp <;> omega), World.ownsRow.cellAt hv j (by omega), hy]
/-- 'make' of shards: none of them -/
theorem Os.blank {w : World} {base T u G n : Nat} {cs : List Value} (hv : w.ownsRow base T 1 (.slice (some ⟨G, 0, none⟩) n n) n cs) (hc : ∀ y ∈ cs, y = .slice none 0 0) : Os w base T u (.slice (some ⟨G, 0, none⟩) n n) (mkL n (fun _ => [])) := by
  have hl : cs.length = n := by have := hv.1; omega
  refine ⟨cs, by rw [mkL_length]; exact hv, ⟨fun i x hx => ?_, fun i j x y hx _ _ => ?_, fun i x hx => ?_⟩⟩
  · have hi : i < n := by
      rcases Nat.lt_or_ge i cs.length with h | h
      · omega
      · rw [List.getElem?_eq_none h] at hx; cases hx
    rw [ro_mkL hi, hc x (List.mem_of_getElem? hx)]
    exact World.ownsRow_nil _ _ _ _
  · left; rw [hc x (List.mem_of_getElem? hx)]; rfl
  · left; rw [hc x (List.mem_of_getElem? hx)]; rfl
/-- the parity shard i, where the data shard j is another one -/
def updR (F : Mx) (j : Nat) (p q : List UInt8) (A : List (List UInt8)) (i : Nat) : List UInt8 := upto (fun t => co (ro A i) t ^^^ mu (F i j) (co p t ^^^ co q t)) (ro A i).length
def updL (m : Nat) (F : Mx) (j : Nat) (p q : List UInt8) (A : List (List UInt8)) : List (List UInt8) := mkL m (updR F j p q A)
/-- the first r of them -/
def updP (m : Nat) (F : Mx) (j : Nat) (p q : List UInt8) (A : List (List UInt8)) (r : Nat) : List (List UInt8) := mkL m (fun i => if i < r then updR F j p q A i else [])
theorem updP_zero (m : Nat) (F : Mx) (j : Nat) (p q : List UInt8) (A : List (List UInt8)) : updP m F j p q A 0 = mkL m (fun _ => []) := mkL_congr fun i hi => if_neg (by omega)
theorem updP_all (m : Nat) (F : Mx) (j : Nat) (p q : List UInt8) (A : List (List UInt8)) : updP m F j p q A m = updL m F j p q A := mkL_congr fun i hi => if_pos hi
theorem updP_step {m : Nat} {F : Mx} {j : Nat} {p q : List UInt8} {A : List (List UInt8)} {r : Nat} (h : r < m) : (updP m F j p q A r).set r (updR F j p q A r) = updP m F j p q A (r + 1) := by
  refine ro_ext (by rw [List.length_set]; unfold updP; rw [mkL_length, mkL_length]) fun i hi => ?_
  rw [List.length_set] at hi
  unfold updP at hi ⊢
  rw [mkL_length] at hi
  rw [ro_set (by rw [mkL_length]; exact h), ro_mkL hi, ro_mkL hi]
  by_cases e : i = r
  · subst e; rw [if_pos rfl, if_pos (by omega)]
  · rw [if_neg e]
    by_cases h2 : i < r
    · rw [if_pos h2, if_pos (by omega)]
    · rw [if_neg h2, if_neg (by omega)]

end Go.Proofs.Ytehphjapahdalaa.Gf
