/-
  PLAIN MATHEMATICS: a product that is gathered number by number, as two loops do it; and such a list in memory. No program's function is named here.
-/
import Derived.Test.YtehphjapahdalaaPoRd
namespace Go.Proofs.Ytehphjapahdalaa.Gf
set_option linter.unusedVariables false
set_option linter.unusedSimpArgs false
open Go.RowKit

/-- what the first i numbers of p give at the place t -/
def pc (p q : Nat → UInt8) (i t : Nat) : UInt8 := S i (fun j => if j ≤ t then mu (p j) (q (t - j)) else 0)
/-- .. and the first k products of the next one -/
def pk (p q : Nat → UInt8) (i k t : Nat) : UInt8 := pc p q i t ^^^ (if i ≤ t ∧ t < i + k then mu (p i) (q (t - i)) else 0)
theorem pk_zero (p q : Nat → UInt8) (i : Nat) : pk p q i 0 = pc p q i := by
  funext t; unfold pk; rw [if_neg (by omega), x_zero]
theorem pk_at (p q : Nat → UInt8) (i k : Nat) : pk p q i k (i + k) = pc p q i (i + k) := by
  unfold pk; rw [if_neg (by omega), x_zero]
theorem pk_step (p q : Nat → UInt8) (i k t : Nat) : pk p q i (k + 1) t = if t = i + k then pk p q i k (i + k) ^^^ mu (p i) (q k) else pk p q i k t := by
  by_cases e : t = i + k
  · subst e
    rw [if_pos rfl, pk_at]
    unfold pk
    rw [if_pos (by omega), show i + k - i = k by omega]
  · rw [if_neg e]
    unfold pk
    by_cases h : i ≤ t ∧ t < i + k
    · rw [if_pos h, if_pos (by omega)]
    · rw [if_neg h, if_neg (by omega)]
theorem pk_whole {p q : Nat → UInt8} {m : Nat} (hq : Fin0 q m) (i : Nat) : pk p q i m = pc p q (i + 1) := by
  funext t
  unfold pk pc
  rw [S]
  congr 1
  by_cases h : i ≤ t
  · rw [if_pos h]
    by_cases h2 : t < i + m
    · rw [if_pos ⟨h, h2⟩]
    · rw [if_neg (by omega), hq (t - i) (by omega), mu_zero]
  · rw [if_neg h, if_neg (by omega)]
theorem pc_whole {p q : Nat → UInt8} {n : Nat} (hp : Fin0 p n) : pc p q n = conv p q := by
  funext t
  unfold pc conv
  have e1 : S (n + (t + 1)) (fun j => if j ≤ t then mu (p j) (q (t - j)) else 0) = S n (fun j => if j ≤ t then mu (p j) (q (t - j)) else 0) :=
    S_more (by omega) fun i h1 _ => by split
                                       · rw [hp i h1, zero_mu]
                                       · rfl
  have e2 : S (n + (t + 1)) (fun j => if j ≤ t then mu (p j) (q (t - j)) else 0) = S (t + 1) (fun j => if j ≤ t then mu (p j) (q (t - j)) else 0) :=
    S_more (by omega) fun i h1 _ => if_neg (by omega)
  rw [← e1, e2]
  exact S_congr fun i hi => if_pos (by omega)
theorem pc_zero (p q : Nat → UInt8) (t : Nat) : pc p q 0 t = 0 := rfl

theorem upto_set {f g : Nat → UInt8} {L j : Nat} (hj : j < L) (x : UInt8) (h : ∀ t, g t = if t = j then x else f t) : (upto f L).set j x = upto g L := by
  refine co_ext (by simp [upto]) fun i hi => ?_
  rw [List.length_set, upto_length] at hi
  rw [co_set x (by rw [upto_length]; exact hj)]
  rw [upto, co_map_range f hi, upto, co_map_range g hi, h]
theorem upto_congr {f g : Nat → UInt8} {L : Nat} (h : ∀ t, t < L → f t = g t) : upto f L = upto g L := by
  refine co_ext (by simp [upto]) fun i hi => ?_
  rw [upto_length] at hi
  rw [upto, co_map_range f hi, upto, co_map_range g hi, h i hi]
theorem upto_zeros (L : Nat) : (upto (fun _ => 0) L).map vb = List.replicate L (.int .u8 0) := by
  unfold upto
  rw [List.map_map]
  refine List.ext_getElem (by simp) fun i h1 h2 => ?_
  simp [vb]

/-- A row of the call's own that holds the first L numbers of f (C: its capacity). -/
def RowF (w : World) (base e g L C : Nat) (f : Nat → UInt8) : Prop := w.ownsRow base e 1 (.slice (some ⟨g, 0, none⟩) L C) L ((upto f L).map vb)
theorem RowF.cell {w : World} {base e g L C : Nat} {f : Nat → UInt8} (h : RowF w base e g L C f) {j : Nat} (hj : j < L) : w.cell? ⟨g, j, none⟩ = some (.int .u8 ((f j).toNat : Nat)) := by
  have e1 := World.ownsRow.cellAt h j (by omega)
  rw [e1, List.getElem?_map]
  unfold upto
  rw [List.getElem?_map, List.getElem?_range hj]
  rfl
theorem RowF.unfrozen {w : World} {base e g L C : Nat} {f : Nat → UInt8} (h : RowF w base e g L C f) (j : Nat) : w.frozen? ⟨g, j, none⟩ = false := World.ownsRow.frozenAt h j
theorem RowF.store {w : World} {base e g L C : Nat} {f f' : Nat → UInt8} (h : RowF w base e g L C f) {j : Nat} (hj : j < L) (x : UInt8) (hf : ∀ t, f' t = if t = j then x else f t) :
    RowF (w.setCell ⟨g, j, none⟩ (.int .u8 ((x.toNat : Nat) : Int))) base e g L C f' := by
  have e1 := (World.ownsRow.stored h j (.int .u8 ((x.toNat : Nat) : Int))).1
  unfold RowF
  rw [← upto_set hj x hf, List.map_set]
  exact e1
theorem RowF.congr {w : World} {base e g L C : Nat} {f f' : Nat → UInt8} (h : RowF w base e g L C f) (hf : ∀ t, t < L → f t = f' t) : RowF w base e g L C f' := by
  unfold RowF; rw [← upto_congr hf]; exact h
theorem RowF.drew {w : World} {base e g L C : Nat} {f : Nat → UInt8} (h : RowF w base e g L C f) : RowF w.drew base e g L C f := World.ownsRow.drew h
theorem RowF.drewN {w : World} {base e g L C : Nat} {f : Nat → UInt8} (h : RowF w base e g L C f) (n : Nat) : RowF (w.drewN n) base e g L C f := h
theorem RowF.rd {w : World} {base e g L C : Nat} {f : Nat → UInt8} (h : RowF w base e g L C f) : Rd w (.slice (some ⟨g, 0, none⟩) L C) (upto f L) :=
  Rd.owned (base := base) (e := e) (by rw [upto_length]; exact h)
theorem RowF.made {w : World} {base e g L : Nat} (h : w.ownsRow base e 1 (.slice (some ⟨g, 0, none⟩) L L) L (madeCells (Value.cells (.int .u8 0)) (L * 1)).toList) : RowF w base e g L L (fun _ => 0) := by
  unfold RowF
  rw [upto_zeros]
  have e1 : (madeCells (Value.cells (.int .u8 0)) (L * 1)).toList = List.replicate L (.int .u8 0) := by
    rw [Nat.mul_one]; exact toList_madeCells_one _ _
  rw [← e1]; exact h
theorem RowF.lt {w : World} {base e g L C : Nat} {f : Nat → UInt8} (h : RowF w base e g L C f) : base ≤ g ∧ g < w.heap.size := World.ownsRow.lt h g rfl
/-- a store into another block -/
theorem RowF.other {w : World} {base e g L C : Nat} {f : Nat → UInt8} (h : RowF w base e g L C f) {a : Addr} (ha : g ≠ a.block) (u : Value) : RowF (w.setCell a u) base e g L C f := by
  obtain ⟨h0, h | ⟨g', cap, cur, hv, hg, hh, r⟩⟩ := h
  · exact ⟨h0, Or.inl h⟩
  · refine ⟨h0, Or.inr ⟨g', cap, cur, hv, hg, ?_, r⟩⟩
    have eg : g' = g := by simp at hv; exact hv.1.symm
    rw [Below.heap_setCell _ _ _ _ (by rw [eg]; exact ha)]
    exact hh
theorem RowF.later {w w' : World} {base e g L C : Nat} {f : Nat → UInt8} (h : RowF w base e g L C f) (hb : Below w.heap.size w w') : RowF w' base e g L C f := owns_later h hb
theorem RowF.base {w : World} {base base' e g L C : Nat} {f : Nat → UInt8} (h : RowF w base e g L C f) (hb : base' ≤ base) : RowF w base' e g L C f := ownsRow_base h hb
/-- A list that is owned, and is not empty, lies at the head of a block. -/
theorem RowF.of {w : World} {base e : Nat} {v : Value} {p : List UInt8} (h : w.ownsRow base e 1 v p.length (p.map vb)) (hp : 0 < p.length) : ∃ g C, v = .slice (some ⟨g, 0, none⟩) p.length C ∧ RowF w base e g p.length C (co p) := by
  obtain ⟨h0, ⟨_, h⟩ | ⟨g, cap, cur, hv, r⟩⟩ := h
  · omega
  · refine ⟨g, cap, hv, ?_⟩
    have e1 : upto (co p) p.length = p := co_ext (upto_length _ _) fun i hi => by
      rw [upto_length] at hi; exact co_map_range _ hi
    unfold RowF
    rw [e1]
    subst hv
    exact ⟨h0, Or.inr ⟨g, cap, cur, rfl, r⟩⟩

end Go.Proofs.Ytehphjapahdalaa.Gf
