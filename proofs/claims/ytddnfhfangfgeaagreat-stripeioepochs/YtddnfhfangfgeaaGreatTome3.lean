/- TEXTS JOINED: PoMulMath, PoOnl, PoInfo, PoDivMath, PoApi, PoOnly, PoSame, PoAppend, PoLaws, PoTop, PoShort1. -/
import Derived.Test.YtddnfhfangfgeaaGreatChecked
import GoSem.Claim
import GoSem.ClaimJoined
import GoSem.ClaimMapViews
import Derived.JoinedTies
import Derived.KernelRfl
import Derived.WalkKit
import Derived.Deep.QuietTactic
import Derived.BigQuiet
import Derived.WalkLawsBesides
import Derived.WalkSpells
import Derived.OpenShut
import Derived.Test.YtddnfhfangfgeaaGreatRows
import Derived.Test.YtddnfhfangfgeaaGreatTome2
import Derived.Test.YtddnfhfangfgeaaGreatTome1
import Derived.Laws.AppendOwnNone
namespace Go.Proofs.YtddnfhfangfgeaaGreat.Gf
set_option linter.unusedVariables false
set_option linter.unusedSimpArgs false
open Go.RowKit
/-- what the first i numbers of p give at the place t -/
def pc (p q : Nat → UInt8) (i t : Nat) : UInt8 := S i (fun j => if j ≤ t then mu (p j) (q (t - j)) else 0)
theorem pc_whole {p q : Nat → UInt8} {n : Nat} (hp : Fin0 p n) : pc p q n = conv p q := by
  funext t
  unfold pc conv
  have e1 : S (n + (t + 1)) (fun j => if j ≤ t then mu (p j) (q (t - j)) else 0) = S n (fun j => if j ≤ t then mu (p j) (q (t - j)) else 0) :=
    S_more (by omega) fun i h1 _ => by split
                                       · rw [hp i h1, zero_mu]
                                       · rfl
  have e2 : S (n + (t + 1)) (fun j => if j ≤ t then mu (p j) (q (t - j)) else 0) = S (t + 1) (fun j => if j ≤ t then mu (p j) (q (t - j)) else 0) :=
    S_more (by omega) fun i h1 _ => if_neg (by omega)
  rw [← e1, e2]
  exact S_congr fun i hi => if_pos (by omega)
theorem upto_set {f g : Nat → UInt8} {L j : Nat} (hj : j < L) (x : UInt8) (h : ∀ t, g t = if t = j then x else f t) : (upto f L).set j x = upto g L := by
  refine co_ext (by simp [upto]) fun i hi => ?_
  rw [List.length_set, upto_length] at hi
  rw [co_set x (by rw [upto_length]; exact hj)]
  rw [upto, co_map_range f hi, upto, co_map_range g hi, h]
theorem upto_congr {f g : Nat → UInt8} {L : Nat} (h : ∀ t, t < L → f t = g t) : upto f L = upto g L := by
  refine co_ext (by simp [upto]) fun i hi => ?_
  rw [upto_length] at hi
  rw [upto, co_map_range f hi, upto, co_map_range g hi, h i hi]
theorem upto_zeros (L : Nat) : (upto (fun _ => 0) L).map vb = List.replicate L (.int .u8 0) := by
  unfold upto
  rw [List.map_map]
  refine List.ext_getElem (by simp) fun i h1 h2 => ?_
  simp [vb]
/-- A row of the call's own that holds the first L numbers of f (C: its capacity). -/
def RowF (w : World) (base e g L C : Nat) (f : Nat → UInt8) : Prop := w.ownsRow base e 1 (.slice (some ⟨g, 0, none⟩) L C) L ((upto f L).map vb)
theorem RowF.cell {w : World} {base e g L C : Nat} {f : Nat → UInt8} (h : RowF w base e g L C f) {j : Nat} (hj : j < L) : w.cell? ⟨g, j, none⟩ = some (.int .u8 ((f j).toNat : Nat)) := by
  have e1 := World.ownsRow.cellAt h j (by omega)
  rw [e1, List.getElem?_map]
  unfold upto
  rw [List.getElem?_map, List.getElem?_range hj]
  rfl
theorem RowF.unfrozen {w : World} {base e g L C : Nat} {f : Nat → UInt8} (h : RowF w base e g L C f) (j : Nat) : w.frozen? ⟨g, j, none⟩ = false := World.ownsRow.frozenAt h j
theorem RowF.store {w : World} {base e g L C : Nat} {f f' : Nat → UInt8} (h : RowF w base e g L C f) {j : Nat} (hj : j < L) (x : UInt8) (hf : ∀ t, f' t = if t = j then x else f t) :
    RowF (w.setCell ⟨g, j, none⟩ (.int .u8 ((x.toNat : Nat) : Int))) base e g L C f' := by
  have e1 := (World.ownsRow.stored h j (.int .u8 ((x.toNat : Nat) : Int))).1
  unfold RowF
  rw [← upto_set hj x hf, List.map_set]
  exact e1
theorem RowF.congr {w : World} {base e g L C : Nat} {f f' : Nat → UInt8} (h : RowF w base e g L C f) (hf : ∀ t, t < L → f t = f' t) : RowF w base e g L C f' := by
  unfold RowF; rw [← upto_congr hf]; exact h
theorem RowF.drew {w : World} {base e g L C : Nat} {f : Nat → UInt8} (h : RowF w base e g L C f) : RowF w.drew base e g L C f := World.ownsRow.drew h
theorem RowF.drewN {w : World} {base e g L C : Nat} {f : Nat → UInt8} (h : RowF w base e g L C f) (n : Nat) : RowF (w.drewN n) base e g L C f := h
theorem RowF.rd {w : World} {base e g L C : Nat} {f : Nat → UInt8} (h : RowF w base e g L C f) : Rd w (.slice (some ⟨g, 0, none⟩) L C) (upto f L) :=
  Rd.owned (base := base) (e := e) (by rw [upto_length]; exact h)
theorem RowF.made {w : World} {base e g L : Nat} (h : w.ownsRow base e 1 (.slice (some ⟨g, 0, none⟩) L L) L (madeCells (Value.cells (.int .u8 0)) (L * 1)).toList) : RowF w base e g L L (fun _ => 0) := by
  unfold RowF
  rw [upto_zeros]
  have e1 : (madeCells (Value.cells (.int .u8 0)) (L * 1)).toList = List.replicate L (.int .u8 0) := by
    rw [Nat.mul_one]; exact toList_madeCells_one _ _
  rw [← e1]; exact h
theorem RowF.lt {w : World} {base e g L C : Nat} {f : Nat → UInt8} (h : RowF w base e g L C f) : base ≤ g ∧ g < w.heap.size := World.ownsRow.lt h g rfl
/-- a store into another block -/
theorem RowF.other {w : World} {base e g L C : Nat} {f : Nat → UInt8} (h : RowF w base e g L C f) {a : Addr} (ha : g ≠ a.block) (u : Value) : RowF (w.setCell a u) base e g L C f := by
  obtain ⟨h0, h | ⟨g', cap, cur, hv, hg, hh, r⟩⟩ := h
  · exact ⟨h0, Or.inl h⟩
  · refine ⟨h0, Or.inr ⟨g', cap, cur, hv, hg, ?_, r⟩⟩
    have eg : g' = g := by simp at hv; exact hv.1.symm
    rw [Below.heap_setCell _ _ _ _ (by rw [eg]; exact ha)]
    exact hh
theorem RowF.later {w w' : World} {base e g L C : Nat} {f : Nat → UInt8} (h : RowF w base e g L C f) (hb : Below w.heap.size w w') : RowF w' base e g L C f := owns_later h hb
theorem RowF.base {w : World} {base base' e g L C : Nat} {f : Nat → UInt8} (h : RowF w base e g L C f) (hb : base' ≤ base) : RowF w base' e g L C f := ownsRow_base h hb
/-- A list that is owned, and is not empty, lies at the head of a block. -/
theorem RowF.of {w : World} {base e : Nat} {v : Value} {p : List UInt8} (h : w.ownsRow base e 1 v p.length (p.map vb)) (hp : 0 < p.length) : ∃ g C, v = .slice (some ⟨g, 0, none⟩) p.length C ∧ RowF w base e g p.length C (co p) := by
  obtain ⟨h0, ⟨_, h⟩ | ⟨g, cap, cur, hv, r⟩⟩ := h
  · omega
  · refine ⟨g, cap, hv, ?_⟩
    have e1 : upto (co p) p.length = p := co_ext (upto_length _ _) fun i hi => by
      rw [upto_length] at hi; exact co_map_range _ hi
    unfold RowF
    rw [e1]
    subst hv
    exact ⟨h0, Or.inr ⟨g, cap, cur, rfl, r⟩⟩
end Go.Proofs.YtddnfhfangfgeaaGreat.Gf

namespace Go.Proofs.YtddnfhfangfgeaaGreat.Gf
set_option linter.unusedVariables false
set_option linter.unusedSimpArgs false
open Go.RowKit
/-- Nothing but the block g has turned. -/
structure Only (g : Nat) (w w' : World) : Prop where
  os : w'.os = w.os
  tape : w'.tape = w.tape
  output : w'.output = w.output
  size : w'.heap.size = w.heap.size
  block : ∀ k, k ≠ g → w'.heap[k]? = w.heap[k]?
theorem Only.refl (g : Nat) (w : World) : Only g w w := ⟨rfl, rfl, rfl, rfl, fun _ _ => rfl⟩
theorem Only.trans {g : Nat} {a b c : World} (h : Only g a b) (k : Only g b c) : Only g a c :=
  ⟨k.os.trans h.os, k.tape.trans h.tape, k.output.trans h.output, k.size.trans h.size, fun i hi => (k.block i hi).trans (h.block i hi)⟩
theorem Only.drew {g : Nat} {a w : World} (h : Only g a w) : Only g a w.drew := ⟨h.os, h.tape, h.output, h.size, h.block⟩
theorem Only.setCell {g : Nat} {a w : World} (h : Only g a w) (j : Nat) (u : Value) : Only g a (w.setCell ⟨g, j, none⟩ u) := by
  have b := (Below.refl 0 w).setCell (p := ⟨g, j, none⟩) (Nat.zero_le _) u
  exact ⟨b.os.trans h.os, b.tape.trans h.tape, b.output.trans h.output, by rw [← h.size]; simp, fun k hk => (Below.heap_setCell w ⟨g, j, none⟩ u k hk).trans (h.block k hk)⟩
theorem Only.below {g B : Nat} {w w' : World} (h : Only g w w') (hB : B ≤ g) : Below B w w' :=
  ⟨h.os, h.tape, h.output, by rw [h.size]; exact Nat.le_refl _, fun k hk => h.block k (by omega)⟩
theorem Only.cell {g : Nat} {w w' : World} (h : Only g w w') {p : Addr} (hp : p.block ≠ g) : w'.cell? p = w.cell? p := World.cell?_of_block (w := w) (h.block p.block hp)
/-- a slice that does not lie in the block g -/
def Apart (g : Nat) (v : Value) : Prop := ∀ x n c, v = .slice (some x) n c → n = 0 ∨ x.block ≠ g
theorem Rd.only {g : Nat} {w w' : World} {v : Value} {p : List UInt8} (h : Rd w v p) (ha : Apart g v) (ho : Only g w w') : Rd w' v p := by
  rcases h with h | ⟨b, off, cap, h1, h2, h3, h4, h5, h6⟩
  · exact Or.inl h
  · have hb : b ≠ g := by
      rcases ha _ _ _ h2 with e | e
      · exact absurd (List.length_eq_zero_iff.1 e) h1
      · exact e
    exact Or.inr ⟨b, off, cap, h1, h2, h3, h4, by rw [ho.size]; exact h5, fun i hi => (ho.cell (p := ⟨b, off + i, none⟩) hb).trans (h6 i hi)⟩
theorem Rd.apart {w : World} {v : Value} {p : List UInt8} {g : Nat} (h : Rd w v p) (hg : w.heap.size ≤ g) : Apart g v := by
  intro x n c e
  rcases h with ⟨a, c', _, e2, _⟩ | ⟨b, off, cap, h1, h2, h3, h4, h5, h6⟩
  · subst e2; simp at e; exact Or.inl e.2.1.symm
  · subst h2; simp at e; obtain ⟨rfl, rfl, rfl⟩ := e; exact Or.inr (by show b ≠ g; omega)
theorem RowF.only {g g' : Nat} {w w' : World} {base e L C : Nat} {f : Nat → UInt8} (h : RowF w base e g L C f) (hg : g ≠ g') (o : Only g' w w') : RowF w' base e g L C f := by
  obtain ⟨h0, h | ⟨g2, cap, cur, hv, hgg, hh, r⟩⟩ := h
  · exact ⟨h0, Or.inl h⟩
  · refine ⟨h0, Or.inr ⟨g2, cap, cur, hv, hgg, ?_, r⟩⟩
    have eg : g2 = g := by simp at hv; exact hv.1.symm
    rw [o.block g2 (by rw [eg]; exact hg)]
    exact hh
theorem Only.drewN {g : Nat} {a w : World} (h : Only g a w) (n : Nat) : Only g a (w.drewN n) := ⟨h.os, h.tape, h.output, h.size, h.block⟩
theorem apart_block {g b off n c : Nat} (h : b ≠ g) : Apart g (.slice (some ⟨b, off, none⟩) n c) := by
  intro x n' c' e
  simp at e
  obtain ⟨rfl, _⟩ := e
  exact Or.inr h
theorem Only.frozen {g : Nat} {w w' : World} (h : Only g w w') {p : Addr} (hp : p.block ≠ g) : w'.frozen? p = w.frozen? p := World.frozen?_of_block (w := w) (h.block p.block hp)
end Go.Proofs.YtddnfhfangfgeaaGreat.Gf

namespace Go.Proofs.YtddnfhfangfgeaaGreat.Gf
theorem info_u8 : (Tryz.prog.info? 5).map (fun i => (i.zero, i.size, i.bytes)) = some (some (.int .u8 0), 1, 1) := by kernel_rfl
end Go.Proofs.YtddnfhfangfgeaaGreat.Gf

namespace Go.Proofs.YtddnfhfangfgeaaGreat.Gf
set_option linter.unusedVariables false
set_option linter.unusedSimpArgs false
/-- s and r are the quotient and the rest of p and q, without noughts at their tops. -/
structure IsDiv (p q s r : List UInt8) : Prop where
  ns : norm s = s
  nr : norm r = r
  eqn : ∀ i, co p i = conv (co s) (co q) i ^^^ co r i
  less : r.length < (norm q).length
  ls : s.length ≤ p.length
  lr : r.length ≤ p.length
/-- Some steps are done: j are left. -/
structure DivInv (p q fs fr : Nat → UInt8) (n m j : Nat) : Prop where
  eqn : ∀ t, p t = conv fs q t ^^^ fr t
  top : Fin0 fr (j + (m - 1))
  low : ∀ t, t < j → fs t = 0
  fin : Fin0 fs n
theorem conv_set {fs fs' q : Nat → UInt8} {i : Nat} {c : UInt8} (h0 : fs i = 0) (h : ∀ t, fs' t = if t = i then c else fs t) (t : Nat) :
    conv fs' q t = conv fs q t ^^^ (if i ≤ t then mu c (q (t - i)) else 0) := by
  have e : ∀ j, fs' j = fs j ^^^ (if j = i then c else 0) := by
    intro j; rw [h]
    by_cases ej : j = i
    · subst ej; rw [if_pos rfl, if_pos rfl, h0, zero_x]
    · rw [if_neg ej, if_neg ej, x_zero]
  have e1 : conv fs' q t = conv fs q t ^^^ S (t + 1) (fun j => mu (if j = i then c else 0) (q (t - j))) := by
    unfold conv
    rw [← S_xor]
    exact S_congr fun j _ => by rw [e, xor_mu]
  rw [e1]
  congr 1
  by_cases hit : i ≤ t
  · rw [if_pos hit, S_one (k := i) (by omega) (fun j _ hj => by rw [if_neg hj, zero_mu])]
    rw [if_pos rfl]
  · rw [if_neg hit]
    exact S_zero fun j hj => by rw [if_neg (by omega), zero_mu]
/-- the rest, less the first k numbers of c times q, i places higher -/
def rk (fr q : Nat → UInt8) (c : UInt8) (i k t : Nat) : UInt8 := fr t ^^^ (if i ≤ t ∧ t < i + k then mu c (q (t - i)) else 0)
theorem DivInv.step {p q fs fs' fr : Nat → UInt8} {n m i : Nat} (h : DivInv p q fs fr n m (i + 1)) (hm : 0 < m) (hq : Fin0 q m) (ht : q (m - 1) ≠ 0) (hin : i < n)
    (hs : ∀ t, fs' t = if t = i then mu (fr (i + m - 1)) (iv (q (m - 1))) else fs t) : DivInv p q fs' (rk fr q (mu (fr (i + m - 1)) (iv (q (m - 1)))) i m) n m i := by
  have c0 := h.low i (by omega)
  refine ⟨fun t => ?_, fun t htt => ?_, fun t htt => ?_, fun t htt => ?_⟩
  · rw [h.eqn t, conv_set c0 hs t]
    unfold rk
    rw [x_assoc]
    congr 1
    by_cases hit : i ≤ t
    · rw [if_pos hit]
      by_cases h2 : t < i + m
      · rw [if_pos ⟨hit, h2⟩, x_left, x_self, x_zero]
      · rw [if_neg (by omega), hq (t - i) (by omega), mu_zero, zero_x, x_zero]
    · rw [if_neg hit, if_neg (by omega), zero_x, x_zero]
  · unfold rk
    by_cases e : t = i + (m - 1)
    · subst e
      rw [if_pos (by omega), show i + (m - 1) - i = m - 1 by omega, show i + m - 1 = i + (m - 1) by omega, mu_assoc, mu_comm (iv (q (m - 1))), mu_iv ht, mu_one, x_self]
    · rw [if_neg (by omega), x_zero]
      exact h.top t (by omega)
  · rw [hs, if_neg (by omega)]; exact h.low t (by omega)
  · rw [hs, if_neg (by omega)]; exact h.fin t htt
theorem DivInv.start {p q : Nat → UInt8} {n m : Nat} (hp : Fin0 p n) (j : Nat) (hj : n ≤ j + (m - 1)) : DivInv p q (fun _ => 0) p n m j :=
  ⟨fun t => by rw [conv_comm, conv_zero (fun _ => rfl), zero_x], hp.mono hj, fun _ _ => rfl, fun _ _ => rfl⟩
theorem div_done {p q : List UInt8} {fs fr : Nat → UInt8} {n m : Nat} (h : DivInv (co p) (co q) fs fr n m 0) (hm : (norm q).length = m) (hm0 : 0 < m) (hn : n ≤ p.length) (hfr : Fin0 fr n) : IsDiv p q (mk fs n) (mk fr n) := by
  refine ⟨norm_mk h.fin, norm_mk hfr, fun i => ?_, ?_, ?_, ?_⟩
  · rw [co_mk h.fin, co_mk hfr]; exact h.eqn i
  · rw [mk_length, hm]
    have : deg fr n ≤ m - 1 := by
      have ht := h.top
      rw [Nat.zero_add] at ht
      by_cases e : deg fr n ≤ m - 1
      · exact e
      · exact absurd (ht (deg fr n - 1) (by omega)) (deg_top fr n (by omega))
    omega
  · rw [mk_length]; have := deg_le fs n; omega
  · rw [mk_length]; have := deg_le fr n; omega
end Go.Proofs.YtddnfhfangfgeaaGreat.Gf

namespace Go.Proofs.YtddnfhfangfgeaaGreat.Gf
set_option linter.unusedVariables false
set_option linter.unusedSimpArgs false
open Go.RowKit
def Makes (w : World) (p : List UInt8) (e : Ending) (w' : World) : Prop := ∃ v, e = .returned v ∧ Rd w' v p ∧ Below w.heap.size w w'
/-- a slice that lies in memory laid behind N (or has no memory) -/
def Far (N : Nat) (v : Value) : Prop := ∀ x n c, v = .slice (some x) n c → N ≤ x.block
theorem far_none {N n c : Nat} : Far N (.slice none n c) := fun _ _ _ h => by simp at h
theorem far_some {N : Nat} {x : Addr} {n c : Nat} (h : N ≤ x.block) : Far N (.slice (some x) n c) := fun _ _ _ e => by simp at e; rw [← e.1]; exact h
theorem Far.mono {N M : Nat} {v : Value} (h : Far N v) (k : M ≤ N) : Far M v := fun x n c e => Nat.le_trans k (h x n c e)
/-- the same, and where it lies -/
def MakesF (w : World) (p : List UInt8) (e : Ending) (w' : World) : Prop := ∃ v, e = .returned v ∧ Rd w' v p ∧ Below w.heap.size w w' ∧ Far w.heap.size v
theorem MakesF.plain {w : World} {p : List UInt8} {e : Ending} {w' : World} (h : MakesF w p e w') : Makes w p e w' := by
  obtain ⟨v, a, b, c, _⟩ := h
  exact ⟨v, a, b, c⟩
def MakesDivF (w : World) (p q : List UInt8) (e : Ending) (w' : World) : Prop := ∃ vs vr s r, e = .returned (.tuple #[vs, vr, .int .i64 0]) ∧ IsDiv p q s r ∧ Rd w' vs s ∧ Rd w' vr r ∧ Below w.heap.size w w' ∧ Far w.heap.size vs ∧ Far w.heap.size vr
theorem FieldAt.below {w w' : World} {b : Nat} (h : FieldAt w b) (o : Below w.heap.size w w') : FieldAt w' b :=
  ⟨fun i hi => (o.cell (p := ⟨b, i, none⟩) h.lt).trans (h.powers i hi), fun i hi => (o.cell (p := ⟨b, 255 + i, none⟩) h.lt).trans (h.places i hi), Nat.lt_of_lt_of_le h.lt o.size⟩
theorem Below.next {w w1 w2 : World} (h : Below w.heap.size w w1) (k : Below w1.heap.size w1 w2) : Below w.heap.size w w2 := h.trans (k.mono h.size)
theorem below_draws (w : World) (n : Nat) : Below w.heap.size w (w.drewN n) := ⟨rfl, rfl, rfl, Nat.le_refl _, fun _ _ => rfl⟩
end Go.Proofs.YtddnfhfangfgeaaGreat.Gf

namespace Go.Proofs.YtddnfhfangfgeaaGreat.Gf
set_option linter.unusedVariables false
set_option linter.unusedSimpArgs false
open Go.RowKit
theorem FieldAt.only {g b : Nat} {w w' : World} (h : FieldAt w b) (hb : b ≠ g) (o : Only g w w') : FieldAt w' b :=
  ⟨fun i hi => (o.cell (p := ⟨b, i, none⟩) hb).trans (h.powers i hi), fun i hi => (o.cell (p := ⟨b, 255 + i, none⟩) hb).trans (h.places i hi), by rw [o.size]; exact h.lt⟩
end Go.Proofs.YtddnfhfangfgeaaGreat.Gf

namespace Go.Proofs.YtddnfhfangfgeaaGreat.Gf
set_option linter.unusedVariables false
set_option linter.unusedSimpArgs false
open Go.RowKit
def sameB (p q : List UInt8) : Bool := decide (p = q)
theorem sameB_self (p : List UInt8) : sameB p p = true := decide_eq_true rfl
theorem sameB_of {p q : List UInt8} (h : p = q) : sameB p q = true := decide_eq_true h
set_option maxRecDepth 100000 in
set_option maxHeartbeats 1000000 in
/-- of unlike lengths -/
theorem same_len (a b : Option Addr) (n m c d : Nat) (w : World) (h : n ≠ m) :
    Calls Tryz.prog 25 #[.slice a n c, .slice b m d] w fun e w' => e = .returned (.bool false) ∧ w' = w := by
  have hb : ((n : Int) != (m : Int)) = true := by simp; omega
  go_enter Tryz.func25, Tryz.ntmps25
  go_wp2
  go_ret
  exact ⟨rfl, rfl⟩
set_option maxRecDepth 100000 in
set_option maxHeartbeats 1000000 in
/-- of nothing -/
theorem same_nil (a b : Option Addr) (c d : Nat) (w : World) :
    Calls Tryz.prog 25 #[.slice a 0 c, .slice b 0 d] w fun e w' => e = .returned (.bool true) ∧ w' = w := by
  go_enter Tryz.func25, Tryz.ntmps25
  go_wp2
  go_loop [5] (fun i => i = .int .i64 0) (fun _ => 0)
  case atStart => rfl
  case round =>
    subst hrel
    go_wp2
    go_ret
    exact ⟨rfl, rfl⟩
set_option maxRecDepth 100000 in
set_option maxHeartbeats 1000000 in
theorem same_main (b off b' off' c d : Nat) (p q : List UInt8) (w : World) (hl : q.length = p.length) (hm : p.length ≤ 9223372036854775807)
    (hp : ∀ i, i < p.length → w.cell? ⟨b, off + i, none⟩ = some (.int .u8 ((co p i).toNat : Nat)))
    (hq : ∀ i, i < p.length → w.cell? ⟨b', off' + i, none⟩ = some (.int .u8 ((co q i).toNat : Nat))) :
    Calls Tryz.prog 25 #[.slice (some ⟨b, off, none⟩) p.length c, .slice (some ⟨b', off', none⟩) p.length d] w fun e w' => e = .returned (.bool (sameB p q)) ∧ ∃ n, w' = w.drewN n := by
  have hb : ((p.length : Int) != (p.length : Int)) = false := by simp
  go_enter Tryz.func25, Tryz.ntmps25
  go_wp2
  clear hb
  go_loopw [5] (fun i wr => ∃ k : Nat, k ≤ p.length ∧ i = .int .i64 k ∧ Hid (∀ j, j < k → co p j = co q j) ∧ ∃ n, wr = w.drewN n) (fun i _ => p.length - (intOf i).toNat)
  case atStart => exact ⟨0, by omega, rfl, fun j hj => by omega, 0, rfl⟩
  case round =>
    obtain ⟨k, hk, rfl, hs, nd, rfl⟩ := hrel
    by_cases hlt : k < p.length
    · have c1 := hp k hlt
      have c2 := hq k hlt
      by_cases e : co p k = co q k
      · have hn : ((((co p k).toNat : Nat) : Int) != (((co q k).toNat : Nat) : Int)) = false := by rw [ne_u8]; simp [e]
        have HS : Hid (∀ j, j < k + 1 → co p j = co q j) := fun j hj => by
          by_cases e2 : j = k
          · rw [e2]; exact e
          · exact hs.out j (by omega)
        clear e hp hq hs
        go_wp2
        go_quiet (fail)
        go_wp2
        go_roundw
        case rel => exact ⟨k + 1, by omega, by go_num, HS, _, rfl⟩
        case measure => simp [intOf]; omega
      · have hn : ((((co p k).toNat : Nat) : Int) != (((co q k).toNat : Nat) : Int)) = true := by rw [ne_u8]; simp [e]
        have E : Hid (sameB p q = false) := by
          refine decide_eq_false (fun h => e ?_)
          rw [h]
        clear e hp hq hs
        go_wp2
        go_quiet (fail)
        go_wp2
        go_ret
        exact ⟨by rw [E.out]; rfl, _, World.drewN_drewN _ _ _⟩
    · have E : Hid (sameB p q = true) := sameB_of (co_ext hl.symm (fun i hi => hs.out i (by omega)))
      clear hp hq hs
      go_wp2
      go_ret
      exact ⟨by rw [E.out]; rfl, _, rfl⟩
theorem same_any {va vb : Value} {p q : List UInt8} {w : World} (hp : Rd w va p) (hq : Rd w vb q) :
    Calls Tryz.prog 25 #[va, vb] w fun e w' => e = .returned (.bool (sameB p q)) ∧ ∃ n, w' = w.drewN n := by
  have l1 := hp.len
  have l2 := hq.len
  unfold maxLen at l1 l2
  by_cases hl : p.length = q.length
  · rcases hp with ⟨a, c, rfl, rfl, _⟩ | ⟨b, off, c, hp0, rfl, _, _, _, hpc⟩
    · have : q = [] := List.length_eq_zero_iff.1 (by simpa using hl.symm)
      subst this
      rcases hq with ⟨a', c', _, rfl, _⟩ | ⟨_, _, _, h, _⟩
      · exact (same_nil a a' c c' w).mono fun e w' ⟨he, hw⟩ => ⟨by rw [he, sameB_self], 0, hw⟩
      · exact absurd rfl h
    · rcases hq with ⟨a', c', rfl, rfl, _⟩ | ⟨b', off', c', hq0, rfl, _, _, _, hqc⟩
      · exact absurd (List.length_eq_zero_iff.1 hl) hp0
      · rw [← hl]
        exact same_main b off b' off' c c' p q w hl.symm (by omega) hpc (fun i hi => hqc i (by omega))
  · have E : sameB p q = false := decide_eq_false (fun h => hl (by rw [h]))
    have key : ∃ a n c, va = .slice a n c ∧ n = p.length := by
      rcases hp with ⟨a, c, rfl, rfl, _⟩ | ⟨b, off, c, hp0, rfl, _⟩
      · exact ⟨_, _, _, rfl, rfl⟩
      · exact ⟨_, _, _, rfl, rfl⟩
    have key2 : ∃ a n c, vb = .slice a n c ∧ n = q.length := by
      rcases hq with ⟨a, c, rfl, rfl, _⟩ | ⟨b, off, c, hp0, rfl, _⟩
      · exact ⟨_, _, _, rfl, rfl⟩
      · exact ⟨_, _, _, rfl, rfl⟩
    obtain ⟨a, n, c, rfl, rfl⟩ := key
    obtain ⟨a', n', c', rfl, rfl⟩ := key2
    exact (same_len a a' _ _ c c' w hl).mono fun e w' ⟨he, hw⟩ => ⟨by rw [he, E], 0, hw⟩
end Go.Proofs.YtddnfhfangfgeaaGreat.Gf

namespace Go.Proofs.YtddnfhfangfgeaaGreat.Gf
set_option linter.unusedVariables false
set_option linter.unusedSimpArgs false
open Go.RowKit
theorem wpList_append_rd {P : Program} (w : World) {ops : Array Oper} {rest : List Oper} {o : Oper} {a : Act} {Q : Exit → Act → World → Prop} (hgd : o.guard = none) (s x : Operand) (t : TypeId)
    (ho : o.op = .call { callee := .builtin .append, args := #[s, x], argTypes := #[t, t] })
    (base : Nat) (e : TypeId) (i : TypeInfo) (ht : P.underlying t = some (.slice e)) (hi : P.info? e = some i) (hz : i.zero = some (.int .u8 0)) (hsize : i.size = 1) (hby : i.bytes = 1)
    (v : Value) (n : Nat) (xs : List Value) (hs : a.eval s = v) (hown : w.ownsRow base e 1 v n xs) (va : Value) (p : List UInt8) (hx : a.eval x = va) (hr : Rd w va p) (hl : n + p.length ≤ 1000000) (hbase : base ≤ w.heap.size)
    (h : ∀ v' w', w'.ownsRow base e 1 v' (n + p.length) (xs ++ p.map vb) → w.grownBy w' v.ownBlock → wpList P ops Q rest (a.put o.dst v') w') : wpList P ops Q (o :: rest) a w := by
  rcases hr with ⟨ao, cap, rfl, rfl, hc, hn⟩ | ⟨b, off, cap, hp0, rfl, h1, h2, h3, hpc⟩
  · rcases ao with _ | ad
    · have := hn rfl
      subst this
      refine wpList_append_own_none hgd s x t ho base e i 1 ht hi v n xs hs hown hx ?_
      exact h v w (by simpa using hown) (World.grownBy.refl _ _)
    · refine wpList_append_own w hgd s x t ho base e i (.int .u8 0) 1 1 ht hi hz hsize hby rfl (by decide) v n xs hs hown ad 0 cap [] hx rfl (by intro j u hj; simp at hj) (by intro u hu; simp at hu) (by unfold maxLen; omega) (by omega) hbase ?_
      intro v' w' ho' hg' _
      exact h v' w' (by simpa using ho') hg'
  · refine wpList_append_own w hgd s x t ho base e i (.int .u8 0) 1 1 ht hi hz hsize hby rfl (by decide) v n xs hs hown ⟨b, off, none⟩ p.length cap ((p.take p.length).map vb) hx (by simp) (news_of hpc) (vb_one _) (by unfold maxLen; omega) (by omega) hbase ?_
    intro v' w' ho' hg' _
    exact h v' w' (by simpa using ho') hg'
end Go.Proofs.YtddnfhfangfgeaaGreat.Gf

namespace Go.Proofs.YtddnfhfangfgeaaGreat.Gf
set_option linter.unusedVariables false
set_option linter.unusedSimpArgs false
theorem norm_length (p : List UInt8) : (norm p).length = deg (co p) p.length := mk_length _ _
theorem norm_length_le (p : List UInt8) : (norm p).length ≤ p.length := by rw [norm_length]; exact deg_le _ _
theorem norm_norm (p : List UInt8) : norm (norm p) = norm p := norm_mk (co_fin p)
theorem mulP_length_le (p q : List UInt8) : (mulP p q).length ≤ p.length + q.length := by rw [mulP, mk_length]; exact deg_le _ _
theorem mulP_comm (p q : List UInt8) : mulP p q = mulP q p := mk_ext (fin_conv _ _) (fin_conv _ _) (conv_comm _ _)
theorem mulP_length (p q : List UInt8) : (mulP p q).length = if (norm p).length = 0 ∨ (norm q).length = 0 then 0 else (norm p).length + (norm q).length - 1 := by
  rw [mulP, mk_length, norm_length, norm_length]
  exact deg_conv (co_fin p) (co_fin q) (fin_conv p q)
end Go.Proofs.YtddnfhfangfgeaaGreat.Gf

namespace Go.Proofs.YtddnfhfangfgeaaGreat.Gf
set_option linter.unusedVariables false
set_option linter.unusedSimpArgs false
open Go.RowKit
theorem topg_step {f : Nat → UInt8} {k : Nat} (hk : 0 < k) (h : f (k - 1) = 0) : deg f k = deg f (k - 1) := by
  obtain ⟨j, rfl⟩ : ∃ j, k = j + 1 := ⟨k - 1, by omega⟩
  rw [Nat.add_sub_cancel] at h ⊢
  rw [deg, if_pos h]
theorem topg_stop {f : Nat → UInt8} {k : Nat} (h : k = 0 ∨ f (k - 1) ≠ 0) : deg f k = k := by
  match k, h with
  | 0, _ => rfl
  | j + 1, h =>
    rw [Nat.add_sub_cancel] at h
    rw [deg, if_neg (by simpa using h)]
def lenV : Value → Nat
  | .slice _ n _ => n
  | _ => 0
set_option maxRecDepth 100000 in
set_option maxHeartbeats 1000000 in
theorem top_main (b off c : Nat) (p : List UInt8) (w : World) (hl : p.length ≤ 140737488355328) (hm : p.length ≤ c) (hcm : c ≤ maxLen)
    (hp : ∀ i, i < p.length → w.cell? ⟨b, off + i, none⟩ = some (.int .u8 ((co p i).toNat : Nat))) :
    Calls Tryz.prog 202 #[.slice (some ⟨b, off, none⟩) p.length c] w fun e w' => e = .returned (.slice (some ⟨b, off, none⟩) (norm p).length c) ∧ w' = w := by
  unfold maxLen at hcm
  go_enter Tryz.func202, Tryz.ntmps202
  go_wp2
  go_loop [0] (fun v => ∃ k : Nat, k ≤ p.length ∧ v = .slice (some ⟨b, off, none⟩) k c ∧ Hid (deg (co p) p.length = deg (co p) k)) (fun v => lenV v)
  case atStart => exact ⟨p.length, Nat.le_refl _, rfl, rfl⟩
  case round =>
    obtain ⟨k, hk, rfl, hd⟩ := hrel
    by_cases hgo : 0 < k ∧ co p (k - 1) = 0
    · obtain ⟨h0, hz⟩ := hgo
      have c1 : w.cell? ⟨b, off + (k - 1), none⟩ = some (.int .u8 0) := by rw [hp (k - 1) (by omega), hz]; rfl
      have HD : Hid (deg (co p) p.length = deg (co p) (k - 1)) := by show _ = _; rw [hd.out]; exact topg_step h0 hz
      clear hz hd
      go_wp2
      go_round
      case rel => exact ⟨k - 1, by omega, by go_num, HD⟩
      case measure => simp [lenV]; omega
    · have hstop : k = 0 ∨ co p (k - 1) ≠ 0 := by
        by_cases h0 : k = 0
        · exact Or.inl h0
        · exact Or.inr (fun h => hgo ⟨by omega, h⟩)
      have HK : Hid ((norm p).length = k) := by show _ = _; rw [norm_length, hd.out]; exact topg_stop hstop
      clear hd hgo
      by_cases h0 : k = 0
      · subst h0
        clear hp hstop
        go_wp2
        go_ret
        exact ⟨by rw [HK.out]; rfl, rfl⟩
      · have hne := hstop.resolve_left h0
        have c1 := hp (k - 1) (by omega)
        have c2 : ((((co p (k - 1)).toNat : Nat) : Int) == 0) = false := by rw [eq_u8_zero]; simpa using hne
        clear hne hstop hp
        go_wp2
        go_ret
        exact ⟨by rw [HK.out]; rfl, rfl⟩
set_option maxRecDepth 100000 in
set_option maxHeartbeats 1000000 in
theorem top_nil (ao : Option Addr) (c : Nat) (w : World) :
    Calls Tryz.prog 202 #[.slice ao 0 c] w fun e w' => e = .returned (.slice ao 0 c) ∧ w' = w := by
  go_enter Tryz.func202, Tryz.ntmps202
  go_wp2
  go_loop [0] (fun v => v = .slice ao 0 c) (fun v => 0)
  case atStart => rfl
  case round =>
    subst hrel
    go_wp2
    go_ret
    exact ⟨rfl, rfl⟩
theorem Rd.n {w : World} {ao : Option Addr} {n c : Nat} {p : List UInt8} (h : Rd w (.slice ao n c) p) : n = p.length := by
  obtain ⟨a, c', e⟩ := h.form
  simp at e
  exact e.2.1
/-- A slice, and the first numbers of it. -/
theorem Rd.part {w : World} {ao : Option Addr} {n c : Nat} {p : List UInt8} (h : Rd w (.slice ao n c) p) : Rd w (.slice ao (norm p).length c) (norm p) := by
  by_cases h0 : norm p = []
  · rw [h0]
    rcases h with ⟨a, c', e1, e2, hc, hn⟩ | ⟨b, off, c', hp0, e2, h1, h2, h3, hpc⟩
    · simp at e2; obtain ⟨rfl, _, rfl⟩ := e2
      exact Or.inl ⟨_, _, rfl, rfl, hc, hn⟩
    · simp at e2; obtain ⟨rfl, rfl, rfl⟩ := e2
      exact Or.inl ⟨_, _, rfl, rfl, h2, fun h => by cases h⟩
  · have hle := norm_length_le p
    rcases h with ⟨a, c', e1, e2, hc, hn⟩ | ⟨b, off, c', hp0, e2, h1, h2, h3, hpc⟩
    · subst e1; exact absurd rfl h0
    · simp at e2; obtain ⟨rfl, rfl, rfl⟩ := e2
      exact Or.inr ⟨b, off, _, h0, rfl, Nat.le_trans hle h1, h2, h3, fun i hi => by rw [co_norm]; exact hpc i (Nat.lt_of_lt_of_le hi hle)⟩
theorem top_any {ao : Option Addr} {n c : Nat} {p : List UInt8} {w : World} (hp : Rd w (.slice ao n c) p) (hl : p.length ≤ 140737488355328) :
    Calls Tryz.prog 202 #[.slice ao n c] w fun e w' => e = .returned (.slice ao (norm p).length c) ∧ w' = w := by
  have hn := hp.n
  subst hn
  rcases hp with ⟨a, c', rfl, e2, hc, hn⟩ | ⟨b, off, c', hp0, e2, h1, h2, h3, hpc⟩
  · exact top_nil ao c w
  · simp at e2; obtain ⟨rfl, rfl⟩ := e2
    exact top_main b off _ p w hl h1 h2 hpc
end Go.Proofs.YtddnfhfangfgeaaGreat.Gf

namespace Go.Proofs.YtddnfhfangfgeaaGreat.Gf
set_option linter.unusedVariables false
set_option linter.unusedSimpArgs false
open Go.RowKit
theorem rd_nil_any {w : World} : Rd w (.slice none 0 0) [] := Or.inl ⟨none, 0, rfl, rfl, Nat.zero_le _, fun _ => rfl⟩
theorem fmu_at {b : Nat} {w : World} (hF : FieldAt w b) (a c : UInt8) {x y : Int} (hx : x = ((a.toNat : Nat) : Int)) (hy : y = ((c.toNat : Nat) : Int)) :
    Calls Tryz.prog 188 #[.pointer (some ⟨b, 0, none⟩), .int .u8 x, .int .u8 y] w fun e w' => e = .returned (.int .u8 ((mu a c).toNat : Nat)) ∧ Below w.heap.size w w' := by
  rw [mu_toNat]
  exact (mul_at hF a.toNat c.toNat hx hy (u8_lt a) (u8_lt c)).mono fun e w' ⟨he, n, hw⟩ => ⟨he, by rw [hw]; exact below_draws w n⟩
end Go.Proofs.YtddnfhfangfgeaaGreat.Gf
