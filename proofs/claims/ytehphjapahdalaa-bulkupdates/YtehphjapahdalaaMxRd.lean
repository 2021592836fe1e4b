/-
  MATRICES IN MEMORY: a struct of two numbers and a slice that reads as the rows, one behind the other. No program's function is named here.
-/
import Derived.Test.YtehphjapahdalaaPoApi
import Derived.Test.YtehphjapahdalaaPoMulMath
import Derived.Test.YtehphjapahdalaaPoOnly
import Derived.Test.YtehphjapahdalaaMxMath
import Derived.Deep.AppendLies
namespace Go.Proofs.Ytehphjapahdalaa.Gf
set_option linter.unusedVariables false
set_option linter.unusedSimpArgs false
open Go.RowKit

/-- The numbers of r rows and c columns, one row behind the other. -/
def flat (r c : Nat) (F : Mx) : List UInt8 := upto (fun t => F (t / c) (t % c)) (r * c)
/-- .. and back: the number of a row and a column -/
def en (c : Nat) (A : List UInt8) : Mx := fun i j => co A (i * c + j)
theorem flat_length (r c : Nat) (F : Mx) : (flat r c F).length = r * c := upto_length _ _
theorem place_lt {r c i j : Nat} (hi : i < r) (hj : j < c) : i * c + j < r * c := by
  have : (i + 1) * c ≤ r * c := Nat.mul_le_mul_right c hi
  rw [Nat.add_mul, Nat.one_mul] at this
  omega
theorem place_div {c i j : Nat} (hj : j < c) : (i * c + j) / c = i := by
  rw [Nat.add_comm, Nat.add_mul_div_right _ _ (by omega), Nat.div_eq_of_lt hj, Nat.zero_add]
theorem place_mod {c i j : Nat} (hj : j < c) : (i * c + j) % c = j := by
  rw [Nat.add_comm, Nat.add_mul_mod_self_right, Nat.mod_eq_of_lt hj]
theorem en_flat {r c : Nat} (F : Mx) {i j : Nat} (hi : i < r) (hj : j < c) : en c (flat r c F) i j = F i j := by
  unfold en flat
  rw [upto, co_map_range _ (place_lt hi hj), place_div hj, place_mod hj]
theorem flat_congr {r c : Nat} {F G : Mx} (h : ∀ i j, i < r → j < c → F i j = G i j) : flat r c F = flat r c G := by
  unfold flat
  refine upto_congr fun t ht => ?_
  have hc : 0 < c := by
    rcases Nat.eq_zero_or_pos c with e | e
    · rw [e, Nat.mul_zero] at ht; omega
    · exact e
  exact h _ _ ((Nat.div_lt_iff_lt_mul hc).2 ht) (Nat.mod_lt _ hc)
theorem flat_en {r c : Nat} {A : List UInt8} (h : A.length = r * c) : flat r c (en c A) = A := by
  refine co_ext (by rw [flat_length, h]) fun t ht => ?_
  rw [flat_length] at ht
  unfold flat
  rw [upto, co_map_range _ ht]
  unfold en
  have := Nat.div_add_mod t c
  rw [Nat.mul_comm, this]
theorem flat_eq {r c : Nat} {A : List UInt8} {F : Mx} (h : A.length = r * c) (he : ∀ i j, i < r → j < c → en c A i j = F i j) : A = flat r c F := by
  rw [← flat_en h]; exact flat_congr he

/-- What 'make' lays: a row of noughts. -/
theorem RowF.laid (w : World) {base e n : Nat} (hb : base ≤ w.heap.size) (hn : n ≤ 1000000) : RowF (w.alloc (.cells (madeCells #[.int .u8 0] n) e)) base e w.heap.size n n (fun _ => 0) := by
  have h := World.ownsRow_lit w (size := 1) (e := e) (madeCells #[.int .u8 0] n) n (Nat.le_refl _) (by unfold maxLen; omega) (by rw [← Array.length_toList, toList_madeCells_one]; simp)
  unfold RowF
  rw [upto_zeros]
  rw [toList_madeCells_one] at h
  exact ownsRow_base h hb

theorem upto_add (f : Nat → UInt8) (n m : Nat) : upto f (n + m) = upto f n ++ upto (fun j => f (n + j)) m := by
  unfold upto
  rw [List.range_add, List.map_append, List.map_map]
  rfl
theorem flat_succ (k c : Nat) (F : Mx) : flat (k + 1) c F = flat k c F ++ upto (fun j => F k j) c := by
  unfold flat
  rw [Nat.add_mul, Nat.one_mul, upto_add]
  congr 1
  exact upto_congr fun j hj => by rw [place_div hj, place_mod hj]
theorem Rd.as {w : World} {v : Value} {p q : List UInt8} (h : Rd w v p) (e : p = q) : Rd w v q := e ▸ h
/-- A part of a slice. -/
theorem Rd.sub {w : World} {b off n cap : Nat} {A : List UInt8} (h : Rd w (.slice (some ⟨b, off, none⟩) n cap) A) (lo c : Nat) (hc : 0 < c) (hl : lo + c ≤ A.length) :
    Rd w (.slice (some ⟨b, off + lo, none⟩) c (cap - lo)) (upto (fun j => co A (lo + j)) c) := by
  rcases h with ⟨a, c', e1, _⟩ | ⟨b', off', c', hp0, e2, h1, h2, h3, hpc⟩
  · subst e1; simp at hl; omega
  · simp at e2
    obtain ⟨⟨rfl, rfl⟩, rfl, rfl⟩ := e2
    refine Or.inr ⟨b, off + lo, cap - lo, fun e => ?_, by rw [upto_length], by rw [upto_length]; omega, by omega, h3, fun i hi => ?_⟩
    · have := upto_length (fun j => co A (lo + j)) c
      rw [e] at this; simp at this; omega
    · rw [upto_length] at hi
      rw [upto, co_map_range _ hi, Nat.add_assoc]
      exact hpc _ (by omega)
/-- A matrix that stands in memory: whatever its numbers of rows and columns are. -/
def RdM (w : World) (v : Value) (r c : Int) (A : List UInt8) : Prop := ∃ vs, v = .agg #[.int .i64 r, .int .i64 c, vs] ∧ Rd w vs A
theorem RdM.below {w w' : World} {v : Value} {r c : Int} {A : List UInt8} (h : RdM w v r c A) (hb : Below w.heap.size w w') : RdM w' v r c A := by
  obtain ⟨vs, e, hr⟩ := h
  exact ⟨vs, e, hr.below hb⟩
/-- It may be. -/
def OkM (r c : Int) (A : List UInt8) : Prop := 0 ≤ r ∧ r ≤ 256 ∧ 0 ≤ c ∧ c ≤ 256 ∧ (A.length : Int) = r * c
theorem OkM.nat {r c : Int} {A : List UInt8} (h : OkM r c A) : ∃ r' c' : Nat, r = (r' : Int) ∧ c = (c' : Int) ∧ r' ≤ 256 ∧ c' ≤ 256 ∧ A.length = r' * c' := by
  obtain ⟨h1, h2, h3, h4, h5⟩ := h
  obtain ⟨r', rfl⟩ := Int.eq_ofNat_of_zero_le h1
  obtain ⟨c', rfl⟩ := Int.eq_ofNat_of_zero_le h3
  exact ⟨r', c', rfl, rfl, by omega, by omega, by exact_mod_cast h5⟩
theorem okM_mk {r c : Nat} {A : List UInt8} (hr : r ≤ 256) (hc : c ≤ 256) (h : A.length = r * c) : OkM r c A :=
  ⟨by omega, by omega, by omega, by omega, by rw [h]; exact_mod_cast rfl⟩
theorem mul_small {r c : Nat} (hr : r ≤ 256) (hc : c ≤ 256) : r * c ≤ 65536 := Nat.le_trans (Nat.mul_le_mul hr hc) (by decide)
/-- A variable of a matrix' type: its three cells. -/
structure Box (w : World) (b : Nat) (r c : Int) (vs : Value) : Prop where
  c0 : w.cell? ⟨b, 0, none⟩ = some (.int .i64 r)
  c1 : w.cell? ⟨b, 1, none⟩ = some (.int .i64 c)
  c2 : w.cell? ⟨b, 2, none⟩ = some vs
theorem Box.only {g b : Nat} {w w' : World} {r c : Int} {vs : Value} (h : Box w b r c vs) (hb : b ≠ g) (o : Only g w w') : Box w' b r c vs :=
  ⟨(o.cell (p := ⟨b, 0, none⟩) hb).trans h.c0, (o.cell (p := ⟨b, 1, none⟩) hb).trans h.c1, (o.cell (p := ⟨b, 2, none⟩) hb).trans h.c2⟩
theorem Box.below {B b : Nat} {w w' : World} {r c : Int} {vs : Value} (h : Box w b r c vs) (hb : b < B) (o : Below B w w') : Box w' b r c vs :=
  ⟨(o.cell (p := ⟨b, 0, none⟩) hb).trans h.c0, (o.cell (p := ⟨b, 1, none⟩) hb).trans h.c1, (o.cell (p := ⟨b, 2, none⟩) hb).trans h.c2⟩
/-- .. that may be written -/
structure Free (w : World) (b : Nat) : Prop where
  f0 : w.frozen? ⟨b, 0, none⟩ = false
  f1 : w.frozen? ⟨b, 1, none⟩ = false
  f2 : w.frozen? ⟨b, 2, none⟩ = false
theorem Free.only {g b : Nat} {w w' : World} (h : Free w b) (hb : b ≠ g) (o : Only g w w') : Free w' b :=
  ⟨(o.frozen (p := ⟨b, 0, none⟩) hb).trans h.f0, (o.frozen (p := ⟨b, 1, none⟩) hb).trans h.f1, (o.frozen (p := ⟨b, 2, none⟩) hb).trans h.f2⟩
theorem Free.below {B b : Nat} {w w' : World} (h : Free w b) (hb : b < B) (o : Below B w w') : Free w' b :=
  ⟨(o.frozen (p := ⟨b, 0, none⟩) hb).trans h.f0, (o.frozen (p := ⟨b, 1, none⟩) hb).trans h.f1, (o.frozen (p := ⟨b, 2, none⟩) hb).trans h.f2⟩
theorem Below.box {B b : Nat} {w w' : World} {r c : Int} {vs : Value} (o : Below B w w') (hb : b < B) (h : Box w b r c vs) : Box w' b r c vs := h.below hb o
theorem Below.free {B b : Nat} {w w' : World} (o : Below B w w') (hb : b < B) (h : Free w b) : Free w' b := h.below hb o
theorem Box.new (w : World) (r c : Int) (vs : Value) (t : TypeId) : Box (w.alloc (.cells #[.int .i64 r, .int .i64 c, vs] t)) w.heap.size r c vs := ⟨by simp, by simp, by simp⟩
theorem Free.new (w : World) (cs : Array Value) (t : TypeId) : Free (w.alloc (.cells cs t)) w.heap.size := ⟨World.frozen?_alloc_at cs t _ _ rfl, World.frozen?_alloc_at cs t _ _ rfl, World.frozen?_alloc_at cs t _ _ rfl⟩
theorem Box.alloc {w : World} {b : Nat} {r c : Int} {vs : Value} (h : Box w b r c vs) (hb : b < w.heap.size) (o : Obj) : Box (w.alloc o) b r c vs := h.below hb ((Below.refl _ _).alloc (Nat.le_refl _) _)
theorem Free.alloc {w : World} {b : Nat} (h : Free w b) (hb : b < w.heap.size) (o : Obj) : Free (w.alloc o) b := h.below hb ((Below.refl _ _).alloc (Nat.le_refl _) _)
/-- A matrix variable with a new row of noughts, as a literal with 'make' in it lays them, in either order. -/
def MadeM (w wx : World) (base u : Nat) (r c : Int) (m : Nat) (s : Value) : Prop :=
  ∃ ms gs : Nat, s = .pointer (some ⟨ms, 0, none⟩) ∧ w.heap.size ≤ ms ∧ w.heap.size ≤ gs ∧ ms ≠ gs ∧ Box wx ms r c (.slice (some ⟨gs, 0, none⟩) m m) ∧ Free wx ms ∧ RowF wx base u gs m m (fun _ => 0) ∧ Below w.heap.size w wx
theorem madeM_one (w : World) {base u t m : Nat} {r c : Int} (hb : base ≤ w.heap.size) (hm : m ≤ 1000000) :
    MadeM w ((w.alloc (.cells (madeCells #[.int .u8 0] m) u)).alloc (.cells #[.int .i64 r, .int .i64 c, .slice (some ⟨w.heap.size, 0, none⟩) m m] t)) base u r c m (.pointer (some ⟨w.heap.size + 1, 0, none⟩)) := by
  have hA : Below (w.heap.size + 1) (w.alloc (.cells (madeCells #[.int .u8 0] m) u)) ((w.alloc (.cells (madeCells #[.int .u8 0] m) u)).alloc (.cells #[.int .i64 r, .int .i64 c, .slice (some ⟨w.heap.size, 0, none⟩) m m] t)) := (Below.refl _ _).alloc (by simp) _
  have h1 := Box.new (w.alloc (.cells (madeCells #[.int .u8 0] m) u)) r c (.slice (some ⟨w.heap.size, 0, none⟩) m m) t
  have h2 := Free.new (w.alloc (.cells (madeCells #[.int .u8 0] m) u)) #[.int .i64 r, .int .i64 c, .slice (some ⟨w.heap.size, 0, none⟩) m m] t
  rw [World.size_alloc] at h1 h2
  exact ⟨w.heap.size + 1, w.heap.size, rfl, by omega, by omega, by omega, h1, h2, (RowF.laid w hb hm).later (by rw [World.size_alloc]; exact hA), ((Below.refl _ _).alloc (Nat.le_refl _) _).trans (hA.mono (by omega))⟩
theorem madeM_two (w : World) {base u t m : Nat} {r c : Int} (hb : base ≤ w.heap.size) (hm : m ≤ 1000000) :
    MadeM w ((w.alloc (.cells #[.int .i64 r, .int .i64 c, .slice (some ⟨w.heap.size + 1, 0, none⟩) m m] t)).alloc (.cells (madeCells #[.int .u8 0] m) u)) base u r c m (.pointer (some ⟨w.heap.size, 0, none⟩)) := by
  have h3 := RowF.laid (w.alloc (.cells #[.int .i64 r, .int .i64 c, .slice (some ⟨w.heap.size + 1, 0, none⟩) m m] t)) (base := base) (e := u) (n := m) (by rw [World.size_alloc]; omega) hm
  rw [World.size_alloc] at h3
  exact ⟨w.heap.size, w.heap.size + 1, rfl, by omega, by omega, by omega, (Box.new w r c _ t).alloc (by simp) _, (Free.new w _ t).alloc (by simp) _, h3, ((Below.refl _ _).alloc (Nat.le_refl _) _).alloc (by simp) _⟩
theorem MadeM.drew {w wx : World} {base u : Nat} {r c : Int} {m : Nat} {s : Value} (h : MadeM w wx base u r c m s) : MadeM w wx.drew base u r c m s := by
  obtain ⟨ms, gs, h0, h1, h2, h3, h4, h5, h6, h7⟩ := h
  exact ⟨ms, gs, h0, h1, h2, h3, ⟨h4.c0, h4.c1, h4.c2⟩, ⟨h5.f0, h5.f1, h5.f2⟩, h6.drew, h7.drew⟩
/-- The first T numbers of a matrix, row by row. -/
def pf (F : Mx) (c T t : Nat) : UInt8 := if t < T then F (t / c) (t % c) else 0
theorem pf_zero (F : Mx) (c t : Nat) : pf F c 0 t = 0 := if_neg (by omega)
theorem pf_step (F : Mx) (c T t : Nat) : pf F c (T + 1) t = if t = T then F (T / c) (T % c) else pf F c T t := by
  unfold pf
  by_cases e : t = T
  · subst e; rw [if_pos (by omega), if_pos rfl]
  · rw [if_neg e]
    by_cases h : t < T
    · rw [if_pos h, if_pos (by omega)]
    · rw [if_neg h, if_neg (by omega)]
theorem pf_all (F : Mx) (r c : Nat) : upto (pf F c (r * c)) (r * c) = flat r c F := upto_congr fun t ht => if_pos ht
theorem Box.grown {w w' : World} {b : Nat} {r c : Int} {vs : Value} {row : Option Nat} (h : Box w b r c vs) (hg : w.grownBy w' row) (hb : b < w.heap.size) (hne : some b ≠ row) : Box w' b r c vs :=
  ⟨(hg.cell_far ⟨b, 0, none⟩ hb hne).trans h.c0, (hg.cell_far ⟨b, 1, none⟩ hb hne).trans h.c1, (hg.cell_far ⟨b, 2, none⟩ hb hne).trans h.c2⟩
theorem Free.grown {w w' : World} {b : Nat} {row : Option Nat} (h : Free w b) (hg : w.grownBy w' row) (hb : b < w.heap.size) (hne : some b ≠ row) : Free w' b :=
  ⟨(hg.frozen_far ⟨b, 0, none⟩ hb hne).trans h.f0, (hg.frozen_far ⟨b, 1, none⟩ hb hne).trans h.f1, (hg.frozen_far ⟨b, 2, none⟩ hb hne).trans h.f2⟩
theorem Box.drew {w : World} {b : Nat} {r c : Int} {vs : Value} (h : Box w b r c vs) : Box w.drew b r c vs := ⟨h.c0, h.c1, h.c2⟩
theorem Box.drewN {w : World} {b : Nat} {r c : Int} {vs : Value} (h : Box w b r c vs) (n : Nat) : Box (w.drewN n) b r c vs := ⟨h.c0, h.c1, h.c2⟩
theorem Free.drewN {w : World} {b : Nat} (h : Free w b) (n : Nat) : Free (w.drewN n) b := ⟨h.f0, h.f1, h.f2⟩
theorem Free.drew {w : World} {b : Nat} (h : Free w b) : Free w.drew b := ⟨h.f0, h.f1, h.f2⟩
/-- A slice of numbers of rows. -/
def RdI (w : World) (v : Value) (zs : List Int) : Prop :=
  (∃ ao cap, zs = [] ∧ v = .slice ao 0 cap) ∨ (∃ b off cap, zs ≠ [] ∧ v = .slice (some ⟨b, off, none⟩) zs.length cap ∧ zs.length ≤ maxLen ∧ b < w.heap.size ∧ ∀ i, i < zs.length → w.cell? ⟨b, off + i, none⟩ = some (.int .i64 (zs.getD i 0)))
theorem RdI.below {w w' : World} {v : Value} {zs : List Int} (h : RdI w v zs) (hb : Below w.heap.size w w') : RdI w' v zs := by
  rcases h with h | ⟨b, off, cap, h1, h2, h3, h5, h6⟩
  · exact Or.inl h
  · exact Or.inr ⟨b, off, cap, h1, h2, h3, Nat.lt_of_lt_of_le h5 hb.size, fun i hi => (hb.cell (p := ⟨b, off + i, none⟩) h5).trans (h6 i hi)⟩
theorem RdI.form {w : World} {v : Value} {zs : List Int} (h : RdI w v zs) : ∃ a c, v = .slice a zs.length c := by
  rcases h with ⟨a, c, rfl, rfl⟩ | ⟨b, off, c, _, rfl, _⟩
  · exact ⟨a, c, rfl⟩
  · exact ⟨_, c, rfl⟩
theorem _root_.Go.RowKit.Below.drewN {B : Nat} {a w : World} (h : Below B a w) (n : Nat) : Below B a (w.drewN n) := ⟨h.os, h.tape, h.output, h.size, h.block⟩
theorem rd_lit2 {w : World} {n b : Nat} {cs : Array Value} {e : Nat} (p : List UInt8) (hb : b = w.heap.size) (hn : p.length = n) (hs : cs.toList = p.map vb) (hl : n ≤ 1000000) : Rd (w.alloc (.cells cs e)) (.slice (some ⟨b, 0, none⟩) n n) p := by
  subst hb; exact rd_lit p hn hs hl
theorem rdI_lit2 {w : World} {n b : Nat} {cs : Array Value} {e : Nat} (zs : List Int) (hb : b = w.heap.size) (hn : zs.length = n) (hs : cs.toList = zs.map (fun z => Value.int .i64 z)) (hl : n ≤ 1000000) : RdI (w.alloc (.cells cs e)) (.slice (some ⟨b, 0, none⟩) n n) zs := by
  subst hb hn
  by_cases h0 : zs = []
  · subst h0; exact Or.inl ⟨_, _, rfl, rfl⟩
  · refine Or.inr ⟨w.heap.size, 0, _, h0, rfl, by unfold maxLen; omega, by simp, fun i hi => ?_⟩
    rw [Nat.zero_add, World.cell?_alloc_new, ← Array.getElem?_toList, hs, List.getElem?_map, List.getElem?_eq_getElem hi]
    simp [List.getD, hi]
/-- A slice of numbers that came in, as the frame of a statement's proof tells it. -/
theorem rdI_row {w : World} {a : Option Addr} {len cap : Nat} {zs : List Int}
    (h : (a = none ∧ len = 0 ∧ cap = 0 ∧ zs = []) ∨ ∃ x, a = some x ∧ len ≤ cap ∧ cap ≤ maxLen ∧ zs.length = cap ∧ (∀ i, i < zs.length → w.cell? (x.add i) = some (.int .i64 (zs.getD i 0))) ∧ ∀ n ∈ zs, (Lit.int .i64 n).wf = true) :
    ∃ p : List Int, len = p.length ∧ RdI w (.slice a len cap) p := by
  rcases h with ⟨rfl, rfl, rfl, rfl⟩ | ⟨x, rfl, hl, hm, hz, hcell, hwz⟩
  · exact ⟨[], rfl, Or.inl ⟨none, 0, rfl, rfl⟩⟩
  · have hlen : (zs.take len).length = len := by rw [List.length_take]; omega
    refine ⟨zs.take len, hlen.symm, ?_⟩
    by_cases h0 : len = 0
    · subst h0
      exact Or.inl ⟨_, cap, by simp, rfl⟩
    · obtain ⟨b, off, spot⟩ := x
      have hc := hcell 0 (by omega)
      have hspot : spot = none := by simpa [Addr.add] using World.cell?_spot hc
      subst hspot
      have hbw : b < w.heap.size := by
        have e : w.cell? ⟨b, off, none⟩ = some (.int .i64 (zs.getD 0 0)) := by simpa [Addr.add] using hc
        exact World.block_lt_of_cell? w _ e
      refine Or.inr ⟨b, off, cap, fun h => by rw [h] at hlen; simp at hlen; omega, by rw [hlen], by rw [hlen]; omega, hbw, fun i hi => ?_⟩
      rw [hlen] at hi
      have e1 := hcell i (by omega)
      rw [add_at] at e1
      rw [e1]
      simp [List.getD, List.getElem?_take_of_lt hi]
theorem Rd.somewhere {w : World} {v : Value} {p : List UInt8} (h : Rd w v p) (hp : p ≠ []) : ∃ b off cap, v = .slice (some ⟨b, off, none⟩) p.length cap := by
  rcases h with ⟨a, c, e, _⟩ | ⟨b, off, cap, _, e, _⟩
  · exact absurd e hp
  · exact ⟨b, off, cap, e⟩
theorem Rd.cellAt {w : World} {b off n cap : Nat} {p : List UInt8} (h : Rd w (.slice (some ⟨b, off, none⟩) n cap) p) {i : Nat} (hi : i < p.length) : w.cell? ⟨b, off + i, none⟩ = some (.int .u8 ((co p i).toNat : Nat)) := by
  rcases h with ⟨a, c, e, _⟩ | ⟨b', off', cap', _, e, _, _, _, hc⟩
  · subst e; simp at hi
  · simp at e; obtain ⟨⟨rfl, rfl⟩, _⟩ := e; exact hc i hi
/-- All rows that are asked for are there. -/
def AllIn (r : Nat) (zs : List Int) : Prop := ∀ i, i < zs.length → 0 ≤ zs.getD i 0 ∧ zs.getD i 0 < (r : Int)
def pickF (c : Nat) (A : List UInt8) (zs : List Int) : Mx := fun i j => en c A (zs.getD i 0).toNat j
theorem Box.new1 (w : World) (o : Obj) (r c : Int) (vs : Value) (t : TypeId) : Box ((w.alloc o).alloc (.cells #[.int .i64 r, .int .i64 c, vs] t)) (w.heap.size + 1) r c vs := by
  have h := Box.new (w.alloc o) r c vs t
  rwa [World.size_alloc] at h
theorem Box.new2 (w : World) (o o' : Obj) (r c : Int) (vs : Value) (t : TypeId) : Box (((w.alloc o).alloc o').alloc (.cells #[.int .i64 r, .int .i64 c, vs] t)) (w.heap.size + 1 + 1) r c vs := by
  have h := Box.new ((w.alloc o).alloc o') r c vs t
  rwa [World.size_alloc, World.size_alloc] at h
theorem Box.set2 {w : World} {b : Nat} {r c : Int} {vs : Value} (h : Box w b r c vs) (vs' : Value) : Box (w.setCell ⟨b, 2, none⟩ vs') b r c vs' := ⟨(World.cell?_setCell_other w ⟨b, 2, none⟩ ⟨b, 0, none⟩ vs' (by simp)).trans h.c0, (World.cell?_setCell_other w ⟨b, 2, none⟩ ⟨b, 1, none⟩ vs' (by simp)).trans h.c1, World.cell?_setCell_same w ⟨b, 2, none⟩ vs' h.c2⟩
theorem Free.setCell {w : World} {b : Nat} (h : Free w b) (a : Addr) (u : Value) : Free (w.setCell a u) b := ⟨by simp [h.f0], by simp [h.f1], by simp [h.f2]⟩
/-- What a call that answers a matrix leaves. -/
def MakesM (w : World) (r c : Nat) (F : Mx) (e : Ending) (w' : World) : Prop := ∃ vs, e = .returned (.tuple #[.agg #[.int .i64 (r : Int), .int .i64 (c : Int), vs], .int .i64 0]) ∧ Rd w' vs (flat r c F) ∧ Below w.heap.size w w'
/-- .. and one that answers an error. -/
def MakesErr (w : World) (x : Int) (e : Ending) (w' : World) : Prop := ∃ vs, e = .returned (.tuple #[.agg #[.int .i64 0, .int .i64 0, vs], .int .i64 x]) ∧ Rd w' vs [] ∧ Below w.heap.size w w'
theorem rd_none {w : World} : Rd w (.slice none 0 0) [] := Or.inl ⟨none, 0, rfl, rfl, Nat.zero_le _, fun _ => rfl⟩

end Go.Proofs.Ytehphjapahdalaa.Gf
