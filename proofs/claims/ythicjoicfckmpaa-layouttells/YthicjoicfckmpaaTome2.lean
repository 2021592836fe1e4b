/- TEXTS JOINED: MxTurn, TuLm, RdIn, DkTurn, LyKit, LyLA, LyLB, LyLC. -/
import Derived.Test.YthicjoicfckmpaaTome1
import Derived.Laws.CopyOwn
import Derived.Deep.AppendLies
import Derived.Deep.OwnRows
import Derived.Deep.RegionHeld3
/-
  WORLDS IN WHICH ONE BLOCK MAY HAVE TURNED AND OTHERS MAY HAVE BEEN LAID; 'copy' into a row of the call's own. No program's function is named here.
-/



namespace Go.Proofs.Ythicjoicfckmpaa.Gf
set_option linter.unusedVariables false
set_option linter.unusedSimpArgs false
open Go.RowKit

/-- Of what was there nothing but the block g has turned. -/
structure Turn (g : Nat) (w w' : World) : Prop where
  os : w'.os = w.os
  tape : w'.tape = w.tape
  output : w'.output = w.output
  size : w.heap.size ≤ w'.heap.size
  block : ∀ k, k < w.heap.size → k ≠ g → w'.heap[k]? = w.heap[k]?
theorem Turn.refl (g : Nat) (w : World) : Turn g w w := ⟨rfl, rfl, rfl, Nat.le_refl _, fun _ _ _ => rfl⟩
theorem Turn.trans {g : Nat} {a b c : World} (h : Turn g a b) (k : Turn g b c) : Turn g a c :=
  ⟨k.os.trans h.os, k.tape.trans h.tape, k.output.trans h.output, Nat.le_trans h.size k.size, fun i hi hg => (k.block i (Nat.lt_of_lt_of_le hi h.size) hg).trans (h.block i hi hg)⟩
theorem Below.turn {w w' : World} (h : Below w.heap.size w w') (g : Nat) : Turn g w w' := ⟨h.os, h.tape, h.output, h.size, fun k hk _ => h.block k hk⟩
theorem Only.turn {g : Nat} {w w' : World} (h : Only g w w') : Turn g w w' := ⟨h.os, h.tape, h.output, by rw [h.size]; exact Nat.le_refl _, fun k _ hk => h.block k hk⟩
theorem Turn.below {g B : Nat} {w w' : World} (h : Turn g w w') (hg : B ≤ g) (hB : B ≤ w.heap.size) : Below B w w' :=
  ⟨h.os, h.tape, h.output, h.size, fun k hk => h.block k (by omega) (by omega)⟩
theorem Turn.cell {g : Nat} {w w' : World} (h : Turn g w w') {p : Addr} (hs : p.block < w.heap.size) (hp : p.block ≠ g) : w'.cell? p = w.cell? p := World.cell?_of_block (w := w) (h.block p.block hs hp)
theorem Turn.frozen {g : Nat} {w w' : World} (h : Turn g w w') {p : Addr} (hs : p.block < w.heap.size) (hp : p.block ≠ g) : w'.frozen? p = w.frozen? p := World.frozen?_of_block (w := w) (h.block p.block hs hp)
theorem Rd.turn {g : Nat} {w w' : World} {v : Value} {p : List UInt8} (h : Rd w v p) (ha : Apart g v) (ho : Turn g w w') : Rd w' v p := by
  rcases h with h | ⟨b, off, cap, h1, h2, h3, h4, h5, h6⟩
  · exact Or.inl h
  · have hb : b ≠ g := by
      rcases ha _ _ _ h2 with e | e
      · exact absurd (List.length_eq_zero_iff.1 e) h1
      · exact e
    exact Or.inr ⟨b, off, cap, h1, h2, h3, h4, Nat.lt_of_lt_of_le h5 ho.size, fun i hi => (ho.cell (p := ⟨b, off + i, none⟩) h5 hb).trans (h6 i hi)⟩
theorem RowF.turn {g g' : Nat} {w w' : World} {base e L C : Nat} {f : Nat → UInt8} (h : RowF w base e g L C f) (hg : g ≠ g') (o : Turn g' w w') : RowF w' base e g L C f := by
  obtain ⟨h0, h | ⟨g2, cap, cur, hv, hgg, hh, r⟩⟩ := h
  · exact ⟨h0, Or.inl h⟩
  · refine ⟨h0, Or.inr ⟨g2, cap, cur, hv, hgg, ?_, r⟩⟩
    have eg : g2 = g := by simp at hv; exact hv.1.symm
    have hlt : g2 < w.heap.size := (Array.getElem?_eq_some_iff.1 hh).1
    rw [o.block g2 hlt (by rw [eg]; exact hg)]
    exact hh
/-- n numbers from the place o on, told anew -/
def putAt (f : Nat → UInt8) (o n : Nat) (q : Nat → UInt8) (t : Nat) : UInt8 := if o ≤ t ∧ t < o + n then q (t - o) else f t
theorem putAt_zero (f : Nat → UInt8) (o : Nat) (q : Nat → UInt8) : putAt f o 0 q = f := by funext t; exact if_neg (by omega)
theorem putAt_step (f : Nat → UInt8) (o k : Nat) (q : Nat → UInt8) (t : Nat) : putAt f o (k + 1) q t = if t = o + k then q k else putAt f o k q t := by
  unfold putAt
  by_cases e : t = o + k
  · subst e; rw [if_pos (by omega), if_pos rfl, show o + k - o = k by omega]
  · rw [if_neg e]
    by_cases h : o ≤ t ∧ t < o + k
    · rw [if_pos h, if_pos (by omega)]
    · rw [if_neg h, if_neg (by omega)]
theorem putAt_out {f : Nat → UInt8} {o n : Nat} {q : Nat → UInt8} {t : Nat} (h : t < o ∨ o + n ≤ t) : putAt f o n q t = f t := if_neg (by omega)
theorem putAt_in {f : Nat → UInt8} {o n : Nat} {q : Nat → UInt8} {k : Nat} (h : k < n) : putAt f o n q (o + k) = q k := by
  unfold putAt; rw [if_pos (by omega), show o + k - o = k by omega]
theorem putAt_congr {f : Nat → UInt8} {o n : Nat} {q q' : Nat → UInt8} (h : ∀ k, k < n → q k = q' k) : putAt f o n q = putAt f o n q' := by
  funext t; unfold putAt
  by_cases e : o ≤ t ∧ t < o + n
  · rw [if_pos e, if_pos e]; exact h _ (by omega)
  · rw [if_neg e, if_neg e]
/-- the row's cells, as they lie -/
theorem RowF.heap {w : World} {base e g L C : Nat} {f : Nat → UInt8} (h : RowF w base e g L C f) (hLC : L = C) : w.heap[g]? = some (.cells ((upto f L).map vb).toArray e (0, 0)) ∧ C ≤ maxLen := by
  obtain ⟨h0, ⟨hv, _⟩ | ⟨g2, cap, cur, hv, hgg, hh, h1, h2, h3, h4⟩⟩ := h
  · simp at hv
  · have e1 : g2 = g := by simp at hv; exact hv.1.symm
    have e2 : cap = C := by simp at hv; exact (by first | exact hv.symm | exact hv.2.symm)
    clear hv
    subst e1 e2 hLC
    refine ⟨?_, h2⟩
    rw [hh, ← h4, Nat.mul_one]
    congr 2
    apply Array.ext'
    have : cur.toList.length = L := by rw [Array.length_toList, h3, Nat.mul_one]
    rw [List.toList_toArray, ← this, List.take_length]
theorem RowF.of_heap {w : World} {base e g L : Nat} {f : Nat → UInt8} (hg : base ≤ g) (hm : L ≤ maxLen) (h : w.heap[g]? = some (.cells ((upto f L).map vb).toArray e (0, 0))) : RowF w base e g L L f := by
  have hl : ((upto f L).map vb).length = L := by rw [List.length_map, upto_length]
  refine ⟨by rw [hl, Nat.mul_one], Or.inr ⟨g, L, _, rfl, hg, h, Nat.le_refl _, hm, by rw [List.size_toArray, hl, Nat.mul_one], ?_⟩⟩
  rw [Nat.mul_one, List.toList_toArray]
  exact List.take_of_length_le (by rw [hl]; exact Nat.le_refl _)
theorem co_drop (p : List UInt8) (n i : Nat) : co (p.drop n) i = co p (n + i) := by unfold co; rw [List.getElem?_drop]
theorem co_upto_lt {f : Nat → UInt8} {n i : Nat} (h : i < n) : co (upto f n) i = f i := co_map_range f h
theorem splice_upto {f : Nat → UInt8} {L o : Nat} {p : List UInt8} (h : o + p.length ≤ L) : splice ((upto f L).map vb) o (p.map vb) = (upto (putAt f o p.length (co p)) L).map vb := by
  unfold splice
  rw [← List.map_take, ← List.map_drop, ← List.map_append, ← List.map_append]
  congr 1
  refine co_ext ?_ ?_
  · simp [upto]; omega
  · intro i hi
    rw [List.length_append, List.length_append, List.length_take, List.length_drop, upto_length, List.length_map] at hi
    rw [co_upto_lt (f := putAt f o p.length (co p)) (show i < L by omega)]
    by_cases h1 : i < o
    · rw [putAt_out (Or.inl h1), co_append_lt (by rw [List.length_take, upto_length]; omega), co_take h1, co_upto_lt (by omega)]
    · by_cases h2 : i < o + p.length
      · obtain ⟨k, rfl⟩ := Nat.exists_eq_add_of_le (show o ≤ i by omega)
        rw [putAt_in (show k < p.length by omega), co_append_ge (by rw [List.length_take, upto_length]; omega), List.length_take, upto_length]
        rw [co_append_lt (by omega), show o + k - min o L = k by omega]
      · rw [putAt_out (Or.inr (by omega)), co_append_ge (by rw [List.length_take, upto_length]; omega), List.length_take, upto_length, co_append_ge (by omega), co_drop, List.length_map]
        rw [show o + p.length + (i - min o L - p.length) = i by omega, co_upto_lt (by omega)]
theorem only_setRow (w : World) (g : Nat) (cs : Array Value) : Only g w (w.setRow g cs) := ⟨rfl, rfl, rfl, by simp [World.setRow], fun k hk => setRow_other w g k cs hk⟩
/-- 'copy' into a part of a row of the call's own, as a step of a region that draws its order. -/
theorem step_copy_rd {P : Program} {ops : Array Oper} {o : Oper} {a : Act} {w : World} {K : Act → World → Prop} {Q : Exit → Act → World → Prop} {E : Prop} (hgd : o.guard = none) (d s : Operand) (dT sT : TypeId)
    (ho : o.op = .call { callee := .builtin .copy, args := #[d, s], argTypes := #[dT, sT] }) (elem : TypeId) (hu : P.underlying dT = some (.slice elem)) (hsz : (P.info? elem).map (·.size) = some 1)
    {g off n dl dCap : Nat} {va : Value} {p : List UInt8} {base e L : Nat} {f : Nat → UInt8} (hd : a.eval d = .slice (some ⟨g, off, none⟩) dl dCap) (hs : a.eval s = va) (hr : Rd w va p) (hn : p.length = n) (hdl : n ≤ dl) (hR : RowF w base e g L L f) (hl : off + n ≤ L)
    (h : ∀ w', Only g w w' → RowF w' base e g L L (putAt f off n (co p)) → K (a.put o.dst (goInt n)) w') :
    if Region.wanted o (yielded ops a.tmps) = true then Oper.wp P o a w K Q else E := by
  have hw : Region.wanted o (yielded ops a.tmps) = true := by simp [Region.wanted, hgd]
  rw [if_pos hw]
  subst hn
  obtain ⟨hg, hm⟩ := hR.heap rfl
  have hlt := hR.lt
  rcases hr with ⟨ao, cap, rfl, rfl, _⟩ | ⟨b, so, cap, hp0, rfl, h1, h2, h3, hpc⟩
  · have hrun := run_copy_none (P := P) w dT sT o.type elem (some ⟨g, off, none⟩) ao dl dCap 0 cap hu hsz (Nat.zero_min _)
    unfold Oper.wp
    simp [execOp, ho, resolve, invoke, builtin, hd, hs, hrun, Result.andThen]
    exact h w (Only.refl _ _) (by rw [List.length_nil, putAt_zero]; exact hR)
  · have hrun := run_copy_row (P := P) w dT sT o.type elem g off dl dCap ⟨b, so, none⟩ p.length cap ((upto f L).map vb).toArray e (p.map vb) hu hsz hg (by rw [List.length_map]; exact (Nat.min_eq_left hdl).symm) (by have := news_of (k := p.length) hpc; rwa [List.take_length] at this) (by simp [upto_length]; exact hl) (vb_one p)
    unfold Oper.wp
    simp [execOp, ho, resolve, invoke, builtin, hd, hs, hrun, Result.andThen]
    refine h _ (only_setRow _ _ _) (RowF.of_heap hlt.1 hm ?_)
    rw [← splice_upto hl]
    simpa [splice] using setRow_heap w g _ _ e _ hg

end Go.Proofs.Ythicjoicfckmpaa.Gf

/-
  WORLDS IN WHICH SOME BLOCKS HAVE TURNED, AND OTHERS WERE LAID (a closure over several variables). No program's function is named here.
-/

namespace Go.Proofs.Ythicjoicfckmpaa.Gf
set_option linter.unusedVariables false
set_option linter.unusedSimpArgs false
open Go.RowKit

structure TurnL (G : List Nat) (w w' : World) : Prop where
  os : w'.os = w.os
  tape : w'.tape = w.tape
  output : w'.output = w.output
  size : w.heap.size ≤ w'.heap.size
  block : ∀ k, k < w.heap.size → k ∉ G → w'.heap[k]? = w.heap[k]?
theorem TurnL.refl (G : List Nat) (w : World) : TurnL G w w := ⟨rfl, rfl, rfl, Nat.le_refl _, fun _ _ _ => rfl⟩
theorem TurnL.trans {G : List Nat} {a b c : World} (h : TurnL G a b) (k : TurnL G b c) : TurnL G a c :=
  ⟨k.os.trans h.os, k.tape.trans h.tape, k.output.trans h.output, Nat.le_trans h.size k.size, fun i hi hg => (k.block i (Nat.lt_of_lt_of_le hi h.size) hg).trans (h.block i hi hg)⟩
theorem Below.turnL {w w' : World} (h : Below w.heap.size w w') (G : List Nat) : TurnL G w w' := ⟨h.os, h.tape, h.output, h.size, fun k hk _ => h.block k hk⟩
theorem Only.turnL {g : Nat} {G : List Nat} {w w' : World} (h : Only g w w') (hg : g ∈ G) : TurnL G w w' :=
  ⟨h.os, h.tape, h.output, by rw [h.size]; exact Nat.le_refl _, fun k _ hk => h.block k (fun e => hk (by rw [e]; exact hg))⟩
theorem TurnL.put {G : List Nat} {a w : World} (h : TurnL G a w) {g : Nat} (hg : g ∈ G) (j : Nat) (u : Value) : TurnL G a (w.setCell ⟨g, j, none⟩ u) := h.trans (((Only.refl g w).setCell j u).turnL hg)
theorem TurnL.drew {G : List Nat} {a w : World} (h : TurnL G a w) : TurnL G a w.drew := ⟨h.os, h.tape, h.output, h.size, h.block⟩
theorem TurnL.drewN {G : List Nat} {a w : World} (h : TurnL G a w) (n : Nat) : TurnL G a (w.drewN n) := ⟨h.os, h.tape, h.output, h.size, h.block⟩
theorem TurnL.below {G : List Nat} {B : Nat} {w w' : World} (h : TurnL G w w') (hg : ∀ g, g ∈ G → B ≤ g) (hB : B ≤ w.heap.size) : Below B w w' :=
  ⟨h.os, h.tape, h.output, h.size, fun k hk => h.block k (by omega) (fun e => by have := hg k e; omega)⟩
theorem TurnL.cell {G : List Nat} {w w' : World} (h : TurnL G w w') {p : Addr} (hs : p.block < w.heap.size) (hp : p.block ∉ G) : w'.cell? p = w.cell? p := World.cell?_of_block (w := w) (h.block p.block hs hp)
theorem TurnL.frozen {G : List Nat} {w w' : World} (h : TurnL G w w') {p : Addr} (hs : p.block < w.heap.size) (hp : p.block ∉ G) : w'.frozen? p = w.frozen? p := World.frozen?_of_block (w := w) (h.block p.block hs hp)
/-- a slice that lies in none of the blocks -/
def ApartL (G : List Nat) (v : Value) : Prop := ∀ x n c, v = .slice (some x) n c → n = 0 ∨ x.block ∉ G
theorem Rd.turnL {G : List Nat} {w w' : World} {v : Value} {p : List UInt8} (h : Rd w v p) (ha : ApartL G v) (ho : TurnL G w w') : Rd w' v p := by
  rcases h with h | ⟨b, off, cap, h1, h2, h3, h4, h5, h6⟩
  · exact Or.inl h
  · have hb : b ∉ G := by
      rcases ha _ _ _ h2 with e | e
      · exact absurd (List.length_eq_zero_iff.1 e) h1
      · exact e
    exact Or.inr ⟨b, off, cap, h1, h2, h3, h4, Nat.lt_of_lt_of_le h5 ho.size, fun i hi => (ho.cell (p := ⟨b, off + i, none⟩) h5 hb).trans (h6 i hi)⟩
/-- one that was there before the blocks were laid -/
theorem Rd.apartL {w : World} {v : Value} {p : List UInt8} {G : List Nat} (h : Rd w v p) (hg : ∀ g, g ∈ G → w.heap.size ≤ g) : ApartL G v := by
  intro x n c e
  rcases h with ⟨a, c', _, e2, _⟩ | ⟨b, off, cap, h1, h2, h3, h4, h5, h6⟩
  · subst e2; simp at e; exact Or.inl e.2.1.symm
  · subst h2; simp at e; obtain ⟨rfl, rfl, rfl⟩ := e; exact Or.inr (fun h => by have := hg b h; omega)
/-- one that was laid behind them -/
theorem ApartL.own {w : World} {base e n : Nat} {v : Value} {xs : List Value} {G : List Nat} (h : w.ownsRow base e 1 v n xs) (hg : ∀ g, g ∈ G → g < base) : ApartL G v := by
  intro x m c ev
  obtain ⟨_, ⟨hv, hn⟩ | ⟨g, cap, cur, hv, hgb, _⟩⟩ := h
  · rw [hv] at ev; simp at ev
  · rw [hv] at ev
    simp at ev
    obtain ⟨rfl, _, _⟩ := ev
    exact Or.inr (fun h => by have := hg g h; omega)
theorem ApartL.nil (G : List Nat) (c : Nat) (a : Option Addr) : ApartL G (.slice a 0 c) := fun x n c' e => by simp at e; exact Or.inl e.2.1.symm

end Go.Proofs.Ythicjoicfckmpaa.Gf

/-
  SLICES OF INTEGERS IN MEMORY: 'RdI w v zs'. No program's function is named here.
-/

namespace Go.Proofs.Ythicjoicfckmpaa.Gf
set_option linter.unusedVariables false
set_option linter.unusedSimpArgs false
open Go.RowKit

/-- A slice of numbers of rows. -/
def RdI (w : World) (v : Value) (zs : List Int) : Prop :=
  (∃ ao cap, zs = [] ∧ v = .slice ao 0 cap) ∨ (∃ b off cap, zs ≠ [] ∧ v = .slice (some ⟨b, off, none⟩) zs.length cap ∧ zs.length ≤ maxLen ∧ b < w.heap.size ∧ ∀ i, i < zs.length → w.cell? ⟨b, off + i, none⟩ = some (.int .i64 (zs.getD i 0)))
theorem RdI.below {w w' : World} {v : Value} {zs : List Int} (h : RdI w v zs) (hb : Below w.heap.size w w') : RdI w' v zs := by
  rcases h with h | ⟨b, off, cap, h1, h2, h3, h5, h6⟩
  · exact Or.inl h
  · exact Or.inr ⟨b, off, cap, h1, h2, h3, Nat.lt_of_lt_of_le h5 hb.size, fun i hi => (hb.cell (p := ⟨b, off + i, none⟩) h5).trans (h6 i hi)⟩
theorem RdI.form {w : World} {v : Value} {zs : List Int} (h : RdI w v zs) : ∃ a c, v = .slice a zs.length c := by
  rcases h with ⟨a, c, rfl, rfl⟩ | ⟨b, off, c, _, rfl, _⟩
  · exact ⟨a, c, rfl⟩
  · exact ⟨_, c, rfl⟩
theorem _root_.Go.RowKit.Below.drewN {B : Nat} {a w : World} (h : Below B a w) (n : Nat) : Below B a (w.drewN n) := ⟨h.os, h.tape, h.output, h.size, h.block⟩
theorem rd_lit2 {w : World} {n b : Nat} {cs : Array Value} {e : Nat} (p : List UInt8) (hb : b = w.heap.size) (hn : p.length = n) (hs : cs.toList = p.map vb) (hl : n ≤ 1000000) : Rd (w.alloc (.cells cs e)) (.slice (some ⟨b, 0, none⟩) n n) p := by
  subst hb; exact rd_lit p hn hs hl
theorem rdI_lit2 {w : World} {n b : Nat} {cs : Array Value} {e : Nat} (zs : List Int) (hb : b = w.heap.size) (hn : zs.length = n) (hs : cs.toList = zs.map (fun z => Value.int .i64 z)) (hl : n ≤ 1000000) : RdI (w.alloc (.cells cs e)) (.slice (some ⟨b, 0, none⟩) n n) zs := by
  subst hb hn
  by_cases h0 : zs = []
  · subst h0; exact Or.inl ⟨_, _, rfl, rfl⟩
  · refine Or.inr ⟨w.heap.size, 0, _, h0, rfl, by unfold maxLen; omega, by simp, fun i hi => ?_⟩
    rw [Nat.zero_add, World.cell?_alloc_new, ← Array.getElem?_toList, hs, List.getElem?_map, List.getElem?_eq_getElem hi]
    simp [List.getD, hi]
/-- A slice of numbers that came in, as the frame of a statement's proof tells it. -/
theorem rdI_row {w : World} {a : Option Addr} {len cap : Nat} {zs : List Int}
    (h : (a = none ∧ len = 0 ∧ cap = 0 ∧ zs = []) ∨ ∃ x, a = some x ∧ len ≤ cap ∧ cap ≤ maxLen ∧ zs.length = cap ∧ (∀ i, i < zs.length → w.cell? (x.add i) = some (.int .i64 (zs.getD i 0))) ∧ ∀ n ∈ zs, (Lit.int .i64 n).wf = true) :
    ∃ p : List Int, len = p.length ∧ RdI w (.slice a len cap) p := by
  rcases h with ⟨rfl, rfl, rfl, rfl⟩ | ⟨x, rfl, hl, hm, hz, hcell, hwz⟩
  · exact ⟨[], rfl, Or.inl ⟨none, 0, rfl, rfl⟩⟩
  · have hlen : (zs.take len).length = len := by rw [List.length_take]; omega
    refine ⟨zs.take len, hlen.symm, ?_⟩
    by_cases h0 : len = 0
    · subst h0
      exact Or.inl ⟨_, cap, by simp, rfl⟩
    · obtain ⟨b, off, spot⟩ := x
      have hc := hcell 0 (by omega)
      have hspot : spot = none := by simpa [Addr.add] using World.cell?_spot hc
      subst hspot
      have hbw : b < w.heap.size := by
        have e : w.cell? ⟨b, off, none⟩ = some (.int .i64 (zs.getD 0 0)) := by simpa [Addr.add] using hc
        exact World.block_lt_of_cell? w _ e
      refine Or.inr ⟨b, off, cap, fun h => by rw [h] at hlen; simp at hlen; omega, by rw [hlen], by rw [hlen]; omega, hbw, fun i hi => ?_⟩
      rw [hlen] at hi
      have e1 := hcell i (by omega)
      rw [add_at] at e1
      rw [e1]
      simp [List.getD, List.getElem?_take_of_lt hi]

end Go.Proofs.Ythicjoicfckmpaa.Gf

/-
  WORLDS IN WHICH SOME BLOCKS (those of which a predicate holds) HAVE TURNED, AND OTHERS WERE LAID. No program's function is named here.
-/

namespace Go.Proofs.Ythicjoicfckmpaa.Gf
set_option linter.unusedVariables false
set_option linter.unusedSimpArgs false
open Go.RowKit

structure TurnG (G : Nat → Prop) (w w' : World) : Prop where
  os : w'.os = w.os
  tape : w'.tape = w.tape
  output : w'.output = w.output
  size : w.heap.size ≤ w'.heap.size
  block : ∀ k, k < w.heap.size → ¬ G k → w'.heap[k]? = w.heap[k]?
theorem TurnG.refl (G : Nat → Prop) (w : World) : TurnG G w w := ⟨rfl, rfl, rfl, Nat.le_refl _, fun _ _ _ => rfl⟩
theorem TurnG.trans {G : Nat → Prop} {a b c : World} (h : TurnG G a b) (k : TurnG G b c) : TurnG G a c :=
  ⟨k.os.trans h.os, k.tape.trans h.tape, k.output.trans h.output, Nat.le_trans h.size k.size, fun i hi hg => (k.block i (Nat.lt_of_lt_of_le hi h.size) hg).trans (h.block i hi hg)⟩
theorem Below.turnG {w w' : World} (h : Below w.heap.size w w') (G : Nat → Prop) : TurnG G w w' := ⟨h.os, h.tape, h.output, h.size, fun k hk _ => h.block k hk⟩
theorem Only.turnG {g : Nat} {G : Nat → Prop} {w w' : World} (h : Only g w w') (hg : G g) : TurnG G w w' :=
  ⟨h.os, h.tape, h.output, by rw [h.size]; exact Nat.le_refl _, fun k _ hk => h.block k (fun e => hk (by rw [e]; exact hg))⟩
theorem TurnG.drewN {G : Nat → Prop} {a w : World} (h : TurnG G a w) (n : Nat) : TurnG G a (w.drewN n) := ⟨h.os, h.tape, h.output, h.size, h.block⟩
theorem TurnG.drew {G : Nat → Prop} {a w : World} (h : TurnG G a w) : TurnG G a w.drew := ⟨h.os, h.tape, h.output, h.size, h.block⟩
theorem TurnG.below {G : Nat → Prop} {B : Nat} {w w' : World} (h : TurnG G w w') (hg : ∀ g, G g → B ≤ g) (hB : B ≤ w.heap.size) : Below B w w' :=
  ⟨h.os, h.tape, h.output, h.size, fun k hk => h.block k (by omega) (fun e => by have := hg k e; omega)⟩
theorem TurnG.cell {G : Nat → Prop} {w w' : World} (h : TurnG G w w') {p : Addr} (hs : p.block < w.heap.size) (hp : ¬ G p.block) : w'.cell? p = w.cell? p := World.cell?_of_block (w := w) (h.block p.block hs hp)
theorem TurnG.frozen {G : Nat → Prop} {w w' : World} (h : TurnG G w w') {p : Addr} (hs : p.block < w.heap.size) (hp : ¬ G p.block) : w'.frozen? p = w.frozen? p := World.frozen?_of_block (w := w) (h.block p.block hs hp)

/-- one disk's blocks: only they have turned, and those that came to them are new -/
structure Grew (G : Nat → Prop) (w : World) (G' : Nat → Prop) (w' : World) : Prop where
  turn : TurnG G w w'
  grow : ∀ k, G' k → G k ∨ w.heap.size ≤ k
theorem Grew.refl (G : Nat → Prop) (w : World) : Grew G w G w := ⟨TurnG.refl G w, fun _ h => Or.inl h⟩
theorem Grew.trans {G G' G'' : Nat → Prop} {a b c : World} (h : Grew G a G' b) (k : Grew G' b G'' c) : Grew G a G'' c :=
  ⟨⟨k.turn.os.trans h.turn.os, k.turn.tape.trans h.turn.tape, k.turn.output.trans h.turn.output, Nat.le_trans h.turn.size k.turn.size, fun i hi hg =>
    (k.turn.block i (Nat.lt_of_lt_of_le hi h.turn.size) (fun e => (h.grow i e).elim hg (fun h1 => by omega))).trans (h.turn.block i hi hg)⟩,
   fun i hi => by
    rcases k.grow i hi with h1 | h1
    · exact h.grow i h1
    · exact Or.inr (Nat.le_trans h.turn.size h1)⟩
theorem Grew.of_turn {G : Nat → Prop} {w w' : World} (h : TurnG G w w') : Grew G w G w' := ⟨h, fun _ h => Or.inl h⟩
theorem Grew.of_below {G : Nat → Prop} {w w' : World} (h : Below w.heap.size w w') : Grew G w G w' := Grew.of_turn (Below.turnG h G)
theorem Grew.base {G G' : Nat → Prop} {w w' : World} {B : Nat} (h : Grew G w G' w') (hg : ∀ k, G k → B ≤ k) (hB : B ≤ w.heap.size) : ∀ k, G' k → B ≤ k := fun k hk => by
  rcases h.grow k hk with h1 | h1
  · exact hg k h1
  · omega
theorem Grew.below {G G' : Nat → Prop} {w w' : World} {B : Nat} (h : Grew G w G' w') (hg : ∀ k, G k → B ≤ k) (hB : B ≤ w.heap.size) : Below B w w' := h.turn.below hg hB
theorem Grew.off {G G' : Nat → Prop} {w w' : World} (h : Grew G w G' w') {k : Nat} (hk : k < w.heap.size) (hg : ¬ G k) : ¬ G' k := fun e => by
  rcases h.grow k e with h1 | h1
  · exact hg h1
  · omega

/-- a slice that lies in none of the blocks -/
def ApartG (G : Nat → Prop) (v : Value) : Prop := ∀ x n c, v = .slice (some x) n c → n = 0 ∨ ¬ G x.block
theorem Rd.turnG {G : Nat → Prop} {w w' : World} {v : Value} {p : List UInt8} (h : Rd w v p) (ha : ApartG G v) (ho : TurnG G w w') : Rd w' v p := by
  rcases h with h | ⟨b, off, cap, h1, h2, h3, h4, h5, h6⟩
  · exact Or.inl h
  · have hb : ¬ G b := by
      rcases ha _ _ _ h2 with e | e
      · exact absurd (List.length_eq_zero_iff.1 e) h1
      · exact e
    exact Or.inr ⟨b, off, cap, h1, h2, h3, h4, Nat.lt_of_lt_of_le h5 ho.size, fun i hi => (ho.cell (p := ⟨b, off + i, none⟩) h5 hb).trans (h6 i hi)⟩
theorem Rd.lay {w : World} {v : Value} {p : List UInt8} (h : Rd w v p) {x : Addr} {n c : Nat} (e : v = .slice (some x) n c) : n = 0 ∨ x.block < w.heap.size := by
  rcases h with ⟨a, c', _, e2, _⟩ | ⟨b, off, cap, h1, h2, h3, h4, h5, h6⟩
  · subst e2; simp at e; exact Or.inl e.2.1.symm
  · subst h2; simp at e; obtain ⟨rfl, rfl, rfl⟩ := e; exact Or.inr h5
/-- it stays apart -/
theorem ApartG.grew {G G' : Nat → Prop} {w w' : World} {v : Value} {p : List UInt8} (ha : ApartG G v) (h : Rd w v p) (g : Grew G w G' w') : ApartG G' v := by
  intro x n c e
  rcases ha x n c e with h1 | h1
  · exact Or.inl h1
  · rcases h.lay e with h2 | h2
    · exact Or.inl h2
    · exact Or.inr (g.off h2 h1)
theorem Rd.grew {G G' : Nat → Prop} {w w' : World} {v : Value} {p : List UInt8} (h : Rd w v p) (ha : ApartG G v) (g : Grew G w G' w') : Rd w' v p := h.turnG ha g.turn
/-- one that was there before the blocks were laid -/
theorem Rd.apartG {w : World} {v : Value} {p : List UInt8} {G : Nat → Prop} (h : Rd w v p) (hg : ∀ g, G g → w.heap.size ≤ g) : ApartG G v := by
  intro x n c e
  rcases h.lay e with h2 | h2
  · exact Or.inl h2
  · exact Or.inr (fun h => by have := hg _ h; omega)
/-- one that was laid behind them -/
theorem ApartG.own {w : World} {base e n : Nat} {v : Value} {xs : List Value} {G : Nat → Prop} (h : w.ownsRow base e 1 v n xs) (hg : ∀ g, G g → g < base) : ApartG G v := by
  intro x m c ev
  obtain ⟨_, ⟨hv, hn⟩ | ⟨g, cap, cur, hv, hgb, _⟩⟩ := h
  · rw [hv] at ev; simp at ev
  · rw [hv] at ev
    simp at ev
    obtain ⟨rfl, _, _⟩ := ev
    exact Or.inr (fun h => by have := hg g h; omega)
theorem ApartG.nil (G : Nat → Prop) (c : Nat) (a : Option Addr) : ApartG G (.slice a 0 c) := fun x n c' e => by simp at e; exact Or.inl e.2.1.symm
theorem owns_block {w w' : World} {base e size n : Nat} {v : Value} {xs : List Value} (h : w.ownsRow base e size v n xs) (hb : ∀ g, v.ownBlock = some g → w'.heap[g]? = w.heap[g]?) : w'.ownsRow base e size v n xs := by
  obtain ⟨h0, h | ⟨g, cap, cur, hv, hg, hh, r⟩⟩ := h
  · exact ⟨h0, Or.inl h⟩
  · refine ⟨h0, Or.inr ⟨g, cap, cur, hv, hg, ?_, r⟩⟩
    rw [hb g (by rw [hv]; rfl)]
    exact hh
theorem owns_at {w : World} {base e size n b o c : Nat} {xs : List Value} (h : w.ownsRow base e size (.slice (some ⟨b, o, none⟩) n c) n xs) : base ≤ b ∧ b < w.heap.size := by
  obtain ⟨h0, h | ⟨g, cap, cur, hv, hg, hh, r⟩⟩ := h
  · simp at h
  · simp at hv
    obtain ⟨⟨rfl, _⟩, _⟩ := hv
    exact ⟨hg, (Array.getElem?_eq_some_iff.1 hh).1⟩

end Go.Proofs.Ythicjoicfckmpaa.Gf

/-
  A GEOMETRY IN MEMORY, AND WHETHER NUMBERS OF SHARDS MAY BE (layer 14). No program's function is named here.
-/


namespace Go.Proofs.Ythicjoicfckmpaa.Gf
set_option linter.unusedVariables false
set_option linter.unusedSimpArgs false
open Go.RowKit

def okK (k m : Int) : Prop := 1 ≤ k ∧ k ≤ 256 ∧ 0 ≤ m ∧ m ≤ 256 ∧ k + m ≤ 256
instance (k m : Int) : Decidable (okK k m) := inferInstanceAs (Decidable (_ ∧ _ ∧ _ ∧ _ ∧ _))
theorem belL (w : World) (o : Obj) : Below w.heap.size w (w.alloc o) := (Below.refl _ _).alloc (Nat.le_refl _) _
theorem _root_.Go.RowKit.Below.stepL {w w1 w2 : World} {B : Nat} (h : Below B w w1) (k : Below w1.heap.size w1 w2) (hB : B ≤ w1.heap.size) : Below B w w2 := h.trans (k.mono hB)
/-- a geometry variable -/
def GeoAt (w : World) (b : Nat) (g : GeoS) : Prop := w.cell? ⟨b, 0, none⟩ = some (.int .i64 g.k) ∧ w.cell? ⟨b, 1, none⟩ = some (.int .i64 g.m) ∧ w.cell? ⟨b, 2, none⟩ = some (.int .i64 g.z) ∧ w.cell? ⟨b, 3, none⟩ = some (.int .i64 g.s) ∧ w.cell? ⟨b, 4, none⟩ = some (.int .i64 g.t) ∧ w.cell? ⟨b, 5, none⟩ = some (.int .i64 g.o)
def cellsG (g : GeoS) : Array Value := #[.int .i64 g.k, .int .i64 g.m, .int .i64 g.z, .int .i64 g.s, .int .i64 g.t, .int .i64 g.o]
theorem GeoAt.below {w w' : World} {b : Nat} {g : GeoS} (h : GeoAt w b g) (hb : b < w.heap.size) (hw : Below w.heap.size w w') : GeoAt w' b g :=
  ⟨(hw.cell (p := ⟨b, 0, none⟩) hb).trans h.1, (hw.cell (p := ⟨b, 1, none⟩) hb).trans h.2.1, (hw.cell (p := ⟨b, 2, none⟩) hb).trans h.2.2.1, (hw.cell (p := ⟨b, 3, none⟩) hb).trans h.2.2.2.1, (hw.cell (p := ⟨b, 4, none⟩) hb).trans h.2.2.2.2.1, (hw.cell (p := ⟨b, 5, none⟩) hb).trans h.2.2.2.2.2⟩
/-- a geometry that was laid as a parameter -/
theorem geo_laid (w : World) (g : GeoS) (e : Nat) : ∀ W, Below (w.alloc (.cells (cellsG g) e)).heap.size (w.alloc (.cells (cellsG g) e)) W → GeoAt W w.heap.size g ∧ Below w.heap.size w W := by
  intro W hW
  have cc : ∀ j, (w.alloc (.cells (cellsG g) e)).cell? ⟨w.heap.size, j, none⟩ = (cellsG g)[j]? := fun j => World.cell?_alloc_new _ _ _ _
  have h0 : GeoAt (w.alloc (.cells (cellsG g) e)) w.heap.size g := ⟨(cc 0).trans rfl, (cc 1).trans rfl, (cc 2).trans rfl, (cc 3).trans rfl, (cc 4).trans rfl, (cc 5).trans rfl⟩
  exact ⟨h0.below (by simp) hW, (belL w _).trans (hW.mono (by simp))⟩
theorem info_boolL : (Try.prog.info? 4).map (fun i => (i.zero, i.size, i.bytes)) = some (some (.bool false), 1, 1) := by kernel_rfl
/-- a row of bools, all false -/
theorem madeB (w : World) (n : Nat) (hn : n ≤ 1000) : ∃ u, (Instr.makeSlice 31 (.int .i64 (n : Int)) (.int .i64 (n : Int))).run Try.prog w = .ok (.slice (some ⟨w.heap.size, 0, none⟩) n n) u ∧ u.rowIs w.heap.size 4 n (fun _ => .bool false) ∧ Below w.heap.size w u :=
  ⟨_, run_make_row' (P := Try.prog) 31 4 (.bool false) 1 Try.underlying31 info_boolL rfl .i64 .i64 n (by omega) (by omega) w, World.rowIs_made _ _ _ _, belL _ _⟩
theorem made32 (w : World) : ∃ u, (Instr.makeSlice 31 (.int .i64 32) (.int .i64 32)).run Try.prog w = .ok (.slice (some ⟨w.heap.size, 0, none⟩) 32 32) u ∧ u.rowIs w.heap.size 4 32 (fun _ => .bool false) ∧ Below w.heap.size w u := madeB w 32 (by decide)
end Go.Proofs.Ythicjoicfckmpaa.Gf

/-
  THE PROGRAM's LAYOUT BY CONTRACT (package layout): cauchy.Check, disks, isOf, behind, the closure that asks, Check.
-/

namespace Go.Proofs.Ythicjoicfckmpaa.Gf
set_option linter.unusedVariables false
set_option linter.unusedSimpArgs false
open Go.RowKit
theorem lchk_any {w : World} {k m : Int} {x : Int} (hx : (if okK k m then 0 else 50) = x) : Calls Try.prog 26 #[.int .i64 k, .int .i64 m] w fun e w' => e = .returned (.int .i64 x) ∧ w' = w := by
  by_cases h0 : k < 1
  · rw [if_neg (by unfold okK; omega)] at hx
    subst hx
    go_enter Try.func26, Try.ntmps26
    go_wp2
    go_ret
    exact ⟨rfl, rfl⟩
  by_cases h1 : k > 256
  · rw [if_neg (by unfold okK; omega)] at hx
    subst hx
    go_enter Try.func26, Try.ntmps26
    go_wp2
    go_ret
    exact ⟨rfl, rfl⟩
  by_cases h2 : m < 0
  · rw [if_neg (by unfold okK; omega)] at hx
    subst hx
    go_enter Try.func26, Try.ntmps26
    go_wp2
    go_ret
    exact ⟨rfl, rfl⟩
  by_cases h3 : m > 256
  · rw [if_neg (by unfold okK; omega)] at hx
    subst hx
    go_enter Try.func26, Try.ntmps26
    go_wp2
    go_ret
    exact ⟨rfl, rfl⟩
  have gw : IntKind.i64.wrap (k + m) = k + m := by rw [IntKind.wrap_i64]; omega
  by_cases h4 : k + m > 256
  · rw [if_neg (by unfold okK; omega)] at hx
    subst hx
    go_enter Try.func26, Try.ntmps26
    go_wp2
    go_ret
    exact ⟨rfl, rfl⟩
  · rw [if_pos (by unfold okK; omega)] at hx
    subst hx
    go_enter Try.func26, Try.ntmps26
    go_wp2
    go_ret
    exact ⟨rfl, rfl⟩
theorem lis_any {w : World} {i n : Int} {x : Bool} (hx : decide (0 ≤ i ∧ i < n) = x) : Calls Try.prog 31 #[.int .i64 i, .int .i64 n] w fun e w' => e = .returned (.bool x) ∧ w' = w := by
  by_cases h0 : i ≥ 0
  · by_cases h1 : i < n
    · rw [decide_eq_true ⟨h0, h1⟩] at hx
      subst hx
      go_enter Try.func31, Try.ntmps31
      go_wp2
      go_ret
      exact ⟨rfl, rfl⟩
    · rw [decide_eq_false (fun h => h1 h.2)] at hx
      subst hx
      go_enter Try.func31, Try.ntmps31
      go_wp2
      go_ret
      exact ⟨rfl, rfl⟩
  · rw [decide_eq_false (fun h => h0 h.1)] at hx
    subst hx
    go_enter Try.func31, Try.ntmps31
    go_wp2
    go_ret
    exact ⟨rfl, rfl⟩
theorem ldisks_any {w : World} {g : GeoS} {x : Int} (hx : IntKind.i64.wrap (g.k + g.m) = x) : Calls Try.prog 28 #[aggG g] w fun e w' => e = .returned (.int .i64 x) ∧ Below w.heap.size w w' := by
  obtain ⟨k, m, z, s, t, o⟩ := g
  rw [show aggG ⟨k, m, z, s, t, o⟩ = .agg #[.int .i64 k, .int .i64 m, .int .i64 z, .int .i64 s, .int .i64 t, .int .i64 o] from rfl]
  have FB := fun o => belL w o
  simp only at hx
  go_enter Try.func28, Try.ntmps28
  go_wp2
  go_ret
  exact ⟨rfl, FB _⟩
theorem lask_any {w : World} {b : Nat} {n most : Int} {x y : Bool} (hy : (x && decide (1 ≤ n ∧ n ≤ most)) = y) (c : w.cell? ⟨b, 0, none⟩ = some (.bool x)) (fz : w.frozen? ⟨b, 0, none⟩ = false) : Calls Try.prog 27 #[.int .i64 n, .int .i64 most, .pointer (some ⟨b, 0, none⟩)] w fun e w' => e = .returned (.tuple #[]) ∧ w'.cell? ⟨b, 0, none⟩ = some (.bool y) ∧ w'.frozen? ⟨b, 0, none⟩ = false ∧ Only b w w' := by
  have OO := fun v => (Only.refl b w).setCell 0 v
  have FF : ∀ v : Value, (w.setCell ⟨b, 0, none⟩ v).frozen? ⟨b, 0, none⟩ = false := fun v => by simp [go_sem, fz]
  have CC : ∀ v : Value, (w.setCell ⟨b, 0, none⟩ v).cell? ⟨b, 0, none⟩ = some v := fun v => by simp [go_sem, c]
  cases x
  · rw [Bool.false_and] at hy
    subst hy
    go_enter Try.func27, Try.ntmps27
    go_wp2
    go_end0
    exact ⟨rfl, CC _, FF _, OO _⟩
  · rw [Bool.true_and] at hy
    by_cases h0 : n ≥ 1
    · by_cases h1 : n ≤ most
      · rw [decide_eq_true ⟨h0, h1⟩] at hy
        subst hy
        go_enter Try.func27, Try.ntmps27
        go_wp2
        go_end0
        exact ⟨rfl, CC _, FF _, OO _⟩
      · rw [decide_eq_false (fun h => h1 h.2)] at hy
        subst hy
        go_enter Try.func27, Try.ntmps27
        go_wp2
        go_end0
        exact ⟨rfl, CC _, FF _, OO _⟩
    · rw [decide_eq_false (fun h => h0 h.1)] at hy
      subst hy
      go_enter Try.func27, Try.ntmps27
      go_wp2
      go_end0
      exact ⟨rfl, CC _, FF _, OO _⟩
/-- a geometry, and whether it may be as far as was asked -/
structure ChkAt (w W : World) (gb mb : Nat) (g : GeoS) (y : Bool) : Prop where
  geo : GeoAt W gb g
  may : W.cell? ⟨mb, 0, none⟩ = some (.bool y)
  fz : W.frozen? ⟨mb, 0, none⟩ = false
  l1 : mb < W.heap.size
  l2 : gb < W.heap.size
  l3 : w.heap.size ≤ mb
  ne : gb ≠ mb
  b : Below w.heap.size w W
theorem ChkAt.below {w W W' : World} {gb mb : Nat} {g : GeoS} {y : Bool} (h : ChkAt w W gb mb g y) (hB : Below W.heap.size W W') : ChkAt w W' gb mb g y :=
  ⟨h.geo.below h.l2 hB, (hB.cell (p := ⟨mb, 0, none⟩) h.l1).trans h.may, (hB.frozen (p := ⟨mb, 0, none⟩) h.l1).trans h.fz, Nat.lt_of_lt_of_le h.l1 hB.size, Nat.lt_of_lt_of_le h.l2 hB.size, h.l3, h.ne, h.b.stepL hB h.b.size⟩
theorem ChkAt.ask {w W W' : World} {gb mb : Nat} {g : GeoS} {y y' : Bool} (h : ChkAt w W gb mb g y) (c : W'.cell? ⟨mb, 0, none⟩ = some (.bool y')) (f : W'.frozen? ⟨mb, 0, none⟩ = false) (hO : Only mb W W') : ChkAt w W' gb mb g y' :=
  ⟨⟨(hO.cell (p := ⟨gb, 0, none⟩) h.ne).trans h.geo.1, (hO.cell (p := ⟨gb, 1, none⟩) h.ne).trans h.geo.2.1, (hO.cell (p := ⟨gb, 2, none⟩) h.ne).trans h.geo.2.2.1, (hO.cell (p := ⟨gb, 3, none⟩) h.ne).trans h.geo.2.2.2.1, (hO.cell (p := ⟨gb, 4, none⟩) h.ne).trans h.geo.2.2.2.2.1, (hO.cell (p := ⟨gb, 5, none⟩) h.ne).trans h.geo.2.2.2.2.2⟩, c, f, by rw [hO.size]; exact h.l1, by rw [hO.size]; exact h.l2, h.l3, h.ne, h.b.trans (hO.below h.l3)⟩
theorem chk_laid (w : World) (g : GeoS) (e e2 : Nat) (y : Bool) : ChkAt w ((w.alloc (.cells (cellsG g) e)).alloc (.cells #[.bool y] e2)) w.heap.size (w.heap.size + 1) g y := by
  have B0 := belL (w.alloc (.cells (cellsG g) e)) (.cells #[.bool y] e2)
  obtain ⟨h1, h2⟩ := geo_laid w g e _ B0
  refine ⟨h1, ?_, ?_, by simp, by simp; omega, by omega, by omega, h2⟩
  · simp
  · have hs : (w.alloc (.cells (cellsG g) e)).heap.size = w.heap.size + 1 := by simp
    rw [← hs]
    simp [go_sem]
theorem ch_all {k m z s t o : Int} {y : Bool} {n : Int} (hn : okK k m → n = k + m) (h : (decide (okK k m) && decide (1 ≤ n ∧ n ≤ 32) && decide (1 ≤ z ∧ z ≤ 4096) && decide (1 ≤ s ∧ s ≤ 256) && decide (1 ≤ t ∧ t ≤ 64) && decide (1 ≤ o ∧ o ≤ 64)) = y) : chG ⟨k, m, z, s, t, o⟩ = if y = true then 0 else 50 := by
  subst h
  unfold chG
  by_cases ho : okG ⟨k, m, z, s, t, o⟩
  · rw [if_pos ho, if_pos]
    obtain ⟨o1, o2, o3, o4, o5, o6, o7, o8, o9, o10, o11⟩ := ho
    simp only at o1 o2 o3 o4 o5 o6 o7 o8 o9 o10 o11
    have hk : okK k m := by unfold okK; omega
    have e := hn hk
    simp only [Bool.and_eq_true, decide_eq_true_eq]
    exact ⟨⟨⟨⟨⟨hk, by omega⟩, by omega⟩, by omega⟩, by omega⟩, by omega⟩
  · rw [if_neg ho, if_neg]
    intro h
    simp only [Bool.and_eq_true, decide_eq_true_eq] at h
    obtain ⟨⟨⟨⟨⟨hk, h1⟩, h2⟩, h3⟩, h4⟩, h5⟩ := h
    have e := hn hk
    unfold okK at hk
    exact ho ⟨by simp only; omega, by simp only; omega, by simp only; omega, by simp only; omega, by simp only; omega, by simp only; omega, by simp only; omega, by simp only; omega, by simp only; omega, by simp only; omega, by simp only; omega⟩
set_option maxRecDepth 100000 in
set_option maxHeartbeats 4000000 in
theorem lcheck_any {w : World} {g : GeoS} (hg : g.Wf) {x : Int} (hx : chG g = x) : Calls Try.prog 10 #[aggG g] w fun e w' => e = .returned (.int .i64 x) ∧ Below w.heap.size w w' := by
  obtain ⟨k, m, z, s, t, o⟩ := g
  have K := fun W => @lchk_any W k m _ rfl
  have KD := fun W => @ldisks_any W ⟨k, m, z, s, t, o⟩ _ rfl
  simp only at KD
  have LA := chk_laid w ⟨k, m, z, s, t, o⟩
  rw [show aggG ⟨k, m, z, s, t, o⟩ = .agg #[.int .i64 k, .int .i64 m, .int .i64 z, .int .i64 s, .int .i64 t, .int .i64 o] from rfl] at KD ⊢
  obtain ⟨n, hn⟩ : ∃ n, Hid (n = IntKind.i64.wrap (k + m)) := ⟨_, rfl⟩
  rw [← hn.out] at KD
  have hn2 : Hid (okK k m → n = k + m) := fun hk => by rw [hn.out, IntKind.wrap_i64]; unfold okK at hk; omega
  clear hn
  obtain ⟨y0, e0⟩ : ∃ y, Hid (decide (okK k m) = y) := ⟨_, rfl⟩
  obtain ⟨y1, e1⟩ : ∃ y, Hid ((y0 && decide (1 ≤ n ∧ n ≤ 32)) = y) := ⟨_, rfl⟩
  obtain ⟨y2, e2⟩ : ∃ y, Hid ((y1 && decide (1 ≤ z ∧ z ≤ 4096)) = y) := ⟨_, rfl⟩
  obtain ⟨y3, e3⟩ : ∃ y, Hid ((y2 && decide (1 ≤ s ∧ s ≤ 256)) = y) := ⟨_, rfl⟩
  obtain ⟨y4, e4⟩ : ∃ y, Hid ((y3 && decide (1 ≤ t ∧ t ≤ 64)) = y) := ⟨_, rfl⟩
  obtain ⟨y5, e5⟩ : ∃ y, Hid ((y4 && decide (1 ≤ o ∧ o ≤ 64)) = y) := ⟨_, rfl⟩
  have EX : Hid (x = if y5 = true then 0 else 50) := by
    show _ = _
    rw [← hx]
    exact ch_all hn2.out (by rw [e0.out, e1.out, e2.out, e3.out, e4.out, e5.out])
  clear hx
  obtain ⟨q, hq⟩ : ∃ q : Int, Hid (q = if okK k m then 0 else 50) := ⟨_, rfl⟩
  rw [← hq.out] at K
  have E0 : (q == 0) = y0 := by
    rw [hq.out, ← e0.out]
    by_cases h : okK k m
    · rw [if_pos h, decide_eq_true h]; rfl
    · rw [if_neg h, decide_eq_false h]; rfl
  go_enter Try.func10, Try.ntmps10
  go_wp2_with fail
  refine (K _).mono ?_
  rintro _ wq ⟨rfl, hwq⟩
  rw [hwq]
  clear hwq wq K
  have C0 : Hid (ChkAt w ((w.alloc (.cells (cellsG ⟨k, m, z, s, t, o⟩) 24)).alloc (.cells #[.bool (q == 0)] 4)) w.heap.size (w.heap.size + 1) ⟨k, m, z, s, t, o⟩ y0) := by
    have := LA 24 4 (q == 0)
    rw [E0] at this ⊢
    exact this
  clear E0 LA
  go_wp2_with fail
  refine (KD _).mono ?_
  rintro _ v0 ⟨rfl, b0⟩
  have C1 := C0.out.below b0
  clear b0 C0 KD
  obtain ⟨x0, x1, x2, x3, x4, x5⟩ := C1.geo
  have xm := C1.may
  have xf := C1.fz
  simp only at x0 x1 x2 x3 x4 x5
  go_wp2_with fail
  refine (lask_any e1.out xm xf).mono ?_
  rintro _ v1 ⟨rfl, cm, cf, O1⟩
  have C2 := C1.ask cm cf O1
  clear x0 x1 x2 x3 x4 x5 xm xf cm cf O1 C1
  obtain ⟨x0, x1, x2, x3, x4, x5⟩ := C2.geo
  have xm := C2.may
  have xf := C2.fz
  simp only at x0 x1 x2 x3 x4 x5
  go_wp2_with fail
  refine (lask_any e2.out xm xf).mono ?_
  rintro _ v2 ⟨rfl, cm, cf, O2⟩
  have C3 := C2.ask cm cf O2
  clear x0 x1 x2 x3 x4 x5 xm xf cm cf O2 C2
  obtain ⟨x0, x1, x2, x3, x4, x5⟩ := C3.geo
  have xm := C3.may
  have xf := C3.fz
  simp only at x0 x1 x2 x3 x4 x5
  go_wp2_with fail
  refine (lask_any e3.out xm xf).mono ?_
  rintro _ v3 ⟨rfl, cm, cf, O3⟩
  have C4 := C3.ask cm cf O3
  clear x0 x1 x2 x3 x4 x5 xm xf cm cf O3 C3
  obtain ⟨x0, x1, x2, x3, x4, x5⟩ := C4.geo
  have xm := C4.may
  have xf := C4.fz
  simp only at x0 x1 x2 x3 x4 x5
  go_wp2_with fail
  refine (lask_any e4.out xm xf).mono ?_
  rintro _ v4 ⟨rfl, cm, cf, O4⟩
  have C5 := C4.ask cm cf O4
  clear x0 x1 x2 x3 x4 x5 xm xf cm cf O4 C4
  obtain ⟨x0, x1, x2, x3, x4, x5⟩ := C5.geo
  have xm := C5.may
  have xf := C5.fz
  simp only at x0 x1 x2 x3 x4 x5
  go_wp2_with fail
  refine (lask_any e5.out xm xf).mono ?_
  rintro _ v5 ⟨rfl, cm, cf, O5⟩
  have C6 := C5.ask cm cf O5
  clear x0 x1 x2 x3 x4 x5 xm xf cm cf O5 C5
  obtain ⟨x0, x1, x2, x3, x4, x5⟩ := C6.geo
  have xm := C6.may
  have xf := C6.fz
  simp only at x0 x1 x2 x3 x4 x5
  have F := C6.b
  clear C6
  cases y5
  · have X := EX.out
    simp only [Bool.false_eq_true, if_false] at X
    subst X
    go_wp2
    go_ret
    exact ⟨rfl, F⟩
  · have X := EX.out
    simp only [if_true] at X
    subst X
    go_wp2
    go_ret
    exact ⟨rfl, F⟩
end Go.Proofs.Ythicjoicfckmpaa.Gf

/-
  THE PROGRAM's LAYOUT BY CONTRACT (package layout): behind: the place behind so many sectors.
-/

namespace Go.Proofs.Ythicjoicfckmpaa.Gf
set_option linter.unusedVariables false
set_option linter.unusedSimpArgs false
open Go.RowKit

def sumZ (f : Nat → Int) : Nat → Int
  | 0 => 0
  | n + 1 => sumZ f n + f n
theorem sumZ_le {f : Nat → Int} {n : Nat} (h : ∀ i, i < n → 0 ≤ f i ∧ f i ≤ 1000000) : ∀ r, r ≤ n → 0 ≤ sumZ f r ∧ sumZ f r ≤ 1000000 * (r : Int)
  | 0, _ => by simp [sumZ]
  | r + 1, hr => by
    have h1 := sumZ_le h r (by omega)
    have h2 := h r (by omega)
    simp only [sumZ]
    omega
set_option maxRecDepth 100000 in
set_option maxHeartbeats 2000000 in
theorem lbeh_any {w : World} {b n c : Nat} {f : Nat → Int} (hn : n ≤ 100) (h : ∀ i, i < n → 0 ≤ f i ∧ f i ≤ 1000000) (hc : ∀ i, i < n → w.cell? ⟨b, i, none⟩ = some (.int .i64 (f i))) {x : Int} (hx : sumZ f n = x) : Calls Try.prog 30 #[.slice (some ⟨b, 0, none⟩) n c] w fun e w' => e = .returned (.int .i64 x) ∧ w' = w := by
  have SB := sumZ_le h
  have HX : Hid (sumZ f n = x) := hx
  have HC : Hid (∀ i, i < n → w.cell? ⟨b, i, none⟩ = some (.int .i64 (f i))) := hc
  clear hx hc
  go_enter Try.func30, Try.ntmps30
  go_wp2
  go_loopw [3, 8] (fun o i wr => ∃ r : Nat, r ≤ n ∧ i = .int .i64 (r : Int) ∧ o = .int .i64 (sumZ f r) ∧ wr = w) (fun _ i _ => n - (intOf i).toNat)
  case atStart => exact ⟨0, by omega, rfl, rfl, rfl⟩
  case round =>
    obtain ⟨r, hr, rfl, rfl, rfl⟩ := hrel
    by_cases hlt : r < n
    · have c1 := HC.out r hlt
      have hlt' : (r : Int) < (n : Int) := by omega
      have s1 := SB r hr
      have s2 := SB (r + 1) (by omega)
      obtain ⟨y, hy⟩ : ∃ y, Hid (y = sumZ f (r + 1)) := ⟨_, rfl⟩
      obtain ⟨u, hu⟩ : ∃ u, Hid (u = f r) := ⟨_, rfl⟩
      obtain ⟨v, hv⟩ : ∃ v, Hid (v = sumZ f r) := ⟨_, rfl⟩
      have e1 : v + u = y := by rw [hy.out, hv.out, hu.out]; rfl
      rw [← hy.out] at s2
      rw [← hu.out] at c1
      rw [← hv.out] at s1 ⊢
      have gw : IntKind.i64.wrap y = y := by rw [IntKind.wrap_i64]; omega
      have gr : IntKind.i64.wrap ((r : Int) + 1) = ((r + 1 : Nat) : Int) := by rw [IntKind.wrap_i64]; omega
      go_wp2
      go_roundw
      case rel => exact ⟨r + 1, by omega, by go_num, by rw [hy.out], by first | trivial | rfl⟩
      case measure => simp [intOf]; omega
    · obtain rfl : r = n := by omega
      have hlt' : ¬ (r : Int) < (r : Int) := by omega
      have E := HX.out
      rw [E]
      clear E SB
      go_wp2
      go_ret
      exact ⟨rfl, rfl⟩
end Go.Proofs.Ythicjoicfckmpaa.Gf

/-
  THE PROGRAM's LAYOUT BY CONTRACT (package layout): Sectors, Slot, Stripe, Area, Disk, Shard, Needs.
-/

namespace Go.Proofs.Ythicjoicfckmpaa.Gf
set_option linter.unusedVariables false
set_option linter.unusedSimpArgs false
open Go.RowKit

/-- three numbers, two numbers laid in a row -/
theorem beh3 {w : World} {a b c : Int} (e : Nat) (ha : 0 ≤ a ∧ a ≤ 1000000) (hb : 0 ≤ b ∧ b ≤ 1000000) (hc : 0 ≤ c ∧ c ≤ 1000000) {x : Int} (hx : a + b + c = x) : Calls Try.prog 30 #[.slice (some ⟨w.heap.size, 0, none⟩) 3 3] (w.alloc (.cells #[.int .i64 a, .int .i64 b, .int .i64 c] e)) fun e w' => e = .returned (.int .i64 x) ∧ Below w.heap.size w w' := by
  have cc : ∀ j, (w.alloc (.cells #[.int .i64 a, .int .i64 b, .int .i64 c] e)).cell? ⟨w.heap.size, j, none⟩ = (#[.int .i64 a, .int .i64 b, .int .i64 c] : Array Value)[j]? := fun j => World.cell?_alloc_new _ _ _ _
  refine (lbeh_any (x := x) (f := fun i => if i = 0 then a else if i = 1 then b else c) (by decide) ?_ ?_ ?_).mono ?_
  · intro i hi
    show 0 ≤ (if i = 0 then a else if i = 1 then b else c) ∧ (if i = 0 then a else if i = 1 then b else c) ≤ 1000000
    split
    · exact ha
    · split
      · exact hb
      · exact hc
  · intro i hi
    rw [cc]
    rcases i with _ | _ | _ | i
    · rfl
    · rfl
    · rfl
    · omega
  · rw [← hx]
    simp [sumZ]
  · rintro _ _ ⟨rfl, rfl⟩
    exact ⟨rfl, belL _ _⟩
theorem beh2 {w : World} {a b : Int} (e : Nat) (ha : 0 ≤ a ∧ a ≤ 1000000) (hb : 0 ≤ b ∧ b ≤ 1000000) {x : Int} (hx : a + b = x) : Calls Try.prog 30 #[.slice (some ⟨w.heap.size, 0, none⟩) 2 2] (w.alloc (.cells #[.int .i64 a, .int .i64 b] e)) fun e w' => e = .returned (.int .i64 x) ∧ Below w.heap.size w w' := by
  have cc : ∀ j, (w.alloc (.cells #[.int .i64 a, .int .i64 b] e)).cell? ⟨w.heap.size, j, none⟩ = (#[.int .i64 a, .int .i64 b] : Array Value)[j]? := fun j => World.cell?_alloc_new _ _ _ _
  refine (lbeh_any (x := x) (f := fun i => if i = 0 then a else b) (by decide) ?_ ?_ ?_).mono ?_
  · intro i hi
    show 0 ≤ (if i = 0 then a else b) ∧ (if i = 0 then a else b) ≤ 1000000
    split
    · exact ha
    · exact hb
  · intro i hi
    rw [cc]
    rcases i with _ | _ | i
    · rfl
    · rfl
    · omega
  · rw [← hx]
    simp [sumZ]
  · rintro _ _ ⟨rfl, rfl⟩
    exact ⟨rfl, belL _ _⟩
set_option maxRecDepth 100000 in
set_option maxHeartbeats 1000000 in
theorem lsec_any {w : World} {g : GeoS} (hg : g.Wf) {x : Int} (hx : secG g = x) : Calls Try.prog 12 #[aggG g] w fun e w' => e = .returned (.int .i64 x) ∧ Below w.heap.size w w' := by
  obtain ⟨k, m, z, s, t, o⟩ := g
  have LA := geo_laid w ⟨k, m, z, s, t, o⟩
  rw [show aggG ⟨k, m, z, s, t, o⟩ = .agg #[.int .i64 k, .int .i64 m, .int .i64 z, .int .i64 s, .int .i64 t, .int .i64 o] from rfl]
  have bk := bounds_i64 hg.k
  have bm := bounds_i64 hg.m
  simp only at bk bm
  have KC := fun W => @lcheck_any W ⟨k, m, z, s, t, o⟩ hg _ rfl
  rw [show aggG ⟨k, m, z, s, t, o⟩ = .agg #[.int .i64 k, .int .i64 m, .int .i64 z, .int .i64 s, .int .i64 t, .int .i64 o] from rfl] at KC
  by_cases h0 : okG ⟨k, m, z, s, t, o⟩
  · rw [show chG ⟨k, m, z, s, t, o⟩ = 0 from if_pos h0] at KC
    rw [show secG ⟨k, m, z, s, t, o⟩ = 5 + t + s from if_pos h0] at hx
    obtain ⟨o1, o2, o3, o4, o5, o6, o7, o8, o9, o10, o11⟩ := h0
    simp only at o1 o2 o3 o4 o5 o6 o7 o8 o9 o10 o11
    subst hx
    go_enter Try.func12, Try.ntmps12
    go_wp2_with fail
    refine (KC _).mono ?_
    rintro _ w1 ⟨rfl, B1⟩
    obtain ⟨⟨x0, x1, x2, x3, x4, x5⟩, F1⟩ := LA _ _ B1
    simp only at x0 x1 x2 x3 x4 x5
    clear B1 LA KC
    go_wp2_with fail
    refine (beh3 _ (by omega) (by omega) (by omega) rfl).mono ?_
    rintro _ w2 ⟨rfl, B2⟩
    have F2 := F1.stepL B2 F1.size
    clear B2 F1 x0 x1 x2 x3 x4 x5
    go_wp2
    go_ret
    exact ⟨rfl, F2⟩
  · rw [show chG ⟨k, m, z, s, t, o⟩ = 50 from if_neg h0] at KC
    rw [show secG ⟨k, m, z, s, t, o⟩ = 0 from if_neg h0] at hx
    subst hx
    go_enter Try.func12, Try.ntmps12
    go_wp2_with fail
    refine (KC _).mono ?_
    rintro _ w1 ⟨rfl, B1⟩
    obtain ⟨⟨x0, x1, x2, x3, x4, x5⟩, F1⟩ := LA _ _ B1
    simp only at x0 x1 x2 x3 x4 x5
    clear B1 LA KC
    go_wp2
    go_ret
    exact ⟨rfl, F1⟩
set_option maxRecDepth 100000 in
set_option maxHeartbeats 1000000 in
theorem lslot_any {w : World} {g : GeoS} (hg : g.Wf) {i : Int} (hi : (Lit.int .i64 i).wf = true) {x : Int} (hx : slG g i = x) : Calls Try.prog 16 #[aggG g, .int .i64 i] w fun e w' => e = .returned (.int .i64 x) ∧ Below w.heap.size w w' := by
  obtain ⟨k, m, z, s, t, o⟩ := g
  have LA := geo_laid w ⟨k, m, z, s, t, o⟩
  rw [show aggG ⟨k, m, z, s, t, o⟩ = .agg #[.int .i64 k, .int .i64 m, .int .i64 z, .int .i64 s, .int .i64 t, .int .i64 o] from rfl]
  have bk := bounds_i64 hg.k
  have bm := bounds_i64 hg.m
  simp only at bk bm
  have KC := fun W => @lcheck_any W ⟨k, m, z, s, t, o⟩ hg _ rfl
  rw [show aggG ⟨k, m, z, s, t, o⟩ = .agg #[.int .i64 k, .int .i64 m, .int .i64 z, .int .i64 s, .int .i64 t, .int .i64 o] from rfl] at KC
  have KI := fun W => @lis_any W i t _ rfl
  by_cases h0 : okG ⟨k, m, z, s, t, o⟩
  · rw [show chG ⟨k, m, z, s, t, o⟩ = 0 from if_pos h0] at KC
    by_cases h1 : 0 ≤ i ∧ i < t
    · rw [show slG ⟨k, m, z, s, t, o⟩ i = 5 + i from if_pos ⟨h0, h1⟩] at hx
      rw [decide_eq_true h1] at KI
      obtain ⟨o1, o2, o3, o4, o5, o6, o7, o8, o9, o10, o11⟩ := h0
      simp only at o1 o2 o3 o4 o5 o6 o7 o8 o9 o10 o11
      subst hx
      go_enter Try.func16, Try.ntmps16
      go_wp2_with fail
      refine (KC _).mono ?_
      rintro _ w1 ⟨rfl, B1⟩
      obtain ⟨⟨x0, x1, x2, x3, x4, x5⟩, F1⟩ := LA _ _ B1
      simp only at x0 x1 x2 x3 x4 x5
      clear B1 LA KC
      go_wp2_with fail
      refine (KI _).mono ?_
      rintro _ wq ⟨rfl, hwq⟩
      rw [hwq]
      clear hwq wq
      go_wp2_with fail
      refine (beh2 _ (by omega) (by omega) rfl).mono ?_
      rintro _ w2 ⟨rfl, B2⟩
      have F2 := F1.stepL B2 F1.size
      clear B2 F1 x0 x1 x2 x3 x4 x5
      go_wp2
      go_ret
      exact ⟨rfl, F2⟩
    · rw [show slG ⟨k, m, z, s, t, o⟩ i = 0 from if_neg (fun h => h1 h.2)] at hx
      rw [decide_eq_false h1] at KI
      subst hx
      go_enter Try.func16, Try.ntmps16
      go_wp2_with fail
      refine (KC _).mono ?_
      rintro _ w1 ⟨rfl, B1⟩
      obtain ⟨⟨x0, x1, x2, x3, x4, x5⟩, F1⟩ := LA _ _ B1
      simp only at x0 x1 x2 x3 x4 x5
      clear B1 LA KC
      go_wp2_with fail
      refine (KI _).mono ?_
      rintro _ wq ⟨rfl, hwq⟩
      rw [hwq]
      clear hwq wq
      go_wp2
      go_ret
      exact ⟨rfl, F1⟩
  · rw [show chG ⟨k, m, z, s, t, o⟩ = 50 from if_neg h0] at KC
    rw [show slG ⟨k, m, z, s, t, o⟩ i = 0 from if_neg (fun h => h0 h.1)] at hx
    subst hx
    go_enter Try.func16, Try.ntmps16
    go_wp2_with fail
    refine (KC _).mono ?_
    rintro _ w1 ⟨rfl, B1⟩
    obtain ⟨⟨x0, x1, x2, x3, x4, x5⟩, F1⟩ := LA _ _ B1
    simp only at x0 x1 x2 x3 x4 x5
    clear B1 LA KC
    go_wp2
    go_ret
    exact ⟨rfl, F1⟩
set_option maxRecDepth 100000 in
set_option maxHeartbeats 1000000 in
theorem lstripe_any {w : World} {g : GeoS} (hg : g.Wf) {i : Int} (hi : (Lit.int .i64 i).wf = true) {x : Int} (hx : stG g i = x) : Calls Try.prog 18 #[aggG g, .int .i64 i] w fun e w' => e = .returned (.int .i64 x) ∧ Below w.heap.size w w' := by
  obtain ⟨k, m, z, s, t, o⟩ := g
  have LA := geo_laid w ⟨k, m, z, s, t, o⟩
  rw [show aggG ⟨k, m, z, s, t, o⟩ = .agg #[.int .i64 k, .int .i64 m, .int .i64 z, .int .i64 s, .int .i64 t, .int .i64 o] from rfl]
  have bk := bounds_i64 hg.k
  have bm := bounds_i64 hg.m
  simp only at bk bm
  have KC := fun W => @lcheck_any W ⟨k, m, z, s, t, o⟩ hg _ rfl
  rw [show aggG ⟨k, m, z, s, t, o⟩ = .agg #[.int .i64 k, .int .i64 m, .int .i64 z, .int .i64 s, .int .i64 t, .int .i64 o] from rfl] at KC
  have KI := fun W => @lis_any W i s _ rfl
  by_cases h0 : okG ⟨k, m, z, s, t, o⟩
  · rw [show chG ⟨k, m, z, s, t, o⟩ = 0 from if_pos h0] at KC
    by_cases h1 : 0 ≤ i ∧ i < s
    · rw [show stG ⟨k, m, z, s, t, o⟩ i = 5 + t + i from if_pos ⟨h0, h1⟩] at hx
      rw [decide_eq_true h1] at KI
      obtain ⟨o1, o2, o3, o4, o5, o6, o7, o8, o9, o10, o11⟩ := h0
      simp only at o1 o2 o3 o4 o5 o6 o7 o8 o9 o10 o11
      subst hx
      go_enter Try.func18, Try.ntmps18
      go_wp2_with fail
      refine (KC _).mono ?_
      rintro _ w1 ⟨rfl, B1⟩
      obtain ⟨⟨x0, x1, x2, x3, x4, x5⟩, F1⟩ := LA _ _ B1
      simp only at x0 x1 x2 x3 x4 x5
      clear B1 LA KC
      go_wp2_with fail
      refine (KI _).mono ?_
      rintro _ wq ⟨rfl, hwq⟩
      rw [hwq]
      clear hwq wq
      go_wp2_with fail
      refine (beh3 _ (by omega) (by omega) (by omega) rfl).mono ?_
      rintro _ w2 ⟨rfl, B2⟩
      have F2 := F1.stepL B2 F1.size
      clear B2 F1 x0 x1 x2 x3 x4 x5
      go_wp2
      go_ret
      exact ⟨rfl, F2⟩
    · rw [show stG ⟨k, m, z, s, t, o⟩ i = 0 from if_neg (fun h => h1 h.2)] at hx
      rw [decide_eq_false h1] at KI
      subst hx
      go_enter Try.func18, Try.ntmps18
      go_wp2_with fail
      refine (KC _).mono ?_
      rintro _ w1 ⟨rfl, B1⟩
      obtain ⟨⟨x0, x1, x2, x3, x4, x5⟩, F1⟩ := LA _ _ B1
      simp only at x0 x1 x2 x3 x4 x5
      clear B1 LA KC
      go_wp2_with fail
      refine (KI _).mono ?_
      rintro _ wq ⟨rfl, hwq⟩
      rw [hwq]
      clear hwq wq
      go_wp2
      go_ret
      exact ⟨rfl, F1⟩
  · rw [show chG ⟨k, m, z, s, t, o⟩ = 50 from if_neg h0] at KC
    rw [show stG ⟨k, m, z, s, t, o⟩ i = 0 from if_neg (fun h => h0 h.1)] at hx
    subst hx
    go_enter Try.func18, Try.ntmps18
    go_wp2_with fail
    refine (KC _).mono ?_
    rintro _ w1 ⟨rfl, B1⟩
    obtain ⟨⟨x0, x1, x2, x3, x4, x5⟩, F1⟩ := LA _ _ B1
    simp only at x0 x1 x2 x3 x4 x5
    clear B1 LA KC
    go_wp2
    go_ret
    exact ⟨rfl, F1⟩
set_option maxRecDepth 100000 in
set_option maxHeartbeats 1000000 in
theorem larea_any {w : World} {g : GeoS} (hg : g.Wf) {a i : Int} (ha : (Lit.int .i64 a).wf = true) (hi : (Lit.int .i64 i).wf = true) {x : Int} (hx : arG g a i = x) : Calls Try.prog 14 #[aggG g, .int .i64 a, .int .i64 i] w fun e w' => e = .returned (.int .i64 x) ∧ Below w.heap.size w w' := by
  obtain ⟨k, m, z, s, t, o⟩ := g
  have LA := geo_laid w ⟨k, m, z, s, t, o⟩
  rw [show aggG ⟨k, m, z, s, t, o⟩ = .agg #[.int .i64 k, .int .i64 m, .int .i64 z, .int .i64 s, .int .i64 t, .int .i64 o] from rfl]
  have bk := bounds_i64 hg.k
  have bm := bounds_i64 hg.m
  simp only at bk bm
  have KC := fun W => @lcheck_any W ⟨k, m, z, s, t, o⟩ hg _ rfl
  rw [show aggG ⟨k, m, z, s, t, o⟩ = .agg #[.int .i64 k, .int .i64 m, .int .i64 z, .int .i64 s, .int .i64 t, .int .i64 o] from rfl] at KC
  have KA := fun W => @lis_any W a 2 _ rfl
  have KI := fun W => @lis_any W i 2 _ rfl
  by_cases h0 : okG ⟨k, m, z, s, t, o⟩
  · rw [show chG ⟨k, m, z, s, t, o⟩ = 0 from if_pos h0] at KC
    by_cases h1 : 0 ≤ a ∧ a < 2
    · rw [decide_eq_true h1] at KA
      by_cases h2 : 0 ≤ i ∧ i < 2
      · rw [show arG ⟨k, m, z, s, t, o⟩ a i = 1 + a * 2 + i from if_pos ⟨⟨h0, h1⟩, h2⟩] at hx
        rw [decide_eq_true h2] at KI
        have g1 : IntKind.i64.wrap (a * 2) = a * 2 := by rw [IntKind.wrap_i64]; omega
        subst hx
        go_enter Try.func14, Try.ntmps14
        go_wp2_with fail
        refine (KC _).mono ?_
        rintro _ w1 ⟨rfl, B1⟩
        obtain ⟨⟨x0, x1, x2, x3, x4, x5⟩, F1⟩ := LA _ _ B1
        simp only at x0 x1 x2 x3 x4 x5
        clear B1 LA KC
        go_wp2_with fail
        refine (KA _).mono ?_
        rintro _ wq ⟨rfl, hwq⟩
        rw [hwq]
        clear hwq wq
        go_wp2_with fail
        refine (KI _).mono ?_
        rintro _ wq ⟨rfl, hwq⟩
        rw [hwq]
        clear hwq wq
        go_wp2_with fail
        refine (beh3 _ (by omega) (by omega) (by omega) rfl).mono ?_
        rintro _ w2 ⟨rfl, B2⟩
        have F2 := F1.stepL B2 F1.size
        clear B2 F1 x0 x1 x2 x3 x4 x5
        go_wp2
        go_ret
        exact ⟨rfl, F2⟩
      · rw [show arG ⟨k, m, z, s, t, o⟩ a i = 0 from if_neg (fun h => h2 h.2)] at hx
        rw [decide_eq_false h2] at KI
        subst hx
        go_enter Try.func14, Try.ntmps14
        go_wp2_with fail
        refine (KC _).mono ?_
        rintro _ w1 ⟨rfl, B1⟩
        obtain ⟨⟨x0, x1, x2, x3, x4, x5⟩, F1⟩ := LA _ _ B1
        simp only at x0 x1 x2 x3 x4 x5
        clear B1 LA KC
        go_wp2_with fail
        refine (KA _).mono ?_
        rintro _ wq ⟨rfl, hwq⟩
        rw [hwq]
        clear hwq wq
        go_wp2_with fail
        refine (KI _).mono ?_
        rintro _ wq ⟨rfl, hwq⟩
        rw [hwq]
        clear hwq wq
        go_wp2
        go_ret
        exact ⟨rfl, F1⟩
    · rw [show arG ⟨k, m, z, s, t, o⟩ a i = 0 from if_neg (fun h => h1 h.1.2)] at hx
      rw [decide_eq_false h1] at KA
      subst hx
      go_enter Try.func14, Try.ntmps14
      go_wp2_with fail
      refine (KC _).mono ?_
      rintro _ w1 ⟨rfl, B1⟩
      obtain ⟨⟨x0, x1, x2, x3, x4, x5⟩, F1⟩ := LA _ _ B1
      simp only at x0 x1 x2 x3 x4 x5
      clear B1 LA KC
      go_wp2_with fail
      refine (KA _).mono ?_
      rintro _ wq ⟨rfl, hwq⟩
      rw [hwq]
      clear hwq wq
      go_wp2
      go_ret
      exact ⟨rfl, F1⟩
  · rw [show chG ⟨k, m, z, s, t, o⟩ = 50 from if_neg h0] at KC
    rw [show arG ⟨k, m, z, s, t, o⟩ a i = 0 from if_neg (fun h => h0 h.1.1)] at hx
    subst hx
    go_enter Try.func14, Try.ntmps14
    go_wp2_with fail
    refine (KC _).mono ?_
    rintro _ w1 ⟨rfl, B1⟩
    obtain ⟨⟨x0, x1, x2, x3, x4, x5⟩, F1⟩ := LA _ _ B1
    simp only at x0 x1 x2 x3 x4 x5
    clear B1 LA KC
    go_wp2
    go_ret
    exact ⟨rfl, F1⟩
set_option maxRecDepth 100000 in
set_option maxHeartbeats 1000000 in
theorem lneeds_any {w : World} {g : GeoS} (hg : g.Wf) {b : Int} (hb : (Lit.int .i64 b).wf = true) {x : Int} (hx : neG g b = x) : Calls Try.prog 24 #[aggG g, .int .i64 b] w fun e w' => e = .returned (.int .i64 x) ∧ Below w.heap.size w w' := by
  obtain ⟨k, m, z, s, t, o⟩ := g
  have LA := geo_laid w ⟨k, m, z, s, t, o⟩
  rw [show aggG ⟨k, m, z, s, t, o⟩ = .agg #[.int .i64 k, .int .i64 m, .int .i64 z, .int .i64 s, .int .i64 t, .int .i64 o] from rfl]
  have bk := bounds_i64 hg.k
  have bm := bounds_i64 hg.m
  simp only at bk bm
  have KC := fun W => @lcheck_any W ⟨k, m, z, s, t, o⟩ hg _ rfl
  rw [show aggG ⟨k, m, z, s, t, o⟩ = .agg #[.int .i64 k, .int .i64 m, .int .i64 z, .int .i64 s, .int .i64 t, .int .i64 o] from rfl] at KC
  have bb := bounds_i64 hb
  by_cases h0 : okG ⟨k, m, z, s, t, o⟩
  · rw [show chG ⟨k, m, z, s, t, o⟩ = 0 from if_pos h0] at KC
    have op := one_pos h0
    by_cases b1 : b < 1
    · rw [show neG ⟨k, m, z, s, t, o⟩ b = 0 from if_neg (fun h => by have := h.2; omega)] at hx
      subst hx
      go_enter Try.func24, Try.ntmps24
      go_wp2_with fail
      refine (KC _).mono ?_
      rintro _ w1 ⟨rfl, B1⟩
      obtain ⟨⟨x0, x1, x2, x3, x4, x5⟩, F1⟩ := LA _ _ B1
      simp only at x0 x1 x2 x3 x4 x5
      clear B1 LA KC
      go_wp2
      go_ret
      exact ⟨rfl, F1⟩
    rw [show neG ⟨k, m, z, s, t, o⟩ b = (b - 1) / (k * z) + 1 from if_pos ⟨h0, by omega⟩] at hx
    simp only at op
    obtain ⟨c, hc⟩ : ∃ c, Hid (c = k * z) := ⟨_, rfl⟩
    rw [← hc.out] at op hx
    have gk : IntKind.i64.wrap (k * z) = c := by rw [← hc.out, IntKind.wrap_i64]; omega
    have nz : ¬ c = 0 := by omega
    have nz' : (c == 0) = false := beq_eq_false_iff_ne.2 nz
    have gb : IntKind.i64.wrap (b - 1) = b - 1 := by rw [IntKind.wrap_i64]; omega
    have td : (b - 1).tdiv c = (b - 1) / c := Int.tdiv_eq_ediv_of_nonneg (by omega)
    have e4 := Int.ediv_nonneg (show 0 ≤ b - 1 by omega) (show 0 ≤ c by omega)
    have e5 : (b - 1) / c ≤ b - 1 := Int.ediv_le_self _ (by omega)
    have gd : IntKind.i64.wrap ((b - 1) / c) = (b - 1) / c := by rw [IntKind.wrap_i64]; omega
    have g5 : IntKind.i64.wrap ((b - 1) / c + 1) = (b - 1) / c + 1 := by rw [IntKind.wrap_i64]; omega
    clear e4 e5
    subst hx
    go_enter Try.func24, Try.ntmps24
    go_wp2_with fail
    refine (KC _).mono ?_
    rintro _ w1 ⟨rfl, B1⟩
    obtain ⟨⟨x0, x1, x2, x3, x4, x5⟩, F1⟩ := LA _ _ B1
    simp only at x0 x1 x2 x3 x4 x5
    clear B1 LA KC
    go_wp2
    go_ret
    exact ⟨rfl, F1⟩
  · rw [show chG ⟨k, m, z, s, t, o⟩ = 50 from if_neg h0] at KC
    rw [show neG ⟨k, m, z, s, t, o⟩ b = 0 from if_neg (fun h => h0 h.1)] at hx
    subst hx
    go_enter Try.func24, Try.ntmps24
    go_wp2_with fail
    refine (KC _).mono ?_
    rintro _ w1 ⟨rfl, B1⟩
    obtain ⟨⟨x0, x1, x2, x3, x4, x5⟩, F1⟩ := LA _ _ B1
    simp only at x0 x1 x2 x3 x4 x5
    clear B1 LA KC
    go_wp2
    go_ret
    exact ⟨rfl, F1⟩
end Go.Proofs.Ythicjoicfckmpaa.Gf

