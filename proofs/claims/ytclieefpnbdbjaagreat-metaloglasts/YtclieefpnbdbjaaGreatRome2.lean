/- TEXTS JOINED: RdIn, TuLm, MxTurn, MxStep. -/
import Derived.Laws.CopyOwn
import Derived.Deep.AppendLies
import Derived.Test.YtclieefpnbdbjaaGreatRome1
namespace Go.Proofs.YtclieefpnbdbjaaGreat.Gf
set_option linter.unusedVariables false
set_option linter.unusedSimpArgs false
open Go.RowKit
/-- A slice of numbers of rows. -/
def RdI (w : World) (v : Value) (zs : List Int) : Prop :=
  (∃ ao cap, zs = [] ∧ v = .slice ao 0 cap) ∨ (∃ b off cap, zs ≠ [] ∧ v = .slice (some ⟨b, off, none⟩) zs.length cap ∧ zs.length ≤ maxLen ∧ b < w.heap.size ∧ ∀ i, i < zs.length → w.cell? ⟨b, off + i, none⟩ = some (.int .i64 (zs.getD i 0)))
theorem RdI.below {w w' : World} {v : Value} {zs : List Int} (h : RdI w v zs) (hb : Below w.heap.size w w') : RdI w' v zs := by
  rcases h with h | ⟨b, off, cap, h1, h2, h3, h5, h6⟩
  · exact Or.inl h
  · exact Or.inr ⟨b, off, cap, h1, h2, h3, Nat.lt_of_lt_of_le h5 hb.size, fun i hi => (hb.cell (p := ⟨b, off + i, none⟩) h5).trans (h6 i hi)⟩
theorem RdI.form {w : World} {v : Value} {zs : List Int} (h : RdI w v zs) : ∃ a c, v = .slice a zs.length c := by
  rcases h with ⟨a, c, rfl, rfl⟩ | ⟨b, off, c, _, rfl, _⟩
  · exact ⟨a, c, rfl⟩
  · exact ⟨_, c, rfl⟩
theorem _root_.Go.RowKit.Below.drewN {B : Nat} {a w : World} (h : Below B a w) (n : Nat) : Below B a (w.drewN n) := ⟨h.os, h.tape, h.output, h.size, h.block⟩
theorem rdI_lit2 {w : World} {n b : Nat} {cs : Array Value} {e : Nat} (zs : List Int) (hb : b = w.heap.size) (hn : zs.length = n) (hs : cs.toList = zs.map (fun z => Value.int .i64 z)) (hl : n ≤ 1000000) : RdI (w.alloc (.cells cs e)) (.slice (some ⟨b, 0, none⟩) n n) zs := by
  subst hb hn
  by_cases h0 : zs = []
  · subst h0; exact Or.inl ⟨_, _, rfl, rfl⟩
  · refine Or.inr ⟨w.heap.size, 0, _, h0, rfl, by unfold maxLen; omega, by simp, fun i hi => ?_⟩
    rw [Nat.zero_add, World.cell?_alloc_new, ← Array.getElem?_toList, hs, List.getElem?_map, List.getElem?_eq_getElem hi]
    simp [List.getD, hi]
/-- a slice of places, as the walk meets it -/
theorem RdI.at {w : World} {a : Option Addr} {n c : Nat} {zs : List Int} (h : RdI w (.slice a n c) zs) {i : Nat} (hi : i < zs.length) : ∃ b off, a = some ⟨b, off, none⟩ ∧ b < w.heap.size ∧ w.cell? ⟨b, off + i, none⟩ = some (.int .i64 (zs.getD i 0)) := by
  rcases h with ⟨_, _, e, _⟩ | ⟨b, off, cap, _, e, _, hb, hc⟩
  · subst e; simp at hi
  · simp at e
    obtain ⟨rfl, rfl, rfl⟩ := e
    exact ⟨b, off, rfl, hb, hc i hi⟩
end Go.Proofs.YtclieefpnbdbjaaGreat.Gf

namespace Go.Proofs.YtclieefpnbdbjaaGreat.Gf
set_option linter.unusedVariables false
set_option linter.unusedSimpArgs false
open Go.RowKit
structure TurnL (G : List Nat) (w w' : World) : Prop where
  os : w'.os = w.os
  tape : w'.tape = w.tape
  output : w'.output = w.output
  size : w.heap.size ≤ w'.heap.size
  block : ∀ k, k < w.heap.size → k ∉ G → w'.heap[k]? = w.heap[k]?
theorem TurnL.refl (G : List Nat) (w : World) : TurnL G w w := ⟨rfl, rfl, rfl, Nat.le_refl _, fun _ _ _ => rfl⟩
theorem TurnL.trans {G : List Nat} {a b c : World} (h : TurnL G a b) (k : TurnL G b c) : TurnL G a c :=
  ⟨k.os.trans h.os, k.tape.trans h.tape, k.output.trans h.output, Nat.le_trans h.size k.size, fun i hi hg => (k.block i (Nat.lt_of_lt_of_le hi h.size) hg).trans (h.block i hi hg)⟩
theorem Below.turnL {w w' : World} (h : Below w.heap.size w w') (G : List Nat) : TurnL G w w' := ⟨h.os, h.tape, h.output, h.size, fun k hk _ => h.block k hk⟩
theorem Only.turnL {g : Nat} {G : List Nat} {w w' : World} (h : Only g w w') (hg : g ∈ G) : TurnL G w w' :=
  ⟨h.os, h.tape, h.output, by rw [h.size]; exact Nat.le_refl _, fun k _ hk => h.block k (fun e => hk (by rw [e]; exact hg))⟩
theorem TurnL.put {G : List Nat} {a w : World} (h : TurnL G a w) {g : Nat} (hg : g ∈ G) (j : Nat) (u : Value) : TurnL G a (w.setCell ⟨g, j, none⟩ u) := h.trans (((Only.refl g w).setCell j u).turnL hg)
theorem TurnL.drew {G : List Nat} {a w : World} (h : TurnL G a w) : TurnL G a w.drew := ⟨h.os, h.tape, h.output, h.size, h.block⟩
theorem TurnL.below {G : List Nat} {B : Nat} {w w' : World} (h : TurnL G w w') (hg : ∀ g, g ∈ G → B ≤ g) (hB : B ≤ w.heap.size) : Below B w w' :=
  ⟨h.os, h.tape, h.output, h.size, fun k hk => h.block k (by omega) (fun e => by have := hg k e; omega)⟩
theorem TurnL.cell {G : List Nat} {w w' : World} (h : TurnL G w w') {p : Addr} (hs : p.block < w.heap.size) (hp : p.block ∉ G) : w'.cell? p = w.cell? p := World.cell?_of_block (w := w) (h.block p.block hs hp)
theorem TurnL.frozen {G : List Nat} {w w' : World} (h : TurnL G w w') {p : Addr} (hs : p.block < w.heap.size) (hp : p.block ∉ G) : w'.frozen? p = w.frozen? p := World.frozen?_of_block (w := w) (h.block p.block hs hp)
/-- a slice that lies in none of the blocks -/
def ApartL (G : List Nat) (v : Value) : Prop := ∀ x n c, v = .slice (some x) n c → n = 0 ∨ x.block ∉ G
theorem Rd.turnL {G : List Nat} {w w' : World} {v : Value} {p : List UInt8} (h : Rd w v p) (ha : ApartL G v) (ho : TurnL G w w') : Rd w' v p := by
  rcases h with h | ⟨b, off, cap, h1, h2, h3, h4, h5, h6⟩
  · exact Or.inl h
  · have hb : b ∉ G := by
      rcases ha _ _ _ h2 with e | e
      · exact absurd (List.length_eq_zero_iff.1 e) h1
      · exact e
    exact Or.inr ⟨b, off, cap, h1, h2, h3, h4, Nat.lt_of_lt_of_le h5 ho.size, fun i hi => (ho.cell (p := ⟨b, off + i, none⟩) h5 hb).trans (h6 i hi)⟩
/-- one that was there before the blocks were laid -/
theorem Rd.apartL {w : World} {v : Value} {p : List UInt8} {G : List Nat} (h : Rd w v p) (hg : ∀ g, g ∈ G → w.heap.size ≤ g) : ApartL G v := by
  intro x n c e
  rcases h with ⟨a, c', _, e2, _⟩ | ⟨b, off, cap, h1, h2, h3, h4, h5, h6⟩
  · subst e2; simp at e; exact Or.inl e.2.1.symm
  · subst h2; simp at e; obtain ⟨rfl, rfl, rfl⟩ := e; exact Or.inr (fun h => by have := hg b h; omega)
end Go.Proofs.YtclieefpnbdbjaaGreat.Gf

namespace Go.Proofs.YtclieefpnbdbjaaGreat.Gf
set_option linter.unusedVariables false
set_option linter.unusedSimpArgs false
open Go.RowKit
/-- Of what was there nothing but the block g has turned. -/
structure Turn (g : Nat) (w w' : World) : Prop where
  os : w'.os = w.os
  tape : w'.tape = w.tape
  output : w'.output = w.output
  size : w.heap.size ≤ w'.heap.size
  block : ∀ k, k < w.heap.size → k ≠ g → w'.heap[k]? = w.heap[k]?
theorem Turn.refl (g : Nat) (w : World) : Turn g w w := ⟨rfl, rfl, rfl, Nat.le_refl _, fun _ _ _ => rfl⟩
theorem Turn.trans {g : Nat} {a b c : World} (h : Turn g a b) (k : Turn g b c) : Turn g a c :=
  ⟨k.os.trans h.os, k.tape.trans h.tape, k.output.trans h.output, Nat.le_trans h.size k.size, fun i hi hg => (k.block i (Nat.lt_of_lt_of_le hi h.size) hg).trans (h.block i hi hg)⟩
theorem Below.turn {w w' : World} (h : Below w.heap.size w w') (g : Nat) : Turn g w w' := ⟨h.os, h.tape, h.output, h.size, fun k hk _ => h.block k hk⟩
theorem Only.turn {g : Nat} {w w' : World} (h : Only g w w') : Turn g w w' := ⟨h.os, h.tape, h.output, by rw [h.size]; exact Nat.le_refl _, fun k _ hk => h.block k hk⟩
theorem Turn.below {g B : Nat} {w w' : World} (h : Turn g w w') (hg : B ≤ g) (hB : B ≤ w.heap.size) : Below B w w' :=
  ⟨h.os, h.tape, h.output, h.size, fun k hk => h.block k (by omega) (by omega)⟩
theorem Turn.cell {g : Nat} {w w' : World} (h : Turn g w w') {p : Addr} (hs : p.block < w.heap.size) (hp : p.block ≠ g) : w'.cell? p = w.cell? p := World.cell?_of_block (w := w) (h.block p.block hs hp)
theorem Turn.frozen {g : Nat} {w w' : World} (h : Turn g w w') {p : Addr} (hs : p.block < w.heap.size) (hp : p.block ≠ g) : w'.frozen? p = w.frozen? p := World.frozen?_of_block (w := w) (h.block p.block hs hp)
/-- n numbers from the place o on, told anew -/
def putAt (f : Nat → UInt8) (o n : Nat) (q : Nat → UInt8) (t : Nat) : UInt8 := if o ≤ t ∧ t < o + n then q (t - o) else f t
theorem putAt_zero (f : Nat → UInt8) (o : Nat) (q : Nat → UInt8) : putAt f o 0 q = f := by funext t; exact if_neg (by omega)
theorem putAt_out {f : Nat → UInt8} {o n : Nat} {q : Nat → UInt8} {t : Nat} (h : t < o ∨ o + n ≤ t) : putAt f o n q t = f t := if_neg (by omega)
theorem putAt_in {f : Nat → UInt8} {o n : Nat} {q : Nat → UInt8} {k : Nat} (h : k < n) : putAt f o n q (o + k) = q k := by
  unfold putAt; rw [if_pos (by omega), show o + k - o = k by omega]
/-- the row's cells, as they lie -/
theorem RowF.heap {w : World} {base e g L C : Nat} {f : Nat → UInt8} (h : RowF w base e g L C f) (hLC : L = C) : w.heap[g]? = some (.cells ((upto f L).map vb).toArray e (0, 0)) ∧ C ≤ maxLen := by
  obtain ⟨h0, ⟨hv, _⟩ | ⟨g2, cap, cur, hv, hgg, hh, h1, h2, h3, h4⟩⟩ := h
  · simp at hv
  · have e1 : g2 = g := by simp at hv; exact hv.1.symm
    have e2 : cap = C := by simp at hv; exact (by first | exact hv.symm | exact hv.2.symm)
    clear hv
    subst e1 e2 hLC
    refine ⟨?_, h2⟩
    rw [hh, ← h4, Nat.mul_one]
    congr 2
    apply Array.ext'
    have : cur.toList.length = L := by rw [Array.length_toList, h3, Nat.mul_one]
    rw [List.toList_toArray, ← this, List.take_length]
theorem RowF.of_heap {w : World} {base e g L : Nat} {f : Nat → UInt8} (hg : base ≤ g) (hm : L ≤ maxLen) (h : w.heap[g]? = some (.cells ((upto f L).map vb).toArray e (0, 0))) : RowF w base e g L L f := by
  have hl : ((upto f L).map vb).length = L := by rw [List.length_map, upto_length]
  refine ⟨by rw [hl, Nat.mul_one], Or.inr ⟨g, L, _, rfl, hg, h, Nat.le_refl _, hm, by rw [List.size_toArray, hl, Nat.mul_one], ?_⟩⟩
  rw [Nat.mul_one, List.toList_toArray]
  exact List.take_of_length_le (by rw [hl]; exact Nat.le_refl _)
theorem co_drop (p : List UInt8) (n i : Nat) : co (p.drop n) i = co p (n + i) := by unfold co; rw [List.getElem?_drop]
theorem co_upto_lt {f : Nat → UInt8} {n i : Nat} (h : i < n) : co (upto f n) i = f i := co_map_range f h
theorem splice_upto {f : Nat → UInt8} {L o : Nat} {p : List UInt8} (h : o + p.length ≤ L) : splice ((upto f L).map vb) o (p.map vb) = (upto (putAt f o p.length (co p)) L).map vb := by
  unfold splice
  rw [← List.map_take, ← List.map_drop, ← List.map_append, ← List.map_append]
  congr 1
  refine co_ext ?_ ?_
  · simp [upto]; omega
  · intro i hi
    rw [List.length_append, List.length_append, List.length_take, List.length_drop, upto_length, List.length_map] at hi
    rw [co_upto_lt (f := putAt f o p.length (co p)) (show i < L by omega)]
    by_cases h1 : i < o
    · rw [putAt_out (Or.inl h1), co_append_lt (by rw [List.length_take, upto_length]; omega), co_take h1, co_upto_lt (by omega)]
    · by_cases h2 : i < o + p.length
      · obtain ⟨k, rfl⟩ := Nat.exists_eq_add_of_le (show o ≤ i by omega)
        rw [putAt_in (show k < p.length by omega), co_append_ge (by rw [List.length_take, upto_length]; omega), List.length_take, upto_length]
        rw [co_append_lt (by omega), show o + k - min o L = k by omega]
      · rw [putAt_out (Or.inr (by omega)), co_append_ge (by rw [List.length_take, upto_length]; omega), List.length_take, upto_length, co_append_ge (by omega), co_drop, List.length_map]
        rw [show o + p.length + (i - min o L - p.length) = i by omega, co_upto_lt (by omega)]
theorem only_setRow (w : World) (g : Nat) (cs : Array Value) : Only g w (w.setRow g cs) := ⟨rfl, rfl, rfl, by simp [World.setRow], fun k hk => setRow_other w g k cs hk⟩
/-- 'copy' into a part of a row of the call's own, as a step of a region that draws its order. -/
theorem step_copy_rd {P : Program} {ops : Array Oper} {o : Oper} {a : Act} {w : World} {K : Act → World → Prop} {Q : Exit → Act → World → Prop} {E : Prop} (hgd : o.guard = none) (d s : Operand) (dT sT : TypeId)
    (ho : o.op = .call { callee := .builtin .copy, args := #[d, s], argTypes := #[dT, sT] }) (elem : TypeId) (hu : P.underlying dT = some (.slice elem)) (hsz : (P.info? elem).map (·.size) = some 1)
    {g off n dl dCap : Nat} {va : Value} {p : List UInt8} {base e L : Nat} {f : Nat → UInt8} (hd : a.eval d = .slice (some ⟨g, off, none⟩) dl dCap) (hs : a.eval s = va) (hr : Rd w va p) (hn : p.length = n) (hdl : n ≤ dl) (hR : RowF w base e g L L f) (hl : off + n ≤ L)
    (h : ∀ w', Only g w w' → RowF w' base e g L L (putAt f off n (co p)) → K (a.put o.dst (goInt n)) w') :
    if Region.wanted o (yielded ops a.tmps) = true then Oper.wp P o a w K Q else E := by
  have hw : Region.wanted o (yielded ops a.tmps) = true := by simp [Region.wanted, hgd]
  rw [if_pos hw]
  subst hn
  obtain ⟨hg, hm⟩ := hR.heap rfl
  have hlt := hR.lt
  rcases hr with ⟨ao, cap, rfl, rfl, _⟩ | ⟨b, so, cap, hp0, rfl, h1, h2, h3, hpc⟩
  · have hrun := run_copy_none (P := P) w dT sT o.type elem (some ⟨g, off, none⟩) ao dl dCap 0 cap hu hsz (Nat.zero_min _)
    unfold Oper.wp
    simp [execOp, ho, resolve, invoke, builtin, hd, hs, hrun, Result.andThen]
    exact h w (Only.refl _ _) (by rw [List.length_nil, putAt_zero]; exact hR)
  · have hrun := run_copy_row (P := P) w dT sT o.type elem g off dl dCap ⟨b, so, none⟩ p.length cap ((upto f L).map vb).toArray e (p.map vb) hu hsz hg (by rw [List.length_map]; exact (Nat.min_eq_left hdl).symm) (by have := news_of (k := p.length) hpc; rwa [List.take_length] at this) (by simp [upto_length]; exact hl) (vb_one p)
    unfold Oper.wp
    simp [execOp, ho, resolve, invoke, builtin, hd, hs, hrun, Result.andThen]
    refine h _ (only_setRow _ _ _) (RowF.of_heap hlt.1 hm ?_)
    rw [← splice_upto hl]
    simpa [splice] using setRow_heap w g _ _ e _ hg
end Go.Proofs.YtclieefpnbdbjaaGreat.Gf

namespace Go.Proofs.YtclieefpnbdbjaaGreat.Gf
set_option linter.unusedVariables false
set_option linter.unusedSimpArgs false
open Go.RowKit
theorem owns_form {w : World} {base e n : Nat} {v : Value} {xs : List Value} (h : w.ownsRow base e 1 v n xs) : ∃ a c, v = .slice a n c := by
  obtain ⟨_, ⟨hv, hn⟩ | ⟨g, cap, cur, hv, _⟩⟩ := h
  · subst hn; exact ⟨_, _, hv⟩
  · exact ⟨_, _, hv⟩
end Go.Proofs.YtclieefpnbdbjaaGreat.Gf
