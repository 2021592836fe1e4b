/- TEXTS JOINED: TuLm, RdIn, DkTurn, DkCall, DkMath, MpI, DkAt, PoAppend, BcC. -/
import Derived.Test.YtabcbmabimommaaTome1
import Derived.Deep.Slices
import Derived.Maps.OwnSet
import Derived.Maps.Ext
import Derived.Laws.AppendOwnNone
import Derived.Lib.SliceRun
/-
  WORLDS IN WHICH SOME BLOCKS HAVE TURNED, AND OTHERS WERE LAID (a closure over several variables). No program's function is named here.
-/

namespace Go.Proofs.Ytabcbmabimommaa.Gf
set_option linter.unusedVariables false
set_option linter.unusedSimpArgs false
open Go.RowKit

structure TurnL (G : List Nat) (w w' : World) : Prop where
  os : w'.os = w.os
  tape : w'.tape = w.tape
  output : w'.output = w.output
  size : w.heap.size ≤ w'.heap.size
  block : ∀ k, k < w.heap.size → k ∉ G → w'.heap[k]? = w.heap[k]?
theorem TurnL.refl (G : List Nat) (w : World) : TurnL G w w := ⟨rfl, rfl, rfl, Nat.le_refl _, fun _ _ _ => rfl⟩
theorem TurnL.trans {G : List Nat} {a b c : World} (h : TurnL G a b) (k : TurnL G b c) : TurnL G a c :=
  ⟨k.os.trans h.os, k.tape.trans h.tape, k.output.trans h.output, Nat.le_trans h.size k.size, fun i hi hg => (k.block i (Nat.lt_of_lt_of_le hi h.size) hg).trans (h.block i hi hg)⟩
theorem Below.turnL {w w' : World} (h : Below w.heap.size w w') (G : List Nat) : TurnL G w w' := ⟨h.os, h.tape, h.output, h.size, fun k hk _ => h.block k hk⟩
theorem Only.turnL {g : Nat} {G : List Nat} {w w' : World} (h : Only g w w') (hg : g ∈ G) : TurnL G w w' :=
  ⟨h.os, h.tape, h.output, by rw [h.size]; exact Nat.le_refl _, fun k _ hk => h.block k (fun e => hk (by rw [e]; exact hg))⟩
theorem TurnL.put {G : List Nat} {a w : World} (h : TurnL G a w) {g : Nat} (hg : g ∈ G) (j : Nat) (u : Value) : TurnL G a (w.setCell ⟨g, j, none⟩ u) := h.trans (((Only.refl g w).setCell j u).turnL hg)
theorem TurnL.drew {G : List Nat} {a w : World} (h : TurnL G a w) : TurnL G a w.drew := ⟨h.os, h.tape, h.output, h.size, h.block⟩
theorem TurnL.drewN {G : List Nat} {a w : World} (h : TurnL G a w) (n : Nat) : TurnL G a (w.drewN n) := ⟨h.os, h.tape, h.output, h.size, h.block⟩
theorem TurnL.below {G : List Nat} {B : Nat} {w w' : World} (h : TurnL G w w') (hg : ∀ g, g ∈ G → B ≤ g) (hB : B ≤ w.heap.size) : Below B w w' :=
  ⟨h.os, h.tape, h.output, h.size, fun k hk => h.block k (by omega) (fun e => by have := hg k e; omega)⟩
theorem TurnL.cell {G : List Nat} {w w' : World} (h : TurnL G w w') {p : Addr} (hs : p.block < w.heap.size) (hp : p.block ∉ G) : w'.cell? p = w.cell? p := World.cell?_of_block (w := w) (h.block p.block hs hp)
theorem TurnL.frozen {G : List Nat} {w w' : World} (h : TurnL G w w') {p : Addr} (hs : p.block < w.heap.size) (hp : p.block ∉ G) : w'.frozen? p = w.frozen? p := World.frozen?_of_block (w := w) (h.block p.block hs hp)
/-- a slice that lies in none of the blocks -/
def ApartL (G : List Nat) (v : Value) : Prop := ∀ x n c, v = .slice (some x) n c → n = 0 ∨ x.block ∉ G
theorem Rd.turnL {G : List Nat} {w w' : World} {v : Value} {p : List UInt8} (h : Rd w v p) (ha : ApartL G v) (ho : TurnL G w w') : Rd w' v p := by
  rcases h with h | ⟨b, off, cap, h1, h2, h3, h4, h5, h6⟩
  · exact Or.inl h
  · have hb : b ∉ G := by
      rcases ha _ _ _ h2 with e | e
      · exact absurd (List.length_eq_zero_iff.1 e) h1
      · exact e
    exact Or.inr ⟨b, off, cap, h1, h2, h3, h4, Nat.lt_of_lt_of_le h5 ho.size, fun i hi => (ho.cell (p := ⟨b, off + i, none⟩) h5 hb).trans (h6 i hi)⟩
/-- one that was there before the blocks were laid -/
theorem Rd.apartL {w : World} {v : Value} {p : List UInt8} {G : List Nat} (h : Rd w v p) (hg : ∀ g, g ∈ G → w.heap.size ≤ g) : ApartL G v := by
  intro x n c e
  rcases h with ⟨a, c', _, e2, _⟩ | ⟨b, off, cap, h1, h2, h3, h4, h5, h6⟩
  · subst e2; simp at e; exact Or.inl e.2.1.symm
  · subst h2; simp at e; obtain ⟨rfl, rfl, rfl⟩ := e; exact Or.inr (fun h => by have := hg b h; omega)
/-- one that was laid behind them -/
theorem ApartL.own {w : World} {base e n : Nat} {v : Value} {xs : List Value} {G : List Nat} (h : w.ownsRow base e 1 v n xs) (hg : ∀ g, g ∈ G → g < base) : ApartL G v := by
  intro x m c ev
  obtain ⟨_, ⟨hv, hn⟩ | ⟨g, cap, cur, hv, hgb, _⟩⟩ := h
  · rw [hv] at ev; simp at ev
  · rw [hv] at ev
    simp at ev
    obtain ⟨rfl, _, _⟩ := ev
    exact Or.inr (fun h => by have := hg g h; omega)
theorem ApartL.nil (G : List Nat) (c : Nat) (a : Option Addr) : ApartL G (.slice a 0 c) := fun x n c' e => by simp at e; exact Or.inl e.2.1.symm

end Go.Proofs.Ytabcbmabimommaa.Gf

/-
  SLICES OF INTEGERS IN MEMORY: 'RdI w v zs'. No program's function is named here.
-/

namespace Go.Proofs.Ytabcbmabimommaa.Gf
set_option linter.unusedVariables false
set_option linter.unusedSimpArgs false
open Go.RowKit

/-- A slice of numbers of rows. -/
def RdI (w : World) (v : Value) (zs : List Int) : Prop :=
  (∃ ao cap, zs = [] ∧ v = .slice ao 0 cap) ∨ (∃ b off cap, zs ≠ [] ∧ v = .slice (some ⟨b, off, none⟩) zs.length cap ∧ zs.length ≤ maxLen ∧ b < w.heap.size ∧ ∀ i, i < zs.length → w.cell? ⟨b, off + i, none⟩ = some (.int .i64 (zs.getD i 0)))
theorem RdI.below {w w' : World} {v : Value} {zs : List Int} (h : RdI w v zs) (hb : Below w.heap.size w w') : RdI w' v zs := by
  rcases h with h | ⟨b, off, cap, h1, h2, h3, h5, h6⟩
  · exact Or.inl h
  · exact Or.inr ⟨b, off, cap, h1, h2, h3, Nat.lt_of_lt_of_le h5 hb.size, fun i hi => (hb.cell (p := ⟨b, off + i, none⟩) h5).trans (h6 i hi)⟩
theorem RdI.form {w : World} {v : Value} {zs : List Int} (h : RdI w v zs) : ∃ a c, v = .slice a zs.length c := by
  rcases h with ⟨a, c, rfl, rfl⟩ | ⟨b, off, c, _, rfl, _⟩
  · exact ⟨a, c, rfl⟩
  · exact ⟨_, c, rfl⟩
theorem _root_.Go.RowKit.Below.drewN {B : Nat} {a w : World} (h : Below B a w) (n : Nat) : Below B a (w.drewN n) := ⟨h.os, h.tape, h.output, h.size, h.block⟩
theorem rd_lit2 {w : World} {n b : Nat} {cs : Array Value} {e : Nat} (p : List UInt8) (hb : b = w.heap.size) (hn : p.length = n) (hs : cs.toList = p.map vb) (hl : n ≤ 1000000) : Rd (w.alloc (.cells cs e)) (.slice (some ⟨b, 0, none⟩) n n) p := by
  subst hb; exact rd_lit p hn hs hl
theorem rdI_lit2 {w : World} {n b : Nat} {cs : Array Value} {e : Nat} (zs : List Int) (hb : b = w.heap.size) (hn : zs.length = n) (hs : cs.toList = zs.map (fun z => Value.int .i64 z)) (hl : n ≤ 1000000) : RdI (w.alloc (.cells cs e)) (.slice (some ⟨b, 0, none⟩) n n) zs := by
  subst hb hn
  by_cases h0 : zs = []
  · subst h0; exact Or.inl ⟨_, _, rfl, rfl⟩
  · refine Or.inr ⟨w.heap.size, 0, _, h0, rfl, by unfold maxLen; omega, by simp, fun i hi => ?_⟩
    rw [Nat.zero_add, World.cell?_alloc_new, ← Array.getElem?_toList, hs, List.getElem?_map, List.getElem?_eq_getElem hi]
    simp [List.getD, hi]
/-- A slice of numbers that came in, as the frame of a statement's proof tells it. -/
theorem rdI_row {w : World} {a : Option Addr} {len cap : Nat} {zs : List Int}
    (h : (a = none ∧ len = 0 ∧ cap = 0 ∧ zs = []) ∨ ∃ x, a = some x ∧ len ≤ cap ∧ cap ≤ maxLen ∧ zs.length = cap ∧ (∀ i, i < zs.length → w.cell? (x.add i) = some (.int .i64 (zs.getD i 0))) ∧ ∀ n ∈ zs, (Lit.int .i64 n).wf = true) :
    ∃ p : List Int, len = p.length ∧ RdI w (.slice a len cap) p := by
  rcases h with ⟨rfl, rfl, rfl, rfl⟩ | ⟨x, rfl, hl, hm, hz, hcell, hwz⟩
  · exact ⟨[], rfl, Or.inl ⟨none, 0, rfl, rfl⟩⟩
  · have hlen : (zs.take len).length = len := by rw [List.length_take]; omega
    refine ⟨zs.take len, hlen.symm, ?_⟩
    by_cases h0 : len = 0
    · subst h0
      exact Or.inl ⟨_, cap, by simp, rfl⟩
    · obtain ⟨b, off, spot⟩ := x
      have hc := hcell 0 (by omega)
      have hspot : spot = none := by simpa [Addr.add] using World.cell?_spot hc
      subst hspot
      have hbw : b < w.heap.size := by
        have e : w.cell? ⟨b, off, none⟩ = some (.int .i64 (zs.getD 0 0)) := by simpa [Addr.add] using hc
        exact World.block_lt_of_cell? w _ e
      refine Or.inr ⟨b, off, cap, fun h => by rw [h] at hlen; simp at hlen; omega, by rw [hlen], by rw [hlen]; omega, hbw, fun i hi => ?_⟩
      rw [hlen] at hi
      have e1 := hcell i (by omega)
      rw [add_at] at e1
      rw [e1]
      simp [List.getD, List.getElem?_take_of_lt hi]

end Go.Proofs.Ytabcbmabimommaa.Gf

/-
  WORLDS IN WHICH SOME BLOCKS (those of which a predicate holds) HAVE TURNED, AND OTHERS WERE LAID. No program's function is named here.
-/

namespace Go.Proofs.Ytabcbmabimommaa.Gf
set_option linter.unusedVariables false
set_option linter.unusedSimpArgs false
open Go.RowKit

structure TurnG (G : Nat → Prop) (w w' : World) : Prop where
  os : w'.os = w.os
  tape : w'.tape = w.tape
  output : w'.output = w.output
  size : w.heap.size ≤ w'.heap.size
  block : ∀ k, k < w.heap.size → ¬ G k → w'.heap[k]? = w.heap[k]?
theorem TurnG.refl (G : Nat → Prop) (w : World) : TurnG G w w := ⟨rfl, rfl, rfl, Nat.le_refl _, fun _ _ _ => rfl⟩
theorem TurnG.trans {G : Nat → Prop} {a b c : World} (h : TurnG G a b) (k : TurnG G b c) : TurnG G a c :=
  ⟨k.os.trans h.os, k.tape.trans h.tape, k.output.trans h.output, Nat.le_trans h.size k.size, fun i hi hg => (k.block i (Nat.lt_of_lt_of_le hi h.size) hg).trans (h.block i hi hg)⟩
theorem Below.turnG {w w' : World} (h : Below w.heap.size w w') (G : Nat → Prop) : TurnG G w w' := ⟨h.os, h.tape, h.output, h.size, fun k hk _ => h.block k hk⟩
theorem Only.turnG {g : Nat} {G : Nat → Prop} {w w' : World} (h : Only g w w') (hg : G g) : TurnG G w w' :=
  ⟨h.os, h.tape, h.output, by rw [h.size]; exact Nat.le_refl _, fun k _ hk => h.block k (fun e => hk (by rw [e]; exact hg))⟩
theorem TurnG.drewN {G : Nat → Prop} {a w : World} (h : TurnG G a w) (n : Nat) : TurnG G a (w.drewN n) := ⟨h.os, h.tape, h.output, h.size, h.block⟩
theorem TurnG.drew {G : Nat → Prop} {a w : World} (h : TurnG G a w) : TurnG G a w.drew := ⟨h.os, h.tape, h.output, h.size, h.block⟩
theorem TurnG.below {G : Nat → Prop} {B : Nat} {w w' : World} (h : TurnG G w w') (hg : ∀ g, G g → B ≤ g) (hB : B ≤ w.heap.size) : Below B w w' :=
  ⟨h.os, h.tape, h.output, h.size, fun k hk => h.block k (by omega) (fun e => by have := hg k e; omega)⟩
theorem TurnG.cell {G : Nat → Prop} {w w' : World} (h : TurnG G w w') {p : Addr} (hs : p.block < w.heap.size) (hp : ¬ G p.block) : w'.cell? p = w.cell? p := World.cell?_of_block (w := w) (h.block p.block hs hp)
theorem TurnG.frozen {G : Nat → Prop} {w w' : World} (h : TurnG G w w') {p : Addr} (hs : p.block < w.heap.size) (hp : ¬ G p.block) : w'.frozen? p = w.frozen? p := World.frozen?_of_block (w := w) (h.block p.block hs hp)

/-- one disk's blocks: only they have turned, and those that came to them are new -/
structure Grew (G : Nat → Prop) (w : World) (G' : Nat → Prop) (w' : World) : Prop where
  turn : TurnG G w w'
  grow : ∀ k, G' k → G k ∨ w.heap.size ≤ k
theorem Grew.refl (G : Nat → Prop) (w : World) : Grew G w G w := ⟨TurnG.refl G w, fun _ h => Or.inl h⟩
theorem Grew.trans {G G' G'' : Nat → Prop} {a b c : World} (h : Grew G a G' b) (k : Grew G' b G'' c) : Grew G a G'' c :=
  ⟨⟨k.turn.os.trans h.turn.os, k.turn.tape.trans h.turn.tape, k.turn.output.trans h.turn.output, Nat.le_trans h.turn.size k.turn.size, fun i hi hg =>
    (k.turn.block i (Nat.lt_of_lt_of_le hi h.turn.size) (fun e => (h.grow i e).elim hg (fun h1 => by omega))).trans (h.turn.block i hi hg)⟩,
   fun i hi => by
    rcases k.grow i hi with h1 | h1
    · exact h.grow i h1
    · exact Or.inr (Nat.le_trans h.turn.size h1)⟩
theorem Grew.of_turn {G : Nat → Prop} {w w' : World} (h : TurnG G w w') : Grew G w G w' := ⟨h, fun _ h => Or.inl h⟩
theorem Grew.of_below {G : Nat → Prop} {w w' : World} (h : Below w.heap.size w w') : Grew G w G w' := Grew.of_turn (Below.turnG h G)
theorem Grew.base {G G' : Nat → Prop} {w w' : World} {B : Nat} (h : Grew G w G' w') (hg : ∀ k, G k → B ≤ k) (hB : B ≤ w.heap.size) : ∀ k, G' k → B ≤ k := fun k hk => by
  rcases h.grow k hk with h1 | h1
  · exact hg k h1
  · omega
theorem Grew.below {G G' : Nat → Prop} {w w' : World} {B : Nat} (h : Grew G w G' w') (hg : ∀ k, G k → B ≤ k) (hB : B ≤ w.heap.size) : Below B w w' := h.turn.below hg hB
theorem Grew.off {G G' : Nat → Prop} {w w' : World} (h : Grew G w G' w') {k : Nat} (hk : k < w.heap.size) (hg : ¬ G k) : ¬ G' k := fun e => by
  rcases h.grow k e with h1 | h1
  · exact hg h1
  · omega

/-- a slice that lies in none of the blocks -/
def ApartG (G : Nat → Prop) (v : Value) : Prop := ∀ x n c, v = .slice (some x) n c → n = 0 ∨ ¬ G x.block
theorem Rd.turnG {G : Nat → Prop} {w w' : World} {v : Value} {p : List UInt8} (h : Rd w v p) (ha : ApartG G v) (ho : TurnG G w w') : Rd w' v p := by
  rcases h with h | ⟨b, off, cap, h1, h2, h3, h4, h5, h6⟩
  · exact Or.inl h
  · have hb : ¬ G b := by
      rcases ha _ _ _ h2 with e | e
      · exact absurd (List.length_eq_zero_iff.1 e) h1
      · exact e
    exact Or.inr ⟨b, off, cap, h1, h2, h3, h4, Nat.lt_of_lt_of_le h5 ho.size, fun i hi => (ho.cell (p := ⟨b, off + i, none⟩) h5 hb).trans (h6 i hi)⟩
theorem Rd.lay {w : World} {v : Value} {p : List UInt8} (h : Rd w v p) {x : Addr} {n c : Nat} (e : v = .slice (some x) n c) : n = 0 ∨ x.block < w.heap.size := by
  rcases h with ⟨a, c', _, e2, _⟩ | ⟨b, off, cap, h1, h2, h3, h4, h5, h6⟩
  · subst e2; simp at e; exact Or.inl e.2.1.symm
  · subst h2; simp at e; obtain ⟨rfl, rfl, rfl⟩ := e; exact Or.inr h5
/-- it stays apart -/
theorem ApartG.grew {G G' : Nat → Prop} {w w' : World} {v : Value} {p : List UInt8} (ha : ApartG G v) (h : Rd w v p) (g : Grew G w G' w') : ApartG G' v := by
  intro x n c e
  rcases ha x n c e with h1 | h1
  · exact Or.inl h1
  · rcases h.lay e with h2 | h2
    · exact Or.inl h2
    · exact Or.inr (g.off h2 h1)
theorem Rd.grew {G G' : Nat → Prop} {w w' : World} {v : Value} {p : List UInt8} (h : Rd w v p) (ha : ApartG G v) (g : Grew G w G' w') : Rd w' v p := h.turnG ha g.turn
/-- one that was there before the blocks were laid -/
theorem Rd.apartG {w : World} {v : Value} {p : List UInt8} {G : Nat → Prop} (h : Rd w v p) (hg : ∀ g, G g → w.heap.size ≤ g) : ApartG G v := by
  intro x n c e
  rcases h.lay e with h2 | h2
  · exact Or.inl h2
  · exact Or.inr (fun h => by have := hg _ h; omega)
/-- one that was laid behind them -/
theorem ApartG.own {w : World} {base e n : Nat} {v : Value} {xs : List Value} {G : Nat → Prop} (h : w.ownsRow base e 1 v n xs) (hg : ∀ g, G g → g < base) : ApartG G v := by
  intro x m c ev
  obtain ⟨_, ⟨hv, hn⟩ | ⟨g, cap, cur, hv, hgb, _⟩⟩ := h
  · rw [hv] at ev; simp at ev
  · rw [hv] at ev
    simp at ev
    obtain ⟨rfl, _, _⟩ := ev
    exact Or.inr (fun h => by have := hg g h; omega)
theorem ApartG.nil (G : Nat → Prop) (c : Nat) (a : Option Addr) : ApartG G (.slice a 0 c) := fun x n c' e => by simp at e; exact Or.inl e.2.1.symm
theorem owns_block {w w' : World} {base e size n : Nat} {v : Value} {xs : List Value} (h : w.ownsRow base e size v n xs) (hb : ∀ g, v.ownBlock = some g → w'.heap[g]? = w.heap[g]?) : w'.ownsRow base e size v n xs := by
  obtain ⟨h0, h | ⟨g, cap, cur, hv, hg, hh, r⟩⟩ := h
  · exact ⟨h0, Or.inl h⟩
  · refine ⟨h0, Or.inr ⟨g, cap, cur, hv, hg, ?_, r⟩⟩
    rw [hb g (by rw [hv]; rfl)]
    exact hh
theorem owns_at {w : World} {base e size n b o c : Nat} {xs : List Value} (h : w.ownsRow base e size (.slice (some ⟨b, o, none⟩) n c) n xs) : base ≤ b ∧ b < w.heap.size := by
  obtain ⟨h0, h | ⟨g, cap, cur, hv, hg, hh, r⟩⟩ := h
  · simp at h
  · simp at hv
    obtain ⟨⟨rfl, _⟩, _⟩ := hv
    exact ⟨hg, (Array.getElem?_eq_some_iff.1 hh).1⟩

end Go.Proofs.Ytabcbmabimommaa.Gf

/-
  SLICES OF CALLS IN MEMORY (structs of three integers, a byte, a slice of bytes and a slice of integers): 'RdC w v L'; how an argument of that type is read. No program's function is named here.
-/

namespace Go.Proofs.Ytabcbmabimommaa.Gf
set_option linter.unusedVariables false
set_option linter.unusedSimpArgs false
open Go.RowKit
open Go.ChangeShapes

structure CallR where
  kind : Int
  n : Int
  m : Int
  by8 : UInt8
  vb : Value
  vk : Value
  b : List UInt8
  keep : List Int

instance : Inhabited CallR := ⟨⟨0, 0, 0, 0, .slice none 0 0, .slice none 0 0, [], []⟩⟩

/-- one call, at its place -/
structure CallAt (w : World) (b off : Nat) (c : CallR) : Prop where
  c0 : w.cell? ⟨b, off, none⟩ = some (.int .i64 c.kind)
  c1 : w.cell? ⟨b, off + 1, none⟩ = some (.int .i64 c.n)
  c2 : w.cell? ⟨b, off + 2, none⟩ = some (.int .i64 c.m)
  c3 : w.cell? ⟨b, off + 3, none⟩ = some (.int .u8 ((c.by8.toNat : Nat) : Int))
  c4 : w.cell? ⟨b, off + 4, none⟩ = some c.vb
  c5 : w.cell? ⟨b, off + 5, none⟩ = some c.vk
  wk : (Lit.int .i64 c.kind).wf = true
  wn : (Lit.int .i64 c.n).wf = true
  wm : (Lit.int .i64 c.m).wf = true
  rb : Rd w c.vb c.b
  rk : RdI w c.vk c.keep
  wi : ∀ z ∈ c.keep, (Lit.int .i64 z).wf = true

theorem CallAt.below {w w' : World} {b off : Nat} {c : CallR} (h : CallAt w b off c) (hb : b < w.heap.size) (hw : Below w.heap.size w w') : CallAt w' b off c :=
  ⟨(hw.cell (p := ⟨b, off, none⟩) hb).trans h.c0, (hw.cell (p := ⟨b, off + 1, none⟩) hb).trans h.c1, (hw.cell (p := ⟨b, off + 2, none⟩) hb).trans h.c2, (hw.cell (p := ⟨b, off + 3, none⟩) hb).trans h.c3, (hw.cell (p := ⟨b, off + 4, none⟩) hb).trans h.c4, (hw.cell (p := ⟨b, off + 5, none⟩) hb).trans h.c5, h.wk, h.wn, h.wm, h.rb.below hw, h.rk.below hw, h.wi⟩

def RdC (w : World) (v : Value) (L : List CallR) : Prop :=
  (∃ ao cap, L = [] ∧ v = .slice ao 0 cap) ∨ (∃ b off cap, L ≠ [] ∧ v = .slice (some ⟨b, off, none⟩) L.length cap ∧ L.length ≤ maxLen ∧ b < w.heap.size ∧ ∀ i, i < L.length → CallAt w b (off + i * 6) (L.getD i default))
theorem RdC.below {w w' : World} {v : Value} {L : List CallR} (h : RdC w v L) (hb : Below w.heap.size w w') : RdC w' v L := by
  rcases h with h | ⟨b, off, cap, h1, h2, h3, h5, h6⟩
  · exact Or.inl h
  · exact Or.inr ⟨b, off, cap, h1, h2, h3, Nat.lt_of_lt_of_le h5 hb.size, fun i hi => (h6 i hi).below h5 hb⟩
theorem RdC.form {w : World} {v : Value} {L : List CallR} (h : RdC w v L) : ∃ a c, v = .slice a L.length c := by
  rcases h with ⟨a, c, rfl, rfl⟩ | ⟨b, off, c, _, rfl, _⟩
  · exact ⟨a, c, rfl⟩
  · exact ⟨_, c, rfl⟩

theorem RdC.lenEq {w : World} {a : Option Addr} {len cap : Nat} {L : List CallR} (h : RdC w (.slice a len cap) L) : len = L.length := by
  obtain ⟨_, _, e⟩ := h.form
  simp at e
  exact e.2.1
theorem six {cs : List Value} (h : cs.length = 6) : ∃ v0 v1 v2 v3 v4 v5, cs = [v0, v1, v2, v3, v4, v5] := by
  match cs, h with
  | [a, b, c, d, e, f], _ => exact ⟨a, b, c, d, e, f, rfl⟩

theorem rdI_row2 {w : World} {a : Option Addr} {len cap : Nat} {zs : List Int}
    (h : (a = none ∧ len = 0 ∧ cap = 0 ∧ zs = []) ∨ ∃ x, a = some x ∧ len ≤ cap ∧ cap ≤ maxLen ∧ zs.length = cap ∧ (∀ i, i < zs.length → w.cell? (x.add i) = some (.int .i64 (zs.getD i 0))) ∧ ∀ n ∈ zs, (Lit.int .i64 n).wf = true) :
    ∃ p : List Int, RdI w (.slice a len cap) p ∧ ∀ z ∈ p, (Lit.int .i64 z).wf = true := by
  rcases h with ⟨rfl, rfl, rfl, rfl⟩ | ⟨x, rfl, hl, hm, hz, hcell, hwz⟩
  · exact ⟨[], Or.inl ⟨none, 0, rfl, rfl⟩, by simp⟩
  · have hlen : (zs.take len).length = len := by rw [List.length_take]; omega
    refine ⟨zs.take len, ?_, fun z hz1 => hwz z (List.mem_of_mem_take hz1)⟩
    by_cases h0 : len = 0
    · subst h0
      exact Or.inl ⟨_, cap, by simp, rfl⟩
    · obtain ⟨b, off, spot⟩ := x
      have hc := hcell 0 (by omega)
      have hspot : spot = none := by simpa [Addr.add] using World.cell?_spot hc
      subst hspot
      have hbw : b < w.heap.size := by
        have e : w.cell? ⟨b, off, none⟩ = some (.int .i64 (zs.getD 0 0)) := by simpa [Addr.add] using hc
        unfold World.cell? at e
        by_cases hb : b < w.heap.size
        · exact hb
        · rw [Array.getElem?_eq_none (by show w.heap.size ≤ b; omega)] at e; cases e
      refine Or.inr ⟨b, off, cap, fun h => by rw [h] at hlen; simp at hlen; omega, by rw [hlen], by rw [hlen]; omega, hbw, fun i hi => ?_⟩
      rw [hlen] at hi
      have e1 := hcell i (by omega)
      rw [add_at] at e1
      rw [e1]
      simp [List.getD, List.getElem?_take_of_lt hi]

section
variable {H : Type} {enc : TypeId × Value → H} {P : Program} {w : World} {base : Nat} {held : Bool}

theorem open_calls {t e sb si : TypeId} {f0 f1 f2 f3 f4 f5 : Field} {fuel : Nat} {cs : List Value} {x : DataW H × List MemPlace} (ht : P.underlying t = some (.slice e)) (he : P.underlying e = some (.struct #[f0, f1, f2, f3, f4, f5])) (ce : P.cellsOf e = 6)
    (o0 : f0.offset = 0) (o1 : f1.offset = 1) (o2 : f2.offset = 2) (o3 : f3.offset = 3) (o4 : f4.offset = 4) (o5 : f5.offset = 5)
    (t0 : P.underlying f0.type = some (.int .i64)) (t1 : P.underlying f1.type = some (.int .i64)) (t2 : P.underlying f2.type = some (.int .i64)) (t3 : P.underlying f3.type = some (.int .u8)) (t4 : P.underlying f4.type = some (.slice sb)) (t5 : P.underlying f5.type = some (.slice si))
    (tb : P.underlying sb = some (.int .u8)) (ti : P.underlying si = some (.int .i64)) (cb : P.cellsOf sb = 1) (ci : P.cellsOf si = 1)
    (n0 : P.cellsOf f0.type = 1) (n1 : P.cellsOf f1.type = 1) (n2 : P.cellsOf f2.type = 1) (n3 : P.cellsOf f3.type = 1) (n4 : P.cellsOf f4.type = 1) (n5 : P.cellsOf f5.type = 1)
    (h : DataW.trod enc P w base (fun _ => true) held fuel t cs = some x) : ∃ a len cap L, cs = [.slice a len cap] ∧ len = L.length ∧ RdC w (.slice a len cap) L := by
  rcases Go.Deep.open_slice ht h with ⟨rfl, _⟩ | ⟨a, len, cap, m, n, D, Pl, rfl, hb, hl, hm, hmm, rfl, hx⟩
  · exact ⟨none, 0, 0, [], rfl, rfl, Or.inl ⟨none, 0, rfl, rfl⟩⟩
  simp only [if_true] at hmm
  by_cases hl0 : len = 0
  · subst hl0
    exact ⟨some a, 0, cap, [], rfl, rfl, Or.inl ⟨_, _, rfl, rfl⟩⟩
  obtain ⟨bb, off, spot⟩ := a
  have hspot : spot = none := by
    obtain ⟨cs', h1, _⟩ := hx 0 (by omega)
    rw [ce] at h1
    have hc := World.cells?_some h1
    have h2 := hc.2.2 0 (by omega)
    obtain ⟨v, hv⟩ : ∃ v, cs'[0]? = some v := ⟨cs'[0]'(by omega), List.getElem?_eq_getElem (by omega)⟩
    rw [hv] at h2
    have := World.cell?_spot h2
    simpa [Addr.add] using this
  subst hspot
  have each : ∀ i, i < len → ∃ c : CallR, CallAt w bb (off + i * 6) c := by
    intro i hi
    obtain ⟨cs', h1, h2⟩ := hx i (by omega)
    obtain ⟨xs, n', _, _, hlen, hxl, hf⟩ := DataW.trod_struct he h2
    rw [ce] at hlen h1
    obtain ⟨v0, v1, v2, v3, v4, v5, rfl⟩ := six hlen
    have hxl' : xs.length = 6 := hxl
    have g : ∀ k, k < 6 → ∃ y, xs[k]? = some y := fun k hk => ⟨xs[k], List.getElem?_eq_getElem (by omega)⟩
    obtain ⟨y0, e0⟩ := g 0 (by omega)
    obtain ⟨y1, e1⟩ := g 1 (by omega)
    obtain ⟨y2, e2⟩ := g 2 (by omega)
    obtain ⟨y3, e3⟩ := g 3 (by omega)
    obtain ⟨y4, e4⟩ := g 4 (by omega)
    obtain ⟨y5, e5⟩ := g 5 (by omega)
    have q0 := hf 0 f0 rfl
    have q1 := hf 1 f1 rfl
    have q2 := hf 2 f2 rfl
    have q3 := hf 3 f3 rfl
    have q4 := hf 4 f4 rfl
    have q5 := hf 5 f5 rfl
    rw [o0, n0, e0] at q0
    rw [o1, n1, e1] at q1
    rw [o2, n2, e2] at q2
    rw [o3, n3, e3] at q3
    rw [o4, n4, e4] at q4
    rw [o5, n5, e5] at q5
    obtain ⟨z0, r0, _, w0⟩ := DataW.trod_int t0 q0
    obtain ⟨z1, r1, _, w1⟩ := DataW.trod_int t1 q1
    obtain ⟨z2, r2, _, w2⟩ := DataW.trod_int t2 q2
    obtain ⟨z3, r3, _, w3⟩ := DataW.trod_int t3 q3
    simp at r0 r1 r2 r3
    subst r0 r1 r2 r3
    have b3 := bounds_u8 w3
    obtain ⟨hbase, _, hc⟩ := World.cells?_some h1
    have kk : ∀ k, k < 6 → w.cell? ⟨bb, off + i * 6 + k, none⟩ = [Value.int .i64 z0, .int .i64 z1, .int .i64 z2, .int .u8 z3, v4, v5][k]? := by
      intro k hk
      have := hc k hk
      rw [Go.Deep.add_add, add_at, ← Nat.add_assoc] at this
      exact this
    have hbw : bb < w.heap.size := by
      have e := kk 0 (by omega)
      unfold World.cell? at e
      by_cases hb : bb < w.heap.size
      · exact hb
      · rw [Array.getElem?_eq_none (by show w.heap.size ≤ bb; omega)] at e; cases e
    obtain ⟨pb, hvb⟩ : ∃ pb, Rd w v4 pb := by
      rcases open_ints t4 tb cb q4 with ⟨hcs, _⟩ | ⟨x4, l4, c4, zs, hcs, _, hl4, hm4, hz, _, hcell, hwz⟩
      · simp at hcs
        subst hcs
        obtain ⟨p, _, hp⟩ := rd_row (w := w) (a := none) (len := 0) (cap := 0) (zs := []) (Or.inl ⟨rfl, rfl, rfl, rfl⟩)
        exact ⟨p, hp⟩
      · simp at hcs
        subst hcs
        obtain ⟨p, _, hp⟩ := rd_row (w := w) (a := some x4) (len := l4) (cap := c4) (zs := zs) (Or.inr ⟨x4, rfl, hl4, hm4, by simpa using hz, hcell, hwz⟩)
        exact ⟨p, hp⟩
    obtain ⟨pk, hvk, hwk⟩ : ∃ pk, RdI w v5 pk ∧ ∀ z ∈ pk, (Lit.int .i64 z).wf = true := by
      rcases open_ints t5 ti ci q5 with ⟨hcs, _⟩ | ⟨x5, l5, c5, zs, hcs, _, hl5, hm5, hz, _, hcell, hwz⟩
      · simp at hcs
        subst hcs
        exact ⟨[], Or.inl ⟨none, 0, rfl, rfl⟩, by simp⟩
      · simp at hcs
        subst hcs
        exact rdI_row2 (Or.inr ⟨x5, rfl, hl5, hm5, by simpa using hz, hcell, hwz⟩)
    refine ⟨⟨z0, z1, z2, UInt8.ofNat z3.toNat, v4, v5, pb, pk⟩, kk 0 (by omega), kk 1 (by omega), kk 2 (by omega), ?_, kk 4 (by omega), kk 5 (by omega), w0, w1, w2, hvb, hvk, hwk⟩
    show w.cell? ⟨bb, off + i * 6 + 3, none⟩ = some (.int .u8 (((UInt8.ofNat z3.toNat).toNat : Nat) : Int))
    rw [kk 3 (by omega), ofNat_u8 (by omega)]
    simp
    omega
  obtain ⟨F, hF⟩ := Go.Deep.choose_lt each
  have hlen : ((List.range len).map F).length = len := by simp
  refine ⟨some ⟨bb, off, none⟩, len, cap, (List.range len).map F, rfl, hlen.symm, ?_⟩
  have hc0 := (hF 0 (by omega)).c0
  have hbw : bb < w.heap.size := by
    unfold World.cell? at hc0
    by_cases hb : bb < w.heap.size
    · exact hb
    · rw [Array.getElem?_eq_none (by show w.heap.size ≤ bb; omega)] at hc0; cases hc0
  refine Or.inr ⟨bb, off, cap, fun e => by rw [e] at hlen; simp at hlen; omega, by rw [hlen], by rw [hlen]; omega, hbw, fun i hi => ?_⟩
  rw [hlen] at hi
  have e1 : ((List.range len).map F).getD i default = F i := by simp [List.getD, hi]
  rw [e1]
  exact hF i hi
end

end Go.Proofs.Ytabcbmabimommaa.Gf

/-
  PLAIN MATHEMATICS OF DISKS: what lasts, what waits, and what each call leaves. No program's function is named here.
-/

namespace Go.Proofs.Ytabcbmabimommaa.Gf
set_option linter.unusedVariables false
set_option linter.unusedSimpArgs false
open Go.RowKit

/-- a disk: its sectors, what lasts, what waits, whether it is dead -/
structure DkS where
  s : Nat
  last : Int → Option (List UInt8)
  wait : Int → Option (List UInt8)
  dead : Bool
def noneI : Int → Option (List UInt8) := fun _ => none
def InS (s : Nat) (f : Int → Option (List UInt8)) : Prop := ∀ x b, f x = some b → 0 ≤ x ∧ x < (s : Int) ∧ 1 ≤ b.length ∧ b.length ≤ 4108
structure DkS.Ok (d : DkS) : Prop where
  s1 : 1 ≤ d.s
  s2 : d.s ≤ 4096
  il : InS d.s d.last
  iw : InS d.s d.wait
  dl : d.dead = true → d.last = noneI
  dw : d.dead = true → d.wait = noneI
def putB (f : Int → Option (List UInt8)) (x : Int) (b : List UInt8) : Int → Option (List UInt8) := fun y => if y = x then some b else f y
theorem InS.put {s : Nat} {f : Int → Option (List UInt8)} (h : InS s f) {x : Int} {b : List UInt8} (h0 : 0 ≤ x) (h1 : x < (s : Int)) (h2 : 1 ≤ b.length) (h3 : b.length ≤ 4108) : InS s (putB f x b) := by
  intro y c e
  unfold putB at e
  by_cases hy : y = x
  · rw [if_pos hy] at e
    simp at e
    subst e hy
    exact ⟨h0, h1, h2, h3⟩
  · rw [if_neg hy] at e
    exact h y c e
theorem InS.none (s : Nat) : InS s noneI := fun x b e => by cases e

def newD (s : Nat) : DkS := ⟨s, noneI, noneI, false⟩
theorem newD_ok {s : Nat} (h1 : 1 ≤ s) (h2 : s ≤ 4096) : (newD s).Ok := ⟨h1, h2, InS.none _, InS.none _, (fun h => by cases h), (fun h => by cases h)⟩
/-- why a sector is not read or written -/
def faX (d : DkS) (a : Int) : Int := if d.dead = true then 120 else if 0 ≤ a ∧ a < (d.s : Int) then 0 else 121
theorem faX_dead {d : DkS} (h : d.dead = true) (a : Int) : faX d a = 120 := if_pos h
theorem faX_out {d : DkS} (h : d.dead = false) {a : Int} (ha : ¬ (0 ≤ a ∧ a < (d.s : Int))) : faX d a = 121 := by unfold faX; rw [if_neg (by rw [h]; decide), if_neg ha]
theorem faX_ok {d : DkS} (h : d.dead = false) {a : Int} (ha : 0 ≤ a ∧ a < (d.s : Int)) : faX d a = 0 := by unfold faX; rw [if_neg (by rw [h]; decide), if_pos ha]
theorem faX_zero {d : DkS} {a : Int} (h : faX d a = 0) : d.dead = false ∧ 0 ≤ a ∧ a < (d.s : Int) := by
  unfold faX at h
  by_cases h1 : d.dead = true
  · rw [if_pos h1] at h; cases h
  · rw [if_neg h1] at h
    by_cases h2 : 0 ≤ a ∧ a < (d.s : Int)
    · exact ⟨by simpa using h1, h2⟩
    · rw [if_neg h2] at h; cases h
def OkB (b : List UInt8) : Prop := 1 ≤ b.length ∧ b.length ≤ 4108
instance (b : List UInt8) : Decidable (OkB b) := inferInstanceAs (Decidable (_ ∧ _))
def wrX (d : DkS) (a : Int) (b : List UInt8) : Int := if faX d a = 0 then (if OkB b then 0 else 1) else faX d a
def wrS (d : DkS) (a : Int) (b : List UInt8) : DkS := if faX d a = 0 ∧ OkB b then { d with wait := putB d.wait a b } else d
def atD (d : DkS) (a : Int) : Option (List UInt8) := match d.wait a with | some b => some b | none => d.last a
def rdB (d : DkS) (a : Int) : List UInt8 := if faX d a = 0 then (atD d a).getD [] else []
def flX (d : DkS) : Int := if d.dead = true then 120 else 0
def overB (f g : Int → Option (List UInt8)) : Int → Option (List UInt8) := fun x => match f x with | some b => some b | none => g x
def flS (d : DkS) : DkS := if d.dead = true then d else { d with last := overB d.wait d.last, wait := noneI }
def onlyB (f : Int → Option (List UInt8)) (keep : List Int) : Int → Option (List UInt8) := fun x => if x ∈ keep then f x else none
def crS (d : DkS) (keep : List Int) : DkS := { d with last := overB (onlyB d.wait keep) d.last, wait := noneI }
def faS (d : DkS) : DkS := ⟨d.s, noneI, noneI, true⟩
def reS (d : DkS) : DkS := ⟨d.s, noneI, noneI, false⟩
/-- the place of a byte -/
def atN (at_ : Int) (n : Nat) : Nat := (if at_ < 0 then (-(at_ + 1)).toNat else at_.toNat) % n
def chB (b : List UInt8) (at_ : Int) (y : UInt8) : List UInt8 := b.set (atN at_ b.length) (co b (atN at_ b.length) ^^^ y)
theorem chB_length (b : List UInt8) (at_ : Int) (y : UInt8) : (chB b at_ y).length = b.length := List.length_set
def coX (d : DkS) (a : Int) : Int := if faX d a = 0 then (if atD d a = none then 1 else 0) else faX d a
def coS (d : DkS) (a at_ : Int) (y : UInt8) : DkS := if faX d a = 0 then (match d.wait a with | some b => { d with wait := putB d.wait a (chB b at_ y) } | none => match d.last a with | some b => { d with last := putB d.last a (chB b at_ y) } | none => d) else d

theorem overB_in {s : Nat} {f g : Int → Option (List UInt8)} (hf : InS s f) (hg : InS s g) : InS s (overB f g) := by
  intro x b e
  unfold overB at e
  cases hx : f x with
  | none => rw [hx] at e; exact hg x b e
  | some c => rw [hx] at e; simp at e; subst e; exact hf x c hx
theorem onlyB_in {s : Nat} {f : Int → Option (List UInt8)} (hf : InS s f) (keep : List Int) : InS s (onlyB f keep) := by
  intro x b e
  unfold onlyB at e
  by_cases h : x ∈ keep
  · rw [if_pos h] at e; exact hf x b e
  · rw [if_neg h] at e; cases e
theorem wrS_ok {d : DkS} (h : d.Ok) (a : Int) (b : List UInt8) : (wrS d a b).Ok := by
  unfold wrS
  by_cases hc : faX d a = 0 ∧ OkB b
  · rw [if_pos hc]
    have h2 := faX_zero hc.1
    refine ⟨h.s1, h.s2, h.il, h.iw.put h2.2.1 h2.2.2 hc.2.1 hc.2.2, h.dl, fun hd => ?_⟩
    have hd' : d.dead = true := hd
    rw [h2.1] at hd'
    cases hd'
  · rw [if_neg hc]; exact h
theorem flS_ok {d : DkS} (h : d.Ok) : (flS d).Ok := by
  unfold flS
  by_cases hc : d.dead = true
  · rw [if_pos hc]; exact h
  · rw [if_neg hc]
    exact ⟨h.s1, h.s2, overB_in h.iw h.il, InS.none _, fun hd => absurd hd hc, fun hd => absurd hd hc⟩
theorem overB_none {g : Int → Option (List UInt8)} : overB noneI g = g := rfl
theorem onlyB_none (keep : List Int) : onlyB noneI keep = noneI := by funext x; unfold onlyB noneI; simp
theorem crS_ok {d : DkS} (h : d.Ok) (keep : List Int) : (crS d keep).Ok :=
  ⟨h.s1, h.s2, overB_in (onlyB_in h.iw keep) h.il, InS.none _, fun hd => by
    show overB (onlyB d.wait keep) d.last = noneI
    rw [h.dw hd, h.dl hd, onlyB_none]
    rfl, fun _ => rfl⟩
theorem faS_ok {d : DkS} (h : d.Ok) : (faS d).Ok := ⟨h.s1, h.s2, InS.none _, InS.none _, fun _ => rfl, fun _ => rfl⟩
theorem reS_ok {d : DkS} (h : d.Ok) : (reS d).Ok := ⟨h.s1, h.s2, InS.none _, InS.none _, (fun h => by cases h), (fun h => by cases h)⟩
theorem coS_ok {d : DkS} (h : d.Ok) (a at_ : Int) (y : UInt8) : (coS d a at_ y).Ok := by
  unfold coS
  by_cases hc : faX d a = 0
  · rw [if_pos hc]
    have h2 := faX_zero hc
    have nd : ∀ {e : DkS}, e.dead = d.dead → e.dead = true → False := fun he ht => by rw [he, h2.1] at ht; cases ht
    cases hw : d.wait a with
    | some b =>
      have h3 := h.iw a b hw
      exact ⟨h.s1, h.s2, h.il, h.iw.put h2.2.1 h2.2.2 (by rw [chB_length]; exact h3.2.2.1) (by rw [chB_length]; exact h3.2.2.2), h.dl, fun hd => (nd (e := d) rfl hd).elim⟩
    | none =>
      cases hl : d.last a with
      | some b =>
        have h3 := h.il a b hl
        exact ⟨h.s1, h.s2, h.il.put h2.2.1 h2.2.2 (by rw [chB_length]; exact h3.2.2.1) (by rw [chB_length]; exact h3.2.2.2), h.iw, fun hd => (nd (e := d) rfl hd).elim, h.dw⟩
      | none => exact h
  · rw [if_neg hc]; exact h

/-- what is held, by its place -/
def heldL (f : Int → Option (List UInt8)) (s : Nat) : List (Int × List UInt8) := (List.range s).filterMap fun i : Nat => (f (i : Int)).map fun b => ((i : Int), b)
theorem heldL_none (s : Nat) : heldL noneI s = [] := by unfold heldL noneI; simp
theorem heldL_length (f : Int → Option (List UInt8)) (s : Nat) : (heldL f s).length ≤ s := by
  unfold heldL
  have := List.length_filterMap_le (fun i : Nat => (f (i : Int)).map fun b => ((i : Int), b)) (List.range s)
  simpa using this
theorem heldL_succ (f : Int → Option (List UInt8)) (s : Nat) : heldL f (s + 1) = heldL f s ++ (match f (s : Int) with | some b => [((s : Int), b)] | none => []) := by
  unfold heldL
  rw [List.range_succ, List.filterMap_append]
  congr 1
  cases h : f (s : Int) <;> simp [h]
theorem heldL_mem {f : Int → Option (List UInt8)} {s : Nat} {x : Int} {b : List UInt8} : (x, b) ∈ heldL f s ↔ 0 ≤ x ∧ x < (s : Int) ∧ f x = some b := by
  unfold heldL
  rw [List.mem_filterMap]
  constructor
  · rintro ⟨i, hi, e⟩
    rw [List.mem_range] at hi
    cases h : f (i : Int) with
    | none => rw [h] at e; simp at e
    | some c =>
      rw [h] at e
      simp at e
      obtain ⟨rfl, rfl⟩ := e
      exact ⟨by omega, by omega, h⟩
  · rintro ⟨h0, h1, h2⟩
    refine ⟨x.toNat, List.mem_range.2 (by omega), ?_⟩
    rw [show ((x.toNat : Nat) : Int) = x by omega, h2]
    rfl
theorem heldL_inj {f g : Int → Option (List UInt8)} {s : Nat} (hf : InS s f) (hg : InS s g) (h : heldL f s = heldL g s) : f = g := by
  funext x
  by_cases hx : 0 ≤ x ∧ x < (s : Int)
  · cases h1 : f x with
    | some b =>
      have := (heldL_mem (f := f) (s := s)).2 ⟨hx.1, hx.2, h1⟩
      rw [h] at this
      exact (heldL_mem.1 this).2.2.symm
    | none =>
      cases h2 : g x with
      | none => rfl
      | some b =>
        have := (heldL_mem (f := g) (s := s)).2 ⟨hx.1, hx.2, h2⟩
        rw [← h] at this
        rw [(heldL_mem.1 this).2.2] at h1
        cases h1
  · have n1 : f x = none := by
      cases h1 : f x with
      | none => rfl
      | some b => have := hf x b h1; omega
    have n2 : g x = none := by
      cases h1 : g x with
      | none => rfl
      | some b => have := hg x b h1; omega
    rw [n1, n2]

/-- a script's calls -/
def smallC (c : CallR) : Prop := c.b.length ≤ 4200 ∧ c.keep.length ≤ 200
instance (c : CallR) : Decidable (smallC c) := inferInstanceAs (Decidable (_ ∧ _))
def playS (d : DkS) (c : CallR) : DkS :=
  if c.kind = 1 then wrS d c.n c.b else if c.kind = 3 then flS d else if c.kind = 4 then crS d c.keep else if c.kind = 5 then faS d else if c.kind = 6 then reS d else if c.kind = 7 then coS d c.n c.m c.by8 else d
def stepS (d : DkS) (c : CallR) : DkS := if smallC c then playS d c else d
def runS (d : DkS) : List CallR → DkS
  | [] => d
  | c :: L => runS (stepS d c) L
theorem playS_ok {d : DkS} (h : d.Ok) (c : CallR) : (playS d c).Ok := by
  unfold playS
  split
  · exact wrS_ok h _ _
  split
  · exact flS_ok h
  split
  · exact crS_ok h _
  split
  · exact faS_ok h
  split
  · exact reS_ok h
  split
  · exact coS_ok h _ _ _
  · exact h
theorem stepS_ok {d : DkS} (h : d.Ok) (c : CallR) : (stepS d c).Ok := by
  unfold stepS
  split
  · exact playS_ok h c
  · exact h
theorem runS_ok : ∀ {L : List CallR} {d : DkS}, d.Ok → (runS d L).Ok
  | [], _, h => h
  | c :: L, d, h => runS_ok (L := L) (stepS_ok h c)
theorem runS_append : ∀ {L M : List CallR} {d : DkS}, runS d (L ++ M) = runS (runS d L) M
  | [], M, d => rfl
  | c :: L, M, d => runS_append (L := L)
theorem wrS_s (d : DkS) (a : Int) (b : List UInt8) : (wrS d a b).s = d.s := by unfold wrS; split <;> rfl
theorem flS_s (d : DkS) : (flS d).s = d.s := by unfold flS; split <;> rfl
theorem coS_s (d : DkS) (a at_ : Int) (y : UInt8) : (coS d a at_ y).s = d.s := by
  unfold coS
  split
  · split
    · rfl
    · split <;> rfl
  · rfl
theorem playS_s (d : DkS) (c : CallR) : (playS d c).s = d.s := by
  unfold playS
  split
  · exact wrS_s _ _ _
  split
  · exact flS_s _
  split
  · rfl
  split
  · rfl
  split
  · rfl
  split
  · exact coS_s _ _ _ _
  · rfl
theorem stepS_s (d : DkS) (c : CallR) : (stepS d c).s = d.s := by
  unfold stepS
  split
  · exact playS_s d c
  · rfl
theorem runS_s : ∀ (L : List CallR) (d : DkS), (runS d L).s = d.s
  | [], _ => rfl
  | c :: L, d => (runS_s L _).trans (stepS_s d c)
/-- behind k calls -/
theorem runS_take {L : List CallR} {d : DkS} {k : Nat} (h : k < L.length) : runS d (L.take (k + 1)) = stepS (runS d (L.take k)) (L.getD k default) := by
  rw [List.take_add_one, runS_append, List.getElem?_eq_getElem h]
  simp [runS, List.getD, h]

end Go.Proofs.Ytabcbmabimommaa.Gf

/-
  MAPS KEYED BY INTEGERS, WHATEVER THEIR ELEMENTS: 'MapI P K w b S f': block b is a map, its keys are 0 to S - 1 at most, and f tells what stands at each. No program's function is named here.
-/


namespace Go.Proofs.Ytabcbmabimommaa.Gf
set_option linter.unusedVariables false
set_option linter.unusedSimpArgs false
open Go.RowKit
open Go.Maps (Keyed)
open Go.ChangeMaps Go.MapKept

/-- an element reads as itself -/
def RV (v : Value) : Option (DataW Value × List MemPlace) := some (.held v, [])
theorem RV_inv {v : Value} {d : DataW Value} {ps : List MemPlace} (h : RV v = some (d, ps)) : d = .held v := by
  unfold RV at h
  simp at h
  exact h.1.symm

def MapI (P : Program) (K : TypeId) (w : World) (b S : Nat) (f : Int → Option Value) : Prop :=
  ∃ D, w.ownsMap P K RV b S D ∧ (∀ kl, Maps.has D kl = true → ∃ x : Int, kl = .int .i64 x ∧ 0 ≤ x ∧ x < (S : Int)) ∧
    (∀ x : Int, (Maps.has D (.int .i64 x) = false ∧ f x = none) ∨ ∃ v, f x = some v ∧ Maps.has D (.int .i64 x) = true ∧ ∀ z, D.atKey (.int .i64 x) z = .held v)

/-- no more numbers than there are -/
theorem pigeon : ∀ (S : Nat) (l : List Nat), l.Nodup → (∀ x ∈ l, x < S) → l.length ≤ S
  | 0, l, _, h => by
    cases l with
    | nil => exact Nat.le_refl _
    | cons a l => have := h a (by simp); omega
  | S + 1, l, hn, h => by
    have h1 := pigeon S (l.erase S) (hn.erase S) (fun x hx => by
      have hx1 := h x (List.mem_of_mem_erase hx)
      have hx2 : x ≠ S := fun e => by
        subst e
        exact (List.Nodup.not_mem_erase hn) hx
      omega)
    have h2 := List.length_erase (l := l) (a := S)
    split at h2 <;> omega

theorem own_tight {P : Program} {K b n : Nat} {w : World} {R : Value → Option (DataW Value × List MemPlace)} {D : DataW Value} (h : w.ownsMap P K R b n D) : w.ownsMap P K R b (Maps.size D) D := by
  obtain ⟨es, clock, hb, F, hs, rfl⟩ := h
  refine ⟨es, clock, hb, F, ?_, rfl⟩
  simp [Maps.size, length_sorted]

theorem tight_S {P : Program} {K b n S : Nat} {w : World} {D : DataW Value} (law : Keyed P K) (h : w.ownsMap P K RV b n D) (hk : ∀ kl, Maps.has D kl = true → ∃ x : Int, kl = .int .i64 x ∧ 0 ≤ x ∧ x < (S : Int)) : w.ownsMap P K RV b S D := by
  refine (own_tight h).mono ?_
  obtain ⟨es, rfl, hp⟩ := h.tidy law
  have hin : ∀ p ∈ es, ∃ x : Int, p.1 = .int .i64 x ∧ 0 ≤ x ∧ x < (S : Int) := by
    intro p hp1
    refine hk p.1 ?_
    rw [Maps.has_eq, List.any_eq_true]
    refine ⟨p, hp1, WideAt.sameKey_self ?_⟩
    obtain ⟨es', hD, _, hl⟩ := h.canon law
    simp at hD
    subst hD
    exact hl p hp1
  let g : Lit × DataW Value → Nat := fun p => match p.1 with | .int _ x => x.toNat | _ => 0
  have h1 : (es.map g).Nodup := by
    rw [List.Nodup, List.pairwise_map]
    refine hp.imp_of_mem ?_
    intro a b ha hb hne e
    obtain ⟨x, hx, hx0, _⟩ := hin a ha
    obtain ⟨y, hy, hy0, _⟩ := hin b hb
    apply hne
    have e' : x.toNat = y.toNat := by simpa [g, hx, hy] using e
    rw [hx, hy]
    congr 1
    omega
  have h2 := pigeon S (es.map g) h1 (by
    intro n hn
    obtain ⟨p, hp1, rfl⟩ := List.mem_map.1 hn
    obtain ⟨x, hx, hx0, hxS⟩ := hin p hp1
    simp only [g, hx]
    omega)
  rw [List.length_map] at h2
  exact h2

theorem MapI.made (P : Program) (K : TypeId) (w : World) (S : Nat) : MapI P K (w.alloc (.map #[] 0)) w.heap.size S (fun _ => none) :=
  ⟨.map [], (World.ownsMap_made w P K RV).mono (Nat.zero_le _), fun kl h => by simp [Maps.has] at h, fun x => Or.inl ⟨rfl, rfl⟩⟩
theorem MapI.lt {P : Program} {K b S : Nat} {w : World} {f : Int → Option Value} (h : MapI P K w b S f) : b < w.heap.size := by
  obtain ⟨D, h, _⟩ := h
  exact h.lt
theorem MapI.of_block {P : Program} {K b S : Nat} {w w' : World} {f : Int → Option Value} (h : MapI P K w b S f) (he : w'.heap[b]? = w.heap[b]?) : MapI P K w' b S f := by
  obtain ⟨D, ⟨es, clock, hb, r⟩, r2⟩ := h
  exact ⟨D, ⟨es, clock, he.trans hb, r⟩, r2⟩
theorem MapI.below {P : Program} {K b S : Nat} {w w' : World} {f : Int → Option Value} (h : MapI P K w b S f) (hb : Below w.heap.size w w') : MapI P K w' b S f := h.of_block (hb.block b h.lt)
theorem MapI.congr {P : Program} {K b S : Nat} {w : World} {f g : Int → Option Value} (h : MapI P K w b S f) (e : ∀ x, f x = g x) : MapI P K w b S g := by
  have : f = g := funext e
  subst this
  exact h
/-- what is not there -/
theorem MapI.out {P : Program} {K b S : Nat} {w : World} {f : Int → Option Value} (h : MapI P K w b S f) {x : Int} (hx : ¬ (0 ≤ x ∧ x < (S : Int))) : f x = none := by
  obtain ⟨D, _, h2, h3⟩ := h
  rcases h3 x with ⟨_, e⟩ | ⟨v, _, hh, _⟩
  · exact e
  · obtain ⟨y, e, h4⟩ := h2 _ hh
    simp at e
    subst e
    exact absurd h4 hx

/-- 'v, ok := m[k]' -/
theorem MapI.look_ok {P : Program} {K b S t e : Nat} {w : World} {f : Int → Option Value} (h : MapI P K w b S f) (law : Keyed P K) (ht : P.underlying t = some (.map K e)) {z : Value} (hz : (zeroValue e).run P w = .ok z w) {x : Int} (hk : keyOf P K (.int .i64 x) = some (.int .i64 x)) :
    (Instr.lookup t (.map (some b)) (.int .i64 x) true).run P w = .ok (.tuple #[(f x).getD z, .bool (f x).isSome]) w := by
  obtain ⟨D, h1, h2, h3⟩ := h
  obtain ⟨v, ps, hr, hv⟩ := h1.look_ok law ht hz (zd := .held z) (zp := []) rfl hk
  rw [hr]
  have hv' := RV_inv hv
  rcases h3 x with ⟨hh, e⟩ | ⟨u, e, hh, ha⟩
  · rw [Maps.atKey_of_not_has hh] at hv'
    simp at hv'
    rw [e, hh, hv']
    rfl
  · rw [ha] at hv'
    simp at hv'
    rw [e, hh, hv']
    rfl
/-- 'm[k]' -/
theorem MapI.look {P : Program} {K b S t e : Nat} {w : World} {f : Int → Option Value} (h : MapI P K w b S f) (law : Keyed P K) (ht : P.underlying t = some (.map K e)) {z : Value} (hz : (zeroValue e).run P w = .ok z w) {x : Int} (hk : keyOf P K (.int .i64 x) = some (.int .i64 x)) :
    (Instr.lookup t (.map (some b)) (.int .i64 x) false).run P w = .ok ((f x).getD z) w := by
  obtain ⟨D, h1, h2, h3⟩ := h
  obtain ⟨v, ps, hr, hv⟩ := h1.lookup law ht hz (zd := .held z) (zp := []) rfl hk
  rw [hr]
  have hv' := RV_inv hv
  rcases h3 x with ⟨hh, e⟩ | ⟨u, e, hh, ha⟩
  · rw [Maps.atKey_of_not_has hh] at hv'
    simp at hv'
    rw [e, hv']
    rfl
  · rw [ha] at hv'
    simp at hv'
    rw [e, hv']
    rfl
def putI (f : Int → Option Value) (x : Int) (v : Value) (y : Int) : Option Value := if y = x then some v else f y
def delI (f : Int → Option Value) (x : Int) (y : Int) : Option Value := if y = x then none else f y
/-- 'm[k] = v' -/
theorem MapI.store {P : Program} {K b S t e : Nat} {w : World} {f : Int → Option Value} (h : MapI P K w b S f) (law : Keyed P K) (ht : P.underlying t = some (.map K e)) (hS : S < maxLen) {x : Int} (hk : keyOf P K (.int .i64 x) = some (.int .i64 x)) (h0 : 0 ≤ x) (hx : x < (S : Int)) (v : Value) :
    ∃ w', (Instr.mapUpdate t (.map (some b)) (.int .i64 x) v).run P w = .ok () w' ∧ MapI P K w' b S (putI f x v) ∧ w.mapTurned w' b := by
  obtain ⟨D, h1, h2, h3⟩ := h
  obtain ⟨w', hr, ho, hm⟩ := h1.store law ht hS (val := v) (d := .held v) (ps := []) hk rfl
  have hk2 : ∀ kl, Maps.has (D.put (.int .i64 x) (.held v)) kl = true → ∃ y : Int, kl = .int .i64 y ∧ 0 ≤ y ∧ y < (S : Int) := by
    intro kl hh
    by_cases e : kl = .int .i64 x
    · exact ⟨x, e, h0, hx⟩
    · rw [Maps.has_put_other e] at hh
      exact h2 kl hh
  refine ⟨w', hr, ⟨_, tight_S law ho hk2, hk2, fun y => ?_⟩, hm⟩
  unfold putI
  by_cases e : y = x
  · subst e
    exact Or.inr ⟨v, if_pos rfl, Maps.has_put_same h1.isMap (show WideAt.IsKeyLit (.int .i64 y) from trivial) _, fun z => Maps.atKey_put_same h1.isMap (show WideAt.IsKeyLit (.int .i64 y) from trivial) _ z⟩
  · have hne : Lit.int .i64 y ≠ .int .i64 x := fun h => e (by simpa using h)
    rw [if_neg e, Maps.has_put_other hne]
    rcases h3 y with h | ⟨u, a1, a2, a3⟩
    · exact Or.inl h
    · exact Or.inr ⟨u, a1, a2, fun z => by rw [Maps.atKey_put_other hne]; exact a3 z⟩
/-- 'delete(m, k)' -/
theorem MapI.drop {P : Program} {K b S t e : Nat} {w : World} {f : Int → Option Value} (h : MapI P K w b S f) (law : Keyed P K) (ht : P.underlying t = some (.map K e)) {x : Int} (hk : keyOf P K (.int .i64 x) = some (.int .i64 x)) (ty : TypeId) :
    ∃ w', (Builtin.delete_ #[t, K] ty #[.map (some b), .int .i64 x]).run P w = .ok (.tuple #[]) w' ∧ MapI P K w' b S (delI f x) ∧ w.mapTurned w' b := by
  obtain ⟨D, h1, h2, h3⟩ := h
  obtain ⟨w', hr, ho, hm⟩ := h1.drop law ht hk ty
  refine ⟨w', hr, ⟨_, ho, fun kl hh => ?_, fun y => ?_⟩, hm⟩
  · by_cases e : kl = .int .i64 x
    · subst e
      rw [Maps.has_del_same] at hh
      cases hh
    · rw [Maps.has_del_other e] at hh
      exact h2 kl hh
  · unfold delI
    by_cases e : y = x
    · subst e
      exact Or.inl ⟨Maps.has_del_same, if_pos rfl⟩
    · have hne : Lit.int .i64 y ≠ .int .i64 x := fun h => e (by simpa using h)
      rw [if_neg e, Maps.has_del_other hne]
      rcases h3 y with h | ⟨u, a1, a2, a3⟩
      · exact Or.inl h
      · exact Or.inr ⟨u, a1, a2, fun z => by rw [Maps.atKey_del_other hne]; exact a3 z⟩
/-- 'clear(m)' -/
theorem MapI.clear {P : Program} {K b S t e : Nat} {w : World} {f : Int → Option Value} (h : MapI P K w b S f) (ht : P.underlying t = some (.map K e)) (ty : TypeId) :
    ∃ w', (Builtin.clear_ #[t] ty #[.map (some b)]).run P w = .ok (.tuple #[]) w' ∧ MapI P K w' b S (fun _ => none) ∧ w.mapTurned w' b := by
  obtain ⟨D, ⟨es, clock, hb, F, hs, rfl⟩, h2, h3⟩ := h
  refine ⟨setBlock w b (.map #[] clock), ?_, ⟨.map [], ⟨#[], clock, heap_setBlock_same hb _, ⟨by simp, stamped_empty _, by simp⟩, Nat.zero_le _, rfl⟩, fun kl h => by simp [Maps.has] at h, fun x => Or.inl ⟨rfl, rfl⟩⟩, ⟨es, clock, #[], clock, hb, rfl⟩⟩
  simp [Builtin.clear_, run_underlying ht, MapKept.run_getObj_map hb, MapKept.run_setObj_map _ hb, Result.andThen, setBlock]
theorem mapTurned_block {w w' : World} {b c : Nat} (h : w.mapTurned w' b) (hc : c ≠ b) : w'.heap[c]? = w.heap[c]? := by
  obtain ⟨es, clock, es', clock', hb, rfl⟩ := h
  exact heap_setBlock_other hb _ hc

end Go.Proofs.Ytabcbmabimommaa.Gf

/-
  A DISK OF THE PROGRAM IN MEMORY (package disk): its four cells, its two maps, the bytes of each sector in a block of their own: 'DkIn w db lb wb B C G d'; 'DiskAt w db G d'.
-/


namespace Go.Proofs.Ytabcbmabimommaa.Gf
set_option linter.unusedVariables false
set_option linter.unusedSimpArgs false
open Go.RowKit
open Go.Maps (Keyed)
open Go.ChangeMaps Go.MapKept

/-- a side of a disk: what waits (true), or what lasts -/
def sideD (d : DkS) (q : Bool) : Int → Option (List UInt8) := if q = true then d.wait else d.last
def setD (d : DkS) (q : Bool) (f : Int → Option (List UInt8)) : DkS := if q = true then { d with wait := f } else { d with last := f }
theorem setD_s (d : DkS) (q : Bool) (f : Int → Option (List UInt8)) : (setD d q f).s = d.s := by cases q <;> rfl
theorem setD_dead (d : DkS) (q : Bool) (f : Int → Option (List UInt8)) : (setD d q f).dead = d.dead := by cases q <;> rfl
theorem side_set (d : DkS) (q : Bool) (f : Int → Option (List UInt8)) : sideD (setD d q f) q = f := by cases q <;> rfl
theorem side_other (d : DkS) {q r : Bool} (h : r ≠ q) (f : Int → Option (List UInt8)) : sideD (setD d q f) r = sideD d r := by cases q <;> cases r <;> first | rfl | exact absurd rfl h
def valI (f : Int → Option (List UInt8)) (B C : Int → Nat) (x : Int) : Option Value := (f x).map fun p => .slice (some ⟨B x, 0, none⟩) p.length (C x)
def delB (f : Int → Option (List UInt8)) (x : Int) : Int → Option (List UInt8) := fun y => if y = x then none else f y
def updQ (B : Bool → Int → Nat) (q : Bool) (a : Int) (g : Nat) : Bool → Int → Nat := fun r x => if r = q ∧ x = a then g else B r x
theorem updQ_at (B : Bool → Int → Nat) (q : Bool) (a : Int) (g : Nat) : updQ B q a g q a = g := if_pos ⟨rfl, rfl⟩
theorem updQ_ne (B : Bool → Int → Nat) {q r : Bool} {a x : Int} (h : ¬ (r = q ∧ x = a)) (g : Nat) : updQ B q a g r x = B r x := if_neg h
theorem valI_put (f : Int → Option (List UInt8)) (B C : Bool → Int → Nat) (q : Bool) (a : Int) (g c : Nat) (p : List UInt8) (x : Int) :
    valI (putB f a p) (updQ B q a g q) (updQ C q a c q) x = putI (valI f (B q) (C q)) a (.slice (some ⟨g, 0, none⟩) p.length c) x := by
  unfold valI putB putI
  by_cases h : x = a
  · subst h
    rw [if_pos rfl, if_pos rfl, updQ_at, updQ_at]
    rfl
  · rw [if_neg h, if_neg h, updQ_ne B (fun e => h e.2), updQ_ne C (fun e => h e.2)]
theorem valI_other (f : Int → Option (List UInt8)) (B C : Bool → Int → Nat) {q r : Bool} (h : r ≠ q) (a : Int) (g c : Nat) (x : Int) : valI f (updQ B q a g r) (updQ C q a c r) x = valI f (B r) (C r) x := by
  unfold valI
  rw [updQ_ne B (fun e => h e.1), updQ_ne C (fun e => h e.1)]
theorem valI_del (f : Int → Option (List UInt8)) (B C : Int → Nat) (a x : Int) : valI (delB f a) B C x = delI (valI f B C) a x := by
  unfold valI delB delI
  by_cases h : x = a
  · rw [if_pos h, if_pos h]; rfl
  · rw [if_neg h, if_neg h]

structure DkM (w : World) (db : Nat) (mb : Bool → Nat) (B C : Bool → Int → Nat) (G : Nat → Prop) (d : DkS) : Prop where
  c0 : w.cell? ⟨db, 0, none⟩ = some (.int .i64 (d.s : Int))
  c1 : w.cell? ⟨db, 1, none⟩ = some (.bool d.dead)
  c2 : w.cell? ⟨db, 2, none⟩ = some (.map (some (mb false)))
  c3 : w.cell? ⟨db, 3, none⟩ = some (.map (some (mb true)))
  fz : w.frozen? ⟨db, 1, none⟩ = false
  mp : ∀ q, MapI Try.prog 3 w (mb q) d.s (valI (sideD d q) (B q) (C q))
  row : ∀ q x p, sideD d q x = some p → w.ownsRow 0 5 1 (.slice (some ⟨B q x, 0, none⟩) p.length (C q x)) p.length (p.map vb)
  gd : G db
  gm : ∀ q, G (mb q)
  gb : ∀ q x p, sideD d q x = some p → G (B q x)
  lt : ∀ k, G k → k < w.heap.size
  lw : mb false ≠ mb true
  ins : ∀ q, InS d.s (sideD d q)
  s1 : 1 ≤ d.s
  s2 : d.s ≤ 4096
def InjD (d : DkS) (B : Bool → Int → Nat) : Prop := ∀ q x p r y p', sideD d q x = some p → sideD d r y = some p' → B q x = B r y → q = r ∧ x = y
def DkIn (w : World) (db : Nat) (mb : Bool → Nat) (B C : Bool → Int → Nat) (G : Nat → Prop) (d : DkS) : Prop := DkM w db mb B C G d ∧ InjD d B ∧ d.Ok
def DiskAt (w : World) (db : Nat) (G : Nat → Prop) (d : DkS) : Prop := ∃ mb B C, DkIn w db mb B C G d

theorem keyed_int : Keyed Try.prog 3 := Maps.int_keyed (q := .i64) (by kernel_rfl)
theorem under_map : Try.prog.underlying 57 = some (.map 3 32) := by kernel_rfl
theorem zero_bytes (w : World) : (zeroValue 32).run Try.prog w = .ok (.slice none 0 0) w := by kernel_rfl
theorem key_int {x : Int} (h : (Lit.int .i64 x).wf = true) : keyOf Try.prog 3 (.int .i64 x) = some (.int .i64 x) := by
  have : Try.prog.underlying 3 = some (.int .i64) := by kernel_rfl
  simp [keyOf, this, mapKey, h]

theorem MapI.isMap {P : Program} {K b S : Nat} {w : World} {f : Int → Option Value} (h : MapI P K w b S f) : ∃ es clock, w.heap[b]? = some (.map es clock) := by
  obtain ⟨D, ⟨es, clock, hb, _⟩, _⟩ := h
  exact ⟨es, clock, hb⟩
theorem MapI.noCell {P : Program} {K b S : Nat} {w : World} {f : Int → Option Value} (h : MapI P K w b S f) (o : Nat) : w.cell? ⟨b, o, none⟩ = none := by
  obtain ⟨es, clock, hb⟩ := h.isMap
  unfold World.cell?
  rw [hb]
theorem row_cells {w : World} {e g n c : Nat} {xs : List Value} (h : w.ownsRow 0 e 1 (.slice (some ⟨g, 0, none⟩) n c) n xs) : ∃ cur, w.heap[g]? = some (.cells cur e (0, 0)) := by
  obtain ⟨h0, h | ⟨g', cap, cur, hv, hg, hh, r⟩⟩ := h
  · simp at h
  · simp at hv
    obtain ⟨rfl, _⟩ := hv
    exact ⟨cur, hh⟩
section
variable {w w' : World} {db : Nat} {mb : Bool → Nat} {B C : Bool → Int → Nat} {G : Nat → Prop} {d : DkS}
theorem DkM.db_ne (h : DkM w db mb B C G d) (q : Bool) : db ≠ mb q := fun e => by
  have h1 := (h.mp q).noCell 0
  rw [← e, h.c0] at h1
  cases h1
theorem DkM.row_ne (h : DkM w db mb B C G d) {q : Bool} {x : Int} {p : List UInt8} (hp : sideD d q x = some p) (r : Bool) : B q x ≠ mb r := fun e => by
  obtain ⟨cur, h1⟩ := row_cells (h.row q x p hp)
  obtain ⟨es, clock, h2⟩ := (h.mp r).isMap
  rw [e, h2] at h1
  cases h1
theorem DkM.row_db (h : DkM w db mb B C G d) {q : Bool} {x : Int} {p : List UInt8} (hp : sideD d q x = some p) : B q x ≠ db := fun e => by
  have h1 := Rd.owned (h.row q x p hp)
  have h2 := h.ins q x p hp
  rcases h1 with ⟨_, _, h3, _⟩ | ⟨b, off, cap, h3, h4, _, _, _, h5⟩
  · rw [h3] at h2; simp at h2
  · have h6 := h5 0 (by omega)
    simp at h4
    obtain ⟨⟨rfl, rfl⟩, _⟩ := h4
    rw [e, Nat.add_zero, h.c0] at h6
    simp at h6
theorem DkM.mb_ne (h : DkM w db mb B C G d) {q r : Bool} (e : q ≠ r) : mb q ≠ mb r := by
  have := h.lw
  cases q <;> cases r <;> first | exact absurd rfl e | assumption | exact Ne.symm this
/-- blocks of the disk that have not turned -/
theorem DkM.keep (h : DkM w db mb B C G d) (hk : ∀ k, G k → w'.heap[k]? = w.heap[k]?) (hs : w.heap.size ≤ w'.heap.size) : DkM w' db mb B C G d where
  c0 := (World.cell?_of_block (w := w) (hk db h.gd)).trans h.c0
  c1 := (World.cell?_of_block (w := w) (hk db h.gd)).trans h.c1
  c2 := (World.cell?_of_block (w := w) (hk db h.gd)).trans h.c2
  c3 := (World.cell?_of_block (w := w) (hk db h.gd)).trans h.c3
  fz := (World.frozen?_of_block (w := w) (hk db h.gd)).trans h.fz
  mp := fun q => (h.mp q).of_block (hk _ (h.gm q))
  row := fun q x p hp => owns_block (h.row q x p hp) (fun g hg => by
    cases hg
    exact hk _ (h.gb q x p hp))
  gd := h.gd
  gm := h.gm
  gb := h.gb
  lt := fun k hk => Nat.lt_of_lt_of_le (h.lt k hk) hs
  lw := h.lw
  ins := h.ins
  s1 := h.s1
  s2 := h.s2
theorem DkM.below (h : DkM w db mb B C G d) (hb : Below w.heap.size w w') : DkM w' db mb B C G d := h.keep (fun k hk => hb.block k (h.lt k hk)) hb.size
theorem DiskAt.below (h : DiskAt w db G d) (hb : Below w.heap.size w w') : DiskAt w' db G d := by
  obtain ⟨mb, B, C, h1, h2, h3⟩ := h
  exact ⟨mb, B, C, h1.below hb, h2, h3⟩
theorem DiskAt.keep (h : DiskAt w db G d) (hk : ∀ k, G k → w'.heap[k]? = w.heap[k]?) (hs : w.heap.size ≤ w'.heap.size) : DiskAt w' db G d := by
  obtain ⟨mb, B, C, h1, h2, h3⟩ := h
  exact ⟨mb, B, C, h1.keep hk hs, h2, h3⟩
theorem DiskAt.ok (h : DiskAt w db G d) : d.Ok := by
  obtain ⟨mb, B, C, h1, h2, h3⟩ := h
  exact h3
theorem DiskAt.lt (h : DiskAt w db G d) : ∀ k, G k → k < w.heap.size := by
  obtain ⟨mb, B, C, h1, h2, h3⟩ := h
  exact h1.lt

theorem mapTurned_os {b : Nat} (h : w.mapTurned w' b) : w'.os = w.os ∧ w'.tape = w.tape ∧ w'.output = w.output ∧ w'.heap.size = w.heap.size := by
  obtain ⟨es, clock, es', clock', hb, rfl⟩ := h
  refine ⟨rfl, rfl, rfl, ?_⟩
  simp [setBlock]
theorem mapTurned_turnG {b : Nat} (h : w.mapTurned w' b) (hg : G b) : TurnG G w w' := by
  obtain ⟨h1, h2, h3, h4⟩ := mapTurned_os h
  exact ⟨h1, h2, h3, by rw [h4]; exact Nat.le_refl _, fun k _ hk => mapTurned_block h (fun e => hk (by rw [e]; exact hg))⟩
theorem InS.del {s : Nat} {f : Int → Option (List UInt8)} (h : InS s f) (x : Int) : InS s (delB f x) := by
  intro y b e
  unfold delB at e
  by_cases hy : y = x
  · rw [if_pos hy] at e; cases e
  · rw [if_neg hy] at e; exact h y b e

/-- a map of the disk has turned; its other parts stand -/
theorem DkM.turned (h : DkM w db mb B C G d) {q : Bool} (ht : w.mapTurned w' (mb q)) {B' C' : Bool → Int → Nat} {f : Int → Option (List UInt8)} (G' : Nat → Prop) (hG : ∀ k, G k → G' k) (hlt : ∀ k, G' k → k < w.heap.size)
    (hm : MapI Try.prog 3 w' (mb q) d.s (valI f (B' q) (C' q))) (hB : ∀ r, r ≠ q → ∀ x, B' r x = B r x) (hC : ∀ r, r ≠ q → ∀ x, C' r x = C r x) (hf : InS d.s f)
    (hr : ∀ x p, f x = some p → G' (B' q x) ∧ w.ownsRow 0 5 1 (.slice (some ⟨B' q x, 0, none⟩) p.length (C' q x)) p.length (p.map vb)) : DkM w' db mb B' C' G' (setD d q f) := by
  have hb : ∀ k, k ≠ mb q → w'.heap[k]? = w.heap[k]? := fun k hk => mapTurned_block ht hk
  have hs := (mapTurned_os ht).2.2.2
  have hdb := hb db (h.db_ne q)
  have hne : ∀ {g n c : Nat} {xs : List Value}, w.ownsRow 0 5 1 (.slice (some ⟨g, 0, none⟩) n c) n xs → g ≠ mb q := fun ho e => by
    obtain ⟨cur, h1⟩ := row_cells ho
    obtain ⟨es, clock, h2⟩ := (h.mp q).isMap
    rw [e, h2] at h1
    cases h1
  have rr : ∀ r x p, sideD (setD d q f) r x = some p → G' (B' r x) ∧ w.ownsRow 0 5 1 (.slice (some ⟨B' r x, 0, none⟩) p.length (C' r x)) p.length (p.map vb) := by
    intro r x p hp
    by_cases e : r = q
    · subst e
      rw [side_set] at hp
      exact hr x p hp
    · rw [side_other d e] at hp
      rw [hB r e, hC r e]
      exact ⟨hG _ (h.gb r x p hp), h.row r x p hp⟩
  refine ⟨?_, ?_, ?_, ?_, ?_, fun r => ?_, fun r x p hp => ?_, hG _ h.gd, fun r => hG _ (h.gm r), fun r x p hp => (rr r x p hp).1, fun k hk => by rw [hs]; exact hlt k hk, h.lw, fun r => ?_, ?_, ?_⟩
  · rw [setD_s]; exact (World.cell?_of_block (w := w) hdb).trans h.c0
  · rw [setD_dead]; exact (World.cell?_of_block (w := w) hdb).trans h.c1
  · exact (World.cell?_of_block (w := w) hdb).trans h.c2
  · exact (World.cell?_of_block (w := w) hdb).trans h.c3
  · exact (World.frozen?_of_block (w := w) hdb).trans h.fz
  · rw [setD_s]
    by_cases e : r = q
    · subst e
      rw [side_set]
      exact hm
    · rw [side_other d e, show B' r = B r from funext (hB r e), show C' r = C r from funext (hC r e)]
      exact (h.mp r).of_block (hb _ (h.mb_ne e))
  · have h1 := (rr r x p hp).2
    exact owns_block h1 (fun g hg => by
      cases hg
      exact hb _ (hne h1))
  · rw [setD_s]
    by_cases e : r = q
    · subst e; rw [side_set]; exact hf
    · rw [side_other d e]; exact h.ins r
  · rw [setD_s]; exact h.s1
  · rw [setD_s]; exact h.s2
/-- 'm[a] = bytes' -/
theorem DkM.put (h : DkM w db mb B C G d) (q : Bool) {a : Int} {p : List UInt8} {g c : Nat} (ha : (Lit.int .i64 a).wf = true) (h0 : 0 ≤ a) (h1 : a < (d.s : Int)) (hp : 1 ≤ p.length ∧ p.length ≤ 4108) (hr : w.ownsRow 0 5 1 (.slice (some ⟨g, 0, none⟩) p.length c) p.length (p.map vb)) :
    ∃ w', (Instr.mapUpdate 57 (.map (some (mb q))) (.int .i64 a) (.slice (some ⟨g, 0, none⟩) p.length c)).run Try.prog w = .ok () w' ∧ w.mapTurned w' (mb q) ∧ DkM w' db mb (updQ B q a g) (updQ C q a c) (fun k => G k ∨ k = g) (setD d q (putB (sideD d q) a p)) := by
  have hs2 := h.s2
  obtain ⟨w', hrun, hm, ht⟩ := (h.mp q).store keyed_int under_map (by unfold maxLen; omega) (key_int ha) h0 h1 (.slice (some ⟨g, 0, none⟩) p.length c)
  refine ⟨w', hrun, ht, h.turned ht _ (fun k => Or.inl) (fun k hk => ?_) (hm.congr fun x => (valI_put _ B C q a g c p x).symm) (fun r e x => updQ_ne B (fun h => e h.1) g) (fun r e x => updQ_ne C (fun h => e h.1) c) ((h.ins q).put h0 h1 hp.1 hp.2) (fun x p' hx => ?_)⟩
  · rcases hk with hk | rfl
    · exact h.lt k hk
    · exact (owns_at hr).2
  · unfold putB at hx
    by_cases e : x = a
    · subst e
      rw [if_pos rfl] at hx
      cases hx
      rw [updQ_at, updQ_at]
      exact ⟨Or.inr rfl, hr⟩
    · rw [if_neg e] at hx
      rw [updQ_ne B (fun h => e h.2), updQ_ne C (fun h => e h.2)]
      exact ⟨Or.inl (h.gb q x p' hx), h.row q x p' hx⟩
/-- 'delete(m, a)' -/
theorem DkM.del (h : DkM w db mb B C G d) (q : Bool) {a : Int} (ha : (Lit.int .i64 a).wf = true) (ty : TypeId) :
    ∃ w', (Builtin.delete_ #[57, 3] ty #[.map (some (mb q)), .int .i64 a]).run Try.prog w = .ok (.tuple #[]) w' ∧ w.mapTurned w' (mb q) ∧ DkM w' db mb B C G (setD d q (delB (sideD d q) a)) := by
  obtain ⟨w', hrun, hm, ht⟩ := (h.mp q).drop keyed_int under_map (key_int ha) ty
  refine ⟨w', hrun, ht, h.turned ht G (fun k => id) h.lt (hm.congr fun x => (valI_del _ (B q) (C q) a x).symm) (fun r e x => rfl) (fun r e x => rfl) ((h.ins q).del a) (fun x p' hx => ?_)⟩
  unfold delB at hx
  by_cases e : x = a
  · rw [if_pos e] at hx; cases hx
  · rw [if_neg e] at hx
    exact ⟨h.gb q x p' hx, h.row q x p' hx⟩
/-- 'clear(m)' -/
theorem DkM.clear (h : DkM w db mb B C G d) (q : Bool) (ty : TypeId) :
    ∃ w', (Builtin.clear_ #[57] ty #[.map (some (mb q))]).run Try.prog w = .ok (.tuple #[]) w' ∧ w.mapTurned w' (mb q) ∧ DkM w' db mb B C G (setD d q noneI) := by
  obtain ⟨w', hrun, hm, ht⟩ := (h.mp q).clear under_map ty
  exact ⟨w', hrun, ht, h.turned ht G (fun k => id) h.lt (hm.congr fun x => rfl) (fun r e x => rfl) (fun r e x => rfl) (InS.none _) (fun x p' hx => by cases hx)⟩
/-- 'v, ok := m[a]' -/
theorem DkM.look_ok (h : DkM w db mb B C G d) (q : Bool) {a : Int} (ha : (Lit.int .i64 a).wf = true) :
    (Instr.lookup 57 (.map (some (mb q))) (.int .i64 a) true).run Try.prog w = .ok (.tuple #[(valI (sideD d q) (B q) (C q) a).getD (.slice none 0 0), .bool (valI (sideD d q) (B q) (C q) a).isSome]) w :=
  (h.mp q).look_ok keyed_int under_map (zero_bytes w) (key_int ha)
theorem DkM.look (h : DkM w db mb B C G d) (q : Bool) {a : Int} (ha : (Lit.int .i64 a).wf = true) :
    (Instr.lookup 57 (.map (some (mb q))) (.int .i64 a) false).run Try.prog w = .ok ((valI (sideD d q) (B q) (C q) a).getD (.slice none 0 0)) w :=
  (h.mp q).look keyed_int under_map (zero_bytes w) (key_int ha)
end

end Go.Proofs.Ytabcbmabimommaa.Gf

/-
  A LAW ON A BUILTIN: 'append(s, p...)', s a row of the call's own, p whatever slice of bytes (nil, empty, or not): the bytes of p behind those of s. Made of the library's laws on append; no program's function is named here.
-/

namespace Go.Proofs.Ytabcbmabimommaa.Gf
set_option linter.unusedVariables false
set_option linter.unusedSimpArgs false
open Go.RowKit

theorem wpList_append_rd {P : Program} (w : World) {ops : Array Oper} {rest : List Oper} {o : Oper} {a : Act} {Q : Exit → Act → World → Prop} (hgd : o.guard = none) (s x : Operand) (t : TypeId)
    (ho : o.op = .call { callee := .builtin .append, args := #[s, x], argTypes := #[t, t] })
    (base : Nat) (e : TypeId) (i : TypeInfo) (ht : P.underlying t = some (.slice e)) (hi : P.info? e = some i) (hz : i.zero = some (.int .u8 0)) (hsize : i.size = 1) (hby : i.bytes = 1)
    (v : Value) (n : Nat) (xs : List Value) (hs : a.eval s = v) (hown : w.ownsRow base e 1 v n xs) (va : Value) (p : List UInt8) (hx : a.eval x = va) (hr : Rd w va p) (hl : n + p.length ≤ 1000000) (hbase : base ≤ w.heap.size)
    (h : ∀ v' w', w'.ownsRow base e 1 v' (n + p.length) (xs ++ p.map vb) → w.grownBy w' v.ownBlock → wpList P ops Q rest (a.put o.dst v') w') : wpList P ops Q (o :: rest) a w := by
  rcases hr with ⟨ao, cap, rfl, rfl, hc, hn⟩ | ⟨b, off, cap, hp0, rfl, h1, h2, h3, hpc⟩
  · rcases ao with _ | ad
    · have := hn rfl
      subst this
      refine wpList_append_own_none hgd s x t ho base e i 1 ht hi v n xs hs hown hx ?_
      exact h v w (by simpa using hown) (World.grownBy.refl _ _)
    · refine wpList_append_own w hgd s x t ho base e i (.int .u8 0) 1 1 ht hi hz hsize hby rfl (by decide) v n xs hs hown ad 0 cap [] hx rfl (by intro j u hj; simp at hj) (by intro u hu; simp at hu) (by unfold maxLen; omega) (by omega) hbase ?_
      intro v' w' ho' hg' _
      exact h v' w' (by simpa using ho') hg'
  · refine wpList_append_own w hgd s x t ho base e i (.int .u8 0) 1 1 ht hi hz hsize hby rfl (by decide) v n xs hs hown ⟨b, off, none⟩ p.length cap ((p.take p.length).map vb) hx (by simp) (news_of hpc) (vb_one _) (by unfold maxLen; omega) (by omega) hbase ?_
    intro v' w' ho' hg' _
    exact h v' w' (by simpa using ho') hg'

end Go.Proofs.Ytabcbmabimommaa.Gf

/-
  'bytes.Clone' BY CONTRACT: a row of the call's own; of none none.
-/



namespace Go.Proofs.Ytabcbmabimommaa.Gf
set_option linter.unusedVariables false
set_option linter.unusedSimpArgs false
open Go.RowKit

theorem own_new12 (w : World) (e : TypeId) : (w.alloc (.cells #[] e)).ownsRow w.heap.size e 1 (.slice (some ⟨w.heap.size, 0, none⟩) 0 0) 0 [] := World.ownsRow_made w #[] 0 (Nat.le_refl _) (Nat.zero_le _) rfl
set_option maxRecDepth 100000 in
theorem bclone_own {p : List UInt8} {w : World} {a : Addr} {c : Nat} (hp : Rd w (.slice (some a) p.length c) p) (hl : p.length ≤ 100000) : Calls Try.prog 39 #[.slice (some a) p.length c] w fun e w' => ∃ v, e = .returned v ∧ w'.ownsRow w.heap.size 5 1 v p.length (p.map vb) ∧ Below w.heap.size w w' := by
  obtain ⟨i0, hi, hz0, hz1, hz2⟩ := info_parts info_u8
  have qT : ∀ (w : World) (a : Option Addr) (n c n' c' : Nat), (binOp .eql 32 (.slice a n c) (.slice none n' c')).run Try.prog w = .ok (.bool a.isNone) w := fun w a n c n' c' => Lib.run_eql_slice_nil w _ _ a n c n' c' Try.underlying32
  have B1 : Below w.heap.size w (w.alloc (.cells #[] 5)) := (Below.refl _ _).alloc (Nat.le_refl _) _
  have O1 : (w.alloc (.cells #[] 5)).ownsRow w.heap.size 5 1 (.slice (some ⟨w.heap.size, 0, none⟩) 0 0) 0 [] := own_new12 w _
  have hp1 := hp.below B1
  have hsz : w.heap.size ≤ (w.alloc (.cells #[] 5)).heap.size := B1.size
  go_enter Try.func39, Try.ntmps39
  go_wp2_with (at_builtin; go_loud (refine wpList_append_rd _ rfl (.tmp 5) (.tmp 6) 32 rfl w.heap.size 5 i0 Try.underlying32 hi hz0 hz1 hz2 (.slice (some ⟨w.heap.size, 0, none⟩) 0 0) 0 [] rfl O1 (.slice (some a) p.length c) p rfl hp1 (by omega) hsz ?_); intro v' w9 hv9 hg9)
  have HB : Hid (Below w.heap.size w w9) := B1.grown hg9 hsz (fun q hq => by cases hq; exact Nat.le_refl _)
  have HO : Hid (w9.ownsRow w.heap.size 5 1 v' p.length (p.map vb)) := by
    show w9.ownsRow _ _ _ _ _ _
    rw [Nat.zero_add, List.nil_append] at hv9
    exact hv9
  clear hv9 hg9 B1 O1 hp1 hp qT
  go_wp2
  go_ret
  exact ⟨v', rfl, HO.out, HB.out⟩
theorem bclone_nil {w : World} : Calls Try.prog 39 #[.slice none 0 0] w fun e w' => e = .returned (.slice none 0 0) ∧ w' = w := by
  have qT : ∀ (w : World) (a : Option Addr) (n c n' c' : Nat), (binOp .eql 32 (.slice a n c) (.slice none n' c')).run Try.prog w = .ok (.bool a.isNone) w := fun w a n c n' c' => Lib.run_eql_slice_nil w _ _ a n c n' c' Try.underlying32
  go_enter Try.func39, Try.ntmps39
  go_wp2
  go_ret
  exact ⟨rfl, rfl⟩
end Go.Proofs.Ytabcbmabimommaa.Gf

