/- TEXTS JOINED: TuLm, RdIn, DkTurn, LyKit, GfPut, GfNew, StSp, PoDivMath, PoApi, PoOnly, MxMath, MxRd, MxOwn, MxStep, SsOwn. -/
import Derived.Test.YtddnfhfangfgeaaGreatTome1
import Derived.Deep.OwnRows
import Derived.WalkSpells
import Derived.Deep.AppendLies
import Derived.Laws.AppendOwnNone
import Derived.Deep.RegionHeld3
namespace Go.Proofs.YtddnfhfangfgeaaGreat.Gf
set_option linter.unusedVariables false
set_option linter.unusedSimpArgs false
open Go.RowKit
structure TurnL (G : List Nat) (w w' : World) : Prop where
  os : w'.os = w.os
  tape : w'.tape = w.tape
  output : w'.output = w.output
  size : w.heap.size ≤ w'.heap.size
  block : ∀ k, k < w.heap.size → k ∉ G → w'.heap[k]? = w.heap[k]?
theorem TurnL.refl (G : List Nat) (w : World) : TurnL G w w := ⟨rfl, rfl, rfl, Nat.le_refl _, fun _ _ _ => rfl⟩
theorem TurnL.trans {G : List Nat} {a b c : World} (h : TurnL G a b) (k : TurnL G b c) : TurnL G a c :=
  ⟨k.os.trans h.os, k.tape.trans h.tape, k.output.trans h.output, Nat.le_trans h.size k.size, fun i hi hg => (k.block i (Nat.lt_of_lt_of_le hi h.size) hg).trans (h.block i hi hg)⟩
theorem Below.turnL {w w' : World} (h : Below w.heap.size w w') (G : List Nat) : TurnL G w w' := ⟨h.os, h.tape, h.output, h.size, fun k hk _ => h.block k hk⟩
theorem Only.turnL {g : Nat} {G : List Nat} {w w' : World} (h : Only g w w') (hg : g ∈ G) : TurnL G w w' :=
  ⟨h.os, h.tape, h.output, by rw [h.size]; exact Nat.le_refl _, fun k _ hk => h.block k (fun e => hk (by rw [e]; exact hg))⟩
theorem TurnL.put {G : List Nat} {a w : World} (h : TurnL G a w) {g : Nat} (hg : g ∈ G) (j : Nat) (u : Value) : TurnL G a (w.setCell ⟨g, j, none⟩ u) := h.trans (((Only.refl g w).setCell j u).turnL hg)
theorem TurnL.drew {G : List Nat} {a w : World} (h : TurnL G a w) : TurnL G a w.drew := ⟨h.os, h.tape, h.output, h.size, h.block⟩
theorem TurnL.drewN {G : List Nat} {a w : World} (h : TurnL G a w) (n : Nat) : TurnL G a (w.drewN n) := ⟨h.os, h.tape, h.output, h.size, h.block⟩
theorem TurnL.below {G : List Nat} {B : Nat} {w w' : World} (h : TurnL G w w') (hg : ∀ g, g ∈ G → B ≤ g) (hB : B ≤ w.heap.size) : Below B w w' :=
  ⟨h.os, h.tape, h.output, h.size, fun k hk => h.block k (by omega) (fun e => by have := hg k e; omega)⟩
theorem TurnL.cell {G : List Nat} {w w' : World} (h : TurnL G w w') {p : Addr} (hs : p.block < w.heap.size) (hp : p.block ∉ G) : w'.cell? p = w.cell? p := World.cell?_of_block (w := w) (h.block p.block hs hp)
theorem TurnL.frozen {G : List Nat} {w w' : World} (h : TurnL G w w') {p : Addr} (hs : p.block < w.heap.size) (hp : p.block ∉ G) : w'.frozen? p = w.frozen? p := World.frozen?_of_block (w := w) (h.block p.block hs hp)
/-- a slice that lies in none of the blocks -/
def ApartL (G : List Nat) (v : Value) : Prop := ∀ x n c, v = .slice (some x) n c → n = 0 ∨ x.block ∉ G
theorem Rd.turnL {G : List Nat} {w w' : World} {v : Value} {p : List UInt8} (h : Rd w v p) (ha : ApartL G v) (ho : TurnL G w w') : Rd w' v p := by
  rcases h with h | ⟨b, off, cap, h1, h2, h3, h4, h5, h6⟩
  · exact Or.inl h
  · have hb : b ∉ G := by
      rcases ha _ _ _ h2 with e | e
      · exact absurd (List.length_eq_zero_iff.1 e) h1
      · exact e
    exact Or.inr ⟨b, off, cap, h1, h2, h3, h4, Nat.lt_of_lt_of_le h5 ho.size, fun i hi => (ho.cell (p := ⟨b, off + i, none⟩) h5 hb).trans (h6 i hi)⟩
/-- one that was there before the blocks were laid -/
theorem Rd.apartL {w : World} {v : Value} {p : List UInt8} {G : List Nat} (h : Rd w v p) (hg : ∀ g, g ∈ G → w.heap.size ≤ g) : ApartL G v := by
  intro x n c e
  rcases h with ⟨a, c', _, e2, _⟩ | ⟨b, off, cap, h1, h2, h3, h4, h5, h6⟩
  · subst e2; simp at e; exact Or.inl e.2.1.symm
  · subst h2; simp at e; obtain ⟨rfl, rfl, rfl⟩ := e; exact Or.inr (fun h => by have := hg b h; omega)
/-- one that was laid behind them -/
theorem ApartL.own {w : World} {base e n : Nat} {v : Value} {xs : List Value} {G : List Nat} (h : w.ownsRow base e 1 v n xs) (hg : ∀ g, g ∈ G → g < base) : ApartL G v := by
  intro x m c ev
  obtain ⟨_, ⟨hv, hn⟩ | ⟨g, cap, cur, hv, hgb, _⟩⟩ := h
  · rw [hv] at ev; simp at ev
  · rw [hv] at ev
    simp at ev
    obtain ⟨rfl, _, _⟩ := ev
    exact Or.inr (fun h => by have := hg g h; omega)
theorem ApartL.nil (G : List Nat) (c : Nat) (a : Option Addr) : ApartL G (.slice a 0 c) := fun x n c' e => by simp at e; exact Or.inl e.2.1.symm
end Go.Proofs.YtddnfhfangfgeaaGreat.Gf

namespace Go.Proofs.YtddnfhfangfgeaaGreat.Gf
set_option linter.unusedVariables false
set_option linter.unusedSimpArgs false
open Go.RowKit
/-- A slice of numbers of rows. -/
def RdI (w : World) (v : Value) (zs : List Int) : Prop :=
  (∃ ao cap, zs = [] ∧ v = .slice ao 0 cap) ∨ (∃ b off cap, zs ≠ [] ∧ v = .slice (some ⟨b, off, none⟩) zs.length cap ∧ zs.length ≤ maxLen ∧ b < w.heap.size ∧ ∀ i, i < zs.length → w.cell? ⟨b, off + i, none⟩ = some (.int .i64 (zs.getD i 0)))
theorem RdI.below {w w' : World} {v : Value} {zs : List Int} (h : RdI w v zs) (hb : Below w.heap.size w w') : RdI w' v zs := by
  rcases h with h | ⟨b, off, cap, h1, h2, h3, h5, h6⟩
  · exact Or.inl h
  · exact Or.inr ⟨b, off, cap, h1, h2, h3, Nat.lt_of_lt_of_le h5 hb.size, fun i hi => (hb.cell (p := ⟨b, off + i, none⟩) h5).trans (h6 i hi)⟩
theorem RdI.form {w : World} {v : Value} {zs : List Int} (h : RdI w v zs) : ∃ a c, v = .slice a zs.length c := by
  rcases h with ⟨a, c, rfl, rfl⟩ | ⟨b, off, c, _, rfl, _⟩
  · exact ⟨a, c, rfl⟩
  · exact ⟨_, c, rfl⟩
theorem _root_.Go.RowKit.Below.drewN {B : Nat} {a w : World} (h : Below B a w) (n : Nat) : Below B a (w.drewN n) := ⟨h.os, h.tape, h.output, h.size, h.block⟩
end Go.Proofs.YtddnfhfangfgeaaGreat.Gf

namespace Go.Proofs.YtddnfhfangfgeaaGreat.Gf
set_option linter.unusedVariables false
set_option linter.unusedSimpArgs false
open Go.RowKit
structure TurnG (G : Nat → Prop) (w w' : World) : Prop where
  os : w'.os = w.os
  tape : w'.tape = w.tape
  output : w'.output = w.output
  size : w.heap.size ≤ w'.heap.size
  block : ∀ k, k < w.heap.size → ¬ G k → w'.heap[k]? = w.heap[k]?
theorem TurnG.refl (G : Nat → Prop) (w : World) : TurnG G w w := ⟨rfl, rfl, rfl, Nat.le_refl _, fun _ _ _ => rfl⟩
theorem TurnG.trans {G : Nat → Prop} {a b c : World} (h : TurnG G a b) (k : TurnG G b c) : TurnG G a c :=
  ⟨k.os.trans h.os, k.tape.trans h.tape, k.output.trans h.output, Nat.le_trans h.size k.size, fun i hi hg => (k.block i (Nat.lt_of_lt_of_le hi h.size) hg).trans (h.block i hi hg)⟩
theorem Below.turnG {w w' : World} (h : Below w.heap.size w w') (G : Nat → Prop) : TurnG G w w' := ⟨h.os, h.tape, h.output, h.size, fun k hk _ => h.block k hk⟩
theorem Only.turnG {g : Nat} {G : Nat → Prop} {w w' : World} (h : Only g w w') (hg : G g) : TurnG G w w' :=
  ⟨h.os, h.tape, h.output, by rw [h.size]; exact Nat.le_refl _, fun k _ hk => h.block k (fun e => hk (by rw [e]; exact hg))⟩
theorem TurnG.drewN {G : Nat → Prop} {a w : World} (h : TurnG G a w) (n : Nat) : TurnG G a (w.drewN n) := ⟨h.os, h.tape, h.output, h.size, h.block⟩
theorem TurnG.drew {G : Nat → Prop} {a w : World} (h : TurnG G a w) : TurnG G a w.drew := ⟨h.os, h.tape, h.output, h.size, h.block⟩
theorem TurnG.below {G : Nat → Prop} {B : Nat} {w w' : World} (h : TurnG G w w') (hg : ∀ g, G g → B ≤ g) (hB : B ≤ w.heap.size) : Below B w w' :=
  ⟨h.os, h.tape, h.output, h.size, fun k hk => h.block k (by omega) (fun e => by have := hg k e; omega)⟩
theorem TurnG.cell {G : Nat → Prop} {w w' : World} (h : TurnG G w w') {p : Addr} (hs : p.block < w.heap.size) (hp : ¬ G p.block) : w'.cell? p = w.cell? p := World.cell?_of_block (w := w) (h.block p.block hs hp)
theorem TurnG.frozen {G : Nat → Prop} {w w' : World} (h : TurnG G w w') {p : Addr} (hs : p.block < w.heap.size) (hp : ¬ G p.block) : w'.frozen? p = w.frozen? p := World.frozen?_of_block (w := w) (h.block p.block hs hp)
/-- one disk's blocks: only they have turned, and those that came to them are new -/
structure Grew (G : Nat → Prop) (w : World) (G' : Nat → Prop) (w' : World) : Prop where
  turn : TurnG G w w'
  grow : ∀ k, G' k → G k ∨ w.heap.size ≤ k
theorem Grew.refl (G : Nat → Prop) (w : World) : Grew G w G w := ⟨TurnG.refl G w, fun _ h => Or.inl h⟩
theorem Grew.trans {G G' G'' : Nat → Prop} {a b c : World} (h : Grew G a G' b) (k : Grew G' b G'' c) : Grew G a G'' c :=
  ⟨⟨k.turn.os.trans h.turn.os, k.turn.tape.trans h.turn.tape, k.turn.output.trans h.turn.output, Nat.le_trans h.turn.size k.turn.size, fun i hi hg =>
    (k.turn.block i (Nat.lt_of_lt_of_le hi h.turn.size) (fun e => (h.grow i e).elim hg (fun h1 => by omega))).trans (h.turn.block i hi hg)⟩,
   fun i hi => by
    rcases k.grow i hi with h1 | h1
    · exact h.grow i h1
    · exact Or.inr (Nat.le_trans h.turn.size h1)⟩
theorem Grew.of_turn {G : Nat → Prop} {w w' : World} (h : TurnG G w w') : Grew G w G w' := ⟨h, fun _ h => Or.inl h⟩
theorem Grew.of_below {G : Nat → Prop} {w w' : World} (h : Below w.heap.size w w') : Grew G w G w' := Grew.of_turn (Below.turnG h G)
theorem Grew.base {G G' : Nat → Prop} {w w' : World} {B : Nat} (h : Grew G w G' w') (hg : ∀ k, G k → B ≤ k) (hB : B ≤ w.heap.size) : ∀ k, G' k → B ≤ k := fun k hk => by
  rcases h.grow k hk with h1 | h1
  · exact hg k h1
  · omega
theorem Grew.below {G G' : Nat → Prop} {w w' : World} {B : Nat} (h : Grew G w G' w') (hg : ∀ k, G k → B ≤ k) (hB : B ≤ w.heap.size) : Below B w w' := h.turn.below hg hB
theorem Grew.off {G G' : Nat → Prop} {w w' : World} (h : Grew G w G' w') {k : Nat} (hk : k < w.heap.size) (hg : ¬ G k) : ¬ G' k := fun e => by
  rcases h.grow k e with h1 | h1
  · exact hg h1
  · omega
/-- a slice that lies in none of the blocks -/
def ApartG (G : Nat → Prop) (v : Value) : Prop := ∀ x n c, v = .slice (some x) n c → n = 0 ∨ ¬ G x.block
theorem Rd.turnG {G : Nat → Prop} {w w' : World} {v : Value} {p : List UInt8} (h : Rd w v p) (ha : ApartG G v) (ho : TurnG G w w') : Rd w' v p := by
  rcases h with h | ⟨b, off, cap, h1, h2, h3, h4, h5, h6⟩
  · exact Or.inl h
  · have hb : ¬ G b := by
      rcases ha _ _ _ h2 with e | e
      · exact absurd (List.length_eq_zero_iff.1 e) h1
      · exact e
    exact Or.inr ⟨b, off, cap, h1, h2, h3, h4, Nat.lt_of_lt_of_le h5 ho.size, fun i hi => (ho.cell (p := ⟨b, off + i, none⟩) h5 hb).trans (h6 i hi)⟩
theorem Rd.lay {w : World} {v : Value} {p : List UInt8} (h : Rd w v p) {x : Addr} {n c : Nat} (e : v = .slice (some x) n c) : n = 0 ∨ x.block < w.heap.size := by
  rcases h with ⟨a, c', _, e2, _⟩ | ⟨b, off, cap, h1, h2, h3, h4, h5, h6⟩
  · subst e2; simp at e; exact Or.inl e.2.1.symm
  · subst h2; simp at e; obtain ⟨rfl, rfl, rfl⟩ := e; exact Or.inr h5
/-- it stays apart -/
theorem ApartG.grew {G G' : Nat → Prop} {w w' : World} {v : Value} {p : List UInt8} (ha : ApartG G v) (h : Rd w v p) (g : Grew G w G' w') : ApartG G' v := by
  intro x n c e
  rcases ha x n c e with h1 | h1
  · exact Or.inl h1
  · rcases h.lay e with h2 | h2
    · exact Or.inl h2
    · exact Or.inr (g.off h2 h1)
theorem Rd.grew {G G' : Nat → Prop} {w w' : World} {v : Value} {p : List UInt8} (h : Rd w v p) (ha : ApartG G v) (g : Grew G w G' w') : Rd w' v p := h.turnG ha g.turn
/-- one that was there before the blocks were laid -/
theorem Rd.apartG {w : World} {v : Value} {p : List UInt8} {G : Nat → Prop} (h : Rd w v p) (hg : ∀ g, G g → w.heap.size ≤ g) : ApartG G v := by
  intro x n c e
  rcases h.lay e with h2 | h2
  · exact Or.inl h2
  · exact Or.inr (fun h => by have := hg _ h; omega)
/-- one that was laid behind them -/
theorem ApartG.own {w : World} {base e n : Nat} {v : Value} {xs : List Value} {G : Nat → Prop} (h : w.ownsRow base e 1 v n xs) (hg : ∀ g, G g → g < base) : ApartG G v := by
  intro x m c ev
  obtain ⟨_, ⟨hv, hn⟩ | ⟨g, cap, cur, hv, hgb, _⟩⟩ := h
  · rw [hv] at ev; simp at ev
  · rw [hv] at ev
    simp at ev
    obtain ⟨rfl, _, _⟩ := ev
    exact Or.inr (fun h => by have := hg g h; omega)
theorem ApartG.nil (G : Nat → Prop) (c : Nat) (a : Option Addr) : ApartG G (.slice a 0 c) := fun x n c' e => by simp at e; exact Or.inl e.2.1.symm
theorem owns_block {w w' : World} {base e size n : Nat} {v : Value} {xs : List Value} (h : w.ownsRow base e size v n xs) (hb : ∀ g, v.ownBlock = some g → w'.heap[g]? = w.heap[g]?) : w'.ownsRow base e size v n xs := by
  obtain ⟨h0, h | ⟨g, cap, cur, hv, hg, hh, r⟩⟩ := h
  · exact ⟨h0, Or.inl h⟩
  · refine ⟨h0, Or.inr ⟨g, cap, cur, hv, hg, ?_, r⟩⟩
    rw [hb g (by rw [hv]; rfl)]
    exact hh
theorem owns_at {w : World} {base e size n b o c : Nat} {xs : List Value} (h : w.ownsRow base e size (.slice (some ⟨b, o, none⟩) n c) n xs) : base ≤ b ∧ b < w.heap.size := by
  obtain ⟨h0, h | ⟨g, cap, cur, hv, hg, hh, r⟩⟩ := h
  · simp at h
  · simp at hv
    obtain ⟨⟨rfl, _⟩, _⟩ := hv
    exact ⟨hg, (Array.getElem?_eq_some_iff.1 hh).1⟩
end Go.Proofs.YtddnfhfangfgeaaGreat.Gf

namespace Go.Proofs.YtddnfhfangfgeaaGreat.Gf
set_option linter.unusedVariables false
set_option linter.unusedSimpArgs false
open Go.RowKit
def okK (k m : Int) : Prop := 1 ≤ k ∧ k ≤ 256 ∧ 0 ≤ m ∧ m ≤ 256 ∧ k + m ≤ 256
instance (k m : Int) : Decidable (okK k m) := inferInstanceAs (Decidable (_ ∧ _ ∧ _ ∧ _ ∧ _))
theorem belL (w : World) (o : Obj) : Below w.heap.size w (w.alloc o) := (Below.refl _ _).alloc (Nat.le_refl _) _
theorem _root_.Go.RowKit.Below.stepL {w w1 w2 : World} {B : Nat} (h : Below B w w1) (k : Below w1.heap.size w1 w2) (hB : B ≤ w1.heap.size) : Below B w w2 := h.trans (k.mono hB)
/-- a geometry variable -/
def GeoAt (w : World) (b : Nat) (g : GeoS) : Prop := w.cell? ⟨b, 0, none⟩ = some (.int .i64 g.k) ∧ w.cell? ⟨b, 1, none⟩ = some (.int .i64 g.m) ∧ w.cell? ⟨b, 2, none⟩ = some (.int .i64 g.z) ∧ w.cell? ⟨b, 3, none⟩ = some (.int .i64 g.s) ∧ w.cell? ⟨b, 4, none⟩ = some (.int .i64 g.t) ∧ w.cell? ⟨b, 5, none⟩ = some (.int .i64 g.o)
def cellsG (g : GeoS) : Array Value := #[.int .i64 g.k, .int .i64 g.m, .int .i64 g.z, .int .i64 g.s, .int .i64 g.t, .int .i64 g.o]
theorem GeoAt.below {w w' : World} {b : Nat} {g : GeoS} (h : GeoAt w b g) (hb : b < w.heap.size) (hw : Below w.heap.size w w') : GeoAt w' b g :=
  ⟨(hw.cell (p := ⟨b, 0, none⟩) hb).trans h.1, (hw.cell (p := ⟨b, 1, none⟩) hb).trans h.2.1, (hw.cell (p := ⟨b, 2, none⟩) hb).trans h.2.2.1, (hw.cell (p := ⟨b, 3, none⟩) hb).trans h.2.2.2.1, (hw.cell (p := ⟨b, 4, none⟩) hb).trans h.2.2.2.2.1, (hw.cell (p := ⟨b, 5, none⟩) hb).trans h.2.2.2.2.2⟩
/-- a geometry that was laid as a parameter -/
theorem geo_laid (w : World) (g : GeoS) (e : Nat) : ∀ W, Below (w.alloc (.cells (cellsG g) e)).heap.size (w.alloc (.cells (cellsG g) e)) W → GeoAt W w.heap.size g ∧ Below w.heap.size w W := by
  intro W hW
  have cc : ∀ j, (w.alloc (.cells (cellsG g) e)).cell? ⟨w.heap.size, j, none⟩ = (cellsG g)[j]? := fun j => World.cell?_alloc_new _ _ _ _
  have h0 : GeoAt (w.alloc (.cells (cellsG g) e)) w.heap.size g := ⟨(cc 0).trans rfl, (cc 1).trans rfl, (cc 2).trans rfl, (cc 3).trans rfl, (cc 4).trans rfl, (cc 5).trans rfl⟩
  exact ⟨h0.below (by simp) hW, (belL w _).trans (hW.mono (by simp))⟩
end Go.Proofs.YtddnfhfangfgeaaGreat.Gf

namespace Go.Proofs.YtddnfhfangfgeaaGreat.Gf
set_option linter.unusedVariables false
open Go.RowKit
theorem dbl_hi {a : Nat} (h : a < 256) (hh : ¬ a < 128) : bits .xor .u8 ((a : Int) * 2 % 256) 29 = (dbl a : Nat) := by
  have e : ((a : Int) * 2 % 256) = ((2 * a - 256 : Nat) : Int) := by omega
  rw [e, show (29 : Int) = ((29 : Nat) : Int) from rfl, u8_xor_nat _ _ (by omega) (by omega)]
  have := of_decide_eq_true (allB_out (n := 256) (f := fun k => decide (¬ k < 128 → (2 * k - 256) ^^^ 29 = dbl k)) (by kernel_rfl) a h) hh
  rw [this]
set_option maxRecDepth 100000 in
theorem double_any (a : Nat) (h : a < 256) (w : World) :
    Calls Tryz.prog 32 #[.int .u8 a] w fun e w' => e = .returned (.int .u8 (dbl a)) ∧ w' = w := by
  by_cases hlt : a < 128
  · have e : ((a : Int) * 2) = (dbl a : Nat) := by unfold dbl; rw [if_pos hlt]; omega
    have E : Hid (((a : Int) * 2) = (dbl a : Nat)) := e
    clear e
    go_enter Tryz.func32, Tryz.ntmps32
    go_wp2
    go_ret
    exact ⟨ret_int E.out, rfl⟩
  · have E : Hid (bits .xor .u8 ((a : Int) * 2 % 256) 29 = (dbl a : Nat)) := dbl_hi h hlt
    go_enter Tryz.func32, Tryz.ntmps32
    go_wp2
    go_ret
    exact ⟨ret_int E.out, rfl⟩
set_option maxHeartbeats 1000000 in
theorem put_any (b bf bp n p : Nat) (w : World) (hn : n < 255) (hp : p < 256) (hbf : b ≠ bf) (hbp : b ≠ bp) (hfp : bf ≠ bp)
    (cf : w.cell? ⟨bf, 0, none⟩ = some (.pointer (some ⟨b, 0, none⟩))) (cp : w.cell? ⟨bp, 0, none⟩ = some (.int .u8 p)) (zp : w.frozen? ⟨bp, 0, none⟩ = false)
    (v1 v2 : Value) (c1 : w.cell? ⟨b, n, none⟩ = some v1) (c2 : w.cell? ⟨b, 255 + p, none⟩ = some v2) (z1 : w.frozen? ⟨b, n, none⟩ = false) (z2 : w.frozen? ⟨b, 255 + p, none⟩ = false) :
    Calls Tryz.prog 31 #[.int .i64 n, .pointer (some ⟨bp, 0, none⟩), .pointer (some ⟨bf, 0, none⟩)] w fun e w' => e = .returned (.tuple #[]) ∧
      w' = (((w.setCell ⟨b, n, none⟩ (.int .u8 p)).setCell ⟨b, 255 + p, none⟩ (.int .u8 n)).setCell ⟨bp, 0, none⟩ (.int .u8 (dbl p))).drew.drew := by
  go_enter Tryz.func31, Tryz.ntmps31
  go_wp2
  go_region
  go_wp2
  go_region
  go_wp2_with (go_at_call 32; refine (double_any _ hp _).mono ?_; rintro e w' ⟨rfl, rfl⟩)
  go_end0
  exact ⟨rfl, rfl⟩
end Go.Proofs.YtddnfhfangfgeaaGreat.Gf

namespace Go.Proofs.YtddnfhfangfgeaaGreat.Gf
set_option linter.unusedVariables false
open Go.RowKit
def zeros : Array Value := Array.replicate 511 (.int .u8 0)
theorem zero_field (w : World) : Sem.run Tryz.prog (zeroValue 71) w = .ok (.agg zeros) w := by kernel_rfl
theorem zeros_at {i : Nat} (h : i < 511) : zeros[i]? = some (.int .u8 0) := by
  unfold zeros; rw [Array.getElem?_replicate, if_pos h]
theorem cell_set {w : World} {p q : Addr} {u v : Value} (h : w.cell? q = some u) : (w.setCell p v).cell? q = some (if q = p then v else u) := by
  by_cases e : q = p
  · subst e; rw [if_pos rfl]; exact World.cell?_setCell_same w q v h
  · rw [if_neg e, ← h]; exact World.cell?_setCell_other w p q v (fun h => e h.symm)
theorem frozen_past {w : World} {a : Addr} (h : w.heap.size ≤ a.block) : w.frozen? a = false := by
  unfold World.frozen?
  rw [Array.getElem?_eq_none h]
/-- The first k powers and their places stand in block b. -/
structure FieldK (w : World) (b k : Nat) : Prop where
  powers : ∀ i, i < 255 → w.cell? ⟨b, i, none⟩ = some (.int .u8 (if i < k then pw i else 0 : Nat))
  places : ∀ a, a < 256 → w.cell? ⟨b, 255 + a, none⟩ = some (.int .u8 (if a ≠ 0 ∧ lg a < k then lg a else 0 : Nat))
/-- A field stands in block b. -/
structure FieldAt (w : World) (b : Nat) : Prop where
  powers : ∀ i, i < 255 → w.cell? ⟨b, i, none⟩ = some (.int .u8 (pw i : Nat))
  places : ∀ a, a < 256 → w.cell? ⟨b, 255 + a, none⟩ = some (.int .u8 (lg a : Nat))
  lt : b < w.heap.size
theorem FieldAt.own {w w' : World} {b : Nat} (h : FieldAt w b) (o : Own w w') : FieldAt w' b :=
  ⟨fun i hi => (o.cell (p := ⟨b, i, none⟩) h.lt).trans (h.powers i hi), fun i hi => (o.cell (p := ⟨b, 255 + i, none⟩) h.lt).trans (h.places i hi), Nat.lt_of_lt_of_le h.lt o.below.size⟩
theorem place_eq {k a : Nat} (hk : k < 255) (ha : a < 256) :
    (if a = pw k then k else if a ≠ 0 ∧ lg a < k then lg a else 0) = (if a ≠ 0 ∧ lg a < k + 1 then lg a else 0) := by
  by_cases e : a = pw k
  · subst e
    have := pw_pos hk
    have hl := lg_pw hk
    rw [if_pos rfl, hl, if_pos ⟨by omega, by omega⟩]
  · rw [if_neg e]
    by_cases z : a = 0
    · subst z; simp
    · have hne : lg a ≠ k := fun h => e (by rw [← h, pw_lg ha z])
      by_cases l : lg a < k
      · rw [if_pos ⟨z, l⟩, if_pos ⟨z, by omega⟩]
      · rw [if_neg (fun h => l h.2), if_neg (fun h => by omega)]
theorem step {w : World} {b c k : Nat} (hk : k < 255) (hbc : b ≠ c) (h : FieldK w b k) {v : Value} (hc : w.cell? ⟨c, 0, none⟩ = some v) :
    FieldK (((w.setCell ⟨b, k, none⟩ (.int .u8 (pw (k % 255) : Nat))).setCell ⟨b, 255 + pw (k % 255), none⟩ (.int .u8 (k : Nat))).setCell ⟨c, 0, none⟩ (.int .u8 (dbl (pw (k % 255)) : Nat))).drew.drew b (k + 1) ∧
    (((w.setCell ⟨b, k, none⟩ (.int .u8 (pw (k % 255) : Nat))).setCell ⟨b, 255 + pw (k % 255), none⟩ (.int .u8 (k : Nat))).setCell ⟨c, 0, none⟩ (.int .u8 (dbl (pw (k % 255)) : Nat))).drew.drew.cell? ⟨c, 0, none⟩ = some (.int .u8 (pw ((k + 1) % 255) : Nat)) := by
  refine ⟨⟨fun i hi => ?_, fun a ha => ?_⟩, ?_⟩
  · simp only [World.cell?_drew]
    rw [cell_set (cell_set (cell_set (h.powers i hi)))]
    simp only [Addr.mk.injEq, and_true, true_and, hbc, false_and, if_false]
    rw [if_neg (by omega : ¬ i = 255 + pw (k % 255))]
    rw [Nat.mod_eq_of_lt hk]
    by_cases e : i = k
    · subst e; simp
    · simp only [e, if_false]
      by_cases l : i < k
      · rw [if_pos l, if_pos (by omega)]
      · rw [if_neg l, if_neg (by omega)]
  · simp only [World.cell?_drew]
    rw [cell_set (cell_set (cell_set (h.places a ha)))]
    simp only [Addr.mk.injEq, and_true, true_and, hbc, false_and, if_false]
    rw [if_neg (by omega : ¬ 255 + a = k), Nat.mod_eq_of_lt hk, ← place_eq hk ha]
    by_cases e : a = pw k
    · subst e; simp
    · rw [if_neg (by omega), if_neg e]
  · simp only [World.cell?_drew]
    rw [cell_set (cell_set (cell_set hc)), if_pos rfl, next_pw hk]
theorem start {w : World} : FieldK (((w.alloc (.cells zeros 71)).alloc (.cells #[.pointer (some ⟨w.heap.size, 0, none⟩)] 26)).alloc (.cells #[.int .u8 1] 5)) w.heap.size 0 := by
  have key : ∀ i, i < 511 → (((w.alloc (.cells zeros 71)).alloc (.cells #[.pointer (some ⟨w.heap.size, 0, none⟩)] 26)).alloc (.cells #[.int .u8 1] 5)).cell? ⟨w.heap.size, i, none⟩ = some (.int .u8 0) := by
    intro i hi
    rw [World.cell?_alloc_past _ _ _ (by simp; omega), World.cell?_alloc_past _ _ _ (by simp), World.cell?_alloc_at _ _ _ _ rfl, zeros_at hi]
  exact ⟨fun i hi => by rw [key i (by omega)]; simp, fun a ha => by rw [key _ (by omega)]; simp⟩
theorem FieldK.whole {w : World} {b : Nat} (h : FieldK w b 255) (hb : b < w.heap.size) : FieldAt w b := by
  refine ⟨fun i hi => ?_, fun a ha => ?_, hb⟩
  · rw [h.powers i hi, if_pos hi]
  · rw [h.places a ha]
    by_cases e : a = 0
    · subst e; simp [lg_zero]
    · rw [if_pos ⟨e, lg_lt ha⟩]
set_option maxHeartbeats 1000000 in
set_option maxRecDepth 100000 in
theorem new_any (w : World) :
    Calls Tryz.prog 10 #[] w fun e w' => e = .returned (.pointer (some ⟨w.heap.size, 0, none⟩)) ∧ FieldAt w' w.heap.size ∧ Own w w' := by
  have hz := zero_field
  go_enter Tryz.func10, Tryz.ntmps10
  go_wp2
  clear hz
  go_loopw [8] (fun i wr => ∃ k : Nat, k ≤ 255 ∧ i = .int .i64 k ∧ FieldK wr w.heap.size k ∧ wr.cell? ⟨w.heap.size + 1, 0, none⟩ = some (.pointer (some ⟨w.heap.size, 0, none⟩)) ∧
      wr.cell? ⟨w.heap.size + 1 + 1, 0, none⟩ = some (.int .u8 (pw (k % 255) : Nat)) ∧ Own w wr ∧ w.heap.size + 2 < wr.heap.size)
    (fun i _ => 255 - (intOf i).toNat)
  case atStart =>
    refine ⟨0, by omega, rfl, start, ?_, ?_, (((Own.refl w).alloc _ _).alloc _ _).alloc _ _, by simp⟩
    · rw [World.cell?_alloc_past _ _ _ (by simp), World.cell?_alloc_at _ _ _ _ (by simp)]; rfl
    · rw [World.cell?_alloc_at _ _ _ _ (by simp)]; simp [pw_zero]
  case round =>
    obtain ⟨k, hk, rfl, hF, hf, hp, ho, hs⟩ := hrel
    by_cases hlt : k < 255
    · have fz : ∀ b o, w.heap.size ≤ b → wr.frozen? ⟨b, o, none⟩ = false := fun b o h => (ho.frozen _).trans (frozen_past h)
      obtain ⟨R1, R2⟩ := step hlt (by omega : w.heap.size ≠ w.heap.size + 1 + 1) hF hp
      have R := And.intro R1 R2
      have HR : Hid _ := R
      clear R R1 R2
      go_wp2_with (go_at_call 31; go_must (refine (put_any w.heap.size (w.heap.size + 1) (w.heap.size + 1 + 1) k (pw (k % 255)) wr hlt (pw_lt _) (by omega) (by omega) (by omega) hf hp (fz _ _ (by omega)) _ _ (hF.powers k hlt) (hF.places _ (pw_lt _)) (fz _ _ (by omega)) (fz _ _ (by omega))).mono ?_); rintro e w' ⟨rfl, rfl⟩)
      go_roundw
      case rel =>
        refine ⟨k + 1, by omega, by go_num, HR.out.1, ?_, HR.out.2, (((ho.setCell (p := ⟨w.heap.size, k, none⟩) (Nat.le_refl _) _).setCell (p := ⟨w.heap.size, 255 + pw (k % 255), none⟩) (Nat.le_refl _) _).setCell (p := ⟨w.heap.size + 1 + 1, 0, none⟩) (by show _ ≤ w.heap.size + 1 + 1; omega) _).drew.drew, ?_⟩
        · simp only [World.cell?_drew]
          rw [cell_set (cell_set (cell_set hf))]
          simp
        · simp; omega
      case measure => simp [intOf]; omega
    · have e : k = 255 := by omega
      subst e
      go_wp2
      go_ret
      exact ⟨rfl, hF.whole (by omega), ho⟩
end Go.Proofs.YtddnfhfangfgeaaGreat.Gf

namespace Go.Proofs.YtddnfhfangfgeaaGreat.Gf
set_option linter.unusedVariables false
set_option linter.unusedSimpArgs false
open Go.RowKit
def cellsP (pa pf : Option Addr) (g : GeoS) (st ep : Int) : Array Value := #[.pointer pa, .pointer pf, .int .i64 g.k, .int .i64 g.m, .int .i64 g.z, .int .i64 g.s, .int .i64 g.t, .int .i64 g.o, .int .i64 st, .int .i64 ep]
def aggP (pa pf : Option Addr) (g : GeoS) (st ep : Int) : Value := .agg (cellsP pa pf g st ep)
structure SpotAt (w : World) (b : Nat) (pa pf : Option Addr) (g : GeoS) (st ep : Int) : Prop where
  c0 : w.cell? ⟨b, 0, none⟩ = some (.pointer pa)
  c1 : w.cell? ⟨b, 1, none⟩ = some (.pointer pf)
  c2 : w.cell? ⟨b, 2, none⟩ = some (.int .i64 g.k)
  c3 : w.cell? ⟨b, 3, none⟩ = some (.int .i64 g.m)
  c4 : w.cell? ⟨b, 4, none⟩ = some (.int .i64 g.z)
  c5 : w.cell? ⟨b, 5, none⟩ = some (.int .i64 g.s)
  c6 : w.cell? ⟨b, 6, none⟩ = some (.int .i64 g.t)
  c7 : w.cell? ⟨b, 7, none⟩ = some (.int .i64 g.o)
  c8 : w.cell? ⟨b, 8, none⟩ = some (.int .i64 st)
  c9 : w.cell? ⟨b, 9, none⟩ = some (.int .i64 ep)
section
variable {w w' : World} {b : Nat} {pa pf : Option Addr} {g : GeoS} {st ep : Int}
theorem SpotAt.keep (h : SpotAt w b pa pf g st ep) (hc : ∀ j, w'.cell? ⟨b, j, none⟩ = w.cell? ⟨b, j, none⟩) : SpotAt w' b pa pf g st ep :=
  ⟨(hc 0).trans h.c0, (hc 1).trans h.c1, (hc 2).trans h.c2, (hc 3).trans h.c3, (hc 4).trans h.c4, (hc 5).trans h.c5, (hc 6).trans h.c6, (hc 7).trans h.c7, (hc 8).trans h.c8, (hc 9).trans h.c9⟩
theorem SpotAt.lt (h : SpotAt w b pa pf g st ep) : b < w.heap.size := World.block_lt_of_cell? w ⟨b, 0, none⟩ h.c0
theorem SpotAt.below (h : SpotAt w b pa pf g st ep) {B : Nat} (hb : b < B) (hw : Below B w w') : SpotAt w' b pa pf g st ep := h.keep fun j => hw.cell (p := ⟨b, j, none⟩) hb
theorem SpotAt.turn {G : Nat → Prop} (h : SpotAt w b pa pf g st ep) (hg : ¬ G b) (t : TurnG G w w') : SpotAt w' b pa pf g st ep := h.keep fun j => t.cell (p := ⟨b, j, none⟩) h.lt hg
theorem SpotAt.all (h : SpotAt w b pa pf g st ep) : w.cell? ⟨b, 0, none⟩ = some (.pointer pa) ∧ w.cell? ⟨b, 1, none⟩ = some (.pointer pf) ∧ w.cell? ⟨b, 2, none⟩ = some (.int .i64 g.k) ∧ w.cell? ⟨b, 3, none⟩ = some (.int .i64 g.m) ∧ w.cell? ⟨b, 4, none⟩ = some (.int .i64 g.z) ∧ w.cell? ⟨b, 5, none⟩ = some (.int .i64 g.s) ∧ w.cell? ⟨b, 6, none⟩ = some (.int .i64 g.t) ∧ w.cell? ⟨b, 7, none⟩ = some (.int .i64 g.o) ∧ w.cell? ⟨b, 8, none⟩ = some (.int .i64 st) ∧ w.cell? ⟨b, 9, none⟩ = some (.int .i64 ep) := ⟨h.c0, h.c1, h.c2, h.c3, h.c4, h.c5, h.c6, h.c7, h.c8, h.c9⟩
/-- one that was laid as a parameter -/
theorem spot_new (w : World) (pa pf : Option Addr) (g : GeoS) (st ep : Int) (e : Nat) : SpotAt (w.alloc (.cells (cellsP pa pf g st ep) e)) w.heap.size pa pf g st ep := by
  have cc : ∀ j, (w.alloc (.cells (cellsP pa pf g st ep) e)).cell? ⟨w.heap.size, j, none⟩ = (cellsP pa pf g st ep)[j]? := fun j => World.cell?_alloc_new _ _ _ _
  exact ⟨(cc 0).trans rfl, (cc 1).trans rfl, (cc 2).trans rfl, (cc 3).trans rfl, (cc 4).trans rfl, (cc 5).trans rfl, (cc 6).trans rfl, (cc 7).trans rfl, (cc 8).trans rfl, (cc 9).trans rfl⟩
theorem spot_laid (w : World) (pa pf : Option Addr) (g : GeoS) (st ep : Int) (e : Nat) : ∀ W, Below (w.alloc (.cells (cellsP pa pf g st ep) e)).heap.size (w.alloc (.cells (cellsP pa pf g st ep) e)) W → SpotAt W w.heap.size pa pf g st ep ∧ Below w.heap.size w W := fun W hW =>
  ⟨(spot_new w pa pf g st ep e).below (by simp) hW, (belL w _).trans (hW.mono (by simp))⟩
theorem FieldAt.turnG {G : Nat → Prop} {fb : Nat} (h : FieldAt w fb) (hg : ¬ G fb) (t : TurnG G w w') : FieldAt w' fb :=
  ⟨fun i hi => (t.cell (p := ⟨fb, i, none⟩) h.lt hg).trans (h.powers i hi), fun i hi => (t.cell (p := ⟨fb, 255 + i, none⟩) h.lt hg).trans (h.places i hi), Nat.lt_of_lt_of_le h.lt t.size⟩
theorem FieldAt.belowF {fb : Nat} (h : FieldAt w fb) (t : Below w.heap.size w w') : FieldAt w' fb := h.turnG (G := fun _ => False) (fun e => e) (Below.turnG t _)
end
end Go.Proofs.YtddnfhfangfgeaaGreat.Gf

namespace Go.Proofs.YtddnfhfangfgeaaGreat.Gf
set_option linter.unusedVariables false
set_option linter.unusedSimpArgs false
/-- s and r are the quotient and the rest of p and q, without noughts at their tops. -/
structure IsDiv (p q s r : List UInt8) : Prop where
  ns : norm s = s
  nr : norm r = r
  eqn : ∀ i, co p i = conv (co s) (co q) i ^^^ co r i
  less : r.length < (norm q).length
  ls : s.length ≤ p.length
  lr : r.length ≤ p.length
theorem norm_co {p q : List UInt8} (hp : norm p = p) (hq : norm q = q) (h : ∀ i, co p i = co q i) : p = q := by
  rw [← hp, ← hq]; exact mk_same (co_fin p) (co_fin q) h
theorem IsDiv.unique {p q s r s' r' : List UInt8} (h : IsDiv p q s r) (h' : IsDiv p q s' r') : s = s' ∧ r = r' := by
  have hq := h.less
  have hd : (norm q).length = deg (co q) q.length := mk_length _ _
  have hq1 : Fin0 (co q) ((norm q).length - 1 + 1) := by
    rw [show (norm q).length - 1 + 1 = (norm q).length by omega, hd]; exact deg_fin (co_fin q)
  have ht : co q ((norm q).length - 1) ≠ 0 := by rw [hd]; exact deg_top _ _ (by omega)
  obtain ⟨e1, e2⟩ := div_one (q := co q) (s := co s) (r := co r) (s' := co s') (r' := co r') (m := (norm q).length - 1) (n := p.length) hq1 ht
    ((co_fin s).mono h.ls) ((co_fin s').mono h'.ls) ((co_fin r).mono (by omega)) ((co_fin r').mono (by have := h'.less; omega))
    (fun i => by rw [← h.eqn i, ← h'.eqn i])
  exact ⟨norm_co h.ns h'.ns e1, norm_co h.nr h'.nr e2⟩
/-- Some steps are done: j are left. -/
structure DivInv (p q fs fr : Nat → UInt8) (n m j : Nat) : Prop where
  eqn : ∀ t, p t = conv fs q t ^^^ fr t
  top : Fin0 fr (j + (m - 1))
  low : ∀ t, t < j → fs t = 0
  fin : Fin0 fs n
theorem conv_set {fs fs' q : Nat → UInt8} {i : Nat} {c : UInt8} (h0 : fs i = 0) (h : ∀ t, fs' t = if t = i then c else fs t) (t : Nat) :
    conv fs' q t = conv fs q t ^^^ (if i ≤ t then mu c (q (t - i)) else 0) := by
  have e : ∀ j, fs' j = fs j ^^^ (if j = i then c else 0) := by
    intro j; rw [h]
    by_cases ej : j = i
    · subst ej; rw [if_pos rfl, if_pos rfl, h0, zero_x]
    · rw [if_neg ej, if_neg ej, x_zero]
  have e1 : conv fs' q t = conv fs q t ^^^ S (t + 1) (fun j => mu (if j = i then c else 0) (q (t - j))) := by
    unfold conv
    rw [← S_xor]
    exact S_congr fun j _ => by rw [e, xor_mu]
  rw [e1]
  congr 1
  by_cases hit : i ≤ t
  · rw [if_pos hit, S_one (k := i) (by omega) (fun j _ hj => by rw [if_neg hj, zero_mu])]
    rw [if_pos rfl]
  · rw [if_neg hit]
    exact S_zero fun j hj => by rw [if_neg (by omega), zero_mu]
/-- the rest, less the first k numbers of c times q, i places higher -/
def rk (fr q : Nat → UInt8) (c : UInt8) (i k t : Nat) : UInt8 := fr t ^^^ (if i ≤ t ∧ t < i + k then mu c (q (t - i)) else 0)
theorem DivInv.step {p q fs fs' fr : Nat → UInt8} {n m i : Nat} (h : DivInv p q fs fr n m (i + 1)) (hm : 0 < m) (hq : Fin0 q m) (ht : q (m - 1) ≠ 0) (hin : i < n)
    (hs : ∀ t, fs' t = if t = i then mu (fr (i + m - 1)) (iv (q (m - 1))) else fs t) : DivInv p q fs' (rk fr q (mu (fr (i + m - 1)) (iv (q (m - 1)))) i m) n m i := by
  have c0 := h.low i (by omega)
  refine ⟨fun t => ?_, fun t htt => ?_, fun t htt => ?_, fun t htt => ?_⟩
  · rw [h.eqn t, conv_set c0 hs t]
    unfold rk
    rw [x_assoc]
    congr 1
    by_cases hit : i ≤ t
    · rw [if_pos hit]
      by_cases h2 : t < i + m
      · rw [if_pos ⟨hit, h2⟩, x_left, x_self, x_zero]
      · rw [if_neg (by omega), hq (t - i) (by omega), mu_zero, zero_x, x_zero]
    · rw [if_neg hit, if_neg (by omega), zero_x, x_zero]
  · unfold rk
    by_cases e : t = i + (m - 1)
    · subst e
      rw [if_pos (by omega), show i + (m - 1) - i = m - 1 by omega, show i + m - 1 = i + (m - 1) by omega, mu_assoc, mu_comm (iv (q (m - 1))), mu_iv ht, mu_one, x_self]
    · rw [if_neg (by omega), x_zero]
      exact h.top t (by omega)
  · rw [hs, if_neg (by omega)]; exact h.low t (by omega)
  · rw [hs, if_neg (by omega)]; exact h.fin t htt
theorem DivInv.start {p q : Nat → UInt8} {n m : Nat} (hp : Fin0 p n) (j : Nat) (hj : n ≤ j + (m - 1)) : DivInv p q (fun _ => 0) p n m j :=
  ⟨fun t => by rw [conv_comm, conv_zero (fun _ => rfl), zero_x], hp.mono hj, fun _ _ => rfl, fun _ _ => rfl⟩
theorem div_done {p q : List UInt8} {fs fr : Nat → UInt8} {n m : Nat} (h : DivInv (co p) (co q) fs fr n m 0) (hm : (norm q).length = m) (hm0 : 0 < m) (hn : n ≤ p.length) (hfr : Fin0 fr n) : IsDiv p q (mk fs n) (mk fr n) := by
  refine ⟨norm_mk h.fin, norm_mk hfr, fun i => ?_, ?_, ?_, ?_⟩
  · rw [co_mk h.fin, co_mk hfr]; exact h.eqn i
  · rw [mk_length, hm]
    have : deg fr n ≤ m - 1 := by
      have ht := h.top
      rw [Nat.zero_add] at ht
      by_cases e : deg fr n ≤ m - 1
      · exact e
      · exact absurd (ht (deg fr n - 1) (by omega)) (deg_top fr n (by omega))
    omega
  · rw [mk_length]; have := deg_le fs n; omega
  · rw [mk_length]; have := deg_le fr n; omega
end Go.Proofs.YtddnfhfangfgeaaGreat.Gf

namespace Go.Proofs.YtddnfhfangfgeaaGreat.Gf
set_option linter.unusedVariables false
set_option linter.unusedSimpArgs false
open Go.RowKit
def Makes (w : World) (p : List UInt8) (e : Ending) (w' : World) : Prop := ∃ v, e = .returned v ∧ Rd w' v p ∧ Below w.heap.size w w'
def MakesDiv (w : World) (p q : List UInt8) (e : Ending) (w' : World) : Prop := ∃ vs vr s r, e = .returned (.tuple #[vs, vr, .int .i64 0]) ∧ IsDiv p q s r ∧ Rd w' vs s ∧ Rd w' vr r ∧ Below w.heap.size w w'
/-- a slice that lies in memory laid behind N (or has no memory) -/
def Far (N : Nat) (v : Value) : Prop := ∀ x n c, v = .slice (some x) n c → N ≤ x.block
theorem far_none {N n c : Nat} : Far N (.slice none n c) := fun _ _ _ h => by simp at h
theorem far_some {N : Nat} {x : Addr} {n c : Nat} (h : N ≤ x.block) : Far N (.slice (some x) n c) := fun _ _ _ e => by simp at e; rw [← e.1]; exact h
theorem Far.mono {N M : Nat} {v : Value} (h : Far N v) (k : M ≤ N) : Far M v := fun x n c e => Nat.le_trans k (h x n c e)
/-- the same, and where it lies -/
def MakesF (w : World) (p : List UInt8) (e : Ending) (w' : World) : Prop := ∃ v, e = .returned v ∧ Rd w' v p ∧ Below w.heap.size w w' ∧ Far w.heap.size v
theorem MakesF.plain {w : World} {p : List UInt8} {e : Ending} {w' : World} (h : MakesF w p e w') : Makes w p e w' := by
  obtain ⟨v, a, b, c, _⟩ := h
  exact ⟨v, a, b, c⟩
def MakesDivF (w : World) (p q : List UInt8) (e : Ending) (w' : World) : Prop := ∃ vs vr s r, e = .returned (.tuple #[vs, vr, .int .i64 0]) ∧ IsDiv p q s r ∧ Rd w' vs s ∧ Rd w' vr r ∧ Below w.heap.size w w' ∧ Far w.heap.size vs ∧ Far w.heap.size vr
theorem MakesDivF.plain {w : World} {p q : List UInt8} {e : Ending} {w' : World} (h : MakesDivF w p q e w') : MakesDiv w p q e w' := by
  obtain ⟨vs, vr, s, r, a, b, c, d, f, _⟩ := h
  exact ⟨vs, vr, s, r, a, b, c, d, f⟩
theorem FieldAt.below {w w' : World} {b : Nat} (h : FieldAt w b) (o : Below w.heap.size w w') : FieldAt w' b :=
  ⟨fun i hi => (o.cell (p := ⟨b, i, none⟩) h.lt).trans (h.powers i hi), fun i hi => (o.cell (p := ⟨b, 255 + i, none⟩) h.lt).trans (h.places i hi), Nat.lt_of_lt_of_le h.lt o.size⟩
theorem Below.next {w w1 w2 : World} (h : Below w.heap.size w w1) (k : Below w1.heap.size w1 w2) : Below w.heap.size w w2 := h.trans (k.mono h.size)
theorem Below.draws {w w1 : World} (h : Below w.heap.size w w1) (n : Nat) : Below w.heap.size w (w1.drewN n) := h.trans ⟨rfl, rfl, rfl, Nat.le_refl _, fun _ _ => rfl⟩
theorem below_draws (w : World) (n : Nat) : Below w.heap.size w (w.drewN n) := ⟨rfl, rfl, rfl, Nat.le_refl _, fun _ _ => rfl⟩
end Go.Proofs.YtddnfhfangfgeaaGreat.Gf

namespace Go.Proofs.YtddnfhfangfgeaaGreat.Gf
set_option linter.unusedVariables false
set_option linter.unusedSimpArgs false
open Go.RowKit
theorem FieldAt.only {g b : Nat} {w w' : World} (h : FieldAt w b) (hb : b ≠ g) (o : Only g w w') : FieldAt w' b :=
  ⟨fun i hi => (o.cell (p := ⟨b, i, none⟩) hb).trans (h.powers i hi), fun i hi => (o.cell (p := ⟨b, 255 + i, none⟩) hb).trans (h.places i hi), by rw [o.size]; exact h.lt⟩
end Go.Proofs.YtddnfhfangfgeaaGreat.Gf

namespace Go.Proofs.YtddnfhfangfgeaaGreat.Gf
set_option linter.unusedVariables false
set_option linter.unusedSimpArgs false
theorem S_swap (n m : Nat) (F : Nat → Nat → UInt8) : S n (fun i => S m (fun j => F i j)) = S m (fun j => S n (fun i => F i j)) := by
  induction n with
  | zero => rw [S]; exact (S_zero fun _ _ => rfl).symm
  | succ n ih =>
    rw [S, ih, ← S_xor]
    exact S_congr fun j _ => rfl
abbrev Mx := Nat → Nat → UInt8
def one : Mx := fun i j => if i = j then 1 else 0
/-- rows change places -/
def sw (p c i : Nat) : Nat := if i = p then c else if i = c then p else i
end Go.Proofs.YtddnfhfangfgeaaGreat.Gf

namespace Go.Proofs.YtddnfhfangfgeaaGreat.Gf
set_option linter.unusedVariables false
set_option linter.unusedSimpArgs false
open Go.RowKit
/-- The numbers of r rows and c columns, one row behind the other. -/
def flat (r c : Nat) (F : Mx) : List UInt8 := upto (fun t => F (t / c) (t % c)) (r * c)
/-- .. and back: the number of a row and a column -/
def en (c : Nat) (A : List UInt8) : Mx := fun i j => co A (i * c + j)
theorem flat_length (r c : Nat) (F : Mx) : (flat r c F).length = r * c := upto_length _ _
theorem place_lt {r c i j : Nat} (hi : i < r) (hj : j < c) : i * c + j < r * c := by
  have : (i + 1) * c ≤ r * c := Nat.mul_le_mul_right c hi
  rw [Nat.add_mul, Nat.one_mul] at this
  omega
theorem place_div {c i j : Nat} (hj : j < c) : (i * c + j) / c = i := by
  rw [Nat.add_comm, Nat.add_mul_div_right _ _ (by omega), Nat.div_eq_of_lt hj, Nat.zero_add]
theorem place_mod {c i j : Nat} (hj : j < c) : (i * c + j) % c = j := by
  rw [Nat.add_comm, Nat.add_mul_mod_self_right, Nat.mod_eq_of_lt hj]
theorem en_flat {r c : Nat} (F : Mx) {i j : Nat} (hi : i < r) (hj : j < c) : en c (flat r c F) i j = F i j := by
  unfold en flat
  rw [upto, co_map_range _ (place_lt hi hj), place_div hj, place_mod hj]
/-- What 'make' lays: a row of noughts. -/
theorem RowF.laid (w : World) {base e n : Nat} (hb : base ≤ w.heap.size) (hn : n ≤ 1000000) : RowF (w.alloc (.cells (madeCells #[.int .u8 0] n) e)) base e w.heap.size n n (fun _ => 0) := by
  have h := World.ownsRow_lit w (size := 1) (e := e) (madeCells #[.int .u8 0] n) n (Nat.le_refl _) (by unfold maxLen; omega) (by rw [← Array.length_toList, toList_madeCells_one]; simp)
  unfold RowF
  rw [upto_zeros]
  rw [toList_madeCells_one] at h
  exact ownsRow_base h hb
theorem Rd.as {w : World} {v : Value} {p q : List UInt8} (h : Rd w v p) (e : p = q) : Rd w v q := e ▸ h
theorem mul_small {r c : Nat} (hr : r ≤ 256) (hc : c ≤ 256) : r * c ≤ 65536 := Nat.le_trans (Nat.mul_le_mul hr hc) (by decide)
/-- A variable of a matrix' type: its three cells. -/
structure Box (w : World) (b : Nat) (r c : Int) (vs : Value) : Prop where
  c0 : w.cell? ⟨b, 0, none⟩ = some (.int .i64 r)
  c1 : w.cell? ⟨b, 1, none⟩ = some (.int .i64 c)
  c2 : w.cell? ⟨b, 2, none⟩ = some vs
theorem Box.only {g b : Nat} {w w' : World} {r c : Int} {vs : Value} (h : Box w b r c vs) (hb : b ≠ g) (o : Only g w w') : Box w' b r c vs :=
  ⟨(o.cell (p := ⟨b, 0, none⟩) hb).trans h.c0, (o.cell (p := ⟨b, 1, none⟩) hb).trans h.c1, (o.cell (p := ⟨b, 2, none⟩) hb).trans h.c2⟩
theorem Box.below {B b : Nat} {w w' : World} {r c : Int} {vs : Value} (h : Box w b r c vs) (hb : b < B) (o : Below B w w') : Box w' b r c vs :=
  ⟨(o.cell (p := ⟨b, 0, none⟩) hb).trans h.c0, (o.cell (p := ⟨b, 1, none⟩) hb).trans h.c1, (o.cell (p := ⟨b, 2, none⟩) hb).trans h.c2⟩
/-- .. that may be written -/
structure Free (w : World) (b : Nat) : Prop where
  f0 : w.frozen? ⟨b, 0, none⟩ = false
  f1 : w.frozen? ⟨b, 1, none⟩ = false
  f2 : w.frozen? ⟨b, 2, none⟩ = false
theorem Free.only {g b : Nat} {w w' : World} (h : Free w b) (hb : b ≠ g) (o : Only g w w') : Free w' b :=
  ⟨(o.frozen (p := ⟨b, 0, none⟩) hb).trans h.f0, (o.frozen (p := ⟨b, 1, none⟩) hb).trans h.f1, (o.frozen (p := ⟨b, 2, none⟩) hb).trans h.f2⟩
theorem Free.below {B b : Nat} {w w' : World} (h : Free w b) (hb : b < B) (o : Below B w w') : Free w' b :=
  ⟨(o.frozen (p := ⟨b, 0, none⟩) hb).trans h.f0, (o.frozen (p := ⟨b, 1, none⟩) hb).trans h.f1, (o.frozen (p := ⟨b, 2, none⟩) hb).trans h.f2⟩
theorem Below.box {B b : Nat} {w w' : World} {r c : Int} {vs : Value} (o : Below B w w') (hb : b < B) (h : Box w b r c vs) : Box w' b r c vs := h.below hb o
theorem Below.free {B b : Nat} {w w' : World} (o : Below B w w') (hb : b < B) (h : Free w b) : Free w' b := h.below hb o
theorem Box.new (w : World) (r c : Int) (vs : Value) (t : TypeId) : Box (w.alloc (.cells #[.int .i64 r, .int .i64 c, vs] t)) w.heap.size r c vs := ⟨by simp, by simp, by simp⟩
theorem Free.new (w : World) (cs : Array Value) (t : TypeId) : Free (w.alloc (.cells cs t)) w.heap.size := ⟨World.frozen?_alloc_at cs t _ _ rfl, World.frozen?_alloc_at cs t _ _ rfl, World.frozen?_alloc_at cs t _ _ rfl⟩
theorem Box.alloc {w : World} {b : Nat} {r c : Int} {vs : Value} (h : Box w b r c vs) (hb : b < w.heap.size) (o : Obj) : Box (w.alloc o) b r c vs := h.below hb ((Below.refl _ _).alloc (Nat.le_refl _) _)
theorem Free.alloc {w : World} {b : Nat} (h : Free w b) (hb : b < w.heap.size) (o : Obj) : Free (w.alloc o) b := h.below hb ((Below.refl _ _).alloc (Nat.le_refl _) _)
/-- The first T numbers of a matrix, row by row. -/
def pf (F : Mx) (c T t : Nat) : UInt8 := if t < T then F (t / c) (t % c) else 0
theorem Box.grown {w w' : World} {b : Nat} {r c : Int} {vs : Value} {row : Option Nat} (h : Box w b r c vs) (hg : w.grownBy w' row) (hb : b < w.heap.size) (hne : some b ≠ row) : Box w' b r c vs :=
  ⟨(hg.cell_far ⟨b, 0, none⟩ hb hne).trans h.c0, (hg.cell_far ⟨b, 1, none⟩ hb hne).trans h.c1, (hg.cell_far ⟨b, 2, none⟩ hb hne).trans h.c2⟩
theorem Free.grown {w w' : World} {b : Nat} {row : Option Nat} (h : Free w b) (hg : w.grownBy w' row) (hb : b < w.heap.size) (hne : some b ≠ row) : Free w' b :=
  ⟨(hg.frozen_far ⟨b, 0, none⟩ hb hne).trans h.f0, (hg.frozen_far ⟨b, 1, none⟩ hb hne).trans h.f1, (hg.frozen_far ⟨b, 2, none⟩ hb hne).trans h.f2⟩
theorem Box.drew {w : World} {b : Nat} {r c : Int} {vs : Value} (h : Box w b r c vs) : Box w.drew b r c vs := ⟨h.c0, h.c1, h.c2⟩
theorem Box.drewN {w : World} {b : Nat} {r c : Int} {vs : Value} (h : Box w b r c vs) (n : Nat) : Box (w.drewN n) b r c vs := ⟨h.c0, h.c1, h.c2⟩
theorem Free.drewN {w : World} {b : Nat} (h : Free w b) (n : Nat) : Free (w.drewN n) b := ⟨h.f0, h.f1, h.f2⟩
theorem Free.drew {w : World} {b : Nat} (h : Free w b) : Free w.drew b := ⟨h.f0, h.f1, h.f2⟩
theorem Rd.somewhere {w : World} {v : Value} {p : List UInt8} (h : Rd w v p) (hp : p ≠ []) : ∃ b off cap, v = .slice (some ⟨b, off, none⟩) p.length cap := by
  rcases h with ⟨a, c, e, _⟩ | ⟨b, off, cap, _, e, _⟩
  · exact absurd e hp
  · exact ⟨b, off, cap, e⟩
theorem Rd.cellAt {w : World} {b off n cap : Nat} {p : List UInt8} (h : Rd w (.slice (some ⟨b, off, none⟩) n cap) p) {i : Nat} (hi : i < p.length) : w.cell? ⟨b, off + i, none⟩ = some (.int .u8 ((co p i).toNat : Nat)) := by
  rcases h with ⟨a, c, e, _⟩ | ⟨b', off', cap', _, e, _, _, _, hc⟩
  · subst e; simp at hi
  · simp at e; obtain ⟨⟨rfl, rfl⟩, _⟩ := e; exact hc i hi
theorem Free.setCell {w : World} {b : Nat} (h : Free w b) (a : Addr) (u : Value) : Free (w.setCell a u) b := ⟨by simp [h.f0], by simp [h.f1], by simp [h.f2]⟩
/-- What a call that answers a matrix leaves. -/
def MakesM (w : World) (r c : Nat) (F : Mx) (e : Ending) (w' : World) : Prop := ∃ vs, e = .returned (.tuple #[.agg #[.int .i64 (r : Int), .int .i64 (c : Int), vs], .int .i64 0]) ∧ Rd w' vs (flat r c F) ∧ Below w.heap.size w w'
end Go.Proofs.YtddnfhfangfgeaaGreat.Gf

namespace Go.Proofs.YtddnfhfangfgeaaGreat.Gf
set_option linter.unusedVariables false
set_option linter.unusedSimpArgs false
open Go.RowKit
theorem Box.turn {g b : Nat} {w w' : World} {r c : Int} {vs : Value} (h : Box w b r c vs) (hs : b < w.heap.size) (hb : b ≠ g) (o : Turn g w w') : Box w' b r c vs :=
  ⟨(o.cell (p := ⟨b, 0, none⟩) hs hb).trans h.c0, (o.cell (p := ⟨b, 1, none⟩) hs hb).trans h.c1, (o.cell (p := ⟨b, 2, none⟩) hs hb).trans h.c2⟩
theorem Free.turn {g b : Nat} {w w' : World} (h : Free w b) (hs : b < w.heap.size) (hb : b ≠ g) (o : Turn g w w') : Free w' b :=
  ⟨(o.frozen (p := ⟨b, 0, none⟩) hs hb).trans h.f0, (o.frozen (p := ⟨b, 1, none⟩) hs hb).trans h.f1, (o.frozen (p := ⟨b, 2, none⟩) hs hb).trans h.f2⟩
theorem FieldAt.turn {g b : Nat} {w w' : World} (h : FieldAt w b) (hb : b ≠ g) (o : Turn g w w') : FieldAt w' b :=
  ⟨fun i hi => (o.cell (p := ⟨b, i, none⟩) h.lt hb).trans (h.powers i hi), fun i hi => (o.cell (p := ⟨b, 255 + i, none⟩) h.lt hb).trans (h.places i hi), Nat.lt_of_lt_of_le h.lt o.size⟩
theorem RdI.turn {g : Nat} {w w' : World} {v : Value} {zs : List Int} (h : RdI w v zs) (ha : Apart g v) (ho : Turn g w w') : RdI w' v zs := by
  rcases h with h | ⟨b, off, cap, h1, h2, h3, h5, h6⟩
  · exact Or.inl h
  · have hb : b ≠ g := by
      rcases ha _ _ _ h2 with e | e
      · exact absurd (List.length_eq_zero_iff.1 e) h1
      · exact e
    exact Or.inr ⟨b, off, cap, h1, h2, h3, Nat.lt_of_lt_of_le h5 ho.size, fun i hi => (ho.cell (p := ⟨b, off + i, none⟩) h5 hb).trans (h6 i hi)⟩
theorem RdI.apart {w : World} {v : Value} {zs : List Int} {g : Nat} (h : RdI w v zs) (hg : w.heap.size ≤ g) : Apart g v := by
  intro x n c e
  rcases h with ⟨a, c', _, e2⟩ | ⟨b, off, cap, h1, h2, h3, h5, h6⟩
  · subst e2; simp at e; exact Or.inl e.2.1.symm
  · subst h2; simp at e; obtain ⟨rfl, rfl, rfl⟩ := e; exact Or.inr (by show b ≠ g; omega)
/-- the numbers of a matrix, one row behind the other -/
def pl (c : Nat) (F : Mx) (t : Nat) : UInt8 := F (t / c) (t % c)
theorem pl_flat (r c : Nat) (F : Mx) : upto (pl c F) (r * c) = flat r c F := rfl
theorem pl_congr {r c : Nat} {F G : Mx} (h : ∀ i j, i < r → j < c → F i j = G i j) : ∀ t, t < r * c → pl c F t = pl c G t := by
  intro t ht
  have hc : 0 < c := by
    rcases Nat.eq_zero_or_pos c with e | e
    · rw [e, Nat.mul_zero] at ht; omega
    · exact e
  exact h _ _ ((Nat.div_lt_iff_lt_mul hc).2 ht) (Nat.mod_lt _ hc)
theorem row_iff {c i t : Nat} (hc : 0 < c) : (i * c ≤ t ∧ t < i * c + c) ↔ t / c = i := by
  constructor
  · rintro ⟨h1, h2⟩
    obtain ⟨j, rfl⟩ := Nat.exists_eq_add_of_le h1
    exact place_div (by omega)
  · rintro rfl
    have h1 := Nat.div_add_mod t c
    have h2 := Nat.mod_lt t hc
    rw [Nat.mul_comm] at h1
    omega
end Go.Proofs.YtddnfhfangfgeaaGreat.Gf

namespace Go.Proofs.YtddnfhfangfgeaaGreat.Gf
set_option linter.unusedVariables false
set_option linter.unusedSimpArgs false
open Go.RowKit
theorem owns_form {w : World} {base e n : Nat} {v : Value} {xs : List Value} (h : w.ownsRow base e 1 v n xs) : ∃ a c, v = .slice a n c := by
  obtain ⟨_, ⟨hv, hn⟩ | ⟨g, cap, cur, hv, _⟩⟩ := h
  · subst hn; exact ⟨_, _, hv⟩
  · exact ⟨_, _, hv⟩
end Go.Proofs.YtddnfhfangfgeaaGreat.Gf

namespace Go.Proofs.YtddnfhfangfgeaaGreat.Gf
set_option linter.unusedVariables false
set_option linter.unusedSimpArgs false
open Go.RowKit
/-- 'append(s, p...)', s a row of bytes of the call's own, p whatever slice of bytes: and where the row lies then. -/
theorem run_append_rd2 {P : Program} (w : World) (t ty : TypeId) (base : Nat) (e : TypeId) (i : TypeInfo) (ht : P.underlying t = some (.slice e)) (hi : P.info? e = some i) (hz : i.zero = some (.int .u8 0)) (hsize : i.size = 1) (hby : i.bytes = 1)
    (v : Value) (n : Nat) (xs : List Value) (hown : w.ownsRow base e 1 v n xs) (va : Value) (p : List UInt8) (hr : Rd w va p) (hl : n + p.length ≤ 1000000) (hbase : base ≤ w.heap.size) :
    ∃ v' w', (Builtin.append_ #[t, t] ty #[v, va]).run P w = .ok v' w' ∧ w'.ownsRow base e 1 v' (n + p.length) (xs ++ p.map vb) ∧ w.grownBy w' v.ownBlock ∧ (v'.ownBlock = v.ownBlock ∨ v'.ownBlock = some w.heap.size) := by
  rcases hr with ⟨ao, cap, rfl, rfl, hc, hn⟩ | ⟨b, off, cap, hp0, rfl, h1, h2, h3, hpc⟩
  · rcases ao with _ | ad
    · have := hn rfl
      subst this
      exact ⟨v, w, run_append_owned_none (P := P) (w := w) base t ty e i 1 ht hi v n xs hown, by simpa using hown, World.grownBy.refl _ _, Or.inl rfl⟩
    · obtain ⟨v', w', hr, h2, h3, _, h5⟩ := run_append_own_at (P := P) w base t ty e i (.int .u8 0) 1 1 ht hi hz hsize hby rfl (by decide) v n xs hown ad 0 cap [] rfl (by intro j u hj; simp at hj) (by intro u hu; simp at hu) (by unfold maxLen; omega) (by omega) hbase
      exact ⟨v', w', hr, by simpa using h2, h3, h5⟩
  · obtain ⟨v', w', hr, h2, h3, _, h5⟩ := run_append_own_at (P := P) w base t ty e i (.int .u8 0) 1 1 ht hi hz hsize hby rfl (by decide) v n xs hown ⟨b, off, none⟩ p.length cap ((p.take p.length).map vb) (by simp) (news_of hpc) (vb_one _) (by unfold maxLen; omega) (by omega) hbase
    exact ⟨v', w', hr, by simpa using h2, h3, h5⟩
theorem wpList_append_rd2 {P : Program} (w : World) {ops : Array Oper} {rest : List Oper} {o : Oper} {a : Act} {Q : Exit → Act → World → Prop} (hgd : o.guard = none) (s x : Operand) (t : TypeId)
    (ho : o.op = .call { callee := .builtin .append, args := #[s, x], argTypes := #[t, t] })
    (base : Nat) (e : TypeId) (i : TypeInfo) (ht : P.underlying t = some (.slice e)) (hi : P.info? e = some i) (hz : i.zero = some (.int .u8 0)) (hsize : i.size = 1) (hby : i.bytes = 1)
    (v : Value) (n : Nat) (xs : List Value) (hs : a.eval s = v) (hown : w.ownsRow base e 1 v n xs) (va : Value) (p : List UInt8) (hx : a.eval x = va) (hr : Rd w va p) (hl : n + p.length ≤ 1000000) (hbase : base ≤ w.heap.size)
    (h : ∀ v' w', w'.ownsRow base e 1 v' (n + p.length) (xs ++ p.map vb) → w.grownBy w' v.ownBlock → (v'.ownBlock = v.ownBlock ∨ v'.ownBlock = some w.heap.size) → wpList P ops Q rest (a.put o.dst v') w') : wpList P ops Q (o :: rest) a w := by
  refine wpList_plain hgd fun K hK => ?_
  obtain ⟨v', w', hrun, h2, h3, h4⟩ := run_append_rd2 w t o.type base e i ht hi hz hsize hby v n xs hown va p hr hl hbase
  unfold Oper.wp execOp
  simp only [ho, resolve, invoke, builtin, Sem.run_bind, Sem.run_pure, Result.andThen_ok, List.map_toArray, List.map_cons, List.map_nil, hs, hx, hrun]
  exact hK _ _ (h v' w' h2 h3 h4)
/-- 'append(s, x)' on a row of slices of the call's own, x one slice, laid as a list of one. -/
theorem wpList_append_one {P : Program} (w : World) {ops : Array Oper} {rest : List Oper} {o : Oper} {a : Act} {Q : Exit → Act → World → Prop} (hgd : o.guard = none) (s x : Operand) (t : TypeId)
    (ho : o.op = .call { callee := .builtin .append, args := #[s, x], argTypes := #[t, t] })
    (base : Nat) (e : TypeId) (i : TypeInfo) (ht : P.underlying t = some (.slice e)) (hi : P.info? e = some i) (hz : i.zero = some (.slice none 0 0)) (hsize : i.size = 1) (hby : i.bytes = 24)
    (v : Value) (n : Nat) (xs : List Value) (hs : a.eval s = v) (hown : w.ownsRow base e 1 v n xs) (b c : Nat) (u : Value) (hx : a.eval x = .slice (some ⟨b, 0, none⟩) 1 c) (hr : w.cell? ⟨b, 0, none⟩ = some u) (hu : u.oneCell' = true) (hl : n ≤ 100000) (hbase : base ≤ w.heap.size)
    (h : ∀ v' w', w'.ownsRow base e 1 v' (n + 1) (xs ++ [u]) → w.grownBy w' v.ownBlock → (v'.ownBlock = v.ownBlock ∨ v'.ownBlock = some w.heap.size) → wpList P ops Q rest (a.put o.dst v') w') : wpList P ops Q (o :: rest) a w := by
  refine wpList_plain hgd fun K hK => ?_
  obtain ⟨v', w', hrun, h2, h3, _, h5⟩ := run_append_own_at (P := P) w base t o.type e i (.slice none 0 0) 1 24 ht hi hz hsize hby rfl (by decide) v n xs hown ⟨b, 0, none⟩ 1 c [u] rfl (by intro j y hj; rw [add_at, Nat.zero_add]; rcases j with _ | j <;> simp at hj; subst hj; exact hr) (by intro y hy; simp at hy; rw [hy]; exact hu) (by unfold maxLen; omega) (by omega) hbase
  unfold Oper.wp execOp
  simp only [ho, resolve, invoke, builtin, Sem.run_bind, Sem.run_pure, Result.andThen_ok, List.map_toArray, List.map_cons, List.map_nil, hs, hx, hrun]
  exact hK _ _ (h v' w' h2 h3 h5)
def OwnP (w : World) (base u : Nat) (x : Value) (p : List UInt8) : Prop := w.ownsRow base u 1 x p.length (p.map vb)
theorem OwnP.kept {w w' : World} {base u : Nat} {x : Value} {p : List UInt8} (h : OwnP w base u x p) {r : Option Nat} (hg : w.grownBy w' r) (hne : x.ownBlock = none ∨ x.ownBlock ≠ r) : OwnP w' base u x p := World.ownsRow.kept h hg hne
theorem OwnP.alloc {w : World} {base u : Nat} {x : Value} {p : List UInt8} (h : OwnP w base u x p) (o : Obj) : OwnP (w.alloc o) base u x p := World.ownsRow.alloc h o
theorem OwnP.one {w : World} {base u : Nat} {x : Value} {p : List UInt8} (h : OwnP w base u x p) : x.oneCell' = true := by
  obtain ⟨a, c, rfl⟩ := owns_form h
  rfl
theorem OwnP.lt {w : World} {base u : Nat} {x : Value} {p : List UInt8} (h : OwnP w base u x p) {k : Nat} (hk : x.ownBlock = some k) : base ≤ k ∧ k < w.heap.size := World.ownsRow.lt h k hk
/-- rows of the call's own in a row of slices of its own -/
structure RowsO (w : World) (base u : Nat) (v : Value) (vals : List Value) (row : Nat → List UInt8) : Prop where
  own : ∀ (i : Nat) (x : Value), vals[i]? = some x → OwnP w base u x (row i)
  diff : ∀ (i j : Nat) (x y : Value), vals[i]? = some x → vals[j]? = some y → i ≠ j → x.ownBlock = none ∨ x.ownBlock ≠ y.ownBlock
  out : ∀ (i : Nat) (x : Value), vals[i]? = some x → x.ownBlock = none ∨ x.ownBlock ≠ v.ownBlock
theorem RowsO.nil (w : World) (base u : Nat) (v : Value) (row : Nat → List UInt8) : RowsO w base u v [] row :=
  ⟨fun i x h => by simp at h, fun i j x y h => by simp at h, fun i x h => by simp at h⟩
theorem block_apart {x : Value} {s : Nat} {r : Option Nat} (h : ∀ k, x.ownBlock = some k → k < s) (hr : ∀ k, r = some k → s ≤ k) : x.ownBlock = none ∨ x.ownBlock ≠ r := by
  cases hx : x.ownBlock with
  | none => exact Or.inl rfl
  | some k =>
    refine Or.inr fun e => ?_
    have h1 := h k hx
    have h2 := hr k e.symm
    omega
theorem block_apart' {x : Value} {s : Nat} {r : Option Nat} (h : ∀ k, x.ownBlock = some k → s ≤ k) (hr : ∀ k, r = some k → k < s) : x.ownBlock = none ∨ x.ownBlock ≠ r := by
  cases hx : x.ownBlock with
  | none => exact Or.inl rfl
  | some k =>
    refine Or.inr fun e => ?_
    have h1 := h k hx
    have h2 := hr k e.symm
    omega
/-- one row more: laid in a block of its own, then appended -/
theorem RowsO.push {wr w1 w2 : World} {base u bt : Nat} {v v' x : Value} {vals : List Value} {row : Nat → List UInt8} {o o' : Obj} (h : RowsO wr base u v vals row) (hv : wr.ownsRow base bt 1 v vals.length vals)
    (g1 : (wr.alloc o).grownBy w1 (some wr.heap.size)) (hx : OwnP w1 base u x (row vals.length)) (hb1 : ∀ k, x.ownBlock = some k → wr.heap.size ≤ k)
    (g2 : (w1.alloc o').grownBy w2 v.ownBlock) (hb2 : v'.ownBlock = v.ownBlock ∨ v'.ownBlock = some (w1.alloc o').heap.size) : RowsO w2 base u v' (vals ++ [x]) row := by
  have s1 : wr.heap.size + 1 ≤ w1.heap.size := by have := g1.size; simpa using this
  have old : ∀ (i : Nat) (y : Value), vals[i]? = some y → ∀ k, y.ownBlock = some k → k < wr.heap.size := fun i y hy k hk => ((h.own i y hy).lt hk).2
  have vlt : ∀ k, v.ownBlock = some k → k < wr.heap.size := fun k hk => (World.ownsRow.lt hv k hk).2
  have xlt : ∀ k, x.ownBlock = some k → k < w1.heap.size := fun k hk => (hx.lt hk).2
  have keep : ∀ i y, vals[i]? = some y → OwnP w2 base u y (row i) := fun i y hy =>
    ((((h.own i y hy).alloc o).kept g1 (block_apart (old i y hy) (fun k e => by cases e; exact Nat.le_refl _))).alloc o').kept g2 (h.out i y hy)
  have xkeep : OwnP w2 base u x (row vals.length) := (hx.alloc o').kept g2 (block_apart' hb1 vlt)
  have at_end : ∀ i y, (vals ++ [x])[i]? = some y → (vals[i]? = some y ∧ i < vals.length) ∨ (i = vals.length ∧ y = x) := fun i y hy => by
    by_cases hi : i < vals.length
    · rw [List.getElem?_append_left hi] at hy; exact Or.inl ⟨hy, hi⟩
    · rw [List.getElem?_append_right (by omega)] at hy
      have : i - vals.length = 0 := by
        rcases Nat.eq_zero_or_pos (i - vals.length) with e | e
        · exact e
        · rw [List.getElem?_eq_none (by simp; omega)] at hy; cases hy
      rw [this] at hy
      simp at hy
      exact Or.inr ⟨by omega, hy.symm⟩
  have vout : ∀ y : Value, (∀ k, y.ownBlock = some k → k < w1.heap.size) → (y.ownBlock = none ∨ y.ownBlock ≠ v.ownBlock) → (y.ownBlock = none ∨ y.ownBlock ≠ v'.ownBlock) := fun y hy ho => by
    rcases hb2 with e | e
    · rw [e]; exact ho
    · refine block_apart hy (fun k hk => ?_)
      rw [e] at hk; simp at hk; omega
  refine ⟨fun i y hy => ?_, fun i j y z hy hz hij => ?_, fun i y hy => ?_⟩
  · rcases at_end i y hy with ⟨e, _⟩ | ⟨rfl, rfl⟩
    · exact keep i y e
    · exact xkeep
  · rcases at_end i y hy with ⟨e, _⟩ | ⟨rfl, rfl⟩
    · rcases at_end j z hz with ⟨e', _⟩ | ⟨rfl, rfl⟩
      · exact h.diff i j y z e e' hij
      · exact block_apart (old i y e) hb1
    · rcases at_end j z hz with ⟨e', _⟩ | ⟨rfl, rfl⟩
      · exact block_apart' hb1 (old j z e')
      · exact absurd rfl hij
  · rcases at_end i y hy with ⟨e, _⟩ | ⟨rfl, rfl⟩
    · exact vout y (fun k hk => by have := old i y e k hk; omega) (h.out i y e)
    · exact vout y xlt (block_apart' hb1 vlt)
/-- one row, told anew by an append, and stored back -/
theorem RowsO.put {wr w6 w7 : World} {base u bt G n C k : Nat} {x x' : Value} {vals : List Value} {row row' : Nat → List UInt8} (h : RowsO wr base u (.slice (some ⟨G, 0, none⟩) n C) vals row) (hv : wr.ownsRow base bt 1 (.slice (some ⟨G, 0, none⟩) n C) n vals)
    (hk : vals[k]? = some x) (hB : Below wr.heap.size wr w6) (hg : w6.grownBy w7 x.ownBlock) (hx : OwnP w7 base u x' (row' k)) (hb : x'.ownBlock = x.ownBlock ∨ x'.ownBlock = some w6.heap.size) (hrow : ∀ i, i ≠ k → row' i = row i) :
    (w7.setCell ⟨G, k, none⟩ x').ownsRow base bt 1 (.slice (some ⟨G, 0, none⟩) n C) n (vals.set k x') ∧ RowsO (w7.setCell ⟨G, k, none⟩ x') base u (.slice (some ⟨G, 0, none⟩) n C) (vals.set k x') row' := by
  have hG : G < wr.heap.size := (World.ownsRow.lt hv G rfl).2
  have xo := h.out k x hk
  have v6 := owns_later hv hB
  have v7 : w7.ownsRow base bt 1 (.slice (some ⟨G, 0, none⟩) n C) n vals := World.ownsRow.kept v6 hg (by
    rcases xo with e | e
    · right; rw [e]; simp [Value.ownBlock]
    · right; exact fun h => e h.symm)
  obtain ⟨v8, g8⟩ := World.ownsRow.stored v7 k x'
  have x'o : x'.ownBlock = none ∨ x'.ownBlock ≠ some G := by
    rcases hb with e | e
    · rw [e]; exact xo
    · right; rw [e]; intro h; cases h; have := hB.size; omega
  have old : ∀ (i : Nat) (y : Value), vals[i]? = some y → ∀ k, y.ownBlock = some k → k < wr.heap.size := fun i y hy k hk => ((h.own i y hy).lt hk).2
  have sets : ∀ (i : Nat) (y : Value), (vals.set k x')[i]? = some y → (i = k ∧ y = x') ∨ (i ≠ k ∧ vals[i]? = some y) := fun i y hy => by
    by_cases e : i = k
    · subst e
      have hlt : i < vals.length := by
        rcases Nat.lt_or_ge i vals.length with h | h
        · exact h
        · rw [List.getElem?_eq_none h] at hk; cases hk
      rw [List.getElem?_set_self hlt] at hy
      exact Or.inl ⟨rfl, by cases hy; rfl⟩
    · rw [List.getElem?_set_ne (fun h => e h.symm)] at hy
      exact Or.inr ⟨e, hy⟩
  have x'd : ∀ (j : Nat) (z : Value), vals[j]? = some z → j ≠ k → x'.ownBlock = none ∨ x'.ownBlock ≠ z.ownBlock := fun j z hz hj => by
    rcases hb with e | e
    · rw [e]; exact h.diff k j x z hk hz (fun h => hj h.symm)
    · refine block_apart' (s := wr.heap.size) (fun q hq => ?_) (old j z hz)
      rw [e] at hq; cases hq; exact hB.size
  refine ⟨v8, ⟨fun i y hy => ?_, fun i j y z hy hz hij => ?_, fun i y hy => ?_⟩⟩
  · rcases sets i y hy with ⟨rfl, rfl⟩ | ⟨e, hy⟩
    · exact hx.kept g8 x'o
    · rw [hrow i e]
      exact (World.ownsRow.kept (World.ownsRow.kept (owns_later (h.own i y hy) hB) hg (h.diff i k y x hy hk e)) g8 (h.out i y hy))
  · rcases sets i y hy with ⟨ei, ey⟩ | ⟨ei, hy'⟩
    · rcases sets j z hz with ⟨ej, ez⟩ | ⟨ej, hz'⟩
      · exact absurd (ei.trans ej.symm) hij
      · rw [ey]; exact x'd j z hz' ej
    · rcases sets j z hz with ⟨ej, ez⟩ | ⟨ej, hz'⟩
      · rw [ez]
        have h1 := x'd i y hy' ei
        cases hyo : y.ownBlock with
        | none => exact Or.inl rfl
        | some q =>
          right
          rcases h1 with h1 | h1
          · rw [h1]; simp
          · rw [hyo] at h1; exact fun h => h1 h.symm
      · exact h.diff i j y z hy' hz' hij
  · rcases sets i y hy with ⟨rfl, rfl⟩ | ⟨e, hy⟩
    · exact x'o
    · exact h.out i y hy
theorem RowsO.outer {wr w6 w7 : World} {base u bt G n C k : Nat} {x : Value} {vals : List Value} {row : Nat → List UInt8} (h : RowsO wr base u (.slice (some ⟨G, 0, none⟩) n C) vals row) (hv : wr.ownsRow base bt 1 (.slice (some ⟨G, 0, none⟩) n C) n vals)
    (hk : vals[k]? = some x) (hkn : k < n) (hB : Below wr.heap.size wr w6) (hg : w6.grownBy w7 x.ownBlock) : w7.cell? ⟨G, k, none⟩ = some x ∧ w7.frozen? ⟨G, k, none⟩ = false := by
  have v7 : w7.ownsRow base bt 1 (.slice (some ⟨G, 0, none⟩) n C) n vals := World.ownsRow.kept (owns_later hv hB) hg (by
    rcases h.out k x hk with e | e
    · right; rw [e]; simp [Value.ownBlock]
    · right; exact fun h => e h.symm)
  exact ⟨by rw [World.ownsRow.cellAt v7 k (by omega), hk], World.ownsRow.frozenAt v7 k⟩
theorem Rd.grown {w w' : World} {v : Value} {p : List UInt8} {G : Nat} (h : Rd w v p) (hg : w.grownBy w' (some G)) (ha : Apart G v) : Rd w' v p := by
  rcases h with h | ⟨b, off, cap, h1, h2, h3, h4, h5, h6⟩
  · exact Or.inl h
  · have hb : b ≠ G := by
      rcases ha _ _ _ h2 with e | e
      · exact absurd (List.length_eq_zero_iff.1 e) h1
      · exact e
    exact Or.inr ⟨b, off, cap, h1, h2, h3, h4, Nat.lt_of_lt_of_le h5 hg.size, fun i hi => (hg.cell_far ⟨b, off + i, none⟩ h5 (fun e => hb (by cases e; rfl))).trans (h6 i hi)⟩
end Go.Proofs.YtddnfhfangfgeaaGreat.Gf

